import PyProof.Rows.All
import Wide.All
import OpenK.AllK
import Wide.FinOn
import Lean
import PyProof.EqAt
import PyProof.EqKinds
import PyProof.TupleCall
import PyProof.Draws
import PyProof.EnumMake
import PyProof.EnumFor
import PyProof.TupleIter
import PyProof.P3Eq
import PyProof.EqLayable
import PyProof.ConsumeWalk
import PyProof.ZipIter
import KE.KDictOf
import PyProof.AttrMissHeap
import KE.KPairComp
import KE.KDictList
import KE.KIntText
import PyProof.StrWalks
import PyProof.SliceStr2
import PyProof.StrBlockI
import PyProof.SumAny
import PyProof.WalksMore
import KE.KRevIter
import PyProof.CollectIter
import PyProof.TupleOfGen
import PyProof.NsDelKeeps
import PySem.Challenge.RW_backhead_k09_counts
open Array renaming length_toList->iV,toList->lf,getElem?_toList->km
open Bool renaming false_ne_true->dZ,eq_iff_iff->gX,and_eq_true->fE,or_eq_true->ku,false_or->lZ
open Decidable renaming byContradiction->kQ
open False renaming elim->dO
open Int renaming toNat_natCast->gL,toNat_of_nonneg->mR,emod_nonneg->k3,emod_lt_of_pos->ng
open List renaming range->aG,mem_filter->eL,mem_range->bZ,filterMap_cons->jJ,mem_cons_self->bE,mem_cons_of_mem->bC,mem_cons->aW,mem_append->cA,mem_append_left->dJ,getElem?_eq_some_iff->aY,getElem_inj->fX,getElem?_set_self->dW,getElem?_set_ne->cW,mem_filterMap->ll,mem_append_right->cX,length_cons->cC,lookup->eZ,map_cons->aR,length_map->aM,append_nil->gF,nodup_cons->cF,of_mem_zip->jX,replicate->gI,length->jZ,length_take->fC,getElem?_append_right->fD,getElem?_replicate->j0,getElem?_append_left->eA,getElem?_map->bG,getElem?_take_of_lt->j3,mem_of_getElem?->bX,length_append->bQ,length_replicate->lB,size_toArray->bT,length_set->cG,reverse_cons->jb,length_singleton->dP,length_dropLast->lH,map_nil->je,lookup_cons->fR,forIn_cons->kr,all_eq_true->eC,mem_singleton->bN,find?_cons->cT,any_cons->fF,length_nil->jo,filter_cons->gM,length_filter_le->jq,length_range->cY,getElem?_range->fU,drop_eq_getElem_cons->kz,drop_length->kA,getElem?_eq_getElem->bH,append_assoc->mm,getD->eR,mem_iff_getElem->dH,getElem_mem->cS,mem_map->bK,length_eq_zero_iff->gN,zip_cons_cons->iF,zipWith->mu,getD_eq_getElem?_getD->bI,getElem?_set->kF,mem_erase_of_ne->mH,length_erase_of_mem->mJ,length_pos_of_mem->mK,getElem?_eq_none->kG,nodup_append->cZ,cons_append->mL,foldl_cons->gO,flatMap_cons->jy,foldl_append->hX,mem_flatMap->kH,dropLast_concat_getLast->kJ,getLast?_eq_some_getLast->kK,getElem?_of_mem->eG,take_add_one->jA,take_zero->mM,filter_eq_self->mN,ext_getElem?->mO,take_length->eH,range_succ->kM,filter_append->iJ,map_map->cN,map_congr_left->fJ,map_append->eI,flatMap_append->kP,map_const'->mP,nodup_range->hZ,getElem?_take->mQ,ext_getElem->ia,take_succ_eq_append_getElem->ib,sum_append->mS,length_reverse->kT,any_eq_true->iM,idxOf_lt_length_of_mem->mZ,getElem_idxOf->m3,getElem_map->dQ,pairwise_iff_getElem->m4,take_append_of_le_length->m6,getElem_take->m8,range'->cL,range'_succ->iN,range_eq_range'->kW,mem_iff_getElem?->iO,find?_eq_none->iP,set->iQ,getElem_range->ic,prefix_refl->ni,sum_cons->cU,map->iU,find?->nk,map_set->k5,take_of_length_le->nt
open List.Nodup renaming idxOf_getElem->m7
open List.Pairwise renaming filter->kZ
open Nat renaming lt_of_lt_of_le->cD,lt_irrefl->cI,ne_of_lt->bO,le_trans->bL,le_of_lt->gQ,ne_of_gt->jP,le_refl->aP,zero_le->cR,le_of_eq->eN,lt_succ_self->gE,le_succ->gG,lt_of_le_of_lt->eB,lt_succ_of_lt->g6,succ_ne_self->lY,lt_trans->eD,add_comm->jv,not_lt_zero->jz,zero_add->gP,sub_self->kL,succ_le_succ->kO,lt_trichotomy->kU,lt_or_ge->fV,le_antisymm->mY,le_add_right->m5,add_zero->kY,add_le_add->na,mod_lt->nc,add_mul->iR,mul_le_mul_right->iS,mul_comm->nh,mul_le_mul->jD,strongRecOn->iT,mul_assoc->nj,mul_le_mul_left->k4,pow_le_pow_right->jE,succ_mul->nq,pow_succ->nr
open Ne renaming symm->aT
open Option renaming isSome_iff_exists->lA,map_some->cP,bind_some->bF,isSome_map->l6,map_eq_some_iff->eE,bind_eq_some_iff->kR,getD_some->eS,or->m9,map_eq_none_iff->kX
open Option.some renaming inj->cV,injEq->lJ
open Prod renaming fst->bA,snd->dG
open PyProof.Rows renaming IsTup->fL,AllBare->eV,Call_->im,callWith_type1->gW,envOfC->eP,callWith_builtin1->nL,subscriptTail->ke,subscriptTail_builtinR->lC,IntsAre->iB,boot_enumerate->lX,boot_tuple->fK,boot_isinstance->ie,boot_int->k6,boot_all->jF
open PyProof.Rows.IsTup renaming new->kb
open PySem renaming Str->aC,Value->aA,World->aO,Tok->dU,Program->aU,Addr->aB,Obj->aL,Heap->aN,sizeLine->aH,sysModules->eK,tupleKind->fW,Within->jG,mainGlobals->aV,builtinsNs->jI,bootBuiltins->eU,Around->bB,Shared->aD,Env->bS,Scope->bU,GenState->ig,Model->fY,storeName->jK,Expr->aF,model->aI,eval->aQ,isTrue->gR,Sem->cQ,Pos->aK,backTo->cJ,starEach->aX,Stmt->aS,wpAny_mono->dC,wpAny_Name->jL,wpAny_loadName_local->k9,wpAny_loadName_cell->la,CmpOp->gS,compareOp->cK,behindInMarks->fZ,wpAny_isTrue_Compare1->ld,wpAny_truthy_bool->gA,standAt->gT,holding->eM,wpAny_execs_nil->iW,wpAny_execs_cons->lg,swapsWith->cO,assign->dX,assignEach->dY,setItem->iX,wpAny_assign_Name->lh,wpAny_bind->aJ,wpAny_holding->gU,wpAny_standAt->jM,swapsWithSole->jN,swappedStores->jO,PassesOwn->iY,wpAny_passesOwn->gB,pyNext->gC,letOwnedTupleGo->iZ,wpAny_pure->bM,rawInt->ij,wpAny_pyNext_list_item->li,wpAny_pyNext_list_end->lj,wpAny_pyIter_list->ik,wpAny_pyIter_tuple->il,foldedSetIterable->fN,again->io,binaryOp->dD,intBits_le_64->ln,sizeLine_eq->eX,getMethod->i6,Result->i7,attributeBase->fA,recursionLimit->lw,cLine->bV,FuncData->cB,BindsTo->gY,codeAny_mono->i9,wpAny_Call_Name_kw->ja,backToKw->ir,keywordEach->iu,Keyword->gH,NameKind->fB,bindL->fP,bindC->fQ,cellsFrom->jY,mem_of_lookup->iw,concat_meets->j5,noFill_tuple_add->j6,seq_tuple_add->j7,seqIndex_of->kc,subscripted->iy,getItem->iz,wpAny_Call_method0_late->kf,evalArgs_none->kg,call_meets->jc,Params->jd,callerA->gK,call->kq,comprehension->lK,wpAny_newObj_type->iC,wpAny_callSpecial?_slot->jg,wpAny_call_entry->ji,field->g7,wpAny_field->g8,wpAny_seqItems->kw,wpAny_setField->lN,firstArgMember->lQ,Builtin->jj,IsEnum->jk,wpAny_pyNext_enum_itemD->lS,wpAny_letOwnedTupleGo_enum->lT,wpAny_attempt->kx,wpAny_isInstance->jm,isSubtype_stop->lW,wpAny_pyIter_enum->jn,valueAt->fS,stored->jp,atKey->fG,tupleKind_room_in1->jr,call_meetsIn->iE,typeLookup->g9,getitemInPython_of_ne->l8,wpAny_specialOf->js,letTemporaryGo->l9,wpAny_operating->ma,wpAny_letTemporaryGo->md,wpAny_Call_method->mj,PyData->fH,ReadsAll->ju,Reads->hV,typeLookup_type->kB,builtinLookup_eq_fast->kC,sub_AttributeError->mx,getattributeRaised->my,codeAny_builtin->iG,wpAny_typeOf->jw,plainId_quiet->iI,callType_codes->mz,meets_dict_items->mF,wpAny_pyIter_items->mG,intText?->iK,preSum->jC,boot_len->cE
open PySem.Around renaming under->jU,under_plainId->iH
open PySem.Builtin.Dict renaming pairItems->nO,selfAndRest->nP,updateFrom->mB
open PySem.Builtin.List renaming listTooLong->kj,listSameRef->mU,listExtendWith->mV,listLengthHint->nR
open PySem.Builtin.Range renaming rangeSize->nw
open PySem.Builtin.SmallTypes renaming nextOf->jf
open PySem.Builtin.Tuple renaming tupleCompareSizes->nN,tupleExact->mX
open PySem.Calls renaming Name_function_global->lc,spliced_nil->i8,spliced_cons->iq,callWith_builtin->gZ,evalArgs_plain->kh
open PySem.Code renaming frames->lx,isFrame->jV
open PySem.EqMixed renaming eq_bool_str->nD,eq_int_str->nF,eq_str_bool->nH,eq_str_int->nI
open PySem.EqNone renaming eq_none_none->ny,eq_none_bool->nz,eq_none_int->nA,eq_none_str->nB,eq_bool_none->nC,eq_int_none->nE,eq_str_none->nG
open PySem.F renaming slot_tuple_add->j8,entry_tuple_add->j9,args_tuple_add_2->ka,slot_list_append->dF,slot_list_extend->lF,slot_list_pop->lG,slot_tuple_iterator_next->jh,entry_tuple_iterator_next->lL,args_tuple_iterator_next_1->lM,args_object_init_2->lR,slot_enumerate_next->jl,entry_enumerate_next->lU,args_enumerate_next_1->lV,slot_dict_pop->l7,slot_dict_getitem->me,slot_dict_get->ky,entry_dict_get->mh,args_dict_get_3->mi,plainAttrs_dict->jt,slot_list_getattribute->kE,slot_dict_items->jx,type_dict_items->mC,entry_dict_items->mD,args_dict_items_1->mE,plain_list_iadd->mT,plain_tuple_new->mW,called_tuple->kS,plainAttrs_list->dB,type_list_append->dR
open PySem.Heap renaming lt_size->aZ,SameBut->ii,get?_push_of_some->bJ,get?_push_size->bW,size_push->eT,get?_update_self->lD,get?_update_other->lE
open PySem.Heap.DictOf renaming new->mf
open PySem.Heap.SameBut renaming update->lO
open PySem.Obj renaming mapSeq->iA,data_mapFields->lP
open PySem.PassesOwn renaming never->bY
open PySem.PyData renaming canLay0->eF,canLayAll0->fI,eqv->bR,depth->h9,depthAll->jB,eqvAll->iL
open PySem.SeqAt renaming shaped->cH,canLay_of_shaped->eQ
open PySem.SeqAt.EqAt renaming int_str->nu,str_int->nv
open PySem.SeqAt.Reads renaming unique->nM
open PySem.Str renaming empty->lq,ofString->iD
open PySem.Value renaming isInt->k7,isStrOf->k8
open PySem.W renaming instObj->fM,methodObj->jH,Frag->aE,lookIn->i0,plainGet->ip,hasDictIn->i5,findIn->cM,handedIn->lp,plainGet_of->jQ,isFn->gD,plainOver->jR,takerIn->jS,makesIn->jT,emptyDict->eY,keepIn->fO,kitOne->lr,kia_one->eO,kitx_list->lu,kitx_dict->lv,callWith_K->jW,methodCall_KW->ly,cellsFrom_some->lz,fnOf->gJ,codeIn->j4,OpenLaw->g5,WalkO->ko,nsIn->bD,mg_of->bP,mg_none_of->eJ
open PySem.W.KIN renaming call_text->nQ
open PySem.W.Looks renaming here->nJ
open PySem.W.WShape renaming has->lI
open PySem.Walks renaming list->mq
open PySem.Within renaming cons->nK
set_option Elab.async false
set_option linter.all false
set_option maxRecDepth 100000
set_option maxHeartbeats 4000000
namespace L2
open PySem PySem.Spec PyProof.Rows
abbrev Key:=Sum Int aC
def ZT:Key->aA->Bool
 | .inl k,v=>k7 k v
 | .inr x,v=>k8 x v
def zhX(w:aO):Key->Int
 | .inl k=>hashInt k
 | .inr x=>hashStr w x
theorem yH:∀{k:Key} {v:aA},ZT k v=true->(∃i t,k=Sum.inl i/\v=Value.int i t)\/(∃x t,k=Sum.inr x/\v=Value.str x t)
 | .inl i,v,h=>by
  obtain⟨t,e⟩:=Value.isInt_shape (k:=i) (v:=v) h
  exact .inl ⟨i,t,rfl,e⟩
 | .inr x,v,h=>by
  obtain⟨t,e⟩:=Value.isStrOf_shape (x:=x) (v:=v) h
  exact .inr ⟨x,t,rfl,e⟩
theorem zao(i:Int)(t:dU):ZT (.inl i) (.int i t)=true:=by simp[ZT,k7]
theorem zap(x:aC)(t:dU):ZT (.inr x) (.str x t)=true:=by simp[ZT,k8]
theorem ze1(a b:Int):decide ((Sum.inl a:Key)=Sum.inl b)=(a==b):=by
 by_cases e:a=b
 ·subst e;simp
 ·have h:¬(Sum.inl a:Key)=Sum.inl b:=λq=>e (Sum.inl.inj q)
  rw[decide_eq_false h]
  exact(beq_eq_false_iff_ne.mpr e).symm
theorem ze2(a b:aC):decide ((Sum.inr a:Key)=Sum.inr b)=decide (a=b):=by
 by_cases e:a=b
 ·subst e;simp
 ·have h:¬(Sum.inr a:Key)=Sum.inr b:=λq=>e (Sum.inr.inj q)
  rw[decide_eq_false h,decide_eq_false e]
theorem ze3(a:Int)(b:aC):decide ((Sum.inl a:Key)=Sum.inr b)=false:=decide_eq_false (λq=>nomatch q)
theorem ze4(a:aC)(b:Int):decide ((Sum.inr a:Key)=Sum.inl b)=false:=decide_eq_false (λq=>nomatch q)
def zG(prog:aU)(w:aO):PySem.KeyKind prog w Key where
 is:=ZT
 hash:=zhX w
 inj:=λv a b ha hb=>by
  rcases yH ha with⟨i,t,rfl,rfl⟩|⟨x,t,rfl,rfl⟩
  ·rcases yH hb with⟨j,u,rfl,e⟩|⟨y,u,rfl,e⟩
   ·injection e with e1 _;rw[e1]
   ·exact nomatch e
  ·rcases yH hb with⟨j,u,rfl,e⟩|⟨y,u,rfl,e⟩
   ·exact nomatch e
   ·injection e with e1 _;rw[e1]
 byValue:=λk v h=>by
  rcases yH h with⟨i,t,rfl,rfl⟩|⟨x,t,rfl,rfl⟩ <;>rfl
 pyHash:=λhv h=>by
  rcases yH hv with⟨i,t,rfl,rfl⟩|⟨x,t,rfl,rfl⟩
  ·exact wpAny_pyHash_int h
  ·exact wpAny_pyHash_str h
 eqBool:=λhu hv h=>by
  rcases yH hu with⟨i,t,rfl,rfl⟩|⟨x,t,rfl,rfl⟩
  ·rcases yH hv with⟨j,u,rfl,rfl⟩|⟨y,u,rfl,rfl⟩
   ·rw[ze1]at h;exact wpAny_eqBool_int h
   ·rw[ze3]at h;exact nu i t y u _ _ _ _ h
  ·rcases yH hv with⟨j,u,rfl,rfl⟩|⟨y,u,rfl,rfl⟩
   ·rw[ze4]at h;exact nv x t j u _ _ _ _ h
   ·rw[ze2]at h;exact wpAny_eqBool_str h
 «strs»:=λk x t v h=>by
  rcases yH h with⟨i,u,rfl,e⟩|⟨y,u,rfl,e⟩
  ·exact nomatch e
  ·injection e with e1 _
   subst e1
   cases v <;>rfl
theorem Qc(prog:aU)(w:aO)(i:Int)(t:dU):(zG prog w).is (.inl i) (.int i t)=true:=zao i t
theorem Qd(prog:aU)(w:aO)(x:aC)(t:dU):(zG prog w).is (.inr x) (.str x t)=true:=zap x t
end L2
namespace L2
open PySem PySem.Spec PyProof.Rows
inductive V where
 | non|bl (b:Bool)|int (i:Int)|str (x:aC)|byt (b:Array UInt8)|flt (b:UInt64)|ref (a:aB)|ty (n:String)
 deriving DecidableEq
def zz:V->aA->Prop
 | .non,u=>u=Value.none
 | .bl b,u=>u=Value.bool b
 | .int i,u=>∃t,u=Value.int i t
 | .str x,u=>∃t,u=Value.str x t
 | .byt b,u=>∃t,u=Value.bytes b t
 | .flt b,u=>∃t,u=Value.float b t
 | .ref a,u=>u=Value.ref a
 | .ty n,u=>u=Value.type n
abbrev zC:List V->List aA->Prop:=Paired zz
theorem zC.length(r:zC xs us):xs.length=us.length:=Paired.length r
theorem zC.get:∀{xs:List V} {us:List aA} {i:Nat} {x:V},zC xs us->xs[i]?=some x->∃u,us[i]?=some u/\zz x u
 | _,_,_,_,.nil,e=>by simp at e
 | _,_,0,_,.cons r _,e=>by simp at e;subst e;exact⟨_,rfl,r⟩
 | _,_,i+1,x,.cons _ t,e=>by
  obtain⟨u,h1,h2⟩:=zC.get (i:=i) (x:=x) t (by simpa using e)
  exact⟨u,by simpa using h1,h2⟩
theorem zC.set(r:zz x u):∀{xs:List V} {us:List aA} (i:Nat),zC xs us->zC (xs.set i x) (us.set i u)
 | _,_,_,.nil=>.nil
 | _,_,0,.cons _ t=>.cons r t
 | _,_,i+1,.cons q t=>.cons q (zC.set r i t)
theorem zC.append:∀{xs ys:List V} {us ws:List aA},zC xs us->zC ys ws->zC (xs++ys) (us++ws)
 | _,_,_,_,.nil,s=>s
 | _,_,_,_,.cons r t,s=>.cons r (zC.append t s)
def xH:Option V->Option aA->Prop
 | some v,some u=>zz v u
 | none,none=>True
 | _,_=>False
def KV{κ:Type}:List (κ×V)->List (κ×aA)->Prop:=Paired λ(p:κ×V) (q:κ×aA)=>p.1=q.1/\zz p.2 q.2
def kV:Key->V
 | .inl i=>.int i
 | .inr x=>.str x
inductive HO where
 | lst (xs:List V)
 | tup (xs:List V)
 | dK (kvs:List (Key×V))|dT (kvs:List (List Key×V))
 | set (S:Int->Bool) (n:Nat)
 | ins (C dx:aB) (fs:List (aC×V))
 | own (x:aB)
 | xd (fs:List (aC×V))
 | met (f x:aB)
 | rng (lo hi:Int)
 | frz (o:aL) (u:HO)
 | tbl (ps:Array aA)
 | ext (φ:aN->Prop)
abbrev Hp:=aB->Option HO
def upd(H:Hp)(a:aB)(o:HO):Hp:=λb=>if b=a then some o else H b
theorem zj:upd H a o a=some o:=by unfold upd;rw[if_pos rfl]
theorem ze(h:b≠a):upd H a o b=H b:=by unfold upd;rw[if_neg h]
theorem Qo:upd (upd H a o) a u=upd H a u:=by
 funext b;unfold upd;split <;>rfl
theorem v4{H:Hp}{a b:aB}{o u:HO}(h:H a=some o)(h':H b=some u)(d:o≠u):a≠b:=by
 intro e;subst e;rw[h]at h';exact d (cV h')
theorem zq{H:Hp}{a b:aB}{o:HO}(h:H a=some o)(h':H b=none):a≠b:=by
 intro e;subst e;rw[h]at h';cases h'
section
variable (P:aU) (w:aO)
def yf(H:Hp)(h:aN)(a:aB):HO->Prop
 | .lst xs=>xs.length<=aH/\∃(its:List aA) (n:Nat),zC xs its/\h.get? a=some {cls:=.type "list",data:=.seq its.toArray n}
 | .tup xs=>xs.length<=aH/\∃its:List aA,zC xs its/\fL h a its.toArray
 | .dK kvs=>kvs.length<=aH/\(a==eK)=false/\∃vs,KV kvs vs/\h.DictOf (zG P w) a vs
 | .dT kvs=>kvs.length<=aH/\(a==eK)=false/\∃xs:List (List Key×aB×aA),
  Paired (λ(p:List Key×V) (q:List Key×aB×aA)=>p.1=q.1/\H q.2.1=some (.tup (p.1.map kV))/\zz p.2 q.2.2) kvs xs/\
  ∃o es ep,h.get? a=some o/\o.ExactDict/\o.data=.dict es ep/\es.toList=xs.map (entryOfKey (fW (zG P w)))/\(xs.map (·.1)).Nodup
 | .set S n=>h.SetOf (intKind P w) a S n
 | .ins C dx fs=>H dx=some (.own a)/\fs.length<=1000/\dx≠a/\h.get? a=some (fM C dx)/\
  ∃mA,h.Ns1 dx mA/\(∀f,xH (fs.lookup f) (mA f))/\jG mA (fs.map (·.1))
 | .own _=>∃o,h.get? a=some o
 | .xd fs=>∃mA,h.Ns1 a mA/\∀f,xH (fs.lookup f) (mA f)
 | .rng lo hi=>∃t u v,h.get? a=some {cls:=.type "range",data:=.fields #[.int lo t,.int hi u,.int 1 v]}
 | .frz o u=>h.get? a=some o/\yf H h a u
 | .tbl ps=>h.get? a=some {cls:=.none,data:=.fields ps}
 | .met f x=>h.get? a=some (jH (.ref f) (.ref x))
 | .ext φ=>φ h/\(∃o,h.get? a=some o)/\∀h1 h2:aN,φ h1->(∀o,h1.get? a=some o->h2.get? a=some o)->φ h2
def HOk(H:Hp)(h:aN):Prop:=∀a o,H a=some o->yf P w H h a o
end
section
variable {P:aU} {w:aO} {H H':Hp} {h h':aN} {a:aB} {o:HO}
theorem yf.lt(x:yf P w H h a o):a<h.objs.size:=by
 cases o with
 | lst xs=>obtain⟨_,_,_,_,e⟩:=x;exact aZ e
 | tup xs=>obtain⟨_,_,_,p⟩:=x;exact p.lt
 | dK kvs=>obtain⟨_,_,_,_,o,_,_,e,_⟩:=x;exact aZ e
 | dT kvs=>obtain⟨_,_,_,_,o,_,_,e,_⟩:=x;exact aZ e
 | set S n=>obtain⟨o,_,_,_,e,_⟩:=x;exact aZ e
 | ins C dx fs=>obtain⟨_,_,_,e,_⟩:=x;exact aZ e
 | own y=>obtain⟨_,e⟩:=x;exact aZ e
 | xd fs=>obtain⟨_,⟨_,_,_,e,_⟩,_⟩:=x;exact aZ e
 | rng lo hi=>obtain⟨_,_,_,e⟩:=x;exact aZ e
 | frz j u=>obtain⟨e,_⟩:=x;exact aZ e
 | tbl ps=>exact aZ (show h.get? a=some _ from x)
 | met f y=>exact aZ (show h.get? a=some _ from x)
 | ext φ=>obtain⟨_,⟨_,e⟩,_⟩:=x;exact aZ e
theorem Paired.mapP{α β:Type}{F G:α->β->Prop}:∀{j:List α} {q:List β},Paired F j q->(∀a b,F a b->G a b)->Paired G j q
 | _,_,.nil,_=>.nil
 | _,_,.cons r t,f=>.cons (f _ _ r) (Paired.mapP t f)
theorem yf.stay(x:yf P w H h a o)(k:∀b u,(b=a\/H b=some (.own a))->h.get? b=some u->h'.get? b=some u) 
  (ho:∀b,H b=some (.own a)->H' b=some (.own a)) (O:∀b xs,H b=some (.tup xs)->H' b=some (.tup xs)):yf P w H' h' a o:=by
 induction o with
 | lst xs=>obtain⟨z,its,n,r,e⟩:=x;exact⟨z,its,n,r,k _ _ (.inl rfl) e⟩
 | tup xs=>obtain⟨z,its,r,j,e,c⟩:=x;exact⟨z,its,r,j,k _ _ (.inl rfl) e,c⟩
 | dK kvs=>obtain⟨z,y,vs,r,j,es,ep,e,c⟩:=x;exact⟨z,y,vs,r,j,es,ep,k _ _ (.inl rfl) e,c⟩
 | dT kvs=>
  obtain⟨z,y,xs,r,j,es,ep,e,c⟩:=x
  exact⟨z,y,xs,Paired.mapP r λp q z=>⟨z.1,O _ _ z.2.1,z.2.2⟩,j,es,ep,k _ _ (.inl rfl) e,c⟩
 | set S n=>obtain⟨j,es,ep,t,e,c⟩:=x;exact⟨j,es,ep,t,k _ _ (.inl rfl) e,c⟩
 | ins C dx fs=>
  obtain⟨d,z,ne,e,mA,⟨J,es,ep,R,c⟩,r⟩:=x
  exact⟨ho _ d,z,ne,k _ _ (.inl rfl) e,mA,⟨J,es,ep,k _ _ (.inr d) R,c⟩,r⟩
 | own y=>obtain⟨j,e⟩:=x;exact⟨j,k _ _ (.inl rfl) e⟩
 | xd fs=>obtain⟨mA,⟨J,es,ep,e,c⟩,r⟩:=x;exact⟨mA,⟨J,es,ep,k _ _ (.inl rfl) e,c⟩,r⟩
 | rng lo hi=>obtain⟨t,u,v,e⟩:=x;exact⟨t,u,v,k _ _ (.inl rfl) e⟩
 | frz j u U=>obtain⟨e,q⟩:=x;exact⟨k _ _ (.inl rfl) e,U q⟩
 | tbl ps=>
  have e:h.get? a=some {cls:=.none,data:=.fields ps}:=x
  show h'.get? a=some {cls:=.none,data:=.fields ps}
  exact k a _ (.inl rfl) e
 | met f y=>
  have e:h.get? a=some (jH (.ref f) (.ref y)):=x
  show h'.get? a=some (jH (.ref f) (.ref y))
  exact k a _ (.inl rfl) e
 | ext φ=>obtain⟨p,⟨o,e⟩,st⟩:=x;exact⟨st _ _ p λo q=>k _ _ (.inl rfl) q,⟨o,k _ _ (.inl rfl) e⟩,st⟩
theorem HOk.lt(x:HOk P w H h)(e:H a=some o):a<h.objs.size:=(x a o e).lt
theorem HOk.fresh(x:HOk P w H h)(e:h.objs.size<=a):H a=none:=by
 cases q:H a with
 | none=>rfl
 | some u=>exact absurd (cD (x.lt q) e) (cI _)
theorem HOk.kept(x:HOk P w H h)(k:∀b u,h.get? b=some u->h'.get? b=some u):HOk P w H h':=λa o e=>
 (x a o e).stay (λb u _ q=>k b u q) (λ_ q=>q) λ_ _ q=>q
theorem HOk.laid(x:HOk P w H h)(k:∀b u,h.get? b=some u->h'.get? b=some u)(z:h.objs.size<=a)(new:yf P w (upd H a o) h' a o):HOk P w (upd H a o) h':=λb u e=>by
 have hn:=x.fresh z
 by_cases j:b=a
 ·subst j;rw[zj]at e;cases e;exact new
 ·rw[ze j]at e
  exact(x b u e).stay (λc v _ q=>k c v q) (λc q=>by rw[ze (zq q hn)];exact q) λc xs q=>by rw[ze (zq q hn)];exact q
end
def Rd(H:Hp)(a:aB)(u:HO):Prop:=H a=some u\/∃o,H a=some (.frz o u)
theorem Rd.ok(r:Rd H a u)(x:HOk P w H h):yf P w H h a u:=by
 rcases r with r|⟨o,r⟩
 ·exact x a u r
 ·obtain⟨_,q⟩:=x a _ r
  exact q
def Mut:Option HO->Prop
 | some (.lst _)=>True
 | some (.dK _)=>True
 | some (.dT _)=>True
 | some (.set _ _)=>True
 | some (.ins _ _ _)=>True
 | some (.ext _)=>True
 | _=>False
section
variable {P:aU} {w:aO} {H:Hp} {h h':aN} {x e:aB} {o':HO}
theorem HOk.write(ok:HOk P w H h)(R:Mut (H x))(he:e=x\/H e=some (.own x))(k:∀b u,b≠e->h.get? b=some u->h'.get? b=some u)(Z:∃u,h'.get? e=some u) 
  (new:yf P w (upd H x o') h' x o'):HOk P w (upd H x o') h':=λb u q=>by
 have J:∀c y,H c=some (.own y)->c≠x:=λc y r z=>by subst z;rw[r]at R;exact R
 have O:∀c xs,H c=some (.tup xs)->c≠x:=λc xs r z=>by subst z;rw[r]at R;exact R
 by_cases U:b=x
 ·subst U;rw[zj]at q;cases q;exact new
 ·rw[ze U]at q
  by_cases j:b=e
  ·have q':H b=some (.own x):=by
    rcases he with z|z
    ·exact absurd (j.trans z) U
    ·rw[j];exact z
   rw[q]at q';cases q'
   obtain⟨v,hv⟩:=Z
   exact⟨v,by rw[j];exact hv⟩
  ·refine(ok b u q).stay (λc v Y r=>k c v ?_ r) (λc r=>by rw[ze (J c b r)];exact r) λc xs r=>by rw[ze (O c xs r)];exact r
   rcases Y with rfl|Y
   ·exact j
   ·rintro rfl
    rcases he with z|z
    ·exact J c b Y z
    ·rw[Y]at z;cases z;exact U rfl
end
structure Un (fs ex:List aB) (H H':Hp) (h h':aN):Prop where
 keep:∀b o,h.get? b=some o->H b=none->b∉fs->b∉ex->h'.get? b=some o
 slot:∀b o,h.get? b=some o->H b=none->b∈fs->b∉ex->∃sl,h'.get? b=some {o with slots:=sl}
 free:∀b o,h.get? b=some o->H b=none->b∉ex->H' b=none
 there:∀b o,h.get? b=some o->b∉ex->∃o',h'.get? b=some o'
 tups:∀b xs,H b=some (.tup xs)->H' b=some (.tup xs)
 frzs:∀b o u,H b=some (.frz o u)->H' b=some (.frz o u)
 tbls:∀b ps,H b=some (.tbl ps)->∃more,H' b=some (.tbl (ps++more))
section
variable {fs fs' ex ex':List aB} {H H1 H2:Hp} {h h1 h2 h':aN} {a x e:aB} {o:HO}
theorem Un.any(u:Un fs ex H H1 h h1)(q:h.get? b=some j)(n:H b=none)(z:b∉ex):∃O,h1.get? b=some {j with slots:=O}:=by
 by_cases J:b∈fs
 ·exact u.slot b j q n J z
 ·exact⟨j.slots,u.keep b j q n J z⟩
theorem Un.kept(k:∀b u,h.get? b=some u->h'.get? b=some u):Un fs ex H H h h' :=
 ⟨λb j q _ _ _=>k b j q,λb j q _ _ _=>⟨j.slots,k b j q⟩,λ_ _ _ n _=>n,λb j q _=>⟨j,k b j q⟩,λ_ _ q=>q,λ_ _ _ q=>q,λ_ ps q=>⟨#[],by rw[q];simp⟩⟩
theorem Un.refl:Un fs ex H H h h:=Un.kept λ_ _ q=>q
theorem Un.laid(k:∀b u,h.get? b=some u->h'.get? b=some u)(hp:h.objs.size<=a)(hn:H a=none):Un fs ex H (upd H a o) h h' where
 keep:=λb u q _ _ _=>k b u q
 slot:=λb u q _ _ _=>⟨u.slots,k b u q⟩
 free:=λb u q n _=>by rw[ze (bO (cD (aZ q) hp))];exact n
 there:=λb u q _=>⟨u,k b u q⟩
 tups:=λb xs q=>by rw[ze (zq q hn)];exact q
 frzs:=λb u xs q=>by rw[ze (zq q hn)];exact q
 tbls:=λb ps q=>⟨#[],by rw[ze (zq q hn),q];simp⟩
theorem Un.write(J:Mut (H x))(Z:e=x\/H e=some (.own x))(k:∀b u,b≠e->h.get? b=some u->h'.get? b=some u)(O:∃u,h'.get? e=some u):Un fs ex H (upd H x o) h h':=by
 have U:∀b,H b=none->b≠x:=λb n z=>by subst z;rw[n]at J;exact J
 have Y:∀b,H b=none->b≠e:=λb n z=>by
  subst z
  rcases Z with r|r
  ·exact U b n r
  ·rw[n]at r;cases r
 have R:∀b u,H b=some u->¬Mut (some u)->b≠x:=λb u q nm z=>by subst z;rw[q]at J;exact nm J
 refine⟨λb u q n _ _=>k b u (Y b n) q,λb u q n _ _=>⟨u.slots,k b u (Y b n) q⟩,λb u q n _=>by rw[ze (U b n)];exact n,λb u q _=>?_,
  λb xs q=>by rw[ze (R b _ q λz=>z)];exact q,λb u xs q=>by rw[ze (R b _ q λz=>z)];exact q,λb ps q=>⟨#[],by rw[ze (R b _ q λz=>z),q];simp⟩⟩
 by_cases j:b=e
 ·subst j;exact O
 ·exact⟨u,k b u j q⟩
end
def trk(h:aN)(H:Hp):List aB:=(aG h.objs.size).filter λa=>(H a).isSome
def uP(h:aN)(H:Hp):aN:=PySem.W.hideAll h (trk h H)
theorem zaq(h:aN)(H:Hp):(uP h H).objs.size=h.objs.size:=PySem.W.hideAll_size _ _
theorem zbL(e:h.get? b=some o)(n:H b=none):(uP h H).get? b=some o :=
 PySem.W.hideAll_get _ e λj=>by
  have q:(H b).isSome=true:=(eL.mp j).2
  rw[n]at q;simp at q
theorem zd1(e:(uP h H).get? b=some o):h.get? b=some o/\H b=none:=by
 have j:h.get? b=some o:=PySem.W.of_hideAll (trk h H) e
 refine⟨j,?_⟩
 cases q:H b with
 | none=>rfl
 | some x=>
  have J:b∈trk h H:=eL.mpr ⟨bZ.mpr (aZ j),by simp[q]⟩
  have z:(uP h H).get? b=none:=PySem.W.hideAll_none (trk h H) J
  rw[z]at e;cases e
end L2
namespace L2
open PySem PySem.Spec PyProof.Rows
structure Mod (K:aE) (mg:aC->Option aA) (base:aN):Prop where
 kin:K.In base
 glob:base.Ns aV mg
 blt:∃mb,base.Ns jI mb/\∀x:aC,x≠"__name__"->mb x=eU x
 nolimit:base.NoLimit
structure Cx where
 prog:aU
 w:aO
 K:aE
 mg:aC->Option aA
 base:aN
 A:bB
 N:List aC
 s₀:aD
 H₀:Hp
 env:bS
 outer:List bS
 stack:List bS
 ex:List aB
 fn:aC->Bool
 calm:Bool
 pn:List (aB×aL)
 xe:aA->aD->Prop
def frs(l:List bS):List aB:=l.filterMap (·.frame)
abbrev Cx.fs(X:Cx):List aB:=frs X.outer
def Vis(j:bU)(x:aC):Prop:=j.names.lookup x=some .local\/j.names.lookup x=some .cell\/j.names.lookup x=some .free
def Loc(j:bU)(x:aC):Prop:=j.names.lookup x=some .local\/j.names.lookup x=some .cell
def zhY(env:bS)(h:aN)(m:aC->Option aA)(x:aC)(u:aA):Prop :=
 (env.kindOf x=some .local/\m x=some u)\/((env.kindOf x=some .cell\/env.kindOf x=some .free)/\∃c,env.cells.lookup x=some c/\h.IsCell c (some u))
structure Cx.Ok (X:Cx):Prop where
 mod:Mod X.K X.mg X.base
 kind:X.env.scope.kind=.function
 glob:X.env.globals=aV
 blt:X.env.builtins=jI
 above:X.s₀.heap.objs.size<=X.env.locals
 inj:∀x y c,X.env.cells.lookup x=some c->X.env.cells.lookup y=some c->x=y
 has:∀x,(X.env.kindOf x=some .cell\/X.env.kindOf x=some .free)->∃c,X.env.cells.lookup x=some c
 cab:∀x c,X.fn x=true->X.env.cells.lookup x=some c->X.s₀.heap.objs.size<=c
 hd:X.calm=true->X.A.handled=none
 frames:X.A.frames=some X.stack
 stk:X.stack=X.outer\/(X.stack=X.env::X.outer/\X.env.frame=some X.env.locals)
 exf:∀b∈X.ex,b≠X.env.locals/\∀x c,X.env.cells.lookup x=some c->c≠b
 bs:∀b o,X.base.get? b=some o->X.s₀.heap.get? b=some o/\X.H₀ b=none
 bsz:X.base.objs.size<=X.s₀.heap.objs.size
 noex:∀b o,X.base.get? b=some o->b∉X.ex
 exfs:∀b∈X.ex,b∉X.fs
 funs:X.s₀.heap.FunFrames X.base X.outer
 frf:∀b∈X.fs,X.H₀ b=none
structure Inv (X:Cx) (pins:List (aB×aL)) (σ:List (Option V)) (H:Hp) (s:aD):Prop where
 ok:X.Ok
 os:s.os=X.s₀.os
 bare:eV s.gens
 base:Un X.fs X.ex X.H₀ H X.s₀.heap s.heap
 loc:∃m,s.heap.Ns X.env.locals m/\∀(i:Nat) (x:aC) (v:V),X.N[i]?=some x->σ[i]?=some (some v)->Vis X.env.scope x->∃u,zz v u/\zhY X.env s.heap m x u
 cell:∀x c,X.env.cells.lookup x=some c->∃v,s.heap.IsCell c v
 free:H X.env.locals=none
 freeC:∀x c,X.env.cells.lookup x=some c->H c=none
 pin:∀p∈X.pn++pins,s.heap.get? p.1=some p.2/\H p.1=none/\p.1≠X.env.locals/\p.1∉X.fs/\∀v,p.2.data≠.cell v
 hok:HOk X.prog X.w H s.heap
 len:σ.length=X.N.length
section
variable {X:Cx} {pins:List (aB×aL)} {σ:List (Option V)} {H H':Hp} {s:aD} {h':aN}
theorem Cx.Ok.nofr(ok:X.Ok)(e:X.base.get? b=some o):b∉X.fs:=λj=>by
 have:=(ok.funs.mem j).1
 rw[e]at this;cases this
theorem Inv.bs(I:Inv X pins σ H s):∀b o,X.base.get? b=some o->s.heap.get? b=some o/\H b=none:=λb o e=>
 ⟨I.base.keep b o (I.ok.bs b o e).1 (I.ok.bs b o e).2 (I.ok.nofr e) (I.ok.noex b o e),I.base.free b o (I.ok.bs b o e).1 (I.ok.bs b o e).2 (I.ok.noex b o e)⟩
theorem Inv.bk(I:Inv X pins σ H s):∀b o,X.base.get? b=some o->s.heap.get? b=some o:=λb o e=>(I.bs b o e).1
theorem Inv.mod(I:Inv X pins σ H s):Mod X.K X.mg X.base:=I.ok.mod
theorem Inv.kIn(I:Inv X pins σ H s):X.K.In s.heap:=I.ok.mod.kin.keeps I.bk
theorem Inv.lt(I:Inv X pins σ H s):X.env.locals<s.heap.objs.size:=(by obtain⟨_,hn,_⟩:=I.loc;exact hn.lt)
theorem Inv.sz(I:Inv X pins σ H s):X.s₀.heap.objs.size<=s.heap.objs.size:=bL I.ok.above (gQ I.lt)
theorem Inv.nofs(I:Inv X pins σ H s)(h:s.heap.objs.size<=a):a∉X.fs:=λj=>by
 obtain⟨_,o,ho,_⟩:=I.ok.funs.mem j
 exact absurd (cD (aZ ho) (bL I.sz h)) (cI _)
theorem Inv.cne(I:Inv X pins σ H s):∀x c,X.env.cells.lookup x=some c->c≠X.env.locals:=λx c e z=>by
 obtain⟨v,o,ho,J⟩:=I.cell x c e
 obtain⟨m,⟨o',es,ep,j,q,_⟩,_⟩:=I.loc
 rw[z,j]at ho;cases ho;rw[q]at J;cases J
theorem Inv.funs(I:Inv X pins σ H s):s.heap.FunFrames X.base X.outer:=by
 have all:∀(l:List bS),(∀b∈frs l,b∈X.fs)->X.s₀.heap.FunFrames X.base l->s.heap.FunFrames X.base l:=by
  intro l
  induction l with
  | nil=>intro _ _;trivial
  | cons env r R=>
   intro O U
   obtain⟨Y,⟨L,o,j,hn,ho,Z⟩,hr⟩:=U
   have q:L∈X.fs:=O L (by unfold frs;rw[jJ,j];exact bE)
   obtain⟨sl,e⟩:=I.base.slot L o ho (I.ok.frf L q) q λz=>I.ok.exfs L z q
   exact⟨Y,⟨L,_,j,hn,e,Z⟩,R (λb J=>O b (by unfold frs;rw[jJ,j];exact bC _ J)) hr⟩
 exact all X.outer (λ_ J=>J) I.ok.funs
theorem Inv.stack(I:Inv X pins σ H s):s.heap.FunFrames X.base X.stack:=by
 rcases I.ok.stk with e|⟨e,j⟩
 ·rw[e];exact I.funs
 ·rw[e]
  obtain⟨m,hn,_⟩:=I.loc
  refine .cons (by rw[I.ok.kind];decide) j hn ?_ I.funs
  exact Heap.get?_none_of_le (bL I.ok.bsz I.ok.above)
theorem Inv.stkSub(I:Inv X pins σ H s):∀b∈frs X.stack,b∈X.env.locals::X.fs:=λb j=>by
 rcases I.ok.stk with e|⟨e,q⟩
 ·rw[e]at j;exact bC _ j
 ·rw[e]at j
  unfold frs at j
  rw[jJ,q]at j
  exact j
theorem Inv.stkFree(I:Inv X pins σ H s):∀b∈frs X.stack,H b=none:=λb j=>by
 rcases aW.mp (I.stkSub b j)with e|j
 ·rw[e];exact I.free
 ·obtain⟨_,o,ho,_⟩:=I.ok.funs.mem j
  exact I.base.free b o ho (I.ok.frf b j) λz=>I.ok.exfs b z j
theorem Inv.step{g':Array ig}{t':Nat}{d':Drawn}{ch:List aB}(I:Inv X pins σ H s) 
  (J:∀b∈ch,(b∈X.ex\/X.s₀.heap.objs.size<=b)/\b≠X.env.locals/\(∀x c,X.env.cells.lookup x=some c->c≠b)/\∀p∈X.pn++pins,p.1≠b)
  (O:∀b o,b≠X.env.locals->b∉X.fs->b∉ch->s.heap.get? b=some o->H b=none->h'.get? b=some o)
  (aa:∀b o,b≠X.env.locals->b∈X.fs->b∉ch->s.heap.get? b=some o->H b=none->∃sl,h'.get? b=some {o with slots:=sl}) (free:∀b o,b∉ch->s.heap.get? b=some o->H b=none->H' b=none)
  (ab:∀b o,b∉ch->s.heap.get? b=some o->∃o',h'.get? b=some o')
  (ac:∀b xs,H b=some (.tup xs)->H' b=some (.tup xs)) (ae:∀b o u,H b=some (.frz o u)->H' b=some (.frz o u)) (af:∀b ps,H b=some (.tbl ps)->∃ag,H' b=some (.tbl (ps++ag)))
  (ns:∀m,s.heap.Ns X.env.locals m->h'.Ns X.env.locals m) (aj:HOk X.prog X.w H' h') (hg:eV g') :
  Inv X pins σ H' {s with heap:=h',gens:=g',drawn:=d',toks:=t'}:=by
 have ah:∀b o,X.s₀.heap.get? b=some o->b≠X.env.locals:=λb o e=>bO (cD (aZ e) I.ok.above)
 have Y:∀b o,X.s₀.heap.get? b=some o->b∉X.ex->b∉ch:=λb o e j hb=>by
  rcases(J b hb).1 with z|z
  ·exact j z
  ·exact absurd (cD (aZ e) z) (cI _)
 have R:∀x c,X.env.cells.lookup x=some c->∀v,s.heap.IsCell c v->h'.IsCell c v:=λx c e v ai=>by
  obtain⟨o,ho,hd⟩:=ai
  have U:c∉ch:=λz=>(J c z).2.2.1 x c e rfl
  by_cases hc:c∈X.fs
  ·obtain⟨sl,q⟩:=aa c o (I.cne x c e) hc U ho (I.freeC x c e)
   exact⟨_,q,hd⟩
  ·exact⟨o,O c o (I.cne x c e) hc U ho (I.freeC x c e),hd⟩
 refine⟨I.ok,I.os,hg,⟨λb o e n hb j=>?_,λb o e n hb j=>?_,λb o e n j=>?_,λb o e j=>?_,λb xs e=>ac b xs (I.base.tups b xs e),λb o xs e=>ae b o xs (I.base.frzs b o xs e),λb ps e=>?_⟩,?_,λx c e=>?_,?_,λx c e=>?_,λp hp=>?_,aj,I.len⟩
 ·exact O b o (ah b o e) hb (Y b o e j) (I.base.keep b o e n hb j) (I.base.free b o e n j)
 ·obtain⟨sl,Z⟩:=I.base.slot b o e n hb j
  obtain⟨ak,e2⟩:=aa b _ (ah b o e) hb (Y b o e j) Z (I.base.free b o e n j)
  exact⟨ak,e2⟩
 ·obtain⟨o',Z⟩:=I.base.there b o e j
  exact free b o' (Y b o e j) Z (I.base.free b o e n j)
 ·obtain⟨o',Z⟩:=I.base.there b o e j
  exact ab b o' (Y b o e j) Z
 ·obtain⟨m1,Z⟩:=I.base.tbls b ps e
  obtain⟨m2,e2⟩:=af b _ Z
  exact⟨m1++m2,by rw[e2,Array.append_assoc]⟩
 ·obtain⟨m,hn,hl⟩:=I.loc
  refine⟨m,ns m hn,λi x v Z e2 e3=>?_⟩
  obtain⟨u,r,l⟩:=hl i x v Z e2 e3
  refine⟨u,r,?_⟩
  rcases l with l|⟨k,c,e,z⟩
  ·exact .inl l
  ·exact .inr ⟨k,c,e,R x c e _ z⟩
 ·obtain⟨v,z⟩:=I.cell x c e
  exact⟨v,R x c e v z⟩
 ·obtain⟨m,⟨o,_,_,ho,_⟩,_⟩:=I.loc
  exact free _ o (λz=>(J _ z).2.1 rfl) ho I.free
 ·obtain⟨v,o,ho,hd⟩:=I.cell x c e
  exact free c o (λz=>(J c z).2.2.1 x c e rfl) ho (I.freeC x c e)
 ·obtain⟨e,n,ne,nf,d⟩:=I.pin p hp
  have U:p.1∉ch:=λz=>(J p.1 z).2.2.2 p hp rfl
  exact⟨O p.1 p.2 ne nf U e n,free p.1 p.2 U e n,ne,nf,d⟩
theorem Inv.un(I:Inv X pins σ H s)(u:Un X.fs [] H H' s.heap h')(q:HOk X.prog X.w H' h'):Inv X pins σ H' {s with heap:=h',toks:=t'}:=by
 obtain⟨m,⟨o,es,ep,ho,r⟩,_⟩:=id I.loc
 obtain⟨sl,U⟩:=u.any ho I.free (by simp)
 exact I.step (g':=s.gens) (d':=s.drawn) (ch:=[]) (λ_ z=>nomatch z) (λb o _ J _ e n=>u.keep b o e n J (by simp)) (λb o _ J _ e n=>u.slot b o e n J (by simp)) (λb o _ e n=>u.free b o e n (by simp)) (λb o _ e=>u.there b o e (by simp)) u.tups u.frzs u.tbls (λm' Y=>by
  obtain⟨o',O,R,j,Z⟩:=Y
  rw[ho]at j;cases j
  exact⟨_,O,R,U,Z⟩) q I.bare
theorem Inv.call{g':Array ig}{t':Nat}{d':Drawn}{ch:List aB}(I:Inv X pins σ H s)(u:Un (frs X.stack) ch H H' s.heap h')(O:HOk X.prog X.w H' h')(Z:eV g') 
  (q:∀b∈ch,(b∈X.ex\/X.s₀.heap.objs.size<=b)/\b≠X.env.locals/\(∀x c,X.env.cells.lookup x=some c->c≠b)/\∀p∈X.pn++pins,p.1≠b) :
  Inv X pins σ H' {s with heap:=h',gens:=g',drawn:=d',toks:=t'}:=by
 obtain⟨m,⟨o,es,ep,ho,r⟩,_⟩:=id I.loc
 obtain⟨sl,R⟩:=u.any ho I.free λz=>(q _ z).2.1 rfl
 exact I.step (ch:=ch) q (λb o R hb j e n=>u.keep b o e n (λz=>(aW.mp (I.stkSub b z)).elim R hb) j) (λb o _ _ j e n=>u.any e n j) (λb o j e n=>u.free b o e n j) (λb o j e=>u.there b o e j) u.tups u.frzs u.tbls (λm' hm=>by
  obtain⟨o',U,Y,J,r'⟩:=hm
  rw[ho]at J;cases J
  exact⟨_,U,Y,R,r'⟩) O Z
theorem Inv.turned{t':Nat}{j:aB}(I:Inv X pins σ H s)(k:∀b o,b≠j->s.heap.get? b=some o->h'.get? b=some o)(hn:H j=none)(R:j≠X.env.locals) 
  (h1:j∈X.ex\/X.s₀.heap.objs.size<=j) (h2:∀x c,X.env.cells.lookup x=some c->c≠j) (U:∀p∈X.pn++pins,p.1≠j):Inv X pins σ H {s with heap:=h',toks:=t'}:=by
 have O:∀b u,H b=some u->b≠j:=λb u e z=>by rw[z,hn]at e;cases e
 refine I.step (g':=s.gens) (d':=s.drawn) (ch:=[j]) (λb Y=>?_) (λb o _ _ J e _=>k b o (λz=>J (by simp[z])) e) (λb o _ _ J e _=>⟨o.slots,k b o (λz=>J (by simp[z])) e⟩) (λ_ _ _ _ n=>n)
  (λb o J e=>⟨o,k b o (λz=>J (by simp[z])) e⟩) (λ_ _ e=>e) (λ_ _ _ e=>e) (λb ps e=>⟨#[],by rw[e];simp⟩) (λm Z=>?_) (λb u e=>?_) I.bare
 ·have e:b=j:=by simpa using Y
  subst e
  exact⟨h1,R,h2,U⟩
 ·obtain⟨o,es,ep,ho,r⟩:=Z
  exact⟨o,es,ep,k _ o (aT R) ho,r⟩
 ·refine(I.hok b u e).stay (λc v J q=>k c v ?_ q) (λ_ q=>q) λ_ _ q=>q
  rcases J with z|z
  ·rw[z];exact O b u e
  ·exact O c _ z
theorem Inv.tok(I:Inv X pins σ H s)(t:Nat):Inv X pins σ H {s with toks:=t}:=I.un (h':=s.heap) (t':=t) Un.refl I.hok
theorem Inv.kept(I:Inv X pins σ H s)(k:∀b u,s.heap.get? b=some u->h'.get? b=some u):Inv X pins σ H {s with heap:=h',toks:=t'}:=I.un (Un.kept k) (I.hok.kept k)
theorem Inv.laid{a:aB}{o:HO}{t':Nat}(I:Inv X pins σ H s)(k:∀b u,s.heap.get? b=some u->h'.get? b=some u)(j:s.heap.objs.size<=a)(new:yf X.prog X.w (upd H a o) h' a o):
 Inv X pins σ (upd H a o) {s with heap:=h',toks:=t'}:=I.un (Un.laid k j (I.hok.fresh j)) (I.hok.laid k j new)
theorem Inv.write{x e:aB}{o:HO}{t':Nat}(I:Inv X pins σ H s)(q:Mut (H x))(z:e=x\/H e=some (.own x))(k:∀b u,b≠e->s.heap.get? b=some u->h'.get? b=some u)(j:∃u,h'.get? e=some u) 
 (new:yf X.prog X.w (upd H x o) h' x o):Inv X pins σ (upd H x o) {s with heap:=h',toks:=t'}:=I.un (Un.write q z k j) (I.hok.write q z k j new)
theorem Inv.weak(I:Inv X pins σ H s)(z:q.length=σ.length)(w:∀(i:Nat) v,q[i]?=some (some v)->σ[i]?=some (some v)):Inv X pins q H s :=
 ⟨I.ok,I.os,I.bare,I.base,(by obtain⟨m,hn,j⟩:=I.loc;exact⟨m,hn,λi x v J O R=>j i x v J (w i v O) R⟩),I.cell,I.free,I.freeC,I.pin,I.hok,z.trans I.len⟩
theorem Inv.pins_of(I:Inv X pins σ H s)(h:∀p∈pins',s.heap.get? p.1=some p.2/\H p.1=none/\p.1≠X.env.locals/\p.1∉X.fs/\∀v,p.2.data≠.cell v):Inv X pins' σ H s :=
 ⟨I.ok,I.os,I.bare,I.base,I.loc,I.cell,I.free,I.freeC,λp j=>(cA.mp j).elim (λz=>I.pin p (dJ _ z)) (h p),I.hok,I.len⟩
theorem VO{N:List aC}(q:N.Nodup){i j:Nat}{x:aC}(a:N[i]?=some x)(b:N[j]?=some x):i=j:=by
 obtain⟨h1,z⟩:=aY.mp a
 obtain⟨h2,J⟩:=aY.mp b
 exact(fX q).mp (z.trans J.symm)
theorem WS{M:fY}{A:bB}{E:aA->aD->Prop}{i:Nat}{x:aC}{v:V}{u:aA}{Q:Unit->aD->Prop}(I:Inv X pins σ H s)(hN:X.N.Nodup)(hi:X.N[i]?=some x)(Y:Loc X.env.scope x)(r:zz v u) 
  (h:∀s',Inv X pins (σ.set i (some v)) H s'->(∃a,ii a s.heap s'.heap/\(a=X.env.locals\/X.env.cells.lookup x=some a))->Q () s') (hf:X.fn x=true\/X.env.scope.names.lookup x=some .local:=by first|exact .inl rfl|exact .inr rfl|assumption):wpAny M A (jK X.env x u) Q E s:=by
 obtain⟨m,hn,hl⟩:=id I.loc
 have ab:(X.env.scope.kind== .class|| (X.env.scope.kind== .module && X.env.locals !=X.env.globals))=false:=by rw[I.ok.kind];rfl
 have ac:i<σ.length:=by rw[I.len];exact(aY.mp hi).1
 have cne:=I.cne
 have O:∀{a:aB} {h':aN},(∃o,s.heap.get? a=some o/\H a=none)->ii a s.heap h'->HOk X.prog X.w H h':=λ{a h'} ha J b ob e=>by
  obtain⟨_,_,Z⟩:=ha
  refine(I.hok b ob e).stay (λc w' U q=>(J.2 c ?_).trans q) (λ_ q=>q) λ_ _ q=>q
  rintro rfl
  rcases U with rfl|U
  ·rw[Z]at e;cases e
  ·rw[Z]at U;cases U
 rcases Y with hk|hk
 ·refine wpAny_storeName_local hk hn (λh' ai J=>?_) ab
  obtain⟨oL,_,_,aj,_⟩:=id hn
  refine h _ ⟨I.ok,I.os,I.bare,⟨λb o e n hb Y=>?_,λb o e n hb Y=>?_,I.base.free,λb o e Y=>?_,I.base.tups,I.base.frzs,I.base.tbls⟩,⟨_,ai,λj y v' R e2 e3=>?_⟩,λy c e=>?_,I.free,I.freeC,λp hp=>?_,O ⟨oL,aj,I.free⟩ J,by simpa using I.len⟩ ⟨_,J,.inl rfl⟩
  ·exact(J.2 b (bO (cD (aZ e) I.ok.above))).trans (I.base.keep b o e n hb Y)
  ·obtain⟨sl,R⟩:=I.base.slot b o e n hb Y
   exact⟨sl,(J.2 b (bO (cD (aZ e) I.ok.above))).trans R⟩
  ·obtain⟨o',R⟩:=I.base.there b o e Y
   exact⟨o',(J.2 b (bO (cD (aZ e) I.ok.above))).trans R⟩
  ·by_cases hj:j=i
   ·subst hj
    rw[hi]at R;cases R
    rw[dW ac]at e2
    cases e2
    exact⟨u,r,.inl ⟨hk,by simp⟩⟩
   ·rw[cW (aT hj)]at e2
    obtain⟨u',r',q⟩:=hl j y v' R e2 e3
    refine⟨u',r',?_⟩
    rcases q with⟨k,e⟩|⟨k,c,e,z⟩
    ·refine .inl ⟨k,?_⟩
     have:y≠x:=λe=>hj (VO hN R (e▸hi))
     simp[this,e]
    ·exact .inr ⟨k,c,e,z.sameBut J (cne y c e)⟩
  ·obtain⟨w',z⟩:=I.cell y c e
   exact⟨w',z.sameBut J (cne y c e)⟩
  ·obtain⟨e,n,ne,nf,d⟩:=I.pin p hp
   exact⟨(J.2 p.1 ne).trans e,n,ne,nf,d⟩
 ·have aa:X.fn x=true:=by
   rcases hf with z|z
   ·exact z
   ·rw[z]at hk;cases hk
  obtain⟨c,U⟩:=I.ok.has x (.inl hk)
  obtain⟨w',z⟩:=I.cell x c U
  refine wpAny_storeName_cell I.ok.kind hk U z (λh' ae J=>?_)
  obtain⟨oc,af,ag⟩:=id z
  refine h {s with heap:=h'} ⟨I.ok,I.os,I.bare,⟨λb o e n hb Y=>?_,λb o e n hb Y=>?_,I.base.free,λb o e Y=>?_,I.base.tups,I.base.frzs,I.base.tbls⟩,⟨m,hn.sameBut J (aT (cne x c U)),λj y v' R e2 e3=>?_⟩,λy c' e=>?_,I.free,I.freeC,λp hp=>?_,O ⟨oc,af,I.freeC x c U⟩ J,by simpa using I.len⟩ ⟨c,J,.inr U⟩
  ·exact(J.2 b (bO (cD (aZ e) (I.ok.cab x c aa U)))).trans (I.base.keep b o e n hb Y)
  ·obtain⟨sl,R⟩:=I.base.slot b o e n hb Y
   exact⟨sl,(J.2 b (bO (cD (aZ e) (I.ok.cab x c aa U)))).trans R⟩
  ·obtain⟨o',R⟩:=I.base.there b o e Y
   exact⟨o',(J.2 b (bO (cD (aZ e) (I.ok.cab x c aa U)))).trans R⟩
  ·by_cases hj:j=i
   ·subst hj
    rw[hi]at R;cases R
    rw[dW ac]at e2
    cases e2
    exact⟨u,r,.inr ⟨.inl hk,c,U,ae⟩⟩
   ·rw[cW (aT hj)]at e2
    obtain⟨u',r',q⟩:=hl j y v' R e2 e3
    refine⟨u',r',?_⟩
    rcases q with q|⟨k,c',e,z'⟩
    ·exact .inl q
    ·refine .inr ⟨k,c',e,z'.sameBut J ?_⟩
     rintro rfl
     exact hj (VO hN R (I.ok.inj _ _ _ e U▸hi))
  ·by_cases ah:c'=c
   ·subst ah;exact⟨_,ae⟩
   ·obtain⟨w2,z2⟩:=I.cell y c' e
    exact⟨w2,z2.sameBut J ah⟩
  ·obtain⟨e,n,ne,nf,d⟩:=I.pin p hp
   refine⟨(J.2 p.1 ?_).trans e,n,ne,nf,d⟩
   intro q
   rw[q,af]at e
   have q':oc=p.2:=cV e
   exact d w' (by rw[<-q'];exact ag)
theorem YI{M:fY}{A:bB}{E:aA->aD->Prop}{i:Nat}{x:aC}{v:V}{u:aA}{Q:Unit->aD->Prop}(I:Inv X pins σ H s)(j:X.N.Nodup)(hi:X.N[i]?=some x)(q:Loc X.env.scope x)(r:zz v u) 
  (h:∀s',Inv X pins (σ.set i (some v)) H s'->Q () s') (z:X.fn x=true\/X.env.scope.names.lookup x=some .local:=by first|exact .inl rfl|exact .inr rfl|assumption):wpAny M A (jK X.env x u) Q E s :=
 WS I j hi q r (λs' J _=>h s' J) z
theorem Inv.call'(I:Inv X pins σ H s)(ho:s'.os=s.os)(u:Un (frs X.stack) ch H H' s.heap s'.heap)(j:HOk X.prog X.w H' s'.heap)(z:eV s'.gens) 
  (q:∀b∈ch,(b∈X.ex\/X.s₀.heap.objs.size<=b)/\b≠X.env.locals/\(∀x c,X.env.cells.lookup x=some c->c≠b)/\∀p∈X.pn++pins,p.1≠b):Inv X pins σ H' s':=by
 obtain⟨h',g',d',t',o'⟩:=s'
 have e:o'=s.os:=ho
 subst e
 exact I.call (g':=g') (t':=t') (d':=d') u j z q
end
abbrev XK:=aA->Option aB->Hp->Prop
abbrev St:=List (Option V)
abbrev VK:=V->Hp->Prop
abbrev TE:=St->Hp->VK->Prop
abbrev TT:=St->Hp->(Bool->Hp->Prop)->Prop
abbrev TA:=St->Hp->(List V->Hp->Prop)->Prop
structure Ends where
 nx:St->Hp->Prop
 rt:VK
 bk:St->Hp->Prop:=λ_ _=>False
 ct:St->Hp->Prop:=λ_ _=>False
abbrev TS:=Ends->St->Hp->Prop
def EP(X:Cx)(pins:List (aB×aL))(σ:St)(Q:VK)(u:aA)(s':aD):Prop:=∃v H',Inv X pins σ H' s'/\zz v u/\Q v H'
def TP(X:Cx)(pins:List (aB×aL))(σ:St)(Q:Bool->Hp->Prop)(b:Bool)(s':aD):Prop:=∃H',Inv X pins σ H' s'/\Q b H'
def AP(X:Cx)(pins:List (aB×aL))(σ:St)(Q:List V->Hp->Prop)(us:List aA)(s':aD):Prop:=∃vs H',Inv X pins σ H' s'/\zC vs us/\Q vs H'
def SP(X:Cx)(pins:List (aB×aL))(D:Ends)(f:Flow)(s':aD):Prop :=
 match f with
 | .next=>∃j H',Inv X pins j H' s'/\D.nx j H'
 | .brk=>∃j H',Inv X pins j H' s'/\D.bk j H'
 | .cont=>∃j H',Inv X pins j H' s'/\D.ct j H'
 | .ret u=>∃v j H',Inv X pins j H' s'/\zz v u/\D.rt v H'
def PE(X:Cx)(e:aF)(t:TE):Prop :=
 ∀(pins:List (aB×aL)) (s:aD) (σ:St) (H:Hp) (Q:VK),Inv X pins σ H s->t σ H Q->wpAny (aI X.prog X.w) X.A (aQ e X.env) (EP X pins σ Q) X.xe s
def PT(X:Cx)(e:aF)(t:TT):Prop :=
 ∀(pins:List (aB×aL)) (s:aD) (σ:St) (H:Hp) (Q:Bool->Hp->Prop),Inv X pins σ H s->t σ H Q->wpAny (aI X.prog X.w) X.A (gR e X.env (aQ e X.env)) (TP X pins σ Q) X.xe s
def PW(X:Cx)(e:aF)(t:TT):Prop :=
 ∀(j:cQ aA) (pins:List (aB×aL)) (s:aD) (σ:St) (H:Hp) (Q:Bool->Hp->Prop),Inv X pins σ H s->t σ H Q->wpAny (aI X.prog X.w) X.A (gR e X.env j) (TP X pins σ Q) X.xe s
theorem PW.pt(h:PW X e t):PT X e t:=h _
def PA(X:Cx)(es:List aF)(t:TA):Prop :=
 ∀(pos:aK) (pins:List (aB×aL)) (s:aD) (σ:St) (H:Hp) (Q:List V->Hp->Prop),Inv X pins σ H s->t σ H Q->wpAny (aI X.prog X.w) X.A (spliced (cJ pos (aX es X.env))) (AP X pins σ Q) X.xe s
def PS(X:Cx)(st:aS)(t:TS):Prop :=
 ∀(pins:List (aB×aL)) (s:aD) (σ:St) (H:Hp) (D:Ends),Inv X pins σ H s->t D σ H->wpAny (aI X.prog X.w) X.A (exec st X.env) (SP X pins D) X.xe s
def PSs(X:Cx)(st:List aS)(t:TS):Prop :=
 ∀(pins:List (aB×aL)) (s:aD) (σ:St) (H:Hp) (D:Ends),Inv X pins σ H s->t D σ H->wpAny (aI X.prog X.w) X.A (execs st X.env) (SP X pins D) X.xe s
theorem thn{α:Type}{t:cQ α}{Q j:α->aD->Prop}{M:fY}{A:bB}{E:aA->aD->Prop}{s:aD}(h:wpAny M A t Q E s)(q:∀a s,Q a s->j a s):wpAny M A t j E s:=dC h q λ_ _ x=>x
end L2
namespace L2
open PySem PySem.Spec PyProof.Rows
section
variable {X:Cx}
def uQ(i:Nat):TE:=λσ H Q=>∃v,σ[i]?=some (some v)/\Q v H
def tC(v:V):TE:=λ_ H Q=>Q v H
theorem ze5(R:X.N[i]?=some x)(U:Vis X.env.scope x)(z:(x==("__debug__":aC))=false:=by decide)(J:(x==("__classdict__":aC))=false:=by decide):PE X (.Name x pos) (uQ i):=by
 intro pins s σ H Q I h
 obtain⟨v,e,h⟩:=h
 obtain⟨m,hn,Y⟩:=I.loc
 obtain⟨u,r,l⟩:=Y i x v R e U
 have fin:EP X pins σ Q u s:=⟨v,H,I,r,h⟩
 rcases l with⟨q,Z⟩|⟨q,c,O,j⟩
 ·exact jL (k9 I.ok.kind q hn Z fin) z
 ·rcases q with q|q
  ·exact jL (la I.ok.kind q O j fin) z
  ·exact jL (wpAny_loadName_free I.ok.kind q O j fin J) z
theorem wE{i j pos}:PE X (.Constant (.int i) j pos) (tC (.int i)):=λ_ _ _ H _ I h=>wpAny_Constant_int ⟨.int i,H,I.tok _,⟨_,rfl⟩,h⟩
theorem vz{b j pos}:PE X (.Constant (.bool b) j pos) (tC (.bl b)):=λ_ _ _ H _ I h=>Constant_bool ⟨.bl b,H,I,rfl,h⟩
theorem ze6{j pos}:PE X (.Constant .none j pos) (tC .non):=λ_ _ _ H _ I h=>Constant_none ⟨.non,H,I,rfl,h⟩
def Gl(X:Cx)(x:aC):Prop:=X.env.kindOf x=some .globalImplicit
theorem X3{E:aA->aD->Prop}{pins:List (aB×aL)}{s:aD}{σ:St}{H:Hp}{x:aC}{u:aA}{pos:aK}{Q:aA->aD->Prop}(I:Inv X pins σ H s)(j:Gl X x)(q:X.mg x=some u)(h:Q u s) 
  (z:(x==("__debug__":aC))=false:=by decide):wpAny (aI X.prog X.w) X.A (aQ (.Name x pos) X.env) Q E s :=
 lc I.ok.kind j (Calls.loadGlobal_global (by rw[I.ok.glob];exact I.mod.glob.keeps I.bk) q h) z
theorem vh{E:aA->aD->Prop}{pins:List (aB×aL)}{s:aD}{σ:St}{H:Hp}{x:aC}{u:aA}{pos:aK}{Q:aA->aD->Prop}(I:Inv X pins σ H s)(j:Gl X x)(q:X.mg x=none)(z:eU x=some u)(h:Q u s) 
  (hn:x≠"__name__":=by decide) (J:(x==("__debug__":aC))=false:=by decide):wpAny (aI X.prog X.w) X.A (aQ (.Name x pos) X.env) Q E s:=by
 obtain⟨O,h1,h2⟩:=I.mod.blt
 exact lc I.ok.kind j (Calls.loadGlobal_builtin (by rw[I.ok.glob];exact I.mod.glob.keeps I.bk) q (by rw[I.ok.blt];exact h1.keeps I.bk) ((h2 x hn).trans z) h) J
theorem zd2(j:Gl X x)(q:X.mg x=some u)(r:zz v u)(z:(x==("__debug__":aC))=false:=by decide):PE X (.Name x pos) (tC v) :=
 λ_ _ _ H _ I h=>X3 I j q ⟨v,H,I,r,h⟩ z
theorem zd3(j:Gl X x)(q:X.mg x=none)(z:eU x=some u)(r:zz v u)(hn:x≠"__name__":=by decide)(J:(x==("__debug__":aC))=false:=by decide):PE X (.Name x pos) (tC v) :=
 λ_ _ _ H _ I h=>vh I j q z ⟨v,H,I,r,h⟩ hn J
variable {a b:aF} {ta tb:TE} {pos:aK}
def PC(X:Cx)(j:gS)(a b:aF)(t:TE):Prop :=
 ∀(pins:List (aB×aL)) (s:aD) (σ:St) (H:Hp) (Q:VK),Inv X pins σ H s->t σ H Q->
  wpAny (aI X.prog X.w) X.A (aQ a X.env) (λv q=>wpAny (aI X.prog X.w) X.A (aQ b X.env) (λu z=>wpAny (aI X.prog X.w) X.A (cK j v u) (EP X pins σ Q) X.xe z) X.xe q) X.xe s
def tB(t:TE):TT:=λσ H Q=>t σ H λx H1=>∃c,x=.bl c/\Q c H1
theorem ze7{z:gS}{t:TE}(h:PC X z a b t)(h1:fZ z b=false:=by first|exact j _ (by decide) (by decide)|rfl):PT X (.Compare a [z] [b] pos) (tB t):=by
 intro pins s σ H Q I J
 refine ld (thn (h pins s σ H _ I J) λv s1 h1=>thn h1 λu s2 h2=>thn h2 λc s3 ⟨x,H1,O,r1,R⟩=>?_) h1
 obtain⟨d,rfl,q⟩:=R
 cases r1
 exact gA ⟨H1,O,q⟩
theorem VP{e:aF}{t:TE}(h:PE X e t)(z:∀j,gR e X.env j=(do let v <-j;gT e.pos;eM [v] (truthy v)):=by intro _;rfl):PT X e (tB t):=by
 intro pins s σ H Q I J
 refine isTrue_plain (thn (h pins s σ H _ I J) λv s1 ⟨x,H1,O,r1,R⟩=>?_) (z _)
 obtain⟨d,rfl,q⟩:=R
 cases r1
 exact gA ⟨H1,O,q⟩
variable {tA tB':TT} {rest:List aF}
def tOr(t u:TT):TT:=λσ H Q=>t σ H λc H1=>if c=true then Q true H1 else u σ H1 Q
def zhZ(t:TT):TT:=λσ H Q=>t σ H λc H1=>Q (!c) H1
theorem zar(j:PT X a tA):PW X (.BoolOp .Or [a] pos) tA:=by
 intro q pins s σ H Q I h
 refine isTrue_or (thn (j pins s σ H Q I h) λc s1 e=>?_)
 cases c with
 | false=>exact isTrue_or_nil e
 | true=>exact e
theorem zdA(z:PT X a tA)(J:PW X (.BoolOp .Or (b::rest) pos) tB'):PW X (.BoolOp .Or (a::b::rest) pos) (tOr tA tB'):=by
 intro O pins s σ H Q I h
 refine isTrue_or (thn (z pins s σ H _ I h) λc s1 ⟨H1,j,q⟩=>?_)
 cases c with
 | true=>exact⟨H1,j,q⟩
 | false=>exact J O pins s1 σ H1 Q j q
theorem ze8(j:PT X a tA):PT X (.UnaryOp .Not a pos) (zhZ tA):=by
 intro pins s σ H Q I h
 exact isTrue_not (j pins s σ H (λc H1=>Q (!c) H1) I h)
def zgy(ta tb:TE):TE:=λσ H Q=>ta σ H λx H1=>∃c,x=.bl c/\if c=true then tb σ H1 Q else Q (.bl false) H1
def zgz(ta:TE):TE:=λσ H Q=>ta σ H λx H1=>∃c,x=.bl c/\Q (.bl (!c)) H1
theorem ze9{j}(h:PE X a t):PE X (.BoolOp j [a] pos) t:=λpins s σ H Q I q=>BoolOp_one (h pins s σ H Q I q)
theorem zfa(z:PE X a ta)(J:PE X (.BoolOp .And (b::rest) pos) tb):PE X (.BoolOp .And (a::b::rest) pos) (zgy ta tb):=by
 intro pins s σ H Q I h
 refine BoolOp_and (thn (z pins s σ H _ I h) λv s1 ⟨x,H1,q,r1,j⟩=>?_)
 obtain⟨c,rfl,j⟩:=j
 cases r1
 refine gA ?_
 cases c with
 | true=>exact J pins s1 σ H1 Q q j
 | false=>exact⟨.bl false,H1,q,rfl,j⟩
theorem zfb(q:PE X a ta):PE X (.UnaryOp .Not a pos) (zgz ta):=by
 intro pins s σ H Q I h
 refine UnaryOp_ (thn (q pins s σ H _ I h) λv s1 ⟨x,H1,z,r1,j⟩=>?_)
 obtain⟨c,rfl,j⟩:=j
 cases r1
 exact not_of (gA ⟨.bl (!c),H1,z,rfl,j⟩)
def tIf(t:TT)(ta tb:TE):TE:=λσ H Q=>t σ H λc H1=>if c=true then ta σ H1 Q else tb σ H1 Q
theorem zbM{c:aF}(z:PT X c tA)(J:PE X a ta)(O:PE X b tb):PE X (.IfExp c a b pos) (tIf tA ta tb):=by
 intro pins s σ H Q I h
 refine wpAny_IfExp (thn (z pins s σ H _ I h) λd s1 ⟨H1,j,q⟩=>?_)
 cases d with
 | true=>exact J pins s1 σ H1 Q j q
 | false=>exact O pins s1 σ H1 Q j q
end
end L2
namespace L2
open PySem PySem.Spec PyProof.Rows
def SqL(K:aE)(H:Hp)(a:aB)(xs:List V):Prop :=
 Rd H a (.lst xs)\/
  ∃(o:aL) (its:Array aA) (n:Nat),K.lookup a=some o/\o.cls=.type "list"/\o.dict=none/\o.data=.seq its n/\its.size<=aH/\zC xs its.toList
def SqT(K:aE)(H:Hp)(a:aB)(xs:List V):Prop :=
 Rd H a (.tup xs)\/
  ∃(o:aL) (its:Array aA) (n:Nat),K.lookup a=some o/\o.cls=.type "tuple"/\o.data=.seq its n/\its.size<=aH/\zC xs its.toList
def zh0:aA->Option V
 | .none=>some .non
 | .bool b=>some (.bl b)
 | .int i _=>some (.int i)
 | .str x _=>some (.str x)
 | .bytes b _=>some (.byt b)
 | .float b _=>some (.flt b)
 | .ref a=>some (.ref a)
 | .type n=>some (.ty n)
 | _=>none
theorem zz.abs(r:zz x u):zh0 u=some x:=by
 cases x with
 | non=>cases r;rfl
 | bl _=>cases r;rfl
 | int _=>obtain⟨t,rfl⟩:=r;rfl
 | str _=>obtain⟨t,rfl⟩:=r;rfl
 | byt _=>obtain⟨t,rfl⟩:=r;rfl
 | flt _=>obtain⟨t,rfl⟩:=r;rfl
 | ref _=>cases r;rfl
 | ty _=>cases r;rfl
theorem zz.inj(r:zz x u)(q:zz y u):x=y:=cV (r.abs.symm.trans q.abs)
theorem zC.inj:∀{xs ys:List V} {us:List aA},zC xs us->zC ys us->xs=ys
 | _,_,_,.nil,.nil=>rfl
 | _,_,_,.cons r t,.cons j t'=>by rw[r.inj j,zC.inj t t']
section
variable {X:Cx} {pins:List (aB×aL)} {σ:St} {H:Hp} {s:aD} {a:aB} {xs ys:List V}
theorem SqL.of{K:aE}(h:H a=some (.lst xs)):SqL K H a xs:=.inl (.inl h)
theorem SqT.of{K:aE}(h:H a=some (.tup xs)):SqT K H a xs:=.inl (.inl h)
theorem Inv.list(I:Inv X pins σ H s)(h:SqL X.K H a xs):∃its:List aA,zC xs its/\PlainL s.heap a its.toArray/\xs.length<=aH:=by
 rcases h with h|⟨o,its,n,j,q,J,O,R,r⟩
 ·obtain⟨z,its,n,r,e⟩:=h.ok I.hok
  exact⟨its,r,⟨_,n,e,rfl,rfl,rfl⟩,z⟩
 ·refine⟨its.toList,r,⟨o,n,I.kIn a o j,q,J,by simpa using O⟩,?_⟩
  have e:=r.length
  simp only[iV]at e
  omega
theorem Inv.tuple(I:Inv X pins σ H s)(h:SqT X.K H a xs):∃its:List aA,zC xs its/\fL s.heap a its.toArray/\xs.length<=aH:=by
 rcases h with h|⟨o,its,n,j,q,J,O,r⟩
 ·obtain⟨z,its,r,p⟩:=h.ok I.hok
  exact⟨its,r,p,z⟩
 ·refine⟨its.toList,r,⟨o,I.kIn a o j,q,n,by simpa using J⟩,?_⟩
  have e:=r.length
  simp only[iV]at e
  omega
theorem Inv.list_inj(I:Inv X pins σ H s)(h:SqL X.K H a xs)(h':SqL X.K H a ys):xs=ys:=by
 obtain⟨its,r,⟨o,n,e,_,_,d⟩,_⟩:=I.list h
 obtain⟨its',q,⟨o',J,j,_,_,d'⟩,_⟩:=I.list h'
 rw[e]at j;cases j
 rw[d]at d'
 injection d' with z _
 have:its=its':=by simpa using congrArg lf z
 subst this
 exact r.inj q
theorem Inv.tuple_inj(I:Inv X pins σ H s)(h:SqT X.K H a xs)(h':SqT X.K H a ys):xs=ys:=by
 obtain⟨its,r,⟨o,e,_,n,d⟩,_⟩:=I.tuple h
 obtain⟨its',q,⟨o',j,_,J,d'⟩,_⟩:=I.tuple h'
 rw[e]at j;cases j
 rw[d]at d'
 injection d' with z _
 have:its=its':=by simpa using congrArg lf z
 subst this
 exact r.inj q
end
abbrev Cx.wish(X:Cx)(E:aA->aD->Prop):Cx:={X with xe:=E}
abbrev Cx.nox(X:Cx):Cx:=X.wish λ_ _=>False
theorem Cx.Ok.wish{X:Cx}(ok:X.Ok)(E:aA->aD->Prop):(X.wish E).Ok :=
 ⟨ok.mod,ok.kind,ok.glob,ok.blt,ok.above,ok.inj,ok.has,ok.cab,ok.hd,ok.frames,ok.stk,ok.exf,ok.bs,ok.bsz,ok.noex,ok.exfs,ok.funs,ok.frf⟩
theorem Cx.Ok.unwish{X:Cx}{E:aA->aD->Prop}(ok:(X.wish E).Ok):X.Ok :=
 ⟨ok.mod,ok.kind,ok.glob,ok.blt,ok.above,ok.inj,ok.has,ok.cab,ok.hd,ok.frames,ok.stk,ok.exf,ok.bs,ok.bsz,ok.noex,ok.exfs,ok.funs,ok.frf⟩
section
variable {X:Cx} {pins:List (aB×aL)} {σ:St} {H:Hp} {s:aD} {E:aA->aD->Prop}
theorem Inv.wish(I:Inv X pins σ H s)(E:aA->aD->Prop):Inv (X.wish E) pins σ H s:=⟨I.ok.wish E,I.os,I.bare,I.base,I.loc,I.cell,I.free,I.freeC,I.pin,I.hok,I.len⟩
theorem Inv.unwish(I:Inv (X.wish E) pins σ H s):Inv X pins σ H s:=⟨I.ok.unwish,I.os,I.bare,I.base,I.loc,I.cell,I.free,I.freeC,I.pin,I.hok,I.len⟩
theorem SP.unwish(h:SP (X.wish E) pins D f s'):SP X pins D f s':=by
 cases f with
 | next=>obtain⟨j,H',I,q⟩:=h;exact⟨j,H',I.unwish,q⟩
 | brk=>obtain⟨j,H',I,q⟩:=h;exact⟨j,H',I.unwish,q⟩
 | cont=>obtain⟨j,H',I,q⟩:=h;exact⟨j,H',I.unwish,q⟩
 | ret u=>obtain⟨v,j,H',I,r,q⟩:=h;exact⟨v,j,H',I.unwish,r,q⟩
theorem PSs.nox{st:List aS}{t:TS}(h:PSs X.nox st t):PSs X st t:=λpins s σ H D I j=>
 dC (h pins s σ H D (I.wish _) j) (λ_ _ q=>q.unwish) λ_ _ z=>dO z
end
section
variable {X:Cx} {st:aS} {rest:List aS} {t u:TS} {e:aF} {te:TE} {pos:aK}
def zgA:TS:=λD σ H=>D.nx σ H
def zh1(t u:TS):TS:=λD σ H=>t {D with nx:=u D} σ H
theorem X4:PSs X [] zgA:=λ_ _ σ H _ I h=>iW ⟨σ,H,I,h⟩
theorem zL(h1:PS X st t)(h2:PSs X rest u):PSs X (st::rest) (zh1 t u):=by
 intro pins s σ H D I h
 refine lg (thn (h1 pins s σ H {D with nx:=u D} I h) λf s1 q=>?_)
 cases f with
 | next=>
  obtain⟨j,H',z,q⟩:=q
  exact h2 pins s1 j H' D z q
 | ret v=>exact q
 | brk=>exact q
 | cont=>exact q
theorem yk(h1:PS X st t):PSs X [st] t:=by
 intro pins s σ H D I h
 refine lg (thn (h1 pins s σ H D I h) λf s1 q=>?_)
 cases f with
 | next=>exact iW q
 | ret v=>exact q
 | brk=>exact q
 | cont=>exact q
theorem Inv.quiet(I:Inv X pins σ H s):interactive X.env=false:=by simp[interactive,I.ok.kind]
def zgB(te:TE):TS:=λD σ H=>te σ H λ_ H1=>D.nx σ H1
theorem xj(he:PE X e te)(hs:cO e none pos.line X.env=pure false:=by rfl):PS X (.Expr e pos) (zgB te):=by
 intro pins s σ H D I h
 exact wpAny_Expr_any (thn (he pins s σ H _ I h) λv s1 hh3'=>(by obtain⟨x,H1,I1,r1,q1⟩:=hh3';exact⟨σ,H1,I1,q1⟩)) I.quiet hs
def zh2(te:TE):TS:=λD σ H=>te σ H D.rt
theorem Zl(q:PE X e te):PS X (.Return (some e) pos) (zh2 te):=by
 intro pins s σ H D I h
 exact wpAny_Return_some (thn (q pins s σ H _ I h) λv s1 j=>(by obtain⟨x,H1,z,r1,J⟩:=j;exact⟨x,σ,H1,z,r1,J⟩))
def zgC:TS:=λD _ H=>D.rt .non H
theorem zd4:PS X (.Return none pos) zgC:=λ_ _ σ H _ I h=>wpAny_Return_none ⟨.non,σ,H,I,rfl,h⟩
def zh3(c:TT)(t u:TS):TS:=λD σ H=>c σ H λb H1=>if b=true then t D σ H1 else u D σ H1
theorem Vu{c:aF}{a b:List aS}{tc:TT}(z:PT X c tc)(J:PSs X a t)(O:PSs X b u):PS X (.If c a b pos) (zh3 tc t u):=by
 intro pins s σ H D I h
 refine wpAny_If (thn (z pins s σ H _ I h) λd s1 ⟨H1,j,q⟩=>?_)
 cases d with
 | true=>exact J pins s1 σ H1 D j q
 | false=>exact O pins s1 σ H1 D j q
end
abbrev TG:=V->St->Hp->(St->Hp->Prop)->Prop
abbrev TGs:=List V->St->Hp->(St->Hp->Prop)->Prop
def PG(X:Cx)(j:aF)(t:TG):Prop :=
 ∀(pins:List (aB×aL)) (s:aD) (σ:St) (H:Hp) (v:V) (u:aA) (Q:St->Hp->Prop),Inv X pins σ H s->zz v u->t v σ H Q->
  wpAny (aI X.prog X.w) X.A (dX j X.env u) (λ_ s'=>∃q H',Inv X pins q H' s'/\Q q H') X.xe s
def PGs(X:Cx)(q:List aF)(t:TGs):Prop :=
 ∀(pins:List (aB×aL)) (s:aD) (σ:St) (H:Hp) (vs:List V) (us:List aA) (Q:St->Hp->Prop),Inv X pins σ H s->zC vs us->t vs σ H Q->
  wpAny (aI X.prog X.w) X.A (assignInOrder ((dY q X.env).map (·.2)) us) (λ_ s'=>∃j H',Inv X pins j H' s'/\Q j H') X.xe s
abbrev zbN:=V->V->V->Hp->(Hp->Prop)->Prop
def zfc(X:Cx)(t:zbN):Prop :=
 ∀(pins:List (aB×aL)) (s:aD) (σ:St) (H:Hp) (o i v:V) (j q u:aA) (Q:Hp->Prop),Inv X pins σ H s->zz o j->zz i q->zz v u->t o i v H Q->
  wpAny (aI X.prog X.w) X.A (iX j q u) (λ_ s'=>∃H',Inv X pins σ H' s'/\Q H') X.xe s
abbrev TIp:=V->V->Hp->VK->Prop
def PIp(X:Cx)(j:Operator)(t:TIp):Prop :=
 ∀(pins:List (aB×aL)) (s:aD) (σ:St) (H:Hp) (x y:V) (v u:aA) (Q:VK),Inv X pins σ H s->zz x v->zz y u->t x y H Q->
  wpAny (aI X.prog X.w) X.A (inplaceOp j v u) (EP X pins σ Q) X.xe s
section
variable {X:Cx} {pos:aK}
def v5(i:Nat):TG:=λv σ H Q=>Q (σ.set i (some v)) H
theorem xk(j:X.N.Nodup)(hi:X.N[i]?=some x)(q:Loc X.env.scope x)(z:X.fn x=true\/X.env.scope.names.lookup x=some .local:=by first|exact .inl rfl|exact .inr rfl|assumption):PG X (.Name x pos) (v5 i):=by
 intro pins s σ H v u Q I r h
 exact lh (YI I j hi q r (λs' J=>⟨_,H,J,h⟩) z)
def zh4:TGs:=λvs σ H Q=>vs=[]/\Q σ H
def zgD(t:TG)(u:TGs):TGs:=λvs σ H Q=>∃v r,vs=v::r/\t v σ H λj H'=>u r j H' Q
theorem ZU:PGs X [] zh4:=by
 intro pins s σ H vs us Q I r h
 obtain⟨e,h⟩:=h
 subst e
 cases r
 exact assignInOrder_nil ⟨σ,H,I,h⟩
theorem wp{e:aF}{es:List aF}{t:TG}{u:TGs}(h1:PG X e t)(h2:PGs X es u) 
  (j:(dY (e::es) X.env).map (·.2)=dX e X.env::(dY es X.env).map (·.2):=by rfl):PGs X (e::es) (zgD t u):=by
 intro pins s σ H vs us Q I r h
 obtain⟨v,U,q,h⟩:=h
 subst q
 cases r with
 | cons r z=>
  rw[j]
  refine assignInOrder_cons (thn (h1 pins s σ H _ _ _ I r h) λ_ s1 ⟨J,H1,O,R⟩=>?_)
  exact h2 pins s1 J H1 _ _ Q O z R
def zh5(K:aE)(n:Nat)(t:TGs):TG:=λv σ H Q=>∃a xs,v=.ref a/\SqT K H a xs/\xs.length=n/\t xs σ H Q
theorem Y8{es:List aF}{k:Nat}{t:TGs}{n:Nat}(J:X.calm=true)(h:PGs X es t) 
  (hn:(dY es X.env).length=n:=by rfl) (j:(dY es X.env).findIdx? (·.1)=none:=by rfl):PG X (.Tuple es k pos) (zh5 X.K n t):=by
 intro pins s σ H v u Q I r q
 obtain⟨a,xs,O,R,U,q⟩:=q
 subst O
 cases r
 obtain⟨its,z,Y,hz⟩:=I.tuple R
 refine assign_Tuple_tuple (I.ok.hd J) Y (by simp[hn,<-U,z.length]) j λh' Z=>?_
 have I1:Inv X pins σ H {s with heap:=h'}:=I.kept (t':=s.toks) λb o e=>Z b o (bO (aZ e)) e
 exact h pins _ σ H xs _ Q I1 (by simpa using z) q
def zh6(to j:TE)(t:zbN):TG:=λv σ H Q=>to σ H λo H1=>j σ H1 λi H2=>t o i v H2 λq=>Q σ q
theorem Y9{o i:aF}{to z:TE}{t:zbN}(ho:PE X o to)(hi:PE X i z)(J:zfc X t) 
  (O:∀v,dX (.Subscript o i pos) X.env v=(do
   let j <-eM [v] (aQ o X.env)
   let q <-eM [v,j] (aQ i X.env)
   gT pos
   eM [v,j,q] (iX j q v)
   release [v,j,q] []):=by intro _;rfl):PG X (.Subscript o i pos) (zh6 to z t):=by
 intro pins s σ H v u Q I r h
 rw[O]
 refine aJ (gU (thn (ho pins s σ H _ I h) λj s1 ⟨x,H1,R,r1,U⟩=>?_))
 refine aJ (gU (thn (hi pins s1 σ H1 _ R U) λq s2 ⟨y,H2,Y,r2,Z⟩=>?_))
 refine aJ (jM (aJ (gU (thn (J pins s2 σ H2 x y v j q u _ Y r1 r2 r Z) λ_ s3 ⟨H3,I3,q3⟩=>?_))))
 exact wpAny_release ⟨σ,H3,I3,q3⟩
def X5(te:TE)(g:TG):TS:=λD σ H=>te σ H λx H1=>g x σ H1 D.nx
theorem Zm{tg e:aF}{te:TE}{g:TG}(he:PE X e te)(hg:PG X tg g)(hs:jN [tg] e pos.line X.env=pure false:=by rfl)(hw:jO [tg] e X.env=pure none:=by rfl) 
  (h1:(dY [tg] X.env).map (·.2)=[dX tg X.env]:=by rfl):PS X (.Assign [tg] e pos) (X5 te g):=by
 intro pins s σ H D I h
 refine wpAny_Assign_stores (thn (he pins s σ H _ I h) λv s1 ⟨x,H1,I1,r1,q1⟩=>?_) hs hw
 rw[h1]
 exact thn (hg pins s1 σ H1 x v _ I1 r1 q1) λ_ s2 q=>q
theorem xa{i:Nat}{x:aC}{e:aF}{te:TE}{pos':aK}(hN:X.N.Nodup)(hi:X.N[i]?=some x)(hx:Loc X.env.scope x)(he:PE X e te)(hs:cO e (some (.Name x pos')) pos.line X.env=pure false:=by rfl)(hf:X.fn x=true\/X.env.scope.names.lookup x=some .local:=by first|exact .inl rfl|exact .inr rfl|assumption):
  PS X (.Assign [.Name x pos'] e pos) (X5 te (v5 i)):=by
 intro pins s σ H D I h
 refine wpAny_Assign_Name (thn (he pins s σ H _ I h) λv s1 ⟨y,H1,I1,r1,q1⟩=>?_) hs
 exact YI I1 hN hi hx r1 (λs2 I2=>⟨_,H1,I2,q1⟩) hf
def zh7(i:Nat)(te:TE)(j:TIp):TS:=λD σ H=>∃x,σ[i]?=some (some x)/\te σ H λy H1=>j x y H1 λz H2=>D.nx (σ.set i (some z)) H2
theorem zfd{i:Nat}{x:aC}{e:aF}{te:TE}{J:Operator}{U:TIp}{pos':aK}(Y:X.N.Nodup)(hi:X.N[i]?=some x)(O:Loc X.env.scope x)(Z:PE X e te)(ho:PIp X J U)(hf:X.fn x=true\/X.env.scope.names.lookup x=some .local:=by first|exact .inl rfl|exact .inr rfl|assumption):
  PS X (.AugAssign (.Name x pos') J e pos) (zh7 i te U):=by
 intro pins s σ H D I h
 obtain⟨v,e1,h⟩:=h
 obtain⟨m,hn,hl⟩:=I.loc
 have R:Vis X.env.scope x:=by rcases O with k|k;exact .inl k;exact .inr (.inl k)
 obtain⟨u,r,l⟩:=hl i x v hi e1 R
 refine wpAny_AugAssign_Name ?_
 have go:wpAny (aI X.prog X.w) X.A (aQ e X.env) (λw s₂=>wpAny (aI X.prog X.w) X.A (inplaceOp J u w) (λr s₃=>wpAny (aI X.prog X.w) X.A (jK X.env x r) (λ_=>SP X pins D .next) X.xe s₃) X.xe s₂) X.xe s:=by
  refine thn (Z pins s σ H _ I h) λw s1 ⟨y,H1,I1,r1,q1⟩=>?_
  refine thn (ho pins s1 σ H1 v y u w _ I1 r r1 q1) λz s2 ⟨zv,H2,I2,r2,q2⟩=>?_
  exact YI I2 Y hi O r2 (λs3 I3=>⟨_,H2,I3,q2⟩) hf
 rcases l with⟨j,hm⟩|⟨j,c,hc,q⟩
 ·exact k9 I.ok.kind j hn hm go
 ·rcases j with j|j
  ·exact la I.ok.kind j hc q go
  ·rcases O with k|k
   ·have:X.env.scope.names.lookup x=some .free:=j
    rw[k]at this;cases this
   ·have:X.env.scope.names.lookup x=some .free:=j
    rw[k]at this;cases this
def ipI(f:Int->Int->Int):TIp:=λx y H Q=>∃i j,x=.int i/\y=.int j/\Q (.int (f i j)) H
theorem zfe:PIp X .Add (ipI λi j=>i+j):=by
 intro pins s σ H x y v u Q I r1 r2 h
 obtain⟨i,j,z,J,q⟩:=h
 subst z;subst J
 obtain⟨t,rfl⟩:=r1
 obtain⟨t',rfl⟩:=r2
 exact iadd_int ⟨.int _,H,I.tok _,⟨_,rfl⟩,q⟩
end
section
variable {X:Cx} {pos:aK}
def zff(c:TT)(tb:TS):TS:=λD σ H=>∃W:Nat->St->Hp->Prop,(∃m,W m σ H)/\∀m σ H,W m σ H->
 c σ H λb H1=>if b=true then ∃N:St->Hp->Prop,(∀j H',N j H'->∃q,q<m/\W q j H')/\tb {D with nx:=N,ct:=N,bk:=D.nx} σ H1 else D.nx σ H1
theorem VQ{c:aF}{j:List aS}{tc:TT}{tb:TS}(hp:iY (aI X.prog X.w) X.A X.env X.xe)(hc:PT X c tc)(hb:PSs X j tb):PS X (.While c j [] pos) (zff tc tb):=by
 intro pins s σ H D I h
 obtain⟨W,⟨m0,w0⟩,turn⟩:=h
 refine wpAny_While (codeAny_whileLoop (λn s'=>∃σ' H',Inv X pins σ' H' s'/\W n σ' H') ?_ m0 ⟨σ,H,I,w0⟩)
 rintro n s1 ⟨J,H1,I1,w1⟩
 refine gB hp (thn (hc pins s1 J H1 _ I1 (turn n J H1 w1)) λb s2 ⟨H2,I2,O⟩=>?_)
 cases b with
 | true=>
  obtain⟨N,hN,O⟩:=O
  rw[if_pos rfl]
  refine gB hp (thn (hb pins s2 J H2 _ I2 O) λf s3 R=>?_)
  cases f with
  | next=>
   obtain⟨q,z,U,Y⟩:=R
   obtain⟨Z,hm,w3⟩:=hN q z Y
   exact⟨Z,hm,q,z,U,w3⟩
  | cont=>
   obtain⟨q,z,U,Y⟩:=R
   obtain⟨Z,hm,w3⟩:=hN q z Y
   exact⟨Z,hm,q,z,U,w3⟩
  | brk=>exact R
  | ret v=>exact R
 | false=>
  rw[if_neg dZ]
  exact iW ⟨J,H2,I2,O⟩
end
structure It where
 go:Nat->Hp->Prop
 yld:Nat->Hp->V->Hp->Prop
 stop:Nat->Hp->Prop
def xz(X:Cx)(pins:List (aB×aL))(H:Hp)(b:aB):Prop :=
 H b=none/\b≠X.env.locals/\b∉X.fs/\(b∈X.ex\/X.s₀.heap.objs.size<=b)/\(∀x c,X.env.cells.lookup x=some c->c≠b)/\∀p∈X.pn++pins,p.1≠b
theorem Inv.fpOk(I:Inv X pins σ H s)(j:s.heap.objs.size<=b)(hn:H' b=none):xz X pins H' b:=by
 refine⟨hn,jP (cD I.lt j),I.nofs j,.inr (bL I.sz j),λx c e z=>?_,λp J z=>?_⟩
 ·obtain⟨v,q⟩:=I.cell x c e
  exact absurd (cD q.lt (by rw[z];exact j)) (cI _)
 ·exact absurd (cD (aZ (I.pin p J).1) (by rw[z];exact j)) (cI _)
structure Turn (P:aU) (w:aO) (K:aE) (tg:aF) (J:It) (fp:List aB) (it:aB) (tn:Nat->aN->Prop):Prop where
 mem:it∈fp
 obj:∀i h,tn i h->∀b∈fp,∃o,h.get? b=some o/\∀v,o.data≠.cell v
 keep:∀i h h',tn i h->(∀b∈fp,∀o,h.get? b=some o->h'.get? b=some o)->tn i h'
 item:∀(X:Cx),X.prog=P->X.w=w->X.K=K->X.calm=true->∀(i:Nat) (pins:List (aB×aL)) (s:aD) (σ:St) (H:Hp) (E:aA->aD->Prop),Inv X pins σ H s->(∀b∈fp,xz X pins H b)->tn i s.heap->J.go i H->
  wpAny (aI P w) X.A (gC (.ref it)) (λr s1=>∃u,r=some u/\
   wpAny (aI P w) X.A (iZ tg (.ref it) u) (λ_ s2=>∃x H',Inv X pins σ H' s2/\zz x u/\J.yld i H x H'/\tn (i+1) s2.heap/\∀b∈fp,H' b=none) E s1) E s
 done:∀(X:Cx),X.prog=P->X.w=w->X.K=K->X.calm=true->∀(i:Nat) (pins:List (aB×aL)) (s:aD) (σ:St) (H:Hp) (E:aA->aD->Prop),Inv X pins σ H s->(∀b∈fp,xz X pins H b)->tn i s.heap->J.stop i H->
  wpAny (aI P w) X.A (gC (.ref it)) (λr s1=>r=none/\Inv X pins σ H s1) E s
 self:∀(A:bB) (i:Nat) (s:aD) (Q:aA->aD->Prop) (E:aA->aD->Prop),tn i s.heap->Q (.ref it) s->wpAny (aI P w) A (pyIter (.ref it)) Q E s
abbrev TI:=St->Hp->(It->Hp->Prop)->Prop
def PIE(X:Cx)(pins:List (aB×aL))(σ:St)(tg:aF)(R:It->Hp->Prop)(j:aA)(s2:aD):Prop :=
 ∃(q:aB) (fp:List aB) (z:Nat->aN->Prop) (J:It) (H':Hp),j=.ref q/\Inv X pins σ H' s2/\Turn X.prog X.w X.K tg J fp q z/\z 0 s2.heap/\(∀b∈fp,xz X pins H' b)/\R J H'
def PI(X:Cx)(tg iter:aF)(j:TI):Prop :=
 ∀(pins:List (aB×aL)) (s:aD) (σ:St) (H:Hp) (R:It->Hp->Prop),Inv X pins σ H s->j σ H R->
  wpAny (aI X.prog X.w) X.A (aQ iter X.env) (λv s1=>wpAny (aI X.prog X.w) X.A (pyIter v) (PIE X pins σ tg R) X.xe s1) X.xe s
theorem Q5{M: fY}{A: bB}{E: aA->aD->Prop}{s: aD}{tg: aF}{q: aB}{u: aA}{o: aL}{n: String}{vs: Array aA}{Q: Unit->aD->Prop}(ho: s.heap.get? q=some o)(z: o.cls= .type n)(J: o.data= .fields vs) 
    (hn: ["enumerate", "zip", "dict_itemiterator", "dict_reverseitemiterator", "odict_iterator", "itertools.zip_longest", "itertools.pairwise"].contains n=false) (j: Q () s) : wpAny M A (iZ tg (.ref q) u) Q E s :=by
  unfold iZ
  cases tg <;>first
    | exact bM j
    | (cases u <;>first
        | exact bM j
        | (refine aJ (wpAny_load ho ?_)
           rw[z, J]
           show wpAny M A (if(["enumerate", "zip", "dict_itemiterator", "dict_reverseitemiterator", "odict_iterator", "itertools.zip_longest", "itertools.pairwise"].contains n && vs[0]? ==some (ij _))=true then _ else _) Q E s
           rw[if_neg (by intro h; rw[hn, Bool.false_and]at h; cases h)]
           exact bM j))
def Itl(K:aE)(a:aB):It :=
 ⟨λi H=>∃xs x,SqL K H a xs/\xs[i]?=some x,λi H x H'=>H'=H/\∀xs,SqL K H a xs->xs[i]?=some x,λi H=>∃xs,SqL K H a xs/\xs.length<=i⟩
def Itt(K:aE)(a:aB):It :=
 ⟨λi H=>∃xs x,SqT K H a xs/\xs[i]?=some x,λi H x H'=>H'=H/\∀xs,SqT K H a xs->xs[i]?=some x,λi H=>∃xs,SqT K H a xs/\xs.length<=i⟩
def Itr(lo:Int)(n:Nat):It:=⟨λi _=>i<n,λi H x H'=>H'=H/\x=.int (lo+i),λi _=>n<=i⟩
theorem WT{P:aU}{w:aO}{K:aE}{tg:aF}(a it:aB):Turn P w K tg (Itl K a) [it] it (λi h=>h.IsListIter it a i) where
 mem:=by simp
 obj:=λi h st b hb=>by
  have e:b=it:=by simpa using hb
  subst e
  obtain⟨o,e,c,d⟩:=st
  exact⟨o,e,λv z=>by rw[d]at z;cases z⟩
 keep:=λi h h' st k=>st.at λo e=>k it (by simp) o e
 item:=by
  intro X hP hw hK hc i pins s σ H E I hf st hg
  subst hP hw hK
  obtain⟨xs,x,hq,hx⟩:=hg
  obtain⟨its,rv,p,hz⟩:=I.list hq
  obtain⟨u,hu,ru⟩:=rv.get hx
  obtain⟨f0,f1,f2,f3,f4,f5⟩:=hf it (by simp)
  refine li st p.isList (x:=u) (by simpa using hu) λh' st' sb=>?_
  have I1:Inv X pins σ H {s with heap:=h'}:=I.turned (t':=s.toks) (λb o hb e=>(sb.2 b hb).trans e) f0 f1 f3 f4 f5
  obtain⟨o,e,c,d⟩:=id st'
  exact⟨u,rfl,Q5 (s:={s with heap:=h'}) e c d (by decide) ⟨x,H,I1,ru,⟨rfl,λys hy=>by rw[I.list_inj hy hq];exact hx⟩,st',λb hb=>(hf b hb).1⟩⟩
 done:=by
  intro X hP hw hK hc i pins s σ H E I hf st hg
  subst hP hw hK
  obtain⟨xs,hq,hx⟩:=hg
  obtain⟨its,rv,p,hz⟩:=I.list hq
  obtain⟨f0,f1,f2,f3,f4,f5⟩:=hf it (by simp)
  have hl:=rv.length
  exact lj (I.ok.hd hc) st p.isList (by simp;omega) λh' eb=>⟨rfl,I.turned (t':=s.toks) (λb o hb e=>eb b o hb e) f0 f1 f3 f4 f5⟩
 self:=λ_ _ _ _ _ st h=>wpAny_pyIter_listiter st h
theorem Xa{P:aU}{w:aO}{K:aE}{tg:aF}(a it:aB):Turn P w K tg (Itt K a) [it] it (λi h=>h.IsTupleIter it a i) where
 mem:=by simp
 obj:=λi h st b hb=>by
  have e:b=it:=by simpa using hb
  subst e
  obtain⟨o,e,c,d⟩:=st
  exact⟨o,e,λv z=>by rw[d]at z;cases z⟩
 keep:=λi h h' st k=>st.at λo e=>k it (by simp) o e
 item:=by
  intro X hP hw hK hc i pins s σ H E I hf st hg
  subst hP hw hK
  obtain⟨xs,x,hq,hx⟩:=hg
  obtain⟨its,rv,p,hz⟩:=I.tuple hq
  obtain⟨u,hu,ru⟩:=rv.get hx
  obtain⟨f0,f1,f2,f3,f4,f5⟩:=hf it (by simp)
  refine wpAny_pyNext_tuple_item st (show s.heap.IsTuple a its.toArray from p) (x:=u) (by simpa using hu) λh' st' sb=>?_
  have I1:Inv X pins σ H {s with heap:=h'}:=I.turned (t':=s.toks) (λb o hb e=>(sb.2 b hb).trans e) f0 f1 f3 f4 f5
  obtain⟨o,e,c,d⟩:=id st'
  exact⟨u,rfl,Q5 (s:={s with heap:=h'}) e c d (by decide) ⟨x,H,I1,ru,⟨rfl,λys hy=>by rw[I.tuple_inj hy hq];exact hx⟩,st',λb hb=>(hf b hb).1⟩⟩
 done:=by
  intro X hP hw hK hc i pins s σ H E I hf st hg
  subst hP hw hK
  obtain⟨xs,hq,hx⟩:=hg
  obtain⟨its,rv,p,hz⟩:=I.tuple hq
  obtain⟨f0,f1,f2,f3,f4,f5⟩:=hf it (by simp)
  have hl:=rv.length
  exact wpAny_pyNext_tuple_end (I.ok.hd hc) st (show s.heap.IsTuple a its.toArray from p) (by simp;omega) λh' eb=>⟨rfl,I.turned (t':=s.toks) (λb o hb e=>eb b o hb e) f0 f1 f3 f4 f5⟩
 self:=λ_ _ _ _ _ st h=>wpAny_pyIter_tupleiter st h
theorem Q6{P:aU}{w:aO}{K:aE}{tg:aF}(it:aB)(lo:Int)(n:Nat):Turn P w K tg (Itr lo n) [it] it (λi h=>IsRangeIter h it (lo+(i:Nat)*1) ((n:Int)-(i:Nat)) 1) where
 mem:=by simp
 obj:=λi h st b hb=>by
  have e:b=it:=by simpa using hb
  subst e
  exact⟨_,st,λv z=>by
   have z':Data.fields _=Data.cell v:=z
   cases z'⟩
 keep:=λi h h' st k=>k it (by simp) _ st
 item:=by
  intro X hP hw hK hc i pins s σ H E I hf st hg
  subst hP hw hK
  obtain⟨f0,f1,f2,f3,f4,f5⟩:=hf it (by simp)
  have W:=Walks.range (prog:=X.prog) (w:=X.w) (I.ok.hd hc) it lo 1 n
  refine W.item i s _ _ hg st λv h' tk hv st' kk=>?_
  obtain⟨t,rfl⟩:=hv
  have I1:Inv X pins σ H {s with heap:=h',toks:=tk}:=I.turned (λb o hb e=>kk b o (by simpa using hb) e) f0 f1 f3 f4 f5
  refine⟨_,rfl,Q5 (s:={s with heap:=h',toks:=tk}) (n:="range_iterator") st' rfl rfl (by decide) ⟨.int (lo+i),H,I1,⟨t,?_⟩,⟨rfl,rfl⟩,st',λb hb=>(hf b hb).1⟩⟩
  rw[Int.mul_one]
 done:=by
  intro X hP hw hK hc i pins s σ H E I hf st hg
  subst hP hw hK
  obtain⟨f0,f1,f2,f3,f4,f5⟩:=hf it (by simp)
  exact wpAny_pyNext_range_end (I.ok.hd hc) st (by have:n<=i:=hg;omega) λh' eb=>⟨rfl,I.turned (t':=s.toks) (λb o hb e=>eb b o hb e) f0 f1 f3 f4 f5⟩
 self:=λ_ _ _ _ _ st h=>wpAny_pyIter_rangeiter st h
end L2
namespace L2
open PySem PySem.Spec PyProof.Rows
section
variable {X:Cx} {tg:aF}
def zgE(K:aE)(tl:TE):TI:=λσ H R=>tl σ H λx H1=>∃a,x=.ref a/\(∃xs,SqL K H1 a xs)/\R (Itl K a) H1
def zh8(K:aE)(tl:TE):TI:=λσ H R=>tl σ H λx H1=>∃a,x=.ref a/\(∃xs,SqT K H1 a xs)/\R (Itt K a) H1
theorem ZV(z:PE X l tl):PI X tg l (zgE X.K tl):=by
 intro pins s σ H R I h
 refine thn (z pins s σ H _ I h) λv s1 ⟨x,H1,j,r1,J⟩=>?_
 obtain⟨a,e,⟨xs,O⟩,q⟩:=J
 subst e
 cases r1
 obtain⟨its,Y,p,Z⟩:=j.list O
 refine ik p.isList ?_
 refine⟨s1.heap.objs.size,[s1.heap.objs.size],_,_,H1,rfl,j.kept (t':=s1.toks) λb o e=>bJ _ e,WT a _,⟨_,bW _ rfl,rfl,rfl⟩,λb U=>?_,q⟩
 have e:b=s1.heap.objs.size:=by simpa using U
 subst e
 exact j.fpOk (aP _) (j.hok.fresh (aP _))
theorem zfg(z:PE X l tl):PI X tg l (zh8 X.K tl):=by
 intro pins s σ H R I h
 refine thn (z pins s σ H _ I h) λv s1 ⟨x,H1,j,r1,J⟩=>?_
 obtain⟨a,e,⟨xs,O⟩,q⟩:=J
 subst e
 cases r1
 obtain⟨its,Y,p,Z⟩:=j.tuple O
 refine il (show s1.heap.IsTuple a its.toArray from p) ?_
 refine⟨s1.heap.objs.size,[s1.heap.objs.size],_,_,H1,rfl,j.kept (t':=s1.toks) λb o e=>bJ _ e,Xa a _,⟨_,bW _ rfl,rfl,rfl⟩,λb U=>?_,q⟩
 have e:b=s1.heap.objs.size:=by simpa using U
 subst e
 exact j.fpOk (aP _) (j.hok.fresh (aP _))
theorem zbO{pins:List (aB×aL)}{σ:St}{H:Hp}{s:aD}{R:It->Hp->Prop}{E:aA->aD->Prop}{lo hi:Int}{t u v:dU}{tk:Nat}(I:Inv X pins σ H s)(h1:-(2^62)<=lo)(h2:lo<2^62)(z:-(2^62)<=hi)(J:hi<2^62) 
  (q:R (Itr lo (hi-lo).toNat) H):wpAny (aI X.prog X.w) X.A (pyIter (.ref s.heap.objs.size)) (PIE X pins σ tg R) E {s with heap:=s.heap.push {cls:=.type "range",data:=.fields #[.int lo t,.int hi u,.int 1 v]},toks:=tk}:=by
 refine wpAny_pyIter_range (IsRange.new ..) (small_one h1 h2 z J) ?_
 have j:Inv X pins σ H {s with heap:=s.heap.push {cls:=.type "range",data:=.fields #[.int lo t,.int hi u,.int 1 v]},toks:=tk}:=I.kept λb o e=>bJ _ e
 refine⟨(s.heap.push {cls:=.type "range",data:=.fields #[.int lo t,.int hi u,.int 1 v]}).objs.size,[(s.heap.push {cls:=.type "range",data:=.fields #[.int lo t,.int hi u,.int 1 v]}).objs.size],_,_,H,rfl,
  j.kept (t':=tk) λb o e=>bJ _ e,Q6 _ lo (hi-lo).toNat,?_,λb O=>?_,q⟩
 ·have U:lo+((0:Nat):Int)*1=lo:=by simp
  have Y:(((hi-lo).toNat:Nat):Int)-((0:Nat):Int)=nw lo hi 1:=by rw[rangeSize_one];split <;>omega
  show IsRangeIter _ _ (lo+((0:Nat):Int)*1) ((((hi-lo).toNat:Nat):Int)-((0:Nat):Int)) 1
  rw[U,Y]
  exact bW _ rfl
 ·have e:b=(s.heap.push {cls:=.type "range",data:=.fields #[.int lo t,.int hi u,.int 1 v]}).objs.size:=by simpa using O
  subst e
  exact j.fpOk (aP _) (j.hok.fresh (aP _))
def zgF(ta:TA):TI:=λσ H R=>ta σ H λvs H1=>∃j:Int,vs=[.int j]/\-(2^62)<=j/\j<2^62/\R (Itr 0 j.toNat) H1
theorem WU(J:Gl X "range")(O:X.mg "range"=none)(U:PA X [a] ta)(Y:aX [a] X.env=[(false,aQ a X.env)]:=by rfl):PI X tg (.Call (.Name "range" p) [a] [] pos) (zgF ta):=by
 intro pins s σ H R I h
 refine im (vh I J O boot_range (gW (thn (U pos pins s σ H _ I h) λus s1 ⟨vs,H1,Z,r1,z⟩=>?_) Y rfl))
 obtain⟨j,e,z,q2,q⟩:=z
 subst e
 cases r1 with
 | cons r rr=>
  cases rr
  obtain⟨t,rfl⟩:=r
  exact call_range_1 (zbO Z (by omega) (by omega) z q2 (by simpa using q))
def zh9(z:TI)(g:TG)(tb:TS):TS:=λD σ H=>z σ H λJ H1=>∃W:Nat->Nat->St->Hp->Prop,(∃m,W 0 m σ H1)/\∀i m σ H,W i m σ H->
 (J.stop i H/\D.nx σ H)\/(J.go i H/\∃N:St->Hp->Prop,(∀j H',N j H'->∃q,q<m/\W (i+1) q j H')/\∀x H',J.yld i H x H'->g x σ H' λO H2=>tb {D with nx:=N,ct:=N,bk:=D.nx} O H2)
def Zn(fp:List aB)(h:aN):List (aB×aL):=fp.filterMap λb=>(h.get? b).map λo=>(b,o)
theorem uR(j:b∈fp)(e:h.get? b=some o):(b,o)∈Zn fp h:=ll.mpr ⟨b,j,by rw[e];rfl⟩
theorem zas(j:p∈Zn fp h):p.1∈fp/\h.get? p.1=some p.2:=by
 obtain⟨b,z,e⟩:=ll.mp j
 cases q:h.get? b with
 | none=>rw[q]at e;cases e
 | some o=>
  rw[q]at e
  have J:(b,o)=p:=cV e
  subst J
  exact⟨z,q⟩
theorem Inv.pinned(I:Inv X pins σ H s)(J:∀b∈fp,xz X pins H b)(ho:∀b∈fp,∃o,s.heap.get? b=some o/\∀v,o.data≠.cell v):Inv X (pins++Zn fp s.heap) σ H s :=
 I.pins_of λp O=>(cA.mp O).elim (λz=>I.pin p (cX _ z)) λz=>by
  obtain⟨j,e⟩:=zas z
  obtain⟨R,f1,f2,_⟩:=J p.1 j
  obtain⟨o,q,d⟩:=ho p.1 j
  rw[e]at q;cases q
  exact⟨e,R,f1,f2,d⟩
theorem Inv.unpinned(I:Inv X (pins++pl) σ H s):Inv X pins σ H s:=I.pins_of λp j=>I.pin p (cX _ (dJ _ j))
theorem vi{iter:aF}{body:List aS}{wi:TI}{g:TG}{tb:TS}{pos:aK}(hp:iY (aI X.prog X.w) X.A X.env X.xe)(hc:X.calm=true)(hi:PI X tg iter wi)(hg:PG X tg g)(hb:PSs X body tb) 
  (hs:∀x,fN iter X.env x=pure x:=by intro _;rfl):PS X (.For tg iter body [] pos) (zh9 wi g tb):=by
 intro pins s σ H D I h
 refine wpAny_For (thn (hi pins s σ H _ I h) λv s1 h1=>thn h1 λitv s2 h2=>?_) hs
 obtain⟨it,fp,tn,J,H2,e,I2,T,st2,f2,W,⟨m0,w0⟩,turn⟩:=h2
 subst e
 have stat:∀{H':Hp},(∀b∈fp,H' b=none)->∀b∈fp,xz X pins H' b:=λhn b hb=>⟨hn b hb,(f2 b hb).2⟩
 refine codeAny_forLoop_any (λn s'=>∃i σ' H',Inv X pins σ' H' s'/\tn i s'.heap/\(∀b∈fp,H' b=none)/\W i n σ' H') ?_ m0 ⟨0,σ,H2,I2,st2,λb hb=>(f2 b hb).1,w0⟩
 rintro n s3 ⟨i,σ3,H3,I3,st3,fr3,w3⟩
 rcases turn i n σ3 H3 w3 with⟨stop,qn⟩|⟨go,N,hN,step⟩
 ·refine gB hp (thn (T.done X rfl rfl rfl hc i pins s3 σ3 H3 X.xe I3 (stat fr3) st3 stop) λr s4 ⟨hr,I4⟩=>?_)
  subst hr
  exact iW ⟨σ3,H3,I4,qn⟩
 ·refine gB hp (thn (T.item X rfl rfl rfl hc i pins s3 σ3 H3 X.xe I3 (stat fr3) st3 go) λr s4 ⟨u,hr,h4⟩=>?_)
  subst hr
  refine gB hp (thn h4 λ_ s5 ⟨x,H5,I5,r5,y5,st5,fr5⟩=>?_)
  have I5':=I5.pinned (stat fr5) (T.obj _ _ st5)
  refine gB hp (thn (hg _ s5 σ3 H5 x u _ I5' r5 (step x H5 y5)) λ_ s6 ⟨σ6,H6,I6,q6⟩=>?_)
  refine gB hp (thn (hb _ s6 σ6 H6 _ I6 q6) λf s7 q7=>?_)
  have io:∀{σ7:St} {H7:Hp},Inv X (pins++Zn fp s5.heap) σ7 H7 s7->N σ7 H7->∃m,m<n/\∃i σ' H',Inv X pins σ' H' s7/\tn i s7.heap/\(∀b∈fp,H' b=none)/\W i m σ' H':=λ{σ7 H7} I7 n7=>by
   obtain⟨m',hm,w7⟩:=hN σ7 H7 n7
   refine⟨m',hm,i+1,σ7,H7,I7.unpinned,T.keep _ _ _ st5 λb hb o e=>(I7.pin (b,o) (cX _ (cX _ (uR hb e)))).1,λb hb=>?_,w7⟩
   obtain⟨o,e,d⟩:=T.obj _ _ st5 b hb
   exact(I7.pin (b,o) (cX _ (cX _ (uR hb e)))).2.1
  cases f with
  | next=>obtain⟨σ7,H7,I7,n7⟩:=q7;exact io I7 n7
  | cont=>obtain⟨σ7,H7,I7,n7⟩:=q7;exact io I7 n7
  | brk=>obtain⟨σ7,H7,I7,q7⟩:=q7;exact⟨σ7,H7,I7.unpinned,q7⟩
  | ret v=>obtain⟨x7,σ7,H7,I7,r7,q7⟩:=q7;exact⟨x7,σ7,H7,I7.unpinned,r7,q7⟩
end
theorem uS{K:aE}{a:aB}{xs:List V}{g:TG}{tb:TS}{D:Ends}{σ:St}{H:Hp}(j:Nat->St->Hp->Prop)(U:j 0 σ H)(Y:∀i σ H,i<=xs.length->j i σ H->SqL K H a xs) 
  (Z:∀i x σ H,xs[i]?=some x->j i σ H->g x σ H λJ H2=>tb {D with nx:=j (i+1),ct:=j (i+1),bk:=D.nx} J H2) (hd:∀σ H,j xs.length σ H->D.nx σ H) :
  ∃W:Nat->Nat->St->Hp->Prop,(∃m,W 0 m σ H)/\∀i m σ H,W i m σ H->
   ((Itl K a).stop i H/\D.nx σ H)\/((Itl K a).go i H/\∃N:St->Hp->Prop,(∀O H',N O H'->∃R,R<m/\W (i+1) R O H')/\∀x H',(Itl K a).yld i H x H'->g x σ H' λJ H2=>tb {D with nx:=N,ct:=N,bk:=D.nx} J H2):=by
 refine⟨λi m σ H=>m=xs.length-i/\i<=xs.length/\j i σ H,⟨xs.length,by simp,cR _,U⟩,?_⟩
 rintro i m σ H ⟨rfl,hi,p⟩
 have q:=Y i σ H hi p
 by_cases z:i<xs.length
 ·refine .inr ⟨⟨xs,xs[i],q,by simp[z]⟩,j (i+1),λO H' p'=>⟨xs.length-(i+1),by omega,rfl,z,p'⟩,λx H' y=>?_⟩
  obtain⟨e,y⟩:=y
  subst e
  exact Z i x σ _ (y xs q) p
 ·have e:i=xs.length:=by omega
  subst e
  exact .inl ⟨⟨xs,q,aP _⟩,hd σ H p⟩
end L2
namespace L2
open PySem PySem.Spec PyProof.Rows
abbrev R2:=V->V->Hp->VK->Prop
def OpR(X:Cx)(f:aA->aA->cQ aA)(r:R2):Prop :=
 ∀(pins:List (aB×aL)) (s:aD) (σ:St) (H:Hp) (x y:V) (v u:aA) (Q:VK),Inv X pins σ H s->zz x v->zz y u->r x y H Q->
  wpAny (aI X.prog X.w) X.A (f v u) (EP X pins σ Q) X.xe s
def xc(X:Cx)(f:aA)(r:List V->Hp->VK->Prop):Prop :=
 ∀(pins:List (aB×aL)) (s:aD) (σ:St) (H:Hp) (xs:List V) (us:List aA) (Q:VK),Inv X pins σ H s->zC xs us->r xs H Q->
  wpAny (aI X.prog X.w) X.A (call f us) (EP X pins σ Q) X.xe s
def tOp(r:R2)(ta tb:TE):TE:=λσ H Q=>ta σ H λx H1=>tb σ H1 λy H2=>r x y H2 Q
def rI(C:Int->Int->Prop)(g:Int->Int->V):R2:=λx y H Q=>∃i j,x=.int i/\y=.int j/\C i j/\Q (g i j) H
def rI0(g:Int->Int->V):R2:=λx y H Q=>∃i j,x=.int i/\y=.int j/\Q (g i j) H
section
variable {X:Cx} {a b c:aF} {ta tb tc:TE} {pos:aK}
theorem zbP(j:PE X a ta)(q:PE X b tb){pins:List (aB×aL)}{s:aD}{σ:St}{H:Hp}{R:V->V->Hp->Prop}(I:Inv X pins σ H s) 
  (h:ta σ H λx H1=>tb σ H1 λy H2=>R x y H2) {Q:aA->aD->Prop} {f:aA->aA->cQ aA}
  (z:∀v u s2 x y H2,Inv X pins σ H2 s2->zz x v->zz y u->R x y H2->wpAny (aI X.prog X.w) X.A (f v u) Q X.xe s2) :
  wpAny (aI X.prog X.w) X.A (aQ a X.env) (λv J=>wpAny (aI X.prog X.w) X.A (aQ b X.env) (λu O=>wpAny (aI X.prog X.w) X.A (f v u) Q X.xe O) X.xe J) X.xe s:=by
 refine thn (j pins s σ H _ I h) λv s1 ⟨x,H1,U,r1,Y⟩=>?_
 refine thn (q pins s1 σ H1 _ U Y) λu s2 ⟨y,H2,Z,r2,q2⟩=>?_
 exact z v u s2 x y H2 Z r1 r2 q2
theorem zgG(ho:OpR X (dD j) r)(z:PE X a ta)(J:PE X b tb):PE X (.BinOp a j b pos) (tOp r ta tb):=by
 intro pins s σ H Q I h
 exact wpAny_BinOp (zbP z J I h λv u s2 x y H2 O R U q=>ho pins s2 σ H2 x y v u Q O R U q)
theorem opI{f:aA->aA->cQ aA}{C:Int->Int->Prop}{g:Int->Int->Int} 
  (rule:∀(i j:Int) (t u:dU) (s:aD) (Q:aA->aD->Prop) (E:aA->aD->Prop),C i j->Q (.int (g i j) s.toks) {s with toks:=s.toks+1}->wpAny (aI X.prog X.w) X.A (f (.int i t) (.int j u)) Q E s) :
  OpR X f (rI C λi j=>.int (g i j)):=by
 intro pins s σ H x y v u Q I z J h
 obtain⟨i,j,rfl,rfl,O,q⟩:=h
 obtain⟨t,rfl⟩:=z
 obtain⟨t',rfl⟩:=J
 exact rule i j t t' s _ _ O ⟨.int (g i j),H,I.tok _,⟨_,rfl⟩,q⟩
theorem zfh{f:aA->aA->cQ aA}{g:Int->Int->Int} 
  (rule:∀(i j:Int) (t u:dU) (s:aD) (Q:aA->aD->Prop) (E:aA->aD->Prop),Q (.int (g i j) s.toks) {s with toks:=s.toks+1}->wpAny (aI X.prog X.w) X.A (f (.int i t) (.int j u)) Q E s) :
  OpR X f (rI0 λi j=>.int (g i j)):=by
 intro pins s σ H x y v u Q I z J h
 obtain⟨i,j,rfl,rfl,q⟩:=h
 obtain⟨t,rfl⟩:=z
 obtain⟨t',rfl⟩:=J
 exact rule i j t t' s _ _ ⟨.int (g i j),H,I.tok _,⟨_,rfl⟩,q⟩
theorem zbQ{f:aA->aA->cQ aA}{g:Int->Int->Bool} 
  (rule:∀(i j:Int) (t u:dU) (s:aD) (Q:aA->aD->Prop) (E:aA->aD->Prop),Q (.bool (g i j)) s->wpAny (aI X.prog X.w) X.A (f (.int i t) (.int j u)) Q E s) :
  OpR X f (rI0 λi j=>.bl (g i j)):=by
 intro pins s σ H x y v u Q I z J h
 obtain⟨i,j,rfl,rfl,q⟩:=h
 obtain⟨t,rfl⟩:=z
 obtain⟨t',rfl⟩:=J
 exact rule i j t t' s _ _ ⟨.bl (g i j),H,I,rfl,q⟩
def zfi(i j:Int):Prop:=0<j/\j<1073741824
def zfj(i j:Int):Prop:=0<=j/\j<=1000000/\i.natAbs<2^64
def Q7(i j:Int):Prop:=(-(2^64)<i/\i<2^64)\/(-(2^64)<j/\j<2^64)
theorem Q7.ok{i j:Int}(h:Q7 i j):IntMulOk i j:=by
 rcases h with⟨h1,h2⟩|⟨h1,h2⟩
 ·exact .of_left (ln h1 h2)
 ·exact .of_right (ln h1 h2)
theorem zfk:OpR X (dD .Add) (rI0 λi j=>.int (i+j)):=zfh λ_ _ _ _ _ _ _ q=>add_int q
theorem zat:OpR X (dD .Sub) (rI0 λi j=>.int (i-j)):=zfh λ_ _ _ _ _ _ _ q=>sub_int q
theorem wF:OpR X (dD .Mult) (rI Q7 λi j=>.int (i*j)):=opI λ_ _ _ _ _ _ _ z q=>mul_int q z.ok
theorem zd5:OpR X (dD .FloorDiv) (rI zfi λi j=>.int (i/j)):=opI λi j _ _ _ _ _ hc q=>by
 have h1:(0:Int)<j:=hc.1
 have h2:j<1073741824:=hc.2
 exact floordiv_int (by omega) (by rw[Int.fdiv_eq_ediv_of_nonneg i (by omega)];exact q) (.inl (PyProof.noPylong_small (by omega)))
theorem Zo:OpR X (dD .Mod) (rI (λ_ j=>0<j) λi j=>.int (i%j)):=opI λi j _ _ _ _ _ z q=>by
 have h1:(0:Int)<j:=z
 exact mod_int' (by omega) (by rw[Int.fmod_eq_emod_of_nonneg i (by omega)];exact q)
theorem zfl:OpR X (dD .Pow) (rI zfj λi j=>.int (i^j.toNat)):=opI λ_ _ _ _ _ _ _ z q=>pow_int_small z.1 z.2.1 z.2.2 q
end
def zia:V->V->Bool
 | .non,.non=>true|.non,.int _=>true|.int _,.non=>true|.non,.bl _=>true|.bl _,.non=>true|.non,.str _=>true|.str _,.non=>true
 | .int _,.int _=>true|.bl _,.bl _=>true|.str _,.str _=>true|.byt _,.byt _=>true
 | .int _,.str _=>true|.str _,.int _=>true|.bl _,.str _=>true|.str _,.bl _=>true
 | _,_=>false
def rEq:R2:=λx y H Q=>zia x y=true/\Q (.bl (decide (x=y))) H
theorem zd6{i j:Int}:decide (V.int i=V.int j)=(i==j):=by
 rw[gX]
 simp
theorem zfm:decide (V.bl i=V.bl j)=(i==j):=by
 rw[gX]
 simp
theorem zd7:decide (V.str i=V.str j)=(i==j):=by
 rw[gX]
 simp
theorem zd8:decide (V.byt i=V.byt j)=(i.toList==j.toList):=by
 rw[gX]
 cases i
 cases j
 simp
section
variable {X:Cx} {a b c:aF} {ta tb tc:TE} {pos:aK}
theorem xb(I:Inv X pins σ H s)(q:Q (.bl k) H)(e:k=j):EP X pins σ Q (.bool j) s:=by
 subst e
 exact⟨.bl k,H,I,rfl,q⟩
theorem zgH:OpR X (cK .Eq) rEq:=by
 intro pins s σ H x y v u Q I O z h
 obtain⟨J,q⟩:=h
 cases x with
 | non=>
  cases O
  cases y with
  | non=>cases z;exact ny (xb I q (by simp))
  | bl j=>cases z;exact nz (xb I q (by simp))
  | int j=>obtain⟨t',rfl⟩:=z;exact nA (xb I q (by simp))
  | str j=>obtain⟨t',rfl⟩:=z;exact nB (xb I q (by simp))
  | _=>exact absurd (show false=true from J) dZ
 | bl i=>
  cases O
  cases y with
  | non=>cases z;exact nC (xb I q (by simp))
  | bl j=>cases z;exact eq_bool (xb I q zfm)
  | str j=>obtain⟨t',rfl⟩:=z;exact nD (xb I q (by simp))
  | _=>exact absurd (show false=true from J) dZ
 | int i=>
  obtain⟨t,rfl⟩:=O
  cases y with
  | non=>cases z;exact nE (xb I q (by simp))
  | int j=>obtain⟨t',rfl⟩:=z;exact eq_int (xb I q zd6)
  | str j=>obtain⟨t',rfl⟩:=z;exact nF (xb I q (by simp))
  | _=>exact absurd (show false=true from J) dZ
 | str i=>
  obtain⟨t,rfl⟩:=O
  cases y with
  | non=>cases z;exact nG (xb I q (by simp))
  | bl j=>cases z;exact nH (xb I q (by simp))
  | int j=>obtain⟨t',rfl⟩:=z;exact nI (xb I q (by simp))
  | str j=>obtain⟨t',rfl⟩:=z;exact eq_str (xb I q zd7)
  | _=>exact absurd (show false=true from J) dZ
 | byt i=>
  obtain⟨t,rfl⟩:=O
  cases y with
  | byt j=>obtain⟨t',rfl⟩:=z;exact PySem.W.eq_bytes (xb I q zd8)
  | _=>exact absurd (show false=true from J) dZ
 | _=>cases y <;>exact absurd (show false=true from J) dZ
theorem Vv:OpR X (cK .Lt) (rI0 λi j=>.bl (decide (i<j))):=zbQ λ_ _ _ _ _ _ _ q=>lt_int q
theorem Xb:OpR X (cK .LtE) (rI0 λi j=>.bl (decide (i<=j))):=zbQ λ_ _ _ _ _ _ _ q=>le_int q
theorem Q8:OpR X (cK .Gt) (rI0 λi j=>.bl (decide (j<i))):=zbQ λ_ _ _ _ _ _ _ q=>gt_int q
theorem zfn:OpR X (cK .Is) (λx y H Q=>y=.non/\Q (.bl (decide (x=.non))) H):=by
 intro pins s σ H x y v u Q I j z h
 obtain⟨rfl,q⟩:=h
 cases z
 refine is_none_gen (xb I q ?_)
 cases x <;>first
  | (cases j;rfl)
  | (obtain⟨t,rfl⟩:=j;rfl)
theorem OpR.or(h:OpR X f r)(h':OpR X f J):OpR X f (λx y H Q=>r x y H Q\/J x y H Q):=by
 intro pins s σ H x y v u Q I j z q
 rcases q with q|q
 ·exact h pins s σ H x y v u Q I j z q
 ·exact h' pins s σ H x y v u Q I j z q
theorem yo(b:aF)(h:j≠.In:=by decide)(h2:j≠.NotIn:=by decide):fZ j b=false:=by
 have q:(j==CmpOp.In)=false:=by cases j <;>first|rfl|exact absurd rfl h
 have z:(j==CmpOp.NotIn)=false:=by cases j <;>first|rfl|exact absurd rfl h2
 cases b <;>simp[fZ,q,z]
theorem zd9(ho:OpR X (cK j) r)(z:PE X a ta)(J:PE X b tb)(O:fZ j b=false):PE X (.Compare a [j] [b] pos) (tOp r ta tb):=by
 intro pins s σ H Q I h
 exact wpAny_Compare1 (zbP z J I h λv u s2 x y H2 R U Y q=>ho pins s2 σ H2 x y v u Q R U Y q) O
def zgI(t:TE):TT:=λσ H Q=>t σ H λx H'=>∃k,x=.bl k/\Q k H'
theorem ZW(ho:OpR X (cK j) r)(q:PE X a ta)(J:PE X b tb)(O:fZ j b=false):PT X (.Compare a [j] [b] pos) (zgI (tOp r ta tb)):=by
 intro pins s σ H Q I h
 refine ld (thn (q pins s σ H _ I h) λv s1 ⟨x,H1,R,r1,U⟩=>thn (J pins s1 σ H1 _ R U) λu s2 ⟨y,H2,Y,r2,Z⟩=>
  thn (ho pins s2 σ H2 x y v u _ Y r1 r2 Z) λc s3 ⟨z,H3,I3,r3,k,e,q3⟩=>?_) O
 subst e
 cases r3
 exact gA ⟨H3,I3,q3⟩
def zau(r q:R2)(ta tb tc:TE):TE:=λσ H Q=>ta σ H λx H1=>tb σ H1 λy H2=>r x y H2 λz j=>∃k,z=.bl k/\
 (if k=true then tc σ j λJ O=>q y J O Q else Q (.bl false) j)
theorem zbR{op op':gS}{r r':R2}(ho:OpR X (cK op) r)(ho':OpR X (cK op') r')(ha:PE X a ta)(hb:PE X b tb)(hc:PE X c tc) 
  (hm:lastMarks [op,op'] [b,c]=false:=by with_unfolding_all rfl):PE X (.Compare a [op,op'] [b,c] pos) (zau r r' ta tb tc):=by
 intro pins s σ H Q I h
 refine Compare_chain (thn (ha pins s σ H _ I h) λv s1 ⟨x,H1,I1,r1,q1⟩=>chain_link (thn (hb pins s1 σ H1 _ I1 q1) λu s2 ⟨y,H2,I2,r2,q2⟩=>
  thn (ho pins s2 σ H2 x y v u _ I2 r1 r2 q2) λd s3 ⟨z,H3,I3,r3,k,e,q3⟩=>?_)) hm
 subst e
 cases r3
 refine gA ?_
 cases k with
 | false=>exact ite_ff ⟨.bl false,H3,I3,rfl,q3⟩
 | true=>exact ite_tt (chain_last (thn (hc pins s3 σ H3 _ I3 q3) λw' s4 hh5'=>(by obtain⟨z',H4,I4,r4,q4⟩:=hh5';exact ho' pins s4 σ H4 y z' u w' Q I4 r2 r4 q4)))
theorem Xc:(aH:Nat)<2^63:=by rw[eX];decide
theorem vd(r:zC [x] us):∃u,us=[u]/\zz x u:=by
 cases r with
 | cons r1 r2=>cases r2;exact⟨_,rfl,r1⟩
theorem zav:xc X (.type "int") (λxs H Q=>(∃i,xs=[.int i]/\Q (.int i) H)\/∃k,xs=[.bl k]/\Q (.int (if k then 1 else 0)) H):=by
 intro pins s σ H xs us Q I r h
 rcases h with⟨i,rfl,q⟩|⟨k,rfl,q⟩
 ·obtain⟨u,rfl,t,rfl⟩:=vd r
  exact call_int_int ⟨.int i,H,I,⟨_,rfl⟩,q⟩
 ·obtain⟨u,rfl,r1⟩:=vd r
  cases r1
  exact call_int_bool ⟨.int (if k then 1 else 0),H,I.tok _,⟨_,rfl⟩,q⟩
end
end L2
namespace L2
open PySem PySem.Spec PyProof.Rows
structure ObjM (h:aN) (x dx C:aB) (mA:aC->Option aA):Prop where
 obj:h.get? x=some (fM C dx)
 ns:h.Ns1 dx mA
 ne:dx≠x
theorem zaw{h:aN}{dx:aB}{mA:aC->Option aA}(n:h.Ns1 dx mA):∃J,h.get? dx=some J/\∀name,i0 name J=some (mA name):=by
 obtain⟨o,es,ep,ho,O,R,_,U⟩:=n
 refine⟨o,ho,λname=>?_⟩
 have e:=U name
 unfold nsFind findBy at e
 rw[<-Array.find?_toList]at e
 unfold i0
 rw[O]
 dsimp only
 split
 ·rename_i y q
  rw[q]at e
  exact congrArg some e
 ·rename_i q
  rw[q]at e
  have a:es.toList.any (·.refKey)=false:=by
   rw[List.any_eq_false]
   intro y Y
   obtain⟨z,t,j⟩:=R y (Array.mem_toList_iff.mp Y)
   simp[DictEntry.refKey,j]
  have Z:¬es.toList.any (·.refKey)=true:=by rw[a];exact dZ
  rw[if_neg Z]
  exact congrArg some e
theorem ObjM.look(I:ObjM h x dx C mA):∃j,PySem.W.InstAt h x (fM C dx) C (some j)/\∀name,i0 name j=some (mA name) :=
 let ⟨j,ho,q⟩:=zaw I.ns
 ⟨j,⟨I.obj,rfl,rfl,ho⟩,q⟩
section
variable {prog:aU} {w:aO} {A:bB} {E:aA->aD->Prop} {s:aD} {K:aE} {x dx C f:aB} {mA:aC->Option aA} {name:aC} {v:aA}
theorem zea{j:Bool}{Q:aA->aD->Prop}(X:K.In s.heap)(I:ObjM s.heap x dx C mA)(z:ip K C name=true)(O:i5 K C=true) 
  (R:cM K (.ref C) name=some none) (U:mA name=some v) (q:lp v=true) (h:Q v {s with toks:=s.toks+1}) :
  wpAny (aI prog w) A (getAttr (.ref x) name j) Q E s:=by
 obtain⟨Z,J,Y⟩:=I.look
 exact PySem.W.get_value X J (jQ z).1 (PySem.W.findObj_own O R rfl (by rw[Y,U])) q h
theorem zbS{pl:cQ Bool}{Q:aA×List aA->aD->Prop}(X:K.In s.heap)(I:ObjM s.heap x dx C mA)(j:ip K C name=true) 
  (q:cM K (.ref C) name=some (some (.ref f))) (z:gD K (.ref f)=true) (O:mA name=none) (h:Q (.ref f,[.ref x]) s) :
  wpAny (aI prog w) A (i6 (.ref x) name pl) Q E s:=by
 obtain⟨R,J,U⟩:=I.look
 exact PySem.W.method_fn X J (jQ j).1 (jQ j).2 q (beq_iff_eq.mp z) (by show(i0 name R).map (·.isSome)=some false;rw[U,O];rfl) h
theorem zeb{ns:List aC}{Q:Unit->aD->Prop}(X:K.In s.heap)(I:ObjM s.heap x dx C mA) 
  (Y:cM K (.ref C) "__setattr__"=some (some (.builtin "object.__setattr__"))) (Z:jR K C=true) (ht:jS K C name=some none) (hh:i5 K C=true)
  (hw:jG mA ns) (hsz:ns.length<=aH)
  (h:∀h',ObjM h' x dx C (λy=>if y=name then some v else mA y)->ii dx s.heap h'->Q () {s with heap:=h',toks:=s.toks+2}) :
  wpAny (aI prog w) A (setAttr (.ref x) name v) Q E s:=by
 obtain⟨od,J,hl⟩:=I.look
 refine PySem.W.set_plain X J Y (PySem.W.osa_open (s:={s with toks:=s.toks+1}) (r:=none) X J Z ht λb=>?_)
 obtain⟨cd,hc,z⟩:=PySem.W.any_some hh
 have hx:s.heap.get? x=some ⟨.ref C,some dx,.plain,#[]⟩:=I.obj
 refine aJ (bM (aJ (aJ (wpAny_loadPart hx (aJ (nJ (s:={s with toks:=s.toks+1}) (PySem.W.looks_clsIn X hc) ?_))))))
 rw[z]
 refine bM (a:=some dx) (aJ (bM (aJ ?_)))
 refine wpAny_nsSet1 (s:={s with toks:=s.toks+1}) I.ns λh' j q=>?_
 obtain⟨oD,aa,ab,O,R,U⟩:=j.count (nK name v hw)
 refine aJ (wpAny_lookBehind O (by rw[R];exact pastItsLine_dict (bL U (by rw[cC];omega))) ?_)
 exact bM (h _ ⟨(q.2 _ (aT I.ne)).trans I.obj,j,I.ne⟩ q)
theorem zbT{R:i7->aD->Prop}{vs:List aA}{q:List (aC×aA)}(X:K.In s.heap)(z:jT K C=true) 
  (hi:cM K (.ref C) "__init__"=some (some (.ref f))) (J:PySem.W.typeIn K (.ref f)=some (.type "function"))
  (h:codeAny (aI prog w) (A.under (.builtin "type.__call__" ⟨.ref C::vs,q⟩)) (.call (.ref f) ⟨.ref (s.heap.objs.size+1)::vs,q⟩) (PySem.W.InitBack (s.heap.objs.size+1) R)
   {s with heap:=(s.heap.push eY).push (fM C s.heap.objs.size)}) :
  codeAny (aI prog w) A (.call (.ref C) ⟨vs,q⟩) R s:=by
 obtain⟨O,g,d,t,os⟩:=s
 exact PySem.W.make_core (PySem.W.makes_of X z) (PySem.W.looks_findIn X hi) (λj=>PySem.W.bind_fn X j J) (.inl rfl) h
end
def yg(f:aC)(v:V):List (aC×V)->List (aC×V)
 | []=>[(f,v)]
 | (g,x)::r=>if g=f then(g,v)::r else(g,x)::yg f v r
theorem YA(f g:aC)(v:V):∀fs:List (aC×V),(yg f v fs).lookup g=if g=f then some v else fs.lookup g
 | []=>by
  show eZ g [(f,v)]=_
  by_cases h:g=f
  ·have j:(g==f)=true:=beq_iff_eq.mpr h
   simp only[eZ,j,if_pos h]
  ·have j:(g==f)=false:=beq_eq_false_iff_ne.mpr h
   simp only[eZ,j,if_neg h]
 | (k,x)::r=>by
  have z:=YA f g v r
  rw[show yg f v ((k,x)::r)=(if k=f then(k,v)::r else(k,x)::yg f v r)from rfl]
  by_cases q:k=f
  ·rw[if_pos q]
   by_cases h:g=k
   ·have j:(g==k)=true:=beq_iff_eq.mpr h
    simp only[eZ,j,if_pos (h.trans q)]
   ·have j:(g==k)=false:=beq_eq_false_iff_ne.mpr h
    simp only[eZ,j,if_neg (λe:g=f=>h (e.trans q.symm))]
  ·rw[if_neg q]
   by_cases h:g=k
   ·have j:(g==k)=true:=beq_iff_eq.mpr h
    simp only[eZ,j,if_neg (λe:g=f=>q (h.symm.trans e))]
   ·have j:(g==k)=false:=beq_eq_false_iff_ne.mpr h
    simp only[eZ,j]
    exact z
theorem Zp(f:aC)(v:V):∀fs:List (aC×V),f∈(yg f v fs).map (·.1)/\∀g,g∈fs.map (·.1)->g∈(yg f v fs).map (·.1)
 | []=>⟨by simp[yg],λg h=>by simp at h⟩
 | (k,x)::r=>by
  obtain⟨q,z⟩:=Zp f v r
  rw[show yg f v ((k,x)::r)=(if k=f then(k,v)::r else(k,x)::yg f v r)from rfl]
  by_cases j:k=f
  ·rw[if_pos j]
   subst j
   exact⟨by simp,λg h=>by simpa using h⟩
  ·rw[if_neg j]
   refine⟨?_,λg h=>?_⟩
   ·rw[aR]
    exact bC _ q
   ·rw[aR]at h ⊢
    rcases aW.mp h with e|e
    ·exact aW.mpr (.inl e)
    ·exact bC _ (z g e)
theorem wh(f:aC)(v:V):∀fs:List (aC×V),(yg f v fs).length<=fs.length+1
 | []=>by simp[yg]
 | (k,x)::r=>by
  have q:=wh f v r
  rw[show yg f v ((k,x)::r)=(if k=f then(k,v)::r else(k,x)::yg f v r)from rfl]
  by_cases j:k=f
  ·rw[if_pos j,cC,cC];omega
  ·rw[if_neg j,cC,cC];omega
theorem xH.some_of(r:xH (some v) o):∃u,o=some u/\zz v u:=by
 cases o with
 | none=>exact(show False from r).elim
 | some u=>exact⟨u,rfl,r⟩
theorem xH.none_of(r:xH none o):o=none:=by
 cases o with
 | none=>rfl
 | some u=>exact(show False from r).elim
theorem zax(r:zz v u):lp u=true:=by
 cases v with
 | non=>cases (show u=Value.none from r);rfl
 | bl b=>cases (show u=Value.bool b from r);rfl
 | int i=>obtain⟨t,e⟩:=(show ∃t,u=Value.int i t from r);cases e;rfl
 | str x=>obtain⟨t,e⟩:=(show ∃t,u=Value.str x t from r);cases e;rfl
 | byt b=>obtain⟨t,e⟩:=(show ∃t,u=Value.bytes b t from r);cases e;rfl
 | flt b=>obtain⟨t,e⟩:=(show ∃t,u=Value.float b t from r);cases e;rfl
 | ref a=>cases (show u=Value.ref a from r);rfl
 | ty n=>cases (show u=Value.type n from r);rfl
section
variable {P:aU} {w:aO} {H H':Hp} {h h':aN} {a C dx:aB} {fs fs':List (aC×V)}
theorem ZX(j:HOk P w H h)(e:H a=some (.ins C dx fs)):∃mA,ObjM h a dx C mA/\(∀f,xH (fs.lookup f) (mA f))/\jG mA (fs.map (·.1))/\fs.length<=1000/\H dx=some (.own a):=by
 obtain⟨d,z,ne,J,mA,n,r,q⟩:=(show yf P w H h a (.ins C dx fs)from j a _ e)
 exact⟨mA,⟨J,n,ne⟩,r,q,z,d⟩
end
structure Cls (K:aE) (C:aB):Prop where
 pg:ip K C lq=true
 hd:i5 K C=true
 po:jR K C=true
 sa:cM K (.ref C) "__setattr__"=some (some (.builtin "object.__setattr__"))
theorem Cls.get{K:aE}{C:aB}(c:Cls K C)(f:aC):ip K C f=true:=c.pg
def wj(K:aE)(C:aB)(f:aC):Prop:=cM K (.ref C) f=some none
theorem wj.taker{K:aE}{C:aB}{f:aC}(n:wj K C f):jS K C f=some none:=by
 unfold jS
 rw[show cM K (.ref C) f=some none from n]
 rfl
structure Meth (K:aE) (C:aB) (m:aC) (f:aB):Prop where
 at_:cM K (.ref C) m=some (some (.ref f))
 fn:gD K (.ref f)=true
 kp:fO K (.ref f)=true
section
variable {X:Cx} {pins:List (aB×aL)} {σ:St} {H:Hp} {s:aD} {a C dx:aB} {fs:List (aC×V)} {f:aC} {v:V} {A:bB} {E:aA->aD->Prop}
theorem Q9{b:Bool}{Q:aA->aD->Prop}(I:Inv X pins σ H s)(e:H a=some (.ins C dx fs))(c:Cls X.K C)(n:wj X.K C f)(l:fs.lookup f=some v) 
  (h:∀u s',Inv X pins σ H s'->zz v u->Q u s'):wpAny (aI X.prog X.w) A (getAttr (.ref a) f b) Q E s:=by
 obtain⟨mA,O,r,_,_,_⟩:=ZX I.hok e
 obtain⟨u,q,j⟩:=xH.some_of (v:=v) (o:=mA f) (by rw[<-l];exact r f)
 exact zea I.kIn O (c.get f) c.hd n q (zax j) (h u _ (I.tok _) j)
theorem Xd{m:aC}{g:aB}{pl:cQ Bool}{Q:aA×List aA->aD->Prop}(I:Inv X pins σ H s)(e:H a=some (.ins C dx fs))(c:Cls X.K C)(k:Meth X.K C m g)(l:fs.lookup m=none) 
  (h:Q (.ref g,[.ref a]) s):wpAny (aI X.prog X.w) A (i6 (.ref a) m pl) Q E s:=by
 obtain⟨mA,O,r,_,_,_⟩:=ZX I.hok e
 have hn:mA m=none:=xH.none_of (by rw[<-l];exact r m)
 exact zbS I.kIn O (c.get m) k.at_ k.fn hn h
theorem Ja{y:V}{u:aA}{Q:Unit->aD->Prop}(I:Inv X pins σ H s)(e:H a=some (.ins C dx fs))(c:Cls X.K C)(n:wj X.K C f)(hl:fs.length<1000)(R:zz y u) 
  (h:∀s',Inv X pins σ (upd H a (.ins C dx (yg f y fs))) s'->Q () s'):wpAny (aI X.prog X.w) A (setAttr (.ref a) f u) Q E s:=by
 obtain⟨mA,O,r,J,_,ho⟩:=ZX I.hok e
 have U:(fs.map (·.1)).length<=aH:=by rw[aM,eX];omega
 refine zeb I.kIn O c.sa c.po n.taker c.hd J U λh' j Y=>h _ ?_
 have Z:∃o,h'.get? dx=some o:=(by obtain⟨o,_,_,e',_⟩:=j.ns;exact⟨o,e'⟩)
 refine I.write (x:=a) (e:=dx) (by rw[e];exact True.intro) (.inr ho) (λb q hb z=>(Y.2 b hb).trans z) Z ?_
 refine⟨by rw[ze O.ne];exact ho,?_,O.ne,j.obj,_,j.ns,λg=>?_,λg hg=>?_⟩
 ·have:=wh f y fs;omega
 ·show xH ((yg f y fs).lookup g) (if g=f then some u else mA g)
  rw[YA]
  by_cases q:g=f
  ·rw[if_pos q,if_pos q];exact R
  ·rw[if_neg q,if_neg q];exact r g
 ·by_cases q:g=f
  ·rw[q];exact(Zp f y fs).1
  ·refine(Zp f y fs).2 g (J g λz=>hg ?_)
   show(if g=f then some u else mA g)=none
   rw[if_neg q];exact z
theorem Inv.made(I:Inv X pins σ H s):Inv X pins σ (upd (upd H s.heap.objs.size (.own (s.heap.objs.size+1))) (s.heap.objs.size+1) (.ins C s.heap.objs.size []))
  {s with heap:=(s.heap.push eY).push (fM C s.heap.objs.size)}:=by
 have j:(s.heap.push eY).get? s.heap.objs.size=some eY:=bW s.heap rfl
 have z:((s.heap.push eY).push (fM C s.heap.objs.size)).get? (s.heap.objs.size+1)=some (fM C s.heap.objs.size):=by
  have:=bW (s.heap.push eY) (o:=fM C s.heap.objs.size) rfl
  rwa [eT]at this
 have J:(s.heap.push eY).Ns s.heap.objs.size (λ_=>none):=⟨eY,#[],_,j,rfl,(λe O=>absurd O (by simp)),λ_=>rfl⟩
 have R:=I.laid (a:=s.heap.objs.size) (o:=.own (s.heap.objs.size+1)) (h':=s.heap.push eY) (t':=s.toks) (λb u q=>bJ _ q) (aP _) ⟨_,j⟩
 refine R.laid (a:=s.heap.objs.size+1) (o:=.ins C s.heap.objs.size []) (t':=s.toks) (λb u q=>bJ _ q) (eN (eT _ _)) ?_
 have ne:s.heap.objs.size≠s.heap.objs.size+1:=bO (gE _)
 refine⟨by rw[ze ne,zj],cR _,ne,z,λ_=>none,(Heap.Ns1.of_empty J).at λo q=>bJ _ q,λ_=>True.intro,λy U=>absurd rfl U⟩
theorem zec{prog:aU}{w:aO}{env:bS}{e:aF}{f:aC}{pos:aK}{s:aD}{Q:aA->aD->Prop}(j:fA e f env (aQ e env)=aQ e env) 
  (h:wpAny (aI prog w) A (aQ e env) (λo q=>wpAny (aI prog w) A (getAttr o f true) Q E q) E s):wpAny (aI prog w) A (aQ (.Attribute e f pos) env) Q E s :=
 Attribute_any_ h (by rw[arm_eval_Attribute,j])
end
def zib(K:aE)(ta:TE)(f:aC):TE:=λσ H Q=>ta σ H λx H1=>∃a C dx fs v,x=.ref a/\H1 a=some (.ins C dx fs)/\Cls K C/\wj K C f/\fs.lookup f=some v/\Q v H1
def zic(K:aE)(ta tv:TE)(f:aC):TS:=λD σ H=>tv σ H λy H1=>ta σ H1 λx H2=>∃a C dx fs,x=.ref a/\H2 a=some (.ins C dx fs)/\Cls K C/\wj K C f/\fs.length<1000/\
 D.nx σ (upd H2 a (.ins C dx (yg f y fs)))
section
variable {X:Cx} {o e value:aF} {f:aC} {pos pos' tpos:aK} {ta tv:TE}
theorem yV(j:PE X e ta)(z:fA e f X.env (aQ e X.env)=aQ e X.env):PE X (.Attribute e f pos) (zib X.K ta f):=by
 intro pins s σ H Q I h
 refine zec z (thn (j pins s σ H _ I h) λu s1 ⟨x,H1,J,O,a,C,dx,fs,v,ex,R,c,n,l,q⟩=>?_)
 subst ex
 obtain rfl:u=Value.ref a:=O
 exact Q9 J R c n l λZ s2 U Y=>⟨v,H1,U,Y,q⟩
theorem Xe(ha:PE X o ta)(hv:PE X value tv)(hs:cO value (some (.Attribute o f pos')) pos.line X.env=pure false):PS X (.Assign [.Attribute o f pos'] value pos) (zic X.K ta tv f):=by
 intro pins s σ H D I h
 refine plainObj_wpAny_Assign_Attribute (thn (hv pins s σ H _ I h) λu s1 ⟨y,H1,I1,ry,q⟩=>thn (ha pins s1 σ H1 _ I1 q) λov s2 ⟨x,H2,I2,rx,a,C,dx,fs,ex,ea,c,n,l,q2⟩=>?_) hs
 subst ex
 obtain rfl:ov=Value.ref a:=rx
 exact Ja I2 ea c n l ry λs3 I3=>⟨σ,_,I3,q2⟩
end
section
variable {X:Cx} {pins:List (aB×aL)} {σ:St} {H:Hp} {s:aD} {A:bB} {E:aA->aD->Prop} {Q:aA->aD->Prop} {c:aA} {b:Bool}
inductive TyOf (K:aE) (H:Hp):V->aA->Prop where
 | non:TyOf K H .non (.type "NoneType")
 | bl (x:Bool):TyOf K H (.bl x) (.type "bool")
 | int (i:Int):TyOf K H (.int i) (.type "int")
 | str (x:aC):TyOf K H (.str x) (.type "str")
 | flt (x:UInt64):TyOf K H (.flt x) (.type "float")
 | lst {a:aB} {xs:List V} (e:H a=some (.lst xs)):TyOf K H (.ref a) (.type "list")
 | frz {a:aB} {o:aL} {xs:List V} (e:H a=some (.frz o (.lst xs))):TyOf K H (.ref a) (.type "list")
 | tup {a:aB} {xs:List V} (e:H a=some (.tup xs)):TyOf K H (.ref a) (.type "tuple")
 | dK {a:aB} {kvs:List (Key×V)} (e:H a=some (.dK kvs)):TyOf K H (.ref a) (.type "dict")
 | dT {a:aB} {kvs:List (List Key×V)} (e:H a=some (.dT kvs)):TyOf K H (.ref a) (.type "dict")
 | ins {a C dx:aB} {fs:List (aC×V)} (e:H a=some (.ins C dx fs)) (cl:Cls K C) (ha:cM K (.ref C) "__class__"=some (some (.builtin "object.__class__")))
  (hn:PySem.W.specialIn K (.builtin "object.__class__") "__get__"=some (some (.builtin "getset_descriptor.__get__"))) (htk:PySem.W.takesIn K (.builtin "object.__class__")=some true)
  (hm:PySem.W.mroIn K C (.type "object")=some true):TyOf K H (.ref a) (.ref C)
theorem zay{x:V}{u t:aA}(I:Inv X pins σ H s)(j:zz x u)(ty:TyOf X.K H x t)(e:lr X.K t c=some b)(h:∀tk,Q (.bool b) {s with toks:=tk}):
  wpAny (aI X.prog X.w) A (call (.builtin "isinstance") [u,c]) Q E s:=by
 cases ty with
 | non=>cases (show u=Value.none from j);exact eO PySem.W.kitx_none I.kIn True.intro e (λz=>nomatch z) h
 | bl y=>cases (show u=Value.bool y from j);exact eO PySem.W.kitx_bool I.kIn True.intro e (λz=>nomatch z) h
 | int i=>obtain⟨t,q⟩:=(show ∃t,u=Value.int i t from j);cases q;exact eO PySem.W.kitx_int I.kIn True.intro e (λz=>nomatch z) h
 | str y=>obtain⟨t,q⟩:=(show ∃t,u=Value.str y t from j);cases q;exact eO PySem.W.kitx_str I.kIn True.intro e (λz=>nomatch z) h
 | flt y=>obtain⟨t,q⟩:=(show ∃t,u=Value.float y t from j);cases q;exact eO PySem.W.kitx_float I.kIn True.intro e (λz=>nomatch z) h
 | @lst a xs R=>
  cases (show u=Value.ref a from j)
  obtain⟨_,_,n,_,h1⟩:=(show yf X.prog X.w H s.heap a (.lst xs)from I.hok a _ R)
  exact eO lu I.kIn ⟨_,h1,rfl⟩ e (λz=>nomatch z) h
 | @frz a Y xs R=>
  cases (show u=Value.ref a from j)
  obtain⟨_,_,_,n,_,h1⟩:=(show yf X.prog X.w H s.heap a (.frz Y (.lst xs))from I.hok a _ R)
  exact eO lu I.kIn ⟨_,h1,rfl⟩ e (λz=>nomatch z) h
 | @tup a xs R=>
  cases (show u=Value.ref a from j)
  obtain⟨_,_,_,p⟩:=(show yf X.prog X.w H s.heap a (.tup xs)from I.hok a _ R)
  obtain⟨o,h1,h2,_⟩:=p
  exact eO PySem.W.kitx_tuple I.kIn ⟨o,h1,h2⟩ e (λz=>nomatch z) h
 | @dK a kvs R=>
  cases (show u=Value.ref a from j)
  obtain⟨_,_,vs,_,p⟩:=(show yf X.prog X.w H s.heap a (.dK kvs)from I.hok a _ R)
  obtain⟨o,es,ep,h1,h2,_⟩:=p
  exact eO lv I.kIn ⟨o,h1,h2.1⟩ e (λz=>nomatch z) h
 | @dT a kvs R=>
  cases (show u=Value.ref a from j)
  obtain⟨_,_,xs,_,o,es,ep,h1,h2,_⟩:=(show yf X.prog X.w H s.heap a (.dT kvs)from I.hok a _ R)
  exact eO lv I.kIn ⟨o,h1,h2.1⟩ e (λz=>nomatch z) h
 | @ins a C dx fs R cl Z hn U hm=>
  cases (show u=Value.ref a from j)
  obtain⟨mA,O,_⟩:=ZX I.hok R
  obtain⟨od,J,_⟩:=O.look
  exact eO (PySem.W.kitx_own (cl.get _) cl.hd Z hn U hm) I.kIn J e (λz=>nomatch z) h
end
end L2
namespace L2
open PySem PySem.Spec PyProof.Rows
structure Room (k:Nat) (A:bB):Prop where
 hd:A.handled=none
 dp:A.depth+3*k+5<lw
 un:A.units+16*k+200<bV
theorem Room.mono(r:Room k A)(h:j<=k):Room j A:=⟨r.hd,by have:=r.dp;omega,by have:=r.un;omega⟩
theorem Room.deeper(r:Room (k+1) A)(env:bS):Room k (A.deeper env) :=
 ⟨r.hd,by have:=r.dp;show A.depth+1+3*k+5<_;omega,by have:=r.un;show A.units+3+16*k+200<_;omega⟩
theorem Jb{A:bB}{C:aB}{us:List aA}{j:List (aC×aA)}:(A.under (.builtin "type.__call__" ⟨.ref C::us,j⟩)).depth=A.depth+1:=by
 first|rfl|simp[jU,Code.weight,Code.isCreation,Code.isGuard,Code.isCaller,lx,jV,guardIds]
theorem Jc{A:bB}{C:aB}{us:List aA}{j:List (aC×aA)}:(A.under (.builtin "type.__call__" ⟨.ref C::us,j⟩)).units=A.units+1:=by
 first|rfl|simp[jU,Code.cUnits,lx,jV]
theorem Room.make(r:Room (k+1) A)(C:aB)(us:List aA)(j:List (aC×aA)):Room k (A.under (.builtin "type.__call__" ⟨.ref C::us,j⟩)) :=
 ⟨r.hd,by have:=r.dp;rw[Jb];omega,by have:=r.un;rw[Jc];omega⟩
theorem Room.depth(r:Room k A):A.depth<lw:=by have:=r.dp;omega
theorem Room.units(r:Room k A):A.units+64<bV:=by have:=r.un;omega
def X6:TA:=λ_ H Q=>Q [] H
def Xf(ta:TE)(j:TA):TA:=λσ H Q=>ta σ H λx H1=>j σ H1 λxs H2=>Q (x::xs) H2
section
variable {X:Cx} {e:aF} {es:List aF} {te:TE} {t:TA} {pos:aK}
theorem zN:PA X [] X6:=λ_ _ _ _ H Q I h=>i8 ⟨[],H,I,.nil,h⟩
theorem zA(ha:PE X e te)(hr:PA X es t)(hs:aX (e::es) X.env=(false,aQ e X.env)::aX es X.env:=by rfl):PA X (e::es) (Xf te t):=by
 intro pos pins s σ H Q I h
 rw[hs]
 show wpAny _ _ (spliced ((false,aQ e X.env)::cJ pos (aX es X.env))) _ _ s
 refine iq (thn (ha pins s σ H _ I h) λu s1 ⟨x,H1,I1,r1,q1⟩=>?_)
 exact thn (hr pos pins s1 σ H1 _ I1 q1) λus s2 hh7'=>by obtain⟨xs,H2,I2,r2,q2⟩:=hh7';exact⟨x::xs,H2,I2,.cons r1 r2,q2⟩
def zid(t:TA):TE:=λσ H Q=>t σ H λxs H1=>xs.length<=aH/\∀p,H1 p=none->Q (.ref p) (upd H1 p (.tup xs))
def zfo(t:TA):TE:=λσ H Q=>t σ H λxs H1=>xs.length<=aH/\∀p,H1 p=none->Q (.ref p) (upd H1 p (.lst xs))
theorem zfp{x1}(h:PA X es t):PE X (.Tuple es x1 pos) (zid t):=by
 intro pins s σ H Q I J
 refine wpAny_Tuple_spliced (thn (h pos pins s σ H _ I J) λus s1 ⟨xs,H1,j,r,z,q⟩=>⟨by rw[<-r.length];exact z,?_⟩)
 have O:H1 s1.heap.objs.size=none:=j.hok.fresh (aP _)
 refine⟨.ref s1.heap.objs.size,upd H1 s1.heap.objs.size (.tup xs),j.laid (t':=s1.toks) (λb u e=>bJ _ e) (aP _) ?_,rfl,q _ O⟩
 exact⟨z,us,r,⟨_,bW _ rfl,rfl,_,rfl⟩⟩
theorem vO(h:PA X es t):PE X (.List es pos) (zfo t):=by
 intro pins s σ H Q I J
 refine wpAny_List_spliced (thn (h pos pins s σ H _ I J) λus s1 ⟨xs,H1,j,r,z,q⟩=>⟨by rw[<-r.length];exact z,?_⟩)
 have O:H1 s1.heap.objs.size=none:=j.hok.fresh (aP _)
 refine⟨.ref s1.heap.objs.size,upd H1 s1.heap.objs.size (.lst xs),j.laid (t':=s1.toks) (λb u e=>bJ _ e) (aP _) ?_,rfl,q _ O⟩
 exact⟨z,us,0,r,bW _ rfl⟩
end
abbrev Sp:=List V->Hp->VK->XK->Prop
abbrev CXT:=List bS->Hp->aD->XK->aA->aD->Prop
structure Env0 (P:aU) (w:aO) (K:aE) (mg:aC->Option aA) (base:aN) (A:bB) (outer:List bS) (s:aD) (H:Hp):Prop where
 frames:A.frames=some outer
 mod:Mod K mg base
 bs:∀b o,base.get? b=some o->s.heap.get? b=some o/\H b=none
 bsz:base.objs.size<=s.heap.objs.size
 funs:s.heap.FunFrames base outer
 frf:∀b∈frs outer,H b=none
 hok:HOk P w H s.heap
 bare:eV s.gens
def CE(outer:List bS)(P:aU)(w:aO)(H:Hp)(s:aD)(Q:VK)(u:aA)(s':aD):Prop :=
 ∃v H',s'.os=s.os/\eV s'.gens/\Un (frs outer) [] H H' s.heap s'.heap/\HOk P w H' s'.heap/\zz v u/\Q v H'
def CR(CX:CXT)(outer:List bS)(P:aU)(w:aO)(H:Hp)(s:aD)(Q:VK)(E:XK)(r:i7)(s':aD):Prop :=
 match r with
 | .ok (.ret u)=>CE outer P w H s Q u s'
 | .ok _=>False
 | .error e=>CX outer H s E e s'
structure FnOk (P:aU) (w:aO) (K:aE) (mg:aC->Option aA) (base:aN) (CX:CXT) (k:Nat) (f:aB) (fd:cB) (ps:List aC) (sp:Sp):Prop where
 len:∀vs H Q E,sp vs H Q E->vs.length=ps.length
 run:∀(A:bB) (outer:List bS) (s:aD) (H:Hp) (args:Args) (us:List aA) (vs:List V) (Q:VK) (E:XK),Room k A->Env0 P w K mg base A outer s H->gY s fd args (ps.zip us)->zC vs us->sp vs H Q E->
  codeAny (aI P w) A (.call (.ref f) args) (CR CX outer P w H s Q E) s
theorem FnOk.imp{P:aU}{w:aO}{K:aE}{mg:aC->Option aA}{base:aN}{CX:CXT}{k:Nat}{f:aB}{fd:cB}{ps:List aC}{sp j:Sp}(F:FnOk P w K mg base CX k f fd ps sp) 
  (h:∀vs H Q E,j vs H Q E->sp vs H Q E):FnOk P w K mg base CX k f fd ps j :=
 ⟨λvs H Q E q=>F.len vs H Q E (h _ _ _ _ q),λA outer s H args us vs Q E z J O R U=>F.run A outer s H args us vs Q E z J O R (h _ _ _ _ U)⟩
theorem Env0.make{P:aU}{w:aO}{K:aE}{mg:aC->Option aA}{base:aN}{A:bB}{outer:List bS}{s:aD}{H:Hp}(e:Env0 P w K mg base A outer s H)(C:aB)(us:List aA)(j:List (aC×aA)):
 Env0 P w K mg base (A.under (.builtin "type.__call__" ⟨.ref C::us,j⟩)) outer s H:=⟨by first|exact e.frames|(simpa[jU,Code.envs,jV,pushEnvs]using e.frames),e.mod,e.bs,e.bsz,e.funs,e.frf,e.hok,e.bare⟩
section
variable {X:Cx} {pins:List (aB×aL)} {σ:St} {H:Hp} {s s':aD}
theorem Inv.env0(I:Inv X pins σ H s):Env0 X.prog X.w X.K X.mg X.base X.A X.stack s H :=
 ⟨I.ok.frames,I.ok.mod,I.bs,bL I.ok.bsz I.sz,I.stack,I.stkFree,I.hok,I.bare⟩
theorem Inv.after(I:Inv X pins σ H s)(h:CE X.stack X.prog X.w H s Q u s'):EP X pins σ Q u s':=by
 obtain⟨v,H',os,j,un,J,r,q⟩:=h
 obtain⟨R,g,d,t,O⟩:=s'
 obtain rfl:O=s.os:=os
 exact⟨v,H',I.call (h':=R) (g':=g) (d':=d) (t':=t) (ch:=[]) un J j (λb z=>absurd z (by simp)),r,q⟩
end
def zdB(sp:Sp)(dvs:List V)(E:XK)(t:TA):TE:=λσ H Q=>t σ H λvs H1=>sp (vs++dvs) H1 Q E
def zdC(C:aB)(m:aC)(sp:Sp)(dvs:List V)(E:XK)(ta:TE)(t:TA):TE:=λσ H Q=>ta σ H λx H1=>∃a dx fs,x=.ref a/\H1 a=some (.ins C dx fs)/\fs.lookup m=none/\
 t σ H1 λvs H2=>sp (x::(vs++dvs)) H2 Q E
def zgJ(C:aB)(sp:Sp)(dvs:List V)(E:XK)(t:TA):TE:=λσ H Q=>t σ H λvs H1=>∀x dx,H1 x=none->H1 dx=none->dx≠x->
 sp (.ref x::(vs++dvs)) (upd (upd H1 dx (.own x)) x (.ins C dx [])) (λv H2=>v=.non/\Q (.ref x) H2) E
def xo(K:aE)(fd:cB)(ps:List aC)(ds:List aA):Prop :=
 ∀(s:aD) (us:List aA),K.In s.heap->(us++ds).length=ps.length->gY s fd ⟨us,[]⟩ (ps.zip (us++ds))
theorem xo.all{K:aE}{fd:cB}{ps:List aC}(h:∀us:List aA,us.length=ps.length->bindArgs fd ⟨us,[]⟩=pure (ps.zip us)):xo K fd ps []:=λs us _ hl=>by
 rw[gF]at hl ⊢
 exact .of_eq (h us hl)
def vP(CX:CXT)(X:Cx)(E:XK):Prop:=∀(pins:List (aB×aL)) (σ:St) (H:Hp) (s:aD) (e:aA) (s':aD),Inv X pins σ H s->CX X.stack H s E e s'->X.xe e s'
section
variable {X:Cx} {CX:CXT} {k:Nat} {f C:aB} {fd:cB} {ps:List aC} {sp:Sp} {dvs:List V} {ds:List aA} {E:XK} {x m:aC} {p pos apos:aK} {e o:aF} {es:List aF} {ta:TE} {t:TA}
theorem VR{pins:List (aB×aL)}{σ:St}{H:Hp}{s:aD}{Q:VK}{us:List aA}{vs:List V}(F:FnOk X.prog X.w X.K X.mg X.base CX k f fd ps sp)(q:Room k X.A)(z:xo X.K fd ps ds)(J:zC dvs ds)(O:vP CX X E) 
  (I:Inv X pins σ H s) (r:zC vs us) (h:sp (vs++dvs) H Q E):wpAny (aI X.prog X.w) X.A (call (.ref f) us) (EP X pins σ Q) X.xe s:=by
 have r2:zC (vs++dvs) (us++ds):=r.append J
 have R:(us++ds).length=ps.length:=by rw[<-r2.length];exact F.len _ _ _ _ h
 refine wpAny_call (i9 (F.run X.A X.stack s H ⟨us,[]⟩ (us++ds) (vs++dvs) Q E q I.env0 (z s us I.kIn R) r2 h) λr s' j=>?_)
 cases r with
 | error e=>exact O pins σ H s e s' I j
 | ok fl=>
  cases fl with
  | ret u=>exact I.after j
  | next=>exact dO j
  | brk=>exact dO j
  | cont=>exact dO j
theorem X7(F:FnOk X.prog X.w X.K X.mg X.base CX k f fd ps sp)(O:Room k X.A)(R:Gl X x)(U:X.mg x=some (.ref f))(Y:fO X.K (.ref f)=true)(Z:xo X.K fd ps ds)(hd:zC dvs ds)(hx:vP CX X E) 
  (ha:PA X (e::es) t) (j:(x==("__debug__":aC))=false:=by decide) (he:aX (e::es) X.env=(false,aQ e X.env)::aX es X.env:=by rfl) (z:(cJ pos (aX es X.env)).any (·.1)=false:=by rfl) :
  PE X (.Call (.Name x p) (e::es) [] pos) (zdB sp dvs E t):=by
 intro pins s σ H Q I h
 refine ja (X3 I R U ?_ j)
 refine jW (h₀:=X.base) I.ok.mod.kin Y (thn (ha pos pins s σ H _ I h) λus s1 ⟨vs,H1,J,r,q⟩=>⟨J.kIn,?_⟩) he z
 exact VR F O Z hd hx J r q
theorem X8{pl:cQ Bool}(Y:PE X o ta)(c:Cls X.K C)(J:Meth X.K C m f)(F:FnOk X.prog X.w X.K X.mg X.base CX k f fd ps sp)(Z:Room k X.A)(hb:xo X.K fd ps ds)(hd:zC dvs ds)(hx:vP CX X E)(ha:PA X (e::es) t) 
  (j:aX (e::es) X.env=(false,aQ e X.env)::aX es X.env:=by rfl) (z:(cJ pos (aX es X.env)).any (·.1)=false:=by rfl)
  (ht:aQ (.Call (.Attribute o m apos) (e::es) [] pos) X.env=(do
   let O <-aQ o X.env
   gT apos.atName
   let (f,first) <-eM [O] (i6 O m pl)
   callWith pos f first (cJ pos (aX (e::es) X.env)) (ir pos (iu [] X.env))):=by rfl) :
  PE X (.Call (.Attribute o m apos) (e::es) [] pos) (zdC C m sp dvs E ta t):=by
 intro pins s σ H Q I h
 refine ly (pl:=pl) (thn (Y pins s σ H _ I h) λu s1 ⟨x,H1,R,rx,a,dx,fs,ex,ea,l,q⟩=>?_) ht
 subst ex
 obtain rfl:u=Value.ref a:=rx
 refine Xd R ea c J l ?_
 refine jW (first:=[.ref a]) (h₀:=X.base) I.ok.mod.kin J.kp (thn (ha pos pins s1 σ H1 _ R q) λus s2 ⟨vs,H2,U,r,q2⟩=>⟨U.kIn,?_⟩) j z
 exact VR (us:=.ref a::us) (vs:=.ref a::vs) F Z hb hd hx U (.cons rfl r) q2
theorem zbU{pl:cQ Bool}(O:PE X o ta)(c:Cls X.K C)(z:Meth X.K C m f)(F:FnOk X.prog X.w X.K X.mg X.base CX k f fd ps sp)(R:Room k X.A)(U:xo X.K fd ps ds)(Y:zC dvs ds)(Z:vP CX X E) 
  (ht:aQ (.Call (.Attribute o m apos) [] [] pos) X.env=(do
   let J <-aQ o X.env
   gT apos.atName
   let (f,first) <-eM [J] (i6 J m pl)
   callWith pos f first (cJ pos (aX [] X.env)) (ir pos (iu [] X.env))):=by rfl) :
  PE X (.Call (.Attribute o m apos) [] [] pos) (zdC C m sp dvs E ta X6):=by
 intro pins s σ H Q I h
 refine ly (pl:=pl) (thn (O pins s σ H _ I h) λu s1 ⟨x,H1,j,rx,a,dx,fs,ex,ea,l,q⟩=>?_) ht
 subst ex
 obtain rfl:u=Value.ref a:=rx
 refine Xd j ea c z l ?_
 exact PySem.W.callWith_K0 (first:=[.ref a]) j.kIn z.kp (VR (us:=[.ref a]) (vs:=[.ref a]) F R U Y Z j (.cons rfl .nil) q)
structure Mk (K:aE) (C f:aB):Prop where
 makes:jT K C=true
 init:cM K (.ref C) "__init__"=some (some (.ref f))
 fn:gD K (.ref f)=true
 kp:fO K (.ref C)=true
theorem zbV{pins:List (aB×aL)}{σ:St}{H:Hp}{s:aD}{Q:VK}{us:List aA}{vs:List V}(M:Mk X.K C f)(F:FnOk X.prog X.w X.K X.mg X.base CX k f fd ps sp)(J:Room (k+1) X.A)(O:xo X.K fd ps ds)(R:zC dvs ds) 
  (U:vP CX X E) (I:Inv X pins σ H s) (r:zC vs us)
  (h:∀x dx,H x=none->H dx=none->dx≠x->sp (.ref x::(vs++dvs)) (upd (upd H dx (.own x)) x (.ins C dx [])) (λv H2=>v=.non/\Q (.ref x) H2) E) :
  wpAny (aI X.prog X.w) X.A (call (.ref C) us) (EP X pins σ Q) X.xe s:=by
 have z:=h (s.heap.objs.size+1) s.heap.objs.size (I.hok.fresh (gG _)) (I.hok.fresh (aP _)) (bO (gE _))
 have q:=Inv.made (C:=C) I
 have r2:zC (V.ref (s.heap.objs.size+1)::(vs++dvs)) (Value.ref (s.heap.objs.size+1)::(us++ds)):=.cons rfl (r.append R)
 have Y:(Value.ref (s.heap.objs.size+1)::us++ds).length=ps.length:=by
  have e:=r2.length
  rw[F.len _ _ _ _ z]at e
  exact e.symm
 refine wpAny_call (zbT (f:=f) I.kIn M.makes M.init (beq_iff_eq.mp M.fn) (i9 (F.run _ X.stack _ _ ⟨Value.ref (s.heap.objs.size+1)::us,[]⟩ (Value.ref (s.heap.objs.size+1)::(us++ds)) _ _ E (J.make C us [])
  (q.env0.make C us []) (O _ (Value.ref (s.heap.objs.size+1)::us) q.kIn Y) r2 z) λr s' j=>?_))
 cases r with
 | error e=>exact U pins σ _ _ e s' q j
 | ok fl=>
  cases fl with
  | ret u=>
   obtain⟨v,H',Z,rv,ev,q3⟩:=q.after j
   subst ev
   exact⟨rv,⟨V.ref (s.heap.objs.size+1),H',Z,rfl,q3⟩⟩
  | next=>exact dO j
  | brk=>exact dO j
  | cont=>exact dO j
theorem zed(M:Mk X.K C f)(F:FnOk X.prog X.w X.K X.mg X.base CX k f fd ps sp)(O:Room (k+1) X.A)(R:Gl X x)(U:X.mg x=some (.ref C))(Y:xo X.K fd ps ds)(Z:zC dvs ds)(hx:vP CX X E) 
  (ha:PA X (e::es) t) (j:(x==("__debug__":aC))=false:=by decide) (he:aX (e::es) X.env=(false,aQ e X.env)::aX es X.env:=by rfl) (z:(cJ pos (aX es X.env)).any (·.1)=false:=by rfl) :
  PE X (.Call (.Name x p) (e::es) [] pos) (zgJ C sp dvs E t):=by
 intro pins s σ H Q I h
 refine ja (X3 I R U ?_ j)
 refine jW (h₀:=X.base) I.ok.mod.kin M.kp (thn (ha pos pins s σ H _ I h) λus s1 ⟨vs,H1,J,r,q⟩=>⟨J.kIn,?_⟩) he z
 exact zbV M F O Y Z hx J r q
end
section
variable {X:Cx} {CX:CXT} {k:Nat} {f C:aB} {fd:cB} {ps ks:List aC} {sp:Sp} {E:XK} {x m:aC} {p pos apos kpos:aK} {e o:aF} {es:List aF} {kws:List gH} {te ta:TE} {t tk:TA} {nm:Option aC}
variable {g:List aA->List aA->List aA} {gV:List V->List V->List V}
end
structure FnScope (N P:List aC) (sc:bU):Prop where
 kind:sc.kind=.function
 co:sc.isCoroutine=false
 gen:sc.isGenerator=false
 nd:N.Nodup
 pre:N.take P.length=P
 par:∀x∈P,sc.names.lookup x=some .local\/sc.names.lookup x=some .cell
 nofree:∀y∈sc.names,y.2≠.free
theorem WV{kindOf:aC->Option fB}{x:aC}:∀{binds:List (aC×aA)} {m:aC->Option aA},(∀v,(x,v)∉binds)->fP kindOf binds m x=m x
 | [],_,_=>rfl
 | (n,v)::r,m,h=>by
  unfold fP
  rw[WV λw j=>h w (bC _ j)]
  split
  ·have:x≠n:=by rintro rfl;exact h v bE
   simp[this]
  ·rfl
theorem WW{kindOf:aC->Option fB}{x:aC}:∀{binds:List (aC×aA)} {m:aC->Option aA},(∀v,(x,v)∉binds)->fQ kindOf binds m x=m x
 | [],_,_=>rfl
 | (n,v)::r,m,h=>by
  unfold fQ
  rw[WW λw j=>h w (bC _ j)]
  split
  ·rfl
  ·have:x≠n:=by rintro rfl;exact h v bE
   simp[this]
theorem WX{kindOf:aC->Option fB}{x:aC}{v:aA}:∀{P:List aC} {vs:List aA} {i:Nat} {m:aC->Option aA},P.Nodup->P[i]?=some x->vs[i]?=some v->kindOf x=some .local->
  fP kindOf (P.zip vs) m x=some v
 | [],_,_,_,_,h,_,_=>by simp at h
 | _::_,[],_,_,_,_,h,_=>by simp at h
 | p::P,w::vs,0,m,j,h1,h2,q=>by
  simp at h1 h2;subst h1;subst h2
  show fP kindOf ((p,w)::P.zip vs) m p=_
  unfold fP
  rw[WV λv z=>(cF.mp j).1 (jX z).1,if_pos q]
  simp
 | p::P,w::vs,i+1,m,j,h1,h2,q=>by
  show fP kindOf ((p,w)::P.zip vs) m x=_
  unfold fP
  exact WX (i:=i) (cF.mp j).2 (by simpa using h1) (by simpa using h2) q
theorem WY{kindOf:aC->Option fB}{x:aC}{v:aA}:∀{P:List aC} {vs:List aA} {i:Nat} {m:aC->Option aA},P.Nodup->P[i]?=some x->vs[i]?=some v->kindOf x≠some .local->
  fQ kindOf (P.zip vs) m x=some v
 | [],_,_,_,_,h,_,_=>by simp at h
 | _::_,[],_,_,_,_,h,_=>by simp at h
 | p::P,w::vs,0,m,j,h1,h2,q=>by
  simp at h1 h2;subst h1;subst h2
  show fQ kindOf ((p,w)::P.zip vs) m p=_
  unfold fQ
  rw[WW λv z=>(cF.mp j).1 (jX z).1,if_neg q]
  simp
 | p::P,w::vs,i+1,m,j,h1,h2,q=>by
  show fQ kindOf ((p,w)::P.zip vs) m x=_
  unfold fQ
  exact WY (i:=i) (cF.mp j).2 (by simpa using h1) (by simpa using h2) q
def start(N:List aC)(vs:List V):St:=vs.map some++gI (N.length-vs.length) none
def Zq(CX:CXT)(P:aU)(w:aO)(K:aE)(mg:aC->Option aA)(base:aN)(N:List aC)(qual:aC)(scope:bU)(f:aB)(cd:aA)(A:bB)(outer:List bS)(s:aD)(H:Hp)(E:XK):Cx where
 prog:=P
 w:=w
 K:=K
 mg:=mg
 base:=base
 A:=A.deeper (eP qual scope s.heap.objs.size f cd)
 N:=N
 s₀:=s
 H₀:=H
 env:=eP qual scope s.heap.objs.size f cd
 outer:=outer
 stack:=eP qual scope s.heap.objs.size f cd::outer
 ex:=[]
 calm:=true
 fn:=λ_=>true
 pn:=[]
 xe:=λe s'=>wpAny (aI P w) (A.deeper (eP qual scope s.heap.objs.size f cd)) (leaving (eP qual scope s.heap.objs.size f cd) e) (λ_ s''=>CX outer H s E e s'') (λe' s''=>CX outer H s E e' s'') s'
theorem VS{j:bU}{n:Nat}{x:aC}(h:j.names.lookup x=some .cell):∃c,(jY n j.names []).lookup x=some c:=by
 have q:=lz j.names n [] (.inl h)
 exact lA.mp q
theorem zaz{CX:CXT}{P:aU}{w:aO}{K:aE}{mg:aC->Option aA}{base:aN}{N ps:List aC}{qual:aC}{scope:bU}{f:aB}{Y:aA}{A:bB}{outer:List bS}{s s1:aD}{H:Hp}{E:XK}{us:List aA}{vs:List V} 
  (S:FnScope N ps scope) (hd:A.handled=none) (j:Env0 P w K mg base A outer s H) (hl:vs.length=ps.length) (r:zC vs us)
  (x:InCallC s s.heap.objs.size (fP (eP qual scope s.heap.objs.size f Y).kindOf (ps.zip us) λ_=>none) (jY (s.heap.objs.size+1) scope.names []) (fQ (eP qual scope s.heap.objs.size f Y).kindOf (ps.zip us) λ_=>none) s1) :
  Inv (Zq CX P w K mg base N qual scope f Y A outer s H E) [] (start N vs) H s1:=by
 have aa:ps.length<=N.length:=by have:=congrArg jZ S.pre;rw[fC]at this;omega
 obtain⟨h1,tk,rfl,Z⟩:=x.done
 have J:∀b:aB,b∉(Zq CX P w K mg base N qual scope f Y A outer s H E).ex:=λb z=>absurd (show b∈([]:List aB)from z) (by simp)
 refine⟨⟨j.mod,S.kind,rfl,rfl,aP _,λy z c h1 h2=>?_,λy O=>?_,λy c _ h=>?_,λ_=>hd,Around.frames_deeper j.frames,.inr ⟨rfl,rfl⟩,λb z=>absurd z (J b),j.bs,j.bsz,λb _ _=>J b,λb z=>absurd z (J b),j.funs,j.frf⟩,
  rfl,j.bare,Un.kept Z,⟨_,x.toInCall.ns,λi y v h1 h2 h3=>?_⟩,λy c h=>⟨_,x.cell y c h⟩,j.hok.fresh (aP _),λy c h=>?_,λp R=>absurd (show p∈([]:List (aB×aL))from R) (by simp),j.hok.kept Z,?_⟩
 ·exact name_of_addr x.apart (iw h1) (iw h2)
 ·have O:scope.names.lookup y=some .cell\/scope.names.lookup y=some .free:=O
  rcases O with O|O
  ·exact VS O
  ·exact absurd rfl (S.nofree _ (iw O))
 ·exact gQ (x.above y c (iw h))
 ·have hi:i<vs.length:=by
   unfold start at h2
   by_cases hi:i<vs.length
   ·exact hi
   ·rw[fD (by simpa using hi)]at h2
    rw[j0]at h2
    split at h2 <;>cases h2
  have ha:vs[i]?=some v:=by
   unfold start at h2
   rw[eA (by simpa using hi),bG]at h2
   cases e:vs[i]? with
   | none=>rw[e]at h2;cases h2
   | some a=>rw[e]at h2;cases h2;rfl
  obtain⟨u,hu,rv⟩:=r.get ha
  have R:ps[i]?=some y:=by
   rw[<-S.pre,j3 (by omega)];exact h1
  have U:ps.Nodup:=by rw[<-S.pre];exact S.nd.sublist (List.take_sublist _ _)
  refine⟨u,rv,?_⟩
  rcases S.par y (bX R)with k|k
  ·exact .inl ⟨k,WX U R hu k⟩
  ·obtain⟨c,e⟩:=VS (n:=s.heap.objs.size+1) k
   refine .inr ⟨.inl k,c,e,?_⟩
   have q:=x.cell y c e
   rw[WY U R hu (by show scope.names.lookup y≠_;rw[k];decide)]at q
   exact q
 ·exact j.hok.fresh (gQ (x.above y c (iw h)))
 ·unfold start
  show _=N.length
  rw[bQ,aM,lB]
  omega
theorem zgK{CX:CXT}{P:aU}{w:aO}{K:aE}{mg:aC->Option aA}{base:aN}{k:Nat}{f:aB}{name qual:aC}{j:Arguments}{z:List aS}{scope:bU}{dV kV Y pm cdv ct oc:aA}{an od:Option aB} 
  {ac:Array (Option aA)} {N ps:List aC} {sp:Sp} (lk:K.lookup f=some ⟨oc,od,.func (gJ name qual j z scope dV kV Y pm an cdv ct),ac⟩) (ae:j4 K cdv qual=true) (S:FnScope N ps scope)
  (len:∀vs H Q E,sp vs H Q E->vs.length=ps.length)
  (O:∀(A:bB) (outer:List bS) (s:aD) (H:Hp) (vs:List V) (Q:VK) (E:XK),Room k (A.deeper (eP qual scope s.heap.objs.size f cdv))->sp vs H Q E->
   ∃t,PSs (Zq CX P w K mg base N qual scope f cdv A outer s H E) z t/\t {nx:=λ_ H'=>Q .non H',rt:=Q} (start N vs) H) :
  FnOk P w K mg base CX (k+1) f (gJ name qual j z scope dV kV Y pm an cdv ct) ps sp:=by
 refine⟨len,λA outer s H args us vs Q E hr Z hb r aa=>?_⟩
 have hl:=len _ _ _ _ aa
 have KX:K.In s.heap:=Z.mod.kin.keeps λb o e=>(Z.bs b o e).1
 have af:s.heap.NoLimit:=Z.mod.nolimit.keeps λb o e=>(Z.bs b o e).1
 have R:∀y∈ps.zip us,scope.names.lookup y.1=some .local\/(scope.names.lookup y.1=some .cell/\((jY (s.heap.objs.size+1) scope.names []).lookup y.1).isSome=true):=λab hy=>by
  obtain⟨n,v⟩:=ab
  rcases S.par n (jX hy).1 with q|q
  ·exact .inl q
  ·exact .inr ⟨q,lz _ _ _ (.inl q)⟩
 refine codeAny_call_function hr.depth (KX _ _ lk) rfl S.co S.gen rfl (PySem.W.codeRec_of KX ae) (hb _ _ _ _ ?_)
 refine wpAny_newFunctionEnv_cells S.kind R λenv he s1 x=>?_
 subst he
 refine⟨af.keeps x.toInCall.keep,codeAny_func ?_⟩
 obtain⟨t,ht,hq⟩:=O A outer s H vs Q E (hr.deeper _) aa
 have I:Inv (Zq CX P w K mg base N qual scope f cdv A outer s H E) [] (start N vs) H s1:=zaz S hr.hd Z hl r x
 refine dC (ht [] s1 (start N vs) H _ I hq) (λfl s' U=>?_) λe s' U=>U
 have fin:∀{σ':St} {H':Hp} {v:V} {u:aA},Inv (Zq CX P w K mg base N qual scope f cdv A outer s H E) [] σ' H' s'->zz v u->Q v H'->CE outer P w H s Q u s' :=
  λ{σ' H' v u} J rv q=>⟨v,H',J.os,J.bare,J.base,J.hok,rv,q⟩
 cases fl with
 | ret u=>
  obtain⟨v,σ',H',J,rv,q⟩:=U
  exact fin J rv q
 | next=>
  obtain⟨σ',H',J,q⟩:=U
  exact fin (v:=V.non) (u:=Value.none) J rfl q
 | brk=>
  obtain⟨_,_,_,q⟩:=U
  exact dO q
 | cont=>
  obtain⟨_,_,_,q⟩:=U
  exact dO q
end L2
namespace L2
open PySem PySem.Spec PyProof.Rows
section
variable {X:Cx} {x:aC} {p pos:aK} {e:aF} {es:List aF} {t:TA} {id T:String} {r:List V->Hp->VK->Prop}
def tCB(r:List V->Hp->VK->Prop)(t:TA):TE:=λσ H Q=>t σ H λvs H1=>r vs H1 Q
theorem wq(J:xc X (.builtin id) r)(O:Gl X x)(R:X.mg x=none)(U:eU x=some (.builtin id))(Y:PA X (e::es) t)(hn:x≠"__name__":=by decide)(q:(x==("__debug__":aC))=false:=by decide) 
  (Z:aX (e::es) X.env=(false,aQ e X.env)::aX es X.env:=by rfl) (z:(cJ pos (aX es X.env)).any (·.1)=false:=by rfl):PE X (.Call (.Name x p) (e::es) [] pos) (tCB r t):=by
 intro pins s σ H Q I h
 refine ja (vh I O R U ?_ hn q)
 exact nL (thn (Y pos pins s σ H _ I h) λus s1 j=>(by obtain⟨vs,H1,I1,r1,q1⟩:=j;exact J pins s1 σ H1 vs us Q I1 r1 q1)) Z z
theorem Zr(J:xc X (.type T) r)(O:Gl X x)(R:X.mg x=none)(U:eU x=some (.type T))(Y:PA X (e::es) t)(hn:x≠"__name__":=by decide)(q:(x==("__debug__":aC))=false:=by decide) 
  (Z:aX (e::es) X.env=(false,aQ e X.env)::aX es X.env:=by rfl) (z:(cJ pos (aX es X.env)).any (·.1)=false:=by rfl):PE X (.Call (.Name x p) (e::es) [] pos) (tCB r t):=by
 intro pins s σ H Q I h
 refine ja (vh I O R U ?_ hn q)
 exact gW (thn (Y pos pins s σ H _ I h) λus s1 j=>(by obtain⟨vs,H1,I1,r1,q1⟩:=j;exact J pins s1 σ H1 vs us Q I1 r1 q1)) Z z
end
end L2
namespace HT
open PySem PyProof.Rows
section
open PySem.SeqAt
open PySem.AutoSeq1 (wpAny_loadPart')
open PySem.MeetsSeq PySem.MeetsSeq2 PySem.MeetsSeq3
end
section
variable {prog:aU} {w:aO} {A:bB} {E:aA->aD->Prop} {s:aD}
theorem cat_tup{t b:aB}{vs ws:List aA}{Q:aA->aD->Prop}(ht:fL s.heap t vs.toArray)(hb:fL s.heap b ws.toArray)(U:vs≠[]) 
  (h1:ws=[]->Q (.ref t) s) (h2:ws≠[]->Q (.ref s.heap.objs.size) {s with heap:=s.heap.push {cls:=.type "tuple",data:=.seq (vs++ws).toArray}})
  (hsz:vs.length+ws.length<=aH):wpAny (aI prog w) A (dD .Add (.ref t) (.ref b)) Q E s:=by
 obtain⟨⟨cls,Y,data,Z⟩,ho,hc,n,hd⟩:=id ht
 obtain⟨⟨aa,q,data2,z⟩,j,J,n2,O⟩:=id hb
 simp only at hc hd J O
 subst hc hd J O
 have e:vs.toArray++ws.toArray=(vs++ws).toArray:=by simp
 by_cases R:ws=[]
 ·exact j5 ⟨_,ho,rfl⟩ ⟨_,j,rfl⟩ j6 j7 j8 j9 (ka _ _)
   (tuple_addW1 t b vs.toArray ws.toArray n n2 Y q Z z (by simpa using U) (by simp[R])) ⟨ho,j,h1 R⟩
 ·refine j5 ⟨_,ho,rfl⟩ ⟨_,j,rfl⟩ j6 j7 j8 j9 (ka _ _)
   (tuple_addW2 t b vs.toArray ws.toArray n n2 Y q Z z (by simpa using U) (by simpa using R) (by rw[bT,bT];exact hsz)) ⟨ho,j,?_⟩
  rw[e]
  exact h2 R
end
end HT
namespace L2
open PySem PySem.Spec PyProof.Rows
section
variable {X:Cx} {e:aF} {te:TE} {lo hi:Option aF} {tl th:TO} {pos p2:aK}
def zdD(K:aE):R2:=λx y H Q=>∃a b xs ys,x=.ref a/\y=.ref b/\SqT K H a xs/\SqT K H b ys/\xs≠[]/\xs.length+ys.length<=aH/\
 (ys=[]->Q (.ref a) H)/\(ys≠[]->∀p,H p=none->Q (.ref p) (upd H p (.tup (xs++ys))))
theorem zC.nil_iff(r:zC xs us):us=[]↔xs=[]:=by
 cases r with
 | nil=>simp
 | cons _ _=>simp
theorem zee:OpR X (dD .Add) (zdD X.K):=by
 intro pins s σ H x y v u Q I O R h
 obtain⟨a,b,xs,ys,rfl,rfl,U,Y,Z,j,q1,q2⟩:=h
 cases O
 cases R
 obtain⟨its,r1,p1,_⟩:=I.tuple U
 obtain⟨J,r2,p2,_⟩:=I.tuple Y
 refine HT.cat_tup p1 p2 (λz=>Z (r1.nil_iff.mp z)) (λz=>⟨.ref a,H,I,rfl,q1 (r2.nil_iff.mp z)⟩) (λz=>?_) (by rw[<-r1.length,<-r2.length];exact j)
 refine⟨.ref s.heap.objs.size,_,I.laid (t':=s.toks) (o:=.tup (xs++ys)) (λb ob q=>bJ _ q) (aP _) ?_,rfl,q2 (λw=>z (r2.nil_iff.mpr w)) _ (I.hok.fresh (aP _))⟩
 exact⟨by rw[bQ];exact j,_,r1.append r2,kb _ _⟩
end
end L2
namespace L2
open PySem PySem.Spec PyProof.Rows
def ixN(n:Nat)(i:Int):Option Nat:=if 0<=i then(if i<n then some i.toNat else none)else if-(n:Int)<=i then some (i+n).toNat else none
def atI{α:Type}(xs:List α)(i:Int):Option α:=(ixN xs.length i).bind λj=>xs[j]?
theorem Qp{n:Nat}{i:Int}{j:Nat}(h:ixN n i=some j):seqIndex? i n=some j/\j<n/\-(n:Int)<=i/\i<n:=by
 unfold ixN at h
 by_cases q:0<=i
 ·rw[if_pos q]at h
  by_cases h1:i<n
  ·rw[if_pos h1]at h
   have e:i.toNat=j:=cV h
   exact⟨by rw[kc q h1,e],by omega,by omega,h1⟩
  ·rw[if_neg h1]at h;cases h
 ·rw[if_neg q]at h
  by_cases h1:-(n:Int)<=i
  ·rw[if_pos h1]at h
   have e:(i+n).toNat=j:=cV h
   exact⟨by rw[seqIndex_neg (by omega) h1,e],by omega,h1,by omega⟩
  ·rw[if_neg h1]at h;cases h
theorem Qq{α:Type}{xs:List α}{i:Int}{v:α}(h:atI xs i=some v):∃j,seqIndex? i xs.length=some j/\xs[j]?=some v/\j<xs.length/\-(xs.length:Int)<=i/\i<xs.length:=by
 unfold atI at h
 cases e:ixN xs.length i with
 | none=>rw[e]at h;cases h
 | some j=>
  rw[e]at h
  obtain⟨h1,h2,q,z⟩:=Qp e
  exact⟨j,h1,h,h2,q,z⟩
theorem xA{α:Type}{xs:List α}{j:Nat}{v:α}(h:xs[j]?=some v):atI xs (j:Int)=some v:=by
 have q:j<xs.length:=(aY.mp h).1
 have e:ixN xs.length (j:Int)=some j:=by
  unfold ixN
  rw[if_pos (by omega),if_pos (by omega)];simp
 unfold atI;rw[e];exact h
def X9(b:aF):Prop:=∀o i,iy b false o i=operate [o,i] (iz o i)
def IxR(X:Cx)(r:R2):Prop :=
 ∀(value j:aF) (pins:List (aB×aL)) (s:aD) (σ:St) (H:Hp) (x y:V) (v u:aA) (Q:VK),Inv X pins σ H s->zz x v->zz y u->r x y H Q->
  iy j false v u=operate [v,u] (iz v u)->wpAny (aI X.prog X.w) X.A (ke value j v u) (EP X pins σ Q) X.xe s
def MtR(X:Cx)(id:String)(r:V->List V->Hp->VK->Prop):Prop :=
 ∀(pins:List (aB×aL)) (s:aD) (σ:St) (H:Hp) (x:V) (xs:List V) (v:aA) (us:List aA) (Q:VK),Inv X pins σ H s->zz x v->zC xs us->r x xs H Q->
  wpAny (aI X.prog X.w) X.A (call (.builtin id) (v::us)) (EP X pins σ Q) X.xe s
section
variable {X:Cx} {a b:aF} {ta tb:TE} {pos:aK}
theorem IxR.or(h:IxR X r)(h':IxR X R):IxR X (λx y H Q=>r x y H Q\/R x y H Q):=by
 intro value j pins s σ H x y v u Q I z J q O
 rcases q with q|q
 ·exact h value j pins s σ H x y v u Q I z J q O
 ·exact h' value j pins s σ H x y v u Q I z J q O
theorem wG(j:IxR X r)(z:PE X a ta)(J:PE X b tb)(O:X9 b):PE X (.Subscript a b pos) (tOp r ta tb):=by
 intro pins s σ H Q I h
 exact Subscript_ (zbP z J I h λv u s2 x y H2 R U Y q=>j a b pins s2 σ H2 x y v u Q R U Y q (O _ _))
def zfq(K:aE):R2:=λx y H Q=>∃p xs i v,x=.ref p/\y=.int i/\SqL K H p xs/\atI xs i=some v/\Q v H
def zfr(K:aE):R2:=λx y H Q=>∃p xs i v,x=.ref p/\y=.int i/\SqT K H p xs/\atI xs i=some v/\Q v H
theorem xQ:IxR X (zfq X.K):=by
 intro value J pins s σ H x y v u Q I rx ry h U
 obtain⟨p,xs,i,z,rfl,rfl,hq,he,q⟩:=h
 cases rx
 obtain⟨t,rfl⟩:=ry
 obtain⟨its,r,pl,hz⟩:=I.list hq
 obtain⟨j,h1,h2,h3,h4,h5⟩:=Qq he
 obtain⟨w,Y,O⟩:=r.get h2
 have hl:=r.length
 have hn:=Xc
 have fin:EP X pins σ Q w s:=⟨z,H,I,O,q⟩
 by_cases Z:0<=i
 ·have R:i.toNat=j:=by
   rw[kc Z h5]at h1
   exact cV h1
  exact item_listR pl.isList Z (by omega) (by rw[R];simpa using Y) fin U
 ·have R:(i+(its.toArray.size:Int)).toNat=j:=by
   rw[seqIndex_neg (by omega) h4]at h1
   rw[bT,<-hl]
   exact cV h1
  exact lC (x:=w) pl.isList.typeIs slot_list_getitem.lookup
   (wpAny_getItem_list_neg (Q:=λr s'=>r=w/\EP X pins σ Q r s') pl.isList (by omega) (by rw[bT] <;>omega) (by omega) (by rw[R];simpa using Y) ⟨rfl,fin⟩) U
theorem VT:IxR X (zfr X.K):=by
 intro value J pins s σ H x y v u Q I R U h Y
 obtain⟨p,xs,i,z,rfl,rfl,Z,he,q⟩:=h
 cases R
 obtain⟨t,rfl⟩:=U
 obtain⟨its,r,pl,hz⟩:=I.tuple Z
 obtain⟨j,h1,h2,h3,h4,h5⟩:=Qq he
 obtain⟨w,ew,O⟩:=r.get h2
 have hl:=r.length
 have hn:=Xc
 have fin:EP X pins σ Q w s:=⟨z,H,I,O,q⟩
 exact lC (x:=w) pl.typeIs slot_tuple_getitem.lookup
  (getItem_tuple (j:=j) (Q:=λr s'=>r=w/\EP X pins σ Q r s') pl (by omega) (by omega) (by rw[bT,<-hl];exact h1) (by simpa using ew) ⟨rfl,fin⟩) Y
theorem Jd(its:List aA)(n j:Nat)(u:aA):iA (·.setIfInBounds j u) {cls:=.type "list",data:=.seq its.toArray n}={cls:=.type "list",data:=.seq (its.set j u).toArray n}:=by
 simp[iA]
theorem Inv.lst(I:Inv X pins σ H s)(h:H p=some (.lst xs)):
  ∃(its:List aA) (n:Nat),zC xs its/\s.heap.get? p=some {cls:=.type "list",data:=.seq its.toArray n}/\xs.length<=aH:=by
 obtain⟨z,its,n,r,e⟩:=I.hok p _ h
 exact⟨its,n,r,e,z⟩
theorem Inv.lstUpd{pins:List (aB×aL)}{σ:St}{H:Hp}{s:aD}{p:aB}{xs ys:List V}{its its':List aA}{n j:Nat}{f:aL->aL}(I:Inv X pins σ H s)(h:H p=some (.lst xs)) 
  (ho:s.heap.get? p=some {cls:=.type "list",data:=.seq its.toArray n}) (z:f {cls:=.type "list",data:=.seq its.toArray n}={cls:=.type "list",data:=.seq its'.toArray j}) (r:zC ys its') (J:ys.length<=aH) (t:Nat) :
  Inv X pins σ (upd H p (.lst ys)) {s with heap:=s.heap.update p f,toks:=t}:=by
 have e:(s.heap.update p f).get? p=some {cls:=.type "list",data:=.seq its'.toArray j}:=by
  rw[lD f ho (by rw[z] <;>rfl),z]
 refine I.write (x:=p) (e:=p) (by rw[h];trivial) (.inl rfl) (λb u O q=>(lE _ _ (aT O)).trans q) ⟨_,e⟩ ?_
 exact⟨J,its',j,r,e⟩
def zgL:V->V->V->Hp->(Hp->Prop)->Prop:=λo i v H Q=>∃p xs k j,o=.ref p/\i=.int k/\H p=some (.lst xs)/\ixN xs.length k=some j/\Q (upd H p (.lst (xs.set j v)))
theorem uT:zfc X zgL:=by
 intro pins s σ H o i v ov iv u Q I ro ri rv h
 obtain⟨p,xs,k,j,rfl,rfl,O,hj,q⟩:=h
 cases ro
 obtain⟨t,rfl⟩:=ri
 obtain⟨its,n,r,ho,hz⟩:=I.lst O
 obtain⟨h1,h2,R,U⟩:=Qp hj
 have z:=r.length
 have hn:=Xc
 have Y:Inv X pins σ (upd H p (.lst (xs.set j v))) {s with heap:=s.heap.update p (iA (·.setIfInBounds j u))} :=
  I.lstUpd O ho (Jd its n j u) (r.set rv j) (by rw[cG];exact hz) s.toks
 by_cases Z:0<=k
 ·have J:k.toNat=j:=by
   rw[kc Z U]at h1
   exact cV h1
  exact PySem.W.ki_setAt ho Z (by omega) (by rw[bT,<-z];exact U) (by rw[J];exact⟨_,Y,q⟩)
 ·have J:(k+(its.toArray.size:Int)).toNat=j:=by
   rw[seqIndex_neg (by omega) R]at h1
   rw[bT,<-z]
   exact cV h1
  exact PySem.W.ki_setBack ho (by omega) (by rw[bT,<-z];exact R) (by omega) (by rw[J];exact⟨_,Y,q⟩)
theorem zF:xc X (.builtin "len") (λxs H Q=>∃p ys,xs=[.ref p]/\(SqL X.K H p ys\/SqT X.K H p ys)/\Q (.int ys.length) H):=by
 intro pins s σ H xs us Q I r h
 obtain⟨p,ys,rfl,hq,q⟩:=h
 obtain⟨u,rfl,rx⟩:=vd r
 cases rx
 have hn:=Xc
 rcases hq with hq|hq
 ·obtain⟨its,r',pl,hz⟩:=I.list hq
  have hlen:=r'.length
  exact Calls.call_len_list pl.isList (by simp only[bT] <;>omega) ⟨.int ys.length,H,I.tok _,⟨s.toks+1,by rw[bT,hlen]⟩,q⟩
 ·obtain⟨its,r',pl,hz⟩:=I.tuple hq
  have hlen:=r'.length
  exact len_tuple pl (by simp only[bT] <;>omega) ⟨.int ys.length,H,I.tok _,⟨s.toks+1,by rw[bT,hlen]⟩,q⟩
theorem xc.or{r j:List V->Hp->VK->Prop}(h:xc X f r)(h':xc X f j):xc X f (λxs H Q=>r xs H Q\/j xs H Q):=by
 intro pins s σ H xs us Q I z q
 rcases q with q|q
 ·exact h pins s σ H xs us Q I z q
 ·exact h' pins s σ H xs us Q I z q
theorem xt:xc X (.type "tuple") (λxs H Q=>∃p ys,xs=[.ref p]/\((SqL X.K H p ys/\∀l,H l=none->Q (.ref l) (upd H l (.tup ys)))\/(SqT X.K H p ys/\Q (.ref p) H))):=by
 intro pins s σ H xs us Q I r h
 obtain⟨p,ys,rfl,h⟩:=h
 obtain⟨u,rfl,U⟩:=vd r
 cases U
 rcases h with⟨j,q⟩|⟨j,q⟩
 ·obtain⟨its,z,pl,J⟩:=I.list j
  have O:=z.length
  refine call_tuple_list pl.isList (λh' Y=>?_) (by simp only[bT] <;>omega)
  have R:Inv X pins σ H {s with heap:=h'}:=I.kept (t':=s.toks) Y
  have Z:Inv X pins σ (upd H h'.objs.size (.tup ys)) {s with heap:=h'.push {cls:=.type "tuple",data:=.seq its.toArray}} :=
   R.laid (t':=s.toks) (λb o e=>bJ _ e) (aP _) (show yf X.prog X.w _ _ _ (.tup ys)from⟨J,its,z,kb _ _⟩)
  exact⟨.ref h'.objs.size,_,Z,rfl,q _ (R.hok.fresh (aP _))⟩
 ·obtain⟨its,z,pl,J⟩:=I.tuple j
  exact call_tuple_same pl ⟨.ref p,H,I,rfl,q⟩
def tyV(K:aE)(T:String)(x:V)(H:Hp):Prop:=match x with
 | .str _=>T="str"
 | .int _=>T="int"
 | .ref p=>(T="list"/\∃xs,SqL K H p xs)\/(T="tuple"/\∃o,K.lookup p=some o/\o.cls=.type "tuple"/\o.dict=none)\/
  (T="dict"/\((∃kvs,H p=some (.dK kvs))\/∃kvs,H p=some (.dT kvs)))\/(T="set"/\∃S n,H p=some (.set S n))
 | _=>False
theorem zaA(I:Inv X pins σ H s)(r:zz x v)(ty:tyV X.K T x H):
  s.TypeIs v T/\∀a,v=.ref a->∃O,s.heap.get? a=some O/\O.dict=none:=by
 cases x with
 | str z=>
  obtain⟨t,rfl⟩:=r
  cases (show T="str"from ty)
  exact⟨typeIs_str s z t,λ_ e=>nomatch e⟩
 | int i=>
  obtain⟨t,rfl⟩:=r
  cases (show T="int"from ty)
  exact⟨typeIs_int s i t,λ_ e=>nomatch e⟩
 | ref p=>
  cases r
  rcases ty with⟨rfl,xs,R⟩|⟨rfl,o,j,U,q⟩|⟨rfl,j⟩|⟨rfl,S,n,j⟩
  ·obtain⟨its,_,pl,_⟩:=I.list R
   refine⟨pl.isList.typeIs,λa e=>?_⟩
   cases e
   obtain⟨o,n,e,c,q,_⟩:=pl
   exact⟨o,e,q⟩
  ·refine⟨⟨o,I.kIn p o j,U⟩,λa e=>?_⟩
   cases e
   exact⟨o,I.kIn _ o j,q⟩
  ·have z:∃o,s.heap.get? p=some o/\o.ExactDict:=by
    rcases j with⟨kvs,j⟩|⟨kvs,j⟩
    ·obtain⟨_,_,_,_,o,_,_,e,ex,_⟩:=I.hok p _ j
     exact⟨o,e,ex⟩
    ·obtain⟨_,_,_,_,o,_,_,e,ex,_⟩:=I.hok p _ j
     exact⟨o,e,ex⟩
   obtain⟨o,e,ex⟩:=z
   refine⟨⟨o,e,ex.1⟩,λa J=>?_⟩
   cases J
   exact⟨o,e,ex.2.1⟩
  ·obtain⟨o,_,_,_,e,ex,_⟩:=I.hok p _ j
   refine⟨⟨o,e,ex.1⟩,λa J=>?_⟩
   cases J
   exact⟨o,e,ex.2.1⟩
 | _=>exact dO ty
def zie(K:aE)(T:String)(r:V->List V->Hp->VK->Prop)(to:TE):TE:=λσ H Q=>to σ H λx H1=>tyV K T x H1/\r x [] H1 Q
def tBM(K:aE)(T:String)(r:V->List V->Hp->VK->Prop)(to:TE)(t:TA):TE:=λσ H Q=>to σ H λx H1=>tyV K T x H1/\t σ H1 λxs H2=>r x xs H2 Q
variable {o e:aF} {es:List aF} {to:TE} {t:TA} {name:aC} {apos cpos:aK} {T id:String} {r:V->List V->Hp->VK->Prop}
theorem zfs(pa:PlainAttrs T)(slot:Slot T name id)(hty:typeOf (.builtin id)=pure (.type "method_descriptor"))(hm:MtR X id r)(ho:PE X o to) 
  (hbase:fA o name X.env (aQ o X.env)=aQ o X.env:=by rfl) (hline:(apos.endLine==cpos.line)=true:=by rfl):PE X (.Call (.Attribute o name apos) [] [] cpos) (zie X.K T r to):=by
 intro pins s σ H Q I h
 refine kf hbase hline (thn (ho pins s σ H _ I h) λv s1 ⟨x,H1,I1,r1,ty,q1⟩=>?_)
 obtain⟨h1,h2⟩:=zaA I1 r1 ty
 exact⟨T,id,pa,slot,hty,h1,h2,gZ rfl (kg (hm pins s1 σ H1 x [] v [] Q I1 r1 .nil q1))⟩
theorem xS(pa:PlainAttrs T)(slot:Slot T name id)(hty:typeOf (.builtin id)=pure (.type "method_descriptor"))(hm:MtR X id r)(ho:PE X o to)(ha:PA X (e::es) t) 
  (hbase:fA o name X.env (aQ o X.env)=aQ o X.env:=by rfl)
  (hfew:((cJ cpos (aX (e::es) X.env)).all (λx=>!x.1) && (ir cpos (iu [] X.env)).all (λx=>x.1.isSome)
   && decide ((e::es).length+([]:List gH).length+(if([]:List gH).isEmpty then 0 else 1)<30))=true:=by rfl)
  (hline:(apos.endLine==cpos.line)=true:=by rfl) (hs:aX (e::es) X.env=(false,aQ e X.env)::aX es X.env:=by rfl) (hplain:(cJ cpos (aX es X.env)).any (·.1)=false:=by rfl) :
  PE X (.Call (.Attribute o name apos) (e::es) [] cpos) (tBM X.K T r to t):=by
 intro pins s σ H Q I h
 refine wpAny_Call_method_late hbase hfew hline rfl (thn (ho pins s σ H _ I h) λv s1 ⟨x,H1,I1,r1,ty,q1⟩=>?_)
 obtain⟨h1,h2⟩:=zaA I1 r1 ty
 refine⟨T,id,pa,slot,hty,h1,h2,?_⟩
 have hA:=ha cpos pins s1 σ H1 _ I1 q1
 rw[hs]at hA ⊢
 refine gZ (by show(false|| (cJ cpos (aX es X.env)).any (·.1))=false;rw[hplain] <;>rfl) (kh ?_)
 exact thn hA λus s2 hh11'=>by obtain⟨vs,H2,I2,r2,q2⟩:=hh11';exact hm pins s2 σ H2 x vs v us Q I2 r1 r2 q2
end
end L2
namespace L2
open PySem PySem.Spec PyProof.Rows
def MtM(X:Cx)(id:String)(r:V->List V->Hp->VK->Prop):Prop :=
 ∀(pins:List (aB×aL)) (s:aD) (σ:St) (H:Hp) (x:V) (xs:List V) (v:aA) (us:List aA) (Q:VK),Inv X pins σ H s->zz x v->zC xs us->r x xs H Q->
  wpAny (aI X.prog X.w) X.A (call (.builtin id) (v::us)) (EP X pins σ Q) X.xe s
theorem zC.one:∀{x:V} {us:List aA},zC [x] us->∃u,us=[u]/\zz x u
 | _,_,.cons r .nil=>⟨_,rfl,r⟩
theorem zC.zero:∀{us:List aA},zC [] us->us=[]
 | _,.nil=>rfl
theorem zC.dropLast(h:zC xs us):zC xs.dropLast us.dropLast:=by
 induction h with
 | nil=>exact .nil
 | cons r t j=>
  cases t with
  | nil=>exact .nil
  | cons q t'=>exact .cons r j
theorem zC.reverse(h:zC xs us):zC xs.reverse us.reverse:=by
 induction h with
 | nil=>exact .nil
 | cons r t j=>rw[jb,jb];exact zC.append j (.cons r .nil)
theorem Je{α:Type}(l:List α):l.eraseIdx (l.length-1)=l.dropLast:=by
 induction l with
 | nil=>rfl
 | cons a r j=>
  cases r with
  | nil=>rfl
  | cons b r=>
   have e:(a::b::r).length-1=((b::r).length-1)+1:=by
    have h1:(a::b::r).length=r.length+2:=rfl
    have h2:(b::r).length=r.length+1:=rfl
    omega
   rw[e,List.eraseIdx_cons_succ,j]
   all_goals rfl
section
variable {X:Cx} {pins:List (aB×aL)} {σ:St} {H:Hp} {s:aD} {l b:aB} {xs ys zs:List V}
theorem Inv.lset{its its':List aA}{n:Nat}{f:Array aA->Array aA}{t':Nat}(I:Inv X pins σ H s)(j:H l=some (.lst xs)) 
  (e:s.heap.get? l=some {cls:=.type "list",data:=.seq its.toArray n}) (z:f its.toArray=its'.toArray) (J:zC ys its') (O:ys.length<=aH) :
  Inv X pins σ (upd H l (.lst ys)) {s with heap:=s.heap.update l (iA f),toks:=t'}:=by
 have q:=PySem.IsL.update e f
 rw[z]at q
 refine I.write (x:=l) (e:=l) (by rw[j];exact trivial) (.inl rfl) (λY u R U=>(lE s.heap (iA f) (aT R)).trans U) ⟨_,q⟩ ?_
 exact⟨O,its',_,J,q⟩
theorem Inv.lnew{its:List aA}{t':Nat}(I:Inv X pins σ H s)(j:zC ys its)(z:ys.length<=aH):
  Inv X pins σ (upd H s.heap.objs.size (.lst ys)) {s with heap:=s.heap.push {cls:=.type "list",data:=.seq its.toArray},toks:=t'} :=
 I.laid (λ_ _ q=>bJ _ q) (aP _) ⟨z,its,0,j,bW _ rfl⟩
theorem Inv.fresh(I:Inv X pins σ H s):H s.heap.objs.size=none:=I.hok.fresh (aP _)
theorem Inv.lstM(I:Inv X pins σ H s)(j:H l=some (.lst xs)):xs.length<=aH/\∃(its:List aA) (n:Nat),zC xs its/\xs.length=its.length/\s.heap.get? l=some {cls:=.type "list",data:=.seq its.toArray n}:=by
 obtain⟨z,its,n,r,e⟩:=I.hok l _ j
 exact⟨z,its,n,r,r.length,e⟩
theorem zbW(h:n<=aH):kj n=false:=by
 unfold kj
 exact decide_eq_false (by omega)
end
section
variable {X:Cx}
def Qr:V->List V->Hp->VK->Prop:=λx vs H Q=>∃l xs y,x=.ref l/\vs=[y]/\H l=some (.lst xs)/\xs.length<aH/\Q .non (upd H l (.lst (xs++[y])))
theorem yz:MtM X "list.append" Qr:=by
 intro pins s σ H x vs v us Q I J O h
 obtain⟨l,xs,y,rfl,rfl,j,U,q⟩:=h
 cases J
 obtain⟨u,rfl,R⟩:=O.one
 obtain⟨z,its,n,r,Y,e⟩:=I.lstM j
 refine jc dF ⟨_,e,rfl⟩ F.entry_list_append (F.args_list_append_2 _ _) (PySem.list_append l its.toArray n u (by rw[bT];omega)) ⟨e,?_⟩
 refine⟨.non,_,I.lset (its':=its++[u]) j e (by simp) (r.append (.cons R .nil)) ?_,rfl,q⟩
 rw[bQ,dP]
 omega
def Qs:V->List V->Hp->VK->Prop:=λx vs H Q=>∃l b xs zs,x=.ref l/\vs=[.ref b]/\H l=some (.lst xs)/\H b=some (.lst zs)/\xs.length+zs.length<=aH/\Q .non (upd H l (.lst (xs++zs)))
theorem zaB:MtM X "list.extend" Qs:=by
 intro pins s σ H x vs v us Q I rx rv h
 obtain⟨l,b,xs,zs,rfl,rfl,hH,hB,hz,q⟩:=h
 cases rx
 obtain⟨u,rfl,ru⟩:=rv.one
 cases ru
 obtain⟨z,its,n,r,hl,e⟩:=I.lstM hH
 obtain⟨z2,its2,n2,r2,hl2,e2⟩:=I.lstM hB
 have hsz:its.toArray.size+its2.toArray.size<=aH:=by rw[bT,bT];omega
 have hlong:¬(!its.toArray.isEmpty && kj (its.toArray.size+its2.toArray.size))=true:=by
  rw[zbW hsz,Bool.and_false]
  exact dZ
 refine jc lF ⟨_,e,rfl⟩ F.entry_list_extend (F.args_list_extend_2 _ _)
  (AutoSeq1.list_extend_list_list_0 l its.toArray n b its2.toArray n2 hlong (by rw[bT];omega) (by omega)) ⟨e,e2,?_⟩
 refine⟨.non,_,I.lset (its':=its++its2) hH e (by simp) (r.append r2) ?_,rfl,q⟩
 rw[bQ]
 omega
def zif:V->List V->Hp->VK->Prop:=λx vs H Q=>∃l xs y,x=.ref l/\vs=[]/\H l=some (.lst xs)/\xs[xs.length-1]?=some y/\Q y (upd H l (.lst xs.dropLast))
theorem zft:MtM X "list.pop" zif:=by
 intro pins s σ H x vs v us Q I rx rv h
 obtain⟨l,xs,y,rfl,rfl,hH,hy,q⟩:=h
 cases rx
 have hus:=rv.zero
 subst hus
 obtain⟨z,its,n,r,hl,e⟩:=I.lstM hH
 obtain⟨u,hu,ru⟩:=r.get hy
 have hy':its.toArray[its.toArray.size-1]?=some u:=by
  show its.toArray[its.length-1]?=some u
  rw[<-km,<-hl]
  exact hu
 refine jc lG ⟨_,e,rfl⟩ F.entry_list_pop (F.args_list_pop_1 _) (MeetsSeq.list_pop_last l its.toArray n u hy' (by rw[bT];omega)) ⟨e,?_⟩
 refine⟨y,_,I.lset (its':=its.dropLast) hH e ?_ r.dropLast ?_,ru,q⟩
 ·show its.toArray.eraseIdxIfInBounds (its.toArray.size-1)=its.dropLast.toArray
  rw[bT,List.eraseIdxIfInBounds_toArray,Je]
 ·rw[lH]
  omega
def Jf:R2:=λx y H Q=>∃l b xs zs,x=.ref l/\y=.ref b/\H l=some (.lst xs)/\H b=some (.lst zs)/\xs.length+zs.length<=aH/\∀p,H p=none->Q (.ref p) (upd H p (.lst (xs++zs)))
theorem zfu:OpR X (dD .Add) Jf:=by
 intro pins s σ H x y v u Q I J O h
 obtain⟨l,b,xs,zs,rfl,rfl,R,U,hz,q⟩:=h
 cases J
 cases O
 obtain⟨z,its,n,r,hl,e⟩:=I.lstM R
 obtain⟨z2,j,n2,r2,Y,Z⟩:=I.lstM U
 refine PySem.P.add_list e Z ?_ (by rw[bT,bT];omega)
 have ea:its.toArray++j.toArray=(its++j).toArray:=by simp
 rw[ea]
 exact⟨.ref _,_,I.lnew (t':=s.toks) (r.append r2) (by rw[bQ];omega),rfl,q _ I.fresh⟩
end
section
variable {prog:aU} {w:aO} {A:bB} {E:aA->aD->Prop} {s:aD}
end
section
variable {X:Cx}
end
end L2
namespace Att
open PySem PySem.W PySem.Calls PyProof.Rows
theorem Xg{P:jd}{h:aN}:∀(ns:List Int) (vs:List aA),WellAll P h vs (ns.map WData.int)->iB vs ns:=by
 intro ns
 induction ns with
 | nil=>
  intro vs w
  rw[je]at w
  cases w
  exact .nil
 | cons n ns j=>
  intro vs w
  rw[aR]at w
  cases w with
  | cons a b=>
   cases a
   exact .cons _ _ (j _ b)
theorem zaC{l:g5}{n:Nat}(hn:l.most=some n){P:jd}{h:aN}{args:List WData}{j:List aA} 
  (z:l.row.toRowW.claim.pre args=true) (Y:WellAll P h j args) :
  ∃a vs ns,j=[Value.ref a]/\args=[WData.list (ns.map WData.int)]/\h.get? a=some {cls:=.type "list",data:=.seq vs.toArray}/\iB vs ns/\ns.length<=n:=by
 have Z:WShape.hasAll [] args [.list .int]=true:=(pre_splitW z).1
 have hc:l.pre.holds [] {args:=args}=true:=(pre_splitW z).2
 obtain⟨d,r,rfl,h1,h2⟩:=hasAllW_cons Z
 obtain rfl:=hasAllW_nil h2
 obtain⟨xs,rfl,h3⟩:=hasW_list h1
 obtain⟨ns,rfl⟩:=items_int h3
 have J:ns.length<=n:=by
  unfold OpenLaw.pre at hc
  have R:(WTm.not (.lt (.lit (.int (n:Int))) (.len (.arg 0)))).holds [] {args:=[.list (ns.map .int)]}=true:=by
   have R:=(holds_andW hc).1
   rw[hn]at R
   exact R
  have U:=condW_of R (w_not (w_lt w_lit (w_len_list (w_arg rfl))))
  rw[aM]at U
  refine Nat.le_of_not_lt λq=>?_
  have q':(n:Int)<((ns.length:Nat):Int):=by omega
  first
   | (rw[decide_eq_true q']at U;exact absurd U (by decide))
   | (simp at U;omega)
 cases Y with
 | cons w1 w2=>
  cases w2
  cases w1 with
  | list ho O=>exact⟨_,_,ns,rfl,rfl,ho,Xg ns _ O,J⟩
theorem zaD(l:g5)(args:List WData):l.row.toRowW.claim.post args (.bool true) args=true :=
 postW_of (r:=l.row.toRowW) (X:=(true==true))
  (show lI [] (.bool true) .bool=true by first|rfl|decide|simp[lI,WShape.arms,WShape.armsAll])
  (show(WTm.eq .res (.lit (.bool true))).value [] {args:=args,res:=some (.bool true),after:=args}=some (.bool (true==true))from w_eq_bool (w_res rfl) w_lit) rfl
theorem attach_call{l:g5}{n:Nat}{q:aU}{j:List aC}{XP:(aC->Option aA)->aN->Prop}{YP:aO->aN->Prop}{d:DefRec} 
  (hn:l.most=some n) (aa:d.params.defaults=[])
  (call:∀(w:aO) (s₀ z:aD) (mg mb:aC->Option aA) (fa:aB) (o:aL) (pm cd J:aA) (a:aB) (vs:List aA) (ns:List Int),
   Ground q j [] XP w s₀ mg mb z.heap->YP w z.heap->
   z.heap.get? fa=some o->o.data=.func (docDef d.name d.params d.body d.scope pm cd J)->z.heap.CodeRec cd d.name->mg d.name=some (.ref fa)->
   z.heap.get? a=some {cls:=.type "list",data:=.seq vs.toArray}->iB vs ns->ns.length<=n->z.gens=#[]->
   codeAny (aI l.prog w) gK (.call (.ref fa) ⟨[.ref a],[]⟩) (λr s'=>r=.ok (.ret (.bool true))/\OldK z.heap s'.heap/\s'.os=z.os/\eV s'.gens) z) :
  ko q j XP YP l.row.toRowW d [] (λf vs=>kq f vs):=by
 intro w s₀ z mg mb G Y fa o pm cd J dV kV ho hd ab hD ac hg args af as R ag ah ae ai
 obtain rfl:dV=.none:=Dflts.none hD aa
 obtain rfl:kV=.none:=Dflts.noKw hD
 obtain⟨a,vs,ns,rfl,rfl,U,O,Z⟩:=zaC hn R ae
 refine enter_call (i9 (call w s₀ z mg mb fa o pm cd J a vs ns G Y ho (fd_plain hd) ab ac U O Z hg) λr s' hq=>?_)
 obtain⟨rfl,h2,h3,h4⟩:=hq
 exact⟨.inl ⟨.bool true,.bool true,[],rfl,λ_=>rfl,.bool true,zaD l _,λ_=>⟨List.Pairwise.nil,λ_ hm=>(nomatch hm)⟩⟩,h2,h3,h4⟩
section
variable {prog:aU} {w:aO} {A:bB} {E:aA->aD->Prop} {s:aD} {K:aE}
end
end Att
namespace L2
open PySem PySem.Spec PyProof.Rows
theorem WZ:∀{vs:List aA} {ns:List Int},iB vs ns->zC (ns.map V.int) vs
 | _,_,.nil=>.nil
 | _,_,.cons n t h=>.cons ⟨t,rfl⟩ (WZ h)
def zbX(H:Hp):Prop:=∀b,H b=none\/∃o xs,H b=some (.frz o (.lst xs))
theorem zbY{P:aU}{w:aO}{K:aE}{mg mb:aC->Option aA}{CX:CXT}{k:Nat}{fa a:aB}{fd:cB}{x:aC}{sp:Sp}{j:aD}{vs:List aA}{ns:List Int} 
  (KX:K.In j.heap) (aa:j.heap.Ns aV mg) (O:j.heap.Ns jI mb) (ai:∀x:aC,x≠"__name__"->mb x=eU x) (ab:j.heap.NoLimit) (hg:j.gens=#[])
  (ha:j.heap.get? a=some {cls:=.type "list",data:=.seq vs.toArray}) (hi:iB vs ns) (hl:ns.length<=aH) (hr:Room k gK)
  (F:∀base:aN,K.In base->base.Ns aV mg->FnOk P w K mg base CX k fa fd [x] sp) (Y:∀(s:aD) (u:aA),gY s fd ⟨[u],[]⟩ [(x,u)])
  (aj:∀H:Hp,zbX H->SqL K H a (ns.map V.int)->sp [.ref a] H (λv _=>v=.bl true) λ_ _ _=>False)
  (ak:∀H e s',CX [] H j (λ_ _ _=>False) e s'->False) :
  codeAny (aI P w) gK (.call (.ref fa) ⟨[.ref a],[]⟩) (λr s'=>r=.ok (.ret (.bool true))/\OldK j.heap s'.heap/\s'.os=j.os/\eV s'.gens) j:=by
 have rv:=WZ hi
 have ac:=hi.length
 have U:∀H:Hp,zbX H->SqL K H a (ns.map V.int)->HOk P w H j.heap->(∀b,H b≠none->b=a)->(H a≠none->K.lookup a=none)->
   codeAny (aI P w) gK (.call (.ref fa) ⟨[.ref a],[]⟩) (λr s'=>r=.ok (.ret (.bool true))/\OldK j.heap s'.heap/\s'.os=j.os/\eV s'.gens) j:=by
  intro H hO hS ae hA hK
  have J:∀{b:aB} {o:aL},j.heap.get? b=some o->H b=none->(uP j.heap H).get? b=some o:=λe n=>zbL e n
  have al:∀{b:aB} {o:aL} {es:Array DictEntry} {ep:Nat},j.heap.get? b=some o->o.data=.dict es ep->H b=none:=λ{b o es ep} e d=>by
   cases q:H b with
   | none=>rfl
   | some u=>
    have e':b=a:=hA b (by rw[q];simp)
    subst e'
    rw[ha]at e;cases e
    have d':Data.seq vs.toArray _=Data.dict es ep:=d
    cases d'
  have R:∀{b:aB} {m:aC->Option aA},j.heap.Ns b m->(uP j.heap H).Ns b m:=λ{b m} Z=>by obtain⟨o,es,ep,e,d,r⟩:=Z;exact⟨o,es,ep,J e (al e d),d,r⟩
  have af:K.In (uP j.heap H):=λb o e=>J (KX b o e) (by
   cases q:H b with
   | none=>rfl
   | some u=>
    have e':b=a:=hA b (by rw[q];simp)
    subst e'
    rw[hK (by rw[q];simp)]at e;cases e)
  have hM:Mod K mg (uP j.heap H):=⟨af,R aa,⟨mb,R O,ai⟩,(by obtain⟨mc,h1,h2⟩:=ab;exact⟨mc,R h1,h2⟩)⟩
  have e0:Env0 P w K mg (uP j.heap H) gK [] j H:=⟨rfl,hM,λb o e=>zd1 e,eN (zaq _ _),trivial,λb O=>absurd (show b∈([]:List aB)from O) (by simp),ae,.of_eq hg⟩
  refine i9 ((F _ af (R aa)).run gK [] j H ⟨[.ref a],[]⟩ [.ref a] [.ref a] _ _ hr e0 (Y j (.ref a)) (.cons rfl .nil) (aj H hO hS)) λr s' h=>?_
  cases r with
  | error e=>exact(ak H e s' h).elim
  | ok fl=>
   cases fl with
   | next=>exact dO h
   | brk=>exact dO h
   | cont=>exact dO h
   | ret u=>
    obtain⟨v,H',os,ag,un,ah,r',q⟩:=h
    have q':v=.bl true:=q
    subst q'
    obtain rfl:u=Value.bool true:=r'
    refine⟨rfl,OldK.of_keep λb o e=>?_,os,ag⟩
    cases q:H b with
    | none=>exact un.keep b o e q (by intro z;exact absurd (show b∈([]:List aB)from z) (by simp)) (by simp)
    | some u=>
     rcases hO b with z|⟨ob,xs,z⟩
     ·rw[q]at z;cases z
     ·have z2:=un.frzs b ob _ z
      obtain⟨e1,_⟩:=ae b _ z
      obtain⟨e2,_⟩:=ah b _ z2
      rw[e]at e1;cases e1
      exact e2
 cases hk:K.lookup a with
 | some o=>
  have e:=KX a o hk
  rw[ha]at e
  cases e
  refine U (λ_=>none) (λ_=>.inl rfl) (.inr ⟨_,vs.toArray,_,hk,rfl,rfl,rfl,by rw[bT,ac];exact hl,by simpa using rv⟩) (λb u z=>by have z':(none:Option HO)=some u:=z;cases z') (λb z=>absurd rfl z) λz=>absurd rfl z
 | none=>
  refine U (λb=>if b=a then some (.frz {cls:=.type "list",data:=.seq vs.toArray} (.lst (ns.map V.int)))else none) (λb=>?_) (.inl (.inr ⟨{cls:=.type "list",data:=.seq vs.toArray},if_pos rfl⟩)) (λb u z=>?_) (λb z=>?_) λ_=>hk
  ·by_cases O:b=a
   ·exact .inr ⟨_,_,if_pos O⟩
   ·exact .inl (if_neg O)
  ·by_cases O:b=a
   ·have z':=(if_pos O).symm.trans z
    cases z'
    subst O
    exact⟨ha,by rw[aM];exact hl,vs,_,rv,ha⟩
   ·have z':=(if_neg O).symm.trans z
    cases z'
  ·by_cases O:b=a
   ·exact O
   ·exact absurd (if_neg O) z
end L2
namespace L2
open PySem PySem.Spec PyProof.Rows
theorem zef{l:g5}{n k:Nat}{q:aU}{loose:List aC}{XP:(aC->Option aA)->aN->Prop}{YP:aO->aN->Prop}{d:DefRec}{K:jd->aE}{CX:aO->CXT}{sp:aO->Sp}{x:aC} 
  (hn:l.most=some n) (hn2:n<=aH) (hdf:d.params.defaults=[]) (hr:Room k gK)
  (hY:∀(w:aO) (h:aN),YP w h->(K w.params).In h)
  (F:∀(w:aO) (mg:aC->Option aA) (fa:aB) (h:aN),(K w.params).In h->h.Ns aV mg->mg d.name=some (.ref fa)->
   ∃fd:cB,(∀(s:aD) (u:aA),gY s fd ⟨[u],[]⟩ [(x,u)])/\
    ∀base:aN,(K w.params).In base->base.Ns aV mg->FnOk l.prog w (K w.params) mg base (CX w) k fa fd [x] (sp w))
  (hsp:∀(w:aO) (H:Hp) (a:aB) (ns:List Int),ns.length<=n->zbX H->SqL (K w.params) H a (ns.map V.int)->sp w [.ref a] H (λv _=>v=.bl true) λ_ _ _=>False)
  (hCX:∀(w:aO) (H:Hp) (s:aD) (e:aA) (s':aD),CX w [] H s (λ_ _ _=>False) e s'->False) :
  ko q loose XP YP l.row.toRowW d [] (λf vs=>kq f vs):=by
 refine Att.attach_call hn hdf λw s₀ s₁ mg mb fa o pm cd doc a vs ns G Y ho hd hcd hmg hobj hints hlen hg=>?_
 have KX:=hY w _ Y
 obtain⟨fd,hb,hF⟩:=F w mg fa _ KX G.T.g hmg
 exact zbY KX G.T.g G.T.b G.T.builtins G.T.nolimit hg hobj hints (bL hlen hn2) hr hF hb (λH hO hS=>hsp w H a ns hlen hO hS) λH e s'=>hCX w H s₁ e s'
end L2
namespace L2
open PySem PySem.Spec PyProof.Rows
def uq(s:aS):Arguments:=match s with
 | .FunctionDef _ a _ _ _ _ _ _ _ _=>a
 | _=>{posonlyargs:=[],args:=[],vararg:=none,kwonlyargs:=[],kw_defaults:=[],kwarg:=none,defaults:=[]}
def wA(s:aS):List aS:=match s with
 | .FunctionDef _ _ b _ _ _ _ _ _ _=>b
 | _=>[]
def zr(s:aS):bU:=match s with
 | .FunctionDef _ _ _ _ _ _ j _ _ _=>j
 | _=>{kind:=.function,names:=[],isGenerator:=false,isCoroutine:=false}
abbrev CX0:CXT:=λ_ _ _ _ _ _=>False
abbrev E0:XK:=λ_ _ _=>False
theorem v6:vP CX0 X E0:=λ_ _ _ _ _ _ _ h=>h.elim
structure Fun (K:aE) (x qual:aC) (st:aS) (f:aB) (fd:cB):Prop where
 ex:∃(oc:aA) (od:Option aB) (kV doc pm:aA) (an:Option aB) (cdv ct:aA) (osl:Array (Option aA)),
  fd=gJ x qual (uq st) (wA st) (zr st) .none kV doc pm an cdv ct/\K.lookup f=some ⟨oc,od,.func fd,osl⟩/\j4 K cdv qual=true
 kp:fO K (.ref f)=true
section
variable {P:aU} {w:aO} {K:aE} {mg:aC->Option aA} {base:aN}
theorem Fun.ok{x qual:aC}{st:aS}{f:aB}{fd:cB}{N ps:List aC}{k:Nat}{sp:Sp}(F:Fun K x qual st f fd)(S:FnScope N ps (zr st))(len:∀vs H Q E,sp vs H Q E->vs.length=ps.length) 
  (j:∀(cdv:aA) (A:bB) (outer:List bS) (s:aD) (H:Hp) (vs:List V) (Q:VK) (E:XK),Room k (A.deeper (eP qual (zr st) s.heap.objs.size f cdv))->sp vs H Q E->
   ∃t,PSs (Zq CX0 P w K mg base N qual (zr st) f cdv A outer s H E).nox (wA st) t/\t {nx:=λ_ H'=>Q .non H',rt:=Q} (start N vs) H):FnOk P w K mg base CX0 (k+1) f fd ps sp:=by
 obtain⟨Z,od,kV,O,pm,an,cdv,ct,R,rfl,U,z⟩:=F.ex
 refine zgK U z S len λA outer s H vs Q E Y J=>?_
 obtain⟨t,h,q⟩:=j cdv A outer s H vs Q E Y J
 exact⟨t,h.nox,q⟩
theorem Fun.binds{x qual:aC}{st:aS}{f:aB}{fd:cB}{ps:List aC}(F:Fun K x qual st f fd) 
  (h:∀(kV doc pm:aA) (an:Option aB) (cdv ct:aA) (us:List aA),us.length=ps.length->bindArgs (gJ x qual (uq st) (wA st) (zr st) .none kV doc pm an cdv ct) ⟨us,[]⟩=pure (ps.zip us)):xo K fd ps []:=by
 obtain⟨oc,od,kV,doc,pm,an,cdv,ct,osl,rfl,lk,hcd⟩:=F.ex
 exact .all (h kV doc pm an cdv ct)
theorem zaE{x qual:aC}{st:aS}{f:aB}{O:aA}{R z:Option aB}{q:Array (Option aA)}{kV j J cdv ct:aA}(l:K.lookup f=some ⟨O,R,.func (gJ x qual (uq st) (wA st) (zr st) .none kV j J z cdv ct),q⟩) 
 (c:j4 K cdv qual=true) (k:fO K (.ref f)=true):Fun K x qual st f (gJ x qual (uq st) (wA st) (zr st) .none kV j J z cdv ct):=⟨⟨O,R,kV,j,J,z,cdv,ct,q,rfl,l,c⟩,k⟩
end
theorem yE(j:Room k A):A.units+1<bV:=eB (Nat.add_le_add_left (by decide:1<=64) _) j.units
section
variable {X:Cx}
theorem pv(i:Nat){x:aC}{pos:aK}(q:X.N[i]?=some x:=by rfl)(z:Vis X.env.scope x:=by first|exact Or.inl rfl|exact Or.inr (Or.inl rfl)|exact Or.inr (Or.inr rfl))(J:(x==("__debug__":aC))=false:=by decide) 
 (j:(x==("__classdict__":aC))=false:=by decide):PE X (.Name x pos) (uQ i):=ze5 q z J j
end
theorem zig{A B:Prop}(h:A):if true=true then A else B:=by
 rw[if_pos rfl]
 exact h
theorem VU{c A B:Prop} [Decidable c] (h1:c->A) (h2:¬c->B):if c then A else B:=by
 by_cases h:c
 ·rw[if_pos h]
  exact h1 h
 ·rw[if_neg h]
  exact h2 h
def zp(H H':Hp):Prop:=∀b o,H b=some o->H' b=some o
theorem zp.refl(H:Hp):zp H H:=λ_ _ h=>h
theorem zp.trans(a:zp H H1)(b:zp H1 H2):zp H H2:=λc o h=>b c o (a c o h)
theorem zp.free(e:zp H H')(h:H' l=Option.none):H l=Option.none:=by
 cases q:H l with
 | none=>rfl
 | some o=>
  rw[e l o q]at h
  cases h
theorem zp.seq{K:aE}{H H':Hp}{a:aB}{xs:List V}(e:zp H H')(h:SqL K H a xs):SqL K H' a xs:=by
 rcases h with(h|⟨o,h⟩)|h
 ·exact .inl (.inl (e _ _ h))
 ·exact .inl (.inr ⟨o,e _ _ h⟩)
 ·exact .inr h
end L2
namespace L2
open PySem PySem.Spec PyProof.Rows
def PF(X:Cx)(ifs:List aF)(t:TT):Prop :=
 ∀(pins:List (aB×aL)) (s:aD) (σ:St) (H:Hp) (Q:Bool->Hp->Prop),Inv X pins σ H s->t σ H Q->
  wpAny (aI X.prog X.w) X.A (forIn ifs true λc r=>if r=true then do let ok <-gR c X.env (aQ c X.env);pure (ForInStep.yield ok)else pure (ForInStep.yield r)) (TP X pins σ Q) X.xe s
def Wa:TT:=λ_ H Q=>Q true H
theorem VW{X:Cx}:PF X [] Wa:=λ_ _ _ H _ I h=>wpAny_tests_nil ⟨H,I,h⟩
theorem zfv(h:PT X c t):PF X [c] t:=λpins s σ H Q I q=>wpAny_tests_one (h pins s σ H Q I q)
theorem zaF{prog:aU}{w:aO}{A:bB}{R:i7->aD->Prop}{s:aD}{elt target iter:aF}{ifs:List aF}{scope:bU}{pos:aK}{it acc:aA}{env:bS}(I:Nat->aD->Prop) 
  (turn:∀n s,I n s->wpAny (aI prog w) A (gC it) (λr s1=>match r with
   | none=>R (.ok .next) s1
   | some v=>wpAny (aI prog w) A (iZ target it v) (λ_ s1'=>wpAny (aI prog w) A (dX target env v) (λ_ s2=>
    wpAny (aI prog w) A (forIn ifs true λc r=>if r=true then do let ok <-gR c env (aQ c env);pure (ForInStep.yield ok)else pure (ForInStep.yield r)) (λok s3=>
     if ok=true then wpAny (aI prog w) A (aQ elt env) (λx s4=>
      wpAny (aI prog w) A (call (.builtin "list.append") [acc,x]) (λ_ s5=>∃m,m<n/\I m s5) (λ_ _=>False) s4) (λ_ _=>False) s3
     else ∃m,m<n/\I m s3) (λ_ _=>False) s2) (λ_ _=>False) s1') (λ_ _=>False) s1) (λ_ _=>False) s)
  (n:Nat) (h:I n s) :
  codeAny (aI prog w) A (.compLoop (.ListComp elt [⟨target,iter,ifs,0⟩] scope pos) 0 it acc env) R s:=by
 refine codeAny_loop rfl I (λn s hI=>?_) n h
 show wpAny _ A ((compTurn (.ListComp elt [⟨target,iter,ifs,0⟩] scope pos) 0 it acc env).onRaise (λx=>do noteFrame x env;theTreesLotGoes x)) _ _ s
 refine wpAny_noted ?_
 rw[compTurn_list]
 refine aJ (jM (aJ (dC (turn n s hI) (λr s1 h1=>?_) λ_ _ h'=>h'.elim)))
 cases r with
 | none=>exact bM h1
 | some v=>
  refine aJ (dC h1 (λ_ s1' h1'=>?_) λ_ _ h'=>h'.elim)
  refine aJ (dC h1' (λ_ s2 h2=>aJ (dC h2 (λok s3 h3=>?_) λ_ _ h'=>h'.elim)) λ_ _ h'=>h'.elim)
  cases ok with
  | false=>exact bM ⟨rfl,h3⟩
  | true=>exact aJ (aJ (dC h3 (λx s4 h4=>aJ (dC h4 (λ_ s5 h5=>bM (bM ⟨rfl,h5⟩)) λ_ _ h'=>h'.elim)) λ_ _ h'=>h'.elim))
theorem uj{env:bS}:∀(l:List (aC×fB)) (acc:List (aC×aB)),(∀y∈l,y.2=.free->(env.cells.lookup y.1).isSome=true)->(∀x c,acc.lookup x=some c->env.cells.lookup x=some c)->
  ∃cl:List (aC×aB),(forIn l acc (λ(x:aC×fB) (r:List (aC×aB))=>match x with
   | (name,kind)=>if(kind==NameKind.free)=true then do let a <-cellOf env name;pure (ForInStep.yield ((name,a)::r))else pure (ForInStep.yield r)):cQ (List (aC×aB)))=pure cl/\
   (∀x c,cl.lookup x=some c->env.cells.lookup x=some c)/\(∀x,(x,NameKind.free)∈l->∃c,cl.lookup x=some c)/\∀x,(∃c,acc.lookup x=some c)->∃c,cl.lookup x=some c
 | [],acc,_,ha=>⟨acc,rfl,ha,λx h=>(nomatch h),λx h=>h⟩
 | (n,k)::r,acc,h,ha=>by
  by_cases hk:k=NameKind.free
  ·subst hk
   obtain⟨c,hc⟩:=lA.mp (h (n,.free) bE rfl)
   have ha':∀x c',((n,c)::acc).lookup x=some c'->env.cells.lookup x=some c':=λx c' e=>by
    rw[fR]at e
    cases hx:x==n with
    | true=>
     rw[hx]at e
     have:x=n:=eq_of_beq hx
     rw[this,hc];simpa using e
    | false=>rw[hx]at e;exact ha x c' e
   obtain⟨cl,e1,e2,e3,e4⟩:=uj r ((n,c)::acc) (λy hy=>h y (bC _ hy)) ha'
   refine⟨cl,?_,e2,λx hx=>?_,λx ⟨d,hd⟩=>e4 x ?_⟩
   ·rw[kr]
    show(if(NameKind.free==NameKind.free)=true then _ else _:cQ _)>>=_=_
    rw[if_pos (show(NameKind.free==NameKind.free)=true from rfl)]
    have hco:cellOf env n=pure c:=by unfold cellOf;rw[hc]
    rw[hco]
    exact e1
   ·rcases aW.mp hx with q|q
    ·cases q
     exact e4 n ⟨c,by simp[fR]⟩
    ·exact e3 x q
   ·cases hx:x==n with
    | true=>exact⟨c,by rw[fR,hx]⟩
    | false=>exact⟨d,by rw[fR,hx];exact hd⟩
  ·obtain⟨cl,e1,e2,e3,e4⟩:=uj r acc (λy hy=>h y (bC _ hy)) ha
   refine⟨cl,?_,e2,λx hx=>?_,e4⟩
   ·rw[kr]
    have hb:¬(k==NameKind.free)=true:=by simpa using hk
    show(if(k==NameKind.free)=true then _ else _:cQ _)>>=_=_
    rw[if_neg hb]
    exact e1
   ·rcases aW.mp hx with q|q
    ·cases q;exact absurd rfl hk
    ·exact e3 x q
theorem Jg{scope:bU}{env:bS}(h:∀y∈scope.names,y.2=.free->(env.cells.lookup y.1).isSome=true):
  ∃cl:List (aC×aB),closureFor scope env=pure cl/\(∀x c,cl.lookup x=some c->env.cells.lookup x=some c)/\∀x,(x,NameKind.free)∈scope.names->∃c,cl.lookup x=some c:=by
 obtain⟨cl,e1,e2,e3,_⟩:=uj (env:=env) scope.names [] h (λx c e=>by simp at e)
 refine⟨cl,?_,e2,e3⟩
 unfold closureFor
 exact(congrArg (λ(m:cQ (List (aC×aB)))=>m>>=λcs=>pure cs) e1)
def Qt(q:bU)(z:List aC)(scope:bU)(N:List aC)(ms:List (Option Nat)):Bool :=
 scope.names.all (λy=>decide (y.2≠.cell) && (decide (y.2≠.local) || decide (scope.names.lookup y.1=some .local)) && (decide (y.2≠.free) || decide (q.names.lookup y.1=some .cell) || decide (q.names.lookup y.1=some .free)))
 && decide (ms.length=N.length) && decide (N.Nodup) && decide (scope.kind=.function)
 && (N.zip ms).all (λp=>match p.2 with|none=>true|some j=>decide (z[j]?=some p.1) && decide (scope.names.lookup p.1=some .free))
structure CompOk (osc:bU) (oN:List aC) (scope:bU) (N:List aC) (ms:List (Option Nat)):Prop where
 kind:scope.kind=.function
 nocell:∀y∈scope.names,y.2≠.cell
 loc:∀y∈scope.names,y.2=.local->scope.names.lookup y.1=some .local
 fr:∀y∈scope.names,y.2=.free->osc.names.lookup y.1=some .cell\/osc.names.lookup y.1=some .free
 len:ms.length=N.length
 nd:N.Nodup
 sel:∀(i:Nat) x j,N[i]?=some x->ms[i]?=some (some j)->oN[j]?=some x/\scope.names.lookup x=some .free
theorem CompOk.of(h:Qt J O scope N ms=true):CompOk J O scope N ms:=by
 unfold Qt at h
 simp only[fE,decide_eq_true_eq,eC,ku]at h
 obtain⟨⟨⟨⟨h1,h2⟩,R⟩,U⟩,Y⟩:=h
 refine⟨U,λy z=>(h1 y z).1.1,λy z e=>?_,λy z e=>?_,h2,R,λi x j Z e2=>?_⟩
 ·rcases(h1 y z).1.2 with q|q
  ·exact absurd e q
  ·exact q
 ·rcases(h1 y z).2 with(q|q)|q
  ·exact absurd e q
  ·exact .inl q
  ·exact .inr q
 ·have m:(x,some j)∈N.zip ms:=by
   have:(N.zip ms)[i]?=some (x,some j):=by rw[List.getElem?_zip_eq_some];exact⟨Z,e2⟩
   exact bX this
  have q:=Y _ m
  simpa using q
def yh(X:Cx)(scope:bU)(cl:List (aC×aB))(C:aB)(N:List aC)(s:aD)(H:Hp)(ex:List aB):Cx :=
 {X with N:=N,s₀:=s,H₀:=H,env:=compEnvC scope cl C X.env,outer:=X.stack,stack:=X.stack,ex:=ex,fn:=λ_=>false,pn:=[],xe:=λ_ _=>False}
def blk(ms:List (Option Nat))(σ:St):St:=ms.map λm=>m.bind λj=>(σ[j]?).join
theorem Qu{ms:List (Option Nat)}{σ:St}{i:Nat}{v:V}(h:(blk ms σ)[i]?=some (some v)):∃j,ms[i]?=some (some j)/\σ[j]?=some (some v):=by
 unfold blk at h
 rw[bG]at h
 cases e:ms[i]? with
 | none=>rw[e]at h;simp at h
 | some m=>
  rw[e]at h
  cases m with
  | none=>simp at h
  | some j=>
   refine⟨j,rfl,?_⟩
   simp only[cP,bF,lJ]at h
   cases q:σ[j]? with
   | none=>rw[q]at h;simp at h
   | some o=>rw[q]at h;simp at h;rw[h]
theorem wX{env:bS}:∀{names:List (aC×fB)} {x:aC} {k:fB},
  (names.map λ(n,k)=>if(k==NameKind.free && env.scope.kind== .function && env.kindOf n==some .cell)then(n,NameKind.cell)else(n,k)).lookup x=some k->
  (names.lookup x=some k)\/(names.lookup x=some .free/\k=.cell)
 | [],_,_,h=>by simp at h
 | (n,j)::r,x,k,h=>by
  have J:=@wX env r x k
  rw[aR]at h
  by_cases z:(j==NameKind.free && env.scope.kind== .function && env.kindOf n==some .cell)=true
  ·have O:j=.free:=by
    simp only[fE]at z
    simpa using z.1.1
   have h':eZ x ((n,NameKind.cell)::r.map λ(n,k)=>if(k==NameKind.free && env.scope.kind== .function && env.kindOf n==some .cell)then(n,NameKind.cell)else(n,k))=some k:=by
    have e:(match (n,j)with|(n,k)=>if(k==NameKind.free && env.scope.kind== .function && env.kindOf n==some .cell)=true then(n,NameKind.cell)else(n,k))=(n,NameKind.cell):=if_pos z
    rw[e]at h;exact h
   rw[fR]at h' ⊢
   cases q:x==n with
   | true=>rw[q]at h';cases h';exact .inr ⟨by rw[O],rfl⟩
   | false=>rw[q]at h';exact J h'
  ·have h':eZ x ((n,j)::r.map λ(n,k)=>if(k==NameKind.free && env.scope.kind== .function && env.kindOf n==some .cell)then(n,NameKind.cell)else(n,k))=some k:=by
    have e:(match (n,j)with|(n,k)=>if(k==NameKind.free && env.scope.kind== .function && env.kindOf n==some .cell)=true then(n,NameKind.cell)else(n,k))=(n,j):=if_neg z
    rw[e]at h;exact h
   rw[fR]at h' ⊢
   cases q:x==n with
   | true=>rw[q]at h';cases h';exact .inl rfl
   | false=>rw[q]at h';exact J h'
theorem wW{env:bS}:∀{names:List (aC×fB)} {x:aC},names.lookup x=some .free->
  (names.map λ(n,k)=>if(k==NameKind.free && env.scope.kind== .function && env.kindOf n==some .cell)then(n,NameKind.cell)else(n,k)).lookup x=some .free\/
  (names.map λ(n,k)=>if(k==NameKind.free && env.scope.kind== .function && env.kindOf n==some .cell)then(n,NameKind.cell)else(n,k)).lookup x=some .cell
 | [],_,h=>by simp at h
 | (n,j)::r,x,h=>by
  have z:=@wW env r x
  rw[aR]
  by_cases J:(j==NameKind.free && env.scope.kind== .function && env.kindOf n==some .cell)=true
  ·have e:(match (n,j)with|(n,k)=>if(k==NameKind.free && env.scope.kind== .function && env.kindOf n==some .cell)=true then(n,NameKind.cell)else(n,k))=(n,NameKind.cell):=if_pos J
   rw[e]
   rw[fR]at h ⊢
   cases q:x==n with
   | true=>exact .inr rfl
   | false=>rw[q]at h;exact z h
  ·have e:(match (n,j)with|(n,k)=>if(k==NameKind.free && env.scope.kind== .function && env.kindOf n==some .cell)=true then(n,NameKind.cell)else(n,k))=(n,j):=if_neg J
   rw[e]
   rw[fR]at h ⊢
   cases q:x==n with
   | true=>rw[q]at h;cases h;exact .inl rfl
   | false=>rw[q]at h;exact z h
section
variable {X:Cx} {pins:List (aB×aL)} {σ:St} {H:Hp} {s:aD}
theorem HOk.track(x:HOk P w H h)(hn:H D=none)(k:∀b u,H b≠none->h.get? b=some u->h'.get? b=some u)(new:yf P w (upd H D o) h' D o):HOk P w (upd H D o) h':=λb u e=>by
 by_cases j:b=D
 ·subst j;rw[zj]at e;cases e;exact new
 ·rw[ze j]at e
  refine(x b u e).stay (λc v J q=>k c v ?_ q) (λc q=>by rw[ze (zq q hn)];exact q) λc xs q=>by rw[ze (zq q hn)];exact q
  rcases J with z|z
  ·rw[z,e];simp
  ·rw[z];simp
theorem Jh{scope:bU}{cl:List (aC×aB)}{N:List aC}{ms:List (Option Nat)}{fp:List aB}{s3:aD}{D C:aB}{h1:aN}{tk:Nat}{m0:aC->Option aA} 
  (I:Inv X pins σ H s) (ok:CompOk X.env.scope X.N scope N ms) (J:∀x c,cl.lookup x=some c->X.env.cells.lookup x=some c) (Y:∀x,(x,NameKind.free)∈scope.names->∃c,cl.lookup x=some c)
  (aa:∀b∈fp,xz X pins H b) (ai:∀b∈fp,b<s.heap.objs.size) (hD:D=s.heap.objs.size) (ab:s3={s with heap:=s.heap.push {cls:=.type "list",data:=.seq ([]:List aA).toArray}}) (hC:C=s3.heap.objs.size)
  (aj:h1.Ns C m0) (hk:∀b o,s3.heap.get? b=some o->h1.get? b=some o):Inv (yh X scope cl C N s3 H (D::fp)) [] (blk ms σ) H {s3 with heap:=h1,toks:=tk}:=by
 have up:∀b o,s.heap.get? b=some o->s3.heap.get? b=some o:=λb o e=>by rw[ab];exact bJ _ e
 have up1:∀b o,s.heap.get? b=some o->h1.get? b=some o:=λb o e=>hk b o (up b o e)
 have I3:Inv X pins σ H s3:=by rw[ab];exact I.kept (t':=s.toks) λb o e=>bJ _ e
 have ae:s3.heap.objs.size=s.heap.objs.size+1:=by rw[ab];exact eT ..
 have R:∀x c,cl.lookup x=some c->c<s.heap.objs.size:=λx c e=>let ⟨v,q⟩:=I.cell x c (J x c e);q.lt
 have af:∀b∈D::fp,b<s3.heap.objs.size:=λb O=>by
  rcases aW.mp O with q|q
  ·rw[q,hD,ae];exact gE _
  ·rw[ae];exact g6 (ai b q)
 have U:∀b∈D::fp,∀o,X.base.get? b=some o->False:=λb O o e=>by
  rcases aW.mp O with q|q
  ·have:=aZ e
   have h2:=bL I.ok.bsz I.sz
   rw[q,hD]at this
   exact absurd (cD this h2) (cI _)
  ·obtain⟨_,_,_,z,_⟩:=aa b q
   rcases z with z|z
   ·exact I.ok.noex b o e z
   ·exact absurd (cD (aZ e) (bL I.ok.bsz z)) (cI _)
 refine⟨⟨I.ok.mod,ok.kind,I.ok.glob,I.ok.blt,eN hC.symm,λx y c a b=>I.ok.inj x y c (J x c a) (J y c b),λx hx=>?_,λx c e=>absurd e dZ,I.ok.hd,I.ok.frames,.inl rfl,
  λb O=>⟨?_,λx c e z=>?_⟩,λb o e=>I3.bs b o e,bL I.ok.bsz I3.sz,λb o e O=>U b O o e,λb O hf=>?_,I3.stack,I3.stkFree⟩,rfl,I3.bare,Un.kept hk,⟨m0,aj,λi x v e1 e2 e3=>?_⟩,λx c e=>?_,
  I3.hok.fresh (eN hC.symm),λx c e=>I.freeC x c (J x c e),λp hp=>(nomatch hp),I3.hok.kept hk,by simp[blk,ok.len,yh]⟩
 ·have fin:scope.names.lookup x=some .free->∃c,cl.lookup x=some c:=λq=>Y x (mem_of_lookup q)
  have no:scope.names.lookup x≠some .cell:=λq=>ok.nocell _ (mem_of_lookup q) rfl
  rcases hx with hx|hx
  ·rcases wX (env:=X.env) (show(relabel scope X.env).names.lookup x=some .cell from hx)with q|⟨q,_⟩
   ·exact absurd q no
   ·exact fin q
  ·rcases wX (env:=X.env) (show(relabel scope X.env).names.lookup x=some .free from hx)with q|⟨q,_⟩
   ·exact fin q
   ·exact fin q
 ·have:=af b O
  intro z
  have z':b=C:=z
  rw[z',hC]at this
  exact cI _ this
 ·have e':cl.lookup x=some c:=e
  rcases aW.mp O with q|q
  ·have:=R x c e'
   rw[z,q,hD]at this
   exact cI _ this
  ·exact(aa b q).2.2.2.2.1 x c (J x c e') z
 ·have ag:b∈frs X.stack:=hf
  rcases aW.mp O with q|q
  ·rcases aW.mp (I.stkSub b ag)with z|z
   ·have:=I.lt
    rw[<-z,q,hD]at this
    exact cI _ this
   ·exact I.nofs (a:=b) (by rw[q,hD];exact aP _) z
  ·obtain⟨_,n1,n2,_⟩:=aa b q
   rcases aW.mp (I.stkSub b ag)with z|z
   ·exact n1 z
   ·exact n2 z
 ·obtain⟨j,q1,q2⟩:=Qu e2
  obtain⟨q3,q4⟩:=ok.sel i x j e1 q1
  have hm:(x,NameKind.free)∈scope.names:=mem_of_lookup q4
  obtain⟨m,hn,hl⟩:=I.loc
  have kd:=ok.fr _ hm rfl
  have ak:Vis X.env.scope x:=kd.elim (λz=>.inr (.inl z)) λz=>.inr (.inr z)
  obtain⟨u,r,l⟩:=hl j x v q3 q2 ak
  refine⟨u,r,.inr ⟨?_,?_⟩⟩
  ·rcases wW (env:=X.env) q4 with z|z
   ·exact .inr z
   ·exact .inl z
  ·rcases l with⟨al,_⟩|⟨_,c,hc,ac⟩
   ·have Z:X.env.scope.names.lookup x=some .local:=al
    rcases kd with z|z
    ·rw[Z]at z;cases z
    ·rw[Z]at z;cases z
   ·obtain⟨c',ah⟩:=Y x hm
    have:=J x c' ah
    rw[hc]at this;cases this
    exact⟨c,ah,ac.keeps up1⟩
 ·obtain⟨v,q⟩:=I.cell x c (J x c e)
  exact⟨v,q.keeps up1⟩
theorem Ji{scope:bU}{cl:List (aC×aB)}{N:List aC}{fp:List aB}{s3 s':aD}{D C:aB}{pl:List (aB×aL)}{sg:St}{H':Hp}{its:List aA}{ys:List V}{n:Nat} 
  (I:Inv X pins σ H s) (Z:∀b∈fp,xz X pins H b) (hD:D=s.heap.objs.size) (J:s3={s with heap:=s.heap.push {cls:=.type "list",data:=.seq ([]:List aA).toArray}})
  (R:Inv (yh X scope cl C N s3 H (D::fp)) pl sg H' s') (aa:H' D=none) (hd:s'.heap.get? D=some {cls:=.type "list",data:=.seq its.toArray n}) (r:zC ys its) (hz:ys.length<=aH) :
  Inv X pins σ (upd H' D (.lst ys)) s':=by
 have Y:∀b o,s.heap.get? b=some o->s3.heap.get? b=some o:=λb o e=>by rw[J];exact bJ _ e
 have O:∀b o,s.heap.get? b=some o->b≠D:=λb o e z=>by
  have:=aZ e
  rw[z,hD]at this
  exact cI _ this
 have U:Un (frs X.stack) (D::fp) H H' s3.heap s'.heap:=R.base
 have HD:H D=none:=I.hok.fresh (eN hD.symm)
 have j:∀b o,s.heap.get? b=some o->b∉fp->b∉D::fp:=λb o e h z=>(aW.mp z).elim (O b o e) h
 refine I.call' (ch:=fp) (by rw[R.os];show s3.os=s.os;rw[J]) ⟨λb o e n h1 h2=>U.keep b o (Y b o e) n h1 (j b o e h2),λb o e n h1 h2=>U.slot b o (Y b o e) n h1 (j b o e h2),
  λb o e n h2=>by rw[ze (O b o e)];exact U.free b o (Y b o e) n (j b o e h2),λb o e h2=>U.there b o (Y b o e) (j b o e h2),λb xs e=>by rw[ze (zq e HD)];exact U.tups b xs e,
  λb o u e=>by rw[ze (zq e HD)];exact U.frzs b o u e,λb ps e=>by rw[ze (zq e HD)];exact U.tbls b ps e⟩ ?_ R.bare λb hb=>?_
 ·exact HOk.track R.hok aa (λ_ _ _ q=>q) ⟨hz,its,n,r,hd⟩
 ·obtain⟨_,n1,_,n2,n3,n4⟩:=Z b hb
  exact⟨n2,n1,n3,n4⟩
def Wk(σ j:St):Prop:=σ.length=j.length/\∀(i:Nat) v,σ[i]?=some (some v)->j[i]?=some (some v)
def Vw(J:It)(g:TG)(tf:TT)(te:TE)(σ:St)(H:Hp)(Fin:List V->Hp->Prop):Prop :=
 ∃W:Nat->Nat->List V->Hp->Prop,(∃m,W 0 m [] H)/\∀i m ys H,W i m ys H->ys.length<=aH/\
  ((J.stop i H/\Fin ys H)\/(J.go i H/\∀x H',J.yld i H x H'->g x σ H' λq H2=>Wk σ q/\tf q H2 λb z=>if b=true then te q z λy O=>ys.length+1<=aH/\∃j,j<m/\W (i+1) j (ys++[y]) O else ∃j,j<m/\W (i+1) j ys z))
theorem VX{elt tg iter:aF}{ifs:List aF}{scope:bU}{pos cpos:aK}{use:Option (aA->cQ Unit)}{N:List aC}{ms:List (Option Nat)}{wi:TI}{g:TG}{tf:TT}{te:TE}{Q:aA->aD->Prop}{Fin:List V->Hp->Prop} 
  (hc:X.calm=true) (ok:CompOk X.env.scope X.N scope N ms) (hi:PI X tg iter wi)
  (hb:∀cl C s H ex,PG (yh X scope cl C N s H ex) tg g/\PF (yh X scope cl C N s H ex) ifs tf/\PE (yh X scope cl C N s H ex) elt te)
  (hs:∀x,fN iter X.env x=pure x)
  (I:Inv X pins σ H s) (hw:wi σ H λJ H1=>Vw J g tf te (blk ms σ) H1 Fin)
  (fin:∀D C s' ys H' m,Inv X pins σ (upd H' D (.lst ys)) s'->H' D=none->Fin ys H'->s'.heap.Ns C m->xz X pins (upd H' D (.lst ys)) C->compPost (aI X.prog X.w) X.A X.xe use Q (.ref D) C (.ok .next) s') :
  wpAny (aI X.prog X.w) X.A (lK (.ListComp elt [⟨tg,iter,ifs,0⟩] scope pos) scope X.env cpos (newList []) false (aQ iter X.env) use) Q X.xe s:=by
 obtain⟨cl,hclos,hcl,hcl2⟩:=Jg (scope:=scope) (env:=X.env) (λy hy e=>by
  obtain⟨c,hc⟩:=I.ok.has y.1 (ok.fr y hy e)
  rw[hc];rfl)
 refine wpAny_comprehension_free (use:=use) rfl hs hclos ok.kind ok.loc (thn (hi pins s σ H _ I hw) λv s1 h1=>thn h1 λitv s2 h2=>?_)
 obtain⟨it,fp,tn,J,H2,e,I2,T,st2,f2,W,⟨m0,w0⟩,turn⟩:=h2
 subst e
 refine iC (wpAny_newFunctionEnv ok.nocell (by intro y hy;simp at hy) (λh1 hns hsb=>?_) ok.kind)
 dsimp only at hns hsb ⊢
 generalize hs3:({s2 with heap:=s2.heap.push {cls:=.type "list",dict:=none,data:=.seq ([]:List aA).toArray}}:aD)=s3
 have hheap:s2.heap.push {cls:=.type "list",dict:=none,data:=.seq ([]:List aA).toArray}=s3.heap:=by rw[<-hs3]
 rw[hheap]at hns hsb
 have hDs:s3.heap.objs.size=s2.heap.objs.size+1:=by rw[<-hheap];exact eT ..
 obtain⟨D,hD⟩:∃D,D=s2.heap.objs.size:=⟨_,rfl⟩
 obtain⟨C,hC⟩:∃C,C=s3.heap.objs.size:=⟨_,rfl⟩
 have hk:∀b o,s3.heap.get? b=some o->h1.get? b=some o:=λb o e=>hsb.extBut b o (bO (aZ e)) (bJ _ e)
 have up:∀b o,s2.heap.get? b=some o->s3.heap.get? b=some o:=λb o e=>by rw[<-hheap];exact bJ _ e
 have hfo:∀b∈fp,b<s2.heap.objs.size:=λb hb=>let ⟨o,e,_⟩:=T.obj _ _ st2 b hb;aZ e
 have hDC:D≠C:=by rw[hD,hC,hDs];exact bO (gE _)
 have hDfp:D∉fp:=λhm=>by have:=hfo D hm;rw[hD]at this;exact cI _ this
 have hs3':s3={s2 with heap:=s2.heap.push {cls:=.type "list",data:=.seq ([]:List aA).toArray}}:=hs3.symm
 have I3:Inv X pins σ H2 s3:=by rw[hs3'];exact I2.kept (t':=s2.toks) λb o e=>bJ _ e
 have en:∀tk,Inv (yh X scope cl C N s3 H2 (D::fp)) [] (blk ms σ) H2 {s3 with heap:=h1,toks:=tk}:=λtk=>Jh I2 ok hcl hcl2 f2 hfo hD hs3' hC (by rw[hC];exact hns) hk
 have fpX:∀{pl:List (aB×aL)} {H':Hp},(∀b∈fp,H' b=none)->(∀p∈pl,p.1=D)->∀b∈fp,xz (yh X scope cl C N s3 H2 (D::fp)) pl H' b:=λ{pl H'} hn hp b hb=>by
  have ok':=(en 0).ok
  refine⟨hn b hb,(ok'.exf b (bC _ hb)).1,ok'.exfs b (bC _ hb),.inl (bC _ hb),(ok'.exf b (bC _ hb)).2,λp hpm z=>?_⟩
  have hpm':p∈pl:=hpm
  rw[hp p hpm']at z
  exact hDfp (z▸hb)
 have DX:∀{pl:List (aB×aL)} {sg:St} {H':Hp} {s':aD} {o:aL},Inv (yh X scope cl C N s3 H2 (D::fp)) pl sg H' s'->H' D=none->s'.heap.get? D=some o->(∀v,o.data≠.cell v)->Inv (yh X scope cl C N s3 H2 (D::fp)) [(D,o)] sg H' s':=λ{pl sg H' s' o} J' hn ho hd=>
  J'.pins_of λp hp=>by
   obtain rfl:=bN.mp hp
   exact⟨ho,hn,(J'.ok.exf D bE).1,J'.ok.exfs D bE,hd⟩
 have loop:∀s4:aD,(∃tk,s4={s3 with heap:=h1,toks:=tk})->
   codeAny (aI X.prog X.w) X.A (.compLoop (.ListComp elt [⟨tg,iter,ifs,0⟩] scope pos) 0 (.ref it) (.ref D) (compEnvC scope cl C X.env)) (compPost (aI X.prog X.w) X.A X.xe use Q (.ref D) C) s4:=by
  rintro s4 ⟨tk,rfl⟩
  refine zaF (λn s'=>∃i ys H' its nn,Inv (yh X scope cl C N s3 H2 (D::fp)) [] (blk ms σ) H' s'/\tn i s'.heap/\(∀b∈fp,H' b=none)/\H' D=none/\
   s'.heap.get? D=some {cls:=.type "list",data:=.seq (its:List aA).toArray nn}/\zC ys its/\W i n ys H') ?_ m0 ⟨0,[],H2,[],0,en tk,T.keep _ _ _ st2 λb hb o e=>hk b o (up b o e),λb hb=>(f2 b hb).1,I2.hok.fresh (eN hD.symm),hk _ _ ?_,.nil,w0⟩
  ·rintro n s' ⟨i,ys,H',its,nn,I',st',fr',dn',hd',rv',w'⟩
   obtain⟨gh,hb2⟩:=hb cl C s3 H2 (D::fp)
   obtain⟨tfh,teh⟩:=hb2
   obtain⟨hz,alt⟩:=turn i n ys H' w'
   have nocell:∀v,(({cls:=.type "list",data:=.seq its.toArray nn}:aL)).data≠.cell v:=λv z=>by
    have z':Data.seq its.toArray nn=Data.cell v:=z
    cases z'
   have ID:=DX I' dn' hd' nocell
   have fpI:=fpX (pl:=[(D,({cls:=.type "list",data:=.seq its.toArray nn}:aL))]) fr' (λp hp=>by obtain rfl:=bN.mp hp;rfl)
   rcases alt with⟨stop,qf⟩|⟨go,step⟩
   ·refine thn (T.done (yh X scope cl C N s3 H2 (D::fp)) rfl rfl rfl hc i _ s' _ H' _ ID fpI st' stop) λr s5 ⟨hr,I5⟩=>?_
    subst hr
    have hd5:=(I5.pin (D,_) (cX _ (bN.mpr rfl))).1
    obtain⟨m,hn5,_⟩:=I5.loc
    have Hc:(upd H' D (.lst ys)) C=none:=by rw[ze (aT hDC)];exact I5.free
    exact fin D C s5 ys H' m (Ji I2 f2 hD hs3' I5 dn' hd5 rv' hz) dn' qf hn5 (I3.fpOk (eN hC.symm) Hc)
   ·refine thn (T.item (yh X scope cl C N s3 H2 (D::fp)) rfl rfl rfl hc i _ s' _ H' _ ID fpI st' go) λr s5 ⟨u,hr,h5⟩=>?_
    subst hr
    refine thn h5 λ_ s6 ⟨x,H6,I6,r6,y6,st6,fr6⟩=>?_
    have I6':=I6.pinned (fpX (pl:=[(D,({cls:=.type "list",data:=.seq its.toArray nn}:aL))]) fr6 (λp hp=>by obtain rfl:=bN.mp hp;rfl)) (T.obj _ _ st6)
    refine thn (gh _ s6 _ H6 x u _ I6' r6 (step x H6 y6)) λ_ s7 ⟨sg7,H7,I7,wk7,q7⟩=>?_
    have back:∀{H9:Hp} {s9:aD} {its':List aA} {ys':List V} {m' nn':Nat},Inv (yh X scope cl C N s3 H2 (D::fp)) ([(D,({cls:=.type "list",data:=.seq its.toArray nn}:aL))]++Zn fp s6.heap) sg7 H9 s9->
      ∀h10:aN,(∀b o,b≠D->s9.heap.get? b=some o->h10.get? b=some o)->h10.get? D=some {cls:=.type "list",data:=.seq its'.toArray nn'}->zC ys' its'->m'<n->W (i+1) m' ys' H9->
      ∃m,m<n/\∃i ys H' its nn,Inv (yh X scope cl C N s3 H2 (D::fp)) [] (blk ms σ) H' {s9 with heap:=h10}/\tn i h10/\(∀b∈fp,H' b=none)/\H' D=none/\
       h10.get? D=some {cls:=.type "list",data:=.seq (its:List aA).toArray nn}/\zC ys its/\W i m ys H':=λ{H9 s9 its' ys' m' nn'} I9 h10 hb10 hd10 rv10 hm w9=>by
     have dn9:H9 D=none:=(I9.pin (D,_) (cX _ (dJ _ (bN.mpr rfl)))).2.1
     have pk:∀b∈fp,∀o,s6.heap.get? b=some o->s9.heap.get? b=some o/\H9 b=none:=λb hb o e=>
      let q:=I9.pin (b,o) (cX _ (cX _ (uR hb e)));⟨q.1,q.2.1⟩
     have I10:Inv (yh X scope cl C N s3 H2 (D::fp)) [] (blk ms σ) H9 s9:=(I9.pins_of (pins':=[]) λp hp=>(nomatch hp)).weak wk7.1 wk7.2
     refine⟨m',hm,i+1,ys',H9,its',nn',I10.turned (t':=s9.toks) hb10 dn9 (I10.ok.exf D bE).1 (.inl bE) (λx c e=>(I10.ok.exf D bE).2 x c e) (λp hp=>(nomatch hp)),
      T.keep _ _ _ st6 λb hb o e=>hb10 b o (λz=>hDfp (z▸hb)) (pk b hb o e).1,λb hb=>?_,dn9,hd10,rv10,w9⟩
     obtain⟨o,e,_⟩:=T.obj _ _ st6 b hb
     exact(pk b hb o e).2
    refine thn (tfh _ s7 sg7 H7 _ I7 q7) λb s8 ⟨H8,I8,q8⟩=>?_
    have hd8:s8.heap.get? D=some {cls:=.type "list",data:=.seq its.toArray nn}:=(I8.pin (D,_) (cX _ (dJ _ (bN.mpr rfl)))).1
    cases b with
    | false=>
     obtain⟨m',hm,w8⟩:=q8
     exact back I8 s8.heap (λ_ _ _ q=>q) hd8 rv' hm w8
    | true=>
     refine thn (teh _ s8 sg7 H8 _ I8 q8) λu9 s9 ⟨y9,H9,I9,r9,hz9,m',hm,w9⟩=>?_
     have hd9:s9.heap.get? D=some {cls:=.type "list",data:=.seq its.toArray nn}:=(I9.pin (D,_) (cX _ (dJ _ (bN.mpr rfl)))).1
     have hl:=rv'.length
     refine append_at (hsz:=by rw[bT,<-hl];exact hz) hd9 λh10 hs10 hd10=>?_
     refine back I9 h10 (λb o hb e=>(hs10.2 b hb).trans e) (its':=its++[u9]) (nn':=nn+1) (by rw[hd10,List.push_toArray]) (rv'.append (.cons r9 .nil)) hm w9
  ·rw[<-hheap,hD]
   exact bW _ rfl
 subst hD
 subst hC
 subst hs3
 exact codeAny_compStart_list (loop _ ⟨_,rfl⟩) (T.self X.A 0 _ _ _ (T.keep _ _ _ st2 λb hb o e=>hk b o (up b o e)) (loop _ ⟨_,rfl⟩))
def Jj(j:TI)(g:TG)(tf:TT)(te:TE)(ms:List (Option Nat)):TE:=λσ H Q=>j σ H λJ H1=>Vw J g tf te (blk ms σ) H1 λys H'=>∀p,H' p=none->Q (.ref p) (upd H' p (.lst ys))
theorem zeg{elt tg iter:aF}{ifs:List aF}{scope:bU}{pos:aK}{N:List aC}{ms:List (Option Nat)}{wi:TI}{g:TG}{tf:TT}{te:TE} 
  (hc:X.calm=true) (ok:CompOk X.env.scope X.N scope N ms) (hi:PI X tg iter wi)
  (hb:∀cl C s H ex,PG (yh X scope cl C N s H ex) tg g/\PF (yh X scope cl C N s H ex) ifs tf/\PE (yh X scope cl C N s H ex) elt te)
  (hs:∀x,fN iter X.env x=pure x:=by intro _;rfl):PE X (.ListComp elt [⟨tg,iter,ifs,0⟩] scope pos) (Jj wi g tf te ms):=by
 intro pins s σ H Q I hw
 rw[eval_ListComp]
 refine VX (use:=none) hc ok hi hb hs I hw ?_
 intro D C s' ys H' m I' hn fin hns fp
 refine⟨m,hns,λh' sb=>?_⟩
 exact⟨.ref D,_,I'.turned (t':=s'.toks) (λb o hb e=>(sb.2 b hb).trans e) fp.1 fp.2.1 fp.2.2.2.1 fp.2.2.2.2.1 fp.2.2.2.2.2,rfl,fin D hn⟩
theorem ZY{elt tg iter:aF}{ifs:List aF}{scope:bU}{pos spos py:aK}{N:List aC}{ms:List (Option Nat)}{wi:TI}{g:TG}{tf:TT}{te:TE}{i:Nat}{y:aC} 
  (hc:X.calm=true) (ok:CompOk X.env.scope X.N scope N ms) (hi:PI X tg iter wi)
  (hb:∀cl C s H ex,PG (yh X scope cl C N s H ex) tg g/\PF (yh X scope cl C N s H ex) ifs tf/\PE (yh X scope cl C N s H ex) elt te)
  (hN:X.N.Nodup) (hy:X.N[i]?=some y) (hx:Loc X.env.scope y)
  (hsw:cO (.ListComp elt [⟨tg,iter,ifs,0⟩] scope pos) (some (.Name y py)) spos.line X.env=pure true)
  (hf:X.fn y=true\/X.env.scope.names.lookup y=some .local:=by first|exact .inl rfl|exact .inr rfl|assumption)
  (hs:∀x,fN iter X.env x=pure x:=by intro _;rfl):PS X (.Assign [.Name y py] (.ListComp elt [⟨tg,iter,ifs,0⟩] scope pos) spos) (X5 (Jj wi g tf te ms) (v5 i)):=by
 intro pins s σ H Dn I hw
 rw[exec_Assign_Name_used _ _ _ _ hsw]
 refine aJ (jM (aJ ?_))
 show wpAny _ X.A (do let _ <-lK (.ListComp elt [⟨tg,iter,ifs,0⟩] scope pos) scope X.env _ (newList []) false (aQ iter X.env) (some (dX (.Name y py) X.env))) _ _ s
 refine aJ (dC (VX (use:=some (dX (.Name y py) X.env)) (Q:=λ_ s'=>SP X pins Dn .next s') hc ok hi hb hs I hw ?_) (λ_ s' hq=>bM (bM hq)) λ_ _ e=>e)
 intro D C s' ys H' m I' hn fin hns fp
 show wpAny _ X.A (dX (.Name y py) X.env (.ref D)) _ _ s'
 refine lh (WS I' hN hy hx (v:=.ref D) rfl (λs2 I2 sb=>?_) hf)
 obtain⟨a,sb,ha⟩:=sb
 have hne:C≠a:=by
  rcases ha with z|z
  ·rw[z];exact fp.2.1
  ·exact λq=>fp.2.2.2.2.1 y a z q.symm
 refine⟨m,hns.sameBut sb hne,λh' sb'=>?_⟩
 exact⟨_,_,I2.turned (t':=s2.toks) (λb o hb e=>(sb'.2 b hb).trans e) fp.1 fp.2.1 fp.2.2.2.1 fp.2.2.2.2.1 fp.2.2.2.2.2,fin D hn⟩
def zih(K:aE)(tl:TE):TI:=λσ H R=>tl σ H λx H1=>∃a,x=.ref a/\(((∃xs,SqL K H1 a xs)/\R (Itl K a) H1)\/((∃xs,SqT K H1 a xs)/\R (Itt K a) H1))
theorem zfw(U:PE X l tl):PI X tg l (zih X.K tl):=by
 intro pins s σ H R I h
 refine thn (U pins s σ H _ I h) λv s1 ⟨x,H1,j,r1,z⟩=>?_
 obtain⟨a,e,z⟩:=z
 subst e
 cases r1
 rcases z with⟨⟨xs,J⟩,q⟩|⟨⟨xs,J⟩,q⟩
 ·obtain⟨its,Y,p,Z⟩:=j.list J
  refine ik p.isList ?_
  refine⟨s1.heap.objs.size,[s1.heap.objs.size],_,_,H1,rfl,j.kept (t':=s1.toks) λb o e=>bJ _ e,WT a _,⟨_,bW _ rfl,rfl,rfl⟩,λb O=>?_,q⟩
  have e:b=s1.heap.objs.size:=by simpa using O
  subst e
  exact j.fpOk (aP _) (j.hok.fresh (aP _))
 ·obtain⟨its,Y,p,Z⟩:=j.tuple J
  refine il (show s1.heap.IsTuple a its.toArray from p) ?_
  refine⟨s1.heap.objs.size,[s1.heap.objs.size],_,_,H1,rfl,j.kept (t':=s1.toks) λb o e=>bJ _ e,Xa a _,⟨_,bW _ rfl,rfl,rfl⟩,λb O=>?_,q⟩
  have e:b=s1.heap.objs.size:=by simpa using O
  subst e
  exact j.fpOk (aP _) (j.hok.fresh (aP _))
end
end L2
namespace L2
open PySem PySem.Spec PyProof.Rows
open PySem.AutoSeq1 (wpAny_loadPart')
section
variable {prog:aU} {w:aO} {A:bB} {E:aA->aD->Prop} {s:aD}
theorem Yz{q t:aB}{i:Nat}{items:Array aA}{x:aA}{Q:aA->aD->Prop}(j:s.heap.IsTupleIter q t i)(R:s.heap.IsTuple t items)(U:items[i]?=some x) 
  (Y:∀h',h'.IsTupleIter q t (i+1)->ii q s.heap h'->Q x {s with heap:=h'}):wpAny (aI prog w) A (jf (.ref q)) Q E s:=by
 obtain⟨o,ho,Z,z⟩:=id j
 obtain⟨ol,J,_,nl,O⟩:=R
 unfold jf
 refine aJ (jg (name:=iD "__next__") j.typeIs jh
  (ji jh j.typeIs lL ?_ (lM _)))
 show wpAny _ _ (g7 (.ref q) 0>>=_) _ _ s
 refine aJ (g8 ho z (x:=.ref t) rfl ?_)
 show wpAny _ _ (if(Value.ref t==Value.none)=true then _ else _) _ _ s
 rw[if_neg (show ¬((Value.ref t==Value.none)=true)from dZ)]
 show wpAny _ _ (g7 (.ref q) 1>>=_) _ _ s
 refine aJ (g8 ho z (x:=.int i 0) rfl ?_)
 show wpAny _ _ (seqItems? (.ref t)>>=_) _ _ s
 refine aJ (kw J O ?_)
 simp only[gL,U]
 refine aJ (lN ho z (by simp) (bM ⟨x,rfl,bM (Y _ ?_ (lO ..))⟩))
 exact⟨_,lD _ ho (Obj.isFreed_of_fields (lP z _)),(Obj.cls_mapFields ..).trans Z,by
  rw[lP z];simp[ij]⟩
theorem vQ{it t:aB}{i:Nat}{items:Array aA}{Q:aA->aD->Prop}(hh:A.handled=none) 
  (hit:s.heap.IsTupleIter it t i) (ht:s.heap.IsTuple t items) (hx:items[i]?=none)
  (hE:∀h' e,Heap.ExtBut it s.heap h'->(∃o,h'.get? e=some o/\o.cls=.type "StopIteration")->E (.ref e) {s with heap:=h'}) :
  wpAny (aI prog w) A (jf (.ref it)) Q E s:=by
 obtain⟨o,ho,hc,hd⟩:=id hit
 obtain⟨ol,hol,_,nl,hdl⟩:=ht
 unfold jf
 refine aJ (jg (name:=iD "__next__") hit.typeIs jh
  (ji jh hit.typeIs lL ?_ (lM _)))
 show wpAny _ _ (g7 (.ref it) 0>>=_) _ _ s
 refine aJ (g8 ho hd (x:=.ref t) rfl ?_)
 show wpAny _ _ (if(Value.ref t==Value.none)=true then _ else _) _ _ s
 rw[if_neg (show ¬((Value.ref t==Value.none)=true)from dZ)]
 show wpAny _ _ (g7 (.ref it) 1>>=_) _ _ s
 refine aJ (g8 ho hd (x:=.int i 0) rfl ?_)
 show wpAny _ _ (seqItems? (.ref t)>>=_) _ _ s
 refine aJ (kw hol hdl ?_)
 simp only[gL,hx]
 refine aJ (wpAny_rule (aJ (lN ho hd (by simp) ?_)))
 show wpAny _ _ (newExc (.type "StopIteration") []>>=_) _ _ _
 refine aJ ?_
 simp only[newExc,newTuple]
 refine aJ (iC ?_ (by size_fits))
 refine aJ (m:=lQ _ _) (wpAny_of_eq (a:=Value.none) (by first|rfl|(simp only[lQ];rfl)) ?_)
 refine iC ?_ (by size_fits)
 simp only[raiseNew]
 refine aJ (wpAny_handled ?_)
 first|rw[show A.in1.handled=none from hh]|rw[hh]
 refine aJ (bM (wpAny_throw ?_))
 exact hE _ _ (((lO ..).extBut.push _).push _) ⟨_,bW _ rfl,rfl⟩
end
theorem Qe{prog:aU}{w:aO}{A:bB}(hh:A.handled=none)(it l:aB)(hne:l≠it)(items:Array aA):
  Draws prog w A it [it,l] items.size (λi v=>items[i]?=some v) (λi h=>h.IsTupleIter it l i/\h.IsTuple l items) where
 live:=λ_ _ st=>let ⟨o,ho,_⟩:=st.1;⟨o,ho⟩
 frame:=λ_ _ _ st hk=>⟨st.1.at λo e=>hk it (by simp) o e,(by obtain⟨o,e,r⟩:=st.2;exact⟨o,hk l (by simp) o e,r⟩)⟩
 item:=λi s Q E hi st hQ=>by
  refine Yz st.1 st.2 (x:=items[i]) (by simp[hi]) λh' hit' hs'=>?_
  exact hQ _ h' s.toks (by simp[hi]) ⟨hit',st.2.extBut hs'.extBut hne⟩ hs'
 done:=λs Q E st hE=>vQ hh st.1 st.2 (by simp) hE
theorem Xh(l:aB)(items:Array aA)(n:Nat)(dct:Option aB)(sl:Array (Option aA)):
  Meets (jj.«enumerate.__new__» ⟨[.type "enumerate",.ref l],[]⟩) (λ_ R s=>s.heap.get? l=some {cls:=.type "tuple",dict:=dct,data:=.seq items n,slots:=sl}/\
   R (.ok (.ret (.ref (s.heap.push {cls:=.type "tuple_iterator",data:=.fields #[.ref l,.int 0 0]}).objs.size)))
    {s with heap:=(s.heap.push {cls:=.type "tuple_iterator",data:=.fields #[.ref l,.int 0 0]}).push {cls:=.type "enumerate",data:=.fields #[.none,.bool false,.ref s.heap.objs.size,ij 0,.none,.none]}}) :=
 .of_wp λprog w A R s h=>by
  obtain⟨hp,g,d,tk,os⟩:=s;obtain⟨hl,h⟩:=h
  have hsub:=sub_enumerate
  have hL:Heap.IsTuple (Shared.heap ⟨hp,g,d,tk,os⟩) l items:=⟨_,hl,rfl,n,rfl⟩
  wp_walk using wpAny_loadPart' hl
  refine wpAny_stack_any λst=>bM ?_
  split
  ·rename_i c _ _ _ _ _
   cases (c==Value.type "enumerate")
   ·wp_walk using wpAny_loadPart' hl,il hL
    exact⟨_,rfl,h⟩
   ·wp_walk using wpAny_loadPart' hl,il hL
    exact⟨_,rfl,h⟩
  ·wp_walk using wpAny_loadPart' hl,il hL
   exact⟨_,rfl,h⟩
theorem Xi{prog:aU}{w:aO}{A:bB}{E:aA->aD->Prop}{s:aD}{l:aB}{items:Array aA}{Q:aA->aD->Prop}(U:s.heap.IsTuple l items) 
  (h:∀h',jk h' (s.heap.objs.size+1) s.heap.objs.size 0 .none->h'.IsTupleIter s.heap.objs.size l 0->h'.objs.size=s.heap.objs.size+2->
   (∀b o,s.heap.get? b=some o->h'.get? b=some o)->Q (.ref (s.heap.objs.size+1)) {s with heap:=h'}) :
  wpAny (aI prog w) A (call (.type "enumerate") [.ref l]) Q E s:=by
 obtain⟨⟨c,j,Y,Z⟩,hl,q,n,z⟩:=U
 replace q:c=.type "tuple":=q
 replace z:Y=.seq items n:=z
 subst q z
 refine callType_new F.called_enumerate (by decide) (F.typeCall_enumerate_1 _) (F.newCall_enumerate_1 _) (λJ=>lR J _) F.entry_enumerate_new
  (Xh l items n j Z) ⟨hl,?_⟩
 have O:(s.heap.push {cls:=.type "tuple_iterator",data:=.fields #[.ref l,.int 0 0]}).objs.size=s.heap.objs.size+1:=eT ..
 show _/\_
 rw[O]
 have R:jk ((s.heap.push {cls:=.type "tuple_iterator",data:=.fields #[.ref l,.int 0 0]}).push
   {cls:=.type "enumerate",data:=.fields #[.none,.bool false,.ref s.heap.objs.size,ij 0,.none,.none]}) (s.heap.objs.size+1) s.heap.objs.size 0 .none:=by
  have:=bW (s.heap.push {cls:=.type "tuple_iterator",data:=.fields #[.ref l,.int 0 0]})
   (o:={cls:=.type "enumerate",data:=.fields #[.none,.bool false,.ref s.heap.objs.size,ij 0,.none,.none]}) rfl
  rw[O]at this;exact this
 refine⟨⟨_,R,rfl⟩,h _ R ⟨_,bJ _ (bW _ rfl),rfl,rfl⟩ (by rw[eT,O]) λb o x=>bJ _ (bJ _ x)⟩
end L2
namespace L2
open PySem PySem.Spec PyProof.Rows
def Ite(rd:Hp->List V->Prop):It :=
 ⟨λi H=>∃xs x,rd H xs/\xs[i]?=some x,λi H x H'=>∃T v,H T=none/\H'=upd H T (.tup [.int i,v])/\x=.ref T/\∀xs,rd H xs->xs[i]?=some v,λi H=>∃xs,rd H xs/\xs.length<=i⟩
section
variable {X:Cx} {pins:List (aB×aL)} {σ:St} {H:Hp} {s:aD}
theorem W0{e O:aB}{i:Nat}{v:V}{x:aA}{tk tk':Nat}{h':aN}(I:Inv X pins σ H s)(Y:xz X pins H e)(J:xz X pins H O)(rv:zz v x) 
  (hT:h'.get? s.heap.objs.size=some {cls:=.type "tuple",data:=.seq #[.int i tk,x]}) (U:∀b o,b≠e->b≠O->s.heap.get? b=some o->h'.get? b=some o) (th:∀b o,s.heap.get? b=some o->∃o',h'.get? b=some o') :
  Inv X pins σ (upd H s.heap.objs.size (.tup [.int i,v])) {s with heap:=h',toks:=tk'}:=by
 have hn:H s.heap.objs.size=none:=I.hok.fresh (aP _)
 have fT:xz X pins H s.heap.objs.size:=I.fpOk (aP _) hn
 have ch:∀b∈[s.heap.objs.size,e,O],xz X pins H b:=λb j=>by
  rcases aW.mp j with q|j
  ·rw[q];exact fT
  ·rcases aW.mp j with q|j
   ·rw[q];exact Y
   ·rw[bN.mp j];exact J
 have ne:∀b,b∉ [s.heap.objs.size,e,O]->b≠e/\b≠O:=λb j=>⟨λz=>j (by simp[z]),λz=>j (by simp[z])⟩
 have neT:∀b o,s.heap.get? b=some o->b≠s.heap.objs.size:=λb o q=>bO (aZ q)
 refine I.step (g':=s.gens) (d':=s.drawn) (ch:=[s.heap.objs.size,e,O]) (λb j=>let ⟨_,q1,_,q2,q3,q4⟩:=ch b j;⟨q2,q1,q3,q4⟩)
  (λb o _ _ R q _=>U b o (ne b R).1 (ne b R).2 q) (λb o _ _ R q _=>⟨o.slots,U b o (ne b R).1 (ne b R).2 q⟩) (λb o R q n=>by rw[ze (neT b o q)];exact n) (λb o _ q=>th b o q)
  (λb xs q=>by rw[ze (zq q hn)];exact q) (λb o u q=>by rw[ze (zq q hn)];exact q) (λb ps q=>⟨#[],by rw[ze (zq q hn),q];simp⟩) (λm hm=>?_) ?_ I.bare
 ·obtain⟨o,es,ep,ho,r⟩:=hm
  exact⟨o,es,ep,U _ o (aT Y.2.1) (aT J.2.1) ho,r⟩
 ·refine HOk.track I.hok hn (λb u Z q=>U b u (λz=>Z (by rw[z];exact Y.1)) (λz=>Z (by rw[z];exact J.1)) q) ?_
  exact⟨by show 2<=aH;decide,[.int i tk,x],.cons ⟨tk,rfl⟩ (.cons rv .nil),⟨_,hT,rfl,_,rfl⟩⟩
end
theorem Jk{P:aU}{w:aO}{K:aE}{elts:List aF}{k:Nat}{tp:aK}(a it e:aB)(hei:e≠it):
  Turn P w K (.Tuple elts k tp) (Ite λH xs=>SqT K H a xs) [e,it] e (λi h=>(∃old,jk h e it i old)/\h.IsTupleIter it a i) where
 mem:=by simp
 obj:=λi h st b hb=>by
  obtain⟨⟨old,he⟩,o,e1,c,d⟩:=st
  rcases aW.mp hb with q|hb
  ·subst q
   exact⟨_,he,λv z=>by
    have z':Data.fields _=Data.cell v:=z
    cases z'⟩
  ·rw[bN.mp hb]
   exact⟨o,e1,λv z=>by rw[d]at z;cases z⟩
 keep:=λi h h' st k=>⟨let ⟨old,he⟩:=st.1;⟨old,k e (by simp) _ he⟩,st.2.at λo q=>k it (by simp) o q⟩
 item:=by
  intro X hP hw hK hc i pins s σ H E I hf st hg
  subst hP hw hK
  obtain⟨xs,x,hq,hx⟩:=hg
  obtain⟨its,rv,p,hz⟩:=I.tuple hq
  obtain⟨u,hu,ru⟩:=rv.get hx
  obtain⟨⟨old,he⟩,hit⟩:=st
  have fe:=hf e (by simp)
  have fi:=hf it (by simp)
  have hai:a≠it:=λz=>by
   obtain⟨o,e1,c,_⟩:=p
   obtain⟨o2,e2,c2,_⟩:=hit
   rw[z,e2]at e1;cases e1;rw[c2]at c;exact absurd c (by simp)
  have hae:e∉ [it,a]:=λhm=>by
   rcases aW.mp hm with q|hm
   ·exact hei q
   ·have q:=bN.mp hm
    obtain⟨o,e1,c,_⟩:=p
    rw[<-q,he]at e1
    cases e1;simp at c
  refine lS (Qe (A:=X.A.in1) (I.ok.hd hc) it a hai its.toArray) he ⟨hit,p⟩ (by rw[bT];exact(aY.mp hu).1) hei hae λx' h' tk hP ho hs' hT hsz hk=>?_
  have hx':x'=u:=by
   have hP':its[i]?=some x':=by simpa using hP
   rw[hu]at hP';cases hP';rfl
  subst hx'
  refine⟨_,rfl,lT ho λh2 he2 hs2=>?_⟩
  have hk2:∀b o,b≠e->b≠it->s.heap.get? b=some o->h2.get? b=some o:=λb o n1 n2 q=>(hs2.2 b n1).trans (hk b o n1 n2 q)
  have hel:e≠s.heap.objs.size:=bO (aZ he)
  have hit2:h2.IsTupleIter it a (i+1):=hs'.1.at λo q=>(hs2.2 it (aT hei)).trans q
  have I2:=W0 (tk':=tk+1) (i:=i) (tk:=tk) (h':=h2) I fe fi ru ((hs2.2 _ (aT hel)).trans hT) hk2 (λb o q=>by
   by_cases n1:b=e
   ·subst n1;exact⟨_,he2⟩
   ·by_cases n2:b=it
    ·subst n2;obtain⟨o',q',_⟩:=hit2;exact⟨o',q'⟩
    ·exact⟨o,hk2 b o n1 n2 q⟩)
  refine⟨.ref s.heap.objs.size,_,I2,rfl,⟨_,x,I.hok.fresh (aP _),rfl,rfl,λys hy=>by rw[I.tuple_inj hy hq];exact hx⟩,⟨⟨x',by simpa using he2⟩,hit2⟩,λb hb=>?_⟩
  have hb':xz X pins H b:=hf b hb
  rw[ze (λz=>?_)]
  ·exact hb'.1
  ·rcases aW.mp hb with q|hb
   ·exact hel (q.symm.trans z)
   ·have q:=bN.mp hb
    obtain⟨o,e1,_⟩:=hit
    exact bO (aZ e1) (q.symm.trans z)
 done:=by
  intro X hP hw hK hc i pins s σ H E I hf st hg
  subst hP hw hK
  obtain⟨xs,hq,hx⟩:=hg
  obtain⟨its,rv,p,hz⟩:=I.tuple hq
  obtain⟨⟨old,he⟩,hit⟩:=st
  obtain⟨f0,f1,f2,f3,f4,f5⟩:=hf it (by simp)
  have hl:=rv.length
  have hai:a≠it:=λz=>by
   obtain⟨o,e1,c,_⟩:=p
   obtain⟨o2,e2,c2,_⟩:=hit
   rw[z,e2]at e1;cases e1;rw[c2]at c;exact absurd c (by simp)
  have hT:s.TypeIs (.ref e) "enumerate":=⟨_,he,rfl⟩
  unfold gC
  refine aJ (kx (jg (name:=iD "__next__") hT jl
   (ji jl hT lU ?_ (lV _))))
  show wpAny _ _ (g7 (.ref e) 2>>=_) _ _ _
  refine aJ (g8 he rfl (x:=.ref it) rfl ?_)
  refine aJ (vQ (A:=X.A.in1) (I.ok.hd hc) hit (show s.heap.IsTuple a its.toArray from p) (by simp;omega) λh' ex hx' ⟨o,ho,hcl⟩=>?_)
  refine aJ (jm (T:="StopIteration") (b:=true) ⟨o,ho,hcl⟩ lW ?_)
  exact bM ⟨rfl,I.turned (t':=s.toks) (λb o hb q=>hx' b o hb q) f0 f1 f3 f4 f5⟩
 self:=λ_ _ _ _ _ st h=>let ⟨_,he⟩:=st.1;jn he h
section
variable {X:Cx}
def zii(K:aE)(ta:TA):TI:=λσ H R=>ta σ H λvs H1=>∃a,vs=[.ref a]/\(∃xs,SqT K H1 a xs)/\R (Ite λH xs=>SqT K H a xs) H1
theorem VY{a:aF}{ta:TA}{p pos tp:aK}{j:List aF}{k:Nat}(hg:Gl X "enumerate")(hm:X.mg "enumerate"=none)(ha:PA X [a] ta)(hs:aX [a] X.env=[(false,aQ a X.env)]:=by rfl):
  PI X (.Tuple j k tp) (.Call (.Name "enumerate" p) [a] [] pos) (zii X.K ta):=by
 intro pins s σ H R I h
 refine im (vh I hg hm lX (gW (thn (ha pos pins s σ H _ I h) λus s1 ⟨vs,H1,O,r1,q1⟩=>?_) hs rfl))
 obtain⟨l,e,⟨xs,hq⟩,q⟩:=q1
 subst e
 cases r1 with
 | cons r rr=>
  cases rr
  cases r
  obtain⟨its,rv,pt,hz⟩:=O.tuple hq
  refine Xi (items:=its.toArray) pt λh' Z U hsz hk=>?_
  refine jn Z ?_
  have I2:Inv X pins σ H1 {s1 with heap:=h'}:=O.kept (t':=s1.toks) hk
  refine⟨s1.heap.objs.size+1,[s1.heap.objs.size+1,s1.heap.objs.size],_,_,H1,rfl,I2,Jk l s1.heap.objs.size (s1.heap.objs.size+1) (lY _),⟨⟨_,Z⟩,U⟩,λb Y=>?_,q⟩
  have J:s1.heap.objs.size<=b:=by
   rcases aW.mp Y with z|Y
   ·rw[z];exact gG _
   ·rw[bN.mp Y];exact aP _
  exact O.fpOk J (O.hok.fresh J)
end
end L2
namespace DD
open PySem PySem.Spec L2
open PyProof.Rows hiding St
inductive D where
 | non|bl (b:Bool)|int (i:Int)|str (x:aC)|scr (ns:List Int)|tup (xs:List D)|lst (xs:List D)|dK (ks:List Key) (vs:List D)|dT (ks:List (List Key)) (vs:List D)
mutual
def Is(K:aE)(F:Hp):D->V->Prop
 | .non,v=>v=.non
 | .bl b,v=>v=.bl b
 | .int i,v=>v=.int i
 | .str x,v=>v=.str x
 | .scr ns,v=>∃a,v=.ref a/\SqL K F a (ns.map V.int)
 | .tup ds,v=>∃a vs,v=.ref a/\F a=some (.tup vs)/\Are K F ds vs
 | .lst ds,v=>∃a vs,v=.ref a/\F a=some (.lst vs)/\Are K F ds vs
 | .dK ks ds,v=>∃a ws j,v=.ref a/\F a=some (.frz j (.dK ws))/\ws.map bA=ks/\Are K F ds (ws.map dG)
 | .dT ks ds,v=>∃a ws,v=.ref a/\F a=some (.dT ws)/\ws.map bA=ks/\Are K F ds (ws.map dG)
def Are(K:aE)(F:Hp):List D->List V->Prop
 | [],vs=>vs=[]
 | d::ds,vs=>∃v r,vs=v::r/\Is K F d v/\Are K F ds r
end
section
variable {K:aE} {F F' H H':Hp}
mutual
theorem Is.mono(s:zp F F'):∀(d:D) {v:V},Is K F d v->Is K F' d v
 | .non,_,h=>by simpa[Is]using h
 | .bl _,_,h=>by simpa[Is]using h
 | .int _,_,h=>by simpa[Is]using h
 | .str _,_,h=>by simpa[Is]using h
 | .scr ns,_,h=>by
  simp only[Is]at h ⊢
  obtain⟨a,e,j⟩:=h
  exact⟨a,e,s.seq j⟩
 | .tup ds,_,h=>by
  simp only[Is]at h ⊢
  obtain⟨a,vs,e,j,r⟩:=h
  exact⟨a,vs,e,s _ _ j,Are.mono s ds r⟩
 | .lst ds,_,h=>by
  simp only[Is]at h ⊢
  obtain⟨a,vs,e,j,r⟩:=h
  exact⟨a,vs,e,s _ _ j,Are.mono s ds r⟩
 | .dK ks ds,_,h=>by
  simp only[Is]at h ⊢
  obtain⟨a,ws,z,e,j,q,r⟩:=h
  exact⟨a,ws,z,e,s _ _ j,q,Are.mono s ds r⟩
 | .dT ks ds,_,h=>by
  simp only[Is]at h ⊢
  obtain⟨a,ws,e,j,q,r⟩:=h
  exact⟨a,ws,e,s _ _ j,q,Are.mono s ds r⟩
theorem Are.mono(s:zp F F'):∀(ds:List D) {vs:List V},Are K F ds vs->Are K F' ds vs
 | [],_,h=>by simpa[Are]using h
 | d::ds,_,h=>by
  simp only[Are]at h ⊢
  obtain⟨v,r,e,h1,h2⟩:=h
  exact⟨v,r,e,Is.mono s d h1,Are.mono s ds h2⟩
end
theorem Are.nil:Are K F [] []:=by simp[Are]
theorem Are.cons(h:Is K F d v)(r:Are K F ds vs):Are K F (d::ds) (v::vs):=by
 simp only[Are]
 exact⟨v,vs,rfl,h,r⟩
theorem Are.inv(h:Are K F (d::ds) vs):∃v r,vs=v::r/\Is K F d v/\Are K F ds r:=by
 simpa only[Are]using h
theorem Are.inv0(h:Are K F [] vs):vs=[]:=by simpa only[Are]using h
theorem Are.length:∀{ds:List D} {vs:List V},Are K F ds vs->vs.length=ds.length
 | [],_,h=>by rw[h.inv0];rfl
 | d::ds,_,h=>by
  obtain⟨v,r,e,_,q⟩:=h.inv
  rw[e,cC,cC,q.length]
theorem Are.get:∀{ds:List D} {vs:List V} {i:Nat} {d:D},Are K F ds vs->ds[i]?=some d->∃v,vs[i]?=some v/\Is K F d v
 | [],_,_,_,_,e=>by simp at e
 | x::ds,_,0,d,h,e=>by
  obtain⟨v,r,j,q,_⟩:=h.inv
  simp at e;subst e;subst j
  exact⟨v,rfl,q⟩
 | x::ds,_,i+1,d,h,e=>by
  obtain⟨v,r,j,_,q⟩:=h.inv
  subst j
  obtain⟨u,h1,h2⟩:=Are.get (i:=i) (d:=d) q (by simpa using e)
  exact⟨u,by simpa using h1,h2⟩
theorem Are.append:∀{ds es:List D} {vs us:List V},Are K F ds vs->Are K F es us->Are K F (ds++es) (vs++us)
 | [],_,_,_,h,q=>by rw[h.inv0];exact q
 | d::ds,_,_,_,h,q=>by
  obtain⟨v,r,e,h1,h2⟩:=h.inv
  subst e
  exact .cons h1 (Are.append h2 q)
theorem Are.set(j:Is K F x u):∀{ds:List D} {vs:List V} (n:Nat),Are K F ds vs->Are K F (ds.set n x) (vs.set n u)
 | [],_,_,h=>by rw[h.inv0];exact .nil
 | d::ds,_,0,h=>by
  obtain⟨v,r,e,h1,h2⟩:=h.inv
  subst e
  exact .cons j h2
 | d::ds,_,n+1,h=>by
  obtain⟨v,r,e,h1,h2⟩:=h.inv
  subst e
  exact .cons h1 (Are.set j n h2)
theorem zbZ(s:zp F F')(h:SqT K F a xs):SqT K F' a xs:=by
 rcases h with(h|⟨o,h⟩)|h
 ·exact .inl (.inl (s _ _ h))
 ·exact .inl (.inr ⟨o,s _ _ h⟩)
 ·exact .inr h
end
structure Ext (F H F' H':Hp):Prop where
 ff:zp F F'
 hh:zp H H'
 fh:zp F' H'
 new:∀b,F b=none->F' b≠none->H b=none
theorem Ext.refl(s:zp F H):Ext F H F H:=⟨zp.refl _,zp.refl _,s,λ_ h1 h2=>absurd h1 h2⟩
theorem Ext.trans(a:Ext F H j H1)(b:Ext j H1 z H2):Ext F H z H2 :=
 ⟨a.ff.trans b.ff,a.hh.trans b.hh,b.fh,λc h1 h2=>by
  by_cases q:j c=none
  ·exact a.hh.free (b.new c q h2)
  ·exact a.new c h1 q⟩
theorem zE(h:H p=none)(o:HO):zp H (upd H p o):=λb u q=>by rw[ze (zq q h)];exact q
theorem Zs(s:zp F H)(o:HO):zp (upd F p o) (upd H p o):=λb u q=>by
 by_cases e:b=p
 ·subst e;rw[zj]at q ⊢;exact q
 ·rw[ze e]at q ⊢;exact s _ _ q
theorem Ext.freed(e:Ext F H F' H')(h:F a=none)(n:H a≠none):F' a=none:=by
 cases z:F' a with
 | none=>rfl
 | some u=>exact absurd (e.new a h (by rw[z];simp)) n
theorem Ext.fix(s:zp F H)(h:H p=none)(o:HO):Ext F H (upd F p o) (upd H p o) :=
 ⟨zE (s.free h) o,zE h o,Zs s o,λb h1 h2=>by
  by_cases e:b=p
  ·subst e;exact h
  ·rw[ze e]at h2;exact absurd h1 h2⟩
theorem Ext.own(s:zp F H)(h:H p=none)(o:HO):Ext F H F (upd H p o) :=
 ⟨zp.refl _,zE h o,λb u q=>zE h o b u (s b u q),λb h1 h2=>absurd h1 h2⟩
theorem Ext.turn(e:Ext F0 H0 F H)(j:H0 p=none)(z:F p=none)(o:HO):Ext F0 H0 F (upd H p o) :=
 ⟨e.ff,λb u q=>by rw[ze (zq q j)];exact e.hh b u q,λb u q=>by rw[ze (zq q z)];exact e.fh b u q,e.new⟩
theorem Ext.freeze(e:Ext F0 H0 F H)(j:H0 p=none)(J:F p=none)(O:H p=some o):Ext F0 H0 (upd F p o) H :=
 ⟨λb u q=>zE J o b u (e.ff b u q),e.hh,λb u q=>by
  by_cases z:b=p
  ·subst z;rw[zj]at q;rw[O,q]
  ·rw[ze z]at q;exact e.fh b u q,λb h1 h2=>by
  by_cases z:b=p
  ·subst z;exact j
  ·rw[ze z]at h2;exact e.new b h1 h2⟩
inductive S where
 | un|v (d:D)|ol (ds:List D)|ot (kvs:List (List Key×D))|ok (kvs:List (Key×D))
abbrev G:=List S
def S.own:S->Bool
 | .un=>false|.v _=>false|_=>true
def y2{κ:Type}(K:aE)(F:Hp):List (κ×D)->List (κ×V)->Prop:=Paired λp q=>p.1=q.1/\Is K F p.2 q.2
theorem y2.mono{κ:Type}{K:aE}{F F':Hp}(s:zp F F'){ps:List (κ×D)}{q:List (κ×V)}(h:y2 K F ps q):y2 K F' ps q:=Paired.mapP h λ_ _ j=>by obtain⟨a,b⟩:=j;exact⟨a,b.mono s⟩
def SIs(K:aE)(H0 F H:Hp):S->Option V->Prop
 | .un,_=>True
 | .v d,o=>∃v,o=some v/\Is K F d v
 | .ol ds,o=>∃a vs,o=some (.ref a)/\H a=some (.lst vs)/\Are K F ds vs/\F a=none/\H0 a=none
 | .ot kvs,o=>∃a ws,o=some (.ref a)/\H a=some (.dT ws)/\y2 K F kvs ws/\F a=none/\H0 a=none
 | .ok kvs,o=>∃a ws,o=some (.ref a)/\H a=some (.dK ws)/\y2 K F kvs ws/\F a=none/\H0 a=none
structure EnvIs (K:aE) (F0 H0 F H:Hp) (σ:St) (Γ:G):Prop where
 ext:Ext F0 H0 F H
 len:σ.length=Γ.length
 val:∀(i:Nat) s,Γ[i]?=some s->∃o,σ[i]?=some o/\SIs K H0 F H s o
 sep:∀(i j:Nat) s t a,i≠j->Γ[i]?=some s->Γ[j]?=some t->s.own=true->t.own=true->σ[i]?=some (some (.ref a))->σ[j]?=some (some (.ref a))->False
section
variable {K:aE} {F0 H0 F H F' H':Hp} {σ:St} {Γ:G}
theorem SIs.ext(h:SIs K H0 F H s o)(e:Ext F H F' H'):SIs K H0 F' H' s o:=by
 cases s with
 | un=>trivial
 | v d=>obtain⟨v,z,q⟩:=h;exact⟨v,z,q.mono e.ff⟩
 | ol ds=>obtain⟨a,vs,z,j,J,O,R⟩:=h;exact⟨a,vs,z,e.hh _ _ j,J.mono e.ff,e.freed O (by rw[j];simp),R⟩
 | ot kvs=>obtain⟨a,vs,z,j,J,O,R⟩:=h;exact⟨a,vs,z,e.hh _ _ j,J.mono e.ff,e.freed O (by rw[j];simp),R⟩
 | ok kvs=>obtain⟨a,vs,z,j,J,O,R⟩:=h;exact⟨a,vs,z,e.hh _ _ j,J.mono e.ff,e.freed O (by rw[j];simp),R⟩
theorem EnvIs.grow(E:EnvIs K F0 H0 F H σ Γ)(e:Ext F H F' H'):EnvIs K F0 H0 F' H' σ Γ :=
 ⟨E.ext.trans e,E.len,λi s h=>let ⟨o,h1,h2⟩:=E.val i s h;⟨o,h1,h2.ext e⟩,E.sep⟩
theorem EnvIs.fh(E:EnvIs K F0 H0 F H σ Γ):zp F H:=E.ext.fh
theorem EnvIs.put(E:EnvIs K F0 H0 F H σ Γ)(h:Is K F d v):EnvIs K F0 H0 F H (σ.set i (some v)) (Γ.set i (.v d)):=by
 refine⟨E.ext,by simpa using E.len,λj s e=>?_,λj k s t a J O R U Y r1 r2=>?_⟩
 ·by_cases Z:j=i
  ·subst Z
   have q:j<Γ.length:=by
    have:=(aY.mp e).1;simpa using this
   rw[dW q]at e
   cases e
   exact⟨some v,dW (by rw[E.len];exact q),v,rfl,h⟩
  ·rw[cW (aT Z)]at e ⊢
   exact E.val j s e
 ·have no:∀(k:Nat) (t:S),(Γ.set i (.v d))[k]?=some t->t.own=true->k≠i:=λk t e o z=>by
   subst z
   have q:k<Γ.length:=by
    have:=(aY.mp e).1;simpa using this
   rw[dW q]at e
   cases e;cases o
  have n1:=no j s O U
  have n2:=no k t R Y
  rw[cW (aT n1)]at O r1
  rw[cW (aT n2)]at R r2
  exact E.sep j k s t a J O R U Y r1 r2
theorem EnvIs.putOwn(E:EnvIs K F0 H0 F H σ Γ)(h:SIs K H0 F H s0 (some (.ref a)))(Y:∀(j:Nat) s,j≠i->Γ[j]?=some s->s.own=true->σ[j]?≠some (some (.ref a))):
  EnvIs K F0 H0 F H (σ.set i (some (.ref a))) (Γ.set i s0):=by
 refine⟨E.ext,by simpa using E.len,λj s e=>?_,λj k s t b J R U Z o2 r1 r2=>?_⟩
 ·by_cases z:j=i
  ·subst z
   have q:j<Γ.length:=by
    have:=(aY.mp e).1;simpa using this
   rw[dW q]at e
   cases e
   exact⟨_,dW (by rw[E.len];exact q),h⟩
  ·rw[cW (aT z)]at e ⊢
   exact E.val j s e
 ·by_cases z:j=i
  ·subst z
   have O:k≠j:=aT J
   have q:j<σ.length:=by
    have:=(aY.mp r1).1;simpa using this
   rw[dW q]at r1
   cases r1
   rw[cW (aT O)]at U r2
   exact Y k t O U o2 r2
  ·by_cases O:k=i
   ·subst O
    have q:k<σ.length:=by
     have:=(aY.mp r2).1;simpa using this
    rw[dW q]at r2
    cases r2
    rw[cW (aT z)]at R r1
    exact Y j s z R Z r1
   ·rw[cW (aT z)]at R r1
    rw[cW (aT O)]at U r2
    exact E.sep j k s t b J R U Z o2 r1 r2
end
inductive Ty where
 | non|bl|int|str|tup|lst
 deriving DecidableEq
def Ty.name:Ty->String
 | .non=>"NoneType"|.bl=>"bool"|.int=>"int"|.str=>"str"|.tup=>"tuple"|.lst=>"list"
inductive B where
 | d (d:D)|l (ds:List D)|c (ds:List D)|t (kvs:List (List Key×D))|k (kvs:List (Key×D))|ty (c:Ty)
def BIs(K:aE)(F H:Hp):B->V->Prop
 | .d d,v=>Is K F d v
 | .l ds,v=>∃a vs,v=.ref a/\H a=some (.lst vs)/\Are K F ds vs
 | .c ds,v=>∃a vs,v=.ref a/\SqT K H a vs/\Are K F ds vs
 | .t kvs,v=>∃a ws,v=.ref a/\H a=some (.dT ws)/\y2 K F kvs ws
 | .k kvs,v=>∃a ws,v=.ref a/\H a=some (.dK ws)/\y2 K F kvs ws
 | .ty c,v=>v=.ty c.name
theorem BIs.ext{K:aE}{F H F' H':Hp}{b:B}{v:V}(h:BIs K F H b v)(e:Ext F H F' H'):BIs K F' H' b v:=by
 cases b with
 | d d=>exact Is.mono e.ff d h
 | l ds=>obtain⟨a,vs,j,q,r⟩:=h;exact⟨a,vs,j,e.hh _ _ q,r.mono e.ff⟩
 | c ds=>obtain⟨a,vs,j,q,r⟩:=h;exact⟨a,vs,j,zbZ e.hh q,r.mono e.ff⟩
 | t kvs=>obtain⟨a,ws,j,q,r⟩:=h;exact⟨a,ws,j,e.hh _ _ q,r.mono e.ff⟩
 | k kvs=>obtain⟨a,ws,j,q,r⟩:=h;exact⟨a,ws,j,e.hh _ _ q,r.mono e.ff⟩
 | ty c=>exact h
def S.look:S->Option B
 | .un=>none
 | .v d=>some (.d d)
 | .ol ds=>some (.l ds)
 | .ot kvs=>some (.t kvs)
 | .ok kvs=>some (.k kvs)
def B.asD:B->Option D
 | .d x=>some x
 | _=>none
def dE(K:aE)(f:G->Option B):TE:=λσ H Q=>∃F0 H0 F Γ b,EnvIs K F0 H0 F H σ Γ/\f Γ=some b/\∀v F' H',Ext F H F' H'->BIs K F' H' b v->Q v H'
def dT(K:aE)(f:G->Option Bool):TT:=λσ H Q=>∃F0 H0 F Γ b,EnvIs K F0 H0 F H σ Γ/\f Γ=some b/\∀F' H',Ext F H F' H'->Q b H'
abbrev Jl(K:aE)(F H:Hp):List B->List V->Prop:=Paired (BIs K F H)
def dA(K:aE)(f:G->Option (List B)):TA:=λσ H Q=>∃F0 H0 F Γ ds,EnvIs K F0 H0 F H σ Γ/\f Γ=some ds/\∀vs F' H',Ext F H F' H'->Jl K F' H' ds vs->Q vs H'
def dL(K:aE)(f:G->Option (List D)):TE:=λσ H Q=>∃F0 H0 F Γ ds,EnvIs K F0 H0 F H σ Γ/\f Γ=some ds/\
 ∀a vs F' H',Ext F H F' H'->H a=none->F' a=none->H' a=some (.lst vs)->Are K F' ds vs->Q (.ref a) H'
inductive Out where
 | nx (g:G)|rt (d:D)|bk (g:G)|ct (g:G)
def Vx(K:aE)(F0 H0 j:Hp)(E:Ends):Out->Prop
 | .nx g=>∀σ F H,EnvIs K F0 H0 F H σ g->zp j F->E.nx σ H
 | .bk g=>∀σ F H,EnvIs K F0 H0 F H σ g->zp j F->E.bk σ H
 | .ct g=>∀σ F H,EnvIs K F0 H0 F H σ g->zp j F->E.ct σ H
 | .rt d=>∀v F H,Ext F0 H0 F H->Is K F d v->E.rt v H
theorem Vx.mono{K:aE}{F0 H0 q J:Hp}{E:Ends}{o:Out}(h:Vx K F0 H0 q E o)(s:zp q J):Vx K F0 H0 J E o:=by
 cases o with
 | nx g=>exact λσ F H j z=>h σ F H j (s.trans z)
 | bk g=>exact λσ F H j z=>h σ F H j (s.trans z)
 | ct g=>exact λσ F H j z=>h σ F H j (s.trans z)
 | rt d=>exact h
def dS(K:aE)(f:G->Option Out):TS:=λE σ H=>∃F0 H0 F Γ o,EnvIs K F0 H0 F H σ Γ/\f Γ=some o/\Vx K F0 H0 F E o
def EE(X:Cx)(e:aF)(f:G->Option B):Prop:=PE X e (dE X.K f)
def ET(X:Cx)(e:aF)(f:G->Option Bool):Prop:=PT X e (dT X.K f)
def EW(X:Cx)(e:aF)(f:G->Option Bool):Prop:=PW X e (dT X.K f)
def EA(X:Cx)(es:List aF)(f:G->Option (List B)):Prop:=PA X es (dA X.K f)
def EL(X:Cx)(e:aF)(f:G->Option (List D)):Prop:=PE X e (dL X.K f)
def SD(X:Cx)(st:aS)(f:G->Option Out):Prop:=PS X st (dS X.K f)
def SDs(X:Cx)(st:List aS)(f:G->Option Out):Prop:=PSs X st (dS X.K f)
section
variable {X:Cx}
theorem yl(h:PE X e t)(w:∀σ H Q,t' σ H Q->t σ H Q):PE X e t':=λpins s σ H Q I q=>h pins s σ H Q I (w σ H Q q)
theorem Wb(h:PT X e t)(w:∀σ H Q,t' σ H Q->t σ H Q):PT X e t':=λpins s σ H Q I q=>h pins s σ H Q I (w σ H Q q)
theorem zeh(h:PW X e t)(w:∀σ H Q,t' σ H Q->t σ H Q):PW X e t':=λj pins s σ H Q I q=>h j pins s σ H Q I (w σ H Q q)
theorem Qv(h:PA X e t)(w:∀σ H Q,t' σ H Q->t σ H Q):PA X e t':=λp pins s σ H Q I q=>h p pins s σ H Q I (w σ H Q q)
theorem ym{st:aS}{t t':TS}(h:PS X st t)(w:∀E σ H,t' E σ H->t E σ H):PS X st t':=λpins s σ H E I q=>h pins s σ H E I (w E σ H q)
theorem VZ{st:List aS}{t t':TS}(h:PSs X st t)(w:∀E σ H,t' E σ H->t E σ H):PSs X st t':=λpins s σ H E I q=>h pins s σ H E I (w E σ H q)
theorem Qw(h:PG X e t)(w:∀v σ H Q,t' v σ H Q->t v σ H Q):PG X e t':=λpins s σ H v u Q I r q=>h pins s σ H v u Q I r (w v σ H Q q)
def za(i:Nat):G->Option B:=λΓ=>Γ[i]?.bind S.look
theorem zb(h:PE X (.Name x pos) (uQ i)):EE X (.Name x pos) (za i):=yl h λσ H Q j=>by
 obtain⟨F0,H0,F,Γ,b,E,e,q⟩:=j
 unfold za at e
 cases z:Γ[i]? with
 | none=>rw[z]at e;cases e
 | some s=>
  rw[z]at e
  have J:s.look=some b:=e
  obtain⟨o,h1,h2⟩:=E.val i s z
  cases s with
  | un=>cases J
  | v d=>cases J;obtain⟨v,rfl,r⟩:=h2;exact⟨v,h1,q v F H (.refl E.fh) r⟩
  | ol ds=>cases J;obtain⟨a,vs,rfl,r1,r2,_⟩:=h2;exact⟨_,h1,q _ F H (.refl E.fh) ⟨a,vs,rfl,r1,r2⟩⟩
  | ot kvs=>cases J;obtain⟨a,vs,rfl,r1,r2,_⟩:=h2;exact⟨_,h1,q _ F H (.refl E.fh) ⟨a,vs,rfl,r1,r2⟩⟩
  | ok kvs=>cases J;obtain⟨a,vs,rfl,r1,r2,_⟩:=h2;exact⟨_,h1,q _ F H (.refl E.fh) ⟨a,vs,rfl,r1,r2⟩⟩
def xC(d:D):G->Option B:=λ_=>some (.d d)
theorem ZZ(h:PE X e (tC v))(r:∀F,Is X.K F d v):EE X e (xC d):=yl h λσ H Q j=>by
 obtain⟨F0,H0,F,Γ,b,E,e,q⟩:=j
 cases e
 exact q v F H (.refl E.fh) (r F)
theorem zl{i j pos}:EE X (.Constant (.int i) j pos) (xC (.int i)):=ZZ wE λF=>by simp[Is]
theorem vq{i j pos}:EE X (.Constant (.bool i) j pos) (xC (.bl i)):=ZZ vz λF=>by simp[Is]
theorem zdE{j pos}:EE X (.Constant .none j pos) (xC .non):=ZZ ze6 λF=>by simp[Is]
theorem Qx{x:aC}{i:Int}{t:dU}{pos:aK}(j:Gl X x)(q:X.mg x=some (.int i t))(z:(x==("__debug__":aC))=false:=by decide):EE X (.Name x pos) (xC (.int i)):=ZZ (zd2 j q (v:=.int i) ⟨t,rfl⟩ z) λF=>by simp[Is]
end
section
variable {X:Cx} {a b c e:aF} {f g h:G->Option B} {pos:aK}
def OpB(K:aE)(r:R2)(m:B->B->Option D):Prop:=∀F H x y v u d Q,zp F H->BIs K F H x v->BIs K F H y u->m x y=some d->(∀w F' H',Ext F H F' H'->Is K F' d w->Q w H')->r v u H Q
def x2(m:B->B->Option D)(f g:G->Option B):G->Option B:=λΓ=>(f Γ).bind λx=>(g Γ).bind λy=>(m x y).map B.d
theorem vF(e:x2 m f g Γ=some z):∃x y d,f Γ=some x/\g Γ=some y/\m x y=some d/\z=.d d:=by
 unfold x2 at e
 cases j:f Γ with
 | none=>rw[j]at e;cases e
 | some x=>
  cases J:g Γ with
  | none=>rw[j,J]at e;cases e
  | some y=>
   rw[j,J]at e
   cases q:m x y with
   | none=>simp[q]at e
   | some d=>simp[q]at e;exact⟨x,y,d,rfl,rfl,q,e.symm⟩
theorem yj(ho:OpR X (dD R) r)(U:OpB X.K r m)(Y:EE X a f)(Z:EE X b g):EE X (.BinOp a R b pos) (x2 m f g) :=
 yl (zgG ho Y Z) λσ H Q j=>by
  obtain⟨F0,H0,F,Γ,z,E,e,q⟩:=j
  obtain⟨x,y,d,hx,hy,hd,rfl⟩:=vF e
  exact⟨F0,H0,F,Γ,x,E,hx,λv F1 H1 O r1=>⟨F0,H0,F1,Γ,y,E.grow O,hy,λu F2 H2 J r2=>U F2 H2 x y v u d Q J.fh (r1.ext J) r2 hd λw F' H' e3 r3=>q w F' H' ((O.trans J).trans e3) r3⟩⟩
theorem v7(ho:OpR X (cK O) r)(U:OpB X.K r m)(Y:EE X a f)(Z:EE X b g)(hk:fZ O b=false):EE X (.Compare a [O] [b] pos) (x2 m f g) :=
 yl (zd9 ho Y Z hk) λσ H Q j=>by
  obtain⟨F0,H0,F,Γ,z,E,e,q⟩:=j
  obtain⟨x,y,d,hx,hy,hd,rfl⟩:=vF e
  exact⟨F0,H0,F,Γ,x,E,hx,λv F1 H1 R r1=>⟨F0,H0,F1,Γ,y,E.grow R,hy,λu F2 H2 J r2=>U F2 H2 x y v u d Q J.fh (r1.ext J) r2 hd λw F' H' e3 r3=>q w F' H' ((R.trans J).trans e3) r3⟩⟩
def B.tst:B->Option Bool
 | .d (.bl b)=>some b
 | _=>none
def xT(f:G->Option B):G->Option Bool:=λΓ=>(f Γ).bind B.tst
theorem Z0(e:xT f Γ=some z):f Γ=some (.d (.bl z)):=by
 unfold xT at e
 cases q:f Γ with
 | none=>rw[q]at e;cases e
 | some x=>
  rw[q]at e
  have j:x.tst=some z:=e
  unfold B.tst at j
  split at j
  ·cases j;rfl
  ·cases j
theorem yY(ho:OpR X (cK O) r)(U:OpB X.K r m)(Y:EE X a f)(Z:EE X b g)(hk:fZ O b=false):ET X (.Compare a [O] [b] pos) (xT (x2 m f g)) :=
 Wb (ZW ho Y Z hk) λσ H Q j=>by
  obtain⟨F0,H0,F,Γ,z,E,e,q⟩:=j
  obtain⟨x,y,d,hx,hy,hd,hz⟩:=vF (Z0 e)
  cases hz
  exact⟨F0,H0,F,Γ,x,E,hx,λv F1 H1 R r1=>⟨F0,H0,F1,Γ,y,E.grow R,hy,λu F2 H2 J r2=>U F2 H2 x y v u _ _ J.fh (r1.ext J) r2 hd λw F' H' e3 r3=>⟨z,by simpa[Is]using r3,q F' H' ((R.trans J).trans e3)⟩⟩⟩
theorem wH(R:EE X a f)(U:∀j,gR a X.env j=(do let v <-j;gT a.pos;eM [v] (truthy v)):=by intro _;rfl):ET X a (xT f) :=
 Wb (VP R U) λσ H Q ⟨F0,H0,F,Γ,z,E,e,q⟩=>⟨F0,H0,F,Γ,_,E,Z0 e,λv O H1 Y r1=>⟨z,by
  have J:Is X.K O (.bl z) v:=r1
  simpa[Is]using J,q O H1 Y⟩⟩
variable {tf tg:G->Option Bool} {rest:List aF}
def xOr(f g:G->Option Bool):G->Option Bool:=λΓ=>(f Γ).bind λx=>if x=true then some true else g Γ
def vR(f:G->Option Bool):G->Option Bool:=λΓ=>(f Γ).map (!·)
theorem bind_some{α β:Type}{o:Option α}{k:α->Option β}{z:β}(e:o.bind k=some z):∃x,o=some x/\k x=some z:=by
 cases o with
 | none=>cases e
 | some x=>exact⟨x,rfl,e⟩
theorem Jm(j:ET X a tf):EW X (.BoolOp .Or [a] pos) tf:=zar j
theorem zb0(R:ET X a tf)(U:EW X (.BoolOp .Or (b::rest) pos) tg):EW X (.BoolOp .Or (a::b::rest) pos) (xOr tf tg) :=
 zeh (zdA R U) λσ H Q j=>by
  obtain⟨F0,H0,F,Γ,z,E,e,q⟩:=j
  obtain⟨x,Y,e⟩:=bind_some e
  refine⟨F0,H0,F,Γ,x,E,Y,λO H1 J=>?_⟩
  cases x with
  | true=>cases e;exact q O H1 J
  | false=>exact⟨F0,H0,O,Γ,z,E.grow J,e,λZ H2 e2=>q Z H2 (J.trans e2)⟩
theorem t_w(h:EW X e tf):ET X e tf:=PW.pt h
theorem uU(O:ET X a tf):ET X (.UnaryOp .Not a pos) (vR tf) :=
 Wb (ze8 O) λσ H Q j=>by
  obtain⟨F0,H0,F,Γ,z,E,e,q⟩:=j
  unfold vR at e
  cases J:tf Γ with
  | none=>rw[J]at e;cases e
  | some x=>rw[J]at e;cases e;exact⟨F0,H0,F,Γ,x,E,J,λR H1 U=>q R H1 U⟩
def v8(f g:G->Option B):G->Option B:=λΓ=>(xT f Γ).bind λx=>if x=true then g Γ else some (.d (.bl false))
def Jn(f:G->Option B):G->Option B:=λΓ=>(xT f Γ).map λx=>.d (.bl (!x))
theorem zdF{K:aE}{F H:Hp}{b:Bool}{v:V}(h:BIs K F H (.d (.bl b)) v):v=.bl b:=by
 have h':Is K F (.bl b) v:=h
 simpa[Is]using h'
theorem Jo{K:aE}{F H:Hp}{b:Bool}:BIs K F H (.d (.bl b)) (.bl b):=by
 show Is K F (.bl b) (.bl b)
 simp[Is]
theorem Z1{j}(q:EE X a f):EE X (.BoolOp j [a] pos) f:=ze9 q
theorem Z2(R:EE X a f)(U:EE X (.BoolOp .And (b::rest) pos) g):EE X (.BoolOp .And (a::b::rest) pos) (v8 f g) :=
 yl (zfa R U) λσ H Q j=>by
  obtain⟨F0,H0,F,Γ,z,E,e,q⟩:=j
  obtain⟨x,Y,e⟩:=bind_some e
  refine⟨F0,H0,F,Γ,_,E,Z0 Y,λv O H1 J r1=>⟨x,zdF r1,?_⟩⟩
  cases x with
  | true=>exact⟨F0,H0,O,Γ,z,E.grow J,e,λv Z H2 e2 r2=>q v Z H2 (J.trans e2) r2⟩
  | false=>cases e;exact q _ O H1 J Jo
theorem zgM(O:EE X a f):EE X (.UnaryOp .Not a pos) (Jn f) :=
 yl (zfb O) λσ H Q j=>by
  obtain⟨F0,H0,F,Γ,z,E,e,q⟩:=j
  unfold Jn at e
  cases J:xT f Γ with
  | none=>rw[J]at e;cases e
  | some x=>
   rw[J]at e;cases e
   exact⟨F0,H0,F,Γ,_,E,Z0 J,λv R H1 U r1=>⟨x,zdF r1,q _ R H1 U Jo⟩⟩
def x3(m j:B->B->Option D)(f g h:G->Option B):G->Option B:=λΓ=>(f Γ).bind λx=>(g Γ).bind λy=>((m x y).bind λz=>B.tst (.d z)).bind λk=>
 if k=true then(h Γ).bind λw=>(j y w).map B.d else some (.d (.bl false))
theorem zb1(e:B.tst (.d d)=some k):d=.bl k:=by
 unfold B.tst at e
 split at e
 ·rename_i q;cases q;cases e;rfl
 ·cases e
theorem zgN(hm:OpB X.K r m)(U:OpB X.K r' m'):dE X.K (x3 m m' f g h) σ H Q->zau r r' (dE X.K f) (dE X.K g) (dE X.K h) σ H Q:=λj=>by
 obtain⟨F0,H0,F,Γ,z,E,e,q⟩:=j
 obtain⟨x,hx,e⟩:=bind_some e
 obtain⟨y,hy,e⟩:=bind_some e
 obtain⟨k,Y,e⟩:=bind_some e
 obtain⟨d,hd,Y⟩:=bind_some Y
 have Z:=zb1 Y
 subst Z
 refine⟨F0,H0,F,Γ,x,E,hx,λv F1 H1 O r1=>⟨F0,H0,F1,Γ,y,E.grow O,hy,λu F2 H2 J r2=>hm F2 H2 x y v u _ _ J.fh (r1.ext J) r2 hd λw F3 H3 R r3=>⟨k,by simpa[Is]using r3,?_⟩⟩⟩
 cases k with
 | false=>cases e;exact q _ F3 H3 ((O.trans J).trans R) Jo
 | true=>
  obtain⟨w',hw,e⟩:=bind_some e
  cases hq:m' y w' with
  | none=>simp[hq]at e
  | some d'=>
   simp[hq]at e;subst e
   exact⟨F0,H0,F3,Γ,w',((E.grow O).grow J).grow R,hw,λv' F4 H4 e4 r4=>U F4 H4 y w' u v' d' Q e4.fh ((r2.ext R).ext e4) r4 hq λw2 F5 H5 e5 r5=>q w2 F5 H5 ((((O.trans J).trans R).trans e4).trans e5) r5⟩
theorem Qy{op op':gS}{r r':R2}{m m':B->B->Option D}(ho:OpR X (cK op) r)(hm:OpB X.K r m)(ho':OpR X (cK op') r')(hm':OpB X.K r' m')(ha:EE X a f)(hb:EE X b g)(hc:EE X c h) 
 (hk:lastMarks [op,op'] [b,c]=false:=by with_unfolding_all rfl):EE X (.Compare a [op,op'] [b,c] pos) (x3 m m' f g h):=yl (zbR ho ho' ha hb hc hk) λσ H Q q=>zgN hm hm' q
variable {es:List aF} {fs:G->Option (List B)}
def zf:G->Option (List B):=λ_=>some []
def zc(f:G->Option B)(fs:G->Option (List B)):G->Option (List B):=λΓ=>(f Γ).bind λx=>(fs Γ).map λxs=>x::xs
theorem zg:EA X [] zf:=Qv zN λσ H Q ⟨F0,H0,F,Γ,z,E,e,q⟩=>by cases e;exact q [] F H (.refl E.fh) .nil
theorem zd(U:EE X e f)(Y:EA X es fs)(Z:aX (e::es) X.env=(false,aQ e X.env)::aX es X.env:=by rfl):EA X (e::es) (zc f fs) :=
 Qv (zA U Y Z) λσ H Q j=>by
  obtain⟨F0,H0,F,Γ,z,E,e,q⟩:=j
  obtain⟨x,hx,e⟩:=bind_some e
  cases J:fs Γ with
  | none=>rw[J]at e;cases e
  | some xs=>
   rw[J]at e;cases e
   exact⟨F0,H0,F,Γ,x,E,hx,λv F1 H1 O r1=>⟨F0,H0,F1,Γ,xs,E.grow O,J,λvs F2 H2 R r2=>q (v::vs) F2 H2 (O.trans R) (.cons (r1.ext R) r2)⟩⟩
def vS:List B->Option (List D)
 | []=>some []
 | b::r=>b.asD.bind λd=>(vS r).map λds=>d::ds
theorem vT{K:aE}{F H:Hp}:∀{bs:List B} {vs:List V} {ds:List D},vS bs=some ds->Jl K F H bs vs->Are K F ds vs:=λ{bs}=>by
 induction bs with
 | nil=>intro vs ds e h;cases e;cases h;exact .nil
 | cons b r J=>
  intro vs ds e h
  cases h with
  | cons h q=>
   obtain⟨d,z,e⟩:=bind_some e
   cases j:vS r with
   | none=>rw[j]at e;cases e
   | some ds=>
    rw[j]at e;cases e
    cases b with
    | d d'=>cases z;exact .cons h (J j q)
    | _=>cases z
def xV(fs:G->Option (List B)):G->Option B:=λΓ=>((fs Γ).bind vS).bind λds=>if ds.length<=aH then some (.d (.tup ds))else none
theorem xU{k}(h:EA X es fs):EE X (.Tuple es k pos) (xV fs):=yl (zfp h) λσ H Q j=>by
 obtain⟨F0,H0,F,Γ,z,E,e,q⟩:=j
 obtain⟨ds,J,e⟩:=bind_some e
 obtain⟨bs,Y,J⟩:=bind_some J
 by_cases O:ds.length<=aH
 ·rw[if_pos O]at e;cases e
  refine⟨F0,H0,F,Γ,bs,E,Y,λvs Z H1 R r1=>⟨by rw[(vT J r1).length];exact O,λp U=>q _ (upd Z p (.tup vs)) _ (R.trans (.fix R.fh U _)) ?_⟩⟩
  show Is _ _ (.tup ds) _
  simp only[Is]
  exact⟨p,vs,rfl,zj,(vT J r1).mono (zE (R.fh.free U) _)⟩
 ·rw[if_neg O]at e;cases e
def xL(f:G->Option (List D)):G->Option B:=λΓ=>(f Γ).map λds=>.d (.lst ds)
theorem yF(h:EL X e fl):EE X e (xL fl):=yl h λσ H Q j=>by
 obtain⟨F0,H0,F,Γ,z,E,e,q⟩:=j
 unfold xL at e
 cases J:fl Γ with
 | none=>rw[J]at e;cases e
 | some ds=>
  rw[J]at e;cases e
  refine⟨F0,H0,F,Γ,ds,E,J,λa vs R H1 U hn O Y r1=>q _ (upd R a (.lst vs)) H1 ?_ ?_⟩
  ·exact(Ext.freeze U hn O Y)
  ·show Is _ _ (.lst ds) _
   simp only[Is]
   exact⟨a,vs,rfl,zj,r1.mono (zE O _)⟩
def wd(fs:G->Option (List B)):G->Option (List D):=λΓ=>((fs Γ).bind vS).bind λds=>if ds.length<=aH then some ds else none
theorem x6(h:EA X es fs):EL X (.List es pos) (wd fs):=yl (vO h) λσ H Q j=>by
 obtain⟨F0,H0,F,Γ,z,E,e,q⟩:=j
 obtain⟨ds,J,e⟩:=bind_some e
 obtain⟨bs,Y,J⟩:=bind_some J
 by_cases R:ds.length<=aH
 ·rw[if_pos R]at e;cases e
  refine⟨F0,H0,F,Γ,bs,E,Y,λvs Z H1 O r1=>⟨by rw[(vT J r1).length];exact R,λp U=>q p vs Z _ (O.trans (.own O.fh U _)) (O.hh.free U) (O.fh.free U) zj (vT J r1)⟩⟩
 ·rw[if_neg R]at e;cases e
end
section
variable {K:aE} {F H F' H':Hp}
theorem YJ:∀(ns:List Int),Are K F (ns.map D.int) (ns.map V.int)
 | []=>.nil
 | n::r=>.cons (by simp[Is]) (YJ r)
def B.seq:B->Option (List D)
 | .d (.tup ds)=>some ds
 | .d (.lst ds)=>some ds
 | .d (.scr ns)=>some (ns.map D.int)
 | .l ds=>some ds
 | .c ds=>some ds
 | _=>none
theorem V0(s:zp F H)(e:b.seq=some ds)(h:BIs K F H b v):∃a vs,v=.ref a/\(SqL K H a vs\/SqT K H a vs)/\Are K F ds vs:=by
 cases b with
 | d d=>
  have h':Is K F d v:=h
  cases d with
  | tup xs=>cases e;simp only[Is]at h';obtain⟨a,vs,j,q,r⟩:=h';exact⟨a,vs,j,.inr (SqT.of (s _ _ q)),r⟩
  | lst xs=>cases e;simp only[Is]at h';obtain⟨a,vs,j,q,r⟩:=h';exact⟨a,vs,j,.inl (SqL.of (s _ _ q)),r⟩
  | scr ns=>cases e;simp only[Is]at h';obtain⟨a,j,q⟩:=h';exact⟨a,_,j,.inl (s.seq q),YJ ns⟩
  | _=>cases e
 | l xs=>cases e;obtain⟨a,vs,j,q,r⟩:=h;exact⟨a,vs,j,.inl (SqL.of q),r⟩
 | c xs=>cases e;obtain⟨a,vs,j,q,r⟩:=h;exact⟨a,vs,j,.inr q,r⟩
 | _=>cases e
def B.lst:B->Option (List D)
 | .d (.lst ds)=>some ds
 | .l ds=>some ds
 | _=>none
theorem vj(s:zp F H)(e:b.lst=some ds)(h:BIs K F H b v):∃a vs,v=.ref a/\H a=some (.lst vs)/\Are K F ds vs:=by
 cases b with
 | d d=>
  have h':Is K F d v:=h
  cases d with
  | lst xs=>cases e;simp only[Is]at h';obtain⟨a,vs,j,q,r⟩:=h';exact⟨a,vs,j,s _ _ q,r⟩
  | _=>cases e
 | l xs=>cases e;obtain⟨a,vs,j,q,r⟩:=h;exact⟨a,vs,j,q,r⟩
 | _=>cases e
def B.int:B->Option Int
 | .d (.int i)=>some i
 | _=>none
theorem wI{b:B}{i:Int}{v:V}(e:b.int=some i)(h:BIs K F H b v):v=.int i:=by
 cases b with
 | d d=>
  have h':Is K F d v:=h
  cases d with
  | int j=>cases e;simpa[Is]using h'
  | _=>cases e
 | _=>cases e
theorem xB{i:Int}:Is K F (.int i) (.int i):=by simp[Is]
theorem wJ:Is K F (.bl i) (.bl i):=by simp[Is]
theorem zfx{ds:List D}{vs:List V}{i:Int}{d:D}(r:Are K F ds vs)(e:atI ds i=some d):∃v,atI vs i=some v/\Is K F d v:=by
 unfold atI at e ⊢
 rw[r.length]
 obtain⟨j,q,e⟩:=bind_some e
 obtain⟨v,h1,h2⟩:=r.get e
 exact⟨v,by rw[q];exact h1,h2⟩
def mI(p:Int->Int->Bool)(g:Int->Int->D):B->B->Option D:=λx y=>x.int.bind λi=>y.int.bind λj=>if p i j then some (g i j)else none
theorem Qz{p:Int->Int->Bool}{g:Int->Int->D}{x y:B}{d:D}(e:mI p g x y=some d):∃i j,x.int=some i/\y.int=some j/\p i j=true/\d=g i j:=by
 obtain⟨i,hi,e⟩:=bind_some e
 obtain⟨j,z,e⟩:=bind_some e
 by_cases q:p i j=true
 ·rw[if_pos q]at e;cases e;exact⟨i,j,hi,z,q,rfl⟩
 ·rw[if_neg q]at e;cases e
theorem Zt{g:Int->Int->V}{z:Int->Int->D}(J:∀F i j,Is K F (z i j) (g i j)):OpB K (rI0 g) (mI (λ_ _=>true) z):=λF H x y v u d Q s O R e q=>by
 obtain⟨i,j,h1,h2,_,rfl⟩:=Qz e
 exact⟨i,j,wI h1 O,wI h2 R,q _ F H (.refl s) (J F i j)⟩
theorem Vy{C:Int->Int->Prop}{p:Int->Int->Bool}{g:Int->Int->V}{z:Int->Int->D}(J:∀i j,p i j=true->C i j)(O:∀F i j,Is K F (z i j) (g i j)):OpB K (rI C g) (mI p z):=λF H x y v u d Q s R U e q=>by
 obtain⟨i,j,h1,h2,Y,rfl⟩:=Qz e
 exact⟨i,j,wI h1 R,wI h2 U,J i j Y,q _ F H (.refl s) (O F i j)⟩
def Vz:=mI (λ_ _=>true) λi j=>.int (i+j)
def Jp:=mI (λ_ _=>true) λi j=>.int (i-j)
def yZ(i:Int):Bool:=decide (-(2^64)<i) && decide (i<2^64)
def xD:=mI (λi j=>yZ i|| yZ j) λi j=>.int (i*j)
def uV:=mI (λ_ j=>decide (0<j)) λi j=>.int (i%j)
def V1:=mI (λ_ j=>decide (0<j) && decide (j<1073741824)) λi j=>.int (i/j)
def mLt:=mI (λ_ _=>true) λi j=>.bl (decide (i<j))
def mLe:=mI (λ_ _=>true) λi j=>.bl (decide (i<=j))
def mGt:=mI (λ_ _=>true) λi j=>.bl (decide (j<i))
theorem zei:OpB K (rI0 λi j=>.int (i+j)) Vz:=Zt λF i j=>xB
theorem zaG:OpB K (rI0 λi j=>.int (i-j)) Jp:=Zt λF i j=>xB
theorem wK:OpB K (rI Q7 λi j=>.int (i*j)) xD:=Vy (λi j h=>by
 simp only[ku,yZ,fE,decide_eq_true_eq]at h
 exact h) λF i j=>xB
theorem Zu:OpB K (rI (λ_ j=>0<j) λi j=>.int (i%j)) uV:=Vy (λi j h=>of_decide_eq_true h) λF i j=>xB
theorem zfy:OpB K (rI zfi λi j=>.int (i/j)) V1:=Vy (λi j h=>by
 simp only[fE,decide_eq_true_eq]at h
 exact h) λF i j=>xB
theorem VA:OpB K (rI0 λi j=>.bl (decide (i<j))) mLt:=Zt λF i j=>wJ
theorem VB:OpB K (rI0 λi j=>.bl (decide (i<=j))) mLe:=Zt λF i j=>wJ
theorem zdG:OpB K (rI0 λi j=>.bl (decide (j<i))) mGt:=Zt λF i j=>wJ
def mOr(m n:B->B->Option D):B->B->Option D:=λx y=>(m x y).or (n x y)
theorem OpB.or(h:OpB K r m)(h':OpB K R n):OpB K (λx y H Q=>r x y H Q\/R x y H Q) (mOr m n):=λF H x y v u d Q s J O e q=>by
 unfold mOr at e
 cases j:m x y with
 | some z=>rw[j]at e;cases e;exact .inl (h F H x y v u _ Q s J O j q)
 | none=>rw[j]at e;exact .inr (h' F H x y v u _ Q s J O (by simpa using e) q)
def Xj:B->B->Option D
 | .d (.tup a),.d (.tup b)=>if a.length+b.length<=aH then some (.tup (a++b))else none
 | _,_=>none
def VC:B->B->Option D:=λx y=>x.lst.bind λa=>y.lst.bind λb=>if a.length+b.length<=aH then some (.lst (a++b))else none
theorem zej:OpB K Jf VC:=λF H x y v u d Q s O R e q=>by
 obtain⟨a,U,e⟩:=bind_some e
 obtain⟨b,Y,e⟩:=bind_some e
 obtain⟨p,vs,rfl,Z,r1⟩:=vj s U O
 obtain⟨p2,us,rfl,j,r2⟩:=vj s Y R
 by_cases z:a.length+b.length<=aH
 ·rw[if_pos z]at e;cases e
  refine⟨p,p2,vs,us,rfl,rfl,Z,j,by rw[r1.length,r2.length];exact z,λl J=>q _ (upd F l (.lst (vs++us))) _ (.fix s J _) ?_⟩
  simp only[Is]
  exact⟨l,_,rfl,zj,(r1.append r2).mono (zE (s.free J) _)⟩
 ·rw[if_neg z]at e;cases e
def mIx:B->B->Option D:=λx y=>x.seq.bind λds=>y.int.bind λi=>atI ds i
theorem zdH:OpB K (λx y H Q=>zfq K x y H Q\/zfr K x y H Q) mIx:=λF H x y v u d Q s O R e q=>by
 obtain⟨ds,U,e⟩:=bind_some e
 obtain⟨i,hi,e⟩:=bind_some e
 obtain⟨a,vs,rfl,j,r⟩:=V0 s U O
 obtain⟨w,z,J⟩:=zfx r e
 have Y:=wI hi R
 subst Y
 rcases j with j|j
 ·exact .inl ⟨a,vs,i,w,rfl,rfl,j,z,q w F H (.refl s) J⟩
 ·exact .inr ⟨a,vs,i,w,rfl,rfl,j,z,q w F H (.refl s) J⟩
end
section
variable {X:Cx} {a b c e:aF} {f g h:G->Option B} {pos:aK} {es:List aF} {fs:G->Option (List B)}
theorem zQ(R:EE X a f)(U:EE X b g)(Y:X9 b):EE X (.Subscript a b pos) (x2 mIx f g) :=
 yl (wG (xQ.or VT) R U Y) λσ H Q j=>by
  obtain⟨F0,H0,F,Γ,z,E,e,q⟩:=j
  obtain⟨x,y,d,Z,hy,hd,rfl⟩:=vF e
  exact⟨F0,H0,F,Γ,x,E,Z,λv F1 H1 O r1=>⟨F0,H0,F1,Γ,y,E.grow O,hy,λu F2 H2 J r2=>zdH F2 H2 x y v u d Q J.fh (r1.ext J) r2 hd λw F' H' e3 r3=>q w F' H' ((O.trans J).trans e3) r3⟩⟩
def ve(K:aE)(r:List V->Hp->VK->Prop)(m:List B->Option D):Prop:=∀F H bs vs d Q,zp F H->Jl K F H bs vs->m bs=some d->(∀w F' H',Ext F H F' H'->Is K F' d w->Q w H')->r vs H Q
def zH(m:List B->Option D)(fs:G->Option (List B)):G->Option B:=λΓ=>(fs Γ).bind λbs=>(m bs).map B.d
theorem map_some{α β:Type}{o:Option α}{k:α->β}{z:β}(e:o.map k=some z):∃x,o=some x/\z=k x:=by
 cases o with
 | none=>cases e
 | some x=>cases e;exact⟨x,rfl,rfl⟩
theorem YK{r:List V->Hp->VK->Prop}(O:ve X.K r m):dE X.K (zH m fs) σ H Q->tCB r (dA X.K fs) σ H Q:=λj=>by
 obtain⟨F0,H0,F,Γ,z,E,e,q⟩:=j
 obtain⟨bs,R,e⟩:=bind_some e
 obtain⟨d,U,rfl⟩:=map_some e
 exact⟨F0,H0,F,Γ,bs,E,R,λvs Y H1 J r1=>O Y H1 bs vs d Q J.fh r1 U λw F' H' Z r2=>q w F' H' (J.trans Z) r2⟩
theorem zR{id:String}{x:aC}{p:aK}{r:List V->Hp->VK->Prop}{m:List B->Option D}(O:xc X (.builtin id) r)(j:ve X.K r m)(R:Gl X x)(U:X.mg x=none)(Y:eU x=some (.builtin id))(Z:EA X (e::es) fs) 
 (hn:x≠"__name__":=by decide) (z:(x==("__debug__":aC))=false:=by decide) (he:aX (e::es) X.env=(false,aQ e X.env)::aX es X.env:=by rfl) (J:(cJ pos (aX es X.env)).any (·.1)=false:=by rfl) :
 EE X (.Call (.Name x p) (e::es) [] pos) (zH m fs):=yl (wq O R U Y Z hn z he J) λσ H Q q=>YK j q
theorem wu{T:String}{x:aC}{p:aK}{r:List V->Hp->VK->Prop}{m:List B->Option D}(O:xc X (.type T) r)(j:ve X.K r m)(R:Gl X x)(U:X.mg x=none)(Y:eU x=some (.type T))(Z:EA X (e::es) fs) 
 (hn:x≠"__name__":=by decide) (z:(x==("__debug__":aC))=false:=by decide) (he:aX (e::es) X.env=(false,aQ e X.env)::aX es X.env:=by rfl) (J:(cJ pos (aX es X.env)).any (·.1)=false:=by rfl) :
 EE X (.Call (.Name x p) (e::es) [] pos) (zH m fs):=yl (Zr O R U Y Z hn z he J) λσ H Q q=>YK j q
theorem x9{K:aE}{F H:Hp}{b:B}{vs:List V}(h:Jl K F H [b] vs):∃v,vs=[v]/\BIs K F H b v:=by
 cases h with
 | cons p q=>cases q;exact⟨_,rfl,p⟩
def yM:List B->Option D
 | [b]=>b.seq.map λds=>.int ds.length
 | _=>none
theorem yW{K:aE}:ve K (λxs H Q=>∃p ys,xs=[.ref p]/\(SqL K H p ys\/SqT K H p ys)/\Q (.int ys.length) H) yM:=λF H bs vs d Q s h e q=>by
 match bs,e,h with
 | [b],e,h=>
  obtain⟨v,rfl,j⟩:=x9 h
  obtain⟨ds,z,rfl⟩:=map_some e
  obtain⟨a,ys,rfl,J,r⟩:=V0 s z j
  refine⟨a,ys,rfl,J,q _ F H (.refl s) ?_⟩
  rw[r.length];exact xB
def vr:List B->Option D:=λbs=>match bs with
 | [.d (.tup ds)]=>some (.tup ds)
 | [.d (.lst ds)]=>some (.tup ds)
 | [.l ds]=>some (.tup ds)
 | _=>none
theorem wY{K: aE}: ve K (λxs H Q=> ∃ p ys, xs= [.ref p]/\((SqL K H p ys/\ ∀ l, H l=none->Q (.ref l) (upd H l (.tup ys)))\/(SqT K H p ys/\Q (.ref p) H))) vr :=λF H bs vs d Q s h e q=>by
  have lst: ∀ {a: aB} {ys: List V} {ds: List D}, H a=some (.lst ys)->Are K F ds ys->(∀ w F' H', Ext F H F' H'->Is K F' (.tup ds) w->Q w H')-> ∀ l, H l=none->Q (.ref l) (upd H l (.tup ys)) :=λ{a ys ds} U r q l R=>q _ (upd F l (.tup ys)) _ (.fix s R _) (by
    simp only[Is]
    exact⟨l, ys, rfl, zj, r.mono (zE (s.free R) _)⟩)
  have key: ∃ b, bs= [b] :=by
    rcases bs with _| ⟨b, _| ⟨_, _⟩⟩
    · cases e
    · exact⟨b, rfl⟩
    · cases b <;>(try (rename_i w; cases w)) <;>cases e
  obtain⟨b, rfl⟩ :=key
  cases b with
  | d w=>
   cases w with
   | tup ds=>
    cases e
    obtain⟨v, rfl, J⟩ :=x9 h
    have j: Is K F (.tup ds) v :=J
    have O :=j
    simp only[Is]at j
    obtain⟨a, ys, rfl, z, r⟩ :=j
    exact⟨a, ys, rfl,.inr ⟨SqT.of (s _ _ z), q _ F H (.refl s) O⟩⟩
   | lst ds=>
    cases e
    obtain⟨v, rfl, J⟩ :=x9 h
    obtain⟨a, ys, rfl, z, r⟩ :=vj (b := .d (.lst ds)) s rfl J
    exact⟨a, ys, rfl,.inl ⟨SqL.of z, lst z r q⟩⟩
   | _=>cases e
  | l ds=>
    cases e
    obtain⟨v, rfl, J⟩ :=x9 h
    obtain⟨a, ys, rfl, z, r⟩ :=vj (b := .l ds) s rfl J
    exact⟨a, ys, rfl,.inl ⟨SqL.of z, lst z r q⟩⟩
  | _=>cases e
def spD(K:aE)(m:List D->Option D):Sp:=λvs H Q _=>∃F ds d,zp F H/\Are K F ds vs/\m ds=some d/\∀v F' H',Ext F H F' H'->Is K F' d v->Q v H'
def xFn(m:List D->Option D)(fs:G->Option (List B)):G->Option B:=λΓ=>((fs Γ).bind vS).bind λds=>(m ds).map B.d
theorem zfz{k:Nat}{x:aC}{p:aK}{m:List D->Option D}{fa:aB}{fd:cB}{ps:List aC}(Fn:FnOk X.prog X.w X.K X.mg X.base CX0 k fa fd ps (spD X.K m))(hr:Room k X.A)(hg:Gl X x)(hm:X.mg x=some (.ref fa))(hk:fO X.K (.ref fa)=true)(hb:xo X.K fd ps []) 
  (ha:EA X (e::es) fs) (J:(x==("__debug__":aC))=false:=by decide) (he:aX (e::es) X.env=(false,aQ e X.env)::aX es X.env:=by rfl) (O:(cJ pos (aX es X.env)).any (·.1)=false:=by rfl) :
  EE X (.Call (.Name x p) (e::es) [] pos) (xFn m fs) :=
 yl (X7 (E:=E0) (dvs:=[]) (ds:=[]) Fn hr hg hm hk hb .nil v6 ha J he O) λσ H Q j=>by
  obtain⟨F0,H0,F,Γ,z,E,e,q⟩:=j
  obtain⟨ds,R,e⟩:=bind_some e
  obtain⟨bs,U,R⟩:=bind_some R
  obtain⟨d,Y,rfl⟩:=map_some e
  refine⟨F0,H0,F,Γ,bs,E,U,λvs F1 H1 Z r1=>?_⟩
  have r2:=vT R r1
  exact⟨F1,ds,d,Z.fh,by rw[gF];exact r2,Y,λv F' H' e2 r3=>q v F' H' (Z.trans e2) r3⟩
end
end DD
namespace L2
open PySem PySem.Spec PyProof.Rows
section
variable {κ:Type} [DecidableEq κ]
def yT(kvs:List (κ×V))(k:κ):Option V:=(kvs.find? λj=>decide (j.1=k)).map (·.2)
def xf(kvs:List (κ×V))(k:κ)(v:V):List (κ×V) :=
 if(kvs.any λj=>decide (j.1=k))=true then kvs.map (λj=>if j.1=k then(j.1,v)else j)else kvs++[(k,v)]
def wa(kvs:List (κ×V))(k:κ):List (κ×V):=kvs.filter λj=>decide (j.1≠k)
theorem wZ{p:κ×V}{r:List (κ×V)}{k:κ}(e:p.1=k):yT (p::r) k=some p.2:=by simp[yT,cT,e]
theorem wv{p:κ×V}{r:List (κ×V)}{k:κ}(e:¬p.1=k):yT (p::r) k=yT r k:=by simp[yT,cT,e]
theorem YL(k:κ):∀kvs:List (κ×V),(kvs.any λj=>decide (j.1=k))=(yT kvs k).isSome
 | []=>rfl
 | p::r=>by
  rw[fF]
  by_cases e:p.1=k
  ·simp only[wZ e,decide_eq_true e,Bool.true_or,Option.isSome_some]
  ·rw[wv e,decide_eq_false e,lZ];exact YL k r
theorem uk(kvs:List (κ×V))(k:κ)(v:V):(xf kvs k v).length<=kvs.length+1:=by
 unfold xf
 split
 ·rw[aM];omega
 ·rw[bQ,cC,jo];omega
theorem V2{kvs:List (κ×V)}{k:κ}(v:V)(h:yT kvs k=none):xf kvs k v=kvs++[(k,v)]:=by
 unfold xf
 rw[YL,h]
 exact if_neg (by decide)
theorem xH.isSome_eq(r:xH o u):o.isSome=u.isSome:=by
 cases o with
 | none=>cases u with
  | none=>rfl
  | some _=>exact(show False from r).elim
 | some _=>cases u with
  | none=>exact(show False from r).elim
  | some _=>rfl
theorem xH.getD(r:xH o u)(rd:zz d d'):zz (o.getD d) (u.getD d'):=by
 cases o with
 | none=>cases u with
  | none=>exact rd
  | some _=>exact(show False from r).elim
 | some _=>cases u with
  | none=>exact(show False from r).elim
  | some _=>exact r
theorem KV.val{kvs:List (κ×V)}{vs:List (κ×aA)}(r:KV kvs vs)(k:κ):xH (yT kvs k) (fS vs k):=by
 unfold KV at r
 induction r with
 | nil=>exact True.intro
 | @cons p q ps j h t O=>
  obtain⟨h1,h2⟩:=h
  by_cases e:p.1=k
  ·have J:q.1=k:=h1.symm.trans e
   have b:fS (q::j) k=some q.2:=by simp[fS,cT,J]
   rw[wZ e,b];exact h2
  ·have J:¬q.1=k:=λz=>e (h1.trans z)
   have b:fS (q::j) k=fS j k:=by simp[fS,cT,J]
   rw[wv e,b];exact O
theorem KV.any(r:KV kvs vs)(k:κ):(kvs.any λj=>decide (j.1=k))=vs.any λj=>decide (j.1=k):=by
 unfold KV at r
 induction r with
 | nil=>rfl
 | cons h t q=>rw[fF,fF,q,h.1]
theorem KV.repl(r:KV kvs vs)(k:κ)(J:zz y u):
  KV (kvs.map λj=>if j.1=k then(j.1,y)else j) (vs.map λj=>if j.1=k then(j.1,u)else j):=by
 unfold KV at r ⊢
 induction r with
 | nil=>exact .nil
 | @cons p q ps R h t O=>
  rw[aR,aR]
  refine .cons ?_ O
  obtain⟨h1,h2⟩:=h
  by_cases e:p.1=k
  ·rw[if_pos e,if_pos (h1.symm.trans e)];exact⟨h1,J⟩
  ·rw[if_neg e,if_neg (λz=>e (h1.trans z))];exact⟨h1,h2⟩
theorem KV.put(r:KV kvs vs)(k:κ)(j:zz y u):KV (xf kvs k y) (jp vs k u):=by
 unfold xf jp
 rw[r.any k]
 by_cases e:(vs.any λq=>decide (q.1=k))=true
 ·rw[if_pos e,if_pos e];exact r.repl k j
 ·rw[if_neg e,if_neg e];exact Paired.snoc r ⟨rfl,j⟩
theorem KV.drop(r:KV kvs vs)(k:κ):KV (wa kvs k) (without vs k):=by
 unfold KV at r ⊢
 unfold wa without
 induction r with
 | nil=>exact .nil
 | @cons p q ps O h t j=>
  obtain⟨h1,h2⟩:=h
  rw[gM,gM]
  by_cases e:p.1=k
  ·have a:¬decide (p.1≠k)=true:=by simp[e]
   have b:¬decide (q.1≠k)=true:=by simp[h1.symm.trans e]
   rw[if_neg a,if_neg b];exact j
  ·have J:¬q.1=k:=λz=>e (h1.trans z)
   have a:decide (p.1≠k)=true:=by simp[e]
   have b:decide (q.1≠k)=true:=by simp[J]
   rw[if_pos a,if_pos b];exact .cons ⟨h1,h2⟩ j
theorem KV.length(r:KV kvs vs):kvs.length=vs.length:=Paired.length r
theorem zb2(kvs:List (κ×V))(k:κ):(wa kvs k).length<=kvs.length:=jq _ _
end
theorem v9(r:zz (kV k) u):(zG P w).is k u=true:=by
 cases k with
 | inl i=>obtain⟨t,e⟩:=(show ∃t,u=Value.int i t from r);subst e;exact Qc P w i t
 | inr x=>obtain⟨t,e⟩:=(show ∃t,u=Value.str x t from r);subst e;exact Qd P w x t
theorem W1:∀{ks:List Key} {us:List aA},zC (ks.map kV) us->ItemsAre (zG P w) ks us
 | [],_,r=>by rw[je]at r;cases r;exact .nil
 | k::ks,_,r=>by
  rw[aR]at r
  cases r with
  | cons h t=>exact .cons (v9 h) (W1 t)
abbrev KT(H:Hp):List (List Key×V)->List (List Key×aB×aA)->Prop:=Paired λp q=>p.1=q.1/\H q.2.1=some (.tup (p.1.map kV))/\zz p.2 q.2.2
theorem KT.val{H:Hp}{kvs:List (List Key×V)}{xs:List (List Key×aB×aA)}(r:KT H kvs xs)(k:List Key):xH (yT kvs k) ((fG xs k).map (·.2)):=by
 induction r with
 | nil=>exact True.intro
 | @cons p q ps j h t O=>
  obtain⟨h1,_,h2⟩:=h
  by_cases e:p.1=k
  ·have J:q.1=k:=h1.symm.trans e
   have b:fG (q::j) k=some q.2:=by simp[fG,cT,J]
   rw[wZ e,b];exact h2
  ·have J:¬q.1=k:=λz=>e (h1.trans z)
   have b:fG (q::j) k=fG j k:=by simp[fG,cT,J]
   rw[wv e,b];exact O
theorem KT.repl(r:KT H kvs xs)(k:List Key)(J:zz y u):
  KT H (kvs.map λj=>if j.1=k then(j.1,y)else j) (xs.map (putAt k u)):=by
 induction r with
 | nil=>exact .nil
 | @cons p q ps U h t O=>
  rw[aR,aR]
  refine .cons ?_ O
  obtain⟨h1,h2,R⟩:=h
  unfold putAt
  by_cases e:p.1=k
  ·rw[if_pos e,if_pos (h1.symm.trans e)];exact⟨h1,h2,J⟩
  ·rw[if_neg e,if_neg (λz=>e (h1.trans z))];exact⟨h1,h2,R⟩
theorem KT.put(r:KT H kvs xs)(k:List Key)(z:H b=some (.tup (k.map kV)))(j:zz y u):
  KT H (xf kvs k y) (storedH xs k b u):=by
 have e:(kvs.any λJ=>decide (J.1=k))=(fG xs k).isSome:=by
  rw[YL,(r.val k).isSome_eq,l6]
 unfold xf storedH
 rw[e]
 by_cases q:(fG xs k).isSome=true
 ·rw[if_pos q,if_pos q];exact r.repl k j
 ·rw[if_neg q,if_neg q];exact Paired.snoc r ⟨rfl,z,j⟩
theorem KT.keeps(r:KT H kvs xs)(j:∀b ys,H b=some (.tup ys)->H' b=some (.tup ys)):KT H' kvs xs :=
 Paired.mapP r λ_ _ z=>⟨z.1,j _ _ z.2.1,z.2.2⟩
section
variable {P:aU} {w:aO} {H:Hp} {h:aN} {a:aB}
theorem zdI(ok:HOk P w H h)(e:Rd H a u):yf P w H h a u:=e.ok ok
theorem uW(ok:HOk P w H h)(e:Rd H a (.dK kvs)):kvs.length<=aH/\(a==eK)=false/\∃vs,KV kvs vs/\h.DictOf (zG P w) a vs :=
 show yf P w H h a (.dK kvs)from zdI ok e
theorem Z3(ok:HOk P w H h)(e:H a=some (.dK kvs)):kvs.length<=aH/\(a==eK)=false/\∃vs,KV kvs vs/\h.DictOf (zG P w) a vs:=uW ok (.inl e)
theorem ur(ok:HOk P w H h)(e:H a=some (.tup (ks.map kV))):(fW (zG P w)).is h ks a:=by
 obtain⟨_,its,r,o,h1,h2,n,j⟩:=(show yf P w H h a (.tup (ks.map kV))from ok a _ e)
 exact⟨o,its.toArray,n,h1,h2,j,by simpa using W1 r⟩
theorem Z4(ok:HOk P w H h)(e:Rd H a (.dT kvs)):kvs.length<=aH/\(a==eK)=false/\
  ∃xs,KT H kvs xs/\h.DictOfH (fW (zG P w)) a xs:=by
 obtain⟨z,y,xs,r,o,es,ep,h1,h2,O,R,U⟩:=(show yf P w H h a (.dT kvs)from zdI ok e)
 refine⟨z,y,xs,r,o,es,ep,h1,h2,O,R,λx j=>?_,U⟩
 have all:∀{l:List (List Key×V)} {m:List (List Key×aB×aA)},KT H l m->∀x∈m,(fW (zG P w)).is h x.1 x.2.1:=by
  intro l m q
  induction q with
  | nil=>intro x j;exact nomatch j
  | @cons p q ps Z J t Y=>
   intro x j
   rcases aW.mp j with e|j
   ·subst e
    exact ur ok (by rw[<-J.1];exact J.2.1)
   ·exact Y x j
 exact all r x j
theorem zdJ(ok:HOk P w H h)(e:H a=some (.dT kvs)):kvs.length<=aH/\(a==eK)=false/\
 ∃xs,KT H kvs xs/\h.DictOfH (fW (zG P w)) a xs:=Z4 ok (.inl e)
end
def xn(H:Hp)(a:aB)(y:V)(r:Option V):Prop :=
 (∃kvs k,Rd H a (.dK kvs)/\y=kV k/\r=yT kvs k)\/∃kvs k b,Rd H a (.dT kvs)/\y=.ref b/\H b=some (.tup (k.map kV))/\r=yT kvs k
def vU(H:Hp)(a:aB)(y v:V)(H':Hp):Prop :=
 (∃kvs k,H a=some (.dK kvs)/\y=kV k/\kvs.length<aH/\H'=upd H a (.dK (xf kvs k v)))\/
 ∃kvs k b,H a=some (.dT kvs)/\y=.ref b/\H b=some (.tup (k.map kV))/\kvs.length<aH/\H'=upd H a (.dT (xf kvs k v))
theorem xn.k{H:Hp}{a:aB}{kvs:List (Key×V)}{k:Key}(e:H a=some (.dK kvs)):xn H a (kV k) (yT kvs k):=.inl ⟨kvs,k,.inl e,rfl,rfl⟩
theorem xn.t{H:Hp}{a b:aB}{kvs:List (List Key×V)}{k:List Key}(e:H a=some (.dT kvs))(j:H b=some (.tup (k.map kV))):xn H a (.ref b) (yT kvs k):=.inr ⟨kvs,k,b,.inl e,rfl,j,rfl⟩
theorem vU.k{H:Hp}{a:aB}{kvs:List (Key×V)}{k:Key}{v:V}(e:H a=some (.dK kvs))(j:kvs.length<aH):vU H a (kV k) v (upd H a (.dK (xf kvs k v))):=.inl ⟨kvs,k,e,rfl,j,rfl⟩
theorem vU.t{H:Hp}{a b:aB}{kvs:List (List Key×V)}{k:List Key}{v:V}(e:H a=some (.dT kvs))(j:H b=some (.tup (k.map kV)))(q:kvs.length<aH):
 vU H a (.ref b) v (upd H a (.dT (xf kvs k v))):=.inr ⟨kvs,k,b,e,rfl,j,q,rfl⟩
section
variable {X:Cx} {pins:List (aB×aL)} {σ:St} {H:Hp} {s:aD} {a:aB} {y v:V} {u r:aA} {o:Option V} {A:bB} {E:aA->aD->Prop}
theorem Inv.big(I:Inv X pins σ H s):eK<s.heap.objs.size:=by
 have h:aV<s.heap.objs.size:=(I.mod.glob.keeps I.bk).lt
 exact eD (by decide) h
theorem W2{Q:aA->aD->Prop}(hu:A.units+1<bV)(I:Inv X pins σ H s)(g:xn H a y (some v))(Z:zz y u)(h:∀J s',Inv X pins σ H s'->zz v J->Q J s'):
  wpAny (aI X.prog X.w) A (iz (.ref a) u) Q E s:=by
 rcases g with⟨kvs,k,e,O,l⟩|⟨kvs,k,b,e,O,eb,l⟩
 ·subst O
  obtain⟨z,hd,vs,j,R⟩:=uW I.hok e
  obtain⟨J,U,q⟩:=xH.some_of (v:=v) (o:=fS vs k) (by rw[l];exact j.val k)
  exact wpAny_getItem_of (v9 Z) R.mapOf U (h J _ (I.tok _) q)
 ·subst O
  cases (show u=Value.ref b from Z)
  obtain⟨z,hd,xs,j,R⟩:=Z4 I.hok e
  obtain⟨J,U,q⟩:=xH.some_of (v:=v) (o:=(fG xs k).map (·.2)) (by rw[l];exact j.val k)
  obtain⟨p,hp,Y⟩:=eE.mp U
  refine wpAny_getItem_heap (jr hu) (ur I.hok eb) R hp ?_
  rw[Y]
  exact h J _ (I.tok _) q
theorem QA{Q:aA->aD->Prop}(Y:A.units+1<bV)(I:Inv X pins σ H s)(g:xn H a y o)(U:zz y u)(h:∀s',Inv X pins σ H s'->Q (.bool (!o.isSome)) s'):
  wpAny (aI X.prog X.w) A (cK .NotIn u (.ref a)) Q E s:=by
 rcases g with⟨kvs,k,e,J,l⟩|⟨kvs,k,b,e,J,Z,l⟩
 ·subst J
  obtain⟨z,O,vs,j,R⟩:=uW I.hok e
  refine wpAny_notIn_of (v9 U) O R.mapOf ?_
  rw[<-(j.val k).isSome_eq,<-l]
  exact h _ (I.tok _)
 ·subst J
  cases (show u=Value.ref b from U)
  obtain⟨z,O,xs,j,R⟩:=Z4 I.hok e
  refine wpAny_notIn_heap (jr Y) (ur I.hok Z) O R ?_
  have q:=(j.val k).isSome_eq
  rw[l6]at q
  rw[<-q,<-l]
  exact h _ (I.tok _)
theorem ut{h':aN}{t':Nat}{j:HO}(I:Inv X pins σ H s)(J:Mut (H a))(O:ii a s.heap h')(R:∃q,h'.get? a=some q)(new:yf X.prog X.w (upd H a j) h' a j):
  Inv X pins σ (upd H a j) {s with heap:=h',toks:=t'} :=
 I.write (x:=a) (e:=a) J (.inl rfl) (λb q U z=>(O.2 b U).trans z) R new
theorem Xk{P:aU}{w:aO}{H':Hp}{h':aN}{kvs:List (Key×V)}{vs:List (Key×aA)}(z:kvs.length<=aH)(q:(a==eK)=false)(j:KV kvs vs)(J:h'.DictOf (zG P w) a vs):
 yf P w H' h' a (.dK kvs):=⟨z,q,vs,j,J⟩
theorem zaH{Q:Unit->aD->Prop}(hu:A.units+1<bV)(I:Inv X pins σ H s)(g:vU H a y v H')(ry:zz y u)(rv:zz v r)(h:∀s',Inv X pins σ H' s'->Q () s'):
  wpAny (aI X.prog X.w) A (iX (.ref a) u r) Q E s:=by
 rcases g with⟨kvs,k,e,R,l,U⟩|⟨kvs,k,b,e,R,eb,l,U⟩
 ·subst R U
  obtain⟨z,Y,vs,j,Z⟩:=Z3 I.hok e
  have hz:vs.length<=aH:=by rw[<-j.length];exact z
  have hl:(xf kvs k v).length<=aH:=by have:=uk kvs k v;omega
  refine wpAny_setItem_pairs (hsz:=hz) (v9 ry) Z λh' J hs=>h _ ?_
  have he:∃q,h'.get? a=some q:=(by obtain⟨q,_,_,O,_⟩:=J;exact⟨q,O⟩)
  exact ut I (by rw[e];exact True.intro) hs he (Xk hl Y (j.put k rv) J)
 ·subst R U
  cases (show u=Value.ref b from ry)
  obtain⟨z,Y,xs,j,Z⟩:=zdJ I.hok e
  have hz:xs.length<=aH:=by rw[<-Paired.length j];exact z
  have hl:(xf kvs k v).length<=aH:=by have:=uk kvs k v;omega
  refine wpAny_setItem_heap (hsz:=hz) (jr hu) (ur I.hok eb) Z λh' J hs=>h _ ?_
  obtain⟨q,es,ep,O,h2,h3,h4,_,h5⟩:=J
  refine ut I (by rw[e];exact True.intro) hs ⟨q,O⟩ ⟨hl,Y,_,(j.put k eb rv).keeps λc ys ec=>?_,q,es,ep,O,h2,h3,h4,h5⟩
  rw[ze (v4 ec e (λz=>nomatch z))]
  exact ec
end
section
variable {X:Cx} {pins:List (aB×aL)} {σ:St} {H:Hp} {s:aD} {a:aB} {kvs:List (Key×V)} {k:Key} {u:aA} {A:bB} {E:aA->aD->Prop}
theorem zgO{v:V}{j:List aA}{Q:aA->aD->Prop}(I:Inv X pins σ H s)(e:H a=some (.dK kvs))(U:zz (kV k) u)(l:yT kvs k=some v)(Z:j=[]\/∃x,j=[x]) 
  (h:∀O s',Inv X pins σ (upd H a (.dK (wa kvs k))) s'->zz v O->Q O s'):wpAny (aI X.prog X.w) A (call (.builtin "dict.pop") (.ref a::u::j)) Q E s:=by
 obtain⟨z,hd,vs,J,dd⟩:=Z3 I.hok e
 obtain⟨O,hw,Y⟩:=xH.some_of (v:=v) (o:=fS vs k) (by rw[<-l];exact J.val k)
 have hp:(keyPart u).isSome=true:=by
  cases k with
  | inl i=>obtain⟨t,q⟩:=(show ∃t,u=Value.int i t from U);subst q;rfl
  | inr x=>obtain⟨t,q⟩:=(show ∃t,u=Value.str x t from U);subst q;rfl
 have ha:argsOk "dict.pop" ⟨.ref a::u::j,[]⟩:=by
  rcases Z with q|⟨x,q⟩
  ·subst q;exact PySem.F.args_dict_pop_2 _ _
  ·subst q;exact PySem.F.args_dict_pop_3 _ _ _
 refine iE l7 dd.typeIs PySem.F.entry_dict_pop ha (meets_dict_pop_there (zG X.prog X.w) a (v9 U) j Z hp)
  ⟨vs,O,dd,by rw[<-J.length];exact z,hw,λh' R hs=>h O _ ?_ Y⟩
 have he:∃q,h'.get? a=some q:=(by obtain⟨q,_,_,hq,_⟩:=R;exact⟨q,hq⟩)
 exact ut I (by rw[e];exact True.intro) hs he (Xk (bL (zb2 kvs k) z) hd (J.drop k) R)
theorem zgP{Q:aA->aD->Prop}(I:Inv X pins σ H s)(e:Rd H a (.dK kvs))(h:∀t s',Inv X pins σ H s'->Q (.int kvs.length t) s'):wpAny (aI X.prog X.w) A (call (.builtin "len") [.ref a]) Q E s:=by
 obtain⟨z,q,vs,j,J⟩:=uW I.hok e
 refine call_len_dict q J (by rw[<-j.length];rw[eX]at z;omega) ?_
 rw[<-j.length]
 exact h _ _ (I.tok _)
end
def zb3(i:aF):Prop:=∀j q,iy i false j q=operate [j,q] (iz j q)
theorem zek{prog:aU}{w:aO}{A:bB}{E:aA->aD->Prop}{s:aD}{env:bS}{value slice:aF}{pos:aK}{T id:String}{Q:aA->aD->Prop} 
  (hl:g9 (.type T) "__getitem__"=pure (some (.builtin id))) (hs:zb3 slice)
  (h:wpAny (aI prog w) A (aQ value env) (λo s₁=>wpAny (aI prog w) A (aQ slice env) (λi s₂=>s₂.TypeIs o T/\wpAny (aI prog w) A (iz o i) Q E s₂) E s₁) E s) :
  wpAny (aI prog w) A (aQ (.Subscript value slice pos) env) Q E s:=by
 refine Subscript_ (dC h (λo s₁ h₁=>dC h₁ (λi s₂ h₂=>?_) λ_ _ x=>x) λ_ _ x=>x)
 obtain⟨hT,h₂⟩:=h₂
 unfold ke
 refine aJ ?_
 rw[l8 hT.not_modules]
 refine aJ (js hT hl ?_)
 have fin:wpAny (aI prog w) A (iy slice false o i) (λr s₃=>wpAny (aI prog w) A (l9 value o r>>=λ_=>pure r) Q E s₃) E s₂:=by
  rw[hs o i]
  exact ma (dC h₂ (λr s₃ h₃=>aJ (md (bM h₃))) λ_ _ x=>x)
 first
  | exact bM (aJ fin)
  | exact aJ (bM (aJ fin))
  | exact aJ fin
theorem YB(I:Inv X pins σ H s)(g:xn H a y o):s.TypeIs (.ref a) "dict":=by
 rcases g with⟨kvs,k,e,_,_⟩|⟨kvs,k,b,e,_,_,_⟩
 ·obtain⟨_,_,vs,_,j⟩:=uW I.hok e
  exact j.typeIs
 ·obtain⟨_,_,xs,_,j⟩:=Z4 I.hok e
  exact j.typeIs
def zgQ(td ty:TE):TE:=λσ H Q=>td σ H λx H1=>ty σ H1 λy H2=>∃a v,x=.ref a/\xn H2 a y (some v)/\Q v H2
def zel(ty td:TE):TE:=λσ H Q=>ty σ H λy H1=>td σ H1 λx H2=>∃a o,x=.ref a/\xn H2 a y o/\Q (.bl (!o.isSome)) H2
def zgR(td ty tv:TE):TS:=λD σ H=>tv σ H λv H1=>td σ H1 λx H2=>ty σ H2 λy q=>∃a j,x=.ref a/\vU q a y v j/\D.nx σ j
section
variable {X:Cx} {o i e value:aF} {pos pos' tpos:aK} {td ty tv:TE}
theorem QB(z:X.A.units+1<bV)(ho:PE X o td)(hi:PE X i ty)(J:zb3 i):PE X (.Subscript o i pos) (zgQ td ty):=by
 intro pins s σ H Q I h
 refine zek me.lookup J (thn (ho pins s σ H _ I h) λu s1 ⟨x,H1,O,R,U⟩=>thn (hi pins s1 σ H1 _ O U) λiv s2 ⟨y,H2,q,Y,a,v,ex,g,Z⟩=>?_)
 subst ex
 obtain rfl:u=Value.ref a:=R
 exact⟨YB q g,W2 z q g Y λw' s3 I3 j=>⟨v,H2,I3,j,Z⟩⟩
theorem zaI(j:X.A.units+1<bV)(hi:PE X i ty)(ho:PE X o td):PC X .NotIn i o (zel ty td):=by
 intro pins s σ H Q I h
 refine thn (hi pins s σ H _ I h) λZ s1 ⟨y,H1,q,z,J⟩=>thn (ho pins s1 σ H1 _ q J) λu s2 ⟨x,H2,O,R,a,ov,ex,g,U⟩=>?_
 subst ex
 obtain rfl:u=Value.ref a:=R
 exact QA j O g z λs3 Y=>⟨.bl (!ov.isSome),H2,Y,rfl,U⟩
theorem Z5(hu:X.A.units+1<bV)(ho:PE X o td)(hi:PE X i ty)(hv:PE X value tv)(hs:cO value (some (.Subscript o i pos')) pos.line X.env=pure false):
  PS X (.Assign [.Subscript o i pos'] value pos) (zgR td ty tv):=by
 intro pins s σ H D I h
 refine wpAny_Assign_Subscript (thn (hv pins s σ H _ I h) λr s1 ⟨v,H1,I1,rv,q1⟩=>thn (ho pins s1 σ H1 _ I1 q1) λu s2 ⟨x,H2,I2,rx,q2⟩=>thn (hi pins s2 σ H2 _ I2 q2) λiv s3 ⟨y,H3,I3,ry,a,H4,ex,g,q3⟩=>?_) hs
 subst ex
 obtain rfl:u=Value.ref a:=rx
 exact zaH hu I3 g ry rv λs4 I4=>⟨σ,H4,I4,q3⟩
end
theorem V3(h:aN)(j:eK<h.objs.size):yf P w H (h.push {cls:=.type "dict",data:=.dict #[]}) h.objs.size (.dK []) :=
 ⟨cR _,beq_eq_false_iff_ne.mpr (aT (bO j)),[],.nil,mf h⟩
theorem zb4(h:aN)(j:eK<h.objs.size):yf P w H (h.push {cls:=.type "dict",data:=.dict #[]}) h.objs.size (.dT []) :=
 ⟨cR _,beq_eq_false_iff_ne.mpr (aT (bO j)),[],.nil,_,#[],0,bW _ rfl,⟨rfl,rfl,rfl⟩,rfl,rfl,List.nodup_nil⟩
def zfA:TE:=λ_ H Q=>∀p,H p=none->Q (.ref p) (upd H p (.dK []))
section
variable {X:Cx} {pos:aK}
theorem vV:PE X (.Dict [] [] pos) zfA:=λpins s σ H Q I h=>
 wpAny_Dict_empty ⟨.ref s.heap.objs.size,_,I.laid (a:=s.heap.objs.size) (o:=.dK []) (t':=s.toks) (λ_ _ q=>bJ _ q) (aP _) (V3 s.heap I.big),rfl,h _ (I.hok.fresh (aP _))⟩
end
def Xl:List (TE×TE)->St->Hp->(List (V×V)->Hp->Prop)->Prop
 | [],_,H,Q=>Q [] H
 | (tk,tv)::r,σ,H,Q=>tk σ H λx H1=>tv σ H1 λy H2=>Xl r σ H2 λps j=>Q ((x,y)::ps) j
abbrev VV:List (V×V)->List (aA×aA)->Prop:=Paired λp q=>zz p.1 q.1/\zz p.2 q.2
def PPs(X:Cx)(pos:aK)(keys:List (Option aF))(j:List aF)(trs:List (TE×TE)):Prop :=
 ∀(pins:List (aB×aL)) (s:aD) (σ:St) (H:Hp) (Q:List (V×V)->Hp->Prop),Inv X pins σ H s->Xl trs σ H Q->
  wpAny (aI X.prog X.w) X.A (evalPairs (pairTrees keys j X.env pos)) (λvs s'=>∃ps H',Inv X pins σ H' s'/\VV ps vs/\Q ps H') X.xe s
theorem Wc:PPs X pos [] [] []:=λpins s σ H Q I h=>pairTrees_nil_walk ⟨[],H,I,.nil,h⟩
theorem YM(z:PE X k tk)(J:PE X v tv)(O:PPs X pos ks vs trs):
  PPs X pos (some k::ks) (v::vs) ((tk,tv)::trs):=λpins s σ H Q I h=>
 pairTrees_cons_walk (thn (z pins s σ H _ I h) λu s1 ⟨x,H1,R,U,Y⟩=>thn (J pins s1 σ H1 _ R Y) λw2 s2 ⟨y,H2,Z,ry,q2⟩=>
  thn (O pins s2 σ H2 _ Z q2) λws s3 j=>(by obtain⟨ps,H3,I3,q,q3⟩:=j;exact⟨(x,y)::ps,H3,I3,.cons ⟨U,ry⟩ q,q3⟩))
def xW(kvs j:List (Key×V)):List (Key×V):=j.foldl (λacc q=>xf acc q.1 q.2) kvs
theorem KV.merge:∀{j:List (Key×V)} {z:List (Key×aA)} {kvs:List (Key×V)} {vs:List (Key×aA)},KV j z->KV kvs vs->KV (xW kvs j) (merged vs z):=by
 intro j z kvs vs r
 unfold KV at r
 induction r generalizing kvs vs with
 | nil=>intro q;exact q
 | @cons p q ps R h t J=>
  intro O
  have e:KV (xf kvs p.1 p.2) (jp vs q.1 q.2):=by
   have:=O.put p.1 h.2
   rw[<-h.1];exact this
  exact J e
theorem vt:∀(j kvs:List (Key×V)),(xW kvs j).length<=kvs.length+j.length
 | [],kvs=>by show kvs.length<=kvs.length+0;omega
 | p::r,kvs=>by
  have h1:=vt r (xf kvs p.1 p.2)
  have h2:=uk kvs p.1 p.2
  show(xW (xf kvs p.1 p.2) r).length<=_
  rw[cC];omega
theorem Xm:∀{kvs:List (Key×V)} {ws:List (aA×aA)},VV (kvs.map λz=>(kV z.1,z.2)) ws->∃j,Carries (zG P w) ws j/\KV kvs j
 | [],_,r=>by rw[je]at r;cases r;exact⟨[],True.intro,.nil⟩
 | p::kvs,_,r=>by
  rw[aR]at r
  cases r with
  | @cons a b as bs h t=>
   obtain⟨j,c,q⟩:=Xm (P:=P) (w:=w) t
   obtain⟨O,J⟩:=b
   exact⟨(p.1,J)::j,⟨v9 h.1,rfl,c⟩,.cons ⟨rfl,h.2⟩ q⟩
def zgS(trs:List (TE×TE)):TE:=λσ H Q=>∀p,H p=none->Xl trs σ (upd H p (.dK [])) λps H2=>H2 p=some (.dK [])/\∃kvs:List (Key×V),ps=kvs.map (λj=>(kV j.1,j.2))/\kvs.length<=15/\Q (.ref p) (upd H2 p (.dK (xW [] kvs)))
theorem QC(h:PPs X pos keys j trs)(J:keys.all (·.isSome)=true)(Z:keys.length=j.length)(h0:keys≠[]) 
  (R:keys.length<=15):PE X (.Dict keys j pos) (zgS trs):=by
 intro pins s σ H Q I q
 have hn:=I.hok.fresh (aP s.heap.objs.size)
 have I1:=I.laid (a:=s.heap.objs.size) (o:=.dK []) (h':=s.heap.push {cls:=.type "dict",data:=.dict #[]}) (t':=s.toks) (λ_ _ q=>bJ _ q) (aP _) (V3 s.heap I.big)
 refine wpAny_Dict_walk (knd:=zG X.prog X.w) J Z h0 R (thn (h pins _ σ _ _ I1 (q _ hn)) λws s2 ⟨ps,H2,Y,U,e,kvs,ep,lk,q2⟩=>?_)
 subst ep
 obtain⟨rs,c,rk⟩:=Xm (P:=X.prog) (w:=X.w) U
 obtain⟨z,hd,aa,r0,dd⟩:=Z3 Y.hok e
 cases r0
 refine⟨rs,c,dd,λh' O hs=>⟨.ref s.heap.objs.size,_,?_,rfl,q2⟩⟩
 have hz:(xW [] kvs).length<=aH:=by
  have h1:=vt kvs []
  rw[jo]at h1
  rw[eX];omega
 have he:∃q,h'.get? s.heap.objs.size=some q:=(by obtain⟨q,_,_,hq,_⟩:=O;exact⟨q,hq⟩)
 exact ut Y (by rw[e];exact True.intro) hs he (Xk hz hd (rk.merge .nil) O)
structure M1 (X:Cx) (o:aF) (m:aC) (apos:aK) (e:aF) (cpos:aK):Prop where
 base:fA o m X.env (aQ o X.env)=aQ o X.env
 few:((cJ cpos (aX [e] X.env)).all (λx=>!x.1) && (ir cpos (iu [] X.env)).all (λx=>x.1.isSome)
  && decide (([e]:List aF).length+([]:List gH).length+(if([]:List gH).isEmpty then 0 else 1)<30))=true
 line:(apos.endLine==cpos.line)=true
 trees:cJ cpos (aX [e] X.env)=[(false,aQ e X.env)]
structure M2 (X:Cx) (o:aF) (m:aC) (apos:aK) (e f:aF) (cpos:aK):Prop where
 base:fA o m X.env (aQ o X.env)=aQ o X.env
 few:((cJ cpos (aX [e,f] X.env)).all (λx=>!x.1) && (ir cpos (iu [] X.env)).all (λx=>x.1.isSome)
  && decide (([e,f]:List aF).length+([]:List gH).length+(if([]:List gH).isEmpty then 0 else 1)<30))=true
 line:(apos.endLine==cpos.line)=true
 trees:cJ cpos (aX [e,f] X.env)=[(false,aQ e X.env),(false,aQ f X.env)]
def IsD(H:Hp)(a:aB):Prop:=(∃kvs,Rd H a (.dK kvs))\/∃kvs,Rd H a (.dT kvs)
theorem zaJ(I:Inv X pins σ H s)(d:IsD H a):
  s.TypeIs (.ref a) "dict"/\(∀b,Value.ref a=.ref b->∃j,s.heap.get? b=some j/\j.dict=none)/\(a==eK)=false:=by
 rcases d with⟨kvs,e⟩|⟨kvs,e⟩
 ·obtain⟨_,J,vs,_,z⟩:=uW I.hok e
  refine⟨z.typeIs,λb q=>?_,J⟩
  cases q
  obtain⟨j,_,_,h1,h2,_⟩:=z
  exact⟨j,h1,h2.2.1⟩
 ·obtain⟨_,J,xs,_,z⟩:=Z4 I.hok e
  refine⟨z.typeIs,λb q=>?_,J⟩
  cases q
  obtain⟨j,_,_,h1,h2,_⟩:=z
  exact⟨j,h1,h2.2.1⟩
section
variable {X:Cx} {pins:List (aB×aL)} {σ:St} {H:Hp} {s:aD} {a:aB} {y d:V} {u r:aA} {o:Option V} {A:bB} {E:aA->aD->Prop}
theorem zfB{Q:aA->aD->Prop}(Y:A.units+1<bV)(I:Inv X pins σ H s)(g:xn H a y o)(R:zz y u)(rd:zz d r)(h:∀U s',Inv X pins σ H s'->zz (o.getD d) U->Q U s'):
  wpAny (aI X.prog X.w) A (call (.builtin "dict.get") [.ref a,u,r]) Q E s:=by
 rcases g with⟨kvs,k,e,J,l⟩|⟨kvs,k,b,e,J,Z,l⟩
 ·subst J
  obtain⟨z,O,vs,j,q⟩:=uW I.hok e
  refine iE ky q.typeIs mh (mi _ _ _) (meets_dict_get_default (zG X.prog X.w) a (v9 R) O r) ⟨_,q.mapOf,h _ _ (I.tok _) ?_⟩
  rw[l]
  exact(j.val k).getD rd
 ·subst J
  cases (show u=Value.ref b from R)
  obtain⟨z,O,xs,j,q⟩:=Z4 I.hok e
  refine iE ky q.typeIs mh (mi _ _ _) (meetsH_dict_get_default (fW (zG X.prog X.w)) a b O r) ⟨jr Y,k,xs,ur I.hok Z,q,h _ _ (I.tok _) ?_⟩
  rw[l]
  exact(j.val k).getD rd
end
def zfC(td ty tx:TE):TE:=λσ H Q=>td σ H λx H1=>∃a,x=.ref a/\IsD H1 a/\ty σ H1 λy H2=>tx σ H2 λz j=>∃o,xn j a y o/\Q (o.getD z) j
def zfD(td ty:TE):TE:=λσ H Q=>td σ H λx H1=>∃a,x=.ref a/\IsD H1 a/\ty σ H1 λy H2=>∃kvs k v,H2 a=some (.dK kvs)/\y=kV k/\yT kvs k=some v/\Q v (upd H2 a (.dK (wa kvs k)))
section
variable {X:Cx} {o e f:aF} {apos cpos:aK} {td ty tx:TE}
theorem zb5(hu:X.A.units+1<bV)(ho:PE X o td)(he:PE X e ty)(hf:PE X f tx)(m:M2 X o "get" apos e f cpos):PE X (.Call (.Attribute o "get" apos) [e,f] [] cpos) (zfC td ty tx):=by
 intro pins s σ H Q I h
 refine mj m.base m.few m.line jt ky PySem.F.type_dict_get (thn (ho pins s σ H _ I h) λu s1 ⟨x,H1,I1,rx,a,ex,d,q1⟩=>?_)
 subst ex
 obtain rfl:u=Value.ref a:=rx
 obtain⟨t1,t2,_⟩:=zaJ I1 d
 refine⟨t1,t2,?_⟩
 rw[m.trees]
 refine gZ rfl (kh (iq (thn (he pins s1 σ H1 _ I1 q1) λiv s2 ⟨y,H2,I2,ry,q2⟩=>
  iq (thn (hf pins s2 σ H2 _ I2 q2) λfv s3 ⟨z,H3,I3,rz,ov,g,q3⟩=>i8 ?_))))
 exact zfB hu I3 g ry rz λw' s4 I4 rw'=>⟨_,H3,I4,rw',q3⟩
theorem zb6(ho:PE X o td)(he:PE X e ty)(m:M1 X o "pop" apos e cpos):PE X (.Call (.Attribute o "pop" apos) [e] [] cpos) (zfD td ty):=by
 intro pins s σ H Q I h
 refine mj m.base m.few m.line jt l7 PySem.F.type_dict_pop (thn (ho pins s σ H _ I h) λu s1 ⟨x,H1,I1,rx,a,ex,d,q1⟩=>?_)
 subst ex
 obtain rfl:u=Value.ref a:=rx
 obtain⟨t1,t2,_⟩:=zaJ I1 d
 refine⟨t1,t2,?_⟩
 rw[m.trees]
 refine gZ rfl (kh (iq (thn (he pins s1 σ H1 _ I1 q1) λiv s2 ⟨y,H2,I2,ry,kvs,k,v,ea,ey,l,q2⟩=>i8 ?_)))
 subst ey
 exact zgO I2 ea ry l (.inl rfl) λw' s3 I3 rw'=>⟨v,_,I3,rw',q2⟩
end
section
variable {X:Cx} {pins:List (aB×aL)} {σ:St} {H:Hp} {s:aD} {a:aB} {kvs:List (Key×V)} {A:bB} {E:aA->aD->Prop}
end
section
variable {X:Cx} {pins:List (aB×aL)} {σ:St} {H:Hp} {s:aD} {a:aB} {y:V} {u:aA} {A:bB} {E:aA->aD->Prop}
end
end L2
namespace L2
open PySem PySem.Spec PyProof.Rows
section
variable {X:Cx}
theorem W3:xc X (.builtin "len") (λxs H Q=>∃a kvs,xs=[V.ref a]/\H a=some (.dK kvs)/\Q (.int kvs.length) H):=by
 intro pins s σ H xs us Q I r h
 obtain⟨a,kvs,rfl,j,q⟩:=h
 obtain⟨u,rfl,z⟩:=vd r
 cases z
 exact zgP I (.inl j) λt s' J=>⟨.int kvs.length,H,J,⟨t,rfl⟩,q⟩
end
section
variable {κ:Type} [DecidableEq κ]
theorem zaK{p:κ×V}{r:List (κ×V)}{k:κ}(e:p.1=k):wa (p::r) k=wa r k:=by
 unfold wa
 rw[gM,if_neg (by simp[e])]
theorem zaL{p:κ×V}{r:List (κ×V)}{k:κ}(e:¬p.1=k):wa (p::r) k=p::wa r k:=by
 unfold wa
 rw[gM,if_pos (by simp[e])]
end
end L2
namespace DD
open PySem PySem.Spec L2
open PyProof.Rows hiding St
section
variable {X:Cx} {a b c e:aF} {f g h:G->Option B} {pos:aK} {es:List aF} {fs:G->Option (List B)} {tf:G->Option Bool}
def yv:G->Option Out:=λΓ=>some (.nx Γ)
def zt(f g:G->Option Out):G->Option Out:=λΓ=>(f Γ).bind λo=>match o with
 | .nx j=>g j
 | o=>some o
theorem yI:SDs X [] yv:=VZ X4 λE σ H ⟨F0,H0,F,Γ,o,j,e,q⟩=>by cases e;exact q σ F H j (zp.refl _)
theorem zh{st:aS}{rest:List aS}{f g:G->Option Out}(h1:SD X st f)(h2:SDs X rest g):SDs X (st::rest) (zt f g) :=
 VZ (zL h1 h2) λE σ H j=>by
  obtain⟨F0,H0,F,Γ,o,J,e,q⟩:=j
  obtain⟨O,h1,e⟩:=bind_some e
  cases O with
  | nx g1=>exact⟨F0,H0,F,Γ,_,J,h1,λY R H1 U z=>⟨F0,H0,R,g1,o,U,e,q.mono z⟩⟩
  | rt d=>cases e;exact⟨F0,H0,F,Γ,_,J,h1,q⟩
  | bk g1=>cases e;exact⟨F0,H0,F,Γ,_,J,h1,q⟩
  | ct g1=>cases e;exact⟨F0,H0,F,Γ,_,J,h1,q⟩
theorem zo{st:aS}{f:G->Option Out}(h1:SD X st f):SDs X [st] f:=yk h1
def zZ(f:G->Option B):G->Option Out:=λΓ=>(f Γ).bind λb=>b.asD.map Out.rt
theorem yy{b:B}{d:D}(e:b.asD=some d):b=.d d:=by
 cases b with
 | d x=>cases e;rfl
 | _=>cases e
theorem zU(J:EE X e f):SD X (.Return (some e) pos) (zZ f):=ym (Zl J) λE σ H j=>by
 obtain⟨F0,H0,F,Γ,o,z,e,q⟩:=j
 obtain⟨b,O,e⟩:=bind_some e
 obtain⟨d,R,rfl⟩:=map_some e
 have:=yy R;subst this
 exact⟨F0,H0,F,Γ,_,z,O,λv U H1 Y r1=>q v U H1 (z.ext.trans Y) r1⟩
def sIf(t:G->Option Bool)(f g:G->Option Out):G->Option Out:=λΓ=>(t Γ).bind λx=>if x=true then f Γ else g Γ
theorem xI{p q:List aS}{f g:G->Option Out}(R:ET X c tf)(U:SDs X p f)(Y:SDs X q g):SD X (.If c p q pos) (sIf tf f g):=ym (Vu R U Y) λE σ H j=>by
 obtain⟨F0,H0,F,Γ,o,J,e,q⟩:=j
 obtain⟨x,Z,e⟩:=bind_some e
 refine⟨F0,H0,F,Γ,x,J,Z,λO H1 z=>?_⟩
 cases x with
 | true=>exact⟨F0,H0,O,Γ,o,J.grow z,e,q.mono z.ff⟩
 | false=>exact⟨F0,H0,O,Γ,o,J.grow z,e,q.mono z.ff⟩
def sNo:G->Option Out:=λ_=>none
theorem zij{st:aS}:SD X st sNo:=λ_ _ _ _ _ _ ⟨_,_,_,_,_,_,e,_⟩=>by cases e
def Jq(f:G->Option B):G->Option Out:=λΓ=>(f Γ).map λ_=>.nx Γ
theorem zfE(he:EE X e f)(hs:cO e none pos.line X.env=pure false:=by rfl):SD X (.Expr e pos) (Jq f):=ym (xj he hs) λE σ H hh40'=>by
 obtain⟨F0,H0,F,Γ,o,En,e,q⟩:=hh40'
 obtain⟨b,hb,rfl⟩:=map_some e
 exact⟨F0,H0,F,Γ,b,En,hb,λv F1 H1 e1 r1=>q σ F1 H1 (En.grow e1) e1.ff⟩
def zI(i:Nat)(f:G->Option B):G->Option Out:=λΓ=>(f Γ).bind λb=>b.asD.map λd=>.nx (Γ.set i (.v d))
theorem QD{i:Nat}{E:Ends}{σ:St}{H:Hp}:dS X.K (zI i f) E σ H->X5 (dE X.K f) (v5 i) E σ H:=λj=>by
 obtain⟨F0,H0,F,Γ,o,z,e,q⟩:=j
 obtain⟨b,O,e⟩:=bind_some e
 obtain⟨d,R,rfl⟩:=map_some e
 have:=yy R;subst this
 exact⟨F0,H0,F,Γ,_,z,O,λv U H1 J r1=>q _ U H1 ((z.grow J).put r1) J.ff⟩
theorem zV{i:Nat}{x:aC}{p:aK}(hN:X.N.Nodup)(hi:X.N[i]?=some x)(hx:Loc X.env.scope x)(he:EE X e f)(hs:cO e (some (.Name x p)) pos.line X.env=pure false:=by rfl)(hf:X.fn x=true\/X.env.scope.names.lookup x=some .local:=by first|exact .inl rfl|exact .inr rfl|assumption):
 SD X (.Assign [.Name x p] e pos) (zI i f):=ym (xa hN hi hx he hs hf) λE σ H q=>QD q
def wL(i:Nat)(f:G->Option (List D)):G->Option Out:=λΓ=>(f Γ).map λds=>.nx (Γ.set i (.ol ds))
theorem QE:dS X.K (wL i fl) E σ H->X5 (dL X.K fl) (v5 i) E σ H:=λO=>by
 obtain⟨F0,H0,F,Γ,o,U,e,q⟩:=O
 obtain⟨ds,hb,rfl⟩:=map_some e
 refine⟨F0,H0,F,Γ,_,U,hb,λa vs F1 H1 Y hn hf hh r1=>q _ F1 H1 ((U.grow Y).putOwn ⟨a,vs,rfl,hh,r1,hf,U.ext.hh.free hn⟩ λj s hj hs ho z=>?_) Y.ff⟩
 obtain⟨o,h1,h2⟩:=U.val j s hs
 rw[z]at h1;cases h1
 cases s with
 | un=>cases ho
 | v d=>cases ho
 | ol ds=>obtain⟨Z,vs,R,J,_⟩:=h2;cases R;rw[hn]at J;cases J
 | ot kvs=>obtain⟨Z,vs,R,J,_⟩:=h2;cases R;rw[hn]at J;cases J
 | ok kvs=>obtain⟨Z,vs,R,J,_⟩:=h2;cases R;rw[hn]at J;cases J
theorem ua{i:Nat}{x:aC}{p:aK}{fl:G->Option (List D)}(hN:X.N.Nodup)(hi:X.N[i]?=some x)(hx:Loc X.env.scope x)(he:EL X e fl)(hs:cO e (some (.Name x p)) pos.line X.env=pure false:=by rfl)(hf:X.fn x=true\/X.env.scope.names.lookup x=some .local:=by first|exact .inl rfl|exact .inr rfl|assumption):
 SD X (.Assign [.Name x p] e pos) (wL i fl):=ym (xa hN hi hx he hs hf) λE σ H q=>QE q
def zaM(z:List Nat)(σ q:St):Prop:=σ.length=q.length/\∀j,j∉z->q[j]?=σ[j]?
def dGs(K:aE)(q:List Nat)(f:D->G->Option G):TG:=λv σ H Q=>∃F0 H0 F Γ d g,EnvIs K F0 H0 F H σ Γ/\Is K F d v/\f d Γ=some g/\∀j,EnvIs K F0 H0 F H j g->zaM q σ j->Q j H
def GN(X:Cx)(e:aF)(j:List Nat)(f:D->G->Option G):Prop:=PG X e (dGs X.K j f)
def zk(i:Nat):D->G->Option G:=λd Γ=>some (Γ.set i (.v d))
theorem zB(O:X.N.Nodup)(hi:X.N[i]?=some x)(R:Loc X.env.scope x)(U:X.fn x=true\/X.env.scope.names.lookup x=some .local:=by first|exact .inl rfl|exact .inr rfl|assumption):GN X (.Name x pos) [i] (zk i) :=
 Qw (xk O hi R U) λv σ H Q J=>by
  obtain⟨F0,H0,F,Γ,d,g,Y,r,e,q⟩:=J
  cases e
  exact q _ (Y.put r) ⟨by simp,λj Z=>cW (λz=>Z (by simp[z]))⟩
def dGl(K:aE)(q:List Nat)(f:List D->G->Option G):TGs:=λvs σ H Q=>∃F0 H0 F Γ ds g,EnvIs K F0 H0 F H σ Γ/\Are K F ds vs/\f ds Γ=some g/\∀j,EnvIs K F0 H0 F H j g->zaM q σ j->Q j H
def GL(X:Cx)(es:List aF)(j:List Nat)(f:List D->G->Option G):Prop:=PGs X es (dGl X.K j f)
def yJ:List D->G->Option G:=λds Γ=>match ds with
 | []=>some Γ
 | _=>none
def zD(f:D->G->Option G)(g:List D->G->Option G):List D->G->Option G:=λds Γ=>match ds with
 | d::r=>(f d Γ).bind λj=>g r j
 | []=>none
theorem vk:GL X [] [] yJ:=λpins s σ H vs us Q I r ⟨F0,H0,F,Γ,ds,g,j,z,e,q⟩=>ZU pins s σ H vs us Q I r (by
 cases ds with
 | nil=>cases e;exact⟨z.inv0,q _ j ⟨rfl,λ_ _=>rfl⟩⟩
 | cons d r=>cases e)
theorem yA(h1:GN X e Y t)(h2:GL X es Z u)(hs:(dY (e::es) X.env).map (·.2)=dX e X.env::(dY es X.env).map (·.2):=by rfl):GL X (e::es) (Y++Z) (zD t u) :=
 λpins s σ H vs us Q I r ⟨F0,H0,F,Γ,ds,g,En,ra,e,q⟩=>wp h1 h2 hs pins s σ H vs us Q I r (by
  cases ds with
  | nil=>cases e
  | cons d rd=>
   obtain⟨g1,J,e⟩:=bind_some e
   obtain⟨v,rv,rfl,r1,r2⟩:=ra.inv
   refine⟨v,rv,rfl,F0,H0,F,Γ,d,g1,En,r1,J,λσ1 E1 O=>⟨F0,H0,F,g1,rd,g,E1,r2,e,λσ2 E2 R=>q σ2 E2 ⟨O.1.trans R.1,λj U=>?_⟩⟩⟩
   rw[R.2 j λz=>U (cX _ z),O.2 j λz=>U (dJ _ z)])
def yG(n:Nat)(u:List D->G->Option G):D->G->Option G:=λd Γ=>match d with
 | .tup ds=>if ds.length=n then u ds Γ else none
 | _=>none
theorem ub(Y:X.calm=true)(h:GL X es Z u)(hn:(dY es X.env).length=n:=by rfl)(z:(dY es X.env).findIdx? (·.1)=none:=by rfl):GN X (.Tuple es k pos) Z (yG n u) :=
 Qw (Y8 Y h hn z) λv σ H Q j=>by
  obtain⟨F0,H0,F,Γ,d,g,O,r,e,q⟩:=j
  cases d with
  | tup ds=>
   have R:=r
   simp only[Is]at R
   obtain⟨a,vs,rfl,hf,U⟩:=R
   unfold yG at e
   by_cases J:ds.length=n
   ·simp only[J,if_true]at e
    exact⟨a,vs,rfl,SqT.of (O.fh _ _ hf),by rw[U.length];exact J,F0,H0,F,Γ,ds,g,O,U,e,q⟩
   ·simp only[J,if_false]at e;cases e
  | _=>cases e
def Jr(t:D->G->Option G)(f:G->Option B):G->Option Out:=λΓ=>(f Γ).bind λb=>b.asD.bind λd=>(t d Γ).map .nx
theorem zgT{tg:aF}{is:List Nat}{t:D->G->Option G}(he:EE X e f)(hg:GN X tg is t)(hs:jN [tg] e pos.line X.env=pure false:=by rfl)(hw:jO [tg] e X.env=pure none:=by rfl) 
  (h1:(dY [tg] X.env).map (·.2)=[dX tg X.env]:=by rfl):SD X (.Assign [tg] e pos) (Jr t f):=ym (Zm he hg hs hw h1) λE σ H ⟨F0,H0,F,Γ,o,En,e,q⟩=>by
 obtain⟨b,hb,e⟩:=bind_some e
 obtain⟨d,hd,e⟩:=bind_some e
 obtain⟨g,hg,rfl⟩:=map_some e
 have:=yy hd;subst this
 exact⟨F0,H0,F,Γ,_,En,hb,λv F1 H1 e1 r1=>⟨F0,H0,F1,Γ,d,g,En.grow e1,r1,hg,λσ' E' _=>q σ' F1 H1 E' e1.ff⟩⟩
def vW(i:Nat)(Γ:G):G:=match Γ[i]? with
 | some (.ol ds)=>Γ.set i (.v (.lst ds))
 | some (.ok kvs)=>Γ.set i (.v (.dK (kvs.map bA) (kvs.map dG)))
 | some (.ot kvs)=>Γ.set i (.v (.dT (kvs.map bA) (kvs.map dG)))
 | _=>Γ
theorem EnvIs.frzA{K:aE}{F0 H0 F H:Hp}{σ:St}{Γ:G}{i:Nat}{a:aB}{ho:HO}{s:S}{d:D}(E:EnvIs K F0 H0 F H σ Γ)(hi:Γ[i]?=some s)(own:s.own=true)(h1:σ[i]?=some (some (.ref a)))(h4:F a=none)(h5:H0 a=none)(hd:Is K (upd F a ho) d (.ref a)):
  EnvIs K F0 H0 (upd F a ho) (upd H a ho) σ (Γ.set i (.v d)):=by
 have R:i<Γ.length:=(aY.mp hi).1
 have ex:Ext F0 H0 (upd F a ho) (upd H a ho):=(E.ext.turn h5 h4 ho).freeze h5 h4 zj
 have sm:zp F (upd F a ho):=zE h4 _
 refine⟨ex,by simpa using E.len,λj s' e=>?_,λj k s' t b aa e1 e2 o1 o2 r1 r2=>?_⟩
 ·by_cases hj:j=i
  ·subst hj
   rw[dW R]at e
   cases e
   exact⟨_,h1,.ref a,rfl,hd⟩
  ·rw[cW (aT hj)]at e
   obtain⟨o,O,q2⟩:=E.val j s' e
   refine⟨o,O,?_⟩
   have ne:∀b,s'.own=true->σ[j]?=some (some (.ref b))->b≠a:=λb so sb z=>by
    subst z
    exact E.sep j i s' _ b hj e hi so own sb h1
   cases s' with
   | un=>trivial
   | v d=>obtain⟨v,e1,q⟩:=q2;exact⟨v,e1,q.mono sm⟩
   | ol U=>obtain⟨b,J,rfl,Y,p2,Z,p4⟩:=q2;exact⟨b,J,rfl,by rw[ze (ne b rfl O)];exact Y,p2.mono sm,by rw[ze (ne b rfl O)];exact Z,p4⟩
   | ot U=>obtain⟨b,J,rfl,Y,p2,Z,p4⟩:=q2;exact⟨b,J,rfl,by rw[ze (ne b rfl O)];exact Y,p2.mono sm,by rw[ze (ne b rfl O)];exact Z,p4⟩
   | ok U=>obtain⟨b,J,rfl,Y,p2,Z,p4⟩:=q2;exact⟨b,J,rfl,by rw[ze (ne b rfl O)];exact Y,p2.mono sm,by rw[ze (ne b rfl O)];exact Z,p4⟩
 ·have no:∀(k:Nat) (t:S),(Γ.set i (.v d))[k]?=some t->t.own=true->Γ[k]?=some t:=λk t e o=>by
   by_cases z:k=i
   ·subst z
    rw[dW R]at e
    cases e;cases o
   ·rw[cW (aT z)]at e;exact e
  exact E.sep j k s' t b aa (no j s' e1 o1) (no k t e2 o2) o1 o2 r1 r2
theorem y2.keys{κ:Type}{K:aE}{F:Hp}:∀{ps:List (κ×D)} {j:List (κ×V)},y2 K F ps j->j.map bA=ps.map bA/\Are K F (ps.map dG) (j.map dG):=λh=>by
 induction h with
 | nil=>exact⟨rfl,.nil⟩
 | cons h r q=>
  obtain⟨a,b⟩:=h
  obtain⟨h1,h2⟩:=q
  exact⟨by rw[aR,aR,h1,a],.cons b h2⟩
theorem zaN{H:Hp}{a:aB}{o:HO}(h:H a=some o):upd H a o=H:=by
 funext b
 unfold upd
 by_cases z:b=a
 ·rw[if_pos z,z,h]
 ·rw[if_neg z]
def wx(i:Nat)(f:G->Option Out):G->Option Out:=λΓ=>f (vW i Γ)
theorem xO{i:Nat}{st:List aS}{f:G->Option Out}(h:SDs X st f):SDs X st (wx i f):=λpins s σ H E I J=>by
 obtain⟨F0,H0,F,Γ,o,O,e,q⟩:=J
 have U:f (vW i Γ)=some o:=e
 unfold vW at U
 split at U
 ·rename_i ds hi
  obtain⟨o',h1,a,vs,rfl,h2,Y,j,Z⟩:=O.val i _ hi
  have R:=O.frzA (ho:=.lst vs) hi rfl h1 j Z (d:=.lst ds) (by simp only[Is];exact⟨a,vs,rfl,zj,Y.mono (zE j _)⟩)
  rw[zaN h2]at R
  exact h pins s σ H E I ⟨F0,H0,_,_,o,R,U,q.mono (zE j _)⟩
 ·rename_i ds hi
  obtain⟨o',h1,a,vs,rfl,h2,Y,j,Z⟩:=O.val i _ hi
  obtain⟨z,aa,ws,ac,dd⟩:=Z3 I.hok h2
  obtain⟨ep,da⟩:=dd.dictAt
  obtain⟨ob,es,ab,_⟩:=id da
  obtain⟨k1,k2⟩:=y2.keys (Y.mono (zE j (.frz ob (.dK vs))))
  have R:=O.frzA (ho:=.frz ob (.dK vs)) hi rfl h1 j Z (d:=.dK (ds.map bA) (ds.map dG)) (by simp only[Is];exact⟨a,vs,ob,rfl,zj,k1,k2⟩)
  exact h pins s σ _ E (I.write (x:=a) (e:=a) (o:=.frz ob (.dK vs)) (h':=s.heap) (t':=s.toks) (by rw[h2];exact True.intro) (.inl rfl) (λ_ _ _ q=>q) ⟨ob,ab⟩ ⟨ab,z,aa,ws,ac,dd⟩) ⟨F0,H0,_,_,o,R,U,q.mono (zE j _)⟩
 ·rename_i ds hi
  obtain⟨o',h1,a,vs,rfl,h2,Y,j,Z⟩:=O.val i _ hi
  obtain⟨k1,k2⟩:=y2.keys (Y.mono (zE j (.dT vs)))
  have R:=O.frzA (ho:=.dT vs) hi rfl h1 j Z (d:=.dT (ds.map bA) (ds.map dG)) (by simp only[Is];exact⟨a,vs,rfl,zj,k1,k2⟩)
  rw[zaN h2]at R
  exact h pins s σ H E I ⟨F0,H0,_,_,o,R,U,q.mono (zE j _)⟩
 ·exact h pins s σ H E I ⟨F0,H0,F,Γ,o,O,U,q⟩
end
section
variable {X:Cx} {a b c e tg iter elt:aF} {f g h:G->Option B} {pos:aK} {es:List aF} {fs:G->Option (List B)} {tf:G->Option Bool}
def zfF(K:aE)(J:It)(F:Hp)(ds:List D):Prop:=∀(i:Nat) j H2,zp F j->zp j H2->
 (∀d,ds[i]?=some d->J.go i H2/\∀x H',J.yld i H2 x H'->∃q,Ext j H2 q H'/\Is K q d x)/\(ds.length<=i->J.stop i H2)
def zgU(K:aE)(J:It)(F H:Hp)(ds:List D):Prop:=∀(i:Nat) j H2,Ext F H j H2->
 (∀d,ds[i]?=some d->J.go i H2/\∀x H',J.yld i H2 x H'->∃q,Ext j H2 q H'/\Is K q d x)/\(ds.length<=i->J.stop i H2)
def dI(K:aE)(f:G->Option (List D)):TI:=λσ H R=>∃F0 H0 F Γ ds,EnvIs K F0 H0 F H σ Γ/\f Γ=some ds/\∀J F' H',Ext F H F' H'->zfF K J F' ds->R J H'
def dIc(K:aE)(f:G->Option (List D)):TI:=λσ H R=>∃F0 H0 F Γ ds,EnvIs K F0 H0 F H σ Γ/\f Γ=some ds/\∀J F' H',Ext F H F' H'->zgU K J F' H' ds->R J H'
def EI(X:Cx)(tg iter:aF)(f:G->Option (List D)):Prop:=PI X tg iter (dI X.K f)
def EC(X:Cx)(tg iter:aF)(f:G->Option (List D)):Prop:=PI X tg iter (dIc X.K f)
theorem vG(h:PI X tg iter t)(w:∀σ H R,t' σ H R->t σ H R):PI X tg iter t':=λpins s σ H R I q=>h pins s σ H R I (w σ H R q)
theorem xq(h:EI X tg iter fl):EC X tg iter fl:=vG h λσ H R ⟨F0,H0,F,Γ,ds,z,e,q⟩=>
 ⟨F0,H0,F,Γ,ds,z,e,λJ O H1 U Y=>q J O H1 U λi Z H2 j=>Y i Z H2 j.ff j.fh⟩
theorem zaO{K:aE}{F:Hp}{a:aB}{vs:List V}{ds:List D}(h:∀H2,zp F H2->SqL K H2 a vs)(inj:True)(r:Are K F ds vs):∀(i:Nat) j H2,zp F j->zp j H2->
  (∀d,ds[i]?=some d->(Itl K a).go i H2/\∀x H',(Itl K a).yld i H2 x H'->∃z,Ext j H2 z H'/\Is K z d x)/\(ds.length<=i->(Itl K a).stop i H2):=λi j H2 s1 s2=>by
 have q:=h H2 (s1.trans s2)
 refine⟨λd O=>?_,λR=>⟨vs,q,by rw[r.length];exact R⟩⟩
 obtain⟨v,J,hi⟩:=r.get O
 refine⟨⟨vs,v,q,J⟩,λx H' y=>?_⟩
 obtain⟨rfl,y⟩:=y
 have:=y vs q
 rw[J]at this;cases this
 exact⟨j,.refl s2,hi.mono s1⟩
theorem zfG{K:aE}{F:Hp}{a:aB}{vs:List V}{ds:List D}(h:∀H2,zp F H2->SqT K H2 a vs)(r:Are K F ds vs):∀(i:Nat) j H2,zp F j->zp j H2->
  (∀d,ds[i]?=some d->(Itt K a).go i H2/\∀x H',(Itt K a).yld i H2 x H'->∃z,Ext j H2 z H'/\Is K z d x)/\(ds.length<=i->(Itt K a).stop i H2):=λi j H2 s1 s2=>by
 have q:=h H2 (s1.trans s2)
 refine⟨λd O=>?_,λR=>⟨vs,q,by rw[r.length];exact R⟩⟩
 obtain⟨v,J,hi⟩:=r.get O
 refine⟨⟨vs,v,q,J⟩,λx H' y=>?_⟩
 obtain⟨rfl,y⟩:=y
 have:=y vs q
 rw[J]at this;cases this
 exact⟨j,.refl s2,hi.mono s1⟩
def B.fix:B->Option (List D)
 | .d (.tup ds)=>some ds
 | .d (.lst ds)=>some ds
 | .d (.scr ns)=>some (ns.map D.int)
 | _=>none
def zY(f:G->Option B):G->Option (List D):=λΓ=>(f Γ).bind B.fix
theorem yU(Y:EE X iter f):EI X tg iter (zY f):=vG (zfw Y) λσ H R z=>by
 obtain⟨F0,H0,F,Γ,ds,Z,e,q⟩:=z
 obtain⟨b,hb,e⟩:=bind_some e
 refine⟨F0,H0,F,Γ,b,Z,hb,λv U H1 J r1=>?_⟩
 cases b with
 | d d=>
  have O:Is X.K U d v:=r1
  cases d with
  | tup xs=>
   cases e
   simp only[Is]at O
   obtain⟨a,vs,rfl,j,r⟩:=O
   exact⟨a,rfl,.inr ⟨⟨vs,SqT.of (J.fh _ _ j)⟩,q _ U H1 J (zfG (λH2 s=>SqT.of (s _ _ j)) r)⟩⟩
  | lst xs=>
   cases e
   simp only[Is]at O
   obtain⟨a,vs,rfl,j,r⟩:=O
   exact⟨a,rfl,.inl ⟨⟨vs,SqL.of (J.fh _ _ j)⟩,q _ U H1 J (zaO (λH2 s=>SqL.of (s _ _ j)) trivial r)⟩⟩
  | scr ns=>
   cases e
   simp only[Is]at O
   obtain⟨a,rfl,j⟩:=O
   exact⟨a,rfl,.inl ⟨⟨_,J.fh.seq j⟩,q _ U H1 J (zaO (λH2 s=>s.seq j) trivial (YJ ns))⟩⟩
  | _=>cases e
 | _=>cases e
def zW(lo:Int)(n:Nat):List D:=(aG n).map λ(k:Nat)=>D.int (lo+(k:Int))
theorem zfH{K:aE}{F:Hp}(lo:Int)(n:Nat):zfF K (Itr lo n) F (zW lo n):=λi J H2 s1 s2=>by
 refine⟨λd z=>?_,λO=>by
  have j:=O
  simp only[zW,aM,cY]at j
  exact j⟩
 have q:i<n:=by
  have:=(aY.mp z).1
  simpa[zW]using this
 refine⟨q,λx H' y=>?_⟩
 obtain⟨rfl,rfl⟩:=y
 refine⟨J,.refl s2,?_⟩
 have:d=.int (lo+i):=by
  simp[zW,bG,fU q]at z
  exact z.symm
 subst this
 exact xB
def xR1(fs:G->Option (List B)):G->Option (List D):=λΓ=>(fs Γ).bind λbs=>match bs with
 | [b]=>b.int.bind λj=>if-(2^62)<=j/\j<2^62 then some (zW 0 j.toNat)else none
 | _=>none
theorem xx(O:Gl X "range")(U:X.mg "range"=none)(Y:EA X [a] fs)(Z:aX [a] X.env=[(false,aQ a X.env)]:=by rfl):EI X tg (.Call (.Name "range" p) [a] [] pos) (xR1 fs) :=
 vG (WU O U Y Z) λσ H R z=>by
  obtain⟨F0,H0,F,Γ,ds,En,e,q⟩:=z
  obtain⟨bs,hb,e⟩:=bind_some e
  refine⟨F0,H0,F,Γ,bs,En,hb,λvs F1 H1 e1 r1=>?_⟩
  match bs,e,r1 with
  | [b],e,r1=>
   obtain⟨v,rfl,hv⟩:=x9 r1
   obtain⟨j,hj,e⟩:=bind_some e
   have:=wI hj hv
   subst this
   by_cases J:-(2^62)<=j/\j<2^62
   ·rw[if_pos J]at e;cases e
    exact⟨j,rfl,J.1,J.2,q _ F1 H1 e1 (zfH 0 _)⟩
   ·rw[if_neg J]at e;cases e
def xr(t:D->G->Option G)(fb:G->Option Out):List D->G->Option Out
 | [],Γ=>some (.nx Γ)
 | d::r,Γ=>(t d Γ).bind λΓ1=>(fb Γ1).bind λo=>match o with
  | .nx j=>xr t fb r j
  | .ct j=>xr t fb r j
  | .bk j=>some (.nx j)
  | .rt d=>some (.rt d)
def xE(j:G->Option (List D))(t:D->G->Option G)(fb:G->Option Out):G->Option Out:=λΓ=>(j Γ).bind λds=>xr t fb ds Γ
theorem xy{is:List Nat}{it:G->Option (List D)}{t:D->G->Option G}{fb:G->Option Out}{body:List aS}(hp:iY (aI X.prog X.w) X.A X.env X.xe)(hc:X.calm=true)(hi:EI X tg iter it)(hg:GN X tg is t)(hb:SDs X body fb) 
  (hs:∀x,fN iter X.env x=pure x:=by intro _;rfl):SD X (.For tg iter body [] pos) (xE it t fb):=ym (vi hp hc hi hg hb hs) λE σ H ⟨F0,H0,F,Γ,o,En,e,q⟩=>by
 obtain⟨ds,hd,e⟩:=bind_some e
 refine⟨F0,H0,F,Γ,ds,En,hd,λJ F1 H1 e1 itr=>?_⟩
 refine⟨λi m σ H=>m=ds.length-i/\i<=ds.length/\∃F2 Γ2,EnvIs X.K F0 H0 F2 H σ Γ2/\zp F1 F2/\xr t fb (ds.drop i) Γ2=some o,⟨ds.length,by simp,cR _,F1,Γ,En.grow e1,zp.refl _,by simpa using e⟩,?_⟩
 rintro i m σ2 H2 ⟨rfl,hi,F2,Γ2,E2,s2,e2⟩
 obtain⟨go,stop⟩:=itr i F2 H2 s2 E2.fh
 by_cases hlt:i<ds.length
 ·obtain⟨g1,g2⟩:=go ds[i] (by simp[hlt])
  rw[kz hlt]at e2
  obtain⟨Γ3,h3,e2⟩:=bind_some e2
  obtain⟨o1,h4,e2⟩:=bind_some e2
  refine .inr ⟨g1,λσ' H'=>∃F3 Γ3,EnvIs X.K F0 H0 F3 H' σ' Γ3/\zp F1 F3/\xr t fb (ds.drop (i+1)) Γ3=some o,λσ' H' hh48'=>(by obtain⟨F3,Γ3,p1,p2,p3⟩:=hh48';exact⟨ds.length-(i+1),by omega,rfl,hlt,F3,Γ3,p1,p2,p3⟩),λx H' y=>?_⟩
  obtain⟨F3,ex,hx⟩:=g2 x H' y
  refine⟨F0,H0,F3,Γ2,ds[i],Γ3,E2.grow ex,hx,h3,λσ3 E3 _=>⟨F0,H0,F3,Γ3,o1,E3,h4,?_⟩⟩
  have s3:=s2.trans ex.ff
  cases o1 with
  | nx g=>exact λσ4 F4 H4 E4 z=>⟨F4,g,E4,s3.trans z,e2⟩
  | ct g=>exact λσ4 F4 H4 E4 z=>⟨F4,g,E4,s3.trans z,e2⟩
  | bk g=>cases e2;exact λσ4 F4 H4 E4 z=>q σ4 F4 H4 E4 ((e1.ff.trans s3).trans z)
  | rt d=>cases e2;exact q
 ·have:i=ds.length:=by omega
  subst this
  rw[kA]at e2
  cases e2
  exact .inl ⟨stop (aP _),q σ2 F2 H2 E2 (e1.ff.trans s2)⟩
def yB(t:G->Option Bool)(fb:G->Option Out):Nat->G->Option Out
 | 0,_=>none
 | n+1,Γ=>(t Γ).bind λx=>if x=true then(fb Γ).bind λo=>match o with
  | .nx j=>yB t fb n j
  | .ct j=>yB t fb n j
  | .bk j=>some (.nx j)
  | .rt d=>some (.rt d)else some (.nx Γ)
theorem Z6(hp:iY (aI X.prog X.w) X.A X.env X.xe)(hc:ET X c tf)(hb:SDs X O fb):SD X (.While c O [] pos) (yB tf fb n):=ym (VQ hp hc hb) λE σ H J=>by
 obtain⟨F0,H0,F,Γ,o,En,e,q⟩:=J
 refine⟨λm σ H=>∃F2 R,EnvIs X.K F0 H0 F2 H σ R/\zp F F2/\yB tf fb m R=some o,⟨n,F,Γ,En,zp.refl _,e⟩,?_⟩
 rintro m σ2 H2 ⟨F2,R,E2,s2,j⟩
 cases m with
 | zero=>cases j
 | succ m=>
  obtain⟨x,hx,j⟩:=bind_some j
  refine⟨F0,H0,F2,R,x,E2,hx,λU H3 e3=>?_⟩
  cases x with
  | false=>cases j;exact q σ2 U H3 (E2.grow e3) (s2.trans e3.ff)
  | true=>
   obtain⟨o1,h4,j⟩:=bind_some j
   refine⟨λσ' H'=>∃U Γ3,EnvIs X.K F0 H0 U H' σ' Γ3/\zp F U/\yB tf fb m Γ3=some o,λσ' H' z=>⟨m,gE _,z⟩,F0,H0,U,R,o1,E2.grow e3,h4,?_⟩
   have s3:=s2.trans e3.ff
   cases o1 with
   | nx g=>exact λσ4 Y H4 Z z=>⟨Y,g,Z,s3.trans z,j⟩
   | ct g=>exact λσ4 Y H4 Z z=>⟨Y,g,Z,s3.trans z,j⟩
   | bk g=>cases j;exact λσ4 Y H4 Z z=>q σ4 Y H4 Z (s3.trans z)
   | rt d=>cases j;exact q
def EF(X:Cx)(j:List aF)(f:G->Option Bool):Prop:=PF X j (dT X.K f)
def zK:G->Option Bool:=λ_=>some true
theorem xu:EF X [] zK:=λpins s σ H Q I j=>by obtain⟨F0,H0,F,Γ,b,z,e,q⟩:=j;exact VW pins s σ H Q I (by cases e;exact q F H (.refl z.fh))
theorem Xn(h:ET X c tf):EF X [c] tf:=zfv h
def yp(ms:List (Option Nat))(Γ:G):G:=ms.map λm=>match m with
 | none=>S.un
 | some j=>(Γ[j]?).getD S.un
theorem YN{ms:List (Option Nat)}{Γ:G}{i:Nat}{s:S}(h:(yp ms Γ)[i]?=some s):s=S.un\/∃j,ms[i]?=some (some j)/\Γ[j]?=some s:=by
 unfold yp at h
 rw[bG]at h
 cases e:ms[i]? with
 | none=>rw[e]at h;cases h
 | some m=>
  rw[e]at h
  cases m with
  | none=>cases h;exact .inl rfl
  | some j=>
   simp only[cP,lJ]at h
   cases q:Γ[j]? with
   | none=>rw[q]at h;exact .inl h.symm
   | some z=>rw[q]at h;simp at h;subst h;exact .inr ⟨j,rfl,q⟩
theorem EnvIs.blk{K:aE}{F0 H0 F H:Hp}{σ:St}{Γ:G}{ms:List (Option Nat)}(E:EnvIs K F0 H0 F H σ Γ)(nd:∀(i k j:Nat),ms[i]?=some (some j)->ms[k]?=some (some j)->i=k):EnvIs K F0 H0 F H (L2.blk ms σ) (yp ms Γ):=by
 have get:∀(i j:Nat),ms[i]?=some (some j)->(L2.blk ms σ)[i]?=some ((σ[j]?).join):=λi j e=>by
  unfold L2.blk
  rw[bG,e]
  rfl
 refine⟨E.ext,by simp[L2.blk,yp],λi s e=>?_,λi k s t a hik e1 e2 o1 o2 r1 r2=>?_⟩
 ·have hlt:i<ms.length:=by
   have:=(aY.mp e).1
   simpa[yp]using this
  rcases YN e with rfl|⟨j,h1,h2⟩
  ·refine⟨((L2.blk ms σ)[i]?).join,?_,trivial⟩
   have:i<(L2.blk ms σ).length:=by simpa[L2.blk]using hlt
   rw[bH this];rfl
  ·obtain⟨o,h3,h4⟩:=E.val j s h2
   refine⟨o,?_,h4⟩
   rw[get i j h1,h3];rfl
 ·rcases YN e1 with rfl|⟨j,h1,h2⟩
  ·cases o1
  ·rcases YN e2 with rfl|⟨j',h1',h2'⟩
   ·cases o2
   ·have hjj:j≠j':=λz=>hik (nd i k j h1 (z▸h1'))
    have q1:σ[j]?=some (some (.ref a)):=by
     rw[get i j h1]at r1
     cases z:σ[j]? with
     | none=>rw[z]at r1;cases r1
     | some u=>rw[z]at r1;simp at r1;rw[r1]
    have q2:σ[j']?=some (some (.ref a)):=by
     rw[get k j' h1']at r2
     cases z:σ[j']? with
     | none=>rw[z]at r2;cases r2
     | some u=>rw[z]at r2;simp at r2;rw[r2]
    exact E.sep j j' s t a hjj h2 h2' o1 o2 q1 q2
def vA(t:D->G->Option G)(cond:G->Option Bool)(el:G->Option B)(Γ:G):List D->Option (List D)
 | []=>some []
 | d::r=>(t d Γ).bind λΓ1=>(cond Γ1).bind λb=>if b=true then(el Γ1).bind λy=>y.asD.bind λz=>(vA t cond el Γ r).map λzs=>z::zs else vA t cond el Γ r
def zO(j:G->Option (List D))(ms:List (Option Nat))(t:D->G->Option G)(cond:G->Option Bool)(el:G->Option B):G->Option (List D):=λΓ=>(j Γ).bind λds=>if ds.length<=aH then vA t cond el (yp ms Γ) ds else none
structure Blk (X:Cx) (scope:bU) (N:List aC) (tg:aF) (ifs:List aF) (elt:aF) (is:List Nat) (t:D->G->Option G) (cond:G->Option Bool) (el:G->Option B):Prop where
 go:∀cl C s H ex,GN (yh X scope cl C N s H ex) tg is t/\EF (yh X scope cl C N s H ex) ifs cond/\EE (yh X scope cl C N s H ex) elt el
theorem Wd{U:G->Option (List D)}{ms:List (Option Nat)}{is:List Nat}{t:D->G->Option G}{cond:G->Option Bool}{el:G->Option B}{K:aE}{σ:St}{H:Hp}{Q:VK} 
  (nd:∀(i k j:Nat),ms[i]?=some (some j)->ms[k]?=some (some j)->i=k) (fr:∀j∈is,∀k,ms[j]?≠some (some k)):dL K (zO U ms t cond el) σ H Q->Jj (dIc K U) (dGs K is t) (dT K cond) (dE K el) ms σ H Q:=λ⟨F0,H0,F,Γ,ys,En,e,q⟩=>by
 obtain⟨ds,hd,e⟩:=bind_some e
 by_cases hz:ds.length<=aH
 ·rw[if_pos hz]at e
  refine⟨F0,H0,F,Γ,ds,En,hd,λJ F1 H1 e1 ac=>?_⟩
  refine⟨λi m vs H2=>m=ds.length-i/\i<=ds.length/\vs.length<=i/\∃Y Z rest,Ext F1 H1 Y H2/\Are K Y Z vs/\vA t cond el (yp ms Γ) (ds.drop i)=some rest/\ys=Z++rest,⟨ds.length,by simp,cR _,aP _,F1,[],ys,.refl e1.fh,.nil,by simpa using e,rfl⟩,?_⟩
  rintro i m vs H2 ⟨rfl,hi,ae,Y,Z,rest,R,r2,h2,rfl⟩
  obtain⟨go,aa⟩:=ac i Y H2 R
  refine⟨bL ae (bL hi hz),?_⟩
  by_cases O:i<ds.length
  ·obtain⟨g1,g2⟩:=go ds[i] (by simp[O])
   rw[kz O]at h2
   obtain⟨Γ3,h3,h2⟩:=bind_some h2
   obtain⟨b,h4,h2⟩:=bind_some h2
   refine .inr ⟨g1,λx H' y=>?_⟩
   obtain⟨F3,ex,hx⟩:=g2 x H' y
   have E3:EnvIs K F0 H0 F3 H' (L2.blk ms σ) (yp ms Γ):=(((En.grow e1).grow R).grow ex).blk nd
   refine⟨F0,H0,F3,yp ms Γ,ds[i],Γ3,E3,hx,h3,λσ4 E4 bs=>⟨⟨bs.1,λj v hj=>?_⟩,F0,H0,F3,Γ3,b,E4,h4,λF5 H5 e5=>?_⟩⟩
   ·rw[bs.2 j λhm=>?_]
    ·exact hj
    ·obtain⟨k,hk,_⟩:=Qu hj
     exact fr j hm k hk
   ·have ab:=(R.trans ex).trans e5
    cases b with
    | false=>exact⟨ds.length-(i+1),by omega,rfl,O,by omega,F5,Z,rest,ab,r2.mono (ex.ff.trans e5.ff),h2,rfl⟩
    | true=>
     obtain⟨yb,h6,h2⟩:=bind_some h2
     obtain⟨z,h7,h2⟩:=bind_some h2
     obtain⟨zs,h8,rfl⟩:=map_some h2
     have:=yy h7;subst this
     refine⟨F0,H0,F5,Γ3,_,E4.grow e5,h6,λv F6 H6 e6 r6=>⟨by omega,ds.length-(i+1),by omega,rfl,O,by rw[bQ,dP];omega,F6,Z++[z],zs,ab.trans e6,?_,h8,by rw[mm];rfl⟩⟩
     exact(r2.mono ((ex.ff.trans e5.ff).trans e6.ff)).append (.cons r6 .nil)
  ·have:i=ds.length:=by omega
   subst this
   rw[kA]at h2
   cases h2
   refine .inl ⟨aa (aP _),λp hp=>q p vs Y _ ((e1.trans R).trans (.own R.fh hp _)) ((e1.hh.trans R.hh).free hp) (R.fh.free hp) zj ?_⟩
   rw[gF];exact r2
 ·rw[if_neg hz]at e;cases e
theorem yK{ifs:List aF}{scope:bU}{N:List aC}{src:G->Option (List D)}{ms:List (Option Nat)}{is:List Nat}{t:D->G->Option G}{cond:G->Option Bool}{el:G->Option B} 
 (hc:X.calm=true) (ok:CompOk X.env.scope X.N scope N ms) (hi:EC X tg iter src) (hb:Blk X scope N tg ifs elt is t cond el) (nd:∀(i k j:Nat),ms[i]?=some (some j)->ms[k]?=some (some j)->i=k) (fr:∀j∈is,∀k,ms[j]?≠some (some k))
 (hs:∀x,fN iter X.env x=pure x:=by intro _;rfl):EL X (.ListComp elt [⟨tg,iter,ifs,0⟩] scope pos) (zO src ms t cond el):=yl (zeg (g:=dGs X.K is t) (tf:=dT X.K cond) (te:=dE X.K el) hc ok hi hb.go hs) λσ H Q q=>Wd nd fr q
theorem zfI{ifs:List aF}{scope:bU}{N:List aC}{src:G->Option (List D)}{ms:List (Option Nat)}{is:List Nat}{t:D->G->Option G}{cond:G->Option Bool}{el:G->Option B}{i:Nat}{y:aC}{py spos:aK} 
  (hc:X.calm=true) (ok:CompOk X.env.scope X.N scope N ms) (hi:EC X tg iter src) (hb:Blk X scope N tg ifs elt is t cond el) (nd:∀(i k j:Nat),ms[i]?=some (some j)->ms[k]?=some (some j)->i=k) (fr:∀j∈is,∀k,ms[j]?≠some (some k))
  (hN:X.N.Nodup) (hy:X.N[i]?=some y) (hx:Loc X.env.scope y) (hsw:cO (.ListComp elt [⟨tg,iter,ifs,0⟩] scope pos) (some (.Name y py)) spos.line X.env=pure true)
  (hf:X.fn y=true\/X.env.scope.names.lookup y=some .local:=by first|exact .inl rfl|exact .inr rfl|assumption)
  (hs:∀x,fN iter X.env x=pure x:=by intro _;rfl):SD X (.Assign [.Name y py] (.ListComp elt [⟨tg,iter,ifs,0⟩] scope pos) spos) (wL i (zO src ms t cond el)) :=
 ym (ZY (g:=dGs X.K is t) (tf:=dT X.K cond) (te:=dE X.K el) hc ok hi hb.go hN hy hx hsw hf hs) λE σ H q=>by
  have q':=QE (X:=X) q
  exact Wd nd fr q'
end
end DD
namespace DD
open PySem PySem.Spec L2
open PyProof.Rows hiding St
open PySem.SeqAt (shaped compareEq_shaped compareNe_shaped canLay_of_shaped room_of_shaped eqAt_reads)
section
variable {X:Cx} {pins:List (aB×aL)} {σ:St} {F H:Hp} {s:aD}
def zb7:aC:=⟨#[2000000]⟩
theorem QF:PyData.strOk zb7=false:=by decide+kernel
mutual
def toP:D->fH
 | .non=>.none
 | .bl b=>.bool b
 | .int i=>.int i
 | .str x=>.str x
 | .scr ns=>.list (ns.map PyData.int)
 | .tup xs=>.tuple (toPs xs)
 | .lst xs=>.list (toPs xs)
 | .dK _ _=>.str zb7
 | .dT _ _=>.str zb7
def toPs:List D->List fH
 | []=>[]
 | x::xs=>toP x::toPs xs
end
theorem YO:∀xs:List D,toPs xs=xs.map toP
 | []=>rfl
 | x::xs=>by rw[toPs,YO xs,aR]
theorem Xo{h:aN}:∀{ns:List Int} {us:List aA},zC (ns.map V.int) us->∃as,ju h us (ns.map PyData.int) as
 | [],_,.nil=>⟨_,.nil⟩
 | n::r,_,.cons ⟨t,e⟩ q=>by
  subst e
  obtain⟨as,j⟩:=Xo q
  exact⟨_,.cons (.int n t) j⟩
mutual
theorem QG(I:Inv X pins σ H s)(j:zp F H):∀(d:D) {v:V} {u:aA},Is X.K F d v->zz v u->(toP d).canLay0=true->∃as,hV s.heap u (toP d) as
 | .non,_,_,h,r,_=>by simp only[Is]at h;subst h;cases r;exact⟨_,.none⟩
 | .bl b,_,_,h,r,_=>by simp only[Is]at h;subst h;cases r;exact⟨_,.bool b⟩
 | .int i,_,_,h,r,_=>by simp only[Is]at h;subst h;obtain⟨t,rfl⟩:=r;exact⟨_,.int i t⟩
 | .str i,_,_,h,r,_=>by simp only[Is]at h;subst h;obtain⟨t,rfl⟩:=r;exact⟨_,.str i t⟩
 | .scr ns,_,_,h,r,_=>by
  simp only[Is]at h
  obtain⟨a,rfl,Y⟩:=h
  cases r
  obtain⟨its,q,⟨o,n,e,z,_,J⟩,_⟩:=I.list (j.seq Y)
  obtain⟨as,O⟩:=Xo (h:=s.heap) q
  exact⟨_,.list e z J (by simpa using O)⟩
 | .tup ds,_,_,h,r,c=>by
  simp only[Is]at h
  obtain⟨a,vs,rfl,R,U⟩:=h
  cases r
  obtain⟨its,q,⟨o,e,z,n,J⟩,_⟩:=I.tuple (SqT.of (K:=X.K) (j _ _ R))
  obtain⟨as,O⟩:=reads_Ds I j ds U q (by simpa[toP,eF]using c)
  exact⟨_,.tuple e z J (by simpa using O)⟩
 | .dK _ _,_,_,_,_,c=>by rw[toP,eF,QF]at c;cases c
 | .dT _ _,_,_,_,_,c=>by rw[toP,eF,QF]at c;cases c
 | .lst ds,_,_,h,r,c=>by
  simp only[Is]at h
  obtain⟨a,vs,rfl,R,U⟩:=h
  cases r
  obtain⟨its,q,⟨o,n,e,z,_,J⟩,_⟩:=I.list (SqL.of (K:=X.K) (j _ _ R))
  obtain⟨as,O⟩:=reads_Ds I j ds U q (by simpa[toP,eF]using c)
  exact⟨_,.list e z J (by simpa using O)⟩
theorem reads_Ds(I:Inv X pins σ H s)(j:zp F H):∀(ds:List D) {vs:List V} {us:List aA},Are X.K F ds vs->zC vs us->fI (toPs ds)=true->∃as,ju s.heap us (toPs ds) as
 | [],_,_,h,r,_=>by rw[h.inv0]at r;cases r;exact⟨_,.nil⟩
 | d::ds,_,_,h,r,c=>by
  have q:(toP d).canLay0=true/\fI (toPs ds)=true:=by simpa[toPs,fI]using c
  obtain⟨v,vs,rfl,h1,h2⟩:=h.inv
  cases r with
  | cons r1 r2=>
   obtain⟨as,z⟩:=QG I j d h1 r1 q.1
   obtain⟨bs,J⟩:=reads_Ds I j ds h2 r2 q.2
   exact⟨_,.cons z J⟩
end
def Zv:B->Option fH
 | .d d=>some (toP d)
 | .l ds=>some (.list (toPs ds))
 | .c ds=>some (.tuple (toPs ds))
 | _=>none
theorem vH(I:Inv X pins σ H s)(j:zp F H)(e:Zv b=some p)(h:BIs X.K F H b v)(r:zz v u)(c:p.canLay0=true):∃as,hV s.heap u p as:=by
 cases b with
 | d d=>cases e;exact QG I j d h r c
 | l ds=>
  cases e
  obtain⟨a,vs,rfl,q,z⟩:=h
  cases r
  obtain⟨its,J,⟨o,n,e,O,_,R⟩,_⟩:=I.list (SqL.of (K:=X.K) q)
  obtain⟨as,U⟩:=reads_Ds I j ds z J (by simpa[eF]using c)
  exact⟨_,.list e O R (by simpa using U)⟩
 | c ds=>
  cases e
  obtain⟨a,vs,rfl,q,z⟩:=h
  cases r
  obtain⟨its,J,⟨o,e,O,n,R⟩,_⟩:=I.tuple q
  obtain⟨as,U⟩:=reads_Ds I j ds z J (by simpa[eF]using c)
  exact⟨_,.tuple e O R (by simpa using U)⟩
 | _=>cases e
theorem V4:∀{ps:List fH},(∀p∈ps,cH p=true)->fI ps=true
 | [],_=>rfl
 | p::r,h=>by
  have h1:=eQ (h p bE)
  have h2:=V4 λq j=>h q (bC _ j)
  simp[fI,h1,h2]
def RP(K:aE)(H:Hp)(v:V)(p:fH):Prop:=∃F b,zp F H/\Zv b=some p/\BIs K F H b v
def zb8(K:aE)(j:Bool):R2:=λx y H Q=>∃p q,RP K H x p/\RP K H y q/\cH p=true/\cH q=true/\Q (.bl (if j then !PyData.eqv p q else bR p q)) H
theorem wM(J:X.A.units+64<bV):OpR X (cK .Eq) (zb8 X.K false):=by
 rintro pins s σ H x y v u Q I O R ⟨p,q,⟨F,b,U,e,h⟩,⟨F',b',j,Y,h'⟩,sp,z,Z⟩
 obtain⟨as,ra⟩:=vH I U e h O (eQ sp)
 obtain⟨bs,rb⟩:=vH I j Y h' R (eQ z)
 exact compareEq_shaped ra rb sp z J ⟨.bl _,H,I,rfl,Z⟩
theorem V5(J:X.A.units+64<bV):OpR X (cK .NotEq) (zb8 X.K true):=by
 rintro pins s σ H x y v u Q I O R ⟨p,q,⟨F,b,U,e,h⟩,⟨F',b',j,Y,h'⟩,sp,z,Z⟩
 obtain⟨as,ra⟩:=vH I U e h O (eQ sp)
 obtain⟨bs,rb⟩:=vH I j Y h' R (eQ z)
 exact compareNe_shaped ra rb sp z J ⟨.bl _,H,I,rfl,Z⟩
def mEq(j:Bool):B->B->Option D:=λx y=>(Zv x).bind λp=>(Zv y).bind λq=>if cH p=true/\cH q=true then some (.bl (if j then !PyData.eqv p q else bR p q))else none
theorem wm{K:aE}{j:Bool}:OpB K (zb8 K j) (mEq j):=λF H x y v u d Q J U Y e q=>by
 obtain⟨p,Z,e⟩:=bind_some e
 obtain⟨R,O,e⟩:=bind_some e
 by_cases z:cH p=true/\cH R=true
 ·rw[if_pos z]at e;cases e
  exact⟨p,R,⟨F,x,J,Z,U⟩,⟨F,y,J,O,Y⟩,z.1,z.2,q _ F H (.refl J) wJ⟩
 ·rw[if_neg z]at e;cases e
open Classical in
noncomputable def eqR (h:aN) (q:fH) (u:aA):Bool:=if z:∃p,(∃as,hV h u p as)/\p.canLay0=true then bR z.choose q else false
theorem zaP(r:hV h u p as)(c:p.canLay0=true):eqR h q u=bR p q:=by
 have z:∃p,(∃as,hV h u p as)/\p.canLay0=true:=⟨p,⟨as,r⟩,c⟩
 unfold eqR
 rw[dif_pos z]
 obtain⟨⟨bs,r2⟩,j⟩:=z.choose_spec
 rw[nM _ _ _ _ _ j r2 r]
theorem Z7:∀{ps:List fH} {us:List aA} {as:List aB},ju h us ps as->(∀p∈ps,cH p=true)->us.any (eqR h q)=ps.any λp=>bR p q:=λ{ps}=>by
 induction ps with
 | nil=>intro us as r _;cases r;rfl
 | cons p ps j=>
  intro us as r c
  cases r with
  | cons r t=>rw[fF,fF,zaP r (eQ (c p bE)),j t λz J=>c z (bC _ J)]
theorem Xp(z:hV s.heap v q bs)(J:cH q=true)(O:A.units+64<bV):∀{ps:List fH} {us:List aA} {as:List aB},ju s.heap us ps as->(∀p∈ps,cH p=true)->∀u∈us,SeqAt.EqAt A s u v (eqR s.heap q u):=λ{ps}=>by
 induction ps with
 | nil=>intro us as r _ u j;cases r;exact nomatch j
 | cons p ps R=>
  intro us as r c u j
  cases r with
  | cons r t=>
   rcases aW.mp j with rfl|j
   ·have sp:=c p bE
    rw[zaP r (eQ sp)]
    exact eqAt_reads _ _ _ _ _ _ _ _ r z (eQ sp) (eQ J) (room_of_shaped sp O)
   ·exact R t (λU Y=>c U (bC _ Y)) u j
def RPs(K:aE)(H:Hp)(a:aB)(ps:List fH):Prop:=∃F ds vs,zp F H/\(SqL K H a vs\/SqT K H a vs)/\Are K F ds vs/\ps=toPs ds
def zb9(K:aE)(j:Bool):R2:=λx y H Q=>∃q a ps,RP K H x q/\y=.ref a/\RPs K H a ps/\cH q=true/\(∀p∈ps,cH p=true)/\Q (.bl (if j then !ps.any (λp=>bR p q)else ps.any λp=>bR p q)) H
theorem V6(hu:X.A.units+128<bV):OpR X (cK .In) (zb9 X.K false):=by
 rintro pins s σ H x y v u Q I rx ry ⟨q,a,ps,⟨F,b,sm,e,h⟩,ey,⟨F',ds,vs,sm',hs,ra,eps⟩,sq,sp,hq⟩
 subst ey
 subst eps
 cases ry
 have hu1:X.A.in1.units+64<bV:=by show X.A.units+1+64<bV;omega
 obtain⟨bs,rb⟩:=vH I sm e h rx (eQ sq)
 rcases hs with hs|hs
 ·obtain⟨its,rv,pl,hz⟩:=I.list hs
  obtain⟨as,rs⟩:=reads_Ds I sm' ds ra rv (V4 sp)
  refine SeqAt.in_listAt (eqR s.heap q) pl.isList (λw hw=>Xp rb sq hu1 rs sp w (by simpa using hw)) ⟨.bl _,H,I,rfl,?_⟩
  rw[show its.toArray.any (eqR s.heap q)=its.any (eqR s.heap q) by simp,Z7 rs sp]
  exact hq
 ·obtain⟨its,rv,pl,hz⟩:=I.tuple hs
  obtain⟨as,rs⟩:=reads_Ds I sm' ds ra rv (V4 sp)
  refine SeqAt.in_tupleAt (eqR s.heap q) pl (λw hw=>Xp rb sq hu1 rs sp w (by simpa using hw)) ⟨.bl _,H,I,rfl,?_⟩
  rw[show its.toArray.any (eqR s.heap q)=its.any (eqR s.heap q) by simp,Z7 rs sp]
  exact hq
theorem zem(hu:X.A.units+128<bV):OpR X (cK .NotIn) (zb9 X.K true):=by
 rintro pins s σ H x y v u Q I rx ry ⟨q,a,ps,⟨F,b,sm,e,h⟩,ey,⟨F',ds,vs,sm',hs,ra,eps⟩,sq,sp,hq⟩
 subst ey
 subst eps
 cases ry
 have hu1:X.A.in1.units+64<bV:=by show X.A.units+1+64<bV;omega
 obtain⟨bs,rb⟩:=vH I sm e h rx (eQ sq)
 rcases hs with hs|hs
 ·obtain⟨its,rv,pl,hz⟩:=I.list hs
  obtain⟨as,rs⟩:=reads_Ds I sm' ds ra rv (V4 sp)
  refine SeqAt.notIn_listAt (eqR s.heap q) pl.isList (λw hw=>Xp rb sq hu1 rs sp w (by simpa using hw)) ⟨.bl _,H,I,rfl,?_⟩
  rw[show its.toArray.any (eqR s.heap q)=its.any (eqR s.heap q) by simp,Z7 rs sp]
  exact hq
 ·obtain⟨its,rv,pl,hz⟩:=I.tuple hs
  obtain⟨as,rs⟩:=reads_Ds I sm' ds ra rv (V4 sp)
  refine SeqAt.notIn_tupleAt (eqR s.heap q) pl (λw hw=>Xp rb sq hu1 rs sp w (by simpa using hw)) ⟨.bl _,H,I,rfl,?_⟩
  rw[show its.toArray.any (eqR s.heap q)=its.any (eqR s.heap q) by simp,Z7 rs sp]
  exact hq
def mIn(j:Bool):B->B->Option D:=λx y=>(Zv x).bind λq=>y.seq.bind λds=>if cH q=true/\(toPs ds).all cH=true then some (.bl (if j then !(toPs ds).any (λp=>bR p q)else(toPs ds).any λp=>bR p q))else none
theorem VD{K:aE}{j:Bool}:OpB K (zb9 K j) (mIn j):=λF H x y v u d Q z R U e q=>by
 obtain⟨p,O,e⟩:=bind_some e
 obtain⟨ds,Y,e⟩:=bind_some e
 by_cases J:cH p=true/\(toPs ds).all cH=true
 ·rw[if_pos J]at e;cases e
  obtain⟨a,vs,rfl,Z,ra⟩:=V0 z Y U
  exact⟨p,a,toPs ds,⟨F,x,z,O,R⟩,rfl,⟨F,ds,vs,z,Z,ra,rfl⟩,J.1,λp O=>eC.mp J.2 p O,q _ F H (.refl z) wJ⟩
 ·rw[if_neg J]at e;cases e
theorem vf(U:X.calm=true):xc X (.builtin "all") (λxs H Q=>∃p bs,xs=[.ref p]/\SqL X.K H p ((bs:List Bool).map V.bl)/\Q (.bl (bs.all id)) H):=by
 intro pins s σ H xs us Q I r h
 obtain⟨p,bs,rfl,Y,q⟩:=h
 obtain⟨u,rfl,Z⟩:=vd r
 cases Z
 obtain⟨its,O,pl,hz⟩:=I.list Y
 have R:its.length=bs.length:=by rw[<-O.length,aM]
 have get:∀(i:Nat) (b:Bool),bs[i]?=some b->its[i]?=some (.bool b):=λi b e=>by
  obtain⟨u,h1,h2⟩:=O.get (i:=i) (x:=.bl b) (by rw[bG,e];rfl)
  cases h2
  exact h1
 have hp:p<s.heap.objs.size:=by obtain⟨o,n,e,_⟩:=pl;exact aZ e
 refine call_all_walk (ik pl.isList ?_)
 refine⟨s.heap.objs.size,_,_,its.toArray.size,_,_,λi=>bs.getD i true,rfl,mq (A:=X.A.in1) (I.ok.hd U) s.heap.objs.size p (bO hp) its.toArray,⟨⟨_,bW _ rfl,rfl,rfl⟩,pl.isList.push _⟩,λi v s' Q' E' hP hQ=>?_,λh' tk hk=>?_⟩
 ·have j:its[i]?=some v:=by simpa using hP
  have J:i<bs.length:=by rw[<-R];exact(aY.mp j).1
  have:=get i bs[i] (by simp[J])
  rw[j]at this;cases this
  have e:bs.getD i true=bs[i]:=by simp[eR,J]
  refine gA ?_
  rw[<-e];exact hQ
 ·have I':Inv X pins σ H {s with heap:=h',toks:=tk}:=I.kept λb o e=>hk b o (by simpa using bO (aZ e)) (bJ _ e)
  have e:(aG its.toArray.size).all (λi=>bs.getD i true)=bs.all id:=by
   rw[bT,R,gX]
   simp only[eC,bZ,id]
   constructor
   ·intro z b hb
    obtain⟨i,hi,rfl⟩:=dH.mp hb
    have:=z i hi
    simpa[eR,hi]using this
   ·intro z i hi
    have:=z bs[i] (cS hi)
    simpa[eR,hi]using this
  rw[e]
  exact⟨.bl _,H,I',rfl,q⟩
def wN:List D->Option (List Bool)
 | []=>some []
 | .bl b::r=>(wN r).map λbs=>b::bs
 | _::_=>none
theorem W4{K:aE}{F:Hp}:∀{ds:List D} {bs:List Bool} {vs:List V},wN ds=some bs->Are K F ds vs->vs=bs.map V.bl
 | [],_,_,e,h=>by cases e;rw[h.inv0];rfl
 | d::r,_,_,e,h=>by
  obtain⟨v,vs,rfl,h1,h2⟩:=h.inv
  cases d with
  | bl b=>
   obtain⟨bs,j,rfl⟩:=map_some (show(wN r).map _=some _ from e)
   simp only[Is]at h1
   rw[h1,W4 j h2];rfl
  | _=>cases e
def We:List B->Option D
 | [b]=>b.lst.bind λds=>(wN ds).map λbs=>.bl (bs.all id)
 | _=>none
theorem Xq{K:aE}:ve K (λxs H Q=>∃p bs,xs=[.ref p]/\SqL K H p ((bs:List Bool).map V.bl)/\Q (.bl (bs.all id)) H) We:=λF H bs vs d Q z h e q=>by
 match bs,e,h with
 | [b],e,h=>
  obtain⟨v,rfl,J⟩:=x9 h
  obtain⟨ds,O,e⟩:=bind_some e
  obtain⟨bs,j,rfl⟩:=map_some e
  obtain⟨a,ys,rfl,R,r⟩:=vj z O J
  have:=W4 j r
  subst this
  exact⟨a,bs,rfl,SqL.of R,q _ F H (.refl z) wJ⟩
end
end DD
namespace DD
open PySem PySem.Spec L2
open PyProof.Rows hiding St
section
variable {X:Cx} {pins:List (aB×aL)} {σ:St} {F H:Hp} {s:aD} {a b c e tg iter elt:aF} {f g h:G->Option B} {pos:aK} {es:List aF} {fs:G->Option (List B)} {tf:G->Option Bool}
def isi(t c:Ty):Bool:=decide (t=c) || (decide (t=.bl) && decide (c=.int))
theorem zen(K:aE)(t c:Ty):lr K (.type t.name) (.type c.name)=some (isi t c):=by
 cases t <;>cases c <;>rfl
def D.tyOf:D->Option Ty
 | .non=>some .non
 | .bl _=>some .bl
 | .int _=>some .int
 | .str _=>some .str
 | .tup _=>some .tup
 | .lst _=>some .lst
 | .scr _=>none
 | .dK _ _=>none
 | .dT _ _=>none
theorem zeo{K:aE}{d:D}{t:Ty}{v:V}(q:zp F H)(e:d.tyOf=some t)(h:Is K F d v):TyOf K H v (.type t.name):=by
 cases d with
 | non=>cases e;simp only[Is]at h;subst h;exact .non
 | bl b=>cases e;simp only[Is]at h;subst h;exact .bl b
 | int b=>cases e;simp only[Is]at h;subst h;exact .int b
 | str b=>cases e;simp only[Is]at h;subst h;exact .str b
 | scr ns=>cases e
 | dK _ _=>cases e
 | dT _ _=>cases e
 | tup ds=>cases e;simp only[Is]at h;obtain⟨p,vs,rfl,j,_⟩:=h;exact .tup (q _ _ j)
 | lst ds=>cases e;simp only[Is]at h;obtain⟨p,vs,rfl,j,_⟩:=h;exact .lst (q _ _ j)
theorem va:xc X (.builtin "isinstance") (λxs H Q=>∃x t c,xs=[x,.ty (Ty.name c)]/\TyOf X.K H x (.type (Ty.name t))/\Q (.bl (isi t c)) H):=by
 intro pins s σ H xs us Q I r h
 obtain⟨x,t,c,rfl,ty,q⟩:=h
 cases r with
 | cons r1 r2=>
  cases r2 with
  | cons r2 j=>
   cases j
   cases r2
   exact zay I r1 ty (zen _ _ _) λtk=>⟨.bl _,H,I.tok tk,rfl,q⟩
def Zw:List B->Option D
 | [.d x,.ty c]=>x.tyOf.map λt=>.bl (isi t c)
 | [.l _,.ty c]=>some (.bl (isi .lst c))
 | _=>none
theorem uu{K:aE}:ve K (λxs H Q=>∃x t c,xs=[x,.ty (Ty.name c)]/\TyOf K H x (.type (Ty.name t))/\Q (.bl (isi t c)) H) Zw:=λF H bs vs d Q j h e q=>by
 match bs,e,h with
 | [.d x,.ty c],e,h=>
  obtain⟨t,J,rfl⟩:=map_some e
  cases h with
  | cons h1 h2=>
   cases h2 with
   | cons h2 z=>
    cases z
    cases h2
    exact⟨_,t,c,rfl,zeo j J h1,q _ F H (.refl j) wJ⟩
 | [.l ds,.ty c],e,h=>
  cases e
  cases h with
  | cons h1 h2=>
   cases h2 with
   | cons h2 z=>
    cases z
    cases h2
    obtain⟨p,ws,rfl,O,_⟩:=h1
    exact⟨_,.lst,c,rfl,.lst O,q _ F H (.refl j) wJ⟩
def xTy(c:Ty):G->Option B:=λ_=>some (.ty c)
theorem Wf(c:Ty)(j:Gl X x)(J:X.mg x=none)(O:eU x=some (.type c.name))(hn:x≠"__name__":=by decide)(R:(x==("__debug__":aC))=false:=by decide):EE X (.Name x p) (xTy c) :=
 yl (zd3 (v:=.ty c.name) j J O rfl hn R) λσ H Q ⟨F0,H0,F,Γ,z,E,e,q⟩=>by cases e;exact q _ F H (.refl E.fh) rfl
theorem EnvIs.change{K:aE}{F0 H0 F H:Hp}{σ:St}{Γ:G}{i:Nat}{s1 s0:S}{p:aB}{o:HO}(E:EnvIs K F0 H0 F H σ Γ)(hi:Γ[i]?=some s1)(ho:s1.own=true)(hs:σ[i]?=some (some (.ref p)))(h0:H0 p=none)(hf:F p=none) 
  (h:SIs K H0 F (upd H p o) s0 (some (.ref p))):EnvIs K F0 H0 F (upd H p o) σ (Γ.set i s0):=by
 have aa:i<Γ.length:=(aY.mp hi).1
 have Y:∀(j:Nat) s,Γ[j]?=some s->s.own=true->∃q,σ[j]?=some (some (.ref q)):=λj s e Z=>by
  obtain⟨o',h1,h2⟩:=E.val j s e
  cases s with
  | un=>cases Z
  | v d=>cases Z
  | ol ds=>obtain⟨q,_,rfl,_⟩:=h2;exact⟨q,h1⟩
  | ot ds=>obtain⟨q,_,rfl,_⟩:=h2;exact⟨q,h1⟩
  | ok ds=>obtain⟨q,_,rfl,_⟩:=h2;exact⟨q,h1⟩
 refine⟨E.ext.turn h0 hf o,by simpa using E.len,λj s e=>?_,λj k s t b ab e1 e2 o1 o2 r1 r2=>?_⟩
 ·by_cases hj:j=i
  ·subst hj
   rw[dW aa]at e
   cases e
   exact⟨_,hs,h⟩
  ·rw[cW (aT hj)]at e
   obtain⟨o',h1,h2⟩:=E.val j s e
   refine⟨o',h1,?_⟩
   have ne:∀q,s.own=true->σ[j]?=some (some (.ref q))->q≠p:=λq Z sq z=>by
    subst z
    exact E.sep j i s s1 q hj e hi Z ho sq hs
   cases s with
   | un=>trivial
   | v d=>exact h2
   | ol ds=>obtain⟨q,vs,rfl,J,p2,O,R⟩:=h2;exact⟨q,vs,rfl,by rw[ze (ne q rfl h1)];exact J,p2,O,R⟩
   | ot ds=>obtain⟨q,vs,rfl,J,p2,O,R⟩:=h2;exact⟨q,vs,rfl,by rw[ze (ne q rfl h1)];exact J,p2,O,R⟩
   | ok ds=>obtain⟨q,vs,rfl,J,p2,O,R⟩:=h2;exact⟨q,vs,rfl,by rw[ze (ne q rfl h1)];exact J,p2,O,R⟩
 ·have U:∀(k:Nat) (t:S),(Γ.set i s0)[k]?=some t->t.own=true->∃t',Γ[k]?=some t'/\t'.own=true:=λk t e o=>by
   by_cases z:k=i
   ·subst z;exact⟨s1,hi,ho⟩
   ·rw[cW (aT z)]at e;exact⟨t,e,o⟩
  obtain⟨s',ac,ae⟩:=U j s e1 o1
  obtain⟨t',af,ag⟩:=U k t e2 o2
  exact E.sep j k s' t' b ab ac af ae ag r1 r2
def we(Γ:G)(i:Nat):Option (List D):=match Γ[i]? with
 | some (.ol ds)=>some ds
 | _=>none
theorem Zx(e:we Γ i=some ds):Γ[i]?=some (.ol ds):=by
 unfold we at e
 split at e
 ·rename_i q;cases e;exact q
 ·cases e
def ul(i:Nat)(f:G->Option B):G->Option Out:=λΓ=>(we Γ i).bind λds=>(f Γ).bind λb=>b.asD.bind λd=>if ds.length<aH then some (.nx (Γ.set i (.ol (ds++[d]))))else none
theorem uX{i:Nat}{x:aC}{px apos cpos:aK} 
  (hsw:cO (.Call (.Attribute (.Name x px) "append" apos) [e] [] cpos) none pos.line X.env=pure false:=by rfl)
  (h1:PE X (.Call (.Attribute (.Name x px) "append" apos) [e] [] cpos) (tBM X.K "list" Qr (uQ i) (Xf (dE X.K f) X6))) :
  SD X (.Expr (.Call (.Attribute (.Name x px) "append" apos) [e] [] cpos) pos) (ul i f):=ym (xj h1 hsw) λE σ H ⟨F0,H0,F,Γ,o,En,e,q⟩=>by
 obtain⟨ds,hd,e⟩:=bind_some e
 obtain⟨b,hb,e⟩:=bind_some e
 obtain⟨d,hd2,e3⟩:=bind_some e
 have:=yy hd2;subst this
 have hi:=Zx hd
 by_cases hz:ds.length<aH
 ·rw[if_pos hz]at e3;cases e3
  obtain⟨o,h1,p,vs,rfl,h2,h3,h4,h5⟩:=En.val i _ hi
  refine⟨.ref p,h1,.inl ⟨rfl,vs,SqL.of h2⟩,F0,H0,F,Γ,_,En,hb,λv F1 H1 e1 r1=>⟨p,vs,v,rfl,rfl,e1.hh _ _ h2,by rw[h3.length];exact hz,?_⟩⟩
  have hf1:F1 p=none:=e1.freed h4 (by rw[h2];simp)
  refine q σ F1 _ ((En.grow e1).change (s1:=.ol ds) hi rfl h1 h5 hf1 ⟨p,vs++[v],rfl,zj,(h3.mono e1.ff).append (.cons r1 .nil),hf1,h5⟩) e1.ff
 ·rw[if_neg hz]at e3;cases e3
def Js(i:Nat)(f:G->Option B):G->Option Out:=λΓ=>(we Γ i).bind λds=>(f Γ).bind λb=>b.lst.bind λes=>if ds.length+es.length<=aH then some (.nx (Γ.set i (.ol (ds++es))))else none
theorem zgV{i:Nat}{x:aC}{px apos cpos:aK} 
  (hsw:cO (.Call (.Attribute (.Name x px) "extend" apos) [e] [] cpos) none pos.line X.env=pure false:=by rfl)
  (h1:PE X (.Call (.Attribute (.Name x px) "extend" apos) [e] [] cpos) (tBM X.K "list" Qs (uQ i) (Xf (dE X.K f) X6))) :
  SD X (.Expr (.Call (.Attribute (.Name x px) "extend" apos) [e] [] cpos) pos) (Js i f):=ym (xj h1 hsw) λE σ H ⟨F0,H0,F,Γ,o,En,e,q⟩=>by
 obtain⟨ds,hd,e⟩:=bind_some e
 obtain⟨b,hb,e⟩:=bind_some e
 obtain⟨es,he,e⟩:=bind_some e
 have hi:=Zx hd
 by_cases hz:ds.length+es.length<=aH
 ·rw[if_pos hz]at e;cases e
  obtain⟨o,h1,p,vs,rfl,h2,h3,h4,h5⟩:=En.val i _ hi
  refine⟨.ref p,h1,.inl ⟨rfl,vs,SqL.of h2⟩,F0,H0,F,Γ,_,En,hb,λv F1 H1 e1 r1=>?_⟩
  obtain⟨l,us,rfl,hl,ru⟩:=vj e1.fh he r1
  refine⟨p,l,vs,us,rfl,rfl,e1.hh _ _ h2,hl,by rw[h3.length,ru.length];exact hz,?_⟩
  have hf1:F1 p=none:=e1.freed h4 (by rw[h2];simp)
  refine q σ F1 _ ((En.grow e1).change (s1:=.ol ds) hi rfl h1 h5 hf1 ⟨p,vs++us,rfl,zj,(h3.mono e1.ff).append ru,hf1,h5⟩) e1.ff
 ·rw[if_neg hz]at e;cases e
def zT(n:Nat)(ds:List D):G:=ds.map S.v++gI (n-ds.length) S.un
def mir(j n:Nat)(f:G->Option Out):List D->Option D:=λds=>if ds.length=j then match f (zT n ds)with
 | some (.rt d)=>some d
 | some (.nx _)=>some .non
 | _=>none else none
theorem V7{K:aE}{F H:Hp}{N:List aC}{ds:List D}{vs:List V}(sm:zp F H)(r:Are K F ds vs):EnvIs K F H F H (L2.start N vs) (zT N.length ds):=by
 have hl:=r.length
 refine⟨.refl sm,by simp[L2.start,zT,hl],λi s e=>?_,λi j s t p hij e1 e2 o1 o2 _ _=>?_⟩
 ·unfold zT at e
  unfold L2.start
  by_cases hi:i<ds.length
  ·rw[eA (by simpa using hi),bG]at e
   rw[eA (by simpa[hl]using hi),bG]
   obtain⟨d,hd,rfl⟩:=map_some e
   obtain⟨v,hv,hq⟩:=r.get hd
   exact⟨some v,by rw[hv];rfl,v,rfl,hq⟩
  ·rw[fD (by simpa using hi),j0]at e
   rw[fD (by simpa[hl]using hi),j0]
   simp only[aM]at e ⊢
   split at e
   ·rename_i hlt
    cases e
    exact⟨none,by rw[if_pos (by rw[hl];exact hlt)],trivial⟩
   ·cases e
 ·have no:∀(k:Nat) (t:S),(zT N.length ds)[k]?=some t->t.own=false:=λk t e=>by
   have hm:=bX e
   unfold zT at hm
   rcases cA.mp hm with hm|hm
   ·obtain⟨d,_,rfl⟩:=bK.mp hm;rfl
   ·rw[(List.mem_replicate.mp hm).2];rfl
  rw[no i s e1]at o1;cases o1
structure Callee (P:aU) (w:aO) (K:aE) (mg:aC->Option aA) (base:aN) (k:Nat) (x:aC) (m:List D->Option D):Prop where
 ex:∃fa fd ps,FnOk P w K mg base CX0 k fa fd ps (spD K m)/\mg x=some (.ref fa)/\fO K (.ref fa)=true/\xo K fd ps []
theorem zJ{P:aU}{w:aO}{K:aE}{mg:aC->Option aA}{base:aN}{k:Nat}{x:aC}{st:aS}{fa:aB}{fd:cB}{N ps:List aC}{f:G->Option Out}(J:Fun K x x st fa fd)(R:mg x=some (.ref fa))(S:FnScope N ps (zr st))(U:xo K fd ps []) 
  (j:∀(cdv:aA) (A:bB) (outer:List bS) (s:aD) (H:Hp) (E:XK),Room k (A.deeper (eP x (zr st) s.heap.objs.size fa cdv))->SDs (Zq CX0 P w K mg base N x (zr st) fa cdv A outer s H E).nox (wA st) f) :
  Callee P w K mg base (k+1) x (mir ps.length N.length f):=by
 refine⟨fa,fd,ps,J.ok S (λvs H Q E ⟨F,ds,d,O,r,e,q⟩=>?_) (λcdv A outer s H vs Q E Y ⟨F,ds,d,O,r,e,q⟩=>⟨_,j cdv A outer s H E Y,?_⟩),R,J.kp,U⟩
 ·unfold mir at e
  split at e
  ·rename_i h;rw[r.length];exact h
  ·cases e
 ·unfold mir at e
  split at e
  ·cases ho:f (zT N.length ds)with
   | none=>rw[ho]at e;cases e
   | some o=>
    rw[ho]at e
    refine⟨F,H,F,zT N.length ds,o,V7 O r,ho,?_⟩
    cases o with
    | rt d'=>cases e;exact λv F' H' ex Z=>q v F' H' ex Z
    | nx g=>cases e;exact λσ' F' H' En z=>q _ F' H' En.ext (by simp[Is])
    | bk g=>cases e
    | ct g=>cases e
  ·cases e
theorem zy{k J:Nat}{x:aC}{p:aK}{m:List D->Option D}(C:Callee X.prog X.w X.K X.mg X.base k x m)(O:Room J X.A)(R:k<=J)(U:Gl X x) 
  (Y:EA X (e::es) fs) (j:(x==("__debug__":aC))=false:=by decide) (Z:aX (e::es) X.env=(false,aQ e X.env)::aX es X.env:=by rfl) (q:(cJ pos (aX es X.env)).any (·.1)=false:=by rfl) :
  EE X (.Call (.Name x p) (e::es) [] pos) (xFn m fs):=by
 obtain⟨fa,fd,ps,Fn,hm,z,hb⟩:=C.ex
 exact zfz Fn (O.mono R) U hm z hb Y j Z q
def zP(ds:List D):List D:=(aG ds.length).map λ(k:Nat)=>D.tup [.int (k:Int),ds.getD k .non]
def xEn(fs:G->Option (List B)):G->Option (List D):=λΓ=>(fs Γ).bind λbs=>match bs with
 | [.d (.tup ds)]=>some (zP ds)
 | _=>none
theorem QH{p tp:aK}{z:List aF}{k:Nat}(hg:Gl X "enumerate")(hm:X.mg "enumerate"=none)(ha:EA X [a] fs)(hs:aX [a] X.env=[(false,aQ a X.env)]:=by rfl):
  EI X (.Tuple z k tp) (.Call (.Name "enumerate" p) [a] [] pos) (xEn fs):=vG (VY hg hm ha hs) λσ H R ⟨F0,H0,F,Γ,ds,En,e,q⟩=>by
 obtain⟨bs,hb,e⟩:=bind_some e
 refine⟨F0,H0,F,Γ,bs,En,hb,λvs Z H1 e1 r1=>?_⟩
 match bs,e,r1 with
 | [.d (.tup ds)],e,r1=>
  cases e
  obtain⟨v,rfl,hv⟩:=x9 r1
  have J:Is X.K Z (.tup ds) v:=hv
  simp only[Is]at J
  obtain⟨l,us,rfl,hf,ra⟩:=J
  refine⟨l,rfl,⟨us,SqT.of (e1.fh _ _ hf)⟩,q _ Z H1 e1 λi F2 H2 s1 s2=>?_⟩
  have O:SqT X.K H2 l us:=SqT.of (s2 _ _ (s1 _ _ hf))
  refine⟨λd U=>?_,λhl=>⟨us,O,by rw[ra.length];simpa[zP]using hl⟩⟩
  have j:i<ds.length:=by
   have:=(aY.mp U).1
   simpa[zP]using this
  obtain⟨u,hu,hi⟩:=ra.get (i:=i) (d:=ds[i]) (by simp[j])
  have Y:d=.tup [.int (i:Int),ds[i]]:=by
   have:(zP ds)[i]?=some (.tup [.int (i:Int),ds[i]]):=by
    simp[zP,bG,fU j,eR,j]
   rw[this]at U;cases U;rfl
  subst Y
  refine⟨⟨us,u,O,hu⟩,λx H' y=>?_⟩
  obtain⟨T,v,hT,rfl,rfl,y⟩:=y
  have:=y us O
  rw[hu]at this;cases this
  refine⟨upd F2 T (.tup [.int i,u]),.fix s2 hT _,?_⟩
  simp only[Is]
  exact⟨T,_,rfl,zj,.cons xB (.cons (hi.mono (s1.trans (zE (s2.free hT) _))) .nil)⟩
end
section
variable {X:Cx} {pins:List (aB×aL)} {σ:St} {F H:Hp} {s:aD} {a b c e tg iter elt:aF} {f g h:G->Option B} {pos:aK} {es:List aF} {fs:G->Option (List B)} {tf:G->Option Bool}
theorem zfJ{K:aE}{fl:G->Option (List D)}{σ:St}{H:Hp}{Q:VK}:dE K (xL fl) σ H Q->dL K fl σ H Q:=λj=>by
 obtain⟨F0,H0,F,Γ,z,E,e,q⟩:=j
 unfold xL at e
 cases J:fl Γ with
 | none=>rw[J]at e;cases e
 | some ds=>
  rw[J]at e;cases e
  refine⟨F0,H0,F,Γ,ds,E,J,λa vs R H1 U hn O Y r1=>q _ (upd R a (.lst vs)) H1 ?_ ?_⟩
  ·exact(Ext.freeze U hn O Y)
  ·show Is _ _ (.lst ds) _
   simp only[Is]
   exact⟨a,vs,rfl,zj,r1.mono (zE O _)⟩
theorem zaQ{ifs:List aF}{scope:bU}{N:List aC}{src:G->Option (List D)}{ms:List (Option Nat)}{is:List Nat}{t:D->G->Option G}{cond:G->Option Bool}{el:G->Option B}{i:Nat}{y:aC}{py spos:aK} 
  (hc:X.calm=true) (ok:CompOk X.env.scope X.N scope N ms) (hi:EC X tg iter src) (hb:Blk X scope N tg ifs elt is t cond el) (nd:∀(i k j:Nat),ms[i]?=some (some j)->ms[k]?=some (some j)->i=k) (fr:∀j∈is,∀k,ms[j]?≠some (some k))
  (hN:X.N.Nodup) (hy:X.N[i]?=some y) (hx:Loc X.env.scope y) (hsw:cO (.ListComp elt [⟨tg,iter,ifs,0⟩] scope pos) (some (.Name y py)) spos.line X.env=pure true:=by rfl)
  (hf:X.fn y=true\/X.env.scope.names.lookup y=some .local:=by first|exact .inl rfl|exact .inr rfl|assumption)
  (hs:∀x,fN iter X.env x=pure x:=by intro _;rfl):SD X (.Assign [.Name y py] (.ListComp elt [⟨tg,iter,ifs,0⟩] scope pos) spos) (zI i (xL (zO src ms t cond el))) :=
 ym (ZY (g:=dGs X.K is t) (tf:=dT X.K cond) (te:=dE X.K el) hc ok hi hb.go hN hy hx hsw hf hs) λE σ H q=>by
  have q':=QD (X:=X) q
  exact Wd nd fr (zfJ q')
def zgW(ms:List (Option Nat)):Bool:=(aG ms.length).all λi=>(aG ms.length).all λk=>decide (i=k) || decide (ms[i]?=some none) || decide (ms[i]?≠ms[k]?)
theorem yR(h:zgW ms=true)(i k j:Nat)(z:ms[i]?=some (some j))(J:ms[k]?=some (some j)):i=k:=by
 have O:=(aY.mp z).1
 have R:=(aY.mp J).1
 have q:=eC.mp (eC.mp h i (bZ.mpr O)) k (bZ.mpr R)
 simp only[ku,decide_eq_true_eq]at q
 rcases q with(q|q)|q
 ·exact q
 ·rw[z]at q;cases q
 ·exact absurd (z.trans J.symm) q
def zgX(q:List Nat)(ms:List (Option Nat)):Bool:=q.all λj=>decide (ms[j]?=some none)
theorem yS(h:zgX z ms=true)(j:Nat)(J:j∈z)(k:Nat):ms[j]?≠some (some k):=λe=>by
 have q:=of_decide_eq_true (eC.mp h j J)
 rw[e]at q;cases q
theorem zfK{P:aU}{w:aO}{K:aE}{mg:aC->Option aA}{base:aN}{k:Nat}{x:aC}{st:aS}{fa:aB}{fd:cB}{N ps:List aC}{f:G->Option Out}(O:Fun K x x st fa fd)(S:FnScope N ps (zr st)) 
  (j:∀(cdv:aA) (A:bB) (outer:List bS) (s:aD) (H:Hp) (E:XK),Room k (A.deeper (eP x (zr st) s.heap.objs.size fa cdv))->SDs (Zq CX0 P w K mg base N x (zr st) fa cdv A outer s H E).nox (wA st) f) :
  FnOk P w K mg base CX0 (k+1) fa fd ps (spD K (mir ps.length N.length f)):=by
 refine O.ok S (λvs H Q E ⟨F,ds,d,J,r,e,q⟩=>?_) (λcdv A outer s H vs Q E R ⟨F,ds,d,J,r,e,q⟩=>⟨_,j cdv A outer s H E R,?_⟩)
 ·unfold mir at e
  split at e
  ·rename_i h;rw[r.length];exact h
  ·cases e
 ·unfold mir at e
  split at e
  ·cases ho:f (zT N.length ds)with
   | none=>rw[ho]at e;cases e
   | some o=>
    rw[ho]at e
    refine⟨F,H,F,zT N.length ds,o,V7 J r,ho,?_⟩
    cases o with
    | rt d'=>cases e;exact λv F' H' ex U=>q v F' H' ex U
    | nx g=>cases e;exact λZ F' H' Y z=>q _ F' H' Y.ext (by simp[Is])
    | bk g=>cases e
    | ct g=>cases e
  ·cases e
theorem zfL{K:aE}{m:List D->Option D}{H:Hp}{p:aB}{ns:List Int}(j:SqL K H p (ns.map V.int))(h:m [.scr ns]=some (.bl true)):spD K m [.ref p] H (λv _=>v=.bl true) λ_ _ _=>False :=
 ⟨H,[.scr ns],.bl true,zp.refl _,.cons (by simp only[Is];exact⟨p,rfl,j⟩) .nil,h,λv F' H' _ r=>by simpa[Is]using r⟩
theorem Z8(r:Room k A):A.units+128<bV:=by have:=r.un;omega
theorem zca:OpR X (dD .Add) (λx y H Q=>∃p q ys,x=.ref p/\y=.ref q/\SqT X.K H p []/\SqT X.K H q ys/\Q (.ref q) H):=by
 intro pins s σ H x y v u Q I rx ry h
 obtain⟨p,q,ys,rfl,rfl,hp,hq,k⟩:=h
 cases rx
 cases ry
 obtain⟨its,r1,p1,_⟩:=I.tuple hp
 obtain⟨j,r2,p2,_⟩:=I.tuple hq
 cases r1
 obtain⟨⟨cls,dd,data,sl⟩,ho,Y,n,Z⟩:=id p1
 obtain⟨⟨aa,R,data2,U⟩,z,J,n2,O⟩:=id p2
 simp only at Y Z J O
 subst Y Z J O
 exact j5 ⟨_,ho,rfl⟩ ⟨_,z,rfl⟩ j6 j7 j8 j9 (ka _ _)
  (tuple_addW0 p q #[] j.toArray n n2 dd R sl U rfl) ⟨ho,z,⟨.ref q,H,I,rfl,k⟩⟩
def Xr(K:aE):R2:=λx y H Q=>zdD K x y H Q\/(∃p q ys,x=.ref p/\y=.ref q/\SqT K H p []/\SqT K H q ys/\Q (.ref q) H)
theorem zcb:OpR X (dD .Add) (Xr X.K):=zee.or zca
theorem zep{K:aE}:OpB K (Xr K) Xj:=λF H x y v u d Q j hx hy e q=>by
 have key:∃a b,x=.d (.tup a)/\y=.d (.tup b):=by
  cases x with
  | d w=>
   cases w with
   | tup a=>
    cases y with
    | d w=>cases w with
     | tup b=>exact⟨a,b,rfl,rfl⟩
     | _=>cases e
    | _=>cases e
   | _=>cases e
  | _=>cases e
 obtain⟨a,b,rfl,rfl⟩:=key
 ·unfold Xj at e
  simp only at e
  by_cases U:a.length+b.length<=aH
  ·rw[if_pos U]at e;cases e
   have J:Is K F (.tup a) v:=hx
   have O:Is K F (.tup b) u:=hy
   have Y:=J
   have Z:=O
   simp only[Is]at J O
   obtain⟨p,vs,rfl,hp,r1⟩:=J
   obtain⟨p2,us,rfl,R,r2⟩:=O
   by_cases ha:a=[]
   ·subst ha
    have:=r1.inv0;subst this
    exact .inr ⟨p,p2,us,rfl,rfl,SqT.of (j _ _ hp),SqT.of (j _ _ R),q _ F H (.refl j) Z⟩
   ·have hv:vs≠[]:=λz=>ha (by have:=r1.length;rw[z]at this;exact gN.mp this.symm)
    refine .inl ⟨p,p2,vs,us,rfl,rfl,SqT.of (j _ _ hp),SqT.of (j _ _ R),hv,by rw[r1.length,r2.length];exact U,λz=>?_,λz l hl=>q _ (upd F l (.tup (vs++us))) _ (.fix j hl _) ?_⟩
    ·subst z
     have hb:b=[]:=gN.mp (by rw[<-r2.length];rfl)
     subst hb
     rw[gF]at q
     exact q _ F H (.refl j) Y
    ·simp only[Is]
     exact⟨l,_,rfl,zj,(r1.append r2).mono (zE (j.free hl) _)⟩
  ·rw[if_neg U]at e;cases e
def yN:=mOr Vz (mOr Xj VC)
theorem ya:OpR X (dD .Add) (λx y H Q=>rI0 (λi j=>.int (i+j)) x y H Q\/(Xr X.K x y H Q\/Jf x y H Q)):=zfk.or (zcb.or zfu)
theorem yc{K:aE}:OpB K (λx y H Q=>rI0 (λi j=>.int (i+j)) x y H Q\/(Xr K x y H Q\/Jf x y H Q)) yN:=zei.or (zep.or zej)
end
def Zy:D->Option Key
 | .int i=>some (.inl i)
 | .str x=>some (.inr x)
 | _=>none
def xv:List D->Option (List Key)
 | []=>some []
 | d::r=>(Zy d).bind λk=>(xv r).map λks=>k::ks
def YQ:D->Option (List Key)
 | .tup ds=>xv ds
 | _=>none
def zM{κ:Type} [DecidableEq κ] (kvs:List (κ×D)) (k:κ):Option D:=(kvs.find? λj=>decide (j.1=k)).map (·.2)
def yO{κ:Type} [DecidableEq κ] (kvs:List (κ×D)) (k:κ) (v:D):List (κ×D) :=
 if(kvs.any λj=>decide (j.1=k))=true then kvs.map (λj=>if j.1=k then(j.1,v)else j)else kvs++[(k,v)]
def B.dget:B->D->Option (Option D)
 | .t kvs,z=>(YQ z).map λq=>zM kvs q
 | .k kvs,z=>(Zy z).map λq=>zM kvs q
 | .d (.dK ks vs),z=>(Zy z).map λq=>zM (ks.zip vs) q
 | .d (.dT ks vs),z=>(YQ z).map λq=>zM (ks.zip vs) q
 | _,_=>none
def vu(j:Bool):B->B->Option D:=λx y=>x.asD.bind λd=>(y.dget d).map λo=>.bl (if j then !o.isSome else o.isSome)
def uc:B->B->Option D:=λx y=>y.asD.bind λd=>(x.dget d).bind id
def ud(i:Nat):G->Option Out:=λΓ=>some (.nx (Γ.set i (.ok [])))
def um:S->D->D->Option S
 | .ot kvs,k,v=>(YQ k).bind λk=>if kvs.length<aH then some (.ot (yO kvs k v))else none
 | .ok kvs,k,v=>(Zy k).bind λk=>if kvs.length<aH then some (.ok (yO kvs k v))else none
 | _,_,_=>none
def wk(i:Nat)(j q:G->Option B):G->Option Out:=λΓ=>(q Γ).bind λz=>z.asD.bind λv=>(j Γ).bind λbk=>bk.asD.bind λk=>(Γ[i]?).bind λs=>(um s k v).map λs'=>.nx (Γ.set i s')
section
variable {K:aE} {F H:Hp}
theorem uw(e:Zy d=some k)(h:Is K F d v):v=kV k:=by
 cases d with
 | int i=>cases e;show v=V.int i;simpa[Is]using h
 | str x=>cases e;show v=V.str x;simpa[Is]using h
 | _=>cases e
theorem V8:∀{ds:List D} {ks:List Key} {vs:List V},xv ds=some ks->Are K F ds vs->vs=ks.map kV
 | [],_,_,e,h=>by cases e;rw[h.inv0];rfl
 | d::r,_,_,e,h=>by
  obtain⟨k,q,e⟩:=bind_some e
  obtain⟨ks,j,rfl⟩:=map_some e
  obtain⟨v,vs,rfl,h1,h2⟩:=h.inv
  rw[uw q h1,V8 j h2];rfl
theorem Z9{κ:Type} [DecidableEq κ] {k:κ}:∀{kvs:List (κ×D)} {ws:List (κ×V)},y2 K F kvs ws->match zM kvs k with
  | none=>yT ws k=none
  | some d=>∃v,yT ws k=some v/\Is K F d v:=λh=>by
 induction h with
 | nil=>exact rfl
 | @cons p q ps O h r J=>
  obtain⟨e,h⟩:=h
  by_cases z:p.1=k
  ·have j:zM (p::ps) k=some p.2:=by simp[zM,cT,z]
   rw[j]
   exact⟨q.2,wZ (by rw[<-e];exact z),h⟩
  ·have j:zM (p::ps) k=zM ps k:=by simp[zM,cT,z]
   rw[j,wv (by rw[<-e];exact z)]
   exact J
theorem V9{κ:Type} [DecidableEq κ] {k:κ}:∀{kvs:List (κ×D)} {ws:List (κ×V)},y2 K F kvs ws->(kvs.any λj=>decide (j.1=k))=ws.any λj=>decide (j.1=k)
 | _,_,.nil=>rfl
 | _,_,.cons ⟨e,_⟩ r=>by rw[fF,fF,e,V9 r]
theorem Ua{κ:Type} [DecidableEq κ] {k:κ} {d:D} {v:V} (J:Is K F d v):∀{kvs:List (κ×D)} {ws:List (κ×V)},y2 K F kvs ws->y2 K F (kvs.map λj=>if j.1=k then(j.1,d)else j) (ws.map λj=>if j.1=k then(j.1,v)else j)
 | _,_,.nil=>.nil
 | _,_,@Paired.cons _ _ _ p q ps O ⟨e,h⟩ r=>by
  rw[aR,aR]
  refine .cons ?_ (Ua J r)
  by_cases z:p.1=k
  ·rw[if_pos z,if_pos (by rw[<-e];exact z)];exact⟨e,J⟩
  ·rw[if_neg z,if_neg (by rw[<-e];exact z)];exact⟨e,h⟩
theorem zaR{κ:Type}{p:κ×D}{q:κ×V}(j:p.1=q.1/\Is K F p.2 q.2):∀{kvs:List (κ×D)} {ws:List (κ×V)},y2 K F kvs ws->y2 K F (kvs++[p]) (ws++[q]):=λh=>by
 induction h with
 | nil=>exact .cons j .nil
 | cons h r z=>exact .cons h z
theorem Wg{κ:Type} [DecidableEq κ] {k:κ} {d:D} {v:V} {kvs:List (κ×D)} {ws:List (κ×V)} (h:y2 K F kvs ws) (j:Is K F d v):y2 K F (yO kvs k d) (xf ws k v):=by
 unfold yO xf
 rw[V9 h]
 split
 ·exact Ua j h
 ·exact zaR ⟨rfl,j⟩ h
theorem YR{κ:Type}{kvs:List (κ×D)}{ws:List (κ×V)}(h:y2 K F kvs ws):ws.length=kvs.length:=(Paired.length h).symm
theorem Ya(j:zp F H)(e:YQ d=some ks)(h:Is K F d v):∃b,v=.ref b/\H b=some (.tup (ks.map kV)):=by
 cases d with
 | tup ds=>
  have h':=h
  simp only[Is]at h'
  obtain⟨b,vs,rfl,q,z⟩:=h'
  have:=V8 e z
  subst this
  exact⟨b,rfl,j _ _ q⟩
 | _=>cases e
def OIs(K:aE)(F:Hp)(o:Option D)(r:Option V):Prop:=match o with
 | none=>r=none
 | some z=>∃v,r=some v/\Is K F z v
theorem YS{κ:Type}:∀{ws:List (κ×V)} {ds:List D},Are K F ds (ws.map dG)->y2 K F ((ws.map bA).zip ds) ws
 | [],ds,h=>by
  cases ds with
  | nil=>exact .nil
  | cons d r=>obtain⟨_,_,e,_⟩:=h.inv;cases e
 | w::ws,ds,h=>by
  cases ds with
  | nil=>have:=h.inv0;cases this
  | cons d r=>
   obtain⟨v,q,e,h1,h2⟩:=h.inv
   rw[aR]at e
   cases e
   exact .cons ⟨rfl,h1⟩ (YS h2)
theorem Yb{b:B}{d:D}{o:Option D}{x y:V}(U:zp F H)(J:BIs K F H b x)(Y:Is K F d y)(e:b.dget d=some o):∃a r,x=.ref a/\xn H a y r/\OIs K F o r:=by
 cases b with
 | t kvs=>
  obtain⟨ks,O,rfl⟩:=map_some e
  obtain⟨a,ws,rfl,R,Z⟩:=J
  obtain⟨b,rfl,J⟩:=Ya U O Y
  refine⟨a,yT ws ks,rfl,xn.t R J,?_⟩
  have:=Z9 (k:=ks) Z
  cases q:zM kvs ks with
  | none=>rw[q]at this;exact this
  | some z=>rw[q]at this;exact this
 | k kvs=>
  obtain⟨ks,O,rfl⟩:=map_some e
  obtain⟨a,ws,rfl,R,Z⟩:=J
  have:=uw O Y
  subst this
  refine⟨a,yT ws ks,rfl,xn.k R,?_⟩
  have:=Z9 (k:=ks) Z
  cases q:zM kvs ks with
  | none=>rw[q]at this;exact this
  | some z=>rw[q]at this;exact this
 | d b=>
  cases b with
  | dK ks ds=>
   obtain⟨k,O,rfl⟩:=map_some e
   have j:Is K F (.dK ks ds) x:=J
   simp only[Is]at j
   obtain⟨a,ws,ob,rfl,R,rfl,hr⟩:=j
   have:=uw O Y
   subst this
   refine⟨a,yT ws k,rfl,(.inl ⟨ws,k,.inr ⟨ob,U _ _ R⟩,rfl,rfl⟩),?_⟩
   have:=Z9 (k:=k) (YS hr)
   cases q:zM ((ws.map bA).zip ds) k with
   | none=>rw[q]at this;exact this
   | some z=>rw[q]at this;exact this
  | dT ks ds=>
   obtain⟨k,O,rfl⟩:=map_some e
   have j:Is K F (.dT ks ds) x:=J
   simp only[Is]at j
   obtain⟨a,ws,rfl,R,rfl,hr⟩:=j
   obtain⟨b,rfl,J⟩:=Ya U O Y
   refine⟨a,yT ws k,rfl,xn.t (U _ _ R) J,?_⟩
   have:=Z9 (k:=k) (YS hr)
   cases q:zM ((ws.map bA).zip ds) k with
   | none=>rw[q]at this;exact this
   | some z=>rw[q]at this;exact this
  | _=>cases e
 | _=>cases e
end
section
variable {X:Cx} {a b c e:aF} {f g h:G->Option B} {pos:aK} {es:List aF} {fs:G->Option (List B)}
def zfM(j:Bool):R2:=λx y H Q=>∃a o,y=.ref a/\xn H a x o/\Q (.bl (if j then !o.isSome else o.isSome)) H
theorem vX(j:X.A.units+1<bV):OpR X (cK .NotIn) (zfM true):=by
 rintro pins s σ H x y v u Q I z J ⟨a,o,O,g,q⟩
 subst O
 cases J
 exact QA j I g z λs' R=>⟨.bl _,H,R,rfl,q⟩
theorem Zz{K:aE}{j:Bool}:OpB K (zfM j) (vu j):=λF H x y v u d Q J R U e q=>by
 obtain⟨z,Y,e⟩:=bind_some e
 obtain⟨o,ho,rfl⟩:=map_some e
 have:=yy Y;subst this
 obtain⟨a,r,rfl,g,O⟩:=Yb J U R ho
 refine⟨a,r,rfl,g,?_⟩
 have:r.isSome=o.isSome:=by
  cases o with
  | none=>rw[O];rfl
  | some z=>obtain⟨v,rfl,_⟩:=O;rfl
 rw[this]
 exact q _ F H (.refl J) wJ
theorem Ub(Z:X.A.units+1<bV)(ha:EE X a f)(hb:EE X b g)(hs:zb3 b):EE X (.Subscript a b pos) (x2 uc f g) :=
 yl (QB Z ha hb hs) λσ H Q j=>by
  obtain⟨F0,H0,F,Γ,z,E,e,q⟩:=j
  obtain⟨x,y,d,hx,hy,hd,rfl⟩:=vF e
  refine⟨F0,H0,F,Γ,x,E,hx,λv F1 H1 Y r1=>⟨F0,H0,F1,Γ,y,E.grow Y,hy,λu F2 H2 J r2=>?_⟩⟩
  obtain⟨k,hk,O⟩:=bind_some hd
  obtain⟨o,ho,R⟩:=bind_some O
  have:=yy hk;subst this
  have U:o=some d:=R
  subst U
  obtain⟨a,r,rfl,g,w,rfl,hw⟩:=Yb J.fh (r1.ext J) r2 ho
  exact⟨a,w,rfl,g,q w F2 H2 (Y.trans J) hw⟩
theorem ZA(Z:∀F H a,zp F H->H a=some o->F a=none->∀H0,H0 a=none->SIs X.K H0 F H s0 (some (.ref a))):dS X.K (λΓ=>some (.nx (Γ.set i s0))) E σ H->X5 (λ_ H Q=>∀p,H p=none->Q (.ref p) (upd H p o)) (v5 i) E σ H:=λO=>by
 obtain⟨F0,H0,F,Γ,z,U,e,q⟩:=O
 cases e
 intro p R
 have ex:Ext F H F (upd H p o):=.own U.fh R o
 refine q _ F _ ((U.grow ex).putOwn (Z F _ p ex.fh zj (U.fh.free R) H0 (U.ext.hh.free R)) λj s hj Z ho z=>?_) ex.ff
 obtain⟨o',h1,h2⟩:=U.val j s Z
 rw[z]at h1;cases h1
 cases s with
 | un=>cases ho
 | v d=>cases ho
 | ol ds=>obtain⟨a',vs,Y,J,_⟩:=h2;cases Y;rw[R]at J;cases J
 | ot kvs=>obtain⟨a',vs,Y,J,_⟩:=h2;cases Y;rw[R]at J;cases J
 | ok kvs=>obtain⟨a',vs,Y,J,_⟩:=h2;cases Y;rw[R]at J;cases J
theorem Xs{i:Nat}{x:aC}{p dp:aK}(hN:X.N.Nodup)(hi:X.N[i]?=some x)(hx:Loc X.env.scope x)(hs:cO (.Dict [] [] dp) (some (.Name x p)) pos.line X.env=pure false:=by rfl)(hf:X.fn x=true\/X.env.scope.names.lookup x=some .local:=by first|exact .inl rfl|exact .inr rfl|assumption):
 SD X (.Assign [.Name x p] (.Dict [] [] dp) pos) (ud i):=ym (xa hN hi hx vV hs hf) λE σ H q=>ZA (o:=.dK []) (s0:=.ok []) (λF H a _ h1 h2 H0 h3=>⟨a,[],rfl,h1,.nil,h2,h3⟩) q
theorem ux{i:Nat}{x:aC}{key value:aF}{fk fv:G->Option B}{px ppos:aK}(hu:X.A.units+1<bV)(ho:PE X (.Name x px) (uQ i))(hk:EE X key fk)(hv:EE X value fv)(hs:cO value (some (.Subscript (.Name x px) key ppos)) pos.line X.env=pure false:=by rfl):
  SD X (.Assign [.Subscript (.Name x px) key ppos] value pos) (wk i fk fv):=ym (Z5 hu ho hk hv hs) λE σ H ⟨F0,H0,F,Γ,z,En,e,q⟩=>by
 obtain⟨bv,hbv,e⟩:=bind_some e
 obtain⟨v,hv,e⟩:=bind_some e
 obtain⟨bk,hbk,e⟩:=bind_some e
 obtain⟨k,hk,e⟩:=bind_some e
 obtain⟨s,hs,e⟩:=bind_some e
 obtain⟨s',hs',rfl⟩:=map_some e
 have:=yy hv;subst this
 have:=yy hk;subst this
 refine⟨F0,H0,F,Γ,_,En,hbv,λvv F1 H1 e1 r1=>?_⟩
 have E1:=En.grow e1
 obtain⟨o,ho,hso⟩:=E1.val i s hs
 cases s with
 | ot kvs=>
  obtain⟨ks,hks,hs'⟩:=bind_some hs'
  by_cases hz:kvs.length<aH
  ·rw[if_pos hz]at hs';cases hs'
   obtain⟨a,ws,rfl,ha,hp,hfa,h0a⟩:=hso
   refine⟨.ref a,ho,F0,H0,F1,Γ,_,E1,hbk,λkk F2 H2 e2 r2=>?_⟩
   have ha2:=e2.hh _ _ ha
   have hf2:F2 a=none:=e2.freed hfa (by rw[ha];simp)
   obtain⟨b,rfl,hb⟩:=Ya e2.fh hks r2
   have hp2:=hp.mono e2.ff
   refine⟨a,_,rfl,vU.t (v:=vv) ha2 hb (by rw[YR hp2];exact hz),?_⟩
   exact q σ F2 _ ((E1.grow e2).change (s1:=.ot kvs) hs rfl ho h0a hf2 ⟨a,_,rfl,zj,Wg hp2 (r1.mono e2.ff),hf2,h0a⟩) (e1.ff.trans e2.ff)
  ·rw[if_neg hz]at hs';cases hs'
 | ok kvs=>
  obtain⟨ks,hks,hs'⟩:=bind_some hs'
  by_cases hz:kvs.length<aH
  ·rw[if_pos hz]at hs';cases hs'
   obtain⟨a,ws,rfl,ha,hp,hfa,h0a⟩:=hso
   refine⟨.ref a,ho,F0,H0,F1,Γ,_,E1,hbk,λkk F2 H2 e2 r2=>?_⟩
   have ha2:=e2.hh _ _ ha
   have hf2:F2 a=none:=e2.freed hfa (by rw[ha];simp)
   have:=uw hks r2
   subst this
   have hp2:=hp.mono e2.ff
   refine⟨a,_,rfl,vU.k (v:=vv) ha2 (by rw[YR hp2];exact hz),?_⟩
   exact q σ F2 _ ((E1.grow e2).change (s1:=.ok kvs) hs rfl ho h0a hf2 ⟨a,_,rfl,zj,Wg hp2 (r1.mono e2.ff),hf2,h0a⟩) (e1.ff.trans e2.ff)
  ·rw[if_neg hz]at hs';cases hs'
 | _=>cases hs'
end
end DD
namespace DD
open PySem PySem.Spec L2
open PyProof.Rows hiding St
open PySem.SeqAt (shaped compareEq_shaped compareNe_shaped canLay_of_shaped room_of_shaped eqAt_reads)
section
variable {X:Cx} {a b c e:aF} {f g h:G->Option B} {pos:aK} {es:List aF} {fs:G->Option (List B)}
end
end DD
namespace HT
open PySem PyProof.Rows
open PySem.SeqAt
open PySem.AutoSeq1 (wpAny_loadPart')
open PySem.MeetsSeq PySem.MeetsSeq2 PySem.MeetsSeq3
def VE(j:gS)(m n:Nat):Bool:=match j with
 | .LtE=>decide (m<=n)
 | .Gt=>decide (n<m)
 | _=>false
inductive OrdL (A:bB) (s:aD) (op:gS):List aA->List aA->Bool->Prop where
 | fin {r:Bool} (vs ws:List aA) (h:vs=[]\/ws=[]) (hr:r=VE op vs.length ws.length):OrdL A s op vs ws r
 | eq {vs ws:List aA} {r:Bool} (v u:aA) (h:EqAt A s v u true) (t:OrdL A s op vs ws r):OrdL A s op (v::vs) (u::ws) r
 | ne {vs ws:List aA} {r:Bool} (v u:aA) (h:EqAt A s v u false) (hc:∀(prog:aU) (w:aO) (E:aA->aD->Prop) (Q:aA->aD->Prop),Q (.bool r) s->wpAny (aI prog w) A (richCompare op v u) Q E s):OrdL A s op (v::vs) (u::ws) r
theorem zfN(l b:aB)(items items2:Array aA)(n n2:Nat)(dd dd2:Option aB)(sl sl2:Array (Option aA))(r:Bool):
  Meets (jj.«tuple.__le__» ⟨[.ref l,.ref b],[]⟩)
   (λA R s=>s.heap.get? l=some {cls:=.type "tuple",dict:=dd,data:=.seq items n,slots:=sl}/\s.heap.get? b=some {cls:=.type "tuple",dict:=dd2,data:=.seq items2 n2,slots:=sl2}/\
    OrdL A.in1 s .LtE items.toList items2.toList r/\R (.ok (.ret (.bool r))) s) :=
 .of_wp λprog w A R s h=>by
  obtain⟨hp,g,d,tk,os⟩:=s;obtain⟨hl,hb,ho,h⟩:=h
  have f2:=AutoSeq1.sub_tuple_tuple
  wp_walk using wpAny_loadPart' hl,wpAny_loadPart' hb,wpAny_forIn_list _ (λrest b s'=>b.1=none/\s'=⟨hp,g,d,tk,os⟩/\∃(vs ws:List aA),rest=vs.zip ws/\
   OrdL A.in1 ⟨hp,g,d,tk,os⟩ .LtE vs ws r/\vs.length+items2.size=ws.length+items.size) _
  case turn=>
   rintro⟨y,x⟩ rest b s' ⟨hb',rfl,vs,ws,hz,ho',hlen⟩
   cases ho' with
   | fin vs ws he hr=>
    rcases he with rfl|rfl
    ·rw[List.zip_nil_left]at hz;cases hz
    ·rw[List.zip_nil_right]at hz;cases hz
   | eq v u he hrest'=>
    rw[iF]at hz
    injection hz with hyx hrest
    injection hyx with hy hx
    subst hy hx
    refine aJ (he prog w _ _ ?_)
    simp only[cC]at hlen
    wp_walk
    exact⟨rfl,rfl,_,_,hrest,hrest',by omega⟩
   | ne v u he hc=>
    rw[iF]at hz
    injection hz with hyx hrest
    injection hyx with hy hx
    subst hy hx
    refine aJ (he prog w _ _ ?_)
    have hc':=hc prog w
    wp_walk using hc'
    exact⟨_,rfl,by simpa using h⟩
  case fin=>
   rintro⟨b1,b2⟩ s' ⟨hb',rfl,vs,ws,hz,ho',hlen⟩
   simp only at hb'
   subst hb'
   cases ho' with
   | fin vs ws he hr=>
    have hv:r=VE .LtE items.size items2.size:=by
     rw[hr]
     unfold VE
     simp only
     rw[gX]
     simp only[decide_eq_true_eq]
     omega
    rw[hv]at h
    wp_walk
    exact⟨_,rfl,by simpa[nN,VE]using h⟩
   | eq v u he hrest'=>rw[iF]at hz;cases hz
   | ne v u he hc=>rw[iF]at hz;cases hz
  case h=>
   exact⟨rfl,rfl,items.toList,items2.toList,rfl,ho,by simp[jv]⟩
end HT
namespace L2
open PySem PySem.Spec PyProof.Rows
theorem Jt{P:aU}{w:aO}{K:aE}{elts:List aF}{k:Nat}{tp:aK}(a it e:aB)(hei:e≠it):
  Turn P w K (.Tuple elts k tp) (Ite λH xs=>SqL K H a xs) [e,it] e (λi h=>(∃old,jk h e it i old)/\h.IsListIter it a i) where
 mem:=by simp
 obj:=λi h st b hb=>by
  obtain⟨⟨old,he⟩,o,e1,c,d⟩:=st
  rcases aW.mp hb with q|hb
  ·subst q
   exact⟨_,he,λv z=>by
    have z':Data.fields _=Data.cell v:=z
    cases z'⟩
  ·rw[bN.mp hb]
   exact⟨o,e1,λv z=>by rw[d]at z;cases z⟩
 keep:=λi h h' st k=>⟨let ⟨old,he⟩:=st.1;⟨old,k e (by simp) _ he⟩,st.2.at λo q=>k it (by simp) o q⟩
 item:=by
  intro X hP hw hK hc i pins s σ H E I hf st hg
  subst hP hw hK
  obtain⟨xs,x,hq,hx⟩:=hg
  obtain⟨its,rv,p,hz⟩:=I.list hq
  obtain⟨u,hu,ru⟩:=rv.get hx
  obtain⟨⟨old,he⟩,hit⟩:=st
  have fe:=hf e (by simp)
  have fi:=hf it (by simp)
  have hai:a≠it:=λz=>by
   obtain⟨o,e1,c,_⟩:=p.isList
   obtain⟨o2,e2,c2,_⟩:=hit
   rw[z,e2]at e1;cases e1;rw[c2]at c;exact absurd c (by simp)
  have hae:e∉ [it,a]:=λhm=>by
   rcases aW.mp hm with q|hm
   ·exact hei q
   ·have q:=bN.mp hm
    obtain⟨o,e1,c,_⟩:=p.isList
    rw[<-q,he]at e1
    cases e1;simp at c
  refine lS (Draws.list (A:=X.A.in1) (I.ok.hd hc) it a hai its.toArray) he ⟨hit,p.isList⟩ (by rw[bT];exact(aY.mp hu).1) hei hae λx' h' tk hP ho hs' hT hsz hk=>?_
  have hx':x'=u:=by
   have hP':its[i]?=some x':=by simpa using hP
   rw[hu]at hP';cases hP';rfl
  subst hx'
  refine⟨_,rfl,lT ho λh2 he2 hs2=>?_⟩
  have hk2:∀b o,b≠e->b≠it->s.heap.get? b=some o->h2.get? b=some o:=λb o n1 n2 q=>(hs2.2 b n1).trans (hk b o n1 n2 q)
  have hel:e≠s.heap.objs.size:=bO (aZ he)
  have hit2:h2.IsListIter it a (i+1):=hs'.1.at λo q=>(hs2.2 it (aT hei)).trans q
  have I2:=W0 (tk':=tk+1) (i:=i) (tk:=tk) (h':=h2) I fe fi ru ((hs2.2 _ (aT hel)).trans hT) hk2 (λb o q=>by
   by_cases n1:b=e
   ·subst n1;exact⟨_,he2⟩
   ·by_cases n2:b=it
    ·subst n2;obtain⟨o',q',_⟩:=hit2;exact⟨o',q'⟩
    ·exact⟨o,hk2 b o n1 n2 q⟩)
  refine⟨.ref s.heap.objs.size,_,I2,rfl,⟨_,x,I.hok.fresh (aP _),rfl,rfl,λys hy=>by rw[I.list_inj hy hq];exact hx⟩,⟨⟨x',by simpa using he2⟩,hit2⟩,λb hb=>?_⟩
  have hb':xz X pins H b:=hf b hb
  rw[ze (λz=>?_)]
  ·exact hb'.1
  ·rcases aW.mp hb with q|hb
   ·exact hel (q.symm.trans z)
   ·have q:=bN.mp hb
    obtain⟨o,e1,_⟩:=hit
    exact bO (aZ e1) (q.symm.trans z)
 done:=by
  intro X hP hw hK hc i pins s σ H E I hf st hg
  subst hP hw hK
  obtain⟨xs,hq,hx⟩:=hg
  obtain⟨its,rv,p,hz⟩:=I.list hq
  obtain⟨⟨old,he⟩,hit⟩:=st
  obtain⟨f0,f1,f2,f3,f4,f5⟩:=hf it (by simp)
  have hl:=rv.length
  have hai:a≠it:=λz=>by
   obtain⟨o,e1,c,_⟩:=p.isList
   obtain⟨o2,e2,c2,_⟩:=hit
   rw[z,e2]at e1;cases e1;rw[c2]at c;exact absurd c (by simp)
  have hT:s.TypeIs (.ref e) "enumerate":=⟨_,he,rfl⟩
  unfold gC
  refine aJ (kx (jg (name:=iD "__next__") hT jl
   (ji jl hT lU ?_ (lV _))))
  show wpAny _ _ (g7 (.ref e) 2>>=_) _ _ _
  refine aJ (g8 he rfl (x:=.ref it) rfl ?_)
  refine aJ (wpAny_nextOf_list_end (A:=X.A.in1) (I.ok.hd hc) hit p.isList (by simp;omega) λh' ex hx' ⟨o,ho,hcl⟩=>?_)
  refine aJ (jm (T:="StopIteration") (b:=true) ⟨o,ho,hcl⟩ lW ?_)
  exact bM ⟨rfl,I.turned (t':=s.toks) (λb o hb q=>hx' b o hb q) f0 f1 f3 f4 f5⟩
 self:=λ_ _ _ _ _ st h=>let ⟨_,he⟩:=st.1;jn he h
section
variable {X:Cx}
def zik(K:aE)(ta:TA):TI:=λσ H R=>ta σ H λvs H1=>∃a,vs=[.ref a]/\(∃xs,SqL K H1 a xs)/\R (Ite λH xs=>SqL K H a xs) H1
theorem Uc{a:aF}{ta:TA}{p pos tp:aK}{j:List aF}{k:Nat}(hg:Gl X "enumerate")(hm:X.mg "enumerate"=none)(ha:PA X [a] ta)(hs:aX [a] X.env=[(false,aQ a X.env)]:=by rfl):
  PI X (.Tuple j k tp) (.Call (.Name "enumerate" p) [a] [] pos) (zik X.K ta):=by
 intro pins s σ H R I h
 refine im (vh I hg hm lX (gW (thn (ha pos pins s σ H _ I h) λus s1 ⟨vs,H1,O,r1,q1⟩=>?_) hs rfl))
 obtain⟨l,e,⟨xs,hq⟩,q⟩:=q1
 subst e
 cases r1 with
 | cons r rr=>
  cases rr
  cases r
  obtain⟨its,rv,pt,hz⟩:=O.list hq
  refine call_enumerate_list (items:=its.toArray) pt.isList λh' Z U hsz hk=>?_
  refine jn Z ?_
  have I2:Inv X pins σ H1 {s1 with heap:=h'}:=O.kept (t':=s1.toks) hk
  refine⟨s1.heap.objs.size+1,[s1.heap.objs.size+1,s1.heap.objs.size],_,_,H1,rfl,I2,Jt l s1.heap.objs.size (s1.heap.objs.size+1) (lY _),⟨⟨_,Z⟩,U⟩,λb Y=>?_,q⟩
  have J:s1.heap.objs.size<=b:=by
   rcases aW.mp Y with z|Y
   ·rw[z];exact gG _
   ·rw[bN.mp Y];exact aP _
  exact O.fpOk J (O.hok.fresh J)
end
end L2
namespace DD
open PySem PySem.Spec L2
open PyProof.Rows hiding St
open PySem.SeqAt (shaped compareEq_shaped compareNe_shaped canLay_of_shaped room_of_shaped eqAt_reads)
section
variable {X:Cx} {pins:List (aB×aL)} {σ:St} {F H:Hp} {s:aD}
end
def Ud:List D->Option (List Int)
 | []=>some []
 | .int i::r=>(Ud r).map λns=>i::ns
 | _::_=>none
def ziU(res:Int->Int->List Int->List Int->Bool):B->B->Option D
 | .d (.tup [.int i,.tup as]),.d (.tup [.int j,.tup bs])=>(Ud as).bind λns=>(Ud bs).map λms=>.bl (res i j ns ms)
 | _,_=>none
section
variable {X:Cx} {a b c e f':aF} {f g h:G->Option B} {pos:aK} {es:List aF} {fs:G->Option (List B)}
def Ju:B->B->Option D
 | .d .non,.d .non=>some (.bl true)
 | .d (.tup _),.d .non=>some (.bl false)
 | _,_=>none
theorem zfO{K:aE}:OpB K (λx y H Q=>y=.non/\Q (.bl (decide (x=.non))) H) Ju:=λF H x y v u d Q J O R e q=>by
 unfold Ju at e
 split at e
 ·cases e
  have j:Is K F .non v:=O
  have z:Is K F .non u:=R
  simp only[Is]at j z
  subst j z
  exact⟨rfl,q _ F H (.refl J) (by simp[Is])⟩
 ·cases e
  have j:Is K F (.tup _) v:=O
  have z:Is K F .non u:=R
  simp only[Is]at j z
  obtain⟨p,vs,rfl,_⟩:=j
  subst z
  exact⟨rfl,q _ F H (.refl J) (by simp[Is])⟩
 ·cases e
def ue(f g h:G->Option B):G->Option B:=λΓ=>(f Γ).bind λx=>(g Γ).bind λy=>(h Γ).bind λz=>y.asD.bind λk=>z.asD.bind λj=>(x.dget k).map λo=>.d (o.getD j)
theorem Wh(hu:X.A.units+1<bV)(ho:EE X a f)(he:EE X b g)(hf:EE X c h)(m:M2 X a "get" apos b c cpos):EE X (.Call (.Attribute a "get" apos) [b,c] [] cpos) (ue f g h) :=
 yl (zb5 hu ho he hf m) λσ H Q J=>by
  obtain⟨F0,H0,F,Γ,z,E,e,q⟩:=J
  obtain⟨x,hx,e⟩:=bind_some e
  obtain⟨y,hy,e⟩:=bind_some e
  obtain⟨w,hw,e⟩:=bind_some e
  obtain⟨k,hk,e⟩:=bind_some e
  obtain⟨dd,Y,e⟩:=bind_some e
  obtain⟨o,ho,rfl⟩:=map_some e
  have:=yy hk;subst this
  have:=yy Y;subst this
  refine⟨F0,H0,F,Γ,x,E,hx,λv Z H1 R r1=>?_⟩
  have aa:∃a,v=.ref a/\IsD H1 a:=by
   cases x with
   | t kvs=>obtain⟨a,ws,rfl,O,_⟩:=r1;exact⟨a,rfl,.inr ⟨ws,.inl O⟩⟩
   | k kvs=>obtain⟨a,ws,rfl,O,_⟩:=r1;exact⟨a,rfl,.inl ⟨ws,.inl O⟩⟩
   | d b=>
    cases b with
    | dK ks ds=>have j:Is X.K Z (.dK ks ds) v:=r1;simp only[Is]at j;obtain⟨a,ws,ob,rfl,O,_⟩:=j;exact⟨a,rfl,.inl ⟨ws,.inr ⟨ob,R.fh _ _ O⟩⟩⟩
    | dT ks ds=>have j:Is X.K Z (.dT ks ds) v:=r1;simp only[Is]at j;obtain⟨a,ws,rfl,O,_⟩:=j;exact⟨a,rfl,.inr ⟨ws,.inl (R.fh _ _ O)⟩⟩
    | _=>cases ho
   | _=>cases ho
  obtain⟨a,rfl,hd⟩:=aa
  refine⟨a,rfl,hd,F0,H0,Z,Γ,_,E.grow R,hy,λu F2 H2 e2 r2=>⟨F0,H0,F2,Γ,_,(E.grow R).grow e2,hw,λt F3 H3 U r3=>?_⟩⟩
  obtain⟨a',r,ea,g,hr⟩:=Yb U.fh ((r1.ext e2).ext U) (r2.mono U.ff) ho
  cases ea
  refine⟨r,g,q _ F3 H3 ((R.trans e2).trans U) ?_⟩
  cases o with
  | none=>have ab:r=none:=hr;subst ab;exact r3
  | some z'=>obtain⟨v',rfl,hv⟩:=hr;exact hv
def uY(fs:G->Option (List B)):G->Option (List D):=λΓ=>(fs Γ).bind λbs=>match bs with
 | [.d (.lst ds)]=>some (zP ds)
 | _=>none
theorem Yc{p tp:aK}{z:List aF}{k:Nat}(hg:Gl X "enumerate")(hm:X.mg "enumerate"=none)(ha:EA X [a] fs)(hs:aX [a] X.env=[(false,aQ a X.env)]:=by rfl):
  EI X (.Tuple z k tp) (.Call (.Name "enumerate" p) [a] [] pos) (uY fs):=vG (Uc hg hm ha hs) λσ H R ⟨F0,H0,F,Γ,ds,En,e,q⟩=>by
 obtain⟨bs,hb,e⟩:=bind_some e
 refine⟨F0,H0,F,Γ,bs,En,hb,λvs Z H1 e1 r1=>?_⟩
 match bs,e,r1 with
 | [.d (.lst ds)],e,r1=>
  cases e
  obtain⟨v,rfl,hv⟩:=x9 r1
  have J:Is X.K Z (.lst ds) v:=hv
  simp only[Is]at J
  obtain⟨l,us,rfl,hf,ra⟩:=J
  refine⟨l,rfl,⟨us,SqL.of (e1.fh _ _ hf)⟩,q _ Z H1 e1 λi F2 H2 s1 s2=>?_⟩
  have O:SqL X.K H2 l us:=SqL.of (s2 _ _ (s1 _ _ hf))
  refine⟨λd U=>?_,λhl=>⟨us,O,by rw[ra.length];simpa[zP]using hl⟩⟩
  have j:i<ds.length:=by
   have:=(aY.mp U).1
   simpa[zP]using this
  obtain⟨u,hu,hi⟩:=ra.get (i:=i) (d:=ds[i]) (by simp[j])
  have Y:d=.tup [.int (i:Int),ds[i]]:=by
   have:(zP ds)[i]?=some (.tup [.int (i:Int),ds[i]]):=by
    simp[zP,bG,fU j,eR,j]
   rw[this]at U;cases U;rfl
  subst Y
  refine⟨⟨us,u,O,hu⟩,λx H' y=>?_⟩
  obtain⟨T,v,hT,rfl,rfl,y⟩:=y
  have:=y us O
  rw[hu]at this;cases this
  refine⟨upd F2 T (.tup [.int i,u]),.fix s2 hT _,?_⟩
  simp only[Is]
  exact⟨T,_,rfl,zj,.cons xB (.cons (hi.mono (s1.trans (zE (s2.free hT) _))) .nil)⟩
def zfP(tk tv:TE):TE:=λσ H Q=>∀p,H p=none->Xl [(tk,tv)] σ (upd H p (.dT [])) λps H2=>∃(x y:V) (ks:List Key) (b:aB),ps=[(x,y)]/\x=.ref b/\H2 b=some (.tup (ks.map kV))/\H2 p=some (.dT [])/\Q (.ref p) (upd H2 p (.dT [(ks,y)]))
theorem zcc(hu:X.A.units+1<bV)(hk:PE X a tk)(hv:PE X b tv):PE X (.Dict [some a] [b] pos) (zfP tk tv):=by
 intro pins s σ H Q I q
 have hn:=I.hok.fresh (aP s.heap.objs.size)
 have I1:=I.laid (a:=s.heap.objs.size) (o:=.dT []) (h':=s.heap.push {cls:=.type "dict",data:=.dict #[]}) (t':=s.toks) (λ_ _ q=>bJ _ q) (aP _) (zb4 s.heap I.big)
 refine wpAny_Dict_any rfl rfl (by simp) (by simp) (thn ((YM hk hv Wc:PPs X pos _ _ _) pins _ σ _ _ I1 (q _ hn)) λws s2 ⟨ps,H2,O,j,x,y,ks,R,e1,ex,hb,U,hq⟩=>?_)
 ·subst e1 ex
  cases j with
  | @cons pq uv _ _ r1 r2=>
   cases r2
   obtain⟨u,r⟩:=uv
   obtain⟨ru,rr⟩:=r1
   cases (show u=Value.ref R from ru)
   obtain⟨z,hd,xs,j,dd⟩:=zdJ O.hok U
   have Y:xs=[]:=by cases j;rfl
   subst Y
   show wpAny _ _ (storeAll _ [(Value.ref R,r)]) _ _ _
   unfold storeAll
   simp only[kr,List.forIn_nil]
   refine aJ (aJ (wpAny_dictSet_heap (hsz:=by simp) (show(fW (zG X.prog X.w)).room X.A from Nat.lt_of_succ_lt hu) (ur O.hok hb) dd λh' Z hs=>bM (bM ?_)))
   obtain⟨qo,es,ep,J,h2,h3,h4,_,h5⟩:=Z
   refine⟨.ref s.heap.objs.size,_,?_,rfl,hq⟩
   have hl:([(ks,y)]:List (List Key×V)).length<=aH:=by show 1<=aH;decide
   refine ut O (by rw[U];exact True.intro) hs ⟨qo,J⟩ ⟨hl,hd,_,?_,qo,es,ep,J,h2,h3,h4,h5⟩
   have kt:KT H2 [(ks,y)] (storedH [] ks R r):=KT.put (kvs:=[]) (xs:=[]) .nil ks hb rr
   exact kt.keeps λc ys ec=>by
    rw[ze (v4 ec U (λz=>nomatch z))]
    exact ec
def zaS(i:Nat)(j q:G->Option B):G->Option Out:=λΓ=>(j Γ).bind λbk=>bk.asD.bind λk=>(q Γ).bind λz=>z.asD.bind λv=>(YQ k).map λks=>.nx (Γ.set i (.ot [(ks,v)]))
theorem zeq{i:Nat}{x:aC}{p dp:aK}{key value:aF}{fk fv:G->Option B}(hu:X.A.units+1<bV)(hN:X.N.Nodup)(hi:X.N[i]?=some x)(hx:Loc X.env.scope x)(hk:EE X key fk)(hv:EE X value fv)(hs:cO (.Dict [some key] [value] dp) (some (.Name x p)) pos.line X.env=pure false:=by rfl)(hf:X.fn x=true\/X.env.scope.names.lookup x=some .local:=by first|exact .inl rfl|exact .inr rfl|assumption):
  SD X (.Assign [.Name x p] (.Dict [some key] [value] dp) pos) (zaS i fk fv):=ym (xa hN hi hx (zcc hu hk hv) hs hf) λE σ H ⟨F0,H0,F,Γ,z,En,e,q⟩=>by
 obtain⟨bk,hbk,e⟩:=bind_some e
 obtain⟨k,hk,e⟩:=bind_some e
 obtain⟨bv,hbv,e⟩:=bind_some e
 obtain⟨v,hv,e⟩:=bind_some e
 obtain⟨ks,hks,rfl⟩:=map_some e
 have:=yy hk;subst this
 have:=yy hv;subst this
 intro p hp
 have ex:Ext F H F (upd H p (.dT [])):=.own En.fh hp _
 have E0:=En.grow ex
 refine⟨F0,H0,F,Γ,_,E0,hbk,λkk F1 H1 e1 r1=>⟨F0,H0,F1,Γ,_,E0.grow e1,hbv,λvv F2 H2 e2 r2=>?_⟩⟩
 obtain⟨b,rfl,hb⟩:=Ya e2.fh hks (r1.mono e2.ff)
 have hp2:H2 p=some (.dT []):=e2.hh _ _ (e1.hh _ _ zj)
 refine⟨_,vv,ks,b,rfl,rfl,hb,hp2,?_⟩
 have hfp:F p=none:=En.fh.free hp
 have hf1:F1 p=none:=e1.freed hfp (by rw[zj];simp)
 have hf2:F2 p=none:=e2.freed hf1 (by rw[e1.hh _ _ zj];simp)
 have h0p:H0 p=none:=En.ext.hh.free hp
 have E2:=(E0.grow e1).grow e2
 have ext2:Ext F0 H0 F2 (upd H2 p (.dT [(ks,vv)])):=E2.ext.turn h0p hf2 _
 refine q _ F2 _ ?_ ((e1.ff).trans e2.ff)
 have keepE:EnvIs X.K F0 H0 F2 (upd H2 p (.dT [(ks,vv)])) σ Γ:=by
  refine⟨ext2,E2.len,λj s hs=>?_,E2.sep⟩
  obtain⟨o,h1,h2⟩:=E2.val j s hs
  refine⟨o,h1,?_⟩
  have ne:∀c,s.own=true->σ[j]?=some (some (.ref c))->c≠p:=λc so sc z=>by
   subst z
   obtain⟨o',h1',h2'⟩:=En.val j s hs
   rw[sc]at h1';cases h1'
   cases s with
   | un=>cases so
   | v d=>cases so
   | ol ds=>obtain⟨a',vs,e',q1,_⟩:=h2';cases e';rw[hp]at q1;cases q1
   | ot kvs=>obtain⟨a',vs,e',q1,_⟩:=h2';cases e';rw[hp]at q1;cases q1
   | ok kvs=>obtain⟨a',vs,e',q1,_⟩:=h2';cases e';rw[hp]at q1;cases q1
  cases s with
  | un=>trivial
  | v d=>exact h2
  | ol ds=>obtain⟨c,vs,rfl,p1,p2,p3,p4⟩:=h2;exact⟨c,vs,rfl,by rw[ze (ne c rfl h1)];exact p1,p2,p3,p4⟩
  | ot ds=>obtain⟨c,vs,rfl,p1,p2,p3,p4⟩:=h2;exact⟨c,vs,rfl,by rw[ze (ne c rfl h1)];exact p1,p2,p3,p4⟩
  | ok ds=>obtain⟨c,vs,rfl,p1,p2,p3,p4⟩:=h2;exact⟨c,vs,rfl,by rw[ze (ne c rfl h1)];exact p1,p2,p3,p4⟩
 refine keepE.putOwn ⟨p,[(ks,vv)],rfl,zj,.cons ⟨rfl,r2⟩ .nil,hf2,h0p⟩ λj s hj hs ho z=>?_
 obtain⟨o',h1,h2⟩:=En.val j s hs
 rw[z]at h1;cases h1
 cases s with
 | un=>cases ho
 | v d=>cases ho
 | ol ds=>obtain⟨a',vs,e',q1,_⟩:=h2;cases e';rw[hp]at q1;cases q1
 | ot kvs=>obtain⟨a',vs,e',q1,_⟩:=h2;cases e';rw[hp]at q1;cases q1
 | ok kvs=>obtain⟨a',vs,e',q1,_⟩:=h2;cases e';rw[hp]at q1;cases q1
end
end DD
namespace L2
open PySem PySem.Spec PyProof.Rows
section
variable {P:aU} {w:aO} {K:aE} {mg:aC->Option aA} {base:aN} {N:List aC} {qual:aC} {scope:bU} {f C:aB} {cdv:aA} {A:bB} {outer:List bS} {s₀:aD} {H₀:Hp} {E:XK}
end
section
variable {X:Cx} {pins:List (aB×aL)} {σ:St} {H:Hp} {s s':aD} {C a:aB} {e:aA} {H':Hp} {B h:aN} {a0:aA}
end
end L2
namespace L2
open PySem PySem.Spec PyProof.Rows
section
variable {P:aU} {w:aO} {K:aE} {mg:aC->Option aA} {base:aN} {N:List aC} {qual:aC} {scope:bU} {f C:aB} {cdv:aA} {A:bB} {outer:List bS} {s₀:aD} {H₀:Hp} {E:XK}
end
section
variable {X:Cx} {pins:List (aB×aL)} {σ:St} {H:Hp} {s:aD}
end
end L2
namespace DD
open PySem PySem.Spec L2
open PyProof.Rows hiding St
section
variable {X:Cx}
end
end DD
namespace L2
open PySem PySem.Spec PyProof.Rows PySem.W
section
variable {prog:aU} {w:aO} {A:bB} {E:aA->aD->Prop} {K:aE} {h:aN} {g:Array ig} {d:Drawn} {t:Nat} {os:OsState} {a C:aB} {oe:aL}
end
section
variable {X:Cx}
end
end L2
namespace L2
open PySem PySem.Spec PyProof.Rows
section
variable {X:Cx}
end
end L2
namespace DD
open PySem PySem.Spec L2
open PyProof.Rows hiding St
section
variable {K:aE} {F H:Hp} {X:Cx}
def ZB:=mI (λi j=>decide (0<=j) && decide (j<=1000) && decide (-1000<i) && decide (i<1000)) λi j=>.int (i^j.toNat)
theorem zfQ:OpB K (rI zfj λi j=>.int (i^j.toNat)) ZB:=Vy (λi j h=>by
 simp only[fE,decide_eq_true_eq]at h
 exact⟨h.1.1.1,by omega,by omega⟩) λF i j=>xB
end
end DD
namespace DD
open PySem PySem.Spec L2
open PyProof.Rows hiding St
section
variable {X:Cx}
end
end DD
namespace L2
open PySem PySem.Spec PyProof.Rows
section
variable {X:Cx}
end
end L2
namespace DD
open PySem PySem.Spec L2
open PyProof.Rows hiding St
section
variable {X:Cx} {K:aE} {a e:aF} {f g:G->Option B}
def zgY:List D->Option (List aC)
 | []=>some []
 | .str x::r=>(zgY r).map (x::·)
 | _=>none
def ziA(j:aC)(xs:List aC):Bool:=decide (j.length<=16) && decide ((xs.map (·.length)).sum+xs.length<=1048576)
end
end DD
namespace L2
open PySem PySem.Spec PyProof.Rows
section
variable {X:Cx}
end
end L2
namespace DD
open PySem PySem.Spec L2
open PyProof.Rows hiding St
section
variable {X:Cx} {K:aE} {a e:aF} {f g:G->Option B}
end
end DD
namespace L2
open PySem PySem.Spec PyProof.Rows
section
variable {X:Cx}
end
end L2
namespace DD
open PySem PySem.Spec L2
open PyProof.Rows hiding St
section
variable {K:aE} {F H:Hp} {X:Cx}
end
end DD
namespace DD
open PySem PySem.Spec L2
open PyProof.Rows hiding St
section
variable {X:Cx} {a b tg:aF} {fs:G->Option (List B)} {pos:aK}
end
end DD
namespace L2
open PySem PySem.Spec PyProof.Rows
section
variable {X:Cx} {pins:List (aB×aL)} {σ:St} {H:Hp} {s:aD}
theorem zaT{cs:List aB}{u v:V}{x y:aA}{tk':Nat}{h':aN}(I:Inv X pins σ H s)(j:∀b∈cs,xz X pins H b)(U:zz u x)(Y:zz v y) 
  (Z:h'.get? s.heap.objs.size=some {cls:=.type "tuple",data:=.seq #[x,y]}) (R:∀b o,b∉cs->s.heap.get? b=some o->h'.get? b=some o) :
  Inv X pins σ (upd H s.heap.objs.size (.tup [u,v])) {s with heap:=h',toks:=tk'}:=by
 have hn:H s.heap.objs.size=none:=I.hok.fresh (aP _)
 have fT:xz X pins H s.heap.objs.size:=I.fpOk (aP _) hn
 have ch:∀b∈s.heap.objs.size::cs,xz X pins H b:=λb J=>by
  rcases aW.mp J with q|J
  ·rw[q];exact fT
  ·exact j b J
 have ne:∀b,b∉s.heap.objs.size::cs->b∉cs:=λb J z=>J (bC _ z)
 have neT:∀b o,s.heap.get? b=some o->b≠s.heap.objs.size:=λb o q=>bO (aZ q)
 refine I.step (g':=s.gens) (d':=s.drawn) (ch:=s.heap.objs.size::cs) (λb J=>let ⟨_,q1,_,q2,q3,q4⟩:=ch b J;⟨q2,q1,q3,q4⟩)
  (λb o _ _ O q _=>R b o (ne b O) q) (λb o _ _ O q _=>⟨o.slots,R b o (ne b O) q⟩) (λb o O q n=>by rw[ze (neT b o q)];exact n) (λb o O q=>⟨o,R b o (ne b O) q⟩)
  (λb xs q=>by rw[ze (zq q hn)];exact q) (λb o u q=>by rw[ze (zq q hn)];exact q) (λb ps q=>⟨#[],by rw[ze (zq q hn),q];simp⟩) (λm hm=>?_) ?_ I.bare
 ·obtain⟨o,es,ep,ho,r⟩:=hm
  exact⟨o,es,ep,R _ o (λz=>(j _ z).2.1 rfl) ho,r⟩
 ·refine HOk.track I.hok hn (λb u nb q=>R b u (λz=>nb (j b z).1) q) ?_
  exact⟨by show 2<=aH;decide,[x,y],.cons U (.cons Y .nil),⟨_,Z,rfl,_,rfl⟩⟩
theorem Jv{cs:List aB}{tk':Nat}{h':aN}(I:Inv X pins σ H s)(J:∀b∈cs,xz X pins H b)(O:∀b o,b∉cs->s.heap.get? b=some o->h'.get? b=some o):
  Inv X pins σ H {s with heap:=h',toks:=tk'}:=by
 refine I.step (g':=s.gens) (d':=s.drawn) (ch:=cs) (λb R=>let ⟨_,U,_,Y,Z,q4⟩:=J b R;⟨Y,U,Z,q4⟩)
  (λb o _ _ j q _=>O b o j q) (λb o _ _ j q _=>⟨o.slots,O b o j q⟩) (λ_ _ _ _ n=>n) (λb o j q=>⟨o,O b o j q⟩)
  (λ_ _ q=>q) (λ_ _ _ q=>q) (λb ps q=>⟨#[],by rw[q];simp⟩) (λm hm=>?_) (λb u q=>?_) I.bare
 ·obtain⟨o,es,ep,ho,r⟩:=hm
  exact⟨o,es,ep,O _ o (λz=>(J _ z).2.1 rfl) ho,r⟩
 ·refine(I.hok b u q).stay (λc v j e=>O c v (λz=>?_) e) (λ_ q=>q) λ_ _ q=>q
  have:=(J c z).1
  rcases j with rfl|j
  ·rw[q]at this;cases this
  ·rw[j]at this;cases this
end
section
variable {X:Cx}
end
end L2
namespace DD
open PySem PySem.Spec L2
open PyProof.Rows hiding St
section
variable {X:Cx} {a b:aF} {fs:G->Option (List B)} {pos:aK}
def zil(xs ys:List D):List D:=mu (λu v=>D.tup [u,v]) xs ys
end
end DD
namespace DN
open PySem PySem.Spec L2
open PyProof.Rows hiding St
theorem Xt:entryFor table "dict.update.loop"=some jj.«dict.update.loop»:=entryFor_of_tree (by kernel_rfl)
theorem vB:plainId "dict.update.loop"=true:=by decide+kernel
theorem zer:g9 (.type "list") "keys"=pure none:=by rw[kB,kC];kernel_rfl
section
variable {prog:aU} {w:aO} {A:bB} {E:aA->aD->Prop} {s:aD}
theorem zes{a:aB}{xs:Array aA}{k:Nat}{sl:Array (Option aA)}{name:aC}{u:dU}{Q:aA->aD->Prop} 
  (hx:s.heap.get? a=some {cls:=.type "list",dict:=none,data:=.seq xs k,slots:=sl}) (hmiss:g9 (.type "list") name=pure none)
  (hname:(["__module__","__name__","__qualname__","__doc__","__annotations__"]:List aC).contains name=false) (hA:A.handled=none)
  (h:∀h' tk e,Heap.NewExcOf s.heap h' e "AttributeError"->E (.ref e) {s with heap:=h',toks:=tk}) (hsz:name.length+100<=aH:=by size_fits) :
  wpAny (aI prog w) A (getAttrBy (.ref a) (.str name u) false) Q E s:=by
 obtain⟨hp,g,d,tk,os⟩:=s
 have hT:∀tk',(⟨hp,g,d,tk',os⟩:aD).TypeIs (.ref a) "list":=λ_=>⟨_,hx,rfl⟩
 have f1:=mx
 have f3:=kE.lookup
 have f4:=kE.bind (.ref a)
 have f5:=am_list_getattr_none
 unfold getAttrBy
 repeat (any_goals (first|assumption|exact hT _|((with_reducible show wpAny _ _ (call (Value.builtin "list.__getattribute__") _ _) _ _ _);refine jc kE (hT _) am_entry_list_getattribute (F.args_list_getattribute_2 _ _) (meets_getattribute_miss_list a xs k sl name _ hmiss hname hsz) ⟨hx,hA,λh' tk' e hx'=>?_⟩)|wp_step))
 obtain⟨t',u',he⟩:=hx'.there
 show wpAny _ _ (my _ _ _ _ _ _ _) _ _ _
 unfold my
 repeat (any_goals (first|assumption|wp_step))
 exact h _ _ _ hx'.of
theorem zaU{a:aB}{xs:Array aA}{k:Nat}{sl:Array (Option aA)}{name:aC}{Q:Option aA->aD->Prop} 
  (hx:s.heap.get? a=some {cls:=.type "list",dict:=none,data:=.seq xs k,slots:=sl}) (hmiss:g9 (.type "list") name=pure none)
  (hname:(["__module__","__name__","__qualname__","__doc__","__annotations__"]:List aC).contains name=false) (hA:A.handled=none)
  (h:∀h' tk,(∀b o,s.heap.get? b=some o->h'.get? b=some o)->Q none {s with heap:=h',toks:=tk}) (hsz:name.length+100<=aH:=by size_fits) :
  wpAny (aI prog w) A (getAttr? (.ref a) name) Q E s:=by
 unfold getAttr? getAttrBy?
 refine aJ (wpAny_mkText ?_)
 refine aJ (kx (zes (s:={s with toks:=s.toks+1}) hx hmiss hname hA (λh' tk e hx'=>?_) hsz))
 obtain⟨ob,vs,he,hc,_⟩:=hx'.there
 refine aJ (jm (T:="AttributeError") ⟨ob,he,hc⟩ mx ?_)
 exact bM (h _ _ hx'.keeps)
theorem loop{d I l:aB}{its:Array aA}(hA:A.handled=none)(hdI:d≠I)(hdl:d≠l)(hlI:l≠I)(kvs:List (Key×aA))(hn:its.size=kvs.length)(hsz:kvs.length<=100000){R:i7->aD->Prop}:
  ∀(n i:Nat) (s:aD) (acc:List (Key×aA)),kvs.length-i=n->i<=kvs.length->acc.length<=i->s.heap.IsListIter I l i->s.heap.IsList l its->s.heap.DictOf (zG prog w) d acc->
   (∀j (hj:j<kvs.length),∃b key,its[j]?=some (.ref b)/\b≠d/\b≠I/\fL s.heap b #[key,(kvs[j]'hj).2]/\(zG prog w).is (kvs[j]'hj).1 key=true)->
   (∀h' tk,h'.DictOf (zG prog w) d (merged acc (kvs.drop i))->(∀b o,b≠d->b≠I->s.heap.get? b=some o->h'.get? b=some o)->R (.ok (.ret .none)) {s with heap:=h',toks:=tk})->
   codeAny (aI prog w) A (.builtin "dict.update.loop" ⟨[.ref d,.ref I,.int i 0,.none],[]⟩) R s:=by
 have hA1:A.in1.handled=none:=by simp[hA]
 intro n
 induction n with
 | zero=>
  intro i s acc hk hi hac hit hl hd hT hR
  have hin:i=kvs.length:=by omega
  subst hin
  refine iG Xt ?_
  rw[iH vB _]
  show wpAny _ A.in1 (gC (.ref I)>>=_) _ _ s
  refine aJ (lj hA1 hit hl (by simp[hn]) λh' he=>?_)
  refine bM ?_
  rw[kA]at hR
  exact hR h' s.toks ((by obtain⟨o,es,ep,ho,r⟩:=hd;exact⟨o,es,ep,he d o hdI ho,r⟩)) λb o h1 h2 e=>he b o h2 e
 | succ n ih=>
  intro i s acc hk hi hac hit hl hd hT hR
  have hlt:i<kvs.length:=by omega
  obtain⟨b,key,hb,hbd,hbI,ht,hkey⟩:=hT i hlt
  refine iG Xt ?_
  rw[iH vB _]
  show wpAny _ A.in1 (gC (.ref I)>>=_) _ _ s
  refine aJ (li hit hl hb λh1 hit1 hs1=>?_)
  have k1:∀b o,b≠I->s.heap.get? b=some o->h1.get? b=some o:=λb o hb e=>hs1.extBut b o hb e
  have ht1:fL h1 b #[key,(kvs[i]'hlt).2]:=(by obtain⟨o,ho,r⟩:=ht;exact⟨o,k1 b o hbI ho,r⟩)
  have hd1:h1.DictOf (zG prog w) d acc:=(by obtain⟨o,es,ep,ho,r⟩:=hd;exact⟨o,es,ep,k1 d o hdI ho,r⟩)
  refine aJ (gU ?_)
  refine aJ (wpAny_tryCatch ?_)
  obtain⟨o,ho,hc,m,hdat⟩:=ht1
  unfold nO
  refine aJ (jw (T:="tuple") ⟨o,ho,hc⟩ ?_)
  rw[if_pos (by decide)]
  refine aJ (kw ho hdat (bM ?_))
  show wpAny _ _ (eM [key,(kvs[i]'hlt).2] (dictSet d key (kvs[i]'hlt).2)) _ _ _
  refine gU ?_
  refine wpAny_dictSet_pairs (s:={s with heap:=h1}) (knd:=zG prog w) hkey hd1 (λh2 hd2 hs2=>?_) (by rw[eX];omega)
  have k2:∀b o,b≠d->b≠I->s.heap.get? b=some o->h2.get? b=some o:=λb o h3 h4 e=>hs2.extBut b o h3 (k1 b o h4 e)
  refine bM ⟨iI vB _,?_⟩
  show codeAny (aI prog w) A (.builtin "dict.update.loop" ⟨[.ref d,.ref I,.int ((i:Int)+1) 0,.none],[]⟩) R _
  have ei:((i:Int)+1)=((i+1:Nat):Int):=by omega
  rw[ei]
  refine ih (i+1) _ (jp acc (kvs[i]'hlt).1 (kvs[i]'hlt).2) (by omega) (by omega) (by have:=stored_length_le acc (kvs[i]'hlt).1 (kvs[i]'hlt).2;omega) ?_ ?_ hd2 ?_ ?_
  ·obtain⟨o,ho,r⟩:=hit1
   exact⟨o,hs2.extBut I o (aT hdI) ho,r⟩
  ·obtain⟨o,ho,r⟩:=hl
   exact⟨o,k2 l o (aT hdl) hlI ho,r⟩
  ·intro j hj
   obtain⟨b,key,q1,q2,q3,⟨o,ho,r⟩,q5⟩:=hT j hj
   exact⟨b,key,q1,q2,q3,⟨o,k2 b o q2 q3 ho,r⟩,q5⟩
  ·intro h' tk hd' hk'
   refine hR h' tk ?_ λb o h3 h4 e=>hk' b o h3 h4 (k2 b o h3 h4 e)
   rw[kz hlt]
   exact hd'
theorem Jw{l:aB}{its:Array aA}{n:Nat}{sl:Array (Option aA)}{kvs:List (Key×aA)}{Q:aA->aD->Prop}(hA:A.handled=none) 
  (hl:s.heap.get? l=some {cls:=.type "list",dict:=none,data:=.seq its n,slots:=sl}) (hn:its.size=kvs.length) (hsz:kvs.length<=100000)
  (hp:∀j (hj:j<kvs.length),∃b key,its[j]?=some (.ref b)/\fL s.heap b #[key,(kvs[j]'hj).2]/\(zG prog w).is (kvs[j]'hj).1 key=true)
  (h:∀h' tk,h'.DictOf (zG prog w) s.heap.objs.size (merged [] kvs)->(∀b o,s.heap.get? b=some o->h'.get? b=some o)->Q (.ref s.heap.objs.size) {s with heap:=h',toks:=tk}) :
  wpAny (aI prog w) A (call (.type "dict") [.ref l]) Q E s:=by
 refine mz (Q₁:=λobj s₁=>obj=.ref s.heap.objs.size/\s₁={s with heap:=s.heap.push {cls:=.type "dict",data:=.dict #[]}}) F.kt_called_dict (F.kt_typeCall_dict_1 _) F.entry_dict_init (kt_code_dict_new _ ⟨rfl,rfl⟩) ?_
 rintro obj s₁ ⟨rfl,rfl⟩
 have hnew:(s.heap.push {cls:=.type "dict",data:=.dict #[]}).DictOf (zG prog w) s.heap.objs.size []:=mf s.heap
 have hl':(s.heap.push {cls:=.type "dict",data:=.dict #[]}).get? l=some {cls:=.type "list",dict:=none,data:=.seq its n,slots:=sl}:=bJ _ hl
 have hA2:A.in1.in1.handled=none:=by simp[hA]
 refine⟨hnew.typeIs,F.args_dict_init_2 _ _,?_⟩
 unfold jj.«dict.__init__»
 refine aJ ?_
 unfold nP
 refine aJ (wpAny_notOrdered_dict hnew.typeIs ?_)
 show wpAny _ _ (pure (s.heap.objs.size,[Value.ref l])) _ _ _
 refine bM ?_
 show wpAny _ _ (mB "dict.__init__" s.heap.objs.size (.ref l) [] .none) _ _ _
 unfold mB
 refine aJ (jw (T:="list") ⟨_,hl',rfl⟩ ?_)
 rw[if_pos (by decide)]
 refine aJ (zaU hl' zer (by decide+kernel) hA2 λh1 tk1 k1=>?_)
 rw[if_pos (show(Option.none:Option aA).isNone=true from rfl)]
 refine aJ (wpAny_rule ?_)
 have hl1:h1.IsList l its:=⟨_,k1 _ _ hl',rfl,n,rfl⟩
 refine aJ (ik hl1 ?_)
 have hdl:s.heap.objs.size<h1.objs.size:=aZ (k1 s.heap.objs.size _ (bW _ rfl))
 have hll:l<s.heap.objs.size:=aZ hl
 refine bM ⟨iI vB _,?_⟩
 have k0:∀b o,s.heap.get? b=some o->(h1.push {cls:=.type "list_iterator",data:=.fields #[.ref l,.int 0 0]}).get? b=some o:=λb o e=>bJ _ (k1 b o (bJ _ e))
 refine loop (by simp[hA]) (d:=s.heap.objs.size) (I:=h1.objs.size) (l:=l) (its:=its) (bO hdl) (jP hll) (bO (eD hll hdl)) kvs hn hsz kvs.length 0 _ [] (by omega) (by omega) (by simp) ?_ ?_ ?_ ?_ ?_
 ·exact⟨_,bW _ rfl,rfl,rfl⟩
 ·exact⟨_,k0 _ _ hl,rfl,n,rfl⟩
 ·obtain⟨o,es,ep,ho,r⟩:=hnew
  exact⟨o,es,ep,bJ _ (k1 _ _ ho),r⟩
 ·intro j hj
  obtain⟨b,key,q1,⟨o,ho,r⟩,q3⟩:=hp j hj
  have hb:b<s.heap.objs.size:=aZ ho
  exact⟨b,key,q1,bO hb,bO (eD hb hdl),⟨o,k0 b o ho,r⟩,q3⟩
 ·intro h' tk hd' hk'
  refine⟨rfl,h h' tk hd' λb o e=>hk' b o ?_ ?_ (k0 b o e)⟩
  ·exact bO (aZ e)
  ·exact bO (eD (aZ e) hdl)
end
end DN
namespace L2
open PySem PySem.Spec PyProof.Rows
section
variable {X:Cx}
def YT(H:Hp):List V->List (Key×V)->Prop:=Paired λv j=>∃b,v=.ref b/\H b=some (.tup [kV j.1,j.2])
def zfR:List V->Hp->VK->Prop:=λxs H Q=>∃a ps kvs,xs=[.ref a]/\H a=some (.lst ps)/\YT H ps kvs/\kvs.length<=100000/\∀p,H p=none->Q (.ref p) (upd H p (.dK (xW [] kvs)))
theorem Ue{P:aU}{w:aO}{H:Hp}{h:aN}(ok:HOk P w H h):∀{ps:List V} {kvs:List (Key×V)} {its:List aA},YT H ps kvs->zC ps its->∃rs:List (Key×aA),KV kvs rs/\rs.length=its.length/\
  ∀j (hj:j<rs.length),∃b key,its[j]?=some (.ref b)/\fL h b #[key,(rs[j]'hj).2]/\(zG P w).is (rs[j]'hj).1 key=true
 | _,_,its,.nil,r=>by
  cases r
  exact⟨[],.nil,rfl,λj hj=>absurd hj (by simp)⟩
 | _,_,its,@Paired.cons _ _ _ v kv vs kvs ⟨b,e,hb⟩ t,r=>by
  cases r with
  | @cons _ u _ us r1 r2=>
   obtain⟨rs,h1,h2,h3⟩:=Ue ok t r2
   subst e
   cases r1
   obtain⟨_,ts,rt,hT⟩:=(show yf P w H h b (.tup _)from ok b _ hb)
   obtain⟨key,val,rfl,rk,rv⟩:∃key val,ts=[key,val]/\zz (kV kv.1) key/\zz kv.2 val:=by
    cases rt with
    | cons q1 q2=>
     cases q2 with
     | cons q3 q4=>cases q4;exact⟨_,_,rfl,q1,q3⟩
   refine⟨(kv.1,val)::rs,.cons ⟨rfl,rv⟩ h1,by simp[h2],λj hj=>?_⟩
   cases j with
   | zero=>exact⟨b,key,rfl,hT,v9 rk⟩
   | succ j=>exact h3 j (by simpa using hj)
theorem Jx(hc:X.calm=true):xc X (.type "dict") zfR:=by
 rintro pins s σ H xs us Q I r ⟨a,ps,kvs,e,ha,hp,hz,q⟩
 subst e
 obtain⟨u,rfl,ru⟩:=vd r
 cases ru
 obtain⟨_,its,n,rv,e⟩:=(show yf X.prog X.w H s.heap a (.lst ps)from I.hok a _ ha)
 obtain⟨rs,hkv,hl,hj⟩:=Ue I.hok hp rv
 have hlen:rs.length=kvs.length:=(Paired.length hkv).symm
 refine DN.Jw (kvs:=rs) (I.ok.hd hc) e (by simp[hl]) (by omega) (λj h=>by simpa using hj j h) λh' tk hd hk=>?_
 have hz2:(xW [] kvs).length<=aH:=by
  have h1:=vt kvs []
  rw[jo]at h1
  rw[eX];omega
 exact⟨.ref s.heap.objs.size,_,I.laid (a:=s.heap.objs.size) (o:=.dK (xW [] kvs)) (t':=tk) hk (aP _) (Xk hz2 (by
  have:=I.big
  simp;exact jP this) (hkv.merge .nil) hd),rfl,q _ (I.hok.fresh (aP _))⟩
end
end L2
namespace DD
open PySem PySem.Spec L2
open PyProof.Rows hiding St
section
variable {X:Cx} {e:aF} {fs:G->Option (List B)} {pos:aK}
def wO:List D->Option (List (Key×D))
 | []=>some []
 | .tup [k,v]::r=>(Zy k).bind λk=>(wO r).map λt=>(k,v)::t
 | _=>none
def wP(kvs j:List (Key×D)):List (Key×D):=j.foldl (λacc q=>yO acc q.1 q.2) kvs
def uy(i:Nat)(fs:G->Option (List B)):G->Option Out:=λΓ=>(fs Γ).bind λbs=>match bs with
 | [.d (.lst ds)]=>(wO ds).bind λkvs=>if kvs.length<=100000 then some (.nx (Γ.set i (.ok (wP [] kvs))))else none
 | _=>none
theorem W5{K:aE}{F:Hp}:∀{ds:List D} {kvs:List (Key×D)} {vs:List V},wO ds=some kvs->Are K F ds vs->∃ws,YT F vs ws/\y2 K F kvs ws
 | [],kvs,vs,e,r=>by
  cases e
  rw[r.inv0]
  exact⟨[],.nil,.nil⟩
 | d::ds,kvs,vs,e,r=>by
  match d,e,r with
  | .tup [k,v],e,r=>
   obtain⟨q,z,e⟩:=bind_some e
   obtain⟨t,J,rfl⟩:=map_some e
   obtain⟨x,xs,rfl,h1,h2⟩:=r.inv
   obtain⟨ws,O,R⟩:=W5 J h2
   simp only[Is]at h1
   obtain⟨b,us,rfl,U,j⟩:=h1
   obtain⟨u1,r1,rfl,Y,j⟩:=j.inv
   obtain⟨Z,r2,rfl,i2,j⟩:=j.inv
   have:=j.inv0;subst this
   have:=uw z Y;subst this
   exact⟨(q,Z)::ws,.cons ⟨b,rfl,U⟩ O,.cons ⟨rfl,i2⟩ R⟩
theorem zaV{K:aE}{F:Hp}:∀{j:List (Key×D)} {ws:List (Key×V)} {kvs:List (Key×D)} {vs:List (Key×V)},y2 K F j ws->y2 K F kvs vs->y2 K F (wP kvs j) (xW vs ws):=λ{j ws kvs vs} h=>by
 induction h generalizing kvs vs with
 | nil=>exact λr=>r
 | @cons p q ps J h t z=>
  intro r
  obtain⟨e,h⟩:=h
  exact z (kvs:=yO kvs p.1 p.2) (vs:=xf vs q.1 q.2) (by rw[<-e];exact Wg r h)
theorem YT.mono(s:zp F H)(h:YT F vs ws):YT H vs ws:=Paired.mapP h λ_ _ j=>by obtain⟨b,e,q⟩:=j;exact⟨b,e,s _ _ q⟩
theorem QI{i:Nat}{x:aC}{p p2 p3:aK}(hc:X.calm=true)(hN:X.N.Nodup)(hi:X.N[i]?=some x)(hx:Loc X.env.scope x)(hg:Gl X "dict")(hm:X.mg "dict"=none)(ha:EA X [e] fs) 
  (he:aX [e] X.env=[(false,aQ e X.env)]:=by rfl) (hs:cO (.Call (.Name "dict" p2) [e] [] p3) (some (.Name x p)) pos.line X.env=pure false:=by rfl)
  (hf:X.fn x=true\/X.env.scope.names.lookup x=some .local:=by first|exact .inl rfl|exact .inr rfl|assumption) :
  SD X (.Assign [.Name x p] (.Call (.Name "dict" p2) [e] [] p3) pos) (uy i fs) :=
 ym (xa hN hi hx (Zr (Jx hc) hg hm boot_dict ha (by decide) (by decide) he (by rfl)) hs hf) λE σ H hh59'=>by
  obtain⟨F0,H0,F,Γ,z,En,e,q⟩:=hh59'
  obtain⟨bs,hb,e⟩:=bind_some e
  refine⟨F0,H0,F,Γ,bs,En,hb,λvs F1 H1 e1 r1=>?_⟩
  match bs,e,r1 with
  | [.d (.lst ds)],e,r1=>
   obtain⟨kvs,hk,e⟩:=bind_some e
   by_cases hz:kvs.length<=100000
   ·rw[if_pos hz]at e;cases e
    obtain⟨v,rfl,hv⟩:=x9 r1
    have hv':Is X.K F1 (.lst ds) v:=hv
    simp only[Is]at hv'
    obtain⟨a,us,rfl,hfa,ra⟩:=hv'
    obtain⟨ws,q1,q2⟩:=W5 hk ra
    refine⟨a,us,ws,rfl,e1.fh _ _ hfa,YT.mono e1.fh q1,by rw[YR q2];exact hz,λpp hp=>?_⟩
    have E1:=En.grow e1
    have ex:Ext F1 H1 F1 (upd H1 pp (.dK (xW [] ws))):=.own e1.fh hp _
    refine q _ F1 _ ((E1.grow ex).putOwn ⟨pp,xW [] ws,rfl,zj,zaV q2 .nil,e1.fh.free hp,E1.ext.hh.free hp⟩ λj s hj hs ho z=>?_) (e1.trans ex).ff
    obtain⟨o',h1,h2⟩:=E1.val j s hs
    rw[z]at h1;cases h1
    cases s with
    | un=>cases ho
    | v d=>cases ho
    | ol ds=>obtain⟨a',vs,e',q1,_⟩:=h2;cases e';rw[hp]at q1;cases q1
    | ot kvs=>obtain⟨a',vs,e',q1,_⟩:=h2;cases e';rw[hp]at q1;cases q1
    | ok kvs=>obtain⟨a',vs,e',q1,_⟩:=h2;cases e';rw[hp]at q1;cases q1
   ·rw[if_neg hz]at e;cases e
end
end DD
namespace DD
open PySem PySem.Spec L2
open PyProof.Rows hiding St
section
variable {X:Cx} {a b c e:aF} {f g h:G->Option B} {pos:aK} {es:List aF} {fs:G->Option (List B)}
def VF(i:Nat)(q z:G->Option B):G->Option Out:=λΓ=>(we Γ i).bind λds=>(z Γ).bind λJ=>J.asD.bind λv=>(q Γ).bind λO=>O.int.bind λk=>(ixN ds.length k).map λj=>.nx (Γ.set i (.ol (ds.set j v)))
theorem zfS{i:Nat}{x:aC}{ix value:aF}{fi fv:G->Option B}{px ppos:aK}(ho:PE X (.Name x px) (uQ i))(hi:EE X ix fi)(hv:EE X value fv) 
  (ha:∀v,dX (.Subscript (.Name x px) ix ppos) X.env v=(do
   let ov <-eM [v] (aQ (.Name x px) X.env)
   let iv <-eM [v,ov] (aQ ix X.env)
   gT ppos
   eM [v,ov,iv] (iX ov iv v)
   release [v,ov,iv] []):=by intro _;rfl)
  (hs:jN [.Subscript (.Name x px) ix ppos] value pos.line X.env=pure false:=by rfl) (hw:jO [.Subscript (.Name x px) ix ppos] value X.env=pure none:=by rfl)
  (h1:(dY [.Subscript (.Name x px) ix ppos] X.env).map (·.2)=[dX (.Subscript (.Name x px) ix ppos) X.env]:=by rfl) :
  SD X (.Assign [.Subscript (.Name x px) ix ppos] value pos) (VF i fi fv):=ym (Zm hv (Y9 ho hi uT ha) hs hw h1) λE σ H ⟨F0,H0,F,Γ,o,En,e,q⟩=>by
 obtain⟨ds,hd,e⟩:=bind_some e
 obtain⟨bv,hbv,e⟩:=bind_some e
 obtain⟨v,hv,e⟩:=bind_some e
 obtain⟨bi,hbi,e⟩:=bind_some e
 obtain⟨k,hk,e⟩:=bind_some e
 obtain⟨j,hj,rfl⟩:=map_some e
 have:=yy hv;subst this
 have hi:=Zx hd
 refine⟨F0,H0,F,Γ,_,En,hbv,λw F1 H1 e1 r1=>?_⟩
 obtain⟨o,h1,p,vs,rfl,h2,h3,h4,h5⟩:=En.val i _ hi
 refine⟨_,h1,F0,H0,F1,Γ,_,En.grow e1,hbi,λu F2 H2 e2 r2=>?_⟩
 have hf1:F1 p=none:=e1.freed h4 (by rw[h2];simp)
 have h21:=e1.hh _ _ h2
 have hf2:F2 p=none:=e2.freed hf1 (by rw[h21];simp)
 have hu:=wI hk r2
 subst hu
 refine⟨p,vs,k,j,rfl,rfl,e2.hh _ _ h21,by rw[h3.length];exact hj,?_⟩
 exact q σ F2 _ (((En.grow e1).grow e2).change (s1:=.ol ds) hi rfl h1 h5 hf2 ⟨p,vs.set j w,rfl,zj,((h3.mono e1.ff).mono e2.ff).set (Is.mono e2.ff _ r1) j,hf2,h5⟩) (e1.ff.trans e2.ff)
def zcd(i:Nat)(f:G->Option B):G->Option Out:=λΓ=>(za i Γ).bind λx=>x.int.bind λk=>(f Γ).bind λy=>y.int.map λj=>.nx (Γ.set i (.v (.int (k+j))))
theorem zgZ{i:Nat}{x:aC}{p:aK}(hN:X.N.Nodup)(hi:X.N[i]?=some x)(U:Loc X.env.scope x)(he:EE X e f)(hf:X.fn x=true\/X.env.scope.names.lookup x=some .local:=by first|exact .inl rfl|exact .inr rfl|assumption):
  SD X (.AugAssign (.Name x p) .Add e pos) (zcd i f):=ym (zfd hN hi U he zfe hf) λE σ H ⟨F0,H0,F,Γ,o,Y,e,q⟩=>by
 obtain⟨bx,O,e⟩:=bind_some e
 obtain⟨k,R,e⟩:=bind_some e
 obtain⟨y,hy,e⟩:=bind_some e
 obtain⟨j,hj,rfl⟩:=map_some e
 have U:∃v,σ[i]?=some (some v)/\v=.int k:=by
  unfold za at O
  cases z:Γ[i]? with
  | none=>rw[z]at O;cases O
  | some s=>
   rw[z]at O
   have J:s.look=some bx:=O
   obtain⟨o',h1,h2⟩:=Y.val i s z
   cases s with
   | v d=>cases J;obtain⟨v,rfl,r⟩:=h2;exact⟨v,h1,wI (F:=F) (H:=H) R r⟩
   | un=>cases J
   | ol ds=>cases J;cases R
   | ot ds=>cases J;cases R
   | ok ds=>cases J;cases R
 obtain⟨v,hv,rfl⟩:=U
 refine⟨_,hv,F0,H0,F,Γ,_,Y,hy,λu F1 H1 Z r1=>?_⟩
 have hu:=wI hj r1
 subst hu
 exact⟨k,j,rfl,rfl,q _ F1 H1 ((Y.grow Z).put (by simp[Is])) Z.ff⟩
def zaW(i:Nat)(k:Int)(v:Bool):G->Option Out:=λΓ=>some (.nx (Γ.set i (.ok [(Sum.inl k,.bl v)])))
theorem zet{i:Nat}{x:aC}{p dp kp vp:aK}{kk vv:Nat}{k:Int}{v:Bool}(hN:X.N.Nodup)(hi:X.N[i]?=some x)(hx:Loc X.env.scope x)(hs:cO (.Dict [some (.Constant (.int k) kk kp)] [.Constant (.bool v) vv vp] dp) (some (.Name x p)) pos.line X.env=pure false:=by rfl)(hf:X.fn x=true\/X.env.scope.names.lookup x=some .local:=by first|exact .inl rfl|exact .inr rfl|assumption):
  SD X (.Assign [.Name x p] (.Dict [some (.Constant (.int k) kk kp)] [.Constant (.bool v) vv vp] dp) pos) (zaW i k v) :=
 ym (xa hN hi hx (QC (trs:=[(tC (.int k),tC (.bl v))]) (YM wE vz Wc) rfl rfl (by simp) (by show 1<=15;decide)) hs hf) λE σ H q=>by
  have:=ZA (X:=X) (o:=.dK [(Sum.inl k,.bl v)]) (s0:=.ok [(Sum.inl k,.bl v)]) (λF H a _ h1 h2 H0 h3=>⟨a,[(Sum.inl k,.bl v)],rfl,h1,.cons ⟨rfl,by simp[Is]⟩ .nil,h2,h3⟩) q
  intro p hp
  refine⟨zj,[(Sum.inl k,.bl v)],rfl,by simp,?_⟩
  rw[Qo]
  exact this p hp
theorem zeu(hu:X.A.units+1<bV):IxR X (λx y H Q=>∃a v,x=.ref a/\xn H a y (some v)/\Q v H):=by
 intro value slice pins s σ H x y v u Q I rx ry h hs
 obtain⟨a,z,rfl,g,q⟩:=h
 cases rx
 have hT:=YB I g
 unfold ke
 refine aJ ?_
 rw[l8 hT.not_modules]
 refine aJ (js hT me.lookup ?_)
 have fin:wpAny (aI X.prog X.w) X.A (iy slice false (.ref a) u) (λr s₃=>wpAny (aI X.prog X.w) X.A (l9 value (.ref a) r>>=λ_=>pure r) (EP X pins σ Q) X.xe s₃) X.xe s:=by
  rw[hs]
  exact ma (dC (W2 hu I g ry λw' s3 I3 rw'=>(⟨z,H,I3,rw',q⟩:EP X pins σ Q w' s3)) (λr s₃ h₃=>aJ (md (bM h₃))) λ_ _ x=>x)
 first
  | exact bM (aJ fin)
  | exact aJ (bM (aJ fin))
  | exact aJ fin
theorem zce{K:aE}:OpB K (λx y H Q=>∃a v,x=.ref a/\xn H a y (some v)/\Q v H) uc:=λF H x y v u d Q O R U Y q=>by
 obtain⟨k,Z,j⟩:=bind_some Y
 obtain⟨o,ho,z⟩:=bind_some j
 have:=yy Z;subst this
 have J:o=some d:=z
 subst J
 obtain⟨a,r,rfl,g,w,rfl,hw⟩:=Yb O R U ho
 exact⟨a,w,rfl,g,q _ F H (.refl O) hw⟩
def Wi:=mOr mIx uc
theorem zg0(R:X.A.units+1<bV)(U:EE X a f)(Y:EE X b g)(Z:X9 b):EE X (.Subscript a b pos) (x2 Wi f g) :=
 yl (wG ((xQ.or VT).or (zeu R)) U Y Z) λσ H Q j=>by
  obtain⟨F0,H0,F,Γ,z,E,e,q⟩:=j
  obtain⟨x,y,d,hx,hy,hd,rfl⟩:=vF e
  exact⟨F0,H0,F,Γ,x,E,hx,λv F1 H1 O r1=>⟨F0,H0,F1,Γ,y,E.grow O,hy,λu F2 H2 J r2=>(zdH.or zce) F2 H2 x y v u d Q J.fh (r1.ext J) r2 hd λw F' H' e3 r3=>q w F' H' ((O.trans J).trans e3) r3⟩⟩
end
def uZ:List D->Option (List Int)
 | []=>some []
 | .int i::r=>(uZ r).map λl=>i::l
 | _::_=>none
section
variable {K:aE} {F H:Hp}
theorem Uf:∀{ds:List D} {l:List Int} {us:List V},uZ ds=some l->Are K F ds us->us=l.map V.int
 | [],l,us,h,a=>by cases h;exact a.inv0
 | d::r,l,us,h,a=>by
  obtain⟨v,q,rfl,h1,h2⟩:=a.inv
  cases d with
  | int i=>
   unfold uZ at h
   obtain⟨m,j,rfl⟩:=eE.mp h
   simp only[Is]at h1
   rw[Uf j h2,h1];rfl
  | _=>cases h
end
section
variable {X:Cx} {a b c e:aF} {f g h:G->Option B} {pos:aK} {es:List aF} {fs:G->Option (List B)}
end
end DD
namespace L2
open PySem PySem.Spec PyProof.Rows
theorem zdK(h:(zG P w).is k u=true):zz (kV k) u:=by
 rcases yH h with⟨i,t,rfl,rfl⟩|⟨x,t,rfl,rfl⟩
 ·exact⟨t,rfl⟩
 ·exact⟨t,rfl⟩
def Itd(o:aL)(d:aB)(kvs:List (Key×V)):It :=
 ⟨λi H=>H d=some (.frz o (.dK kvs))/\i<kvs.length,λi H x H'=>∃T k v,H T=none/\x=.ref T/\kvs[i]?=some (k,v)/\H'=upd H T (.tup [kV k,v]),λi H=>H d=some (.frz o (.dK kvs))/\kvs.length<=i⟩
theorem KV.get{kvs:List (Key×V)}{vs:List (Key×aA)}(r:KV kvs vs){i:Nat}{k:Key}{v:V}(h:kvs[i]?=some (k,v)):∃u,vs[i]?=some (k,u)/\zz v u:=by
 induction r generalizing i with
 | nil=>simp at h
 | cons a t J=>
  cases i with
  | zero=>
   simp at h
   subst h
   obtain⟨a1,a2⟩:=a
   rename_i q _ _
   obtain⟨O,R⟩:=q
   have z:k=O:=a1
   subst z
   exact⟨R,rfl,a2⟩
  | succ j=>exact J (by simpa using h)
theorem Xu{P:aU}{w:aO}{K:aE}{elts:List aF}{k:Nat}{tp:aK}{d it:aB}{o:aL}{kvs:List (Key×V)}{vs:List (Key×aA)}{ep:Nat}(hdi:d≠it)(rel:KV kvs vs) 
  (hD:∀h:aN,h.get? d=some o->h.DictAt (zG P w) d vs ep) :
  Turn P w K (.Tuple elts k tp) (Itd o d kvs) [it] it (λi h=>∃ok ov,IsItemIter h it d i vs.length ep ok ov) where
 mem:=by simp
 obj:=λi h st b hb=>by
  have e:b=it:=by simpa using hb
  subst e
  obtain⟨ok,ov,e⟩:=st
  exact⟨_,e,λv z=>by
   have z':Data.fields _=Data.cell v:=z
   cases z'⟩
 keep:=λi h h' st k=>let ⟨ok,ov,e⟩:=st;⟨ok,ov,k it (by simp) _ e⟩
 item:=by
  intro X hP hw hK hc i pins s σ H E I hf st hg
  subst hP hw hK
  obtain⟨hd,hi⟩:=hg
  obtain⟨ok,ov,hit⟩:=st
  have hdo:s.heap.get? d=some o:=(I.hok d _ hd).1
  have hm:=hD _ hdo
  have hx:kvs[i]?=some (kvs[i].1,kvs[i].2):=by simp[hi]
  obtain⟨u,hu,ru⟩:=rel.get hx
  have fi:=hf it (by simp)
  refine wpAny_pyNext_items_item hit hm hu λkey h' hkey ho hT hsz hk=>?_
  refine⟨_,rfl,wpAny_letOwnedTupleGo_items ho λh2 he2 hs2=>?_⟩
  have lt:it≠s.heap.objs.size:=bO (aZ hit)
  have hk2:∀b o,b∉ [it]->s.heap.get? b=some o->h2.get? b=some o:=λb o nb q=>by
   have nb':b≠it:=λz=>nb (by simp[z])
   exact(hs2.2 b nb').trans (hk b o nb' q)
  have I2:=zaT (tk':=s.toks) (cs:=[it]) (h':=h2) I (λb hb=>hf b hb) (zdK hkey) ru ((hs2.2 _ (aT lt)).trans hT) hk2
  refine⟨.ref s.heap.objs.size,_,I2,rfl,⟨_,kvs[i].1,kvs[i].2,I.hok.fresh (aP _),rfl,hx,rfl⟩,⟨_,_,he2⟩,λb hb=>?_⟩
  have e:b=it:=by simpa using hb
  subst e
  rw[ze lt]
  exact fi.1
 done:=by
  intro X hP hw hK hc i pins s σ H E I hf st hg
  subst hP hw hK
  obtain⟨hd,hi⟩:=hg
  obtain⟨ok,ov,hit⟩:=st
  have hdo:s.heap.get? d=some o:=(I.hok d _ hd).1
  have hm:=hD _ hdo
  have hl:=rel.length
  refine wpAny_pyNext_items_end (I.ok.hd hc) hit hm (by simp;omega) λh' hk=>⟨rfl,Jv (cs:=[it]) I (λb hb=>hf b hb) λb o nb q=>?_⟩
  exact hk b o (λz=>nb (by simp[z])) q
 self:=λ_ _ _ _ _ hh61' h=>by obtain⟨ok,ov,e⟩:=hh61';exact PySem.W.kcp_self e h
section
variable {X:Cx}
def zfT(td:TE):TI:=λσ H R=>td σ H λx H1=>∃d kvs,x=.ref d/\H1 d=some (.dK kvs)/\∀o,R (Itd o d kvs) (upd H1 d (.frz o (.dK kvs)))
theorem zcf{o:aF}{td:TE}{apos cpos tp:aK}{elts:List aF}{k:Nat}(ho:PE X o td) 
  (hbase:fA o "items" X.env (aQ o X.env)=aQ o X.env:=by rfl) (hline:(apos.endLine==cpos.line)=true:=by rfl) :
  PI X (.Tuple elts k tp) (.Call (.Attribute o "items" apos) [] [] cpos) (zfT td):=by
 intro pins s σ H R I h
 refine kf hbase hline (thn (ho pins s σ H _ I h) λv s1 ⟨x,H1,I1,r1,q1⟩=>?_)
 obtain⟨d,kvs,e,hd,q⟩:=q1
 subst e
 cases (show v=Value.ref d from r1)
 obtain⟨z,hsys,vs,rel,dd⟩:=Z3 I1.hok hd
 obtain⟨ep,da⟩:=dd.dictAt
 obtain⟨ob,es,hob,hrest⟩:=id da
 refine⟨"dict","dict.items",jt,jx,mC,dd.typeIs,dd.mapOf.noDict,gZ rfl (kg ?_)⟩
 refine iE jx dd.typeIs mD (mE _) (mF (zG X.prog X.w) d hsys) ⟨⟨vs,dd⟩,?_⟩
 refine mG (knd:=zG X.prog X.w) (d:=d) (kvs:=vs) (ep:=ep) ⟨_,bW _ rfl,rfl,rfl⟩ (da.push _) ?_
 have I2:=I1.write (x:=d) (e:=d) (o:=.frz ob (.dK kvs)) (h':=s1.heap) (t':=s1.toks) (by rw[hd];exact True.intro) (.inl rfl) (λ_ _ _ q=>q) ⟨ob,hob⟩ ⟨hob,z,hsys,vs,rel,dd⟩
 have I3:=I2.kept (h':=(s1.heap.push {cls:=.type "dict_items",data:=.fields #[.ref d]}).push {cls:=.type "dict_itemiterator",data:=.fields #[.none,.bool false,.ref d,.int 0 0,.int vs.length 0,.int ep 0,.none,.none]}) (t':=s1.toks)
  λb u q=>bJ _ (bJ _ q)
 have hsz:(s1.heap.push {cls:=.type "dict_items",data:=.fields #[.ref d]}).objs.size=s1.heap.objs.size+1:=eT ..
 have hdl:d<s1.heap.objs.size:=aZ hob
 have hdi:d≠(s1.heap.push {cls:=.type "dict_items",data:=.fields #[.ref d]}).objs.size:=by rw[hsz];exact bO (g6 hdl)
 refine⟨_,[_],_,_,_,rfl,I3,Xu (vs:=vs) (ep:=ep) hdi rel (λh q=>⟨ob,es,q,hrest⟩),⟨.none,.none,bW _ rfl⟩,λb hb=>?_,q ob⟩
 have e:b=(s1.heap.push {cls:=.type "dict_items",data:=.fields #[.ref d]}).objs.size:=by simpa using hb
 have hb':s1.heap.objs.size<=b:=by rw[e,hsz];exact gG _
 exact I2.fpOk (H':=upd H1 d (.frz ob (.dK kvs))) hb' (by rw[e,ze (aT hdi),<-e];exact I1.hok.fresh hb')
end
section
variable {X:Cx}
theorem W6:∀{kvs:List (Key×V)} {vs:List (Key×aA)} (us:List aA),KV kvs vs->us.length=vs.length->(∀(j:Nat) (v:aA),us[j]?=some v->∃k x,vs[j]?=some (k,x)/\(zG P w).is k v=true)->zC (kvs.map λz=>kV z.1) us
 | _,_,us,.nil,q,_=>by
  cases us with
  | nil=>exact .nil
  | cons a b=>simp at q
 | _,_,us,.cons a t,q,h=>by
  cases us with
  | nil=>simp at q
  | cons u r=>
   obtain⟨k,x,e,J⟩:=h 0 u rfl
   simp at e
   subst e
   have a1:=a.1
   refine .cons ?_ (W6 r t (by simpa using q) λj v O=>by simpa using h (j+1) v (by simpa using O))
   show zz (kV _) u
   rw[a1]
   exact zdK J
theorem Jy(Y:X.calm=true):xc X (.type "list") (λxs H Q=>∃a kvs,xs=[V.ref a]/\H a=some (.dK kvs)/\∀l,H l=none->Q (.ref l) (upd H l (.lst (kvs.map λO=>kV O.1)))):=by
 intro pins s σ H xs us Q I r h
 obtain⟨a,kvs,rfl,Z,q⟩:=h
 obtain⟨u,rfl,ru⟩:=vd r
 cases ru
 obtain⟨z,R,vs,U,dd⟩:=Z3 I.hok Z
 obtain⟨ep,da⟩:=dd.dictAt
 have hl:=U.length
 refine PySem.W.kdl_call (PySem.W.kdl_dict (knd:=zG X.prog X.w) (kvs:=vs) (ep:=ep) R) (I.ok.hd Y) da (by rw[<-hl];exact z) λh' tk acc c hk hS J=>?_
 have hv:zC (kvs.map λO=>kV O.1) acc.toList:=W6 acc.toList U (by rw[iV];exact J.1) λj v e=>J.2 j v (by rw[<-km];exact e)
 have I2:=I.laid (a:=s.heap.objs.size) (o:=.lst (kvs.map λO=>kV O.1)) (h':=h') (t':=tk) hk (aP _) ⟨by rw[aM];exact z,acc.toList,c,hv,hS⟩
 exact⟨.ref s.heap.objs.size,_,I2,rfl,q _ (I.hok.fresh (aP _))⟩
end
end L2
namespace Hop
structure HS where
 partOf:List Nat
 parts:List (List Nat)
 waiting:List Nat
 waits:List Bool
def yw:List (Nat×List Nat)->Nat->Nat->List (Nat×List Nat)
 | [],p,s=>[(p,[s])]
 | (q,l)::r,p,s=>if q=p then(q,l++[s])::r else(q,l)::yw r p s
def wQ(q:List Nat)(back:List (List Nat))(partOf:List Nat):List (Nat×List Nat) :=
 q.foldl (λj g=>(back.getD g []).foldl (λj s=>yw j (partOf.getD s 0) s) j) []
def yX(j:List Nat)(l:List Nat)(v:Nat):List Nat:=l.foldl (λj s=>j.set s v) j
def ye(st:HS)(part:Nat)(stands:List Nat):HS :=
 if stands.length=(st.parts.getD part []).length then st
 else
  let rest:=(st.parts.getD part []).filter λs=>!stands.contains s
  let fresh:=st.parts.length
  let w:=if(st.waits++[false]).getD part false=true\/stands.length<=rest.length then fresh else part
  ⟨yX st.partOf stands fresh,st.parts.set part rest++[stands],st.waiting++[w],(st.waits++[false]).set w true⟩
def xP(st:HS)(j:List (Nat×List Nat)):HS:=j.foldl (λst f=>ye st f.1 f.2) st
def xg(j:List Nat)(st:HS)(back:List (List Nat)):HS:=xP st (wQ j back st.partOf)
def take(st:HS)(p:Nat):HS:=⟨st.partOf,st.parts,st.waiting.dropLast,st.waits.set p false⟩
def turn(j:List (List (List Nat)))(st:HS):HS:=match st.waiting.getLast? with
 | none=>st
 | some p=>j.foldl (xg (st.parts.getD p [])) (take st p)
def start(good:List Bool):HS:=⟨good.map λb=>if b then 1 else 0,[(aG good.length).filter λs=>!good.getD s false,(aG good.length).filter λs=>good.getD s false],[0,1],[true,true]⟩
structure Ok (n:Nat) (st:HS):Prop where
 len:st.partOf.length=n
 lt:∀s,s<n->st.partOf.getD s 0<st.parts.length
 nd:∀p,(st.parts.getD p []).Nodup
 mem:∀p s,s∈st.parts.getD p []↔s<n/\st.partOf.getD s 0=p/\p<st.parts.length
 wl:st.waits.length=st.parts.length
 ww:∀p,p<st.parts.length->(st.waits.getD p false=true↔p∈st.waiting)
 wlt:∀p∈st.waiting,p<st.parts.length
 wnd:st.waiting.Nodup
theorem xJ{α:Type}{l:List α}{i j:Nat}{v d:α}:(l.set i v).getD j d=if i=j/\i<l.length then v else l.getD j d:=by
 simp only[bI,kF]
 by_cases h:i=j
 ·subst h
  by_cases h2:i<l.length <;>simp[h2]
 ·simp[h]
theorem u0:∀(l:List Nat) (j:List Nat) (v:Nat),(yX j l v).length=j.length
 | [],_,_=>rfl
 | s::r,j,v=>by
  show(yX (j.set s v) r v).length=_
  rw[u0 r,cG]
theorem Xv:∀(l:List Nat) (j:List Nat) (v s:Nat),(∀x∈l,x<j.length)->(yX j l v).getD s 0=if s∈l then v else j.getD s 0
 | [],j,v,s,_=>by simp[yX]
 | x::r,j,v,s,h=>by
  show(yX (j.set x v) r v).getD s 0=_
  rw[Xv r _ _ _ (λy q=>by rw[cG];exact h y (bC _ q)),xJ]
  have J:=h x bE
  by_cases h1:s∈r
  ·simp[h1]
  ·by_cases h2:x=s
   ·subst h2;simp[h1,J]
   ·have:¬s=x:=λz=>h2 z.symm
    simp[h1,h2,this]
structure Cut (n:Nat) (st:HS) (part:Nat) (stands:List Nat):Prop where
 lt:part<st.parts.length
 nd:stands.Nodup
 sub:∀s∈stands,s∈st.parts.getD part []
theorem yq:∀{l m:List Nat},l.Nodup->(∀x∈l,x∈m)->l.length<=m.length
 | [],_,_,_=>cR _
 | x::r,m,j,h=>by
  rw[cF]at j
  have z:=h x bE
  have O:=yq (l:=r) (m:=m.erase x) j.2 λy J=>by
   have q:y≠x:=λe=>j.1 (e▸J)
   exact(mH q).mpr (h y (bC _ J))
  rw[mJ z]at O
  have:0<m.length:=mK z
  simp only[cC]
  omega
theorem zaX{l m:List Nat}(z:l.Nodup)(h:∀x∈l,x∈m)(e:l.length=m.length):∀x∈m,x∈l:=λx J=>by
 by_cases j:x∈l
 ·exact j
 ·have:=yq (l:=x::l) (m:=m) (cF.mpr ⟨j,z⟩) λy q=>by
   rcases aW.mp q with rfl|q
   ·exact J
   ·exact h y q
  simp only[cC]at this
  omega
theorem yC{α:Type}{l:List α}{x d:α}{i:Nat}:(l++[x]).getD i d=if i<l.length then l.getD i d else if i=l.length then x else d:=by
 simp only[bI]
 by_cases h:i<l.length
 ·rw[eA h];simp[h]
 ·rw[fD (by omega)]
  by_cases h2:i=l.length
  ·simp[h2]
  ·have:i-l.length≠0:=by omega
   have j:([x]:List α)[i-l.length]?=none:=kG (by simp;omega)
   simp[h,h2,j]
theorem Wj{α:Type}{l:List α}{d:α}{i:Nat}(h:l.length<=i):l.getD i d=d:=by
 rw[bI,kG h];rfl
section
variable {n:Nat} {st:HS} {part:Nat} {stands:List Nat}
theorem Xw(h:stands.length=(st.parts.getD part []).length):ye st part stands=st:=if_pos h
structure Off (n:Nat) (st:HS) (part:Nat) (stands:List Nat) (st':HS):Prop where
 ok:Ok n st'
 pl:st'.parts.length=st.parts.length+1
 po:∀s,st'.partOf.getD s 0=if s∈stands then st.parts.length else st.partOf.getD s 0
 wt:∀p,p∈st.waiting->p∈st'.waiting
 one:st.parts.length∈st'.waiting\/part∈st'.waiting
 both:part∈st.waiting->st.parts.length∈st'.waiting
 wlen:st'.waiting.length=st.waiting.length+1
 only:∀p∈st'.waiting,p∈st.waiting\/p=st.parts.length\/p=part
theorem Ug(ok:Ok n st)(c:Cut n st part stands)(h:stands.length≠(st.parts.getD part []).length):Off n st part stands (ye st part stands):=by
 have aa:∀s∈stands,s<n:=λs R=>((ok.mem part s).mp (c.sub s R)).1
 have ac:∀s∈stands,st.partOf.getD s 0=part:=λs R=>((ok.mem part s).mp (c.sub s R)).2.1
 generalize q:((st.parts.getD part []).filter λs=>!stands.contains s)=rest
 generalize U:(if(st.waits++[false]).getD part false=true\/stands.length<=rest.length then st.parts.length else part)=w
 have ae:ye st part stands=⟨yX st.partOf stands st.parts.length,st.parts.set part rest++[stands],st.waiting++[w],(st.waits++[false]).set w true⟩:=by
  unfold ye
  rw[if_neg h]
  simp only[q,U]
 rw[ae]
 have Y:w=st.parts.length\/w=part:=by
  rw[<-U];split
  ·exact .inl rfl
  ·exact .inr rfl
 have ab:w<st.parts.length+1:=by
  rcases Y with e|e
  ·omega
  ·have:=c.lt;omega
 have get:∀s,(yX st.partOf stands st.parts.length).getD s 0=if s∈stands then st.parts.length else st.partOf.getD s 0:=λs=>Xv stands st.partOf _ s λx hx=>by rw[ok.len];exact aa x hx
 have af:∀s,s∈rest↔s∈st.parts.getD part []/\s∉stands:=λs=>by
  rw[<-q,eL]
  simp
 have gp:∀p,(st.parts.set part rest++[stands]).getD p []=if p=st.parts.length then stands else if p=part then rest else st.parts.getD p []:=λp=>by
  rw[yC,cG,xJ]
  by_cases h1:p<st.parts.length
  ·have h2:¬p=st.parts.length:=by omega
   by_cases Z:part=p
   ·subst Z;simp[h1,h2]
   ·have j:¬p=part:=λz=>Z z.symm
    simp[h1,h2,Z,j]
  ·by_cases h2:p=st.parts.length
   ·simp[h2]
   ·have j:¬p=part:=by have:=c.lt;omega
    simp only[h1,h2,j,if_false]
    exact(Wj (by omega)).symm
 refine⟨⟨?_,?_,?_,?_,?_,?_,?_,?_⟩,?_,get,?_,?_,?_,?_,?_⟩
 ·show(yX _ _ _).length=n
  rw[u0];exact ok.len
 ·intro s R
  show(yX _ _ _).getD s 0<(st.parts.set part rest++[stands]).length
  rw[get,bQ,cG,dP]
  have:=ok.lt s R
  split <;>omega
 ·intro p
  show((st.parts.set part rest++[stands]).getD p []).Nodup
  rw[gp]
  split
  ·exact c.nd
  ·split
   ·rw[<-q];exact(ok.nd part).filter _
   ·exact ok.nd p
 ·intro p s
  show s∈(st.parts.set part rest++[stands]).getD p []↔s<n/\(yX _ _ _).getD s 0=p/\p<(st.parts.set part rest++[stands]).length
  rw[gp,get,bQ,cG,dP]
  by_cases h1:p=st.parts.length
  ·rw[if_pos h1]
   constructor
   ·intro R
    exact⟨aa s R,by rw[if_pos R,h1],by omega⟩
   ·rintro⟨h2,Z,_⟩
    by_cases j:s∈stands
    ·exact j
    ·rw[if_neg j]at Z
     have:=ok.lt s h2
     omega
  ·rw[if_neg h1]
   by_cases h2:p=part
   ·rw[if_pos h2,af,ok.mem]
    subst h2
    constructor
    ·rintro⟨⟨a,b,_⟩,d⟩
     exact⟨a,by rw[if_neg d];exact b,by have:=c.lt;omega⟩
    ·rintro⟨a,b,_⟩
     by_cases j:s∈stands
     ·rw[if_pos j]at b;omega
     ·rw[if_neg j]at b
      exact⟨⟨a,b,c.lt⟩,j⟩
   ·rw[if_neg h2,ok.mem]
    constructor
    ·rintro⟨a,b,d⟩
     refine⟨a,?_,by omega⟩
     by_cases j:s∈stands
     ·exact absurd ((ac s j).symm.trans b) (λz=>h2 z.symm)
     ·rw[if_neg j];exact b
    ·rintro⟨a,b,d⟩
     by_cases j:s∈stands
     ·rw[if_pos j]at b;omega
     ·rw[if_neg j]at b
      exact⟨a,b,by omega⟩
 ·show((st.waits++[false]).set w true).length=_
  rw[cG,bQ,dP,ok.wl,bQ,cG,dP]
 ·intro p O
  have J:p<st.parts.length+1:=by
   have:p<(st.parts.set part rest++[stands]).length:=O
   rw[bQ,cG,dP]at this
   exact this
  show((st.waits++[false]).set w true).getD p false=true↔p∈st.waiting++[w]
  rw[xJ,bQ,dP,ok.wl,cA,bN]
  by_cases h1:w=p
  ·subst h1
   rw[if_pos ⟨rfl,J⟩]
   simp
  ·rw[if_neg λz=>h1 z.1,yC,ok.wl]
   by_cases h2:p<st.parts.length
   ·rw[if_pos h2,ok.ww p h2]
    exact⟨.inl,λz=>z.elim id λz=>absurd z.symm h1⟩
   ·have Z:p=st.parts.length:=by omega
    rw[if_neg h2,if_pos Z]
    constructor
    ·intro z;cases z
    ·rintro(z|z)
     ·have:=ok.wlt p z;omega
     ·exact absurd z.symm h1
 ·intro p O
  show p<(st.parts.set part rest++[stands]).length
  rw[bQ,cG,dP]
  have J:p∈st.waiting++[w]:=O
  rcases cA.mp J with z|z
  ·have:=ok.wlt p z;omega
  ·rw[bN.mp z];exact ab
 ·show(st.waiting++[w]).Nodup
  rw[cZ]
  refine⟨ok.wnd,by simp,λa ha b hb e=>?_⟩
  rw[bN]at hb
  subst hb;subst e
  by_cases h1:(st.waits++[false]).getD part false=true\/stands.length<=rest.length
  ·rw[if_pos h1]at U
   have:=ok.wlt _ ha
   omega
  ·rw[if_neg h1]at U
   subst U
   have:=(ok.ww part c.lt).mpr ha
   exact h1 (.inl (by rw[yC,ok.wl,if_pos c.lt];exact this))
 ·show(st.parts.set part rest++[stands]).length=_
  rw[bQ,cG,dP]
 ·intro p O
  exact dJ _ O
 ·show st.parts.length∈st.waiting++[w]\/part∈st.waiting++[w]
  rcases Y with e|e
  ·exact .inl (by rw[e];simp)
  ·exact .inr (by rw[e];simp)
 ·intro O
  show st.parts.length∈st.waiting++[w]
  have:(st.waits++[false]).getD part false=true:=by
   rw[yC,ok.wl,if_pos c.lt]
   exact(ok.ww part c.lt).mpr O
  rw[if_pos (.inl this)]at U
  rw[<-U];simp
 ·show(st.waiting++[w]).length=_
  simp
 ·intro p O
  have J:p∈st.waiting++[w]:=O
  rcases cA.mp J with z|z
  ·exact .inl z
  ·rw[bN.mp z]
   exact .inr Y
end
structure Fnd (f:Nat->Nat) (xs:List Nat) (found:List (Nat×List Nat)):Prop where
 nd:(found.map bA).Nodup
 ls:∀p l,(p,l)∈found->l.Nodup/\l≠[]/\∀s,s∈l↔s∈xs/\f s=p
 all:∀s∈xs,∃l,(f s,l)∈found
theorem Xx:∀(j:List (Nat×List Nat)) (p s:Nat),(yw j p s).map bA=if p∈j.map bA then j.map bA else j.map bA++[p]
 | [],p,s=>by simp[yw]
 | (q,l)::r,p,s=>by
  unfold yw
  by_cases h:q=p
  ·subst h;simp
  ·rw[if_neg h,aR,Xx r p s]
   have h':¬p=q:=λz=>h z.symm
   by_cases h2:p∈r.map bA
   ·simp only[aR,aW,h',h2,if_true,or_true]
   ·simp only[aR,aW,h',h2,if_false,or_false,mL]
theorem wB:∀(j:List (Nat×List Nat)) (p s q:Nat) (l:List Nat),(j.map bA).Nodup->((q,l)∈yw j p s↔(q≠p/\(q,l)∈j)\/(q=p/\((∃J,(p,J)∈j/\l=J++[s])\/(p∉j.map bA/\l=[s]))))
 | [],p,s,q,l,_=>by
  simp only[yw,bN,Prod.mk.injEq]
  constructor
  ·rintro⟨rfl,rfl⟩;exact .inr ⟨rfl,.inr ⟨by simp,rfl⟩⟩
  ·rintro(⟨_,h⟩|⟨rfl,h|⟨_,rfl⟩⟩)
   ·cases h
   ·obtain⟨_,h,_⟩:=h;cases h
   ·exact⟨rfl,rfl⟩
 | (a,b)::r,p,s,q,l,O=>by
  rw[aR,cF]at O
  unfold yw
  by_cases h:a=p
  ·subst h
   rw[if_pos rfl,aW,aW]
   constructor
   ·rintro(e|e)
    ·cases e;exact .inr ⟨rfl,.inl ⟨b,bE,rfl⟩⟩
    ·have:q≠a:=λz=>O.1 (bK.mpr ⟨(q,l),e,z⟩)
     exact .inl ⟨this,.inr e⟩
   ·rintro(⟨h1,e|e⟩|⟨rfl,⟨J,e,rfl⟩|⟨hn,_⟩⟩)
    ·cases e;exact absurd rfl h1
    ·exact .inr e
    ·rcases aW.mp e with e|e
     ·cases e;exact .inl rfl
     ·exact absurd (bK.mpr ⟨_,e,rfl⟩) O.1
    ·exact absurd (by simp) hn
  ·rw[if_neg h,aW,wB r p s q l O.2,aW]
   have h':¬p=a:=λz=>h z.symm
   constructor
   ·rintro(e|⟨h1,e⟩|⟨rfl,⟨J,e,rfl⟩|⟨hn,rfl⟩⟩)
    ·cases e;exact .inl ⟨h,.inl rfl⟩
    ·exact .inl ⟨h1,.inr e⟩
    ·exact .inr ⟨rfl,.inl ⟨J,bC _ e,rfl⟩⟩
    ·exact .inr ⟨rfl,.inr ⟨by rw[aR,aW];exact λz=>z.elim h' hn,rfl⟩⟩
   ·rintro(⟨h1,e|e⟩|⟨rfl,⟨J,e,rfl⟩|⟨hn,rfl⟩⟩)
    ·exact .inl e
    ·exact .inr (.inl ⟨h1,e⟩)
    ·rcases aW.mp e with e|e
     ·cases e;exact absurd rfl h
     ·exact .inr (.inr ⟨rfl,.inl ⟨J,e,rfl⟩⟩)
    ·rw[aR,aW]at hn
     exact .inr (.inr ⟨rfl,.inr ⟨λz=>hn (.inr z),rfl⟩⟩)
theorem zcg(h:Fnd f xs j)(U:s∉xs):Fnd f (xs++[s]) (yw j (f s) s):=by
 refine⟨?_,λp l Y=>?_,λt O=>?_⟩
 ·rw[Xx]
  split
  ·exact h.nd
  ·rename_i hn
   rw[cZ]
   refine⟨h.nd,by simp,λa Z b hb z=>hn ?_⟩
   rw[<-bN.mp hb,<-z];exact Z
 ·rcases(wB j (f s) s p l h.nd).mp Y with⟨R,e⟩|⟨rfl,⟨l0,e,rfl⟩|⟨hn,rfl⟩⟩
  ·obtain⟨a,b,c⟩:=h.ls p l e
   refine⟨a,b,λt=>?_⟩
   rw[c t,cA,bN]
   constructor
   ·rintro⟨x,y⟩;exact⟨.inl x,y⟩
   ·rintro⟨x|rfl,y⟩
    ·exact⟨x,y⟩
    ·exact absurd y.symm R
  ·obtain⟨a,b,c⟩:=h.ls _ l0 e
   refine⟨?_,by simp,λt=>?_⟩
   ·rw[cZ]
    refine⟨a,by simp,λx hx y hy z=>U ?_⟩
    rw[<-bN.mp hy,<-z];exact((c x).mp hx).1
   ·rw[cA,cA,bN,c t]
    constructor
    ·rintro(⟨x,y⟩|rfl)
     ·exact⟨.inl x,y⟩
     ·exact⟨.inr rfl,rfl⟩
    ·rintro⟨x|x,y⟩
     ·exact .inl ⟨x,y⟩
     ·exact .inr x
  ·refine⟨by simp,by simp,λt=>?_⟩
   rw[bN,cA,bN]
   constructor
   ·rintro rfl;exact⟨.inr rfl,rfl⟩
   ·rintro⟨x|x,y⟩
    ·obtain⟨l,J⟩:=h.all t x
     exact absurd (bK.mpr ⟨_,J,y⟩) hn
    ·exact x
 ·rcases cA.mp O with O|O
  ·obtain⟨l,J⟩:=h.all t O
   by_cases e:f t=f s
   ·exact⟨l++[s],(wB j (f s) s (f t) _ h.nd).mpr (.inr ⟨e,.inl ⟨l,by rw[<-e];exact J,rfl⟩⟩)⟩
   ·exact⟨l,(wB j (f s) s (f t) _ h.nd).mpr (.inl ⟨e,J⟩)⟩
  ·have:t=s:=by simpa using O
   subst this
   by_cases e:f t∈j.map bA
   ·obtain⟨⟨q,l⟩,J,rfl⟩:=bK.mp e
    exact⟨l++[t],(wB j _ t _ _ h.nd).mpr (.inr ⟨rfl,.inl ⟨l,J,rfl⟩⟩)⟩
   ·exact⟨[t],(wB j _ t _ _ h.nd).mpr (.inr ⟨rfl,.inr ⟨e,rfl⟩⟩)⟩
theorem QJ:∀(ys xs:List Nat) (j:List (Nat×List Nat)),Fnd f xs j->(xs++ys).Nodup->Fnd f (xs++ys) (ys.foldl (λj s=>yw j (f s) s) j)
 | [],xs,j,h,_=>by rw[gF];exact h
 | y::r,xs,j,h,q=>by
  have e:xs++y::r=(xs++[y])++r:=by simp
  rw[e]at q ⊢
  have J:y∉xs:=λz=>by
   rw[cZ]at q
   have:=q.1
   rw[cZ]at this
   exact this.2.2 y z y (by simp) rfl
  exact QJ r (xs++[y]) _ (zcg h J) q
theorem W7(j:List Nat)(back:List (List Nat))(partOf:List Nat):wQ j back partOf=(j.flatMap λg=>back.getD g []).foldl (λq s=>yw q (partOf.getD s 0) s) []:=by
 unfold wQ
 generalize ([]:List (Nat×List Nat))=z
 induction j generalizing z with
 | nil=>rfl
 | cons g r J=>rw[gO,jy,hX,J]
structure Back (n:Nat) (d:Nat->Nat) (back:List (List Nat)):Prop where
 nd:∀g,(back.getD g []).Nodup
 mem:∀g s,s∈back.getD g []↔s<n/\d s=g
theorem u3(b:Back n d back):∀{goals:List Nat},goals.Nodup->(goals.flatMap λg=>back.getD g []).Nodup
 | [],_=>by simp
 | g::r,h=>by
  rw[cF]at h
  rw[jy,cZ]
  refine⟨b.nd g,u3 b h.2,λx J y O z=>h.1 ?_⟩
  subst z
  obtain⟨g',j,q⟩:=kH.mp O
  have R:=((b.mem g x).mp J).2
  have U:=((b.mem g' x).mp q).2
  rw[<-R,U];exact j
theorem QK(b:Back n d back)(j:goals.Nodup):Fnd (λs=>partOf.getD s 0) (goals.flatMap λg=>back.getD g []) (wQ goals back partOf):=by
 rw[W7]
 have:=QJ (f:=λs=>partOf.getD s 0) (goals.flatMap λg=>back.getD g []) [] [] ⟨by simp,by simp,by simp⟩ (by simpa using u3 b j)
 simpa using this
theorem vb{n:Nat}{d:Nat->Nat}{back:List (List Nat)}{j:List Nat}(b:Back n d back)(s:Nat):s∈(j.flatMap λg=>back.getD g [])↔s<n/\d s∈j:=by
 rw[kH]
 constructor
 ·rintro⟨g,q,z⟩
  obtain⟨h1,h2⟩:=(b.mem g s).mp z
  exact⟨h1,by rw[h2];exact q⟩
 ·rintro⟨h1,h2⟩
  exact⟨d s,h2,(b.mem _ s).mpr ⟨h1,rfl⟩⟩
section
variable {n A:Nat} {δ:Nat->Nat->Nat} {Df:Nat->Nat->Prop}
def Jz(n A:Nat)(δ:Nat->Nat->Nat)(st:HS)(j:Nat->Nat->Nat->Prop):Prop:=∀a,a<A->∀s t,s<n->t<n->st.partOf.getD s 0=st.partOf.getD t 0->st.partOf.getD (δ a s) 0≠st.partOf.getD (δ a t) 0->
 st.partOf.getD (δ a s) 0∈st.waiting\/st.partOf.getD (δ a t) 0∈st.waiting\/j a (δ a s) (δ a t)
def zch(n:Nat)(Df:Nat->Nat->Prop)(st:HS):Prop:=∀s t,s<n->t<n->st.partOf.getD s 0≠st.partOf.getD t 0->Df s t
def Uh(st:HS):Prop:=∀p,2<=p->p<st.parts.length->st.parts.getD p []≠[]
structure Res (n A:Nat) (δ:Nat->Nat->Nat) (Df:Nat->Nat->Prop) (st st':HS):Prop where
 ok:Ok n st'
 fine:∀s t,s<n->t<n->st'.partOf.getD s 0=st'.partOf.getD t 0->st.partOf.getD s 0=st.partOf.getD t 0
 cnt:st'.waiting.length+st.parts.length=st.waiting.length+st'.parts.length
 stab:∀pend,Jz n A δ st pend->Jz n A δ st' pend
 dist:zch n Df st->zch n Df st'
 full:Uh st->Uh st'
 two:st.parts.length<=st'.parts.length
theorem Res.refl(ok:Ok n st):Res n A δ Df st st:=⟨ok,λ_ _ _ _ h=>h,rfl,λ_ h=>h,λh=>h,λh=>h,aP _⟩
theorem Res.trans(x:Res n A δ Df a b)(y:Res n A δ Df b c):Res n A δ Df a c :=
 ⟨y.ok,λs t j q h=>x.fine s t j q (y.fine s t j q h),by have:=x.cnt;have:=y.cnt;omega,λp h=>y.stab p (x.stab p h),λh=>y.dist (x.dist h),λh=>y.full (x.full h),bL x.two y.two⟩
theorem QL(hδ:∀a s,a<A->s<n->δ a s<n)(ok:Ok n st)(c:Cut n st part stands)(af:stands≠[])(hD:∀s t,s∈stands->t<n->st.partOf.getD t 0=part->t∉stands->Df s t/\Df t s):
  Res n A δ Df st (ye st part stands)/\∀s t,s<n->t<n->(ye st part stands).partOf.getD s 0=(ye st part stands).partOf.getD t 0->(s∈stands↔t∈stands):=by
 by_cases h:stands.length=(st.parts.getD part []).length
 ·rw[Xw h]
  refine⟨.refl ok,λs t O Y e=>?_⟩
  have all:=zaX c.nd c.sub h
  have key:∀s t,t<n->st.partOf.getD s 0=st.partOf.getD t 0->s∈stands->t∈stands:=λs t Y e O=>by
   have:=((ok.mem part s).mp (c.sub s O)).2.1
   exact all t ((ok.mem part t).mpr ⟨Y,by rw[<-e];exact this,c.lt⟩)
  exact⟨key s t Y e,key t s O e.symm⟩
 ·have o:=Ug ok c h
  have J:∀s∈stands,st.partOf.getD s 0=part:=λs O=>((ok.mem part s).mp (c.sub s O)).2.1
  have sp:∀s t,s<n->t<n->(ye st part stands).partOf.getD s 0=(ye st part stands).partOf.getD t 0->(s∈stands↔t∈stands):=λs t O Y e=>by
   rw[o.po,o.po]at e
   have h1:=ok.lt s O
   have h2:=ok.lt t Y
   by_cases a:s∈stands <;>by_cases b:t∈stands
   ·exact⟨λ_=>b,λ_=>a⟩
   ·rw[if_pos a,if_neg b]at e;omega
   ·rw[if_neg a,if_pos b]at e;omega
   ·exact⟨λz=>absurd z a,λz=>absurd z b⟩
  refine⟨⟨o.ok,λs t O Y e=>?_,by rw[o.wlen,o.pl];omega,λai ag a ha s t O Y e R=>?_,λhd s t O Y e=>?_,λhf p h2 hp=>?_,by rw[o.pl];omega⟩,sp⟩
  ·have q:=sp s t O Y e
   rw[o.po,o.po]at e
   by_cases a:s∈stands
   ·rw[J s a,J t (q.mp a)]
   ·have b:t∉stands:=λz=>a (q.mpr z)
    rw[if_neg a,if_neg b]at e
    exact e
  ·have q:=sp s t O Y e
   have e0:st.partOf.getD s 0=st.partOf.getD t 0:=by
    rw[o.po,o.po]at e
    by_cases b:s∈stands
    ·rw[J s b,J t (q.mp b)]
    ·have Z:t∉stands:=λz=>b (q.mpr z)
     rw[if_neg b,if_neg Z]at e
     exact e
   have up:∀x,st.partOf.getD x 0∈st.waiting->(ye st part stands).partOf.getD x 0∈(ye st part stands).waiting:=λx U=>by
    rw[o.po]
    by_cases b:x∈stands
    ·rw[if_pos b]
     exact o.both (by rw[<-J x b];exact U)
    ·rw[if_neg b]
     exact o.wt _ U
   by_cases U:st.partOf.getD (δ a s) 0=st.partOf.getD (δ a t) 0
   ·rw[o.po,o.po]at R ⊢
    by_cases b:δ a s∈stands <;>by_cases Z:δ a t∈stands
    ·rw[if_pos b,if_pos Z]at R;exact absurd rfl R
    ·rw[if_pos b,if_neg Z,<-U,J _ b]
     rcases o.one with z|z
     ·exact .inl z
     ·exact .inr (.inl z)
    ·rw[if_neg b,if_pos Z,U,J _ Z]
     rcases o.one with z|z
     ·exact .inr (.inl z)
     ·exact .inl z
    ·rw[if_neg b,if_neg Z]at R;exact absurd U R
   ·rcases ag a ha s t O Y e0 U with z|z|z
    ·exact .inl (up _ z)
    ·exact .inr (.inl (up _ z))
    ·exact .inr (.inr z)
  ·by_cases e0:st.partOf.getD s 0=st.partOf.getD t 0
   ·rw[o.po,o.po]at e
    by_cases a:s∈stands <;>by_cases b:t∈stands
    ·rw[if_pos a,if_pos b]at e;exact absurd rfl e
    ·exact(hD s t a Y (by rw[<-e0];exact J s a) b).1
    ·exact(hD t s b O (by rw[e0];exact J t b) a).2
    ·rw[if_neg a,if_neg b]at e;exact absurd e0 e
   ·exact hd s t O Y e0
  ·intro ac
   have aj:p<st.parts.length+1:=by rw[<-o.pl];exact hp
   have j:∀s,s<n->(ye st part stands).partOf.getD s 0≠p:=λs O z=>by
    have:s∈(ye st part stands).parts.getD p []:=(o.ok.mem p s).mpr ⟨O,z,hp⟩
    rw[ac]at this;cases this
   by_cases h3:p=st.parts.length
   ·cases stands with
    | nil=>exact af rfl
    | cons x r=>
     have U:x<n:=((ok.mem part x).mp (c.sub x bE)).1
     exact j x U (by rw[o.po,if_pos bE,h3])
   ·have ah:p<st.parts.length:=by omega
    by_cases h4:p=part
    ·have:∃x,x∈st.parts.getD part []/\x∉stands:=by
      by_cases z:∃x,x∈st.parts.getD part []/\x∉stands
      ·exact z
      ·exfalso
       have ae:∀x∈st.parts.getD part [],x∈stands:=λx U=>by
        by_cases y:x∈stands
        ·exact y
        ·exact absurd ⟨x,U,y⟩ z
       have l1:=yq c.nd c.sub
       have l2:=yq (ok.nd part) ae
       omega
     obtain⟨x,U,aa⟩:=this
     obtain⟨q1,q2,_⟩:=(ok.mem part x).mp U
     exact j x q1 (by rw[o.po,if_neg aa,q2,h4])
    ·have ab:=hf p h2 ah
     cases hl:st.parts.getD p []with
     | nil=>exact ab hl
     | cons x r=>
      have U:x∈st.parts.getD p []:=by rw[hl];exact bE
      obtain⟨q1,q2,_⟩:=(ok.mem p x).mp U
      have aa:x∉stands:=λz=>h4 (by rw[<-q2,J x z])
      exact j x q1 (by rw[o.po,if_neg aa,q2])
structure Prec (n:Nat) (G:Nat->Prop) (st:HS) (fs:List (Nat×List Nat)):Prop where
 nd:(fs.map bA).Nodup
 ls:∀p l,(p,l)∈fs->p<st.parts.length/\l.Nodup/\l≠[]/\∀s,s∈l↔s<n/\G s/\st.partOf.getD s 0=p
theorem Xy(hδ:∀a s,a<A->s<n->δ a s<n){G:Nat->Prop}(hG:∀s t,s<n->t<n->G s->¬G t->Df s t/\Df t s):∀(fs:List (Nat×List Nat)) (st:HS),Ok n st->Prec n G st fs->
  Res n A δ Df st (xP st fs)/\∀p l,(p,l)∈fs->∀s t,s<n->t<n->(xP st fs).partOf.getD s 0=(xP st fs).partOf.getD t 0->(s∈l↔t∈l)
 | [],st,ok,_=>⟨.refl ok,λ_ _ h=>by cases h⟩
 | (p,l)::r,st,ok,Y=>by
  obtain⟨hp,Z,aa,R⟩:=Y.ls p l bE
  have c:Cut n st p l:=⟨hp,Z,λs j=>by
   obtain⟨h1,_,h3⟩:=(R s).mp j
   exact(ok.mem p s).mpr ⟨h1,h3,hp⟩⟩
  have hD:∀s t,s∈l->t<n->st.partOf.getD t 0=p->t∉l->Df s t/\Df t s:=λs t j O e hn=>by
   obtain⟨h1,h2,_⟩:=(R s).mp j
   exact hG s t h1 O h2 λz=>hn ((R t).mpr ⟨O,z,e⟩)
  obtain⟨r1,a1⟩:=QL (Df:=Df) hδ ok c aa hD
  have J:=Y.nd
  rw[aR,cF]at J
  have ab:Prec n G (ye st p l) r:=⟨J.2,λq m U=>by
   obtain⟨g1,g2,g3,g4⟩:=Y.ls q m (bC _ U)
   have ac:q≠p:=λz=>J.1 (bK.mpr ⟨_,U,z⟩)
   refine⟨cD g1 r1.two,g2,g3,λs=>?_⟩
   rw[g4 s]
   by_cases h:l.length=(st.parts.getD p []).length
   ·rw[Xw h]
   ·have o:=Ug ok c h
    rw[o.po]
    constructor
    ·rintro⟨x,y,z⟩
     have:s∉l:=λw=>ac (by rw[<-z,((R s).mp w).2.2])
     exact⟨x,y,by rw[if_neg this];exact z⟩
    ·rintro⟨x,y,z⟩
     by_cases w:s∈l
     ·rw[if_pos w]at z;omega
     ·rw[if_neg w]at z;exact⟨x,y,z⟩⟩
  obtain⟨r2,a2⟩:=Xy hδ hG r (ye st p l) r1.ok ab
  refine⟨r1.trans r2,λq m U s t j O e=>?_⟩
  rcases aW.mp U with h|h
  ·cases h
   exact a1 s t j O (r2.fine s t j O e)
  ·exact a2 q m h s t j O e
theorem zaY(Y:∀a s,a<A->s<n->δ a s<n)(b:Back n d back)(Z:goals.Nodup)(ok:Ok n st)(hG:∀s t,s<n->t<n->d s∈goals->d t∉goals->Df s t/\Df t s):
  Res n A δ Df st (xg goals st back)/\∀s t,s<n->t<n->(xg goals st back).partOf.getD s 0=(xg goals st back).partOf.getD t 0->(d s∈goals↔d t∈goals):=by
 have f:=QK (partOf:=st.partOf) b Z
 have pr:Prec n (λs=>d s∈goals) st (wQ goals back st.partOf):=⟨f.nd,λp l hp=>by
  obtain⟨h1,h2,q⟩:=f.ls p l hp
  have R:∀s,s∈l↔s<n/\d s∈goals/\st.partOf.getD s 0=p:=λs=>by
   rw[q s,vb b s,and_assoc]
  refine⟨?_,h1,h2,R⟩
  cases l with
  | nil=>exact absurd rfl h2
  | cons x r=>
   obtain⟨q1,_,q3⟩:=(R x).mp bE
   rw[<-q3];exact ok.lt x q1⟩
 obtain⟨r,a⟩:=Xy (Df:=Df) Y (G:=λs=>d s∈goals) hG _ st ok pr
 have key:∀s t,s<n->t<n->(xg goals st back).partOf.getD s 0=(xg goals st back).partOf.getD t 0->d s∈goals->d t∈goals:=λs t j z e h=>by
  obtain⟨l,U⟩:=f.all s ((vb b s).mpr ⟨j,h⟩)
  obtain⟨_,_,q⟩:=f.ls _ l U
  have J:s∈l:=(q s).mpr ⟨(vb b s).mpr ⟨j,h⟩,rfl⟩
  have O:=(a _ l U s t j z e).mp J
  exact((vb b t).mp ((q t).mp O).1).2
 exact⟨r,λs t j z e=>⟨key s t j z e,key t s z j e.symm⟩⟩
end
section
variable {n A:Nat} {δ:Nat->Nat->Nat} {Df:Nat->Nat->Prop}
def zg1(j:List Nat)(_ x y:Nat):Prop:=(x∈j/\y∉j)\/(x∉j/\y∈j)
theorem Ui(O:∀a s,a<A->s<n->δ a s<n)(R:goals.Nodup)(U:∀a,a<A->∀s t,s<n->t<n->δ a s∈goals->δ a t∉goals->Df s t/\Df t s):
  ∀(bs:List (List (List Nat))) (k:Nat) (st:HS),Ok n st->k+bs.length=A->(∀i,i<bs.length->Back n (δ (k+i)) (bs.getD i []))->
  Res n A δ Df st (bs.foldl (xg goals) st)/\∀i,i<bs.length->∀s t,s<n->t<n->(bs.foldl (xg goals) st).partOf.getD s 0=(bs.foldl (xg goals) st).partOf.getD t 0->(δ (k+i) s∈goals↔δ (k+i) t∈goals)
 | [],k,st,ok,_,_=>⟨.refl ok,λi h=>absurd h (jz _)⟩
 | b::r,k,st,ok,Y,Z=>by
  have q:k<A:=by rw[<-Y,cC];omega
  have b0:Back n (δ k) b:=by simpa using Z 0 (by simp)
  obtain⟨r1,a1⟩:=zaY (Df:=Df) O b0 R ok (U k q)
  obtain⟨r2,a2⟩:=Ui O R U r (k+1) (xg goals st b) r1.ok (by rw[<-Y,cC];omega) λi hi=>by
   have:=Z (i+1) (by rw[cC];omega)
   rw[show k+(i+1)=k+1+i by omega]at this
   simpa using this
  refine⟨r1.trans r2,λi hi s t z J e=>?_⟩
  cases i with
  | zero=>exact a1 s t z J (r2.fine s t z J e)
  | succ j=>
   have:=a2 j (by rw[cC]at hi;omega) s t z J e
   rw[show k+(j+1)=k+1+j by omega]
   exact this
structure Inv (n A:Nat) (δ:Nat->Nat->Nat) (Df:Nat->Nat->Prop) (st:HS):Prop where
 ok:Ok n st
 stab:Jz n A δ st λ_ _ _=>False
 dist:zch n Df st
 full:Uh st
theorem Wl(ok:Ok n st)(h:st.waiting.getLast?=some p):Ok n (take st p)/\st.waiting=st.waiting.dropLast++[p]:=by
 have j:st.waiting=st.waiting.dropLast++[p]:=by
  have J:st.waiting≠[]:=λz=>by rw[z]at h;cases h
  have e:=kJ J
  rw[kK J]at h
  injection h with h
  rw[h]at e
  exact e.symm
 refine⟨?_,j⟩
 have O:=ok.wnd
 rw[j,cZ]at O
 have hn:p∉st.waiting.dropLast:=λz=>O.2.2 p z p (by simp) rfl
 refine⟨ok.len,ok.lt,ok.nd,ok.mem,?_,λq R=>?_,λq R=>?_,O.1⟩
 ·show(st.waits.set p false).length=_
  rw[cG];exact ok.wl
 ·show(st.waits.set p false).getD q false=true↔q∈st.waiting.dropLast
  have U:p<st.parts.length:=ok.wlt p (by rw[j];simp)
  rw[xJ,ok.wl]
  by_cases e:p=q
  ·subst e
   rw[if_pos ⟨rfl,U⟩]
   exact⟨λz=>Bool.noConfusion z,λz=>absurd z hn⟩
  ·rw[if_neg λz=>e z.1,ok.ww q R]
   constructor
   ·intro z
    rw[j,cA,bN]at z
    exact z.elim id λz=>absurd z.symm e
   ·intro z
    rw[j];exact dJ _ z
 ·exact ok.wlt q (by rw[j];exact dJ _ R)
theorem Uj(U:∀a s,a<A->s<n->δ a s<n)(Z:∀a s t,a<A->s<n->t<n->Df (δ a s) (δ a t)->Df s t)(hA:bs.length=A)(hb:∀i,i<A->Back n (δ i) (bs.getD i []))(Y:Inv n A δ Df st)(h:st.waiting.getLast?=some p):
  Inv n A δ Df (turn bs st)/\(turn bs st).waiting.length+st.parts.length+1=st.waiting.length+(turn bs st).parts.length/\∀s t,s<n->t<n->(turn bs st).partOf.getD s 0=(turn bs st).partOf.getD t 0->st.partOf.getD s 0=st.partOf.getD t 0:=by
 have e:turn bs st=bs.foldl (xg (st.parts.getD p [])) (take st p):=by unfold turn;rw[h]
 obtain⟨tok,hd⟩:=Wl Y.ok h
 have ac:p<st.parts.length:=Y.ok.wlt p (by rw[hd];simp)
 have J:∀s,s<n->(s∈st.parts.getD p []↔st.partOf.getD s 0=p):=λs O=>by
  rw[Y.ok.mem]
  exact⟨λz=>z.2.1,λz=>⟨O,z,ac⟩⟩
 have hG:∀a,a<A->∀s t,s<n->t<n->δ a s∈st.parts.getD p []->δ a t∉st.parts.getD p []->Df s t/\Df t s:=λa j s t O R x y=>by
  have x1:=(J _ (U a s j O)).mp x
  have y1:st.partOf.getD (δ a t) 0≠p:=λz=>y ((J _ (U a t j R)).mpr z)
  have ne:st.partOf.getD (δ a s) 0≠st.partOf.getD (δ a t) 0:=λz=>y1 (by rw[<-z];exact x1)
  exact⟨Z a s t j O R (Y.dist _ _ (U a s j O) (U a t j R) ne),Z a t s j R O (Y.dist _ _ (U a t j R) (U a s j O) λz=>ne z.symm)⟩
 obtain⟨r,al⟩:=Ui (Df:=Df) (A:=A) U (Y.ok.nd p) hG bs 0 (take st p) tok (by omega) λi hi=>by
  rw[gP];exact hb i (by omega)
 rw[<-e]at r al
 have ae:Jz n A δ (take st p) (zg1 (st.parts.getD p [])):=λa j s t O R es ne=>by
  have hx:=U a s j O
  have hy:=U a t j R
  have aa:∀q,q∈st.waiting->q∈st.waiting.dropLast\/q=p:=λq hq=>by
   rw[hd,cA,bN]at hq
   exact hq
  have ab:st.partOf.getD (δ a s) 0≠st.partOf.getD (δ a t) 0:=ne
  rcases Y.stab a j s t O R es ne with z|z|z
  ·rcases aa _ z with z|z
   ·exact .inl z
   ·exact .inr (.inr (.inl ⟨(J _ hx).mpr z,λw=>ab (by rw[z,(J _ hy).mp w])⟩))
  ·rcases aa _ z with z|z
   ·exact .inr (.inl z)
   ·exact .inr (.inr (.inr ⟨λw=>ab (by rw[z,(J _ hx).mp w]),(J _ hy).mpr z⟩))
  ·exact absurd z id
 refine⟨⟨r.ok,λa j s t O R es ne=>?_,r.dist Y.dist,r.full Y.full⟩,?_,r.fine⟩
 ·rcases r.stab _ ae a j s t O R es ne with z|z|z
  ·exact .inl z
  ·exact .inr (.inl z)
  ·exfalso
   have:=al a (by omega) s t O R es
   rw[gP]at this
   rcases z with⟨z1,z2⟩|⟨z1,z2⟩
   ·exact z2 (this.mp z1)
   ·exact z1 (this.mpr z2)
 ·have c:=r.cnt
  have l1:st.waiting.length=(take st p).waiting.length+1:=by
   show st.waiting.length=st.waiting.dropLast.length+1
   have:=congrArg jZ hd
   rw[bQ,dP]at this
   exact this
  have l2:(take st p).parts.length=st.parts.length:=rfl
  omega
theorem Uk(ok:Ok n st)(R:Uh st):st.parts.length<=n+2:=by
 have key:∀k,k+2<=st.parts.length->∃l:List Nat,l.length=k/\l.Nodup/\(∀x∈l,x<n/\st.partOf.getD x 0<k+2):=by
  intro k
  induction k with
  | zero=>exact λ_=>⟨[],rfl,by simp,by simp⟩
  | succ k U=>
   intro Z
   obtain⟨l,h1,h2,j⟩:=U (by omega)
   have q:=R (k+2) (by omega) (by omega)
   obtain⟨x,J⟩:=List.exists_mem_of_ne_nil _ q
   obtain⟨Y,q2,_⟩:=(ok.mem _ x).mp J
   refine⟨x::l,by simp[h1],cF.mpr ⟨λz=>?_,h2⟩,λy O=>?_⟩
   ·have:=(j x z).2;omega
   ·rcases aW.mp O with rfl|O
    ·exact⟨Y,by omega⟩
    ·have:=j y O;exact⟨this.1,by omega⟩
 by_cases h:st.parts.length<=2
 ·omega
 ·obtain⟨l,h1,h2,j⟩:=key (st.parts.length-2) (by omega)
  have:=yq (m:=aG n) h2 λx J=>bZ.mpr (j x J).1
  rw[cY]at this
  omega
def run(bs:List (List (List Nat))):Nat->HS->HS
 | 0,st=>st
 | k+1,st=>if st.waiting=[]then st else run bs k (turn bs st)
theorem QM(z:∀a s,a<A->s<n->δ a s<n)(q:∀a s t,a<A->s<n->t<n->Df (δ a s) (δ a t)->Df s t)(J:bs.length=A)(O:∀i,i<A->Back n (δ i) (bs.getD i [])):
  ∀(k:Nat) (st:HS),Inv n A δ Df st->n+2+st.waiting.length<=k+st.parts.length->Inv n A δ Df (run bs k st)/\(run bs k st).waiting=[]/\∀s t,s<n->t<n->(run bs k st).partOf.getD s 0=(run bs k st).partOf.getD t 0->st.partOf.getD s 0=st.partOf.getD t 0
 | 0,st,j,Y=>by
  have:=Uk j.ok j.full
  refine⟨j,?_,λ_ _ _ _ h=>h⟩
  show st.waiting=[]
  exact gN.mp (by omega)
 | k+1,st,j,Y=>by
  unfold run
  by_cases h:st.waiting=[]
  ·rw[if_pos h];exact⟨j,h,λ_ _ _ _ h=>h⟩
  ·rw[if_neg h]
   obtain⟨Z,c1,f1⟩:=Uj z q J O j (kK h)
   obtain⟨i2,w2,f2⟩:=QM z q J O k (turn bs st) Z (by omega)
   exact⟨i2,w2,λs t R U e=>f1 s t R U (f2 s t R U e)⟩
end
end Hop
namespace Pt
open PySem PySem.Spec L2 DD
open PyProof.Rows hiding St
open Hop (HS)
abbrev z0(l:List Nat):List V:=l.map λ(n:Nat)=>V.int (n:Int)
abbrev xv(l:List Nat):List (Key×V):=l.map λ(s:Nat)=>((Sum.inl (s:Int):Key),V.bl true)
structure Ads where
 dx:aB
 po:aB
 pl:aB
 wg:aB
 ws:aB
 ds:List aB
abbrev zci(g:Ads):List (aC×V):=[("part_of",.ref g.po),("parts",.ref g.pl),("waiting",.ref g.wg),("waits",.ref g.ws)]
structure Rep (C:aB) (H0 H:Hp) (x:aB) (st:HS) (g:Ads):Prop where
 sm:zp H0 H
 ins:H x=some (.ins C g.dx (zci g))
 po:H g.po=some (.lst (z0 st.partOf))
 pl:H g.pl=some (.lst (g.ds.map V.ref))
 wg:H g.wg=some (.lst (z0 st.waiting))
 ws:H g.ws=some (.lst (st.waits.map V.bl))
 len:g.ds.length=st.parts.length
 ds:∀(i:Nat) d,g.ds[i]?=some d->H d=some (.dK (xv (st.parts.getD i [])))
 nd:g.ds.Nodup
 n1:g.po≠g.pl
 n2:g.po≠g.wg
 n3:g.po≠g.ws
 n4:g.pl≠g.wg
 n5:g.pl≠g.ws
 n6:g.wg≠g.ws
 f0:H0 x=none
 f1:H0 g.po=none
 f2:H0 g.pl=none
 f3:H0 g.wg=none
 f4:H0 g.ws=none
 f5:∀d∈g.ds,H0 d=none
section
variable {C:aB} {H0 H:Hp} {x:aB} {st:HS} {g:Ads}
theorem xF(s:zp H0 H)(j:H0 p=none)(o:HO):zp H0 (upd H p o):=λb u q=>by rw[ze (zq q j)];exact s b u q
theorem Rep.nx(r:Rep C H0 H x st g)(h:H p=some (.lst xs)):x≠p:=v4 r.ins h (λz=>nomatch z)
theorem Rep.nd'(r:Rep C H0 H x st g)(h:H p=some (.lst xs)):∀d∈g.ds,d≠p:=λd j=>by
 obtain⟨i,hi⟩:=eG j
 exact v4 (r.ds i d hi) h (λz=>nomatch z)
theorem Rep.ndx(r:Rep C H0 H x st g):∀d∈g.ds,d≠x:=λd j=>by
 obtain⟨i,hi⟩:=eG j
 exact v4 (r.ds i d hi) r.ins (λz=>nomatch z)
theorem Rep.setWaits(r:Rep C H0 H x st g)(l:List Bool):Rep C H0 (upd H g.ws (.lst (l.map V.bl))) x {st with waits:=l} g where
 sm:=xF r.sm r.f4 _
 ins:=by rw[ze (r.nx r.ws)];exact r.ins
 po:=by rw[ze r.n3];exact r.po
 pl:=by rw[ze r.n5];exact r.pl
 wg:=by rw[ze r.n6];exact r.wg
 ws:=zj
 len:=r.len
 ds:=λi d h=>by rw[ze (r.nd' r.ws d (bX h))];exact r.ds i d h
 nd:=r.nd
 n1:=r.n1
 n2:=r.n2
 n3:=r.n3
 n4:=r.n4
 n5:=r.n5
 n6:=r.n6
 f0:=r.f0
 f1:=r.f1
 f2:=r.f2
 f3:=r.f3
 f4:=r.f4
 f5:=r.f5
theorem Rep.setWaiting(r:Rep C H0 H x st g)(l:List Nat):Rep C H0 (upd H g.wg (.lst (z0 l))) x {st with waiting:=l} g where
 sm:=xF r.sm r.f3 _
 ins:=by rw[ze (r.nx r.wg)];exact r.ins
 po:=by rw[ze r.n2];exact r.po
 pl:=by rw[ze r.n4];exact r.pl
 wg:=zj
 ws:=by rw[ze (aT r.n6)];exact r.ws
 len:=r.len
 ds:=λi d h=>by rw[ze (r.nd' r.wg d (bX h))];exact r.ds i d h
 nd:=r.nd
 n1:=r.n1
 n2:=r.n2
 n3:=r.n3
 n4:=r.n4
 n5:=r.n5
 n6:=r.n6
 f0:=r.f0
 f1:=r.f1
 f2:=r.f2
 f3:=r.f3
 f4:=r.f4
 f5:=r.f5
theorem Rep.setPartOf(r:Rep C H0 H x st g)(l:List Nat):Rep C H0 (upd H g.po (.lst (z0 l))) x {st with partOf:=l} g where
 sm:=xF r.sm r.f1 _
 ins:=by rw[ze (r.nx r.po)];exact r.ins
 po:=zj
 pl:=by rw[ze (aT r.n1)];exact r.pl
 wg:=by rw[ze (aT r.n2)];exact r.wg
 ws:=by rw[ze (aT r.n3)];exact r.ws
 len:=r.len
 ds:=λi d h=>by rw[ze (r.nd' r.po d (bX h))];exact r.ds i d h
 nd:=r.nd
 n1:=r.n1
 n2:=r.n2
 n3:=r.n3
 n4:=r.n4
 n5:=r.n5
 n6:=r.n6
 f0:=r.f0
 f1:=r.f1
 f2:=r.f2
 f3:=r.f3
 f4:=r.f4
 f5:=r.f5
theorem getD_some{α:Type}{l:List α}{i:Nat}{d:α}(h:i<l.length):l[i]?=some (l.getD i d):=by
 simp[eR,h]
theorem Rep.setPart(r:Rep C H0 H x st g){i:Nat}{d:aB}(hi:g.ds[i]?=some d)(l:List Nat):Rep C H0 (upd H d (.dK (xv l))) x {st with parts:=st.parts.set i l} g where
 sm:=xF r.sm (r.f5 d (bX hi)) _
 ins:=by rw[ze (aT (r.ndx d (bX hi)))];exact r.ins
 po:=by rw[ze (aT (r.nd' r.po d (bX hi)))];exact r.po
 pl:=by rw[ze (aT (r.nd' r.pl d (bX hi)))];exact r.pl
 wg:=by rw[ze (aT (r.nd' r.wg d (bX hi)))];exact r.wg
 ws:=by rw[ze (aT (r.nd' r.ws d (bX hi)))];exact r.ws
 len:=by show _=(st.parts.set i l).length;rw[cG];exact r.len
 ds:=λj e hj=>by
  show _=some (HO.dK (xv ((st.parts.set i l).getD j [])))
  rw[Hop.xJ]
  have hil:i<st.parts.length:=by rw[<-r.len];exact(aY.mp hi).1
  by_cases h:i=j
  ·subst h
   rw[hi]at hj;cases hj
   rw[zj,if_pos ⟨rfl,hil⟩]
  ·have:e≠d:=λz=>by
    subst z
    obtain⟨a1,a2⟩:=aY.mp hi
    obtain⟨b1,b2⟩:=aY.mp hj
    exact h ((fX r.nd).mp (a2.trans b2.symm))
   rw[ze this,if_neg λz=>h z.1]
   exact r.ds j e hj
 nd:=r.nd
 n1:=r.n1
 n2:=r.n2
 n3:=r.n3
 n4:=r.n4
 n5:=r.n5
 n6:=r.n6
 f0:=r.f0
 f1:=r.f1
 f2:=r.f2
 f3:=r.f3
 f4:=r.f4
 f5:=r.f5
theorem Rep.addPart(r:Rep C H0 H x st g){d:aB}(hd:H d=none):Rep C H0 (upd (upd H d (.dK [])) g.pl (.lst ((g.ds++[d]).map V.ref))) x {st with parts:=st.parts++[[]]} {g with ds:=g.ds++[d]}:=by
 have ne:∀{b:aB} {o:HO},H b=some o->b≠d:=λh=>zq h hd
 have np:d≠g.pl:=λz=>ne r.pl z.symm
 refine⟨xF (λb u q=>?_) r.f2 _,?_,?_,zj,?_,?_,?_,λi e h=>?_,?_,r.n1,r.n2,r.n3,r.n4,r.n5,r.n6,r.f0,r.f1,r.f2,r.f3,r.f4,λe he=>?_⟩
 ·have:=r.sm b u q;rw[ze (ne this)];exact this
 ·rw[ze (r.nx r.pl),ze (ne r.ins)];exact r.ins
 ·show upd _ _ _ g.po=_
  rw[ze r.n1,ze (ne r.po)];exact r.po
 ·show upd _ _ _ g.wg=_
  rw[ze (aT r.n4),ze (ne r.wg)];exact r.wg
 ·show upd _ _ _ g.ws=_
  rw[ze (aT r.n5),ze (ne r.ws)];exact r.ws
 ·show(g.ds++[d]).length=(st.parts++[[]]).length
  rw[bQ,bQ,r.len];rfl
 ·show _=some (HO.dK (xv ((st.parts++[[]]).getD i [])))
  have h':(g.ds++[d])[i]?=some e:=h
  rw[Hop.yC]
  by_cases hi:i<g.ds.length
  ·rw[eA hi]at h'
   have hm:=bX h'
   rw[ze (r.nd' r.pl e hm),ze (ne (r.ds i e h')),if_pos (by rw[<-r.len];exact hi)]
   exact r.ds i e h'
  ·rw[fD (by omega)]at h'
   have:i-g.ds.length=0:=by
    have:=(aY.mp h').1
    simp at this;omega
   rw[this]at h'
   simp at h'
   subst h'
   rw[ze np,zj,if_neg (by rw[<-r.len];exact hi),if_pos (by rw[<-r.len];omega)]
   rfl
 ·show(g.ds++[d]).Nodup
  rw[cZ]
  refine⟨r.nd,by simp,λa ha b hb z=>?_⟩
  have hb':b=d:=by simpa using hb
  subst hb';subst z
  obtain⟨i,hi⟩:=eG ha
  rw[r.ds i _ hi]at hd;cases hd
 ·rcases cA.mp he with h|h
  ·exact r.f5 e h
  ·have:e=d:=by simpa using h
   subst this
   exact r.sm.free hd
end
structure PC (K:aE) (C:aB):Prop where
 cl:Cls K C
 n1:wj K C "part_of"
 n2:wj K C "parts"
 n3:wj K C "waiting"
 n4:wj K C "waits"
theorem Wm{n p:Nat}(h:p<n):ixN n (p:Int)=some p:=by
 unfold ixN
 rw[if_pos (by omega),if_pos (by omega)];simp
theorem Xz{a b:Nat}:((Sum.inl (a:Int):Key)=Sum.inl (b:Int))↔a=b:=by
 constructor
 ·intro h;injection h with h;omega
 ·rintro rfl;rfl
theorem ZC(s:Nat):∀l:List Nat,yT (xv l) (Sum.inl (s:Int))=if s∈l then some (.bl true)else none
 | []=>rfl
 | a::r=>by
  show yT (((Sum.inl (a:Int):Key),V.bl true)::xv r) _=_
  by_cases h:a=s
  ·subst h;rw[wZ rfl];simp
  ·rw[wv (λz=>h (Xz.mp z)),ZC s r]
   have:¬s=a:=λz=>h z.symm
   simp[this]
theorem u4(s:Nat):∀l:List Nat,wa (xv l) (Sum.inl (s:Int))=xv (l.filter λt=>decide (t≠s))
 | []=>rfl
 | a::r=>by
  show wa (((Sum.inl (a:Int):Key),V.bl true)::xv r) _=_
  by_cases h:a=s
  ·subst h;rw[zaK rfl,u4 a r];simp
  ·rw[zaL (λz=>h (Xz.mp z)),u4 s r]
   simp[h]
theorem W8{s:Nat}{l:List Nat}(h:s∉l):xf (xv l) (Sum.inl (s:Int)) (V.bl true)=xv (l++[s]):=by
 rw[V2 _ (by rw[ZC,if_neg h])]
 simp
theorem Qf(po l:List Nat)(s v:Nat):Hop.yX po (l++[s]) v=(Hop.yX po l v).set s v:=by
 unfold Hop.yX
 rw[hX];rfl
theorem Qg(l d:List Nat)(s:Nat):(l.filter λt=>!d.contains t).filter (λt=>decide (t≠s))=l.filter λt=>!(d++[s]).contains t:=by
 rw[List.filter_filter]
 congr 1
 funext t
 simp only[List.contains_eq_mem,cA,bN]
 by_cases h:t=s <;>by_cases h2:t∈d <;>simp[h,h2]
theorem ZD{l:List Nat}{i s:Nat}(h:l[i]?=some s):l.take (i+1)=l.take i++[s]:=by
 rw[jA,h];rfl
section
variable {C:aB} {H0 H:Hp} {x:aB} {st:HS} {g:Ads}
theorem Rep.ext(r:Rep C H0 H x st g)(q:H l=none)(o:HO):Rep C (upd H0 l o) (upd H l o) x st g:=by
 have ne:∀{b:aB} {u:HO},H b=some u->b≠l:=λh=>zq h q
 have nm:∀d∈g.ds,d≠l:=λd j=>by
  obtain⟨i,hi⟩:=eG j
  exact ne (r.ds i d hi)
 refine⟨Zs r.sm o,?_,?_,?_,?_,?_,r.len,λi d h=>?_,r.nd,r.n1,r.n2,r.n3,r.n4,r.n5,r.n6,?_,?_,?_,?_,?_,λd j=>?_⟩
 ·rw[ze (ne r.ins)];exact r.ins
 ·rw[ze (ne r.po)];exact r.po
 ·rw[ze (ne r.pl)];exact r.pl
 ·rw[ze (ne r.wg)];exact r.wg
 ·rw[ze (ne r.ws)];exact r.ws
 ·rw[ze (ne (r.ds i d h))];exact r.ds i d h
 ·rw[ze (ne r.ins)];exact r.f0
 ·rw[ze (ne r.po)];exact r.f1
 ·rw[ze (ne r.pl)];exact r.f2
 ·rw[ze (ne r.wg)];exact r.f3
 ·rw[ze (ne r.ws)];exact r.f4
 ·rw[ze (nm d j)];exact r.f5 d j
def mid(st:HS)(part:Nat)(stands:List Nat)(i:Nat):HS :=
 ⟨Hop.yX st.partOf (stands.take i) st.parts.length,st.parts.set part ((st.parts.getD part []).filter λs=>!(stands.take i).contains s)++[stands.take i],st.waiting,st.waits++[false]⟩
theorem zcj(part:Nat)(stands:List Nat)(hp:part<st.parts.length):mid st part stands 0={st with parts:=st.parts++[[]],waits:=st.waits++[false]}:=by
 unfold mid
 simp only[mM,List.contains_nil,Bool.not_false,Hop.yX,List.foldl_nil]
 rw[show(st.parts.getD part []).filter (λ_=>true)=st.parts.getD part []from mN.mpr λ_ _=>rfl]
 rw[show st.parts.set part (st.parts.getD part [])=st.parts from ?_]
 apply mO ;intro j
 rw[kF]
 by_cases h:part=j
 ·subst h;simp[hp]
 ·simp[h]
theorem zck{part:Nat}{stands:List Nat}{i s:Nat}(hp:part<st.parts.length)(h:stands[i]?=some s):
  mid st part stands (i+1)={mid st part stands i with
   partOf:=(mid st part stands i).partOf.set s st.parts.length
   parts:=((mid st part stands i).parts.set part (((mid st part stands i).parts.getD part []).filter λt=>decide (t≠s))).set st.parts.length ((mid st part stands i).parts.getD st.parts.length []++[s])}:=by
 have hg:(mid st part stands i).parts.getD part []=(st.parts.getD part []).filter λs=>!(stands.take i).contains s:=by
  show(st.parts.set part _++[stands.take i]).getD part []=_
  rw[Hop.yC,cG,if_pos hp,Hop.xJ,if_pos ⟨rfl,hp⟩]
 have hf:(mid st part stands i).parts.getD st.parts.length []=stands.take i:=by
  show(st.parts.set part _++[stands.take i]).getD _ []=_
  rw[Hop.yC,cG,if_neg (cI _),if_pos rfl]
 rw[hg,hf,Qg]
 unfold mid
 rw[ZD h,Qf]
 congr 1
 show _=((st.parts.set part _++[stands.take i]).set part _).set st.parts.length _
 rw[List.set_append_left _ _ (by rw[cG];exact hp),List.set_set,List.set_append_right _ _ (by rw[cG];exact aP _),cG,kL]
 rfl
theorem Ul{part:Nat}{stands:List Nat}{i:Nat}(hp:part<st.parts.length):(mid st part stands i).parts.getD part []=(st.parts.getD part []).filter λs=>!(stands.take i).contains s:=by
 show(st.parts.set part _++[stands.take i]).getD part []=_
 rw[Hop.yC,cG,if_pos hp,Hop.xJ,if_pos ⟨rfl,hp⟩]
theorem W9{part:Nat}{stands:List Nat}{i:Nat}:(mid st part stands i).parts.getD st.parts.length []=stands.take i:=by
 show(st.parts.set part _++[stands.take i]).getD _ []=_
 rw[Hop.yC,cG,if_neg (cI _),if_pos rfl]
theorem zev{part:Nat}{stands:List Nat}(hp:part<st.parts.length)(h:stands.length≠(st.parts.getD part []).length){w:Nat} 
  (hw:w=if(st.waits++[false]).getD part false=true\/stands.length<=((mid st part stands stands.length).parts.getD part []).length then st.parts.length else part) :
  {mid st part stands stands.length with waits:=(st.waits++[false]).set w true,waiting:=st.waiting++[w]}=Hop.ye st part stands:=by
 rw[Ul hp,eH]at hw
 unfold Hop.ye
 rw[if_neg h]
 simp only
 rw[<-hw]
 unfold mid
 rw[eH]
theorem zew{a b:Nat}(h:decide (V.int (a:Int)=V.int (b:Int))=true):a=b:=by
 have:=of_decide_eq_true h
 injection this with this
 omega
theorem zex{a b:Nat}(h:¬decide (V.int (a:Int)=V.int (b:Int))=true):a≠b:=λz=>h (by rw[z];simp)
end
theorem Um{J:It}{n:Nat}{g:TG}{tb:TS}{D:Ends}{σ:St}{H:Hp}(j:Nat->St->Hp->Prop)(Z:j 0 σ H)(O:∀i σ H,i<n->j i σ H->J.go i H)(q:∀σ H,j n σ H->J.stop n H) 
  (hs:∀i x σ H H',i<n->j i σ H->J.yld i H x H'->g x σ H' λR H2=>tb {D with nx:=j (i+1),ct:=j (i+1),bk:=D.nx} R H2) (hd:∀σ H,j n σ H->D.nx σ H) :
  ∃W:Nat->Nat->St->Hp->Prop,(∃m,W 0 m σ H)/\∀i m σ H,W i m σ H->
   (J.stop i H/\D.nx σ H)\/(J.go i H/\∃N:St->Hp->Prop,(∀U H',N U H'->∃Y,Y<m/\W (i+1) Y U H')/\∀x H',J.yld i H x H'->g x σ H' λR H2=>tb {D with nx:=N,ct:=N,bk:=D.nx} R H2):=by
 refine⟨λi m σ H=>m=n-i/\i<=n/\j i σ H,⟨n,by simp,cR _,Z⟩,?_⟩
 rintro i m σ H ⟨rfl,hi,p⟩
 by_cases z:i<n
 ·exact .inr ⟨O i σ H z p,j (i+1),λU H' p'=>⟨n-(i+1),by omega,rfl,z,p'⟩,λx H' y=>hs i x σ H H' z p y⟩
 ·have e:i=n:=by omega
  subst e
  exact .inl ⟨q σ H p,hd σ H p⟩
section
variable {C:aB} {H0 H1 H:Hp} {x:aB} {st:HS} {g:Ads}
theorem Rep.weak(r:Rep C H1 H x st g)(s:zp H0 H1):Rep C H0 H x st g :=
 ⟨λb u q=>r.sm b u (s b u q),r.ins,r.po,r.pl,r.wg,r.ws,r.len,r.ds,r.nd,r.n1,r.n2,r.n3,r.n4,r.n5,r.n6,s.free r.f0,s.free r.f1,s.free r.f2,s.free r.f3,s.free r.f4,λd j=>s.free (r.f5 d j)⟩
theorem zX(h:upd H a o b=none):b≠a/\H b=none:=by
 unfold upd at h
 by_cases e:b=a
 ·rw[if_pos e]at h;cases h
 ·rw[if_neg e]at h;exact⟨e,h⟩
def st0:HS:=⟨[],[[],[]],[0,1],[true,true]⟩
theorem Rep.begin{Y j J pl wg ws dx:aB}{o o1 o2 o3:HO}(U:zp H0 H)(hx:H x=some o)(h0:H0 x=none){Ha Hb Hc Hd:Hp}(O:H Y=none)(ea:Ha=upd (upd H Y (.lst [])) x o1)(af:Ha j=none)(ag:upd Ha j (.dK []) J=none) 
  (ah:upd (upd Ha j (.dK [])) J (.dK []) pl=none) (eb:Hb=upd (upd (upd (upd Ha j (.dK [])) J (.dK [])) pl (.lst [.ref j,.ref J])) x o2) (ai:Hb wg=none)
  (ec:Hc=upd (upd Hb wg (.lst [.int 0,.int 1])) x o3) (aj:Hc ws=none)
  (ed:Hd=upd (upd Hc ws (.lst [.bl true,.bl true])) x (.ins C dx (zci ⟨dx,Y,pl,wg,ws,[j,J]⟩))):Rep C H0 Hd x st0 ⟨dx,Y,pl,wg,ws,[j,J]⟩:=by
 have R:Y≠x:=λz=>by rw[z,hx]at O;cases O
 subst ea
 obtain⟨a1,a2⟩:=zX af
 obtain⟨a3,a4⟩:=zX a2
 obtain⟨b1,b2⟩:=zX ag
 obtain⟨b3,b4⟩:=zX b2
 obtain⟨b5,b6⟩:=zX b4
 obtain⟨c1,c2⟩:=zX ah
 obtain⟨c3,c4⟩:=zX c2
 obtain⟨c5,c6⟩:=zX c4
 obtain⟨c7,c8⟩:=zX c6
 subst eb
 obtain⟨e1,e2⟩:=zX ai
 obtain⟨e3,e4⟩:=zX e2
 obtain⟨e5,e6⟩:=zX e4
 obtain⟨e7,e8⟩:=zX e6
 obtain⟨e9,ak⟩:=zX e8
 obtain⟨aa,ab⟩:=zX ak
 subst ec
 obtain⟨f1,f2⟩:=zX aj
 obtain⟨f3,f4⟩:=zX f2
 obtain⟨f5,f6⟩:=zX f4
 obtain⟨f7,f8⟩:=zX f6
 obtain⟨f9,al⟩:=zX f8
 obtain⟨am,an⟩:=zX al
 obtain⟨aq,ao⟩:=zX an
 obtain⟨ac,ae⟩:=zX ao
 subst ed
 refine⟨λb u q=>?_,zj,?_,?_,?_,?_,rfl,λi d h=>?_,?_,?_,?_,?_,?_,?_,?_,h0,U.free O,U.free c8,U.free ab,U.free ae,λd hd=>?_⟩
 ·have hb:=U b u q
  have n0:b≠x:=λz=>by rw[z,h0]at q;cases q
  have Z:∀c,H c=none->b≠c:=λc hc=>zq hb hc
  simp only[ze n0,ze (Z _ O),ze (Z _ a4),ze (Z _ b6),ze (Z _ c8),ze (Z _ ab),ze (Z _ ae)]
  exact hb
 ·show upd _ _ _ Y=_
  rw[ze R,ze (aT ac),ze R,ze (aT aa),ze R,ze (aT c7),ze (aT b5),ze (aT a3),ze R,zj];rfl
 ·show upd _ _ _ pl=_
  rw[ze c5,ze (aT f7),ze c5,ze (aT e3),ze c5,zj];rfl
 ·show upd _ _ _ wg=_
  rw[ze e1,ze (aT f3),ze e1,zj];rfl
 ·show upd _ _ _ ws=_
  rw[ze f1,zj];rfl
 ·match i,h with
  | 0,h=>
   have:j=d:=by simpa using h
   subst this
   show upd _ _ _ j=_
   rw[ze a1,ze (aT am),ze a1,ze (aT e7),ze a1,ze (aT c3),ze (aT b1),zj];rfl
  | 1,h=>
   have:J=d:=by simpa using h
   subst this
   show upd _ _ _ J=_
   rw[ze b3,ze (aT f9),ze b3,ze (aT e5),ze b3,ze (aT c1),zj];rfl
  | i+2,h=>simp at h
 ·show [j,J].Nodup
  simp[aT b1]
 ·exact aT c7
 ·exact aT aa
 ·exact aT ac
 ·exact aT e3
 ·exact aT f7
 ·exact aT f3
 ·have ap:d=j\/d=J:=by simpa using hd
  rcases ap with rfl|rfl
  ·exact U.free a4
  ·exact U.free b6
def pOf(b:Bool):Nat:=if b then 1 else 0
def ini(good:List Bool)(i:Nat):HS:=⟨(good.take i).map pOf,[(aG i).filter λs=>!good.getD s false,(aG i).filter λs=>good.getD s false],[0,1],[true,true]⟩
theorem zcl(good:List Bool):ini good good.length=Hop.start good:=by
 unfold ini Hop.start
 rw[eH];rfl
theorem zcm(h:good[i]?=some b):ini good (i+1)={ini good i with partOf:=(ini good i).partOf++[pOf b],parts:=(ini good i).parts.set (pOf b) ((ini good i).parts.getD (pOf b) []++[i])}:=by
 have j:good.getD i false=b:=by simp[eR,h]
 unfold ini
 rw[jA,h,kM,iJ,iJ]
 cases b with
 | true=>simp[pOf,h]
 | false=>simp[pOf,h]
theorem zaZ:i∉(ini good i).parts.getD p []:=λz=>by
 match p,z with
 | 0,z=>
  have j:i∈(aG i).filter λs=>!good.getD s false:=z
  have:=bZ.mp (eL.mp j).1
  omega
 | 1,z=>
  have j:i∈(aG i).filter λs=>good.getD s false:=z
  have:=bZ.mp (eL.mp j).1
  omega
 | p+2,z=>simp[ini]at z
theorem za0:((ini good i).parts.getD p []).length<=i:=by
 have key:∀f:Nat->Bool,((aG i).filter f).length<=i:=λf=>by
  have:=jq f (aG i)
  rw[cY]at this
  exact this
 match p with
 | 0=>exact key _
 | 1=>exact key _
 | p+2=>simp[ini]
end
abbrev FE:=(Nat×List Nat)×aB
abbrev kvF(fl:List FE):List (Key×V):=fl.map λe=>((Sum.inl (e.1.1:Int):Key),V.ref e.2)
structure FR (H0 H:Hp) (d:aB) (fl:List FE):Prop where
 sm:zp H0 H
 dd:H d=some (.dK (kvF fl))
 d0:H0 d=none
 ls:∀e∈fl,H e.2=some (.lst (z0 e.1.2))/\H0 e.2=none
 nd:(fl.map (·.2)).Nodup
 kn:(fl.map (·.1.1)).Nodup
theorem Uo{fl:List FE}(j:(fl.map (·.1.1)).Nodup){e:FE}(h:e∈fl):yT (kvF fl) (Sum.inl (e.1.1:Int))=some (.ref e.2):=by
 induction fl with
 | nil=>cases h
 | cons a r q=>
  rw[aR,cF]at j
  show yT (((Sum.inl (a.1.1:Int):Key),V.ref a.2)::kvF r) _=_
  rcases aW.mp h with rfl|h
  ·exact wZ rfl
  ·rw[wv λz=>j.1 (by rw[Xz.mp z];exact bK.mpr ⟨e,h,rfl⟩)]
   exact q j.2 h
theorem QN{fl:List FE}{p:Nat}(h:p∉fl.map (·.1.1)):yT (kvF fl) (Sum.inl (p:Int))=none:=by
 induction fl with
 | nil=>rfl
 | cons a r j=>
  rw[aR,aW,not_or]at h
  show yT (((Sum.inl (a.1.1:Int):Key),V.ref a.2)::kvF r) _=_
  rw[wv λz=>h.1 (Xz.mp z).symm]
  exact j h.2
def vw(fl:List FE)(p s:Nat):List FE:=fl.map λe=>if e.1.1=p then((e.1.1,e.1.2++[s]),e.2)else e
theorem zfU(fl:List FE)(p s:Nat):(vw fl p s).map (·.2)=fl.map (·.2):=by
 unfold vw
 rw[cN]
 apply fJ
 intro e _
 show(if e.1.1=p then _ else e).2=_
 split <;>rfl
theorem zfV(fl:List FE)(p s:Nat):(vw fl p s).map (·.1.1)=fl.map (·.1.1):=by
 unfold vw
 rw[cN]
 apply fJ
 intro e _
 show(if e.1.1=p then _ else e).1.1=_
 split <;>rfl
theorem zey(fl:List FE)(p s:Nat):kvF (vw fl p s)=kvF fl:=by
 unfold vw kvF
 rw[cN]
 apply fJ
 intro e _
 by_cases h:e.1.1=p
 ·simp[h]
 ·simp[h]
section
variable {H0 H:Hp} {d a:aB} {fl:List FE} {p s:Nat}
theorem FR.new(h:H d=none):FR H (upd H d (.dK [])) d []:=⟨zE h _,zj,h,λe h=>absurd h (by simp),by simp,by simp⟩
theorem FR.add(r:FR H0 H d fl)(Z:p∉fl.map (·.1.1))(J:H a=none):FR H0 (upd (upd H a (.lst [])) d (.dK (xf (kvF fl) (Sum.inl (p:Int)) (V.ref a)))) d (fl++[((p,[]),a)]):=by
 have ne:∀{b o},H b=some o->b≠a:=λh=>zq h J
 have O:a≠d:=λz=>ne r.dd z.symm
 refine⟨λb u q=>?_,?_,r.d0,λe R=>?_,?_,?_⟩
 ·rw[ze (zq q r.d0),ze (ne (r.sm b u q))];exact r.sm b u q
 ·rw[zj,V2 _ (QN Z)];simp
 ·rcases cA.mp R with h|h
  ·obtain⟨h1,h2⟩:=r.ls e h
   rw[ze (v4 h1 r.dd (λz=>nomatch z)),ze (ne h1)]
   exact⟨h1,h2⟩
  ·have:e=((p,[]),a):=by simpa using h
   subst this
   refine⟨?_,r.sm.free J⟩
   show upd _ _ _ a=_
   rw[ze O,zj];rfl
 ·rw[eI,cZ]
  refine⟨r.nd,by simp,λb U c Y z=>?_⟩
  have j:c=a:=by simpa using Y
  subst j;subst z
  obtain⟨e,R,rfl⟩:=bK.mp U
  rw[(r.ls e R).1]at J;cases J
 ·rw[eI,cZ]
  refine⟨r.kn,by simp,λb U c Y z=>?_⟩
  have j:c=p:=by simpa using Y
  subst j;subst z
  exact Z U
theorem FR.app(r:FR H0 H d fl)(U:e∈fl)(ep:e.1.1=p):FR H0 (upd H e.2 (.lst (z0 (e.1.2++[s])))) d (vw fl p s):=by
 refine⟨xF r.sm (r.ls e U).2 _,?_,r.d0,λf hf=>?_,by rw[zfU];exact r.nd,by rw[zfV];exact r.kn⟩
 ·rw[ze (v4 r.dd (r.ls e U).1 (λz=>nomatch z)),zey];exact r.dd
 ·unfold vw at hf
  obtain⟨R,Y,rfl⟩:=bK.mp hf
  by_cases h:R.1.1=p
  ·have e1:R=e:=by
    obtain⟨i,hi⟩:=eG Y
    obtain⟨j,q⟩:=eG U
    have J:(fl.map (·.1.1))[i]?=some p:=by rw[bG,hi];simp[h]
    have O:(fl.map (·.1.1))[j]?=some p:=by rw[bG,q];simp[ep]
    obtain⟨a1,a2⟩:=aY.mp J
    obtain⟨b1,Z⟩:=aY.mp O
    have:=(fX r.kn).mp (a2.trans Z.symm)
    subst this
    rw[hi]at q;exact cV q
   subst e1
   rw[if_pos h]
   exact⟨zj,(r.ls R Y).2⟩
  ·rw[if_neg h]
   have ne:R.2≠e.2:=λz=>h (by
    obtain⟨i,hi⟩:=eG Y
    obtain⟨j,q⟩:=eG U
    have J:(fl.map (·.2))[i]?=some e.2:=by rw[bG,hi];simp[z]
    have O:(fl.map (·.2))[j]?=some e.2:=by rw[bG,q];rfl
    obtain⟨a1,a2⟩:=aY.mp J
    obtain⟨b1,Z⟩:=aY.mp O
    have:=(fX r.nd).mp (a2.trans Z.symm)
    subst this
    rw[hi]at q
    rw[cV q];exact ep)
   rw[ze ne]
   exact r.ls R Y
theorem Up:∀{found:List (Nat×List Nat)},(found.map bA).Nodup->p∈found.map bA->Hop.yw found p s=found.map λe=>if e.1=p then(e.1,e.2++[s])else e
 | [],_,h=>by cases h
 | (q,l)::r,nd,h=>by
  rw[aR,cF]at nd
  unfold Hop.yw
  rw[aR]
  by_cases e:q=p
  ·subst e
   rw[if_pos rfl,if_pos rfl]
   congr 1
   symm
   rw[fJ (g:=id)]
   ·simp
   ·intro f hf
    rw[if_neg λz=>nd.1 (bK.mpr ⟨f,hf,z⟩)];rfl
  ·rw[if_neg e,if_neg (show ¬(q,l).1=p from e)]
   have h':p∈r.map bA:=by
    rcases aW.mp h with z|z
    ·exact absurd z.symm e
    ·exact z
   rw[Up nd.2 h']
theorem Va:∀{found:List (Nat×List Nat)},p∉found.map bA->Hop.yw found p s=found++[(p,[s])]
 | [],_=>rfl
 | (q,l)::r,h=>by
  rw[aR,aW,not_or]at h
  unfold Hop.yw
  rw[if_neg λz=>h.1 z.symm,Va h.2];rfl
theorem JA(kn:(fl.map (·.1.1)).Nodup)(h:p∈fl.map (·.1.1)):(vw fl p s).map (·.1)=Hop.yw (fl.map (·.1)) p s:=by
 rw[Up (by rw[cN];exact kn) (by rw[cN];exact h)]
 unfold vw
 rw[cN,cN]
 apply fJ
 intro e _
 show(if e.1.1=p then _ else e).1=if e.1.1=p then _ else e.1
 split <;>rfl
theorem zcn(h:p∉fl.map (·.1.1)):(vw (fl++[((p,[]),a)]) p s).map (·.1)=Hop.yw (fl.map (·.1)) p s:=by
 rw[Va (by rw[cN];exact h)]
 unfold vw
 rw[eI,eI]
 congr 1
 ·rw[cN]
  apply fJ
  intro e he
  show(if e.1.1=p then _ else e).1=_
  rw[if_neg λz=>h (bK.mpr ⟨e,he,z⟩)]
 ·simp
end
structure BkR (H:Hp) (b:aB) (back:List (List Nat)) (as:List aB):Prop where
 b:H b=some (.lst (as.map V.ref))
 len:as.length=back.length
 ls:∀(i:Nat) a,as[i]?=some a->H a=some (.lst (z0 (back.getD i [])))
theorem BkR.mono{H H':Hp}{b:aB}{back:List (List Nat)}{as:List aB}(r:BkR H b back as)(s:zp H H'):BkR H' b back as:=⟨s _ _ r.b,r.len,λi a h=>s _ _ (r.ls i a h)⟩
def vx(f:Nat->Nat)(xs:List Nat):List (Nat×List Nat):=xs.foldl (λfound s=>Hop.yw found (f s) s) []
theorem Vb(f:Nat->Nat)(xs:List Nat)(s:Nat):vx f (xs++[s])=Hop.yw (vx f xs) (f s) s:=by
 unfold vx
 rw[hX];rfl
theorem Vc(p s:Nat):∀found:List (Nat×List Nat),(Hop.yw found p s).length<=found.length+1
 | []=>aP _
 | (q,l)::r=>by
  unfold Hop.yw
  split
  ·simp
  ·rw[cC,cC]
   exact kO (Vc p s r)
theorem XA(p s n:Nat):∀found:List (Nat×List Nat),(∀e∈found,e.2.length<=n)->∀e∈Hop.yw found p s,e.2.length<=n+1
 | [],_,e,he=>by
  have:e=(p,[s]):=by simpa[Hop.yw]using he
  subst this
  show 1<=n+1
  omega
 | (q,l)::r,h,e,he=>by
  unfold Hop.yw at he
  split at he
  ·rcases aW.mp he with rfl|he
   ·have:=h (q,l) bE
    show(l++[s]).length<=n+1
    rw[bQ]
    simp at this ⊢;exact this
   ·have:=h e (bC _ he);omega
  ·rcases aW.mp he with rfl|he
   ·have:=h (q,l) bE;omega
   ·exact XA p s n r (λe he=>h e (bC _ he)) e he
theorem JB(f:Nat->Nat)(xs:List Nat):(vx f xs).length<=xs.length/\∀e∈vx f xs,e.2.length<=xs.length:=by
 have key:∀n,∀xs:List Nat,xs.length=n->(vx f xs).length<=xs.length/\∀e∈vx f xs,e.2.length<=xs.length:=by
  intro n
  induction n with
  | zero=>
   intro xs h
   have:xs=[]:=gN.mp h
   subst this
   exact⟨aP _,λe he=>absurd he (by simp[vx])⟩
  | succ n ih=>
   intro xs h
   have hne:xs≠[]:=λz=>by rw[z]at h;cases h
   have e:=kJ hne
   have hl:xs.dropLast.length=n:=by rw[lH,h];rfl
   obtain⟨a,b⟩:=ih _ hl
   rw[hl]at a b
   rw[h,<-e,Vb]
   exact⟨bL (Vc _ _ _) (by omega),XA _ _ n _ b⟩
 exact key _ xs rfl
theorem za1(goals:List Nat)(back:List (List Nat))(partOf:List Nat):Hop.wQ goals back partOf=vx (λs=>partOf.getD s 0) (goals.flatMap λg=>back.getD g []):=Hop.W7 goals back partOf
theorem Vd{j:List Nat}{i g:Nat}(back:List (List Nat))(h:j[i]?=some g):(j.take (i+1)).flatMap (λg=>back.getD g [])=(j.take i).flatMap (λg=>back.getD g [])++back.getD g []:=by
 rw[ZD h,kP];simp
theorem zez{q:List Nat}{i g:Nat}(back:List (List Nat))(h:q[i]?=some g)(j:Nat):((q.take i).flatMap (λg=>back.getD g [])++(back.getD g []).take j).length<=(q.flatMap λg=>back.getD g []).length:=by
 have e:q=q.take (i+1)++q.drop (i+1):=(List.take_append_drop _ _).symm
 have:(q.flatMap λg=>back.getD g []).length=((q.take (i+1)).flatMap λg=>back.getD g []).length+((q.drop (i+1)).flatMap λg=>back.getD g []).length:=by
  rw[<-bQ,<-kP,<-e]
 rw[this,Vd back h,bQ,bQ,fC]
 omega
structure LS (H0 H:Hp) (as:List aB) (back:List (List Nat)):Prop where
 sm:zp H0 H
 len:as.length=back.length
 ls:∀(i:Nat) a,as[i]?=some a->H a=some (.lst (z0 (back.getD i [])))/\H0 a=none
 nd:as.Nodup
structure BO (H0 H:Hp) (b:aB) (as:List aB) (back:List (List Nat)):Prop where
 l:LS H0 H as back
 bb:H b=some (.lst (as.map V.ref))
 b0:H0 b=none
 nb:b∉as
section
variable {H0 H H':Hp} {b a:aB} {as:List aB} {back:List (List Nat)}
theorem LS.grow(r:LS H0 H as back)(s:zp H H'):LS H0 H' as back:=⟨r.sm.trans s,r.len,λi a h=>⟨s _ _ (r.ls i a h).1,(r.ls i a h).2⟩,r.nd⟩
theorem BO.grow(r:BO H0 H b as back)(s:zp H H'):BO H0 H' b as back:=⟨r.l.grow s,s _ _ r.bb,r.b0,r.nb⟩
theorem LS.nil:LS H H [] []:=⟨zp.refl _,rfl,λi a h=>by simp at h,by simp⟩
theorem LS.snoc(r:LS H0 H as back)(ha:H a=none):LS H0 (upd H a (.lst [])) (as++[a]) (back++[[]]):=by
 have ne:∀{c o},H c=some o->c≠a:=λh=>zq h ha
 refine⟨r.sm.trans (zE ha _),by rw[bQ,bQ,r.len];rfl,λi c h=>?_,?_⟩
 ·rw[Hop.yC]
  by_cases hi:i<as.length
  ·rw[eA hi]at h
   obtain⟨h1,h2⟩:=r.ls i c h
   rw[ze (ne h1),if_pos (by rw[<-r.len];exact hi)]
   exact⟨h1,h2⟩
  ·rw[fD (by omega)]at h
   have e:i-as.length=0:=by
    have:=(aY.mp h).1
    simp at this;omega
   rw[e]at h
   have:a=c:=by simpa using h
   subst this
   rw[zj,if_neg (by rw[<-r.len];exact hi),if_pos (by rw[<-r.len];omega)]
   exact⟨rfl,r.sm.free ha⟩
 ·rw[cZ]
  refine⟨r.nd,by simp,λc hc e he z=>?_⟩
  have he':e=a:=by simpa using he
  subst he';subst z
  obtain⟨i,hi⟩:=eG hc
  rw[(r.ls i _ hi).1]at ha;cases ha
theorem LS.close(r:LS H0 H as back)(j:H b=none):BO H0 (upd H b (.lst (as.map V.ref))) b as back :=
 ⟨r.grow (zE j _),zj,r.sm.free j,λz=>by
  obtain⟨i,hi⟩:=eG z
  rw[(r.ls i _ hi).1]at j;cases j⟩
theorem BO.put(r:BO H0 H b as back){i:Nat}(h:as[i]?=some a)(l:List Nat):BO H0 (upd H a (.lst (z0 l))) b as (back.set i l):=by
 obtain⟨h1,h2⟩:=r.l.ls i a h
 have hib:i<back.length:=by rw[<-r.l.len];exact(aY.mp h).1
 have nba:b≠a:=λz=>r.nb (by rw[z];exact bX h)
 refine⟨⟨xF r.l.sm h2 _,by rw[cG];exact r.l.len,λj c hc=>?_,r.l.nd⟩,by rw[ze nba];exact r.bb,r.b0,r.nb⟩
 rw[Hop.xJ]
 by_cases e:i=j
 ·subst e
  rw[h]at hc;cases hc
  rw[zj,if_pos ⟨rfl,hib⟩]
  exact⟨rfl,h2⟩
 ·have ne:c≠a:=λz=>by
   subst z
   obtain⟨a1,a2⟩:=aY.mp h
   obtain⟨b1,b2⟩:=aY.mp hc
   exact e ((fX r.l.nd).mp (a2.trans b2.symm))
  rw[ze ne,if_neg λz=>e z.1]
  exact r.l.ls j c hc
theorem BO.bk(r:BO H0 H b as back):BkR H b back as:=⟨r.bb,r.l.len,λi a h=>(r.l.ls i a h).1⟩
theorem zco{K:aE}{O:aB}{q:List V}{Fin:List V->Hp->Prop}(U:H O=some (.tup q))(Z:q.length<=aH)(h:∀as H',LS H H' as (gI q.length [])->Fin (as.map V.ref) H'):
  Vw (Itt K O) (v5 0) Wa (zfo X6) [none] H Fin:=by
 refine⟨λi m ys H1=>m=q.length-i/\i<=q.length/\∃as,ys=as.map V.ref/\LS H H1 as (gI i []),⟨q.length,by simp,cR _,[],rfl,LS.nil⟩,?_⟩
 rintro i m ys H1 ⟨rfl,hi,as,rfl,l⟩
 have hl:as.length=i:=by rw[l.len,lB]
 refine⟨by rw[aM];omega,?_⟩
 have R:SqT K H1 O q:=SqT.of (l.sm _ _ U)
 by_cases z:i<q.length
 ·refine .inr ⟨⟨q,q[i],R,by simp[z]⟩,λx H' y=>?_⟩
  obtain⟨rfl,y⟩:=y
  refine⟨⟨rfl,λj v J=>?_⟩,(show _/\_ from⟨by decide,λp Y=>⟨by rw[aM];omega,q.length-(i+1),by omega,rfl,z,as++[p],by simp,?_⟩⟩)⟩
  ·match j,J with
   | 0,J=>simp at J
   | j+1,J=>simp at J
  ·have:=l.snoc Y
   rw[show gI i ([]:List Nat)++[[]]=gI (i+1) []from(List.replicate_succ').symm]at this
   exact this
 ·have e:i=q.length:=by omega
  subst e
  exact .inl ⟨⟨q,R,aP _⟩,h as H1 l⟩
end
def bk(rows:List (List Nat))(a i:Nat):List (List Nat):=(aG rows.length).map λg=>(aG i).filter λs=>decide ((rows.getD s []).getD a 0=g)
theorem zeA(rows:List (List Nat))(a:Nat):bk rows a 0=gI rows.length []:=by
 unfold bk
 rw[show(λg=>(aG 0).filter λs=>decide ((rows.getD s []).getD a 0=g))=λ(_:Nat)=>([]:List Nat)from rfl,mP,cY]
theorem XB(j:g<rows.length):(bk rows a i).getD g []=(aG i).filter λs=>decide ((rows.getD s []).getD a 0=g):=by
 unfold bk
 rw[bI,bG,fU j];rfl
theorem zeB(J:(rows.getD i []).getD a 0<rows.length):bk rows a (i+1)=(bk rows a i).set ((rows.getD i []).getD a 0) ((bk rows a i).getD ((rows.getD i []).getD a 0) []++[i]):=by
 rw[XB J]
 apply mO
 intro j
 rw[kF]
 unfold bk
 rw[bG,bG,aM,cY]
 by_cases q:j<rows.length
 ·rw[fU q,cP,kM,iJ]
  by_cases e:(rows.getD i []).getD a 0=j
  ·subst e
   rw[if_pos rfl,if_pos J]
   congr 2
   simp
  ·rw[if_neg e,cP]
   congr 1
   have:(List.filter (λs=>decide ((rows.getD s []).getD a 0=j)) [i])=[]:=by
    rw[List.filter_cons_of_neg (by simpa using e)];rfl
   rw[this,gF]
 ·rw[kG (by simpa using q)]
  rw[if_neg λz=>q (by omega)];rfl
theorem zeC(h:∀s,s<rows.length->(rows.getD s []).getD a 0<rows.length):Hop.Back rows.length (λs=>(rows.getD s []).getD a 0) (bk rows a rows.length):=by
 refine⟨λg=>?_,λg s=>?_⟩
 ·by_cases j:g<rows.length
  ·rw[XB j]
   exact hZ.filter _
  ·rw[Hop.Wj (by unfold bk;simp;omega)];simp
 ·by_cases j:g<rows.length
  ·rw[XB j,eL,bZ]
   simp
  ·rw[Hop.Wj (by unfold bk;simp;omega)]
   constructor
   ·intro z;cases z
   ·rintro⟨h1,h2⟩
    have:=h s h1
    have q:(rows.getD s []).getD a 0=g:=h2
    omega
end Pt
namespace Hop
section
variable {n A:Nat} {δ:Nat->Nat->Nat} {Df:Nat->Nat->Prop}
structure Good (n:Nat) (st:HS):Prop where
 ok:Ok n st
 full:Uh st
theorem Good.parts(g:Good n st):st.parts.length<=n+2:=Uk g.ok g.full
theorem Good.wait(g:Good n st):st.waiting.length<=n+2:=by
 have:=yq (m:=aG st.parts.length) g.ok.wnd λp j=>bZ.mpr (g.ok.wlt p j)
 rw[cY]at this
 have:=g.parts
 omega
theorem Uq{G:Nat->Prop}(ok:Ok n st)(J:Prec n G st ((p,l)::r)):Cut n st p l/\l≠[]:=by
 obtain⟨z,j,q,O⟩:=J.ls p l bE
 exact⟨⟨z,j,λs R=>by
  obtain⟨h1,_,U⟩:=(O s).mp R
  exact(ok.mem p s).mpr ⟨h1,U,z⟩⟩,q⟩
theorem za2{G:Nat->Prop}(g:Good n st)(J:Prec n G st ((p,l)::r)):Good n (ye st p l)/\Prec n G (ye st p l) r:=by
 obtain⟨c,O⟩:=Uq g.ok J
 obtain⟨_,_,_,Y⟩:=J.ls p l bE
 obtain⟨r1,_⟩:=QL (A:=0) (δ:=λ_ s=>s) (Df:=λ_ _=>True) (λa s h=>absurd h (jz _)) g.ok c O λ_ _ _ _ _ _=>⟨trivial,trivial⟩
 have j:=J.nd
 rw[aR,cF]at j
 refine⟨⟨r1.ok,r1.full g.full⟩,j.2,λq m U=>?_⟩
 obtain⟨g1,g2,g3,Z⟩:=J.ls q m (bC _ U)
 have R:q≠p:=λz=>j.1 (bK.mpr ⟨_,U,z⟩)
 refine⟨cD g1 r1.two,g2,g3,λs=>?_⟩
 rw[Z s]
 by_cases h:l.length=(st.parts.getD p []).length
 ·rw[Xw h]
 ·have o:=Ug g.ok c h
  rw[o.po]
  constructor
  ·rintro⟨x,y,z⟩
   have:s∉l:=λw=>R (by rw[<-z,((Y s).mp w).2.2])
   exact⟨x,y,by rw[if_neg this];exact z⟩
  ·rintro⟨x,y,z⟩
   by_cases w:s∈l
   ·rw[if_pos w]at z;omega
   ·rw[if_neg w]at z;exact⟨x,y,z⟩
theorem zcp{G:Nat->Prop}:∀(fs:List (Nat×List Nat)) (st:HS),Good n st->Prec n G st fs->(∀(j p:Nat) (l:List Nat),fs[j]?=some (p,l)->Good n (xP st (fs.take j))/\Cut n (xP st (fs.take j)) p l)/\Good n (xP st fs)
 | [],st,g,_=>⟨λj p l h=>by simp at h,g⟩
 | (q,m)::r,st,g,z=>by
  obtain⟨g1,J⟩:=za2 g z
  obtain⟨a,b⟩:=zcp r (ye st q m) g1 J
  refine⟨λj p l h=>?_,b⟩
  cases j with
  | zero=>
   have:(q,m)=(p,l):=by simpa using h
   cases this
   exact⟨g,(Uq g.ok z).1⟩
  | succ j=>exact a j p l (by simpa using h)
theorem Qh(st:HS){fs:List (Nat×List Nat)}{j:Nat}{e:Nat×List Nat}(h:fs[j]?=some e):xP st (fs.take (j+1))=ye (xP st (fs.take j)) e.1 e.2:=by
 rw[jA,h]
 unfold xP
 rw[hX];rfl
theorem Ve(b:Back n d back)(q:goals.Nodup)(ok:Ok n st):Prec n (λs=>d s∈goals) st (wQ goals back st.partOf):=by
 have f:=QK (partOf:=st.partOf) b q
 refine⟨f.nd,λp l z=>?_⟩
 obtain⟨h1,h2,J⟩:=f.ls p l z
 have j:∀s,s∈l↔s<n/\d s∈goals/\st.partOf.getD s 0=p:=λs=>by
  rw[J s,vb b s,and_assoc]
 refine⟨?_,h1,h2,j⟩
 cases l with
 | nil=>exact absurd rfl h2
 | cons x r=>
  obtain⟨O,_,R⟩:=(j x).mp bE
  rw[<-R];exact ok.lt x O
theorem JC(b:Back n d back)(j:goals.Nodup)(g:Good n st):Good n (xg goals st back):=(zcp _ st g (Ve b j g.ok)).2
theorem Vf{δ:Nat->Nat->Nat}{goals:List Nat}(j:goals.Nodup):∀(bs:List (List (List Nat))) (st:HS),(∀b∈bs,∃d,Back n d b)->Good n st->∀i,Good n ((bs.take i).foldl (xg goals) st)
 | [],st,_,g,i=>by rw[List.take_nil];exact g
 | b::r,st,h,g,0=>g
 | b::r,st,h,g,i+1=>by
  obtain⟨d,q⟩:=h b bE
  exact Vf (δ:=δ) j r _ (λc z=>h c (bC _ z)) (JC q j g) i
theorem za3(j:List Nat)(st:HS){bs:List (List (List Nat))}{i:Nat}{b:List (List Nat)}(h:bs[i]?=some b):(bs.take (i+1)).foldl (xg j) st=xg j ((bs.take i).foldl (xg j) st) b:=by
 rw[jA,h,hX];rfl
theorem za4(g:Good n st)(h:st.waiting.getLast?=some p):Good n (take st p):=⟨(Wl g.ok h).1,g.full⟩
theorem Ur(good:List Bool):Ok good.length (start good):=by
 have j:∀s,s<good.length->(start good).partOf.getD s 0=if good.getD s false then 1 else 0:=λs z=>by
  show(good.map λb=>if b then 1 else 0).getD s 0=_
  simp[eR,z]
 refine⟨by simp[start],λs z=>?_,λp=>?_,λp s=>?_,rfl,λp q=>?_,λp q=>?_,?_⟩
 ·rw[j s z]
  show _<2
  split <;>omega
 ·match p with
  | 0=>exact hZ.filter _
  | 1=>exact hZ.filter _
  | p+2=>simp[start]
 ·have R:(start good).parts.length=2:=rfl
  rw[R]
  match p with
  | 0=>
   show s∈(aG good.length).filter (λs=>!good.getD s false)↔_
   rw[eL,bZ]
   constructor
   ·rintro⟨h1,h2⟩
    have J:good.getD s false=false:=by simpa using h2
    exact⟨h1,by rw[j s h1,J];rfl,by omega⟩
   ·rintro⟨h1,h2,_⟩
    rw[j s h1]at h2
    refine⟨h1,?_⟩
    cases e:good.getD s false with
    | true=>rw[e]at h2;simp at h2
    | false=>rfl
  | 1=>
   show s∈(aG good.length).filter (λs=>good.getD s false)↔_
   rw[eL,bZ]
   constructor
   ·rintro⟨h1,h2⟩
    exact⟨h1,by rw[j s h1,h2];rfl,by omega⟩
   ·rintro⟨h1,h2,_⟩
    rw[j s h1]at h2
    refine⟨h1,?_⟩
    cases e:good.getD s false with
    | true=>rfl
    | false=>rw[e]at h2;simp at h2
  | p+2=>
   constructor
   ·intro h;simp[start]at h
   ·rintro⟨_,_,h⟩;omega
 ·match p,q with
  | 0,_=>simp[start]
  | 1,_=>simp[start]
  | p+2,q=>exact absurd q (by show ¬p+2<2;omega)
 ·have O:p∈[0,1]:=q
  show p<2
  simp at O
  omega
 ·show [0,1].Nodup
  simp
theorem JD(good:List Bool):Good good.length (start good):=⟨Ur good,λp h2 j=>absurd j (by show ¬p<2;omega)⟩
theorem Vg(O:∀a s,a<A->s<good.length->δ a s<good.length)(R:∀s t,s<good.length->t<good.length->good.getD s false≠good.getD t false->Df s t):Inv good.length A δ Df (start good):=by
 have q:∀s,s<good.length->(start good).partOf.getD s 0=if good.getD s false then 1 else 0:=λs j=>by
  show(good.map λb=>if b then 1 else 0).getD s 0=_
  simp[eR,j]
 refine⟨Ur good,λa U s t j J _ _=>.inl ?_,λs t j J ne=>R s t j J λz=>ne ?_,(JD good).full⟩
 ·rw[q _ (O a s U j)]
  show _∈[0,1]
  split <;>simp
 ·rw[q s j,q t J,z]
def walk(δ:Nat->Nat->Nat)(s:Nat)(w:List Nat):Nat:=w.foldl (λs a=>δ a s) s
def JE(A:Nat)(δ:Nat->Nat->Nat)(good:List Bool)(s t:Nat):Prop:=∃w:List Nat,(∀a∈w,a<A)/\good.getD (walk δ s w) false≠good.getD (walk δ t w) false
def yt(bs:List (List (List Nat)))(good:List Bool):List Nat:=(run bs (good.length+2) (start good)).partOf
theorem ZE(U:∀a s,a<A->s<good.length->δ a s<good.length)(hA:bs.length=A)(J:∀i,i<A->Back good.length (δ i) (bs.getD i [])):
  (yt bs good).length=good.length/\∀s t,s<good.length->t<good.length->((yt bs good).getD s 0=(yt bs good).getD t 0↔¬JE A δ good s t):=by
 have iv:=Vg (A:=A) (δ:=δ) (Df:=JE A δ good) U λs t _ _ h=>⟨[],by simp,h⟩
 obtain⟨Y,Z,f1⟩:=QM (Df:=JE A δ good) U (λa s t R _ _ ⟨w,O,h⟩=>⟨a::w,λb J=>by
  rcases aW.mp J with rfl|J
  ·exact R
  ·exact O b J,h⟩) hA J (good.length+2) (start good) iv (by show _+2<=_+2;omega)
 refine⟨Y.ok.len,λs t j q=>⟨λe=>?_,λh=>kQ λz=>h (Y.dist s t j q z)⟩⟩
 rintro⟨w,O,h⟩
 have key:∀(w:List Nat) (s t:Nat),(∀a∈w,a<A)->s<good.length->t<good.length->(yt bs good).getD s 0=(yt bs good).getD t 0->good.getD (walk δ s w) false=good.getD (walk δ t w) false:=by
  intro w
  induction w with
  | nil=>
   intro s t _ j q e
   have:=f1 s t j q e
   have pg:∀s,s<good.length->(start good).partOf.getD s 0=if good.getD s false then 1 else 0:=λs j=>by
    show(good.map λb=>if b then 1 else 0).getD s 0=_
    simp[eR,j]
   rw[pg s j,pg t q]at this
   show good.getD s false=good.getD t false
   cases e1:good.getD s false <;>cases e2:good.getD t false <;>rw[e1,e2]at this <;>simp at this <;>rfl
  | cons a w ih=>
   intro s t O j q e
   have R:=O a bE
   refine ih (δ a s) (δ a t) (λb J=>O b (bC _ J)) (U a s R j) (U a t R q) ?_
   by_cases z:(yt bs good).getD (δ a s) 0=(yt bs good).getD (δ a t) 0
   ·exact z
   ·rcases Y.stab a R s t j q e z with y|y|y
    ·rw[Z]at y;cases y
    ·rw[Z]at y;cases y
    ·exact absurd y id
 exact h (key w s t O j q e)
end
end Hop
namespace Pt
open PySem PySem.Spec L2 DD
open PyProof.Rows hiding St
open Hop (HS)
section
variable {C:aB} {H0 H H':Hp} {x:aB} {st:HS} {g:Ads}
theorem Rep.grow(r:Rep C H0 H x st g)(s:zp H H'):∃H1,zp H0 H1/\Rep C H1 H' x st g/\∀b u,H b=none->H' b=some u->H1 b=some u:=by
 classical
 refine⟨λb=>if H b=none then H' b else H0 b,λb u q=>?_,?_,λb u h1 h2=>by show(if H b=none then H' b else H0 b)=some u;rw[if_pos h1];exact h2⟩
 ·show(if H b=none then H' b else H0 b)=some u
  rw[if_neg (by rw[r.sm b u q];simp)];exact q
 have fr:∀{b:aB} {o:HO},H b=some o->H0 b=none->(if H b=none then H' b else H0 b)=none:=λh1 h2=>by rw[if_neg (by rw[h1];simp)];exact h2
 refine⟨λb u q=>?_,s _ _ r.ins,s _ _ r.po,s _ _ r.pl,s _ _ r.wg,s _ _ r.ws,r.len,λi d h=>s _ _ (r.ds i d h),r.nd,r.n1,r.n2,r.n3,r.n4,r.n5,r.n6,fr r.ins r.f0,fr r.po r.f1,fr r.pl r.f2,fr r.wg r.f3,fr r.ws r.f4,λd hd=>?_⟩
 ·have q':(if H b=none then H' b else H0 b)=some u:=q
  by_cases h:H b=none
  ·rw[if_pos h]at q';exact q'
  ·rw[if_neg h]at q';exact s _ _ (r.sm b u q')
 ·obtain⟨i,hi⟩:=eG hd
  exact fr (r.ds i d hi) (r.f5 d hd)
theorem Rep.over(r:Rep C H0 H x st g)(q:H0 d=some J)(o:HO):Rep C (upd H0 d o) (upd H d o) x st g:=by
 have ne:∀{b:aB},H0 b=none->b≠d:=λh z=>by rw[z,q]at h;cases h
 refine⟨Zs r.sm o,?_,?_,?_,?_,?_,r.len,λi e h=>?_,r.nd,r.n1,r.n2,r.n3,r.n4,r.n5,r.n6,?_,?_,?_,?_,?_,λe j=>?_⟩
 ·rw[ze (ne r.f0)];exact r.ins
 ·rw[ze (ne r.f1)];exact r.po
 ·rw[ze (ne r.f2)];exact r.pl
 ·rw[ze (ne r.f3)];exact r.wg
 ·rw[ze (ne r.f4)];exact r.ws
 ·rw[ze (ne (r.f5 e (bX h)))];exact r.ds i e h
 ·rw[ze (ne r.f0)];exact r.f0
 ·rw[ze (ne r.f1)];exact r.f1
 ·rw[ze (ne r.f2)];exact r.f2
 ·rw[ze (ne r.f3)];exact r.f3
 ·rw[ze (ne r.f4)];exact r.f4
 ·rw[ze (ne (r.f5 e j))];exact r.f5 e j
end
def bks(rows:List (List Nat))(A:Nat):List (List (List Nat)):=(aG A).map λa=>bk rows a rows.length
theorem Wn(h:i<A):(bks rows A)[i]?=some (bk rows i rows.length):=by
 unfold bks
 rw[bG,fU h];rfl
theorem Wo(rows:List (List Nat))(A:Nat):(bks rows A).length=A:=by unfold bks;simp
structure BsR (H:Hp) (rows:List (List Nat)) (bs:List aB):Prop where
 ls:∀(i:Nat) b,bs[i]?=some b->∃as,BkR H b (bk rows i rows.length) as
theorem BsR.mono(r:BsR H rows bs)(s:zp H H'):BsR H' rows bs:=⟨λi b h=>let ⟨as,q⟩:=r.ls i b h;⟨as,q.mono s⟩⟩
theorem BsR.snoc(r:BsR H rows bs)(q:BkR H b (bk rows bs.length rows.length) as):BsR H rows (bs++[b]):=⟨λi c h=>by
 by_cases hi:i<bs.length
 ·rw[eA hi]at h;exact r.ls i c h
 ·rw[fD (by omega)]at h
  have e:i-bs.length=0:=by
   have:=(aY.mp h).1
   simp at this;omega
  rw[e]at h
  have:b=c:=by simpa using h
  subst this
  have:i=bs.length:=by omega
  subst this
  exact⟨as,q⟩⟩
structure Rows (rows:List (List Nat)) (A:Nat):Prop where
 len:∀s,s<rows.length->A<=(rows.getD s []).length
 lt:∀s a,s<rows.length->a<A->(rows.getD s []).getD a 0<rows.length
theorem Rows.back(r:Rows rows A)(h:a<A):Hop.Back rows.length (λs=>(rows.getD s []).getD a 0) (bk rows a rows.length):=zeC λs j=>r.lt s a j h
def vY:List D->Option (List Nat)
 | []=>some []
 | .int i::r=>if 0<=i then(vY r).map λl=>i.toNat::l else none
 | _::_=>none
def uz:List D->Option (List (List Nat))
 | []=>some []
 | .tup xs::r=>(vY xs).bind λl=>(uz r).map λm=>l::m
 | _::_=>none
def vI:List D->Option (List Bool)
 | []=>some []
 | .bl b::r=>(vI r).map λl=>b::l
 | _::_=>none
def vJ(rows:List (List Nat))(A:Nat):Bool:=rows.all λr=>decide (A<=r.length) && (r.take A).all λg=>decide (g<rows.length)
theorem JF(h:vJ rows A=true):Rows rows A:=by
 unfold vJ at h
 rw[eC]at h
 have key:∀s,s<rows.length->A<=(rows.getD s []).length/\∀g∈(rows.getD s []).take A,g<rows.length:=λs j=>by
  have q:rows.getD s []∈rows:=bX (getD_some j)
  have:=h _ q
  rw[fE,decide_eq_true_eq,eC]at this
  exact⟨this.1,λg z=>by simpa using this.2 g z⟩
 refine⟨λs j=>(key s j).1,λs a j J=>?_⟩
 obtain⟨h1,h2⟩:=key s j
 refine h2 _ (bX (i:=a) ?_)
 rw[mQ,if_pos J]
 exact getD_some (by omega)
def uA:List D->Option D:=λds=>match ds with
 | [.int a,.tup r,.lst g]=>(uz r).bind λrows=>(vI g).bind λgood=>
  if 0<=a/\vJ rows a.toNat=true/\good.length=rows.length/\rows.length+3<aH/\a.toNat<aH then some (.lst ((Hop.yt (bks rows a.toNat) good).map λ(n:Nat)=>D.int (n:Int)))else none
 | _=>none
section
variable {K:aE} {F H H':Hp}
theorem QO:∀{xs:List D} {l:List Nat} {us:List V},vY xs=some l->Are K F xs us->us=z0 l
 | [],l,us,h,a=>by cases h;exact a.inv0
 | d::r,l,us,h,a=>by
  obtain⟨v,q,rfl,h1,h2⟩:=a.inv
  cases d with
  | int i=>
   unfold vY at h
   by_cases hi:0<=i
   ·rw[if_pos hi]at h
    obtain⟨m,j,rfl⟩:=eE.mp h
    simp only[Is]at h1
    rw[QO j h2,h1]
    show _=V.int ((i.toNat:Nat):Int)::z0 m
    rw[mR hi]
   ·rw[if_neg hi]at h;cases h
  | _=>cases h
theorem QP:∀{xs:List D} {rows:List (List Nat)} {us:List V},uz xs=some rows->Are K F xs us->∃j:List aB,us=j.map V.ref/\j.length=rows.length/\∀(i:Nat) a,j[i]?=some a->F a=some (.tup (z0 (rows.getD i [])))
 | [],l,us,h,a=>by cases h;exact⟨[],a.inv0,rfl,λi a h=>by simp at h⟩
 | d::r,l,us,h,a=>by
  obtain⟨v,q,rfl,h1,h2⟩:=a.inv
  cases d with
  | tup xs=>
   unfold uz at h
   obtain⟨l0,O,h⟩:=kR.mp h
   obtain⟨m,R,rfl⟩:=eE.mp h
   simp only[Is]at h1
   obtain⟨b,ws,rfl,z,U⟩:=h1
   obtain⟨j,rfl,Y,Z⟩:=QP R h2
   refine⟨b::j,rfl,by simp[Y],λi c J=>?_⟩
   cases i with
   | zero=>
    have:b=c:=by simpa using J
    subst this
    rw[QO O U]at z
    exact z
   | succ i=>exact Z i c (by simpa using J)
  | _=>cases h
theorem Us:∀{xs:List D} {l:List Bool} {us:List V},vI xs=some l->Are K F xs us->us=l.map V.bl
 | [],l,us,h,a=>by cases h;exact a.inv0
 | d::r,l,us,h,a=>by
  obtain⟨v,q,rfl,h1,h2⟩:=a.inv
  cases d with
  | bl b=>
   unfold vI at h
   obtain⟨m,j,rfl⟩:=eE.mp h
   simp only[Is]at h1
   rw[Us j h2,h1];rfl
  | _=>cases h
theorem Ut:∀l:List Nat,Are K F (l.map λ(n:Nat)=>D.int (n:Int)) (z0 l)
 | []=>.nil
 | a::r=>.cons (by simp[Is]) (Ut r)
theorem zeD(O:zp F H)(s:zp H H')(R:H j=none)(J:H' j=some o):Ext F H (upd F j o) H' :=
 ⟨zE (O.free R) o,s,λb u q=>by
  by_cases z:b=j
  ·subst z;rw[zj]at q;rw[J,q]
  ·rw[ze z]at q;exact s _ _ (O _ _ q),λb h1 h2=>by
  by_cases z:b=j
  ·subst z;exact R
  ·rw[ze z]at h2;exact absurd h1 h2⟩
end
end Pt
namespace DD
open PySem PySem.Spec L2
open PyProof.Rows hiding St
section
variable {X:Cx} {a b c:aF} {f g h:G->Option B} {pos:aK}
end
end DD
namespace L2
open PySem PySem.Spec PyProof.Rows
section
variable {X:Cx}
theorem Uu:xc X (.type "int") (λxs H Q=>∃x n,xs=[.str x]/\iK x=some n/\x.length<=640/\Q (.int n) H):=by
 intro pins s σ H xs us Q I r h
 obtain⟨x,n,rfl,hn,j,q⟩:=h
 obtain⟨u,rfl,t,rfl⟩:=vd r
 exact nQ hn j ⟨.int n,H,I.tok _,⟨_,rfl⟩,q⟩
end
end L2
namespace DD
open PySem PySem.Spec L2
open PyProof.Rows hiding St
section
variable {X:Cx} {K:aE} {e a b tg iter:aF} {f g:G->Option B} {pos:aK}
def zi8:B->Option Int->Option Int->Option D
 | .d (.str z),lo,hi=>if z.length<=aH then some (.str (Txt.slice z lo hi))else none
 | _,_,_=>none
def ziV:List B->Option D
 | [.d (.str z)]=>if z.length<=aH then some (.int z.length)else none
 | _=>none
def zdL:List B->Option D
 | [.d (.bl k)]=>some (.int (if k then 1 else 0))
 | [.d (.str x)]=>if x.length<=640 then(iK x).map D.int else none
 | _=>none
theorem za5:xc X (.type "int") (λxs H Q=>((∃i,xs=[.int i]/\Q (.int i) H)\/∃k,xs=[.bl k]/\Q (.int (if k then 1 else 0)) H)\/∃x n,xs=[.str x]/\iK x=some n/\x.length<=640/\Q (.int n) H):=zav.or Uu
theorem zeE:ve K (λxs H Q=>((∃i,xs=[.int i]/\Q (.int i) H)\/∃k,xs=[.bl k]/\Q (.int (if k then 1 else 0)) H)\/∃x n,xs=[.str x]/\iK x=some n/\x.length<=640/\Q (.int n) H) zdL:=λF H bs vs d Q s h e q=>by
 match bs,e,h with
 | [.d (.bl k)],e,h=>
  cases e
  obtain⟨v,rfl,J⟩:=x9 h
  have j:Is K F (.bl k) v:=J
  simp only[Is]at j
  exact .inl (.inr ⟨k,by rw[j],q _ F H (.refl s) xB⟩)
 | [.d (.str x)],e,h=>
  have z:(if x.length<=640 then(iK x).map D.int else none)=some d:=e
  by_cases O:x.length<=640
  ·rw[if_pos O]at z
   obtain⟨n,hn,rfl⟩:=map_some z
   obtain⟨v,rfl,J⟩:=x9 h
   have j:Is K F (.str x) v:=J
   simp only[Is]at j
   exact .inr ⟨x,n,by rw[j],hn,O,q _ F H (.refl s) xB⟩
  ·rw[if_neg O]at z;cases z
end
end DD
namespace DD
open PySem L2
open PySem.SeqAt (shaped)
section
variable {Γ:G}
@[simp] theorem Uv {i}:za i Γ=Γ[i]?.bind S.look:=id rfl
@[simp] theorem zim {d}:S.look (.v d)=some (.d d):=id rfl
@[simp] theorem zhO {d}:S.look (.ol d)=some (.l d):=id rfl
@[simp] theorem zhP {d}:S.look (.ot d)=some (.t d):=id rfl
@[simp] theorem zhQ {d}:S.look (.ok d)=some (.k d):=id rfl
@[simp] theorem zcq {d}:xC d Γ=some (.d d):=id rfl
def ap2(m:B->B->Option D):Option B->Option B->Option B
 | some x,some y=>(m x y).map B.d
 | _,_=>none
@[simp] theorem yi {m x y}:ap2 m (some x) (some y)=(m x y).map B.d:=id rfl
@[simp] theorem xK {m f g}:x2 m f g Γ=ap2 m (f Γ) (g Γ):=by unfold x2 ap2;cases f Γ <;>cases g Γ <;>rfl
@[simp] theorem ziW {b}:B.tst (.d (.bl b))=some b:=id rfl
def Uw:Option B->Option Bool:=λo=>o.bind B.tst
@[simp] theorem za6 {b}:Uw (some (.d (.bl b)))=some b:=id rfl
@[simp] theorem zcr {f}:xT f Γ=Uw (f Γ):=id rfl
def orO(o:Option Bool)(g:G->Option Bool)(Γ:G):Option Bool:=o.bind λx=>if x=true then some true else g Γ
@[simp] theorem ziX {g}:orO (some false) g Γ=g Γ:=id rfl
@[simp] theorem ziY {f g}:xOr f g Γ=orO (f Γ) g Γ:=id rfl
@[simp] theorem ziB {f}:vR f Γ=(f Γ).map (!·):=id rfl
def zfW(o:Option Bool)(g:G->Option B)(Γ:G):Option B:=o.bind λx=>if x=true then g Γ else some (.d (.bl false))
@[simp] theorem zfX {g}:zfW (some true) g Γ=g Γ:=id rfl
@[simp] theorem zeF {f g}:v8 f g Γ=zfW (Uw (f Γ)) g Γ:=id rfl
def ch3(m j:B->B->Option D)(h:G->Option B)(Γ:G):Option B->Option B->Option B
 | some x,some y=>((m x y).bind λz=>B.tst (.d z)).bind λk=>if k=true then ap2 j (some y) (h Γ)else some (.d (.bl false))
 | _,_=>none
@[simp] theorem zi9 {m j f g h}:x3 m j f g h Γ=ch3 m j h Γ (f Γ) (g Γ):=by
 unfold x3 ch3
 cases f Γ with
 | none=>rfl
 | some x=>
  cases g Γ with
  | none=>rfl
  | some y=>
   simp only[bF]
   congr 1;funext k
   cases h Γ <;>rfl
@[simp] theorem ZF:zf Γ=some []:=id rfl
def wn:Option B->Option (List B)->Option (List B)
 | some x,some xs=>some (x::xs)
 | _,_=>none
@[simp] theorem wR {x xs}:wn (some x) (some xs)=some (x::xs):=id rfl
@[simp] theorem yu {f fs}:zc f fs Γ=wn (f Γ) (fs Γ):=by unfold zc wn;cases f Γ <;>cases fs Γ <;>rfl
@[simp] theorem JG {d}:B.asD (.d d)=some d:=id rfl
@[simp] theorem zix:vS []=some []:=id rfl
@[simp] theorem ziC {d r}:vS (.d d::r)=(vS r).map (d::·):=id rfl
def zcs(o:Option (List D)):Option B:=o.bind λds=>if ds.length<=aH then some (.d (.tup ds))else none
@[simp] theorem zhR {ds}:zcs (some ds)=if ds.length<=aH then some (.d (.tup ds))else none:=id rfl
def dsO(o:Option (List B)):Option (List D):=o.bind vS
@[simp] theorem zin {bs}:dsO (some bs)=vS bs:=id rfl
@[simp] theorem za7 {fs}:xV fs Γ=zcs (dsO (fs Γ)):=id rfl
@[simp] theorem wS {f}:xL f Γ=(f Γ).map λds=>.d (.lst ds):=id rfl
def zfY(o:Option (List D)):Option (List D):=o.bind λds=>if ds.length<=aH then some ds else none
@[simp] theorem zhS {ds}:zfY (some ds)=if ds.length<=aH then some ds else none:=id rfl
@[simp] theorem ziD {fs}:wd fs Γ=zfY (dsO (fs Γ)):=id rfl
def JH(m:List B->Option D)(o:Option (List B)):Option B:=o.bind λbs=>(m bs).map B.d
@[simp] theorem u5 {m bs}:JH m (some bs)=(m bs).map B.d:=id rfl
@[simp] theorem vK {m fs}:zH m fs Γ=JH m (fs Γ):=id rfl
def fnO(m:List D->Option D)(o:Option (List D)):Option B:=o.bind λbs=>(m bs).map B.d
@[simp] theorem YU {m ds}:fnO m (some ds)=(m ds).map B.d:=id rfl
@[simp] theorem zdM {m fs}:xFn m fs Γ=fnO m (dsO (fs Γ)):=id rfl
@[simp] theorem ziZ {c}:xTy c Γ=some (.ty c):=id rfl
@[simp] theorem zg2 {i}:B.int (.d (.int i))=some i:=id rfl
def zct(o:Option B):Option (List D):=o.bind B.fix
@[simp] theorem zcu {ds}:zct (some (.d (.tup ds)))=some ds:=id rfl
@[simp] theorem zio {ds}:zct (some (.d (.lst ds)))=some ds:=id rfl
@[simp] theorem za8 {f}:zY f Γ=zct (f Γ):=id rfl
@[simp] theorem ziy:yv Γ=some (.nx Γ):=id rfl
def xp(o:Option Out)(g:G->Option Out):Option Out:=o.bind λo=>match o with
 | .nx j=>g j
 | o=>some o
@[simp] theorem zu {g j}:xp (some (.nx j)) g=g j:=id rfl
@[simp] theorem ziq {g d}:xp (some (.rt d)) g=some (.rt d):=id rfl
@[simp] theorem zx {f g}:zt f g Γ=xp (f Γ) g:=id rfl
def JI(o:Option B):Option Out:=o.bind λb=>b.asD.map Out.rt
@[simp] theorem zhT {d}:JI (some (.d d))=some (.rt d):=id rfl
@[simp] theorem ZG {f}:zZ f Γ=JI (f Γ):=id rfl
def ifO(o:Option Bool)(f g:G->Option Out)(Γ:G):Option Out:=o.bind λx=>if x=true then f Γ else g Γ
@[simp] theorem zg3 {f g}:ifO (some true) f g Γ=f Γ:=id rfl
@[simp] theorem zi0 {f g}:ifO (some false) f g Γ=g Γ:=id rfl
@[simp] theorem zdN {t f g}:sIf t f g Γ=ifO (t Γ) f g Γ:=id rfl
def zdO(o:Option B)(Γ:G):Option Out:=o.map λ_=>.nx Γ
@[simp] theorem zg4 {b}:zdO (some b) Γ=some (.nx Γ):=id rfl
@[simp] theorem ziz {f}:Jq f Γ=zdO (f Γ) Γ:=id rfl
def Wp(i:Nat)(o:Option B)(Γ:G):Option Out:=o.bind λb=>b.asD.map λd=>.nx (Γ.set i (.v d))
@[simp] theorem Vh {i d}:Wp i (some (.d d)) Γ=some (.nx (Γ.set i (.v d))):=id rfl
@[simp] theorem xX {i f}:zI i f Γ=Wp i (f Γ) Γ:=id rfl
def zfZ(i:Nat)(o:Option (List D))(Γ:G):Option Out:=o.map λds=>.nx (Γ.set i (.ol ds))
@[simp] theorem zhU {i ds}:zfZ i (some ds) Γ=some (.nx (Γ.set i (.ol ds))):=id rfl
@[simp] theorem ziE {i f}:wL i f Γ=zfZ i (f Γ) Γ:=id rfl
@[simp] theorem ziF {i d}:zk i d Γ=some (Γ.set i (.v d)):=id rfl
def YV(i:Nat):Option (List D)->Option B->G->Option Out
 | some ds,some (.d d),Γ=>if ds.length<aH then some (.nx (Γ.set i (.ol (ds++[d]))))else none
 | _,_,_=>none
@[simp] theorem zhV {i ds d}:YV i (some ds) (some (.d d)) Γ=if ds.length<aH then some (.nx (Γ.set i (.ol (ds++[d]))))else none:=id rfl
@[simp] theorem ziG {i f}:ul i f Γ=YV i (we Γ i) (f Γ) Γ:=by
 unfold ul YV
 cases we Γ i with
 | none=>rfl
 | some ds=>
  cases f Γ with
  | none=>rfl
  | some b=>cases b <;>rfl
def zcv(i:Nat):Option (List D)->Option (List D)->G->Option Out
 | some ds,some es,Γ=>if ds.length+es.length<=aH then some (.nx (Γ.set i (.ol (ds++es))))else none
 | _,_,_=>none
@[simp] theorem zhW {i ds es}:zcv i (some ds) (some es) Γ=if ds.length+es.length<=aH then some (.nx (Γ.set i (.ol (ds++es))))else none:=id rfl
def lsO(o:Option B):Option (List D):=o.bind B.lst
@[simp] theorem zi1 {ds}:lsO (some (.d (.lst ds)))=some ds:=id rfl
@[simp] theorem ziH {i f}:Js i f Γ=zcv i (we Γ i) (lsO (f Γ)) Γ:=by
 unfold Js zcv lsO
 cases we Γ i with
 | none=>rfl
 | some ds=>
  cases f Γ with
  | none=>rfl
  | some b=>
   simp only[bF]
   cases b.lst <;>rfl
@[simp] theorem zg5 {ds}:B.lst (.d (.lst ds))=some ds:=id rfl
def Ux(o:Option (List D))(t:D->G->Option G)(fb:G->Option Out)(Γ:G):Option Out:=o.bind λds=>xr t fb ds Γ
@[simp] theorem xi {ds t fb}:Ux (some ds) t fb Γ=xr t fb ds Γ:=id rfl
@[simp] theorem xY {j t fb}:xE j t fb Γ=Ux (j Γ) t fb Γ:=id rfl
def yx(o:Option (List D))(ms:List (Option Nat))(t:D->G->Option G)(cond:G->Option Bool)(el:G->Option B)(Γ:G):Option (List D):=o.bind λds=>if ds.length<=aH then vA t cond el (yp ms Γ) ds else none
@[simp] theorem y0 {j ms t cond el}:zO j ms t cond el Γ=yx (j Γ) ms t cond el Γ:=id rfl
@[simp] theorem szv:aH=16777216:=id rfl
@[simp] theorem zdP {i j}:yN (.d (.int i)) (.d (.int j))=some (.int (i+j)):=id rfl
@[simp] theorem ziI:yN (.d (.tup a)) (.d (.tup b))=if a.length+b.length<=aH then some (.tup (a++b))else none:=by
 unfold yN mOr Vz mI Xj VC
 by_cases h:a.length+b.length<=aH <;>simp[h,B.int,B.lst]
@[simp] theorem ziJ:yN (.d (.lst a)) (.d (.lst b))=if a.length+b.length<=aH then some (.lst (a++b))else none:=by
 unfold yN mOr Vz mI Xj VC
 by_cases h:a.length+b.length<=aH <;>simp[h,B.int,B.lst]
@[simp] theorem zi2 {i j}:Jp (.d (.int i)) (.d (.int j))=some (.int (i-j)):=id rfl
theorem vC{i j}(h:yZ i=true\/yZ j=true):xD (.d (.int i)) (.d (.int j))=some (.int (i*j)):=by
 unfold xD mI
 simp[h]
theorem XC{i j:Int}(h:0<j):uV (.d (.int i)) (.d (.int j))=some (.int (i%j)):=by
 unfold uV mI
 simp[h]
theorem zg6{i j:Int}(h:0<j)(h2:j<1073741824):V1 (.d (.int i)) (.d (.int j))=some (.int (i/j)):=by
 unfold V1 mI
 simp[h,h2]
@[simp] theorem zja {i j}:mLt (.d (.int i)) (.d (.int j))=some (.bl (decide (i<j))):=id rfl
@[simp] theorem zjb {i j}:mLe (.d (.int i)) (.d (.int j))=some (.bl (decide (i<=j))):=id rfl
@[simp] theorem zjc {i j}:mGt (.d (.int i)) (.d (.int j))=some (.bl (decide (j<i))):=id rfl
@[simp] theorem zi3 {n:Bool} {i j:Int}:mEq n (.d (.int i)) (.d (.int j))=some (.bl (if n then !decide (i=j)else decide (i=j))):=by
 have h:∀i:Int,cH (.int i)=true:=λi=>by simp[cH,eF,h9]
 unfold mEq
 simp[Zv,toP,h,bR,Bool.beq_eq_decide_eq]
@[simp] theorem za9 {ds}:B.seq (.d (.tup ds))=some ds:=id rfl
@[simp] theorem uB {ds}:B.seq (.d (.lst ds))=some ds:=id rfl
@[simp] theorem ziK {ns}:B.seq (.d (.scr ns))=some (ns.map D.int):=id rfl
@[simp] theorem ziL {ds}:B.seq (.l ds)=some ds:=id rfl
@[simp] theorem YW {x:B} {i:Int}:mIx x (.d (.int i))=x.seq.bind λds=>atI ds i:=id rfl
theorem wo{α:Type}{xs:List α}{k:Nat}:atI xs (k:Int)=xs[k]?:=by
 unfold atI ixN
 by_cases h:k<xs.length
 ·simp[h]
 ·simp[h]
theorem zcw{α:Type}{xs:List α}{k:Nat}:atI xs ((k:Int)+1)=xs[k+1]?:=wo (k:=k+1)
@[simp] theorem zi4 {α:Type} {xs:List α}:atI xs 0=xs[0]?:=wo (k:=0)
@[simp] theorem zi5 {α:Type} {xs:List α}:atI xs 1=xs[1]?:=wo (k:=1)
@[simp] theorem zi6 {α:Type} {xs:List α}:atI xs 2=xs[2]?:=wo (k:=2)
@[simp] theorem zg7 {b}:yM [b]=b.seq.map λds=>.int ds.length:=id rfl
@[simp] theorem ziM {ds}:vr [.d (.lst ds)]=some (.tup ds):=id rfl
@[simp] theorem ziN {ds}:vr [.l ds]=some (.tup ds):=id rfl
@[simp] theorem zi7 {x c}:Zw [.d x,.ty c]=x.tyOf.map λt=>.bl (isi t c):=id rfl
@[simp] theorem ziO {b}:D.tyOf (.int b)=some .int:=id rfl
@[simp] theorem ziP {b}:D.tyOf (.tup b)=some .tup:=id rfl
@[simp] theorem zg8 {b}:We [b]=b.lst.bind λds=>(wN ds).map λbs=>.bl (bs.all id):=id rfl
def enO(o:Option (List B)):Option (List D):=o.bind λbs=>match bs with
 | [.d (.tup ds)]=>some (zP ds)
 | _=>none
@[simp] theorem zg9 {fs}:xEn fs Γ=enO (fs Γ):=id rfl
def zf0(o:Option (List B)):Option (List D):=o.bind λbs=>match bs with
 | [.d (.lst ds)]=>some (zP ds)
 | _=>none
@[simp] theorem vm {i f}:wx i f Γ=f (vW i Γ):=id rfl
@[simp] theorem zf1 {fs}:uY fs Γ=zf0 (fs Γ):=id rfl
@[simp] theorem ziQ {j d kvs}:vu j (.d d) (.t kvs)=(YQ d).map λk=>.bl (if j then !(zM kvs k).isSome else(zM kvs k).isSome):=by
 unfold vu B.dget
 simp only[JG,bF,Option.map_map]
 rfl
def Uy(i:Nat):Option B->Option B->Option S->G->Option Out
 | some (.d v),some (.d k),some s,Γ=>(um s k v).map λs'=>.nx (Γ.set i s')
 | _,_,_,_=>none
@[simp] theorem Vi {i v k s}:Uy i (some (.d v)) (some (.d k)) (some s) Γ=(um s k v).map λs'=>.nx (Γ.set i s'):=id rfl
@[simp] theorem Uz {i j q}:wk i j q Γ=Uy i (q Γ) (j Γ) Γ[i]? Γ:=by
 unfold wk Uy
 cases q Γ with
 | none=>rfl
 | some z=>
  cases z with
  | d v=>
   cases j Γ with
   | none=>rfl
   | some bk=>
    cases bk with
    | d k=>cases Γ[i]? <;>rfl
    | _=>rfl
  | _=>rfl
def JJ(j:Int):Bool:=decide (-(2^62)<=j) && decide (j<2^62)
def r1I(j:Int):Option (List D):=if JJ j=true then some (zW 0 j.toNat)else none
def r1O(o:Option (List B)):Option (List D):=o.bind λbs=>match bs with
 | [b]=>b.int.bind r1I
 | _=>none
@[simp] theorem zir {j}:r1O (some [.d (.int j)])=r1I j:=id rfl
theorem zf2(j:Int):(if-(2^62)<=j/\j<2^62 then some (zW 0 j.toNat)else none)=r1I j:=by
 unfold r1I JJ
 by_cases h:-(2^62)<=j/\j<2^62
 ·rw[if_pos h,if_pos (by rw[decide_eq_true h.1,decide_eq_true h.2];rfl)]
 ·rw[if_neg h,if_neg λz=>h (by rw[fE,decide_eq_true_eq,decide_eq_true_eq]at z;exact z)]
@[simp] theorem zdQ {fs}:xR1 fs Γ=r1O (fs Γ):=by
 unfold xR1 r1O
 cases fs Γ with
 | none=>rfl
 | some bs=>
  rw[bF,bF]
  match bs with
  | []=>rfl
  | [b]=>exact congrArg b.int.bind (funext zf2)
  | _::_::_=>rfl
theorem xR{n:Nat}(h:n<1000000):r1I (n:Int)=some (zW 0 n):=by
 have j:-(2^62)<=(n:Int):=by omega
 have q:(n:Int)<2^62:=by omega
 have e:JJ (n:Int)=true:=by unfold JJ;rw[decide_eq_true j,decide_eq_true q];rfl
 unfold r1I
 rw[if_pos e,gL]
theorem zba{h:G->Option B}{i j k:Int}(q:h Γ=some (.d (.int k))):ch3 mLe mLe h Γ (some (.d (.int i))) (some (.d (.int j)))=some (.d (.bl (decide (i<=j/\j<=k)))):=by
 unfold ch3
 rw[q]
 by_cases h1:i<=j <;>by_cases h2:j<=k <;>simp[h1,h2]
theorem Vj{α:Type}(p:α->Bool):∀xs:List α,wN (xs.map λx=>D.bl (p x))=some (xs.map p)
 | []=>rfl
 | x::r=>by
  rw[aR]
  show(wN _).map _=_
  rw[Vj p r];rfl
theorem XD:∀(xs:List D),(∀x∈xs,x=.bl true)->(wN xs).map (λbs=>D.bl (bs.all id))=some (.bl true)
 | [],_=>rfl
 | x::r,h=>by
  have j:=h x bE
  subst j
  have:=XD r λy q=>h y (bC _ q)
  show((wN r).map _).map _=_
  cases e:wN r with
  | none=>rw[e]at this;cases this
  | some bs=>rw[e]at this;simpa using this
theorem z7(h:ds.length=j)(e:f (zT n ds)=some (.rt d)):mir j n f ds=some d:=by unfold mir;rw[if_pos h,e]
end
structure OkD (n:Nat) (d:D):Prop where
 lay:(toP d).canLay0=true
 dep:(toP d).depth<=n
structure OkDs (n:Nat) (ds:List D):Prop where
 lay:fI (toPs ds)=true
 dep:jB (toPs ds)<=n
theorem Wq:∀{ds:List D},(∀d∈ds,OkD n d)->OkDs n ds
 | [],_=>⟨rfl,cR _⟩
 | d::r,h=>by
  have h1:=h d bE
  have h2:=Wq λx j=>h x (bC _ j)
  refine⟨?_,?_⟩
  ·rw[toPs,fI,h1.lay,h2.lay];rfl
  ·rw[toPs,jB];exact Nat.max_le.mpr ⟨h1.dep,h2.dep⟩
theorem OkD.int{n:Nat}{i:Int}:OkD n (.int i):=⟨by simp[toP,eF],by simp[toP,h9]⟩
theorem OkD.tup(h:∀d∈ds,OkD n d):OkD (n+1) (.tup ds):=by
 have:=Wq h
 exact⟨by rw[toP,eF];exact this.lay,by rw[toP,h9];exact kO this.dep⟩
theorem OkD.lst(h:∀d∈ds,OkD n d):OkD (n+1) (.lst ds):=by
 have:=Wq h
 exact⟨by rw[toP,eF];exact this.lay,by rw[toP,h9];exact kO this.dep⟩
theorem OkD.scr{n:Nat}{ns:List Int}:OkD (n+1) (.scr ns):=by
 have h:∀ns:List Int,fI (ns.map PyData.int)=true/\jB (ns.map PyData.int)=0:=λns=>by
  induction ns with
  | nil=>exact⟨rfl,rfl⟩
  | cons a r j=>simp[fI,jB,eF,h9,j]
 exact⟨by rw[toP,eF];exact(h ns).1,by rw[toP,h9,(h ns).2];omega⟩
theorem OkD.shp(h:OkD n d)(k:n<=64:=by decide):cH (toP d)=true:=by
 unfold cH
 rw[h.lay,decide_eq_true (bL h.dep k)];rfl
mutual
theorem UA:∀d:D,bR (toP d) (toP d)=true
 | .non=>by simp[toP,bR]
 | .bl b=>by simp[toP,bR]
 | .int i=>by simp[toP,bR]
 | .str x=>by simp[toP,bR]
 | .scr ns=>by
  rw[toP,bR]
  induction ns with
  | nil=>rfl
  | cons a r j=>simp[iL,bR,j]
 | .tup ds=>by rw[toP,bR];exact eqvAll_refl ds
 | .lst ds=>by rw[toP,bR];exact eqvAll_refl ds
 | .dK _ _=>by simp[toP,bR]
 | .dT _ _=>by simp[toP,bR]
theorem eqvAll_refl:∀ds:List D,iL (toPs ds) (toPs ds)=true
 | []=>rfl
 | d::r=>by rw[toPs,iL,UA d,eqvAll_refl r];rfl
end
theorem JK(q:OkD n x)(z:OkD n y)(k:n<=64:=by decide):mEq j (.d x) (.d y)=some (.bl (if j then !PyData.eqv (toP x) (toP y)else bR (toP x) (toP y))):=by
 unfold mEq
 simp[Zv,q.shp k,z.shp k]
theorem UB(j:OkD n x)(k:n<=64:=by decide):mEq false (.d x) (.d x)=some (.bl true):=by
 rw[JK j j k,UA];rfl
theorem QQ{ns:List Int}:mEq false (.d (.scr ns)) (.d (.lst []))=some (.bl (decide (ns=[]))):=by
 rw[JK (n:=1) OkD.scr (OkD.lst (by simp))]
 cases ns <;>simp[toP,toPs,bR,iL]
theorem zis(J:OkD n x)(O:b.seq=some ds)(R:∀d∈ds,OkD n d)(k:n<=64:=by decide):mIn j (.d x) b=some (.bl (if j then !(ds.any λd=>bR (toP d) (toP x))else ds.any λd=>bR (toP d) (toP x))):=by
 have h1:(toPs ds).all cH=true:=by
  rw[YO,eC]
  intro p U
  obtain⟨d,z,rfl⟩:=bK.mp U
  exact(R d z).shp k
 have h2:∀q,(toPs ds).any (λp=>bR p q)=ds.any λd=>bR (toP d) q:=λq=>by
  rw[YO,List.any_map];rfl
 unfold mIn
 simp only[Zv,bF,O,J.shp k,h1,h2,and_self,if_true]
theorem xl:∀(ds:List D) (I:Nat->G->Prop) (Γ:G),I 0 Γ->(∀k Γ (h:k<ds.length),I k Γ->∃g1 g2,t ds[k] Γ=some g1/\fb g1=some (.nx g2)/\I (k+1) g2)->∃g,xr t fb ds Γ=some (.nx g)/\I ds.length g
 | [],I,Γ,j,_=>⟨Γ,rfl,j⟩
 | d::r,I,Γ,j,q=>by
  obtain⟨g1,g2,h1,h2,z⟩:=q 0 Γ (by simp) j
  obtain⟨g,J,O⟩:=xl (t:=t) (fb:=fb) r (λk=>I (k+1)) g2 z λk Γ h hi=>q (k+1) Γ (by simpa using h) hi
  refine⟨g,?_,O⟩
  unfold xr
  rw[show t d Γ=some g1 from h1,bF,h2]
  exact J
theorem UC{β:Type}(j:β->D){t:D->G->Option G}{cond:G->Option Bool}{el:G->Option B}{Γ:G}:∀(ds:List D) (R:Nat->β->Prop),(∀k (h:k<ds.length),∃g y,t ds[k] Γ=some g/\cond g=some true/\el g=some (.d (j y))/\R k y)->
  ∃ys:List β,vA t cond el Γ ds=some (ys.map j)/\ys.length=ds.length/\∀k (h:k<ys.length),R k ys[k]
 | [],R,_=>⟨[],rfl,rfl,λk h=>absurd h (by simp)⟩
 | d::r,R,q=>by
  obtain⟨g,y,h1,h2,z,J⟩:=q 0 (by simp)
  obtain⟨ys,e,O,U⟩:=UC j (t:=t) (cond:=cond) (el:=el) (Γ:=Γ) r (λk=>R (k+1)) λk h=>q (k+1) (by simpa using h)
  refine⟨y::ys,?_,by simp[O],λk h=>?_⟩
  ·unfold vA
   rw[show t d Γ=some g from h1,bF,h2,bF,if_pos rfl,z,bF,JG,bF,e]
   rfl
  ·cases k with
   | zero=>exact J
   | succ k=>exact U k (by simpa using h)
theorem UD{β:Type}(j:β->D){t:D->G->Option G}{cond:G->Option Bool}{el:G->Option B}{Γ:G}{ms:List (Option Nat)}{ds:List D}(R:Nat->β->Prop)(q:ds.length<=16777216)(z:∀k (h:k<ds.length),∃g y,t ds[k] (yp ms Γ)=some g/\cond g=some true/\el g=some (.d (j y))/\R k y):
  ∃ys:List β,yx (some ds) ms t cond el Γ=some (ys.map j)/\ys.length=ds.length/\∀k (h:k<ys.length),R k ys[k]:=by
 obtain⟨ys,e,h⟩:=UC j ds R z
 exact⟨ys,by unfold yx;rw[bF,if_pos (show ds.length<=aH from q),e],h⟩
@[simp] theorem xM {lo:Int} {n:Nat}:(zW lo n).length=n:=by simp[zW]
@[simp] theorem zha {lo:Int} {n k:Nat} {h:k<(zW lo n).length}:(zW lo n)[k]=.int (lo+k):=by simp[zW]
@[simp] theorem uf:(zP ds).length=ds.length:=by simp[zP]
theorem yr{β:Type}(j:β->D){t:D->G->Option G}{cond:G->Option Bool}{el:G->Option B}{Γ:G}{ms:List (Option Nat)}{ds:List D}(zs:List β)(q:zs.length=ds.length)(z:ds.length<=16777216)(J:∀k (h:k<ds.length),∃g,t ds[k] (yp ms Γ)=some g/\cond g=some true/\el g=some (.d (j (zs[k]'(by rw[q];exact h))))):
  yx (some ds) ms t cond el Γ=some (zs.map j):=by
 obtain⟨ys,h1,h2,O⟩:=UD j (t:=t) (cond:=cond) (el:=el) (Γ:=Γ) (ms:=ms) (ds:=ds) (λk y=>∃h:k<zs.length,y=zs[k]) z λk h=>by
  obtain⟨g,a,b,c⟩:=J k h
  exact⟨g,_,a,b,c,by rw[q];exact h,rfl⟩
 have:ys=zs:=ia (by rw[h2,q]) λk a b=>(O k a).2
 rw[h1,this]
theorem Vk(I:Nat->G->Prop)(Fin:G->Prop)(N:Nat)(step:∀k Γ,I k Γ->k<=N/\((t Γ=some false/\Fin Γ)\/(t Γ=some true/\∃q,b Γ=some (.nx q)/\I (k+1) q))):∀(j k:Nat) (Γ:G),N<j+k->I k Γ->∃q,yB t b j Γ=some (.nx q)/\Fin q
 | 0,k,Γ,hn,hi=>by have:=(step k Γ hi).1;omega
 | j+1,k,Γ,hn,hi=>by
  unfold yB
  rcases(step k Γ hi).2 with⟨z,J⟩|⟨z,q,R,O⟩
  ·exact⟨Γ,by rw[z];rfl,J⟩
  ·obtain⟨g,U,J⟩:=Vk I Fin N step j (k+1) q (by omega) O
   refine⟨g,?_,J⟩
   rw[z,bF,if_pos rfl,R]
   exact U
end DD
namespace Pu
section
variable {α:Type} (f:α->Option α)
end
theorem yq{α:Type} [DecidableEq α]:∀(xs ys:List α),xs.Nodup->(∀x∈xs,x∈ys)->xs.length<=ys.length
 | [],ys,_,_=>cR _
 | x::xs,ys,j,sub=>by
  have q:=sub x bE
  rw[cF]at j
  have:=yq xs (ys.erase x) j.2 λz J=>(mH (λe:z=x=>j.1 (by rw[<-e];exact J))).mpr (sub z (bC _ J))
  rw[mJ q]at this
  have:0<ys.length:=mK q
  simp only[cC]
  omega
section
variable {α ρ:Type} (f:α->Sum ρ α)
variable {f} {rd:ρ}
end
inductive Mv (τ:Type) where
 | fin (s:τ)|go (r:Nat) (right:Bool)
inductive Res (τ:Type) where
 | fin (s:τ)|out (r:Nat)
 deriving DecidableEq
section
variable {τ:Type} (mv:Nat->Nat->Mv τ) (rd:τ)
end
end Pu
namespace DD
open PySem PySem.Spec L2
open PyProof.Rows hiding St
section
variable {X:Cx} {a b c e:aF} {f g h:G->Option B} {pos:aK} {es:List aF} {fs:G->Option (List B)}
theorem YC(ns:List Int):∀k,k<=ns.length->jC (λi=>ns.getD i 0) k=(ns.take k).sum
 | 0,_=>by simp[jC]
 | k+1,h=>by
  rw[jC,YC ns k (Nat.le_of_succ_le h),ib h,mS]
  simp[bH (show k<ns.length from h)]
theorem Vl(hc:X.calm=true):xc X (.builtin "sum") (λxs H Q=>∃p ns,xs=[.ref p]/\SqL X.K H p ((ns:List Int).map V.int)/\Q (.int ns.sum) H):=by
 intro pins s σ H xs us Q I r h
 obtain⟨p,ns,rfl,hq,q⟩:=h
 obtain⟨u,rfl,rx⟩:=vd r
 cases rx
 obtain⟨its,U,pl,hz⟩:=I.list hq
 have Y:its.length=ns.length:=by rw[<-U.length,aM]
 have Z:p<s.heap.objs.size:=by obtain⟨o,n,e,_⟩:=pl;exact aZ e
 refine call_sum_walkAnyS (ik pl.isList ?_)
 refine⟨s.heap.objs.size,_,_,_,its.toArray.size,_,_,λi=>ns.getD i 0,rfl,(mq (A:=X.A.in1) (I.ok.hd hc) s.heap.objs.size p (bO Z) its.toArray).toS,⟨⟨_,bW _ rfl,rfl,rfl⟩,pl.isList.push _⟩,λb j=>?_,λi v hP=>?_,λs' t' O=>?_⟩
 ·rcases aW.mp j with rfl|j
  ·exact aZ (bW _ rfl)
  ·obtain rfl:=bN.mp j
   exact cD Z (by rw[eT];exact gG _)
 ·have z:its[i]?=some v:=by simpa using hP
  have J:i<ns.length:=by rw[<-Y];exact(aY.mp z).1
  obtain⟨u,h1,h2⟩:=U.get (i:=i) (x:=.int ns[i]) (by rw[bG,bH J];rfl)
  rw[z]at h1;cases h1
  obtain⟨t,e⟩:=h2
  exact⟨t,by rw[e];simp[eR,J]⟩
 ·obtain⟨h',g',d',tk',R⟩:=s'
  have e1:g'=s.gens:=O.gens
  have e2:d'=s.drawn:=O.drawn
  have e3:R=s.os:=O.os
  subst e1 e2 e3
  have I':Inv X pins σ H {s with heap:=h',toks:=tk'}:=I.kept λb o e=>O.heap b o (λj=>absurd (aZ e) ((bN.mp j)▸cI _)) (bJ _ e)
  have e:jC (λi=>ns.getD i 0) its.toArray.size=ns.sum:=by
   rw[bT,Y,YC ns _ (aP _),eH]
  rw[e]
  exact⟨.int ns.sum,H,I',⟨_,rfl⟩,q⟩
def JL:List B->Option D:=λbs=>match bs with
 | [b]=>b.lst.bind λds=>(uZ ds).map λns=>.int ns.sum
 | _=>none
theorem zbb{K:aE}:ve K (λxs H Q=>∃p ns,xs=[.ref p]/\SqL K H p ((ns:List Int).map V.int)/\Q (.int ns.sum) H) JL:=λF H bs vs d Q s h e q=>by
 rcases bs with _|⟨b,_|⟨_,_⟩⟩
 ·cases e
 ·obtain⟨v,rfl,z⟩:=x9 h
  obtain⟨ds,J,e⟩:=bind_some e
  obtain⟨ns,hn,rfl⟩:=map_some e
  obtain⟨l,us,rfl,j,O⟩:=vj s J z
  rw[Uf hn O]at j
  exact⟨l,ns,rfl,SqL.of j,q _ F H (.refl s) xB⟩
 ·cases e
def Wr(i:Nat)(k v:Int):G->Option Out:=λΓ=>some (.nx (Γ.set i (.ok [(Sum.inl k,.int v)])))
theorem zcx{i:Nat}{x:aC}{p dp kp vp:aK}{kk vv:Nat}{k v:Int}(hN:X.N.Nodup)(hi:X.N[i]?=some x)(hx:Loc X.env.scope x)(hs:cO (.Dict [some (.Constant (.int k) kk kp)] [.Constant (.int v) vv vp] dp) (some (.Name x p)) pos.line X.env=pure false:=by rfl)(hf:X.fn x=true\/X.env.scope.names.lookup x=some .local:=by first|exact .inl rfl|exact .inr rfl|assumption):
  SD X (.Assign [.Name x p] (.Dict [some (.Constant (.int k) kk kp)] [.Constant (.int v) vv vp] dp) pos) (Wr i k v) :=
 ym (xa hN hi hx (QC (trs:=[(tC (.int k),tC (.int v))]) (YM wE wE Wc) rfl rfl (by simp) (by show 1<=15;decide)) hs hf) λE σ H q=>by
  have:=ZA (X:=X) (o:=.dK [(Sum.inl k,.int v)]) (s0:=.ok [(Sum.inl k,.int v)]) (λF H a _ h1 h2 H0 h3=>⟨a,[(Sum.inl k,.int v)],rfl,h1,.cons ⟨rfl,by simp[Is]⟩ .nil,h2,h3⟩) q
  intro p hp
  refine⟨zj,[(Sum.inl k,.int v)],rfl,by simp,?_⟩
  rw[Qo]
  exact this p hp
end
end DD
namespace L2
open PySem PySem.Spec PyProof.Rows
theorem zbc:g9 (.type "list_reverseiterator") "__len__"=pure none:=by rw[kB,kC];kernel_rfl
theorem zcy:g9 (.type "list_reverseiterator") "__length_hint__"=pure (some (.builtin "list_reverseiterator.__length_hint__")):=by rw[kB,kC];kernel_rfl
section
variable {prog:aU} {w:aO} {A:bB} {E:aA->aD->Prop} {s:aD} {I:aB} {fp wr:List aB} {G:Array ig->Array ig->Prop} {n:Nat} {P:Nat->aA->Prop} {St:Nat->aD->Prop}
theorem Qi{Q:List aA->aD->Prop}(W:WalksS prog w A.in1 I fp wr G n P St)(hT:∀i s,St i s->s.TypeIs (.ref I) "list_reverseiterator")(hst:St 0 s)(hfp:∀b∈fp,b<s.heap.objs.size)(hI:I∈fp) 
  (hQ:∀s' acc,Moved wr G s s'->ItemsOf P acc n->Q acc.toList s') (hn:n<=aH):wpAny (aI prog w) A (collect (.ref I)) Q E s:=by
 have hnew:s.heap.objs.size∉fp:=λhm=>cI _ (hfp _ hm)
 have hne:s.heap.objs.size≠I:=λe=>hnew (e▸hI)
 unfold collect
 refine aJ (wpAny_runValue (iG F.entry_proto_collect ?_))
 rw[iH F.plain_proto_collect _]
 show wpAny _ A.in1 (newList []>>=λl=>io (.builtin "list.__iadd__" ⟨[l,.ref I],[]⟩)) _ _ s
 refine aJ (iC (bM ⟨iI mT _,iG F.entry_list_iadd ?_⟩))
 rw[iH mT _]
 have st1:=W.frame 0 s (s.heap.push {cls:=.type "list",data:=.seq ([]:List aA).toArray}) s.toks hst (aP _) λb _ o e=>bJ _ e
 have at1:(s.heap.push {cls:=.type "list",data:=.seq ([]:List aA).toArray}).get? s.heap.objs.size=some {cls:=.type "list",data:=.seq ([]:List aA).toArray}:=bW _ rfl
 have notsame:mU (.ref s.heap.objs.size) (.ref I)=false:=by simp[mU,hne]
 show wpAny _ A.in1 (mV (.ref s.heap.objs.size) (.ref I) (.ref s.heap.objs.size)) _ _ _
 unfold mV
 refine aJ (jw (hT 0 _ st1) ?_)
 rw[if_neg (by rw[notsame];decide)]
 refine aJ (W.self 0 _ _ _ st1 (aJ (gU ?_)))
 unfold nR
 refine aJ (js (hT 0 _ st1) zbc ?_)
 show wpAny _ A.in1 (specialOf (Value.ref I) (iD "__length_hint__")>>=_) _ _ _
 refine aJ (js (hT 0 _ st1) zcy ?_)
 generalize hid:("list_reverseiterator.__length_hint__":String)=id0
 wp_delta
 rw[show splitId id0=some ("list_reverseiterator","__length_hint__")from by subst hid;decide+kernel]
 subst hid
 refine aJ (jm (b:=true) (hT 0 _ st1) (by rw[isSubtype_type];kernel_rfl) (bM ?_))
 rw[if_neg (by decide)]
 refine bM ⟨iI F.plain_extend_loop _,codeAny_extend_loopS W hn _ hnew _ n 0 _ _ _ rfl (cR _) st1 at1 (ItemsOf.nil P) λs' acc' c' hm hS' hacc=>?_⟩
 show wpAny _ A (load s.heap.objs.size>>=_) _ _ s'
 exact aJ (wpAny_load hS' (bM (hQ s' acc' (Moved.drop_new (o:={cls:=.type "list",data:=.seq ([]:List aA).toArray}) (tk:=s.toks) hm (aP _)) hacc)))
theorem Wt{Q₁:aA->aD->Prop}(W:WalksS prog w A.in1.in1 I fp wr G n P St)(hT:∀i s,St i s->s.TypeIs (.ref I) "list_reverseiterator")(hst:St 0 s)(hfp:∀b∈fp,b<s.heap.objs.size)(hI:I∈fp) 
  (h:∀s' acc,Moved wr G s s'->ItemsOf P acc n->Q₁ (.ref s'.heap.objs.size) {s' with heap:=s'.heap.push {cls:=.type "tuple",data:=.seq acc}}) (hsz:n<=aH) :
  codeAny (aI prog w) A (.call (.builtin "tuple.__new__") ⟨[.type "tuple",.ref I],[]⟩) (wants Q₁ E) s:=by
 refine codeAny_of_tree ?_
 show wpAny _ A.in1 (do checkBuiltinCall "tuple.__new__" ⟨[.type "tuple",.ref I],[]⟩;io (.builtin "tuple.__new__" ⟨[.type "tuple",.ref I],[]⟩)) _ _ s
 refine aJ (wpAny_of_eq (F.newCall_tuple_1 _) (bM ⟨iI mW _,iG F.entry_tuple_new ?_⟩))
 rw[iH mW _]
 have hsub:=sub_tuple_self
 have hinit:=init_tuple_lookup
 have hmh:=madeHere_tuple
 have hTI:=hT 0 s hst
 wp_walk using jw hTI,Qi (hn:=hsz) W hT hst hfp hI
 intro s' acc hm hacc
 show wpAny _ _ (mX acc.toList.toArray>>=λv=>ret v) _ _ _
 unfold mX
 refine aJ (iC (bM ?_) (by show acc.toList.toArray.size<=aH;simp only[Array.toArray_toList];rw[hacc.1];exact hsz))
 rw[show acc.toList.toArray=acc by simp]
 exact h s' acc hm hacc
theorem Wu{Q:aA->aD->Prop}(W:WalksS prog w A.in1.in1.in1 I fp wr G n P St)(O:∀i s,St i s->s.TypeIs (.ref I) "list_reverseiterator")(z:St 0 s)(J:∀b∈fp,b<s.heap.objs.size)(R:I∈fp) 
  (U:∀s' acc,Moved wr G s s'->ItemsOf P acc n->Q (.ref s'.heap.objs.size) {s' with heap:=s'.heap.push {cls:=.type "tuple",data:=.seq acc}}) (hsz:n<=aH) :
  wpAny (aI prog w) A (call (.type "tuple") [.ref I]) Q E s:=by
 refine mz (Q₁:=λj s₁=>s₁.TypeIs j "tuple"/\Q j s₁) kS (F.typeCall_tuple_1 _) F.entry_object_init
  (Wt (hsz:=hsz) W O z J R λs' acc Y q=>⟨⟨_,bW _ rfl,rfl⟩,U s' acc Y q⟩) λj s₁ h₁=>?_
 exact⟨h₁.1,lR j _,object_init_meets kS.init.lookup kS.made (by decide) prog w A.in1 _ s₁ ⟨h₁.1,rfl,h₁.2⟩⟩
end
end L2
namespace L2
open PySem PySem.Spec PyProof.Rows
section
variable {X:Cx}
def zeG(K:aE)(ta:TA):TE:=λσ H Q=>ta σ H λvs H1=>∃a xs,vs=[.ref a]/\SqL K H1 a xs/\∀l,H1 l=none->Q (.ref l) (upd H1 l (.tup xs.reverse))
theorem zbd{x:aF}{ta:TA}{p p2 pos pos2:aK}(hc:X.calm=true)(hg:Gl X "tuple")(hm:X.mg "tuple"=none)(hg2:Gl X "reversed")(hm2:X.mg "reversed"=none)(ha:PA X [x] ta) 
  (hs:aX [x] X.env=[(false,aQ x X.env)]:=by rfl) (hs2:aX [.Call (.Name "reversed" p2) [x] [] pos2] X.env=[(false,aQ (.Call (.Name "reversed" p2) [x] [] pos2) X.env)]:=by rfl) :
  PE X (.Call (.Name "tuple" p) [.Call (.Name "reversed" p2) [x] [] pos2] [] pos) (zeG X.K ta):=by
 intro pins s σ H Q I h
 refine im (vh I hg hm fK (gW ?_ hs2 rfl))
 rw[hs2]
 refine iq (im (vh I hg2 hm2 boot_reversed (gW (thn (ha pos2 pins s σ H _ I h) λus s1 ⟨vs,H1,I1,r1,q1⟩=>?_) hs rfl)))
 obtain⟨l,xs,e,hq,q⟩:=q1
 subst e
 cases r1 with
 | cons r rr=>
  cases rr
  cases r
  obtain⟨its,rv,pl,hz⟩:=I1.list hq
  have hl:l<s1.heap.objs.size:=by obtain⟨o,n,e,_⟩:=pl;exact aZ e
  refine call_reversed_list pl.isList ?_
  have I2:Inv X pins σ H1 {s1 with heap:=s1.heap.push (revObj l ((its.toArray.size:Int)-1))}:=I1.kept (t':=s1.toks) λb o e=>bJ _ e
  show wpAny _ _ (spliced []) _ _ _
  refine i8 ?_
  have hlen:=rv.length
  refine Wu (I:=s1.heap.objs.size) ((Walks.listRev (prog:=X.prog) (w:=X.w) (A:=X.A.in1.in1.in1) (show X.A.in1.in1.in1.handled=none from I.ok.hd hc) s1.heap.objs.size l (bO hl) its.toArray).toS) (λi s2 h2=>h2.2.1.typeIs) ⟨cR _,?_,pl.isList.push _⟩ (λb hb=>?_) (by simp) (λs2 acc hm hacc=>?_) ?_
  ·have e:((its.toArray.size:Nat):Int)-1-((0:Nat):Int)=((its.toArray.size:Nat):Int)-1:=by omega
   rw[e]
   exact⟨_,bW _ rfl,rfl,rfl⟩
  ·rcases aW.mp hb with rfl|hb
   ·exact aZ (bW _ rfl)
   ·obtain rfl:=bN.mp hb
    exact cD hl (by rw[eT];exact gG _)
  ·obtain⟨h',g',d',tk',os'⟩:=s2
   have e1:g'=s1.gens:=hm.gens
   have e2:d'=s1.drawn:=hm.drawn
   have e3:os'=s1.os:=hm.os
   subst e1 e2 e3
   have I':Inv X pins σ H1 {s1 with heap:=h',toks:=tk'}:=I1.kept λb o e=>hm.heap b o (λhb=>absurd (aZ e) ((bN.mp hb)▸cI _)) (bJ _ e)
   have hv:zC xs.reverse acc.toList:=by
    have e:acc.toList=its.reverse:=by
     refine ia (by rw[kT,iV,hacc.1,bT]) λj h1 h2=>?_
     have hj:j<its.length:=by rwa [kT]at h2
     have hp:its.toArray[its.toArray.size-1-j]?=some acc.toList[j]:=hacc.2 j acc.toList[j] (by rw[<-km];exact bH h1)
     rw[List.getElem?_toArray,bT,bH (by omega)]at hp
     rw[List.getElem_reverse]
     exact(cV hp).symm
    rw[e];exact rv.reverse
   refine⟨.ref h'.objs.size,_,I'.laid (t':=tk') (o:=.tup xs.reverse) (λb ob q=>bJ _ q) (aP _) ?_,rfl,q _ (I'.hok.fresh (aP _))⟩
   exact⟨by rw[kT];omega,_,hv,by simpa using kb _ _⟩
  ·show its.toArray.size<=aH
   rw[bT,<-hlen];exact hz
end
end L2
namespace DD
open PySem PySem.Spec L2
open PyProof.Rows hiding St
section
variable {X:Cx} {x:aF} {f:G->Option (List B)} {p p2 pos pos2:aK}
def JM:List B->Option D:=λbs=>match bs with
 | [b]=>b.lst.map λds=>.tup ds.reverse
 | _=>none
theorem zcz{K:aE}{F:Hp}:∀{ds:List D} {vs:List V},Are K F ds vs->Are K F ds.reverse vs.reverse:=λ{ds}=>by
 induction ds with
 | nil=>intro vs r;rw[r.inv0];exact .nil
 | cons d ds j=>
  intro vs r
  obtain⟨v,q,e,a,r2⟩:=r.inv
  subst e
  rw[jb,jb]
  exact(j r2).append (.cons a .nil)
theorem zeH{K:aE}:ve K (λvs H Q=>∃a xs,vs=[.ref a]/\SqL K H a xs/\∀l,H l=none->Q (.ref l) (upd H l (.tup xs.reverse))) JM:=λF H bs vs d Q s h e q=>by
 rcases bs with _|⟨b,_|⟨_,_⟩⟩
 ·cases e
 ·obtain⟨v,rfl,z⟩:=x9 h
  obtain⟨ds,J,rfl⟩:=map_some e
  obtain⟨l,us,rfl,O,R⟩:=vj s J z
  refine⟨l,us,rfl,SqL.of O,λt j=>q _ (upd F t (.tup us.reverse)) _ (.fix s j _) ?_⟩
  simp only[Is]
  exact⟨t,_,rfl,zj,(zcz R).mono (zE (s.free j) _)⟩
 ·cases e
theorem zcA(O:X.calm=true)(R:Gl X "tuple")(U:X.mg "tuple"=none)(j:Gl X "reversed")(z:X.mg "reversed"=none)(Y:EA X [x] f) 
  (Z:aX [x] X.env=[(false,aQ x X.env)]:=by rfl) (J:aX [.Call (.Name "reversed" p2) [x] [] pos2] X.env=[(false,aQ (.Call (.Name "reversed" p2) [x] [] pos2) X.env)]:=by rfl):EE X (.Call (.Name "tuple" p) [.Call (.Name "reversed" p2) [x] [] pos2] [] pos) (zH JM f) :=
 yl (zbd O R U j z Y Z J) λσ H Q q=>YK zeH q
end
end DD
namespace L2
open PySem PySem.Spec PyProof.Rows
section
variable {prog:aU} {w:aO} {A:bB} {E:aA->aD->Prop} {s:aD}
end
end L2
namespace L2
open PySem PySem.Spec PyProof.Rows
section
variable {prog:aU} {w:aO} {A:bB} {E:aA->aD->Prop} {s:aD}
end
end L2
namespace L2
open PySem PySem.Spec PyProof.Rows
section
variable {X:Cx}
end
end L2
namespace L2
open PySem PySem.Spec DD
open PyProof.Rows hiding St
end L2
namespace DD
open PySem PySem.Spec L2
open PyProof.Rows hiding St
section
variable {X:Cx} {a b tg iter:aF} {fs:G->Option (List B)} {pos:aK}
def JN(f g:G->Option (List D)):G->Option (List D):=λΓ=>match f Γ with
 | some d=>some d
 | none=>g Γ
theorem zit(h1:EI X tg iter f)(h2:EI X tg iter g):EI X tg iter (JN f g):=λpins s σ H R I j=>by
 obtain⟨F0,H0,F,Γ,ds,J,e,q⟩:=j
 unfold JN at e
 cases z:f Γ with
 | some d=>rw[z]at e;exact h1 pins s σ H R I ⟨F0,H0,F,Γ,ds,J,z.trans e,q⟩
 | none=>rw[z]at e;exact h2 pins s σ H R I ⟨F0,H0,F,Γ,ds,J,e,q⟩
end
end DD
namespace L2
open PySem PySem.Spec PyProof.Rows
section
variable {prog:aU} {w:aO} {A:bB} {E:aA->aD->Prop} {s:aD}
end
section
variable {X:Cx} {pos:aK}
end
end L2
namespace DD
open PySem PySem.Spec L2
open PyProof.Rows hiding St
section
variable {X:Cx} {es:List aF} {pos:aK}
end
end DD
namespace L2
open PySem PySem.Spec PyProof.Rows
section
variable {X:Cx}
def zeI(td:TE):TI:=λσ H R=>td σ H λx H1=>∃d kvs o,x=.ref d/\H1 d=some (.frz o (.dK kvs))/\R (Itd o d kvs) H1
theorem zbe{o:aF}{td:TE}{apos cpos tp:aK}{elts:List aF}{k:Nat}(ho:PE X o td) 
  (hbase:fA o "items" X.env (aQ o X.env)=aQ o X.env:=by rfl) (hline:(apos.endLine==cpos.line)=true:=by rfl) :
  PI X (.Tuple elts k tp) (.Call (.Attribute o "items" apos) [] [] cpos) (zeI td):=by
 intro pins s σ H R I h
 refine kf hbase hline (thn (ho pins s σ H _ I h) λv s1 ⟨x,H1,I1,r1,q1⟩=>?_)
 obtain⟨d,kvs,o',e,hd,q⟩:=q1
 subst e
 cases (show v=Value.ref d from r1)
 obtain⟨hob',z,hsys,vs,rel,dd⟩:=(show yf X.prog X.w H1 s1.heap d (.frz o' (.dK kvs))from I1.hok d _ hd)
 obtain⟨ep,da⟩:=dd.dictAt
 obtain⟨ob,es,hob,hrest⟩:=id da
 rw[hob]at hob'
 cases hob'
 refine⟨"dict","dict.items",jt,jx,mC,dd.typeIs,dd.mapOf.noDict,gZ rfl (kg ?_)⟩
 refine iE jx dd.typeIs mD (mE _) (mF (zG X.prog X.w) d hsys) ⟨⟨vs,dd⟩,?_⟩
 refine mG (knd:=zG X.prog X.w) (d:=d) (kvs:=vs) (ep:=ep) ⟨_,bW _ rfl,rfl,rfl⟩ (da.push _) ?_
 have I3:=I1.kept (h':=(s1.heap.push {cls:=.type "dict_items",data:=.fields #[.ref d]}).push {cls:=.type "dict_itemiterator",data:=.fields #[.none,.bool false,.ref d,.int 0 0,.int vs.length 0,.int ep 0,.none,.none]}) (t':=s1.toks)
  λb u q=>bJ _ (bJ _ q)
 have hsz:(s1.heap.push {cls:=.type "dict_items",data:=.fields #[.ref d]}).objs.size=s1.heap.objs.size+1:=eT ..
 have hdl:d<s1.heap.objs.size:=aZ hob
 have hdi:d≠(s1.heap.push {cls:=.type "dict_items",data:=.fields #[.ref d]}).objs.size:=by rw[hsz];exact bO (g6 hdl)
 refine⟨_,[_],_,_,_,rfl,I3,Xu (vs:=vs) (ep:=ep) hdi rel (λh q=>⟨_,es,q,hrest⟩),⟨.none,.none,bW _ rfl⟩,λb hb=>?_,q⟩
 have e:b=(s1.heap.push {cls:=.type "dict_items",data:=.fields #[.ref d]}).objs.size:=by simpa using hb
 have hb':s1.heap.objs.size<=b:=by rw[e,hsz];exact gG _
 exact I1.fpOk hb' (I1.hok.fresh hb')
end
end L2
namespace DD
open PySem PySem.Spec L2
open PyProof.Rows hiding St
section
variable {X:Cx} {o:aF} {f:G->Option B}
def kD:Key->D
 | .inl i=>.int i
 | .inr x=>.str x
theorem zhb{K:aE}{F:Hp}{k:Key}:Is K F (kD k) (kV k):=by
 cases k <;>simp[kD,kV,Is]
def wT(ks:List Key)(ds:List D):List D:=mu (λk d=>D.tup [kD k,d]) ks ds
def uC(f:G->Option B):G->Option (List D):=λΓ=>(f Γ).bind λb=>match b with
 | .d (.dK ks ds)=>some (wT ks ds)
 | _=>none
theorem QR{apos cpos tp:aK}{O:List aF}{k:Nat}(ho:EE X o f)(z:fA o "items" X.env (aQ o X.env)=aQ o X.env:=by rfl)(J:(apos.endLine==cpos.line)=true:=by rfl):
  EI X (.Tuple O k tp) (.Call (.Attribute o "items" apos) [] [] cpos) (uC f):=vG (zbe ho z J) λσ H R ⟨F0,H0,F,Γ,ds,En,e,q⟩=>by
 obtain⟨b,hb,e⟩:=bind_some e
 refine⟨F0,H0,F,Γ,b,En,hb,λv F1 H1 e1 r1=>?_⟩
 match b,e,r1 with
 | .d (.dK ks vs),e,r1=>
  cases e
  have r':Is X.K F1 (.dK ks vs) v:=r1
  simp only[Is]at r'
  obtain⟨a,ws,ob,rfl,ha,rfl,hr⟩:=r'
  refine⟨a,ws,ob,rfl,e1.fh _ _ ha,q _ F1 H1 e1 λi F2 H2 s1 s2=>?_⟩
  have hq:H2 a=some (.frz ob (.dK ws)):=s2 _ _ (s1 _ _ ha)
  have hl:=hr.length
  rw[aM]at hl
  refine⟨λd Y=>?_,λZ=>⟨hq,by simp[wT]at Z;omega⟩⟩
  have j:i<ws.length:=by
   have:=(aY.mp Y).1
   simp[wT]at this
   omega
  have hv:i<vs.length:=by omega
  obtain⟨u,hu,hi⟩:=hr.get (i:=i) (d:=vs[i]) (by simp[hv])
  have hw:ws[i]?=some (ws[i].1,ws[i].2):=by simp[j]
  have aa:u=ws[i].2:=by simpa[j]using hu.symm
  subst aa
  have ab:d=.tup [kD ws[i].1,vs[i]]:=by
   have:(wT (ws.map bA) vs)[i]?=some (.tup [kD ws[i].1,vs[i]]):=by simp[wT,List.getElem?_zipWith,j,hv]
   rw[this]at Y;cases Y;rfl
  subst ab
  refine⟨⟨hq,j⟩,λx H' y=>?_⟩
  obtain⟨T,k',v',hT,rfl,U,rfl⟩:=y
  rw[hw]at U
  cases U
  refine⟨upd F2 T (.tup [kV ws[i].1,ws[i].2]),.fix s2 hT _,?_⟩
  simp only[Is]
  exact⟨T,_,rfl,zj,.cons zhb (.cons (hi.mono (s1.trans (zE (s2.free hT) _))) .nil)⟩
end
end DD
namespace Py
open PySem PySem.Spec L2 DD
open PyProof.Rows hiding St
def WF:Nat:=1000000
def WFB:Nat:=100000000
abbrev zcB:List D->Option D:=Pt.uA
def wC:G->Option Out:=(sIf (xT (x2 (vu true) (za 5) (za 2))) (zt (wk 2 (za 5) (xC (.bl true))) (ul 1 (za 5))) yv)
def uD:G->Option Out:=(zt (zI 4 (x2 mIx (za 0) (x2 mIx (za 1) (za 3)))) (zt (xE (zY (za 4)) (zk 5) wC) (zcd 3 (xC (.int 1)))))
def uE:G->Option Bool:=(xT (x2 mLt (za 3) (zH yM (zc (za 1) zf))))
def JO:G->Option Out:=(zt (wL 1 (wd (zc (xC (.int 0)) zf))) (zt (zaW 2 0 true) (zt (zI 3 (xC (.int 0))) (zt (yB uE uD WF) (wx 1 (zZ (za 1)))))))
def YX:List D->Option D:=mir 1 6 JO
def vL:G->Option B:=(x2 Wi (za 1) (za 0))
def wD:G->Option B:=(zH vr (zc (xL (zO (zY (x2 mIx (za 1) (za 0))) [none,some 2] (zk 0) zK vL)) zf))
def JP:G->Option Out:=(zZ (zH vr (zc (xL (zO (zY (za 1)) [none,some 0,some 2] (zk 0) zK wD)) zf)))
def vy:List D->Option D:=mir 3 3 JP
def Yd:G->Option B:=(xV (zc (za 1) (zc (za 0) zf)))
def Ye:G->Option B:=(x2 mIx (za 1) (za 0))
def uF:G->Option Out:=(sIf (xT (x2 (vu true) (za 11) (za 8))) (zt (wk 8 (za 11) (zH yM (zc (za 9) zf))) (ul 9 (za 10))) yv)
def uG:G->Option B:=(x2 uc (za 1) (za 0))
def Yf:G->Option B:=(za 0)
def uH:G->Option Bool:=(xT (x2 mIx (za 2) (za 1)))
def zcC:G->Option Out:=(zt (zI 3 (xFn YX (zc (za 1) zf))) (zt (uy 4 (zc (xL (zO (uY (zc (za 3) zf)) [none,none] (yG 2 (zD (zk 0) (zD (zk 1) yJ))) zK Yd)) zf)) (wx 4 (zt (zI 5 (xFn vy (zc (za 1) (zc (za 3) (zc (za 4) zf))))) (zt (zI 6 (xL (zO (zY (za 3)) [none,some 2] (zk 0) zK Ye))) (zt (zI 7 (xFn zcB (zc (za 0) (zc (za 5) (zc (za 6) zf))))) (zt (ud 8) (zt (wL 9 (wd zf)) (zt (xE (uY (zc (za 7) zf)) (yG 2 (zD (zk 10) (zD (zk 11) yJ))) uF) (wx 8 (wx 9 (zt (zI 12 (xFn vy (zc (za 5) (zc (za 9) (zc (xL (zO (zY (za 7)) [none,some 8] (zk 0) zK uG)) zf))))) (zZ (xV (zc (za 0) (zc (za 12) (zc (zH vr (zc (xL (zO (uY (zc (za 9) zf)) [none,none,some 6] (yG 2 (zD (zk 0) (zD (zk 1) yJ))) uH Yf)) zf)) zf)))))))))))))))))
def UE:List D->Option D:=mir 3 13 zcC
def zcD:G->Option Out:=(zt (sIf (xOr (xT (zH Zw (zc (za 0) (zc (xTy .bl) zf)))) (vR (xT (zH Zw (zc (za 0) (zc (xTy .int) zf)))))) (zZ (xC (.bl false))) yv) (zZ (x3 mLe mLe (za 1) (za 0) (za 2))))
def Wv:List D->Option D:=mir 3 3 zcD
def JQ:G->Option Out:=(zZ (v8 (zH Zw (zc (za 0) (zc (xTy .tup) zf))) (x3 mLe mLe (za 1) (zH yM (zc (za 0) zf)) (za 2))))
def XE:List D->Option D:=mir 3 3 JQ
def Ww:G->Option B:=(xFn Wv (zc (za 0) (zc (xC (.int 0)) (zc (x2 Jp (za 1) (xC (.int 1))) zf))))
def zcE:G->Option Out:=(zZ (v8 (zH Zw (zc (za 0) (zc (xTy .tup) zf))) (zH We (zc (xL (zO (zY (za 0)) [none,some 1] (zk 0) zK Ww)) zf))))
def UF:List D->Option D:=mir 2 2 zcE
def Wx:G->Option B:=(x2 mLt (x2 mIx (za 1) (za 0)) (x2 mIx (za 1) (x2 yN (za 0) (xC (.int 1)))))
def zcF:G->Option Out:=(zZ (zH We (zc (xL (zO (xR1 (zc (x2 Jp (zH yM (zc (za 0) zf)) (xC (.int 1))) zf)) [none,some 0] (zk 0) zK Wx)) zf)))
def JR:List D->Option D:=mir 1 1 zcF
def Wy:G->Option B:=(v8 (xFn UF (zc (za 0) (zc (zH yM (zc (za 1) zf)) zf))) (x2 (mEq false) (zH yM (zc (za 0) zf)) (x2 mIx (za 2) (xC (.int 0)))))
def zcG:G->Option Out:=(zt (sIf (xOr (vR (xT (xFn XE (zc (za 0) (zc (xC (.int 3)) (zc (xC (.int 3)) zf)))))) (vR (xT (xFn Wv (zc (x2 mIx (za 0) (xC (.int 0))) (zc (xC (.int 1)) (zc (xC (.int 3)) zf))))))) (zZ (xC (.bl false))) yv) (zt (zI 1 (x2 mIx (za 0) (xC (.int 1)))) (zt (sIf (vR (xT (xFn XE (zc (za 1) (zc (xC (.int 1)) (zc (xC (.int 2000)) zf)))))) (zZ (xC (.bl false))) yv) (zt (sIf (vR (xT (zH We (zc (xL (zO (zY (za 1)) [none,some 1,some 0] (zk 0) zK Wy)) zf)))) (zZ (xC (.bl false))) yv) (zZ (v8 (xFn UF (zc (x2 mIx (za 0) (xC (.int 2))) (zc (zH yM (zc (za 1) zf)) zf))) (xFn JR (zc (x2 mIx (za 0) (xC (.int 2))) zf))))))))
def JS:List D->Option D:=mir 1 2 zcG
def zcH:G->Option Out:=(zt (sIf (vR (xT (xFn JS (zc (za 0) zf)))) sNo yv) (zZ (za 0)))
def JT:List D->Option D:=mir 1 1 zcH
def QS:G->Option B:=(xC (.bl false))
def QT:G->Option Out:=(VF 1 (za 2) (xC (.bl true)))
def zcI:G->Option Out:=(zt (wL 1 (zO (zY (x2 mIx (za 0) (xC (.int 1)))) [none] (zk 0) zK QS)) (zt (xE (zY (x2 mIx (za 0) (xC (.int 2)))) (zk 2) QT) (wx 1 (zZ (za 1)))))
def JU:List D->Option D:=mir 1 3 zcI
def JV:G->Option Out:=(zt (Jq (xFn JT (zc (za 0) zf))) (zZ (xFn UE (zc (x2 mIx (za 0) (xC (.int 0))) (zc (x2 mIx (za 0) (xC (.int 1))) (zc (xFn JU (zc (za 0) zf)) zf))))))
def u7:List D->Option D:=mir 1 1 JV
def Yg:G->Option Out:=(sIf (xT (x2 (vu true) (za 6) (za 2))) (wk 2 (za 6) (xV (zc (za 3) (zc (za 5) zf)))) yv)
def Wz:G->Option Out:=(xE (xEn (zc (za 4) zf)) (yG 2 (zD (zk 5) (zD (zk 6) yJ))) Yg)
def Yh:G->Option Out:=(zt (ul 7 (x2 mIx (x2 uc (za 2) (za 8)) (xC (.int 1)))) (zI 8 (x2 mIx (x2 uc (za 2) (za 8)) (xC (.int 0)))))
def vM:G->Option Bool:=(xT (x2 (mEq true) (za 8) (xC (.int 0))))
def zcJ:G->Option Out:=(zt (ud 2) (zt (xE (JN (uY (zc (za 1) zf)) (xEn (zc (za 1) zf))) (yG 2 (zD (zk 3) (zD (zk 4) yJ))) Wz) (zt (wL 7 (wd zf)) (zt (zI 8 (za 0)) (zt (yB vM Yh WF) (zZ (zH JM (zc (za 7) zf))))))))
def UG:List D->Option D:=mir 2 9 zcJ
def JW:G->Option Out:=(zt (zI 1 (xFn u7 (zc (za 0) zf))) (zt (sIf (xT (x2 (mEq false) (zH yM (zc (x2 mIx (za 1) (xC (.int 2))) zf)) (xC (.int 0)))) (zZ (xC .non)) yv) (zZ (xFn UG (zc (x2 mIx (x2 mIx (za 1) (xC (.int 2))) (xC (.int 0))) (zc (x2 mIx (za 1) (xC (.int 1))) zf))))))
def UH:List D->Option D:=mir 1 2 JW
def u8:G->Option B:=(x2 (mEq false) (za 0) (za 1))
def JX:G->Option Out:=(zZ (v8 (zH We (zc (xL (zO (zY (x2 mIx (x2 mIx (za 1) (xC (.int 1))) (za 0))) [none,some 0] (zk 0) zK u8)) zf)) (x2 (mIn true) (za 0) (x2 mIx (za 1) (xC (.int 2))))))
def VG:List D->Option D:=mir 2 2 JX
def Yi:G->Option B:=(xV (zc (za 0) (zc (xC (.bl true)) zf)))
def Yj:G->Option Bool:=(xT (xFn VG (zc (za 0) (zc (za 1) zf))))
def Yk:G->Option Out:=(sIf (xT (x2 (vu true) (za 5) (za 1))) (wk 4 (za 5) (x2 yN (ue (za 4) (za 5) (xC (.int 0))) (xC (.int 1)))) yv)
def WA:G->Option Out:=(zt (ud 4) (zt (xE (zY (za 3)) (zk 5) Yk) (wx 4 (ul 2 (za 4)))))
def zcK:G->Option Out:=(zt (uy 1 (zc (xL (zO (xR1 (zc (zH yM (zc (x2 mIx (za 0) (xC (.int 1))) zf)) zf)) [none,some 0] (zk 0) Yj Yi)) zf)) (zt (wL 2 (wd zf)) (zt (xE (zY (x2 mIx (za 0) (xC (.int 1)))) (zk 3) WA) (wx 2 (zZ (za 2))))))
def UI:List D->Option D:=mir 1 6 zcK
def Za:G->Option Out:=(wk 2 (za 5) (x2 yN (ue (za 2) (za 5) (xC (.int 0))) (x2 xD (za 4) (za 6))))
def Zb:G->Option Out:=(xE (uC (x2 mIx (za 1) (za 3))) (yG 2 (zD (zk 5) (zD (zk 6) yJ))) Za)
def JY:G->Option Out:=(zt (ud 2) (zt (xE (uC (za 0)) (yG 2 (zD (zk 3) (zD (zk 4) yJ))) Zb) (wx 2 (zZ (za 2)))))
def ug:List D->Option D:=mir 2 7 JY
def Yl:G->Option B:=(xFn ug (zc (za 0) (zc (za 1) zf)))
def uI:G->Option Out:=(zt (sIf (xT (x2 (mEq false) (x2 uV (za 3) (xC (.int 2))) (xC (.int 1)))) (zI 2 (xFn ug (zc (za 2) (zc (za 4) zf)))) yv) (zt (zI 4 (xL (zO (zY (za 4)) [none,some 4] (zk 0) zK Yl))) (zI 3 (x2 V1 (za 3) (xC (.int 2))))))
def uJ:G->Option Bool:=(xT (x2 mGt (za 3) (zH yM (zc (za 0) zf))))
def Ym:G->Option Out:=(zI 2 (xFn ug (zc (za 2) (zc (za 4) zf))))
def zcL:G->Option Out:=(zt (Wr 2 0 1) (wx 2 (zt (zI 3 (za 1)) (zt (zI 4 (za 0)) (zt (sIf (xT (x2 mGt (za 1) (x2 xD (xC (.int 4)) (x2 ZB (zH yM (zc (za 0) zf)) (xC (.int 2)))))) (yB uJ uI WF) yv) (zt (xE (xR1 (zc (za 3) zf)) (zk 5) Ym) (wx 2 (zZ (za 2)))))))))
def UJ:List D->Option D:=mir 2 6 zcL
def QU:G->Option B:=(ue (za 1) (za 0) (xC (.int 0)))
def zcM:G->Option Out:=(zt (zI 2 (xFn u7 (zc (za 0) zf))) (zt (zI 3 (xFn UJ (zc (xFn UI (zc (za 2) zf)) (zc (za 1) zf)))) (zZ (zH JL (zc (xL (zO (zY (x2 mIx (za 2) (xC (.int 2)))) [none,some 3] (zk 0) zK QU)) zf)))))
def YY:List D->Option D:=mir 2 4 zcM
def UK:G->Option Out:=(zt (sIf (xT (x2 mLt (za 1) (zH yM (zc (za 0) zf)))) (zZ (x2 mIx (za 0) (za 1))) yv) (zt (sIf (xT (x2 (mEq false) (za 0) (xL (wd zf)))) (zZ (xC (.int 0))) yv) (zZ (x2 yN (x2 xD (x2 mIx (za 0) (x2 uV (za 1) (zH yM (zc (za 0) zf)))) (xC (.int 31))) (za 1)))))
def JZ:List D->Option D:=mir 2 2 UK
def zcN:G->Option Out:=(zt (zI 3 (x2 uV (x2 xD (x2 yN (x2 yN (xFn JZ (zc (za 0) (zc (za 1) zf))) (x2 xD (xC (.int 7919)) (za 1))) (xC (.int 1))) (xC (.int 48271))) (xC (.int 2147483647)))) (zZ (x2 uV (x2 uV (x2 yN (x2 yN (x2 xD (za 3) (za 3)) (x2 xD (xC (.int 7)) (za 3))) (za 1)) (xC (.int 2147483629))) (za 2))))
def wf:List D->Option D:=mir 3 4 zcN
def zcO:G->Option Out:=(zZ (x2 mIx (xL (wd (zc (xC (.int 1)) (zc (xC (.int 2)) (zc (xC (.int 2)) (zc (xC (.int 2)) (zc (xC (.int 2)) (zc (xC (.int 3)) zf)))))))) (xFn wf (zc (za 0) (zc (za 1) (zc (xC (.int 6)) zf))))))
def WB:List D->Option D:=mir 2 2 zcO
def WC:G->Option B:=(xFn wf (zc (za 1) (zc (x2 yN (x2 yN (x2 yN (za 2) (xC (.int 1))) (x2 xD (xC (.int 4)) (za 3))) (za 0)) (zc (za 4) zf))))
def WD:G->Option Out:=(zt (ul 5 (zH vr (zc (xL (zO (xR1 (zc (za 2) zf)) [none,some 0,some 1,some 7,some 4] (zk 0) zK WC)) zf))) (sIf (xT (x2 (mEq false) (xFn wf (zc (za 0) (zc (x2 yN (x2 yN (za 1) (xC (.int 4))) (x2 xD (xC (.int 4)) (za 7))) (zc (xC (.int 2)) zf)))) (xC (.int 1)))) (ul 6 (za 7)) yv))
def zcP:G->Option Out:=(zt (zI 4 (x2 yN (xC (.int 1)) (xFn wf (zc (za 0) (zc (za 1) (zc (za 3) zf)))))) (zt (wL 5 (wd zf)) (zt (wL 6 (wd zf)) (zt (xE (xR1 (zc (za 4) zf)) (zk 7) WD) (zZ (xV (zc (za 2) (zc (zH vr (zc (za 5) zf)) (zc (zH vr (zc (za 6) zf)) zf)))))))))
def WE:List D->Option D:=mir 4 8 zcP
def WG:G->Option B:=(x2 yN (za 1) (xV (zc (za 0) zf)))
def Yn:G->Option Out:=(Js 5 (xL (zO (xR1 (zc (za 0) zf)) [none,some 6] (zk 0) zK WG)))
def Yo:G->Option Out:=(zt (wL 5 (wd zf)) (zt (xE (zY (za 3)) (zk 6) Yn) (wx 5 (zt (zI 3 (za 5)) (zI 2 (x2 yN (za 2) (za 3)))))))
def zcQ:G->Option Out:=(zt (zI 2 (xL (wd (zc (xV zf) zf)))) (zt (zI 3 (xL (wd (zc (xV zf) zf)))) (zt (xE (xR1 (zc (za 1) zf)) (zk 4) Yo) (zZ (za 2)))))
def UL:List D->Option D:=mir 2 7 zcQ
def WH:G->Option Out:=(zI 2 (x2 mIx (x2 mIx (x2 mIx (za 0) (xC (.int 1))) (za 2)) (za 3)))
def zcR:G->Option Out:=(zt (zI 2 (xC (.int 0))) (zt (xE (zY (za 1)) (zk 3) WH) (zZ (x2 (mIn false) (za 2) (x2 mIx (za 0) (xC (.int 2)))))))
def J0:List D->Option D:=mir 2 4 zcR
def uK:G->Option Out:=(zt (zI 9 (xV (zc (x2 mIx (x2 mIx (x2 mIx (za 0) (xC (.int 1))) (za 6)) (za 8)) (zc (x2 mIx (x2 mIx (x2 mIx (za 1) (xC (.int 1))) (za 7)) (za 8)) zf)))) (sIf (xT (x2 (vu true) (za 9) (za 3))) (zt (wk 3 (za 9) (xC (.bl true))) (ul 2 (xV (zc (x2 yN (za 5) (xV (zc (za 8) zf))) (zc (x2 mIx (za 9) (xC (.int 0))) (zc (x2 mIx (za 9) (xC (.int 1))) zf)))))) yv))
def WJ:G->Option Out:=(zt (Jr (yG 3 (zD (zk 5) (zD (zk 6) (zD (zk 7) yJ)))) (x2 mIx (za 2) (za 4))) (zt (xE (xR1 (zc (x2 mIx (za 0) (xC (.int 0))) zf)) (zk 8) uK) (zI 4 (x2 yN (za 4) (xC (.int 1))))))
def Yp:G->Option Bool:=(xT (x2 mLt (za 4) (zH yM (zc (za 2) zf))))
def zcS:G->Option Out:=(zt (wL 2 (wd (zc (xV (zc (xV zf) (zc (xC (.int 0)) (zc (xC (.int 0)) zf)))) zf))) (zt (zaS 3 (xV (zc (xC (.int 0)) (zc (xC (.int 0)) zf))) (xC (.bl true))) (zt (zI 4 (xC (.int 0))) (zt (yB Yp WJ WFB) (wx 2 (zZ (za 2)))))))
def UM:List D->Option D:=mir 2 10 zcS
def zf3:G->Option Out:=(zZ (v8 (zH Zw (zc (za 0) (zc (xTy .int) zf))) (Jn (zH Zw (zc (za 0) (zc (xTy .bl) zf))))))
def UN:List D->Option D:=mir 1 1 zf3
def Yq:G->Option B:=(zH zdL (zc (x2 (mIn false) (za 0) (x2 mIx (za 1) (xC (.int 2)))) zf))
def WK:G->Option B:=(x2 mIx (za 1) (za 0))
def WL:G->Option B:=(zH JL (zc (xL (zO (zY (za 0)) [none,some 1] (zk 0) zK WK)) zf))
def WM:G->Option Out:=(zI 2 (xL (zO (zY (x2 mIx (za 0) (xC (.int 1)))) [none,some 2] (zk 0) zK WL)))
def zcT:G->Option Out:=(zt (zI 2 (xL (zO (xR1 (zc (zH yM (zc (x2 mIx (za 0) (xC (.int 1))) zf)) zf)) [none,some 0] (zk 0) zK Yq))) (zt (xE (xR1 (zc (za 1) zf)) (zk 3) WM) (zZ (x2 mIx (za 2) (xC (.int 0))))))
def UO:List D->Option D:=mir 2 4 zcT
def wy:G->Option B:=(za 0)
def vZ:G->Option Bool:=(xT (x2 (mEq false) (zH yM (zc (za 0) zf)) (za 1)))
def Zc:G->Option Bool:=(xT (xFn J0 (zc (za 1) (zc (za 0) zf))))
def YZ:G->Option B:=(x2 mIx (za 0) (xC (.int 0)))
def Zd:G->Option Bool:=(xT (x2 (mIn false) (x2 mIx (za 0) (xC (.int 1))) (x2 mIx (za 1) (xC (.int 2)))))
def J1:G->Option Out:=(zt (zI 1 (xFn WB (zc (za 0) (zc (xC (.int 0)) zf)))) (zt (zI 2 (xFn WE (zc (za 0) (zc (xC (.int 1)) (zc (za 1) (zc (xC (.int 5)) zf)))))) (zt (zI 3 (xFn wf (zc (za 0) (zc (xC (.int 22)) (zc (xC (.int 6)) zf))))) (zt (zI 4 (xL (zO (zY (xFn UL (zc (za 1) (zc (za 3) zf)))) [none,some 3] (zk 0) vZ wy))) (zt (zI 5 (zH yM (zc (xL (zO (zY (za 4)) [none,some 2] (zk 0) Zc wy)) zf))) (zt (zI 6 (xFn YY (zc (za 2) (zc (za 3) zf)))) (zt (sIf (xOr (vR (xT (xFn UN (zc (za 6) zf)))) (xT (x2 (mEq true) (za 6) (za 5)))) (zZ (xC (.bl false))) yv) (zt (zI 7 (xFn wf (zc (za 0) (zc (xC (.int 23)) (zc (xC (.int 41)) zf))))) (zt (sIf (xT (x2 (mEq true) (xFn YY (zc (za 2) (zc (za 7) zf))) (xFn UO (zc (za 2) (zc (za 7) zf))))) (zZ (xC (.bl false))) yv) (zt (zI 8 (xL (zO (zY (xFn UM (zc (za 2) (zc (za 2) zf)))) [none,some 2] (zk 0) Zd YZ))) (zt (sIf (xT (x2 (mEq false) (za 8) (xL (wd zf)))) (zZ (x2 Ju (xFn UH (zc (za 2) zf)) (xC .non))) yv) (zZ (x2 (mEq false) (xFn UH (zc (za 2) zf)) (x2 mIx (za 8) (xC (.int 0))))))))))))))))
def Yr:List D->Option D:=mir 1 9 J1
end Py
namespace DD
open PySem L2
section
variable {Γ:G}
def zjd(o:Option (List B)):Option (List D):=o.bind λbs=>match bs with
 | [.d (.lst xs),.d (.lst ys)]=>some (zil xs ys)
 | _=>none
def zdR(i:Nat)(o:Option (List B))(Γ:G):Option Out:=o.bind λbs=>match bs with
 | [.d (.lst ds)]=>(wO ds).bind λkvs=>if kvs.length<=100000 then some (.nx (Γ.set i (.ok (wP [] kvs))))else none
 | _=>none
@[simp] theorem XF {i ds}:zdR i (some [.d (.lst ds)]) Γ=(wO ds).bind λkvs=>if kvs.length<=100000 then some (.nx (Γ.set i (.ok (wP [] kvs))))else none:=id rfl
@[simp] theorem UP {i fs}:uy i fs Γ=zdR i (fs Γ) Γ:=id rfl
theorem UQ{κ:Type} [DecidableEq κ] {kvs:List (κ×D)} {k:κ} {v:D} (h:∀p∈kvs,p.1≠k):yO kvs k v=kvs++[(k,v)]:=by
 unfold yO
 rw[if_neg]
 rw[iM]
 rintro⟨p,j,e⟩
 exact h p j (by simpa using e)
end
end DD
namespace L2
open PySem PySem.Spec PyProof.Rows
section
variable {M:fY} {A:bB} {E:aA->aD->Prop} {s:aD}
end
section
variable {X:Cx} {pins:List (aB×aL)} {σ:St} {H:Hp} {s s':aD} {C a:aB} {e:aA}
end
section
variable {P:aU} {w:aO} {K:aE} {mg:aC->Option aA} {base:aN} {N:List aC} {qual:aC} {scope:bU} {f C:aB} {cdv:aA} {A:bB} {outer:List bS} {s₀:aD} {H₀:Hp} {E:XK}
end
section
variable {X:Cx} {C:aB} {H0:Hp}
end
end L2
namespace DD
open PySem PySem.Spec L2
open PyProof.Rows hiding St
section
variable {X:Cx} {C:aB} {e:aF} {es:List aF} {fs:G->Option (List B)} {x x1 x2:G->Bool} {f:G->Option Out} {pos:aK}
end
section
variable {P:aU} {w:aO} {K:aE} {mg:aC->Option aA} {base:aN} {N:List aC} {qual:aC} {scope:bU} {f C:aB} {cdv:aA} {A:bB} {outer:List bS} {s₀:aD} {H₀:Hp} {E:XK}
end
end DD
namespace L2
open PySem PySem.Spec PyProof.Rows
section
variable {M:fY} {A:bB} {E:aA->aD->Prop} {s:aD}
end
section
variable {X:Cx} {pins:List (aB×aL)} {σ:St} {H2:Hp} {s2 s3:aD} {Ce D C:aB} {scope:bU} {cl:List (aC×aB)} {N:List aC} {fp:List aB} {use:Option (aA->cQ Unit)} {Q:aA->aD->Prop} {acc:aA}
end
section
variable {X:Cx} {pins:List (aB×aL)} {σ:St} {H:Hp} {s:aD}
end
end L2
namespace L2
open PySem PySem.Spec PyProof.Rows
end L2
namespace DD
open PySem PySem.Spec L2
open PyProof.Rows hiding St
section
variable {X:Cx} {Ce:aB} {elt tg iter:aF} {pos:aK}
end
end DD
namespace L2
open PySem PySem.Spec PyProof.Rows
section
variable {X:Cx} {pins:List (aB×aL)} {σ:St} {H:Hp} {s:aD} {M:fY} {A:bB} {E:aA->aD->Prop}
end
end L2
namespace DD
open PySem PySem.Spec L2
open PyProof.Rows hiding St
section
variable {X:Cx}
end
end DD
namespace DD
open PySem PySem.Spec L2
end DD
namespace DD
open PySem PySem.Spec L2
end DD
namespace DD
open PySem L2
section
variable {Γ:G}
end
end DD
namespace Hop
def yd(A:Nat)(δ1 δ2:Nat->Nat->Nat)(g1 g2:Nat->Bool)(s t:Nat):Prop:=∀w:List Nat,(∀a∈w,a<A)->g1 (walk δ1 s w)=g2 (walk δ2 t w)
structure Canon (A m:Nat) (δ:Nat->Nat->Nat) (g:Nat->Bool):Prop where
 pos:0<m
 lt:∀a s,a<A->s<m->δ a s<m
 ap:∀s t,s<m->t<m->yd A δ δ g g s t->s=t
 met:∀k,0<k->k<m->∃j a,j<k/\a<A/\δ a j=k/\∀j' a',a'<A->(j'<j\/(j'=j/\a'<a))->δ a' j'<k
section
variable {A m1 m2:Nat} {δ1 δ2 δ3:Nat->Nat->Nat} {g1 g2 g3:Nat->Bool}
theorem yd.symm(h:yd A δ1 δ2 g1 g2 s t):yd A δ2 δ1 g2 g1 t s:=λw j=>(h w j).symm
theorem yd.trans(h:yd A δ1 δ2 g1 g2 s t)(h':yd A δ2 δ3 g2 g3 t u):yd A δ1 δ3 g1 g3 s u:=λw j=>(h w j).trans (h' w j)
theorem yd.step(h:yd A δ1 δ2 g1 g2 s t)(q:a<A):yd A δ1 δ2 g1 g2 (δ1 a s) (δ2 a t):=λw z=>h (a::w) λb j=>by
 rcases aW.mp j with rfl|j
 ·exact q
 ·exact z b j
theorem zbf{j i c a:Nat}(q:¬(j<i\/(j=i/\c<a)))(z:j<i\/(j=i/\c<a+1)):j=i/\c=a:=by omega
theorem zbg{j i c a:Nat}(q:j<i\/(j=i/\c<a)):j<i\/(j=i/\c<a+1):=q.imp id λh=>⟨h.1,g6 h.2⟩
theorem UR{j i n:Nat}{p:Prop}(z:j<i\/(j=i/\p))(h:i<n):j<n:=z.elim (λq=>eD q h) λq=>q.1▸h
end
structure Kept (n:Nat) (part:Nat->Nat) (kept:List Nat) (num:Nat->Nat):Prop where
 lt:∀i,i<kept.length->kept.getD i 0<n
 up:∀i j,i<j->j<kept.length->kept.getD i 0<kept.getD j 0
 nlt:∀s,s<n->num s<kept.length
 at_:∀s,s<n->part (kept.getD (num s) 0)=part s
 le:∀s,s<n->kept.getD (num s) 0<=s
 one:∀s t,s<n->t<n->part s=part t->num s=num t
 self:∀i,i<kept.length->num (kept.getD i 0)=i
section
variable {n A:Nat} {δ:Nat->Nat->Nat} {g:Nat->Bool} {part:Nat->Nat} {kept:List Nat} {num:Nat->Nat}
def Met(A m:Nat)(δ:Nat->Nat->Nat):Prop:=∀k,0<k->k<m->∃j a,j<k/\a<A/\δ a j=k/\∀q z,z<A->(q<j\/(q=j/\z<a))->δ z q<k
theorem Vm(hn:0<n)(K:Kept n part kept num):num 0=0/\0<kept.length/\kept.getD 0 0=0:=by
 have h1:=K.nlt 0 hn
 have h2:=K.le 0 hn
 have q:0<kept.length:=by omega
 have j:num 0=0:=by
  by_cases z:num 0=0
  ·exact z
  ·have:=K.up 0 (num 0) (by omega) h1
   omega
 rw[j]at h2
 exact⟨j,q,by omega⟩
theorem zf4(K:Kept n part kept num)(j:s<n)(z:k<kept.length)(h:s<kept.getD k 0):num s<k:=by
 have h1:=K.le s j
 rcases kU (num s) k with q|q|q
 ·exact q
 ·rw[q]at h1;omega
 ·have:=K.up k (num s) q (K.nlt s j);omega
theorem Qj(P:Nat->Nat->Prop) [∀i j,Decidable (P i j)] (A:Nat):∀m,(∃j a,j<m/\a<A/\P j a)->∃j a,j<m/\a<A/\P j a/\∀U J,J<A->(U<j\/(U=j/\J<a))->¬P U J:=by
 have O:∀j b,(∃a,a<b/\P j a)->∃a,a<b/\P j a/\∀J,J<a->¬P j J:=by
  intro j b
  induction b with
  | zero=>rintro⟨a,h,_⟩;omega
  | succ b ih=>
   rintro⟨a,h,hp⟩
   by_cases q:∃a,a<b/\P j a
   ·obtain⟨a,h1,h2,Z⟩:=ih q
    exact⟨a,by omega,h2,Z⟩
   ·have:a=b:=by
     rcases fV a b with z|z
     ·exact absurd ⟨a,z,hp⟩ q
     ·omega
    subst this
    exact⟨a,by omega,hp,λJ R z=>q ⟨J,R,z⟩⟩
 intro m
 induction m with
 | zero=>rintro⟨j,a,h,_⟩;omega
 | succ m ih=>
  rintro⟨j,a,h1,h2,Z⟩
  by_cases q:∃j a,j<m/\a<A/\P j a
  ·obtain⟨j,a,q1,q2,q3,q4⟩:=ih q
   exact⟨j,a,by omega,q2,q3,q4⟩
  ·have hj:j=m:=by
    rcases fV j m with z|z
    ·exact absurd ⟨j,a,z,h2,Z⟩ q
    ·omega
   subst hj
   obtain⟨a,a1,a2,a3⟩:=O j A ⟨a,h2,Z⟩
   refine⟨j,a,by omega,a1,a2,λU J R Y z=>?_⟩
   rcases Y with Y|⟨rfl,Y⟩
   ·exact q ⟨U,J,Y,R,z⟩
   ·exact a3 J Y z
theorem XG(q:∀a s,a<A->s<n->δ a s<n)(O:∀s t,s<n->t<n->(part s=part t↔yd A δ δ g g s t))(K:Kept n part kept num):
  ∀s,s<n->yd A (λa i=>num (δ a (kept.getD i 0))) δ (λi=>g (kept.getD i 0)) g (num s) s:=by
 have key:∀(w:List Nat) (s:Nat),s<n->(∀a∈w,a<A)->g (kept.getD (walk (λa i=>num (δ a (kept.getD i 0))) (num s) w) 0)=g (walk δ s w):=by
  intro w
  induction w with
  | nil=>
   intro s j _
   exact(O _ s (K.lt _ (K.nlt s j)) j).mp (K.at_ s j) [] (by simp)
  | cons a w U=>
   intro s j J
   have z:=J a bE
   have R:=K.lt _ (K.nlt s j)
   have Y:=(O _ s R j).mp (K.at_ s j)
   have e:num (δ a (kept.getD (num s) 0))=num (δ a s):=K.one _ _ (q a _ z R) (q a s z j) ((O _ _ (q a _ z R) (q a s z j)).mpr (Y.step z))
   show g (kept.getD (walk _ (num (δ a (kept.getD (num s) 0))) w) 0)=g (walk δ (δ a s) w)
   rw[e]
   exact U (δ a s) (q a s z j) λb Z=>J b (bC _ Z)
 exact λs j w J=>key w s j J
theorem J2(hn:0<n)(U:∀a s,a<A->s<n->δ a s<n)(hp:∀s t,s<n->t<n->(part s=part t↔yd A δ δ g g s t))(hm:Met A n δ)(K:Kept n part kept num):
  Canon A kept.length (λa i=>num (δ a (kept.getD i 0))) (λi=>g (kept.getD i 0)):=by
 obtain⟨z1,z2,z3⟩:=Vm hn K
 have al:=XG U hp K
 refine⟨z2,λa s ha hs=>K.nlt _ (U a _ ha (K.lt s hs)),λs t hs ht h=>?_,λk af hk=>?_⟩
 ·have a1:=al _ (K.lt s hs)
  have a2:=al _ (K.lt t ht)
  rw[K.self s hs]at a1
  rw[K.self t ht]at a2
  have:=(hp _ _ (K.lt s hs) (K.lt t ht)).mpr (a1.symm.trans (h.trans a2))
  have e:=K.one _ _ (K.lt s hs) (K.lt t ht) this
  rw[K.self s hs,K.self t ht]at e
  exact e
 ·have ae:=K.lt k hk
  have ag:0<kept.getD k 0:=eB (cR _) (K.up 0 k af hk)
  obtain⟨j,a0,hj,R,e,mn⟩:=hm _ ag ae
  have O:j<n:=eD hj ae
  have ah:num j<k:=zf4 K O hk hj
  have ab:num (δ a0 (kept.getD (num j) 0))=k:=by
   have ac:=K.lt _ (K.nlt j O)
   have st:=((hp _ j ac O).mp (K.at_ j O)).step R
   have:=K.one _ _ (U a0 _ R ac) (U a0 j R O) ((hp _ _ (U a0 _ R ac) (U a0 j R O)).mpr st)
   rw[this,e,K.self k hk]
  obtain⟨J,a,hJ,ha,hP,Z⟩:=Qj (λJ a=>k<=num (δ a (kept.getD J 0))) A k ⟨num j,a0,ah,R,eN ab.symm⟩
  refine⟨J,a,hJ,ha,?_,λj' a' ai hl=>Nat.lt_of_not_le (Z j' a' ai hl)⟩
  show num (δ a (kept.getD J 0))=k
  rcases fV k (num (δ a (kept.getD J 0)))with q|q
  ·exfalso
   have aj:J<kept.length:=eD hJ hk
   have ak:=K.lt J aj
   have hd:=U a _ ha ak
   have aa:kept.getD k 0<δ a (kept.getD J 0):=by
    have h1:=K.up k _ q (K.nlt _ hd)
    have h2:=K.le _ hd
    exact cD h1 h2
   have Y:¬(kept.getD J 0<j\/(kept.getD J 0=j/\a<a0)):=λz=>Nat.lt_asymm aa (mn _ a ha z)
   have ne:¬(kept.getD J 0=j/\a=a0):=λz=>by
    rw[z.1,z.2,e]at aa;exact cI _ aa
   have am:num j<=J:=by
    rcases fV J (num j)with y|y
    ·have h1:=K.up J (num j) y (K.nlt j O)
     have h2:=K.le j O
     exact absurd (.inl (cD h1 h2)) Y
    ·exact y
   rcases fV (num j) J with y|y
   ·exact Z (num j) a0 R (.inl y) (eN ab.symm)
   ·have ej:num j=J:=mY am y
    have h2:=K.le j O
    rw[ej]at h2
    have an:kept.getD J 0=j/\a0<a:=by
     rcases kU (kept.getD J 0) j with x|x|x
     ·exact absurd (.inl x) Y
     ·refine⟨x,?_⟩
      rcases kU a a0 with u|u|u
      ·exact absurd (.inr ⟨x,u⟩) Y
      ·exact absurd ⟨x,u⟩ ne
      ·exact u
     ·omega
    exact Z J a0 R (.inr ⟨rfl,an.2⟩) (by rw[<-ej];omega)
  ·omega
end
def yn(part:Nat->Nat):Nat->List Nat
 | 0=>[]
 | i+1=>if part i∈(yn part i).map part then yn part i else yn part i++[i]
def wz(part:Nat->Nat)(kept:List Nat)(s:Nat):Nat:=(kept.map part).idxOf (part s)
structure KI (part:Nat->Nat) (i:Nat) (kept:List Nat):Prop where
 lt:∀s∈kept,s<i
 up:kept.Pairwise (· < ·)
 nd:(kept.map part).Nodup
 has:∀s,s<i->∃t,t∈kept/\part t=part s/\t<=s
theorem Y0(part:Nat->Nat):∀i,KI part i (yn part i)
 | 0=>⟨by simp[yn],by simp[yn],by simp[yn],λs h=>absurd h (jz _)⟩
 | i+1=>by
  have j:=Y0 part i
  unfold yn
  by_cases h:part i∈(yn part i).map part
  ·rw[if_pos h]
   refine⟨λs J=>g6 (j.lt s J),j.up,j.nd,λs J=>?_⟩
   rcases fV s i with q|q
   ·exact j.has s q
   ·have e:s=i:=by omega
    subst e
    obtain⟨t,U,Y⟩:=bK.mp h
    exact⟨t,U,Y,gQ (j.lt t U)⟩
  ·rw[if_neg h]
   refine⟨λs J=>?_,?_,?_,λs J=>?_⟩
   ·rcases cA.mp J with q|q
    ·exact g6 (j.lt s q)
    ·have:s=i:=by simpa using q
     omega
   ·rw[List.pairwise_append]
    refine⟨j.up,by simp,λa O b R=>?_⟩
    have:b=i:=by simpa using R
    subst this
    exact j.lt a O
   ·rw[eI,cZ]
    refine⟨j.nd,by simp,λa O b R z=>?_⟩
    have:b=part i:=by simpa using R
    subst this;subst z
    exact h O
   ·rcases fV s i with q|q
    ·obtain⟨t,a,b,c⟩:=j.has s q
     exact⟨t,dJ _ a,b,c⟩
    ·have e:s=i:=by omega
     subst e
     exact⟨s,by simp,rfl,aP _⟩
theorem XH{l:List Nat}(part:Nat->Nat){p:Nat}(h:p∈l.map part):(l.map part).idxOf p<l.length/\part (l.getD ((l.map part).idxOf p) 0)=p:=by
 have h1:=mZ h
 have h2:=m3 h1
 rw[aM]at h1
 refine⟨h1,?_⟩
 rw[dQ]at h2
 simp only[bI,bH h1,eS]
 exact h2
theorem QV(part:Nat->Nat)(n:Nat):Kept n part (yn part n) (wz part (yn part n)):=by
 have R:=Y0 part n
 generalize yn part n=kept at R
 have q:∀i,i<kept.length->kept.getD i 0∈kept:=λi hi=>by
  simp only[bI,bH hi,eS]
  exact cS hi
 have up:∀i j,i<j->j<kept.length->kept.getD i 0<kept.getD j 0:=λi j Y z=>by
  have hi:i<kept.length:=by omega
  simp only[bI,bH hi,bH z,eS]
  exact m4.mp R.up i j hi z Y
 have O:∀s,s<n->part s∈kept.map part:=λs J=>by
  obtain⟨t,a,b,_⟩:=R.has s J
  exact bK.mpr ⟨t,a,b⟩
 have inj:∀i j,i<kept.length->j<kept.length->part (kept.getD i 0)=part (kept.getD j 0)->i=j:=λi j hi z e=>by
  have Z:i<(kept.map part).length:=by rw[aM];exact hi
  have aa:j<(kept.map part).length:=by rw[aM];exact z
  refine(fX (h₀:=Z) (h₁:=aa) R.nd).mp ?_
  rw[dQ,dQ]
  simpa only[bI,bH hi,bH z,eS]using e
 refine⟨λi hi=>R.lt _ (q i hi),up,λs J=>(XH part (O s J)).1,λs J=>(XH part (O s J)).2,λs J=>?_,λs t _ _ e=>by unfold wz;rw[e],λi hi=>?_⟩
 ·obtain⟨t,a,b,c⟩:=R.has s J
  obtain⟨q1,q2⟩:=XH part (O s J)
  obtain⟨j,z,ej⟩:=dH.mp a
  have U:kept.getD j 0=t:=by
   simp only[bI,bH z,eS];exact ej
  have:(kept.map part).idxOf (part s)=j:=inj _ _ q1 z (by rw[q2,U,b])
  show kept.getD ((kept.map part).idxOf (part s)) 0<=s
  rw[this,U];exact c
 ·obtain⟨q1,q2⟩:=XH part (bK.mpr ⟨_,q i hi,rfl⟩)
  exact inj _ _ q1 hi q2
def yL(o:List Nat)(g:Nat):List Nat:=if g∈o then o else o++[g]
structure BI (n A:Nat) (δ:Nat->Nat->Nat) (i a:Nat) (o:List Nat):Prop where
 nd:o.Nodup
 lt:∀s∈o,s<n
 hd:o.getD 0 0=0
 le:i<=o.length
 pos:0<o.length
 cl:∀j b,b<A->(j<i\/(j=i/\b<a))->δ b (o.getD j 0)∈o
 met:∀k,0<k->k<o.length->∃j b,j<k/\(j<i\/(j=i/\b<a))/\b<A/\δ b (o.getD j 0)=o.getD k 0/\∀j' b',b'<A->(j'<j\/(j'=j/\b'<b))->δ b' (o.getD j' 0)∈o.take k
section
variable {n A:Nat} {δ:Nat->Nat->Nat} {i a:Nat} {o:List Nat}
theorem xZ{l:List Nat}{i:Nat}(h:i<l.length):l.getD i 0∈l:=by
 simp only[bI,bH h,eS]
 exact cS h
theorem Y1(hn:0<n):BI n A δ 0 0 [0]:=⟨by simp,by simpa using hn,rfl,by simp,by simp,λj b _ h=>by omega,λk z q=>by simp at q;omega⟩
theorem zeJ(aa:∀a s,a<A->s<n->δ a s<n)(ha:a<A)(hi:i<o.length)(b:BI n A δ i a o):BI n A δ i (a+1) (yL o (δ a (o.getD i 0))):=by
 unfold yL
 by_cases h:δ a (o.getD i 0)∈o
 ·rw[if_pos h]
  refine⟨b.nd,b.lt,b.hd,b.le,b.pos,λj c hc Z=>?_,λk h0 hk=>?_⟩
  ·by_cases q:j<i\/(j=i/\c<a)
   ·exact b.cl j c hc q
   ·obtain⟨e,e2⟩:=zbf q Z
    subst e;subst e2;exact h
  ·obtain⟨j,c,U,q2,q3⟩:=b.met k h0 hk
   exact⟨j,c,U,zbg q2,q3⟩
 ·rw[if_neg h]
  have O:∀j,j<o.length->(o++[δ a (o.getD i 0)]).getD j 0=o.getD j 0:=λj hj=>by rw[yC,if_pos hj]
  have ge:(o++[δ a (o.getD i 0)]).getD o.length 0=δ a (o.getD i 0):=by rw[yC,if_neg (cI _),if_pos rfl]
  refine⟨?_,λs hs=>?_,by rw[O 0 b.pos];exact b.hd,by rw[bQ];exact bL b.le (m5 _ _),by simp,λj c hc Z=>?_,λk h0 hk=>?_⟩
  ·rw[cZ]
   refine⟨b.nd,by simp,λx hx y hy z=>?_⟩
   have:y=δ a (o.getD i 0):=by simpa using hy
   subst this;subst z;exact h hx
  ·rcases cA.mp hs with q|q
   ·exact b.lt s q
   ·have:s=δ a (o.getD i 0):=by simpa using q
    rw[this];exact aa a _ ha (b.lt _ (xZ hi))
  ·rw[O j (UR Z hi)]
   by_cases q:j<i\/(j=i/\c<a)
   ·exact dJ _ (b.cl j c hc q)
   ·obtain⟨e,e2⟩:=zbf q Z
    subst e;subst e2
    exact cX _ (by simp)
  ·rw[bQ,dP]at hk
   rcases fV k o.length with q|q
   ·obtain⟨j,c,U,q2,q3,q4,q5⟩:=b.met k h0 q
    refine⟨j,c,U,zbg q2,q3,by rw[O j (eD U q),O k q];exact q4,λY b' R J=>?_⟩
    rw[O Y (UR J (eD U q)),m6 (gQ q)]
    exact q5 Y b' R J
   ·have e:k=o.length:=mY (Nat.le_of_lt_succ hk) q
    subst e
    refine⟨i,a,hi,.inr ⟨rfl,gE a⟩,ha,by rw[O i hi,ge],λY b' R J=>?_⟩
    rw[O Y (UR J hi),m6 (aP _),eH]
    exact b.cl Y b' R J
theorem J3(o:List Nat)(x:Nat):∀j,j<o.length->(yL o x).getD j 0=o.getD j 0/\o.length<=(yL o x).length:=λj q=>by
 unfold yL
 split
 ·exact⟨rfl,aP _⟩
 ·exact⟨by rw[yC,if_pos q],by simp⟩
theorem US(j:∀a s,a<A->s<n->δ a s<n):∀(q:List Nat) (a:Nat) (o:List Nat),a+q.length=A->i<o.length->(∀b,b<q.length->q.getD b 0=δ (a+b) (o.getD i 0))->BI n A δ i a o->BI n A δ i A (q.foldl yL o)/\o.length<=(q.foldl yL o).length
 | [],a,o,h,hi,z,b=>by
  have e:a=A:=by simpa using h
  subst e
  exact⟨b,aP _⟩
 | x::r,a,o,h,hi,z,b=>by
  rw[cC]at h
  have ex:x=δ a (o.getD i 0):=by simpa using z 0 (by simp)
  have s:=zeJ j (by omega) hi b
  rw[<-ex]at s
  obtain⟨J,p2⟩:=J3 o x i hi
  obtain⟨O,R⟩:=US j r (a+1) (yL o x) (by omega) (by omega) (λc U=>by
   have:=z (c+1) (by simp;omega)
   rw[J,show a+1+c=a+(c+1) by omega,<-this];simp) s
  exact⟨O,bL p2 R⟩
theorem QW(hi:i<o.length)(b:BI n A δ i A o):BI n A δ (i+1) 0 o :=
 ⟨b.nd,b.lt,b.hd,hi,b.pos,λj c q U=>b.cl j c q (by omega),λk z J=>by
  obtain⟨j,c,O,Y,R⟩:=b.met k z J
  exact⟨j,c,O,by omega,R⟩⟩
def VH(rows:List (List Nat))(o:List Nat)(i:Nat):List Nat:=(rows.getD (o.getD i 0) []).foldl yL o
def bfs(rows:List (List Nat)):Nat->Nat->List Nat->List Nat
 | 0,_,o=>o
 | f+1,i,o=>if i<o.length then bfs rows f (i+1) (VH rows o i)else o
theorem WN{rows:List (List Nat)}(j:∀a s,a<A->s<rows.length->(rows.getD s []).getD a 0<rows.length)(J:∀s,s<rows.length->(rows.getD s []).length=A):
  ∀(f i:Nat) (o:List Nat),BI rows.length A (λa s=>(rows.getD s []).getD a 0) i 0 o->rows.length<=f+i->BI rows.length A (λa s=>(rows.getD s []).getD a 0) (bfs rows f i o).length 0 (bfs rows f i o)
 | f,i,o,b,R=>by
  have q:o.length<=rows.length:=by
   have:=yq (m:=aG rows.length) b.nd λs z=>bZ.mpr (b.lt s z)
   rwa [cY]at this
  cases f with
  | zero=>
   have e:i=o.length:=by have:=b.le;omega
   show BI _ _ _ o.length 0 o
   rw[<-e];exact b
  | succ f=>
   unfold bfs
   by_cases hi:i<o.length
   ·rw[if_pos hi]
    have z:=b.lt _ (xZ hi)
    obtain⟨O,U⟩:=US j (rows.getD (o.getD i 0) []) 0 o (by rw[J _ z];omega) hi (λc _=>by rw[gP]) b
    exact WN j J f (i+1) _ (QW (show i<((rows.getD (o.getD i 0) []).foldl yL o).length by omega) O) (by omega)
   ·rw[if_neg hi]
    have e:i=o.length:=by have:=b.le;omega
    rw[<-e];exact b
theorem zcU(b:BI n A δ o.length 0 o):Met A o.length λa k=>o.idxOf (δ a (o.getD k 0)):=λk Z z=>by
 obtain⟨j,c,q1,q2,q3,q4,q5⟩:=b.met k Z z
 have q:o.idxOf (o.getD k 0)=k:=by
  simp only[bI,bH z,eS]
  exact m7 b.nd k z
 refine⟨j,c,q1,q3,by show o.idxOf (δ c (o.getD j 0))=k;rw[q4,q],λR U J O=>?_⟩
 have hm:=q5 R U J O
 obtain⟨t,ht,Y⟩:=dH.mp hm
 rw[fC]at ht
 rw[m8]at Y
 show o.idxOf (δ U (o.getD R 0))<k
 rw[<-Y,m7 b.nd t (by omega)]
 omega
theorem Ys(b:BI n A δ o.length 0 o):∀a s,a<A->s<o.length->o.idxOf (δ a (o.getD s 0))<o.length:=λa s j q=>mZ (b.cl s a j (.inl q))
theorem J4(b:BI n A δ o.length 0 o):∀s,s<o.length->yd A (λa k=>o.idxOf (δ a (o.getD k 0))) δ (λk=>g (o.getD k 0)) g s (o.getD s 0):=by
 have key:∀(w:List Nat) (s:Nat),s<o.length->(∀a∈w,a<A)->g (o.getD (walk (λa k=>o.idxOf (δ a (o.getD k 0))) s w) 0)=g (walk δ (o.getD s 0) w):=by
  intro w
  induction w with
  | nil=>intro s _ _;rfl
  | cons a w J=>
   intro s z j
   have O:=j a bE
   have q:=Ys b a s O z
   have e:o.getD (o.idxOf (δ a (o.getD s 0))) 0=δ a (o.getD s 0):=by
    generalize δ a (o.getD s 0)=y at q
    rw[bI,bH q,eS]
    exact m3 q
   have:=J (o.idxOf (δ a (o.getD s 0))) q λc R=>j c (bC _ R)
   rw[e]at this
   exact this
 exact λs z w j=>key w s z j
end
theorem xm(j:∀a s,a<A->s<n->δ a s<n):∀(w:List Nat) (s:Nat),(∀a∈w,a<A)->s<n->walk δ s w<n
 | [],s,_,q=>q
 | a::w,s,z,q=>xm j w (δ a s) (λb J=>z b (bC _ J)) (j a s (z a bE) q)
theorem J5{A:Nat}{rows:List (List Nat)}{good:Nat->Bool}(hn:0<rows.length)(Z:∀a s,a<A->s<rows.length->(rows.getD s []).getD a 0<rows.length)(hA:∀s,s<rows.length->(rows.getD s []).length=A) 
  {o:List Nat} (ho:o=bfs rows rows.length 0 [0]) {bs:List (List (List Nat))} (aa:bs.length=A) (ab:∀i,i<A->Back o.length (λk=>o.idxOf ((rows.getD (o.getD k 0) []).getD i 0)) (bs.getD i []))
  {part:Nat->Nat} (O:part=λs=>(yt bs (o.map good)).getD s 0) {kept:List Nat} (hk:kept=yn part o.length) :
  Canon A kept.length (λa i=>wz part kept (o.idxOf ((rows.getD (o.getD (kept.getD i 0) 0) []).getD a 0))) (λi=>good (o.getD (kept.getD i 0) 0))/\
  yd A (λa i=>wz part kept (o.idxOf ((rows.getD (o.getD (kept.getD i 0) 0) []).getD a 0))) (λa s=>(rows.getD s []).getD a 0) (λi=>good (o.getD (kept.getD i 0) 0)) good 0 0:=by
 have b:BI rows.length A (λa s=>(rows.getD s []).getD a 0) o.length 0 o:=by
  have:=WN Z hA rows.length 0 [0] (Y1 hn) (by omega)
  rw[<-ho]at this;exact this
 have j:=Ys b
 have q:(o.map good).length=o.length:=aM _
 have Y:∀s,s<o.length->(o.map good).getD s false=good (o.getD s 0):=λs J=>by
  simp only[bI,bG,bH J,cP,eS]
 have U:∀a s,a<A->s<(o.map good).length->(λa k=>o.idxOf ((rows.getD (o.getD k 0) []).getD a 0)) a s<(o.map good).length:=λa s ha J=>by
  rw[q]at J ⊢;exact j a s ha J
 obtain⟨_,ps⟩:=ZE (A:=A) (δ:=λa k=>o.idxOf ((rows.getD (o.getD k 0) []).getD a 0)) (good:=o.map good) U aa (λi hi=>by rw[q];exact ab i hi)
 have hp:∀s t,s<o.length->t<o.length->(part s=part t↔yd A (λa k=>o.idxOf ((rows.getD (o.getD k 0) []).getD a 0)) (λa k=>o.idxOf ((rows.getD (o.getD k 0) []).getD a 0)) (λk=>good (o.getD k 0)) (λk=>good (o.getD k 0)) s t):=λs t J ht=>by
  have e:=ps s t (by rw[q];exact J) (by rw[q];exact ht)
  rw[O]
  show(yt bs (o.map good)).getD s 0=(yt bs (o.map good)).getD t 0↔_
  rw[e]
  constructor
  ·intro h w R
   refine kQ λz=>h ⟨w,R,?_⟩
   rw[Y _ (xm j w s R J),Y _ (xm j w t R ht)]
   exact z
  ·rintro h ⟨w,R,z⟩
   rw[Y _ (xm j w s R J),Y _ (xm j w t R ht)]at z
   exact z (h w R)
 have K:=QV part o.length
 rw[<-hk]at K
 obtain⟨z1,z2,z3⟩:=Vm b.pos K
 refine⟨J2 b.pos j hp (zcU b) K,?_⟩
 have a1:=XG j hp K 0 b.pos
 rw[z1]at a1
 have a2:=J4 (g:=good) b 0 b.pos
 rw[b.hd]at a2
 exact a1.trans a2
end Hop
namespace Py
open PySem PySem.Spec L2 DD
open PyProof.Rows hiding St
abbrev dN(l:List Nat):List D:=l.map λ(n:Nat)=>D.int (n:Int)
abbrev dKs(l:List Nat):List (Key×D):=l.map λ(s:Nat)=>((Sum.inl (s:Int):Key),D.bl true)
theorem Vn(s:Nat):∀l:List Nat,zM (dKs l) (Sum.inl (s:Int))=if s∈l then some (.bl true)else none
 | []=>rfl
 | a::r=>by
  have j:=Vn s r
  unfold zM at j ⊢
  rw[show dKs (a::r)=((Sum.inl (a:Int):Key),D.bl true)::dKs r from rfl,cT]
  by_cases h:a=s
  ·subst h;simp
  ·have h1:¬((Sum.inl (a:Int):Key)=Sum.inl (s:Int)):=λz=>h (by injection z with z;omega)
   have h2:¬s=a:=λz=>h z.symm
   simp only[h1,decide_false]
   rw[j]
   simp[h2]
theorem zbh{s:Nat}{l:List Nat}(h:s∉l):yO (dKs l) (Sum.inl (s:Int)) (D.bl true)=dKs (l++[s]):=by
 unfold yO
 rw[if_neg ?_]
 ·simp
 ·rw[iM]
  rintro⟨x,q,e⟩
  obtain⟨t,z,rfl⟩:=bK.mp q
  have j:((Sum.inl (t:Int):Key))=Sum.inl (s:Int):=by simpa using e
  injection j with j
  have:t=s:=by omega
  exact h (this▸z)
theorem J6{a0 a3 a4:S}{o:List Nat}{g:Nat}(hz:o.length<16777216):wC [a0,.ol (dN o),.ok (dKs o),a3,a4,.v (.int (g:Int))]=some (.nx [a0,.ol (dN (Hop.yL o g)),.ok (dKs (Hop.yL o g)),a3,a4,.v (.int (g:Int))]):=by
 have h1:vu true (.d (.int (g:Int))) (.k (dKs o))=some (.bl (!decide (g∈o))):=by
  show some (D.bl (if true=true then !(zM (dKs o) (Sum.inl (g:Int))).isSome else _))=_
  rw[if_pos rfl,Vn]
  by_cases h:g∈o <;>simp[h]
 unfold wC Hop.yL
 by_cases h:g∈o
 ·simp[h1,h]
 ·have hp:um (.ok (dKs o)) (.int (g:Int)) (.bl true)=some (.ok (dKs (o++[g]))):=by
   show(if(dKs o).length<aH then some (S.ok (yO (dKs o) (Sum.inl (g:Int)) (.bl true)))else none)=_
   rw[if_pos (by rw[aM,eX];exact hz),zbh h]
  have hl:(dN o).length<16777216:=by rw[aM];exact hz
  simp[h1,h,hp,hz]
  show YV 1 (some (dN o)) (some (.d (.int (g:Int)))) _=_
  unfold YV
  simp[hz]
theorem J7(o:List Nat)(g:Nat):(Hop.yL o g).length<=o.length+1:=by
 unfold Hop.yL
 split
 ·omega
 ·simp
theorem YD{a0 a3 a4:S}:∀(row:List Nat) (o:List Nat) (x5:S),o.length+row.length<16777216->∃y5,xr (zk 5) wC (dN row) [a0,.ol (dN o),.ok (dKs o),a3,a4,x5]=some (.nx [a0,.ol (dN (row.foldl Hop.yL o)),.ok (dKs (row.foldl Hop.yL o)),a3,a4,y5])
 | [],o,x5,_=>⟨x5,rfl⟩
 | g::r,o,x5,hz=>by
  rw[cC]at hz
  have hl:=J7 o g
  obtain⟨y5,h⟩:=YD r (Hop.yL o g) (.v (.int (g:Int))) (by omega)
  refine⟨y5,?_⟩
  have e:=J6 (a0:=a0) (a3:=a3) (a4:=a4) (o:=o) (g:=g) (by omega)
  show xr (zk 5) wC (D.int (g:Int)::dN r) _=_
  unfold xr
  rw[show zk 5 (D.int (g:Int)) [a0,.ol (dN o),.ok (dKs o),a3,a4,x5]=some [a0,.ol (dN o),.ok (dKs o),a3,a4,.v (.int (g:Int))]from rfl]
  simp only[bF,e]
  exact h
abbrev zi(rows:List (List Nat)):List D:=rows.map λr=>D.tup (dN r)
theorem ZH{o:List Nat}{i:Nat}(h:i<o.length):atI (dN o) (i:Int)=some (.int (o.getD i 0:Nat)):=xA (by rw[bG,bI,bH h];rfl)
theorem ZI{rows:List (List Nat)}{s:Nat}(h:s<rows.length):atI (zi rows) (s:Int)=some (.tup (dN (rows.getD s []))):=xA (by rw[bG,bI,bH h];rfl)
theorem J8{a0 a2 a4 a5:S}{o:List Nat}{i:Nat}:uE [a0,.ol (dN o),a2,.v (.int (i:Int)),a4,a5]=some (decide (i<o.length)):=by
 unfold uE
 simp
theorem J9{rows:List (List Nat)}{a4 a5:S}{o:List Nat}{i:Nat}(hi:i<o.length)(hs:o.getD i 0<rows.length)(hz:o.length+(rows.getD (o.getD i 0) []).length<16777216):
  ∃y4 y5,uD [.v (.tup (zi rows)),.ol (dN o),.ok (dKs o),.v (.int (i:Int)),a4,a5]=some (.nx [.v (.tup (zi rows)),.ol (dN (Hop.VH rows o i)),.ok (dKs (Hop.VH rows o i)),.v (.int ((i+1:Nat):Int)),y4,y5]):=by
 obtain⟨y5,h⟩:=YD (a0:=.v (.tup (zi rows))) (a3:=.v (.int (i:Int))) (a4:=.v (.tup (dN (rows.getD (o.getD i 0) [])))) (rows.getD (o.getD i 0) []) o a5 hz
 refine⟨.v (.tup (dN (rows.getD (o.getD i 0) []))),y5,?_⟩
 have e1:=ZH hi
 have e2:=ZI hs
 unfold uD
 have hrow:(x2 mIx (za 0) (x2 mIx (za 1) (za 3))) [.v (.tup (zi rows)),.ol (dN o),.ok (dKs o),.v (.int (i:Int)),a4,a5]=some (.d (.tup (dN (rows.getD (o.getD i 0) [])))):=by
  simp only[x2,za]
  show((some (B.d (D.tup (zi rows)))).bind λx=>((some (B.l (dN o))).bind λx=>(some (B.d (D.int (i:Int)))).bind λy=>(mIx x y).map B.d).bind λy=>(mIx x y).map B.d)=_
  simp only[bF]
  rw[show mIx (B.l (dN o)) (B.d (D.int (i:Int)))=atI (dN o) (i:Int)from rfl,e1]
  simp only[cP,bF]
  rw[show mIx (B.d (D.tup (zi rows))) (B.d (D.int ((o.getD i 0:Nat):Int)))=atI (zi rows) ((o.getD i 0:Nat):Int)from rfl,e2]
  rfl
 rw[zx,xX,hrow]
 show(zt (xE (zY (za 4)) (zk 5) wC) (zcd 3 (xC (.int 1)))) [S.v (.tup (zi rows)),.ol (dN o),.ok (dKs o),.v (.int (i:Int)),.v (.tup (dN (rows.getD (o.getD i 0) []))),a5]=_
 rw[zx,show xE (zY (za 4)) (zk 5) wC [S.v (.tup (zi rows)),.ol (dN o),.ok (dKs o),.v (.int (i:Int)),.v (.tup (dN (rows.getD (o.getD i 0) []))),a5]=xr (zk 5) wC (dN (rows.getD (o.getD i 0) [])) [S.v (.tup (zi rows)),.ol (dN o),.ok (dKs o),.v (.int (i:Int)),.v (.tup (dN (rows.getD (o.getD i 0) []))),a5]from rfl,h]
 rfl
theorem Zk(j:∀a s,a<A->s<rows.length->(rows.getD s []).getD a 0<rows.length)(z:∀s,s<rows.length->(rows.getD s []).length=A)(O:rows.length+A<16777216):
  ∀(f F i:Nat) (o:List Nat) (a4 a5:S),Hop.BI rows.length A (λa s=>(rows.getD s []).getD a 0) i 0 o->rows.length<=f+i->f<F->∃y3 y4 y5,yB uE uD F [.v (.tup (zi rows)),.ol (dN o),.ok (dKs o),.v (.int (i:Int)),a4,a5]=some (.nx [.v (.tup (zi rows)),.ol (dN (Hop.bfs rows f i o)),.ok (dKs (Hop.bfs rows f i o)),y3,y4,y5])
 | f,0,i,o,a4,a5,b,R,U=>by omega
 | f,F+1,i,o,a4,a5,b,R,U=>by
  have J:o.length<=rows.length:=by
   have:=Hop.yq (m:=aG rows.length) b.nd λs q=>bZ.mpr (b.lt s q)
   rwa [cY]at this
  unfold yB
  rw[J8]
  by_cases hi:i<o.length
  ·have q:=b.lt _ (Hop.xZ hi)
   cases f with
   | zero=>omega
   | succ f=>
    obtain⟨y4,y5,h⟩:=J9 (a4:=a4) (a5:=a5) hi q (by rw[z _ q];omega)
    obtain⟨Y,q2⟩:=Hop.US j (rows.getD (o.getD i 0) []) 0 o (by rw[z _ q];omega) hi (λc _=>by rw[gP]) b
    obtain⟨Z,z4,z5,hh⟩:=Zk j z O f F (i+1) (Hop.VH rows o i) y4 y5 (Hop.QW (show i<((rows.getD (o.getD i 0) []).foldl Hop.yL o).length by omega) Y) (by omega) (by omega)
    refine⟨Z,z4,z5,?_⟩
    rw[decide_eq_true hi]
    simp only[bF,h]
    unfold Hop.bfs
    rw[if_pos hi]
    exact hh
  ·refine⟨.v (.int (i:Int)),a4,a5,?_⟩
   rw[decide_eq_false hi]
   have e:Hop.bfs rows f i o=o:=by
    cases f with
    | zero=>rfl
    | succ f=>unfold Hop.bfs;rw[if_neg hi]
   rw[e]
   rfl
theorem zbi{A:Nat}{rows:List (List Nat)}(hn:0<rows.length)(hlt:∀a s,a<A->s<rows.length->(rows.getD s []).getD a 0<rows.length)(hA:∀s,s<rows.length->(rows.getD s []).length=A)(hz:rows.length+A<100000):
  YX [.tup (zi rows)]=some (.lst (dN (Hop.bfs rows rows.length 0 [0]))):=by
 obtain⟨y3,y4,y5,h⟩:=Zk hlt hA (by omega) rows.length WF 0 [0] .un .un (Hop.Y1 hn) (by omega) (by unfold WF;omega)
 have e:JO [.v (.tup (zi rows)),.un,.un,.un,.un,.un]=some (.rt (.lst (dN (Hop.bfs rows rows.length 0 [0])))):=by
  unfold JO
  show(zt (yB uE uD WF) (wx 1 (zZ (za 1)))) [.v (.tup (zi rows)),.ol (dN [0]),.ok (dKs [0]),.v (.int ((0:Nat):Int)),.un,.un]=_
  rw[zx,h]
  rfl
 unfold YX mir
 rw[if_pos (show [D.tup (zi rows)].length=1 from rfl),show zT 6 [D.tup (zi rows)]=[.v (.tup (zi rows)),.un,.un,.un,.un,.un]from rfl,e]
theorem ZJ{rows:List (List Nat)}{kept:List Nat}{numbers:D}{nm:Nat->Nat}(R:∀s∈kept,s<rows.length)(U:kept.length<=16777216)(Y:∀s,s<rows.length->(rows.getD s []).length<=16777216) 
  (hn:∀s∈kept,∀g∈rows.getD s [],Wi (.d numbers) (.d (.int (g:Int)))=some (.int (nm g:Nat))) :
  vy [.tup (zi rows),.lst (dN kept),numbers]=some (.tup (zi (kept.map λs=>(rows.getD s []).map nm))):=by
 have j:∀s∈kept,wD [.v (.int (s:Int)),.v (.tup (zi rows)),.v numbers]=some (.d (.tup (dN ((rows.getD s []).map nm)))):=λs O=>by
  have Z:=yr (λ(x:Nat)=>D.int (x:Int)) (t:=zk 0) (cond:=zK) (el:=vL) (Γ:=[.v (.int (s:Int)),.v (.tup (zi rows)),.v numbers]) (ms:=[none,some 2]) (ds:=dN (rows.getD s [])) ((rows.getD s []).map nm) (by simp) (by rw[aM];exact Y s (R s O)) λk h=>by
   rw[aM]at h
   refine⟨[.v (.int ((rows.getD s [])[k]:Nat)),.v numbers],?_,rfl,?_⟩
   ·show some _=some _
    simp[yp]
   ·show x2 Wi (za 1) (za 0) _=_
    have:=hn s O _ (cS h)
    simp only[x2,za]
    show((some (B.d numbers)).bind λx=>(some (B.d (D.int ((rows.getD s [])[k]:Nat)))).bind λy=>(Wi x y).map B.d)=_
    simp only[bF,this,cP,dQ]
  have z:(x2 mIx (za 1) (za 0)) [.v (.int (s:Int)),.v (.tup (zi rows)),.v numbers]=some (.d (.tup (dN (rows.getD s [])))):=by
   simp only[x2,za]
   show((some (B.d (D.tup (zi rows)))).bind λx=>(some (B.d (D.int (s:Int)))).bind λy=>(mIx x y).map B.d)=_
   simp only[bF]
   rw[show mIx (B.d (D.tup (zi rows))) (B.d (D.int (s:Int)))=atI (zi rows) (s:Int)from rfl,ZI (R s O)]
   rfl
  have J:zY (x2 mIx (za 1) (za 0)) [.v (.int (s:Int)),.v (.tup (zi rows)),.v numbers]=some (dN (rows.getD s [])):=by
   unfold zY
   rw[z];rfl
  have q:zO (zY (x2 mIx (za 1) (za 0))) [none,some 2] (zk 0) zK vL [.v (.int (s:Int)),.v (.tup (zi rows)),.v numbers]=some (dN ((rows.getD s []).map nm)):=by
   rw[y0,J,Z]
  unfold wD
  show((zc (xL (zO (zY (x2 mIx (za 1) (za 0))) [none,some 2] (zk 0) zK vL)) zf _).bind λbs=>(vr bs).map B.d)=_
  rw[show zc (xL (zO (zY (x2 mIx (za 1) (za 0))) [none,some 2] (zk 0) zK vL)) zf [.v (.int (s:Int)),.v (.tup (zi rows)),.v numbers]=some [.d (.lst (dN ((rows.getD s []).map nm)))]from by
   show((xL (zO (zY (x2 mIx (za 1) (za 0))) [none,some 2] (zk 0) zK vL) _).bind λb=>(some []).map λr=>b::r)=_
   rw[wS,q];rfl]
  rfl
 have outer:=yr (λ(r:List Nat)=>D.tup (dN r)) (t:=zk 0) (cond:=zK) (el:=wD) (Γ:=[.v (.tup (zi rows)),.v (.lst (dN kept)),.v numbers]) (ms:=[none,some 0,some 2]) (ds:=dN kept) (kept.map λs=>(rows.getD s []).map nm) (by simp) (by rw[aM];exact U) λk h=>by
  rw[aM]at h
  refine⟨[.v (.int (kept[k]:Nat)),.v (.tup (zi rows)),.v numbers],?_,rfl,?_⟩
  ·show some _=some _
   simp[yp]
  ·rw[j _ (cS h),dQ]
 have q:zO (zY (za 1)) [none,some 0,some 2] (zk 0) zK wD [.v (.tup (zi rows)),.v (.lst (dN kept)),.v numbers]=some (zi (kept.map λs=>(rows.getD s []).map nm)):=by
  rw[y0,show zY (za 1) [.v (.tup (zi rows)),.v (.lst (dN kept)),.v numbers]=some (dN kept)from rfl,outer]
 have e:JP [.v (.tup (zi rows)),.v (.lst (dN kept)),.v numbers]=some (.rt (.tup (zi (kept.map λs=>(rows.getD s []).map nm)))):=by
  unfold JP
  show(((zc (xL (zO (zY (za 1)) [none,some 0,some 2] (zk 0) zK wD)) zf _).bind λbs=>(vr bs).map B.d).bind λb=>b.asD.map Out.rt)=_
  rw[show zc (xL (zO (zY (za 1)) [none,some 0,some 2] (zk 0) zK wD)) zf [.v (.tup (zi rows)),.v (.lst (dN kept)),.v numbers]=some [.d (.lst (zi (kept.map λs=>(rows.getD s []).map nm)))]from by
   show((xL (zO (zY (za 1)) [none,some 0,some 2] (zk 0) zK wD) _).bind λb=>(some []).map λr=>b::r)=_
   rw[wS,q];rfl]
  rfl
 unfold vy mir
 rw[if_pos (show [D.tup (zi rows),.lst (dN kept),numbers].length=3 from rfl),show zT 3 [D.tup (zi rows),.lst (dN kept),numbers]=[.v (.tup (zi rows)),.v (.lst (dN kept)),.v numbers]from rfl,e]
abbrev kN(l:List Nat):List Key:=l.map λ(s:Nat)=>(Sum.inl (s:Int):Key)
theorem Ze:∀(o:List Nat) (j g:Nat),g∈o->zM ((kN o).zip ((cL j o.length).map λ(k:Nat)=>D.int (k:Int))) (Sum.inl (g:Int))=some (.int ((j+o.idxOf g:Nat):Int))
 | [],j,g,h=>by cases h
 | a::r,j,g,h=>by
  have q:=Ze r (j+1) g
  unfold zM at q ⊢
  rw[show(kN (a::r)).zip ((cL j (a::r).length).map λ(k:Nat)=>D.int (k:Int))=((Sum.inl (a:Int):Key),D.int (j:Int))::(kN r).zip ((cL (j+1) r.length).map λ(k:Nat)=>D.int (k:Int))from by simp[iN],cT]
  by_cases e:a=g
  ·subst e;simp
  ·have h1:¬((Sum.inl (a:Int):Key)=Sum.inl (g:Int)):=λz=>e (by injection z with z;omega)
   simp only[h1,decide_false]
   have J:g∈r:=by
    rcases aW.mp h with z|z
    ·exact absurd z.symm e
    ·exact z
   rw[q J,List.idxOf_cons]
   have h2:(a==g)=false:=by simpa using e
   rw[h2]
   simp only[cond_false]
   congr 3
   omega
theorem zbj{o:List Nat}{g:Nat}(h:g∈o):Wi (.d (.dK (kN o) ((aG o.length).map λ(k:Nat)=>D.int (k:Int)))) (.d (.int (g:Int)))=some (.int ((o.idxOf g:Nat):Int)):=by
 have e:=Ze o 0 g h
 rw[gP,<-kW]at e
 show m9 none ((some (zM _ _)).bind id)=_
 rw[e];rfl
abbrev prs(j:Nat)(o:List Nat):List (Key×D):=(kN o).zip ((cL j o.length).map λ(k:Nat)=>D.int (k:Int))
theorem ZK:∀(kvs acc:List (Key×D)),(kvs.map bA).Nodup->(∀k∈kvs.map bA,k∉acc.map bA)->wP acc kvs=acc++kvs
 | [],acc,_,_=>by simp[wP]
 | (k,v)::r,acc,q,h=>by
  rw[aR,cF]at q
  have R:=h k (by simp)
  have e:yO acc k v=acc++[(k,v)]:=by
   unfold yO
   rw[if_neg]
   rw[iM]
   rintro⟨x,U,ex⟩
   exact R (bK.mpr ⟨x,U,by simpa using ex⟩)
  show wP (yO acc k v) r=_
  rw[e,ZK r _ q.2 λJ j O=>?_]
  ·simp
  ·rw[eI,cA]at O
   rcases O with z|z
   ·exact h J (bC _ j) z
   ·have:J=k:=by simpa using z
    subst this
    exact q.1 j
theorem UT(h:o.Nodup):(kN o).Nodup:=by
 rw[List.nodup_iff_pairwise_ne]at h ⊢
 rw[List.pairwise_map]
 exact h.imp λj z=>j (by injection z with z;omega)
theorem Yt(o:List Nat)(j:Nat):(prs j o).map bA=kN o:=List.map_fst_zip (by simp)
theorem QX(o:List Nat)(j:Nat):(prs j o).map dG=(cL j o.length).map λ(k:Nat)=>D.int (k:Int):=List.map_snd_zip (by simp)
theorem zbk(h:o.Nodup):wP [] (prs 0 o)=prs 0 o:=by
 rw[ZK _ _ (by rw[Yt];exact UT h) (by simp)];rfl
theorem XI:∀(o:List Nat) (j:Nat),wO ((o.zip (cL j o.length)).map λ(p:Nat×Nat)=>D.tup [.int (p.1:Int),.int (p.2:Int)])=some (prs j o)
 | [],j=>rfl
 | a::r,j=>by
  have q:=XI r (j+1)
  rw[show((a::r).zip (cL j (a::r).length)).map (λ(p:Nat×Nat)=>D.tup [.int (p.1:Int),.int (p.2:Int)])=D.tup [.int (a:Int),.int (j:Int)]::(r.zip (cL (j+1) r.length)).map (λ(p:Nat×Nat)=>D.tup [.int (p.1:Int),.int (p.2:Int)])from by simp[iN]]
  show((Zy (.int (a:Int))).bind λk=>(wO _).map λt=>(k,D.int (j:Int))::t)=_
  rw[q]
  show some _=some _
  simp[prs,iN]
theorem UU:∀(o:List Nat) (j g:Nat),g∉o->zM (prs j o) (Sum.inl (g:Int))=none
 | [],j,g,h=>rfl
 | a::r,j,g,h=>by
  rw[aW,not_or]at h
  have q:=UU r (j+1) g h.2
  unfold zM at q ⊢
  rw[show prs j (a::r)=((Sum.inl (a:Int):Key),D.int (j:Int))::prs (j+1) r from by simp[prs,iN],cT]
  have h1:¬((Sum.inl (a:Int):Key)=Sum.inl (g:Int)):=λz=>h.1 (by injection z with z;omega)
  simp only[h1,decide_false]
  exact q
theorem zeK{o:List Nat}{g:Nat}(h:g∉o):yO (prs 0 o) (Sum.inl (g:Int)) (.int (o.length:Int))=prs 0 (o++[g]):=by
 unfold yO
 rw[if_neg]
 ·simp[prs,List.range'_concat,List.zip_append]
 ·rw[iM]
  rintro⟨x,z,ex⟩
  have J:x.1∈kN o:=by rw[<-Yt o 0];exact bK.mpr ⟨x,z,rfl⟩
  obtain⟨t,O,q⟩:=bK.mp J
  have R:x.1=Sum.inl (g:Int):=by simpa using ex
  rw[R]at q
  have j:(Sum.inl (t:Int):Key)=Sum.inl (g:Int):=q
  injection j with j
  have:t=g:=by omega
  exact h (this▸O)
theorem zcV{a0 a1 a2 a3 a4 a5 a6 a7 a12:S}{ps kept:List Nat}{s p:Nat}(z:ps.length=kept.length)(q:kept.length<16777216):
  uF [a0,a1,a2,a3,a4,a5,a6,a7,.ok (prs 0 ps),.ol (dN kept),.v (.int (s:Int)),.v (.int (p:Int)),a12]=
   some (.nx [a0,a1,a2,a3,a4,a5,a6,a7,.ok (prs 0 (if p∈ps then ps else ps++[p])),.ol (dN (if p∈ps then kept else kept++[s])),.v (.int (s:Int)),.v (.int (p:Int)),a12]):=by
 have h1:vu true (.d (.int (p:Int))) (.k (prs 0 ps))=some (.bl (!decide (p∈ps))):=by
  show some (D.bl (if true=true then !(zM (prs 0 ps) (Sum.inl (p:Int))).isSome else _))=_
  rw[if_pos rfl]
  by_cases h:p∈ps
  ·rw[Ze ps 0 p h];simp[h]
  ·rw[UU ps 0 p h];simp[h]
 unfold uF
 by_cases h:p∈ps
 ·simp[h1,h]
 ·have j:(prs 0 ps).length=ps.length:=by simp[prs]
  have J:um (.ok (prs 0 ps)) (.int (p:Int)) (.int (kept.length:Int))=some (.ok (prs 0 (ps++[p]))):=by
   show(if(prs 0 ps).length<aH then some (S.ok (yO (prs 0 ps) (Sum.inl (p:Int)) (.int (kept.length:Int))))else none)=_
   rw[if_pos (by rw[j,eX];omega),<-z,zeK h]
  simp[h1,h,J,q]
  show YV 9 (some (dN kept)) (some (.d (.int (s:Int)))) _=_
  unfold YV
  simp[q]
theorem ZL(part:Nat->Nat):∀i,(Hop.yn part i).length<=i
 | 0=>aP _
 | i+1=>by
  have:=ZL part i
  unfold Hop.yn
  split
  ·omega
  ·rw[bQ,dP];omega
theorem ZM{parts:List Nat}{k:Nat}(h:k<(zP (dN parts)).length):(zP (dN parts))[k]=.tup [.int (k:Int),.int ((parts.getD k 0:Nat):Int)]:=by
 have j:k<parts.length:=by simpa[zP]using h
 simp[zP,j]
theorem zbl{a0 a1 a2 a3 a4 a5 a6 a7 a10 a11 a12:S}(parts:List Nat)(hz:parts.length<16777216):
  ∃y10 y11,xr (yG 2 (zD (zk 10) (zD (zk 11) yJ))) uF (zP (dN parts)) [a0,a1,a2,a3,a4,a5,a6,a7,.ok [],.ol [],a10,a11,a12]=
   some (.nx [a0,a1,a2,a3,a4,a5,a6,a7,.ok (prs 0 ((Hop.yn (λs=>parts.getD s 0) parts.length).map λs=>parts.getD s 0)),.ol (dN (Hop.yn (λs=>parts.getD s 0) parts.length)),y10,y11,a12]):=by
 obtain⟨g,h1,y10,y11,hg⟩:=xl (t:=yG 2 (zD (zk 10) (zD (zk 11) yJ))) (fb:=uF) (zP (dN parts))
  (λk Γ=>∃y10 y11,Γ=[a0,a1,a2,a3,a4,a5,a6,a7,.ok (prs 0 ((Hop.yn (λs=>parts.getD s 0) k).map λs=>parts.getD s 0)),.ol (dN (Hop.yn (λs=>parts.getD s 0) k)),y10,y11,a12])
  [a0,a1,a2,a3,a4,a5,a6,a7,.ok [],.ol [],a10,a11,a12] ⟨a10,a11,rfl⟩ λk Γ h hh63'=>by
   obtain⟨x10,x11,e⟩:=hh63'
   subst e
   have hk:k<parts.length:=by simpa[zP]using h
   have hl:=ZL (λs=>parts.getD s 0) k
   refine⟨[a0,a1,a2,a3,a4,a5,a6,a7,.ok (prs 0 ((Hop.yn (λs=>parts.getD s 0) k).map λs=>parts.getD s 0)),.ol (dN (Hop.yn (λs=>parts.getD s 0) k)),.v (.int (k:Int)),.v (.int ((parts.getD k 0:Nat):Int)),a12],_,by rw[ZM h];rfl,zcV (by simp) (by omega),.v (.int (k:Int)),.v (.int ((parts.getD k 0:Nat):Int)),?_⟩
   have e1:Hop.yn (λs=>parts.getD s 0) (k+1)=if parts.getD k 0∈(Hop.yn (λs=>parts.getD s 0) k).map (λs=>parts.getD s 0)then Hop.yn (λs=>parts.getD s 0) k else Hop.yn (λs=>parts.getD s 0) k++[k]:=rfl
   rw[e1]
   split
   ·rfl
   ·rw[eI];rfl
 have hlen:(zP (dN parts)).length=parts.length:=by simp[zP]
 rw[hlen]at hg
 exact⟨y10,y11,by rw[h1,hg]⟩
theorem Vo:∀l:List Nat,Pt.vY (dN l)=some l
 | []=>rfl
 | a::r=>by
  show(if(0:Int)<=(a:Int)then(Pt.vY (dN r)).map λl=>(a:Int).toNat::l else none)=_
  rw[if_pos (by omega),Vo r];simp
theorem ZN:∀rows:List (List Nat),Pt.uz (zi rows)=some rows
 | []=>rfl
 | a::r=>by
  show((Pt.vY (dN a)).bind λl=>(Pt.uz (zi r)).map λm=>l::m)=_
  rw[Vo a,ZN r];rfl
theorem XJ:∀l:List Bool,Pt.vI (l.map D.bl)=some l
 | []=>rfl
 | a::r=>by
  show((Pt.vI (r.map D.bl)).map λl=>a::l)=_
  rw[XJ r];rfl
theorem zaa{rows:List (List Nat)}{A:Nat}(hlt:∀a s,a<A->s<rows.length->(rows.getD s []).getD a 0<rows.length)(hA:∀s,s<rows.length->(rows.getD s []).length=A):Pt.vJ rows A=true:=by
 unfold Pt.vJ
 rw[eC]
 intro r hr
 obtain⟨s,hs,e⟩:=dH.mp hr
 have es:rows.getD s []=r:=by rw[bI,bH hs];exact e
 have hl:=hA s hs
 rw[es]at hl
 rw[fE,decide_eq_true_eq,eC]
 refine⟨by omega,λg hg=>decide_eq_true ?_⟩
 obtain⟨a,ha,ea⟩:=dH.mp hg
 rw[fC]at ha
 rw[m8]at ea
 have:=hlt a s (by omega) hs
 rw[es,bI,bH (show a<r.length by omega),eS,ea]at this
 exact this
theorem zeL{rows:List (List Nat)}{A:Nat}{marks:List Bool}(hlt:∀a s,a<A->s<rows.length->(rows.getD s []).getD a 0<rows.length)(hA:∀s,s<rows.length->(rows.getD s []).length=A)(hm:marks.length=rows.length)(hz:rows.length+A<100000):
  Pt.uA [.int (A:Int),.tup (zi rows),.lst (marks.map D.bl)]=some (.lst (dN (Hop.yt (Pt.bks rows A) marks))):=by
 unfold Pt.uA
 simp only
 rw[ZN,XJ]
 simp only[bF]
 have hs:aH=16777216:=eX
 rw[if_pos ⟨by omega,by rw[gL];exact zaa hlt hA,hm,by omega,by rw[gL];omega⟩,gL]
end Py
namespace Pu
section
variable {α ρ ρ':Type} {f:α->Sum ρ α} {g:α->Sum ρ' α} {φ:ρ->ρ'} {S:α->Prop}
end
def xh:List Nat->List Nat->Bool
 | [],[]=>false
 | [],_::_=>true
 | _::_,[]=>false
 | x::xs,y::ys=>if x=y then xh xs ys else decide (x<y)
theorem YE:∀xs ys,xh xs ys=true->xh ys xs=false
 | [],[],h=>by cases h
 | [],_::_,_=>rfl
 | _::_,[],h=>by cases h
 | x::xs,y::ys,h=>by
  unfold xh at h ⊢
  by_cases e:x=y
  ·rw[if_pos e]at h;rw[if_pos e.symm];exact YE xs ys h
  ·rw[if_neg e]at h;rw[if_neg (aT e)];simp at h ⊢;omega
theorem YF:∀xs ys zs,xh xs ys=true->xh ys zs=true->xh xs zs=true
 | [],[],_,h,_=>by cases h
 | [],_::_,[],_,h=>by cases h
 | [],_::_,_::_,_,_=>rfl
 | _::_,[],_,h,_=>by cases h
 | _::_,_::_,[],_,h=>by cases h
 | x::xs,y::ys,z::zs,h,h'=>by
  unfold xh at h h' ⊢
  by_cases e:x=y
  ·rw[if_pos e]at h
   by_cases j:y=z
   ·rw[if_pos j]at h';rw[if_pos (e.trans j)];exact YF xs ys zs h h'
   ·rw[if_neg j]at h';rw[if_neg (by omega)];simp at h' ⊢;omega
  ·rw[if_neg e]at h
   by_cases j:y=z
   ·rw[if_pos j]at h';rw[if_neg (by omega)];simp at h ⊢;omega
   ·rw[if_neg j]at h';simp at h h';rw[if_neg (by omega)];simp;omega
theorem XL:∀xs ys,xs.length=ys.length->xh xs ys=true->xh (xs++[a]) (ys++[b])=true
 | [],[],_,h=>by cases h
 | [],_::_,h,_=>by simp at h
 | _::_,[],h,_=>by simp at h
 | x::xs,y::ys,j,h=>by
  unfold xh at h
  show xh (x::(xs++[a])) (y::(ys++[b]))=true
  unfold xh
  by_cases e:x=y
  ·rw[if_pos e]at h ⊢;exact XL xs ys (by simpa using j) h
  ·rw[if_neg e]at h ⊢;exact h
theorem XM(h:a<b):∀xs,xh (xs++[a]) (xs++[b])=true
 | []=>by show xh [a] [b]=true;unfold xh;rw[if_neg (by omega)];simpa using h
 | x::xs=>by show xh (x::(xs++[a])) (x::(xs++[b]))=true;unfold xh;rw[if_pos rfl];exact XM h xs
def slt(u v:List Nat):Prop:=u.length<v.length\/(u.length=v.length/\xh u v=true)
def sle(u v:List Nat):Prop:=u=v\/slt u v
theorem zbm(h:slt u v)(h':slt v w):slt u w:=by
 rcases h with h|⟨h1,h2⟩ <;>rcases h' with h'|⟨j,q⟩
 ·exact .inl (by omega)
 ·exact .inl (by omega)
 ·exact .inl (by omega)
 ·exact .inr ⟨h1.trans j,YF u v w h2 q⟩
theorem ZO(h:sle u v)(h':sle v w):sle u w:=by
 rcases h with rfl|h
 ·exact h'
 ·rcases h' with rfl|h'
  ·exact .inr h
  ·exact .inr (zbm h h')
theorem vc(h:slt u v):slt (u++[a]) (v++[b]):=by
 rcases h with h|⟨h1,h2⟩
 ·exact .inl (by simp;omega)
 ·exact .inr ⟨by simp[h1],XL u v h1 h2⟩
theorem v0(h:a<b):slt (u++[a]) (u++[b]):=.inr ⟨by simp,XM h u⟩
theorem zcW(h:sle u v):sle (u++[a]) (v++[a]):=by
 rcases h with rfl|h
 ·exact .inl rfl
 ·exact .inr (vc h)
theorem uL:slt [] (u++[a]):=.inl (by simp)
section
variable {δ:Type} [DecidableEq δ] (done:List Nat->δ) (L:Nat)
def Zf(i b k a:Nat):Prop:=i<k\/(i=k/\b<a)
structure Bfs (ws:List (List Nat)) (k a:Nat):Prop where
 one:ws[0]?=some []
 nd:(ws.map done).Nodup
 sorted:∀(i j:Nat) (u v:List Nat),i<j->ws[i]?=some u->ws[j]?=some v->slt u v
 from_:∀(j:Nat) (x:List Nat),ws[j]?=some x->x=[]\/∃i b u,Zf i b k a/\ws[i]?=some u/\x=u++[b]
 good:∀x∈ws,∀y∈x,y<L
 closed:∀(i b:Nat) (u:List Nat),Zf i b k a->b<L->ws[i]?=some u->∃x∈ws,done x=done (u++[b])/\sle x (u++[b])
variable {done L}
theorem Bfs.start:Bfs done L [[]] 0 0 where
 one:=rfl
 nd:=by simp
 sorted:=λi j u v h h1 h2=>by
  have:=(aY.mp h2).1
  simp at this;omega
 from_:=λj x h=>by
  have:=bX h
  simp at this;exact .inl this
 good:=λx hx y hy=>by simp at hx;rw[hx]at hy;exact nomatch hy
 closed:=λi b u h=>by rcases h with h|h <;>omega
theorem XN(h:Zf i b k (a+1)):Zf i b k a\/(i=k/\b=a):=by
 rcases h with h|⟨h1,h2⟩
 ·exact .inl (.inl h)
 ·by_cases e:b=a
  ·exact .inr ⟨h1,e⟩
  ·exact .inl (.inr ⟨h1,by omega⟩)
theorem XO(h:Zf i b k a):Zf i b k (a+1):=by
 rcases h with h|⟨h1,h2⟩
 ·exact .inl h
 ·exact .inr ⟨h1,by omega⟩
theorem Bfs.known{ws:List (List Nat)}{k a:Nat}{w:List Nat}(B:Bfs done L ws k a)(hw:ws[k]?=some w)(h:done (w++[a])∈ws.map done):Bfs done L ws k (a+1) where
 one:=B.one
 nd:=B.nd
 sorted:=B.sorted
 from_:=λj x hx=>by
  rcases B.from_ j x hx with h|⟨i,b,u,h1,h2⟩
  ·exact .inl h
  ·exact .inr ⟨i,b,u,XO h1,h2⟩
 good:=B.good
 closed:=λi b u hb hL hu=>by
  rcases XN hb with hb|⟨rfl,rfl⟩
  ·exact B.closed i b u hb hL hu
  ·rw[hw]at hu;cases hu
   obtain⟨x,hx,e⟩:=bK.mp h
   refine⟨x,hx,e,?_⟩
   obtain⟨j,hj⟩:=iO.mp hx
   rcases B.from_ j x hj with rfl|⟨i',b',u',h1,h2,rfl⟩
   ·exact .inr uL
   ·rcases h1 with h1|⟨rfl,h1⟩
    ·exact .inr (vc (B.sorted i' i u' w h1 h2 hw))
    ·rw[hw]at h2;cases h2
     exact .inr (v0 h1)
theorem Bfs.fresh(B:Bfs done L ws k a)(ha:a<L)(O:ws[k]?=some w)(h:done (w++[a])∉ws.map done):Bfs done L (ws++[w++[a]]) k (a+1):=by
 have R:∀(j:Nat) (x:List Nat),ws[j]?=some x->(ws++[w++[a]])[j]?=some x:=λj x q=>by
  rw[eA (aY.mp q).1];exact q
 have all:∀(j:Nat) (x:List Nat),(ws++[w++[a]])[j]?=some x->ws[j]?=some x\/(j=ws.length/\x=w++[a]):=λj x q=>by
  by_cases hj:j<ws.length
  ·rw[eA hj]at q;exact .inl q
  ·rw[fD (by omega)]at q
   have:=(aY.mp q).1
   simp at this
   have e:j=ws.length:=by omega
   subst e
   simp at q
   exact .inr ⟨rfl,q.symm⟩
 have Z:∀(j:Nat) (x:List Nat),ws[j]?=some x->slt x (w++[a]):=λj x q=>by
  rcases B.from_ j x q with rfl|⟨i',b',u',h1,h2,rfl⟩
  ·exact uL
  ·rcases h1 with h1|⟨rfl,h1⟩
   ·exact vc (B.sorted i' k u' w h1 h2 O)
   ·rw[O]at h2;cases h2
    exact v0 h1
 refine⟨R 0 _ B.one,?_,λi j u v aa h1 h2=>?_,λj x q=>?_,λx q y J=>?_,λi b u Y hL U=>?_⟩
 ·rw[eI,cZ]
  refine⟨B.nd,by simp,λx q y J=>?_⟩
  simp at J
  subst J
  exact λz=>h (z▸q)
 ·rcases all j v h2 with h2|⟨rfl,rfl⟩
  ·have ab:=(aY.mp h2).1
   rcases all i u h1 with h1|⟨rfl,_⟩
   ·exact B.sorted i j u v aa h1 h2
   ·omega
  ·rcases all i u h1 with h1|⟨rfl,_⟩
   ·exact Z i u h1
   ·omega
 ·rcases all j x q with q|⟨rfl,rfl⟩
  ·rcases B.from_ j x q with h|⟨i,b,u,h1,h2,h3⟩
   ·exact .inl h
   ·exact .inr ⟨i,b,u,XO h1,R i u h2,h3⟩
  ·exact .inr ⟨k,a,w,.inr ⟨rfl,by omega⟩,R k w O,rfl⟩
 ·rcases cA.mp q with q|q
  ·exact B.good x q y J
  ·simp at q;subst q
   rcases cA.mp J with J|J
   ·exact B.good w (bX O) y J
   ·simp at J;omega
 ·rcases XN Y with Y|⟨rfl,rfl⟩
  ·rcases all i u U with U|⟨rfl,rfl⟩
   ·obtain⟨x,q,e,l⟩:=B.closed i b u Y hL U
    exact⟨x,dJ _ q,e,l⟩
   ·have:=(aY.mp O).1
    rcases Y with Y|⟨Y,_⟩ <;>omega
  ·rcases all i u U with U|⟨rfl,_⟩
   ·rw[O]at U;cases U
    exact⟨w++[b],by simp,rfl,.inl rfl⟩
   ·have:=(aY.mp O).1
    omega
theorem Bfs.next{ws:List (List Nat)}{k:Nat}(B:Bfs done L ws k L):Bfs done L ws (k+1) 0 where
 one:=B.one
 nd:=B.nd
 sorted:=B.sorted
 from_:=λj x hx=>by
  rcases B.from_ j x hx with h|⟨i,b,u,h1,h2⟩
  ·exact .inl h
  ·exact .inr ⟨i,b,u,by rcases h1 with h1|⟨h1,_⟩ <;>exact .inl (by omega),h2⟩
 good:=B.good
 closed:=λi b u hb hL hu=>B.closed i b u (by
  rcases hb with hb|⟨_,hb⟩
  ·by_cases e:i=k
   ·exact .inr ⟨e,hL⟩
   ·exact .inl (by omega)
  ·omega) hL hu
theorem Bfs.first(B:Bfs done L ws ws.length 0)(j:∀u v a,a<L->(∀x∈u,x<L)->(∀x∈v,x<L)->done u=done v->done (u++[a])=done (v++[a])):∀(n:Nat) (u:List Nat),u.length=n->(∀x∈u,x<L)->∃x∈ws,done x=done u/\sle x u
 | 0,u,hn,_=>by
  have:u=[]:=gN.mp hn
  subst this
  exact⟨[],bX B.one,rfl,.inl rfl⟩
 | n+1,u,hn,O=>by
  have q:u≠[]:=λz=>by rw[z]at hn;cases hn
  obtain⟨v,a,rfl⟩:∃v a,u=v++[a]:=⟨u.dropLast,u.getLast q,(kJ q).symm⟩
  have R:∀x∈v,x<L:=λx J=>O x (dJ _ J)
  have U:a<L:=O a (by simp)
  obtain⟨x,J,e,l⟩:=Bfs.first B j n v (by simp at hn;exact hn) R
  obtain⟨i,hi⟩:=iO.mp J
  obtain⟨y,Y,Z,l2⟩:=B.closed i a x (.inl (aY.mp hi).1) U hi
  exact⟨y,Y,Z.trans (j x v a U (B.good x J) R e),ZO l2 (zcW l)⟩
end
end Pu
namespace Hop
abbrev dl(rows:List (List Nat)):Nat->Nat->Nat:=λa s=>(rows.getD s []).getD a 0
structure OkR (A:Nat) (rows:List (List Nat)):Prop where
 pos:0<rows.length
 len:∀s,s<rows.length->(rows.getD s []).length=A
 lt:∀a s,a<A->s<rows.length->dl rows a s<rows.length
structure Lst (A:Nat) (rows:List (List Nat)) (g:Nat->Bool) (rows':List (List Nat)) (g':Nat->Bool):Prop where
 ok:OkR A rows'
 le:rows'.length<=rows.length
 can:Canon A rows'.length (dl rows') g'
 al:yd A (dl rows') (dl rows) g' g 0 0
theorem XQ(j:∀a s,a<A->s<n->δ a s<n)(z:∀a s,a<A->s<n->δ a s=δ' a s):∀(w:List Nat) (s:Nat),(∀a∈w,a<A)->s<n->walk δ s w=walk δ' s w
 | [],s,_,q=>rfl
 | a::w,s,J,q=>by
  have O:=J a bE
  show walk δ (δ a s) w=walk δ' (δ' a s) w
  rw[<-z a s O q]
  exact XQ j z w (δ a s) (λb R=>J b (bC _ R)) (j a s O q)
theorem yd.congr(j:∀a s,a<A->s<n->δ a s<n)(J:∀a s,a<A->s<n->δ a s=δ' a s)(O:∀s,s<n->g s=g' s)(z:s<n)(h:yd A δ δ2 g g2 s t):yd A δ' δ2 g' g2 s t:=λw q=>by
 rw[<-XQ j J w s q z,<-O _ (xm j w s q z)]
 exact h w q
theorem Canon.congr(c:Canon A m δ g)(U:∀a s,a<A->s<m->δ a s=δ' a s)(hg:∀s,s<m->g s=g' s):Canon A m δ' g':=by
 have q:∀a s,a<A->s<m->δ' a s<m:=λa s Y z=>by rw[<-U a s Y z];exact c.lt a s Y z
 refine⟨c.pos,q,λs t z Z h=>?_,λk h0 hk=>?_⟩
 ·have J:∀a s,a<A->s<m->δ' a s=δ a s:=λa s Y z=>(U a s Y z).symm
  have O:∀s,s<m->g' s=g s:=λs z=>(hg s z).symm
  have h1:=yd.congr q J O z h
  have h2:=yd.congr q J O Z h1.symm
  exact c.ap s t z Z h2.symm
 ·obtain⟨j,a,q1,q2,q3,q4⟩:=c.met k h0 hk
  refine⟨j,a,q1,q2,by rw[<-U a j q2 (by omega)];exact q3,λj' a' R hl=>?_⟩
  rw[<-U a' j' R (by omega)]
  exact q4 j' a' R hl
theorem xN{α:Type}{l:List Nat}{f:Nat->α}{d:α}{i:Nat}(h:i<l.length):(l.map f).getD i d=f (l.getD i 0):=by
 simp only[bI,bG,bH h,cP,eS]
theorem wb{l:List Nat}{i:Nat}(h:i<l.length):l.getD i 0=l[i]:=by
 rw[bI,bH h];rfl
section
variable {A:Nat} {rows near rows':List (List Nat)} {good g':Nat->Bool} {o kept:List Nat} {bs:List (List (List Nat))} {part:Nat->Nat}
theorem uo(ok:OkR A rows)(ho:o=bfs rows rows.length 0 [0]):BI rows.length A (dl rows) o.length 0 o:=by
 have:=WN ok.lt ok.len rows.length 0 [0] (Y1 ok.pos) (by omega)
 rw[<-ho]at this;exact this
theorem Y2(b:BI rows.length A (dl rows) o.length 0 o):o.length<=rows.length:=by
 have:=yq (m:=aG rows.length) b.nd λs j=>bZ.mpr (b.lt s j)
 rwa [cY]at this
theorem UV(j:near=o.map λs=>(rows.getD s []).map λg=>o.idxOf g)(q:k<o.length):near.getD k []=(rows.getD (o.getD k 0) []).map λg=>o.idxOf g:=by
 rw[j];exact xN q
theorem Yu(ok:OkR A rows)(b:BI rows.length A (dl rows) o.length 0 o)(j:near=o.map λs=>(rows.getD s []).map λg=>o.idxOf g)(z:a<A)(q:k<o.length):dl near a k=o.idxOf (dl rows a (o.getD k 0)):=by
 show(near.getD k []).getD a 0=_
 rw[UV j q]
 exact xN (by rw[ok.len _ (b.lt _ (xZ q))];exact z)
theorem QY(ok:OkR A rows)(b:BI rows.length A (dl rows) o.length 0 o)(j:near=o.map λs=>(rows.getD s []).map λg=>o.idxOf g):OkR A near/\near.length=o.length:=by
 have z:near.length=o.length:=by rw[j,aM]
 refine⟨⟨by rw[z];exact b.pos,λs q=>?_,λa s J q=>?_⟩,z⟩
 ·rw[z]at q
  rw[UV j q,aM]
  exact ok.len _ (b.lt _ (xZ q))
 ·rw[z]at q ⊢
  rw[Yu ok b j J q]
  exact Ys b a s J q
theorem zab(ok:OkR A rows)(ho:o=bfs rows rows.length 0 [0])(j:near=o.map λs=>(rows.getD s []).map λg=>o.idxOf g)(Y:bs.length=A)(ac:∀i,i<A->Back near.length (λs=>(near.getD s []).getD i 0) (bs.getD i [])) 
  (O:part=λs=>(yt bs (o.map good)).getD s 0) (hk:kept=yn part o.length) (hr:rows'=kept.map λs=>(near.getD s []).map (wz part kept)) (hg:g'=λi=>good (o.getD (kept.getD i 0) 0)) :
  Lst A rows good rows' g'/\(yt bs (o.map good)).length=o.length/\(∀s∈kept,s<o.length)/\(∀s,s<o.length->part s∈kept.map part):=by
 have b:=uo ok ho
 obtain⟨Z,nl⟩:=QY ok b j
 have J:∀i,i<A->Back o.length (λk=>o.idxOf ((rows.getD (o.getD k 0) []).getD i 0)) (bs.getD i []):=λi hi=>by
  have q:=ac i hi
  rw[nl]at q
  refine⟨q.nd,λt s=>?_⟩
  rw[q.mem t s]
  constructor
  ·rintro⟨x,y⟩;exact⟨x,by rw[<-y];exact(Yu ok b j hi x).symm⟩
  ·rintro⟨x,y⟩;exact⟨x,by rw[<-y];exact Yu ok b j hi x⟩
 obtain⟨c,al⟩:=J5 ok.pos ok.lt ok.len ho Y J O hk
 have K:=QV part o.length
 rw[<-hk]at K
 have ki:=Y0 part o.length
 rw[<-hk]at ki
 have hl:rows'.length=kept.length:=by rw[hr,aM]
 have he:∀a s,a<A->s<kept.length->wz part kept (o.idxOf ((rows.getD (o.getD (kept.getD s 0) 0) []).getD a 0))=dl rows' a s:=λa s U z=>by
  have h1:rows'.getD s []=(near.getD (kept.getD s 0) []).map (wz part kept):=by rw[hr];exact xN z
  show _=(rows'.getD s []).getD a 0
  have aa:kept.getD s 0<o.length:=K.lt s z
  rw[h1,xN (by rw[Z.len _ (by rw[nl];exact aa)];exact U)]
  exact congrArg _ (Yu ok b j U aa).symm
 have ab:∀s,s<kept.length->(λi=>good (o.getD (kept.getD i 0) 0)) s=g' s:=λs _=>by rw[hg]
 have c':=c.congr he ab
 have ae:=yd.congr c.lt he ab c.pos al
 refine⟨⟨⟨by rw[hl];exact c.pos,λs z=>?_,λa s U z=>?_⟩,?_,by rw[hl];exact c',ae⟩,?_,ki.lt,λs z=>?_⟩
 ·rw[hl]at z
  have h1:rows'.getD s []=(near.getD (kept.getD s 0) []).map (wz part kept):=by rw[hr];exact xN z
  rw[h1,aM]
  exact Z.len _ (by rw[nl];exact K.lt s z)
 ·rw[hl]at z ⊢
  exact c'.lt a s U z
 ·have h2:kept.length<=o.length:=by
   have:=yq (l:=kept) (m:=aG o.length) (ki.up.imp λh=>by omega) λs z=>bZ.mpr (ki.lt s z)
   rwa [cY]at this
  have:=Y2 b
  omega
 ·have R:(o.map good).length=o.length:=aM _
  exact(ZE (A:=A) (δ:=λa k=>o.idxOf ((rows.getD (o.getD k 0) []).getD a 0)) (good:=o.map good) (λa s U z=>by rw[R]at z ⊢;exact Ys b a s U z) Y (λi hi=>by rw[R];exact J i hi)).1.trans R
 ·obtain⟨t,ht,e,_⟩:=ki.has s z
  exact e▸bK.mpr ⟨t,ht,rfl⟩
end
end Hop
namespace Py
open PySem L2 DD Pu
theorem zeM{δ:Type} [DecidableEq δ] {done:List Nat->δ} {L:Nat} {ws:List (List Nat)} {k a:Nat} (B:Bfs done L ws k a):∀(n j:Nat) (x:List Nat),j<=n->ws[j]?=some x->x.length<=j:=λn=>by
 induction n with
 | zero=>
  intro j x hj hx
  have:j=0:=by omega
  subst this
  rw[B.one]at hx;cases hx;exact aP _
 | succ n ih=>
  intro j x hj hx
  rcases B.from_ j x hx with rfl|⟨i,b,u,_,h2,rfl⟩
  ·exact cR _
  ·have hij:i<j:=by
    apply Classical.byContradiction
    intro z
    by_cases e:i=j
    ·subst e
     rw[h2]at hx
     injection hx with hx
     have:=congrArg jZ hx
     simp at this
    ·have:=B.sorted j i _ u (by omega) hx h2
     rcases this with t|⟨t,_⟩ <;>simp at t <;>omega
   have:=ih i u (by omega) h2
   simp;omega
def kvG{α:Type}(key:α->List Key)(val:Nat->α->D):Nat->List α->List (List Key×D)
 | _,[]=>[]
 | k,x::r=>(key x,val k x)::kvG key val (k+1) r
section
variable {α:Type} {key:α->List Key} {val:Nat->α->D}
theorem QZ:∀{k:Nat} {xs:List α},(kvG key val k xs).length=xs.length
 | _,[]=>rfl
 | k,c::r=>by simp[kvG,QZ]
theorem UW:∀{k:Nat} {xs:List α} {c:α},kvG key val k (xs++[c])=kvG key val k xs++[(key c,val (k+xs.length) c)]
 | _,[],_=>by simp[kvG]
 | k,x::r,c=>by
  simp only[mL,kvG]
  rw[UW,cC,show k+1+r.length=k+(r.length+1) by omega]
theorem Y3:∀{k:Nat} {xs:List α} {q:List Key},q∉xs.map key->zM (kvG key val k xs) q=none
 | _,[],_,_=>rfl
 | k,x::r,q,h=>by
  have j:¬key x=q:=λz=>h (by simp[z])
  have J:zM (kvG key val k (x::r)) q=zM (kvG key val (k+1) r) q:=by simp[kvG,zM,cT,j]
  rw[J]
  exact Y3 λz=>h (by rw[aR];exact bC _ z)
theorem UX:∀{k:Nat} {xs:List α} {q:List Key},q∈xs.map key->∃j y,y∈xs/\key y=q/\zM (kvG key val k xs) q=some (val j y)
 | _,[],_,h=>nomatch h
 | k,x::r,q,h=>by
  by_cases e:key x=q
  ·exact⟨k,x,bE,e,by simp[kvG,zM,cT,e]⟩
  ·have z:q∈r.map key:=by
    rw[aR]at h
    rcases aW.mp h with h|h
    ·exact absurd h.symm e
    ·exact h
   obtain⟨j,y,J,O,R⟩:=UX (k:=k+1) z
   refine⟨j,y,bC _ J,O,?_⟩
   rw[<-R]
   simp[kvG,zM,cT,e]
theorem zeN(J:key c∉xs.map key):yO (kvG key val 0 xs) (key c) (val xs.length c)=kvG key val 0 (xs++[c]):=by
 have:((kvG key val 0 xs).any λj=>decide (j.1=key c))=false:=by
  cases q:(kvG key val 0 xs).any λj=>decide (j.1=key c)with
  | false=>rfl
  | true=>
   have z:=Y3 (val:=val) (k:=0) J
   obtain⟨p,O,e⟩:=iM.mp q
   unfold zM at z
   rw[kX,iP]at z
   exact absurd e (z p O)
 unfold yO
 rw[this,if_neg (by simp),UW,gP]
end
theorem Vp(q:Nat->D){t:D->G->Option G}{cond:G->Option Bool}{el:G->Option B}{Γ:G}(p:Nat->Bool):∀(ds:List D) (j:Nat),(∀k (h:k<ds.length),∃g,t ds[k] Γ=some g/\cond g=some (p (j+k))/\(p (j+k)=true->el g=some (.d (q (j+k)))))->
  vA t cond el Γ ds=some (((cL j ds.length).filter p).map q)
 | [],j,_=>rfl
 | d::r,j,h=>by
  obtain⟨g,h1,h2,J⟩:=h 0 (by simp)
  have O:=Vp q p r (j+1) λk R=>by
   obtain⟨g,a,b,c⟩:=h (k+1) (by simpa using R)
   rw[show j+(k+1)=j+1+k by omega]at b c
   exact⟨g,a,b,c⟩
  rw[kY]at h2 J
  unfold vA
  rw[show t d Γ=some g from h1,bF,h2,bF,cC,iN]
  cases z:p j with
  | true=>
   rw[if_pos rfl,J z,bF,O,gM,if_pos z,aR];rfl
  | false=>
   rw[if_neg (by simp),O,gM,if_neg (by simp[z])]
theorem uh(j:Nat->D){t:D->G->Option G}{cond:G->Option Bool}{el:G->Option B}{Γ:G}{ms:List (Option Nat)}{ds:List D}(p:Nat->Bool)(q:ds.length<=16777216)(z:∀k (h:k<ds.length),∃g,t ds[k] (yp ms Γ)=some g/\cond g=some (p k)/\(p k=true->el g=some (.d (j k)))):
  yx (some ds) ms t cond el Γ=some (((aG ds.length).filter p).map j):=by
 unfold yx
 rw[bF,if_pos (show ds.length<=aH from q),Vp j p ds 0 (by simpa using z),kW]
def zw(n:Nat)(g:Nat->Bool):List Nat:=(aG n).filter g
theorem yD:s∈zw n g↔s<n/\g s=true:=by simp[zw]
theorem YG(h:∀s,s<n->g s=g' s):zw n g=zw n g':=List.filter_congr λs j=>h s (bZ.mp j)
theorem UY:(zw n g).Pairwise (· < ·):=kZ _ List.pairwise_lt_range
theorem vn:(zw n g).length<=n:=by
 have:=jq g (aG n)
 rwa [cY]at this
abbrev dN0(l:List Nat):List D:=l.map λ(s:Nat)=>D.int (s:Int)
theorem zf5{l:List Nat}{s:Nat}:((dN0 l).any λd=>bR (toP d) (toP (.int (s:Int))))=decide (s∈l):=by
 induction l with
 | nil=>rfl
 | cons a r j=>
  rw[show dN0 (a::r)=D.int (a:Int)::dN0 r from rfl,fF,j]
  have e:bR (toP (.int (a:Int))) (toP (.int (s:Int)))=decide (a=s):=by
   simp only[toP,bR]
   by_cases h:a=s
   ·subst h;simp
   ·have h':¬(a:Int)=(s:Int):=by omega
    simp[h,h']
  rw[e]
  by_cases h:a=s
  ·subst h;simp
  ·have h':¬s=a:=λz=>h z.symm
   simp[h,h']
theorem zdS{j:Bool}{b:B}{l:List Nat}{s:Nat}(q:b.seq=some (dN0 l)):mIn j (.d (.int (s:Int))) b=some (.bl (if j then !decide (s∈l)else decide (s∈l))):=by
 rw[zis (n:=1) OkD.int q (λd z=>by obtain⟨x,_,rfl⟩:=bK.mp z;exact OkD.int),zf5]
end Py
namespace Py
open PySem PySem.Spec L2 DD
open PyProof.Rows hiding St
def zn(A:Nat)(rows:List (List Nat))(g:Nat->Bool):D:=.tup [.int (A:Int),.tup (zi rows),.tup (dN (zw rows.length g))]
theorem zcX{Γ:G}{o:List Nat}(hl:o.length<=100000):yx (some (zP (dN o))) [none,none] (yG 2 (zD (zk 0) (zD (zk 1) yJ))) zK Yd Γ=some ((o.zip (cL 0 o.length)).map λ(p:Nat×Nat)=>D.tup [.int (p.1:Int),.int (p.2:Int)]):=by
 refine yr (λ(p:Nat×Nat)=>D.tup [.int (p.1:Int),.int (p.2:Int)]) _ (by simp[zP]) (by simp[zP];omega) λk h=>?_
 have hk:k<o.length:=by simpa[zP]using h
 refine⟨[.v (.int (k:Int)),.v (.int (o[k]:Nat))],?_,rfl,?_⟩
 ·rw[ZM h,Hop.wb hk];rfl
 ·simp[Yd,List.getElem_zip]
theorem zhc{g:Nat->Bool}{n s:Nat}(h:s<n):atI ((aG n).map λ(s:Nat)=>D.bl (g s)) (s:Int)=some (.bl (g s)):=by
 rw[wo];simp[h]
theorem zcY{a0 a1:S}{R:List S}{o:List Nat}{g:Nat->Bool}{n:Nat}(q:o.length<=100000)(ho:∀s∈o,s<n):
  yx (some (dN o)) [none,some 2] (zk 0) zK Ye (a0::a1::.v (.lst ((aG n).map λ(s:Nat)=>D.bl (g s)))::R)=some ((o.map g).map D.bl):=by
 refine yr D.bl (o.map g) (by simp) (by simp;omega) λk h=>?_
 have j:k<o.length:=by simpa using h
 refine⟨[.v (.int (o[k]:Nat)),.v (.lst ((aG n).map λ(s:Nat)=>D.bl (g s)))],?_,rfl,?_⟩
 ·simp[yp]
 ·simp only[Ye,xK,Uv]
  show ap2 mIx (some (.d (.lst ((aG n).map λ(s:Nat)=>D.bl (g s))))) (some (.d (.int (o[k]:Nat))))=_
  rw[yi,YW,uB,bF,zhc (ho _ (cS j))]
  simp
theorem zcZ{Γ:G}{parts ps:List Nat}(j:Γ[8]?=some (.v (.dK (kN ps) ((cL 0 ps.length).map λ(k:Nat)=>D.int (k:Int)))))(J:parts.length<=100000)(q:∀p∈parts,p∈ps):
  yx (some (dN parts)) [none,some 8] (zk 0) zK uG Γ=some (dN (parts.map λp=>ps.idxOf p)):=by
 refine yr (λ(n:Nat)=>D.int (n:Int)) (parts.map λp=>ps.idxOf p) (by simp) (by simp;omega) λk h=>?_
 have z:k<parts.length:=by simpa using h
 refine⟨[.v (.int (parts[k]:Nat)),.v (.dK (kN ps) ((cL 0 ps.length).map λ(k:Nat)=>D.int (k:Int)))],?_,rfl,?_⟩
 ·simp[yp,j]
 ·have e:=Ze ps 0 parts[k] (q _ (cS z))
  rw[gP]at e
  simp only[uG,xK,Uv]
  show ap2 uc (some (.d (.dK (kN ps) ((cL 0 ps.length).map λ(k:Nat)=>D.int (k:Int))))) (some (.d (.int (parts[k]:Nat))))=_
  rw[yi]
  show((some (zM ((kN ps).zip ((cL 0 ps.length).map λ(k:Nat)=>D.int (k:Int))) (Sum.inl ((parts[k]:Nat):Int)))).bind id).map B.d=_
  rw[e]
  simp
theorem zc0{Γ:G}{kept:List Nat}{marks:List Bool}(hΓ:Γ[6]?=some (.v (.lst (marks.map D.bl))))(hl:kept.length<=100000)(hk:∀s∈kept,s<marks.length):
  yx (some (zP (dN kept))) [none,none,some 6] (yG 2 (zD (zk 0) (zD (zk 1) yJ))) uH Yf Γ=some (dN (zw kept.length λi=>marks.getD (kept.getD i 0) false)):=by
 have:=uh (λ(n:Nat)=>D.int (n:Int)) (t:=yG 2 (zD (zk 0) (zD (zk 1) yJ))) (cond:=uH) (el:=Yf) (Γ:=Γ) (ms:=[none,none,some 6]) (ds:=zP (dN kept)) (λi=>marks.getD (kept.getD i 0) false) (by simp[zP];omega) λk h=>by
  have hkl:k<kept.length:=by simpa[zP]using h
  have hm:kept.getD k 0<marks.length:=hk _ (Hop.xZ hkl)
  refine⟨[.v (.int (k:Int)),.v (.int (kept.getD k 0:Nat)),.v (.lst (marks.map D.bl))],?_,?_,λ_=>rfl⟩
  ·rw[ZM h]
   simp[yp,hΓ,yG,zD,yJ]
  ·simp only[uH,zcr,xK,Uv]
   show Uw (ap2 mIx (some (.d (.lst (marks.map D.bl)))) (some (.d (.int (kept.getD k 0:Nat)))))=_
   rw[yi,YW,uB,bF,wo,bG,bH hm,bI (l:=marks),bH hm]
   rfl
 rw[this]
 simp[zP,zw]
section
variable {A:Nat} {rows near:List (List Nat)} {g:Nat->Bool} {o:List Nat}
theorem zac{R:D}(ok:Hop.OkR A rows)(ab:A<=3)(hz:rows.length<=50000)(ho:o=Hop.bfs rows rows.length 0 [0])(Z:near=o.map λs=>(rows.getD s []).map λg=>o.idxOf g) 
  (h1:YX [R]=some (.lst (dN o))) (h2:vy [R,.lst (dN o),.dK (kN o) ((aG o.length).map λ(k:Nat)=>D.int (k:Int))]=some (.tup (zi near))) :
  ∃rows' g',UE [.int (A:Int),R,.lst ((aG rows.length).map λ(s:Nat)=>D.bl (g s))]=some (zn A rows' g')/\Hop.Lst A rows g rows' g':=by
 have b:=Hop.uo ok ho
 have ol:=Hop.Y2 b
 have q:o.length<=50000:=bL ol hz
 obtain⟨z,nl⟩:=Hop.QY ok b Z
 generalize j:Hop.yt (Pt.bks near A) (o.map g)=parts
 generalize J:Hop.yn (λs=>parts.getD s 0) o.length=kept
 have ah:∀i,i<A->Hop.Back near.length (λs=>(near.getD s []).getD i 0) ((Pt.bks near A).getD i []):=λi hi=>by
  rw[bI,Pt.Wn hi]
  exact Pt.Rows.back ⟨λs Y=>eN (z.len s Y).symm,λs a Y ha=>z.lt a s ha Y⟩ hi
 obtain⟨L,pl,kl,ai⟩:=Hop.zab (good:=g) (part:=λs=>parts.getD s 0) (kept:=kept) ok ho Z (Pt.Wo near A) ah (by rw[j]) J.symm rfl rfl
 rw[j]at pl
 refine⟨_,_,?_,L⟩
 have hm:=zeL (rows:=near) (A:=A) (marks:=o.map g) z.lt z.len (by simp[nl]) (by rw[nl];exact eB (na q ab) (by decide))
 rw[j]at hm
 obtain⟨O,U,aa⟩:=zbl (a0:=.v (.int (A:Int))) (a1:=.v R) (a2:=.v (.lst ((aG rows.length).map λ(s:Nat)=>D.bl (g s)))) (a3:=.v (.lst (dN o))) (a4:=.v (.dK (kN o) ((aG o.length).map λ(k:Nat)=>D.int (k:Int)))) (a5:=.v (.tup (zi near))) (a6:=.v (.lst ((o.map g).map D.bl))) (a7:=.v (.lst (dN parts))) (a10:=.un) (a11:=.un) (a12:=.un) parts (by rw[pl];exact eB q (by decide))
 rw[pl,J]at aa
 have ac:kept.length<=o.length:=by rw[<-J];exact ZL _ _
 have aj:∀p∈parts,p∈kept.map λs=>parts.getD s 0:=λp hp=>by
  obtain⟨s,Y,e⟩:=dH.mp hp
  have:=ai s (pl▸Y)
  rw[show parts.getD s 0=p from by rw[Hop.wb Y];exact e]at this
  exact this
 have ae:=ZJ (rows:=near) (kept:=kept) (numbers:=.lst (dN (parts.map λp=>(kept.map λs=>parts.getD s 0).idxOf p))) (nm:=Hop.wz (λs=>parts.getD s 0) kept) (λs Y=>by rw[nl];exact kl s Y) (bL ac (bL q (by decide))) (λs Y=>by rw[z.len s Y];exact bL ab (by decide)) λs Y x hx=>by
  have af:s<near.length:=by rw[nl];exact kl s Y
  obtain⟨a,ha,e⟩:=dH.mp hx
  have ag:x<parts.length:=by
   have:=z.lt a s (by rw[<-z.len s af];exact ha) af
   rw[show Hop.dl near a s=x from by show(near.getD s []).getD a 0=x;rw[Hop.wb ha];exact e]at this
   rw[pl,<-nl];exact this
  show m9 (atI (dN (parts.map λp=>(kept.map λs=>parts.getD s 0).idxOf p)) (x:Int)) _=_
  rw[ZH (by simpa using ag),Hop.xN ag]
  rfl
 have c1:=zcX (Γ:=[.v (.int (A:Int)),.v R,.v (.lst ((aG rows.length).map λ(s:Nat)=>D.bl (g s))),.v (.lst (dN o)),.un,.un,.un,.un,.un,.un,.un,.un,.un]) (o:=o) (bL q (by decide))
 have c2:=zcY (a0:=.v (.int (A:Int))) (a1:=.v R) (R:=[.v (.lst (dN o)),.v (.dK (kN o) ((aG o.length).map λ(k:Nat)=>D.int (k:Int))),.v (.tup (zi near)),.un,.un,.un,.un,.un,.un,.un]) (g:=g) (bL q (by decide)) b.lt
 have c3:=zcZ (Γ:=[.v (.int (A:Int)),.v R,.v (.lst ((aG rows.length).map λ(s:Nat)=>D.bl (g s))),.v (.lst (dN o)),.v (.dK (kN o) ((aG o.length).map λ(k:Nat)=>D.int (k:Int))),.v (.tup (zi near)),.v (.lst ((o.map g).map D.bl)),.v (.lst (dN parts)),.v (.dK (kN (kept.map λs=>parts.getD s 0)) ((cL 0 (kept.map λs=>parts.getD s 0).length).map λ(k:Nat)=>D.int (k:Int))),.v (.lst (dN kept)),O,U,.un]) rfl (parts:=parts) (by rw[pl];exact bL q (by decide)) aj
 have c4:=zc0 (Γ:=[.v (.int (A:Int)),.v R,.v (.lst ((aG rows.length).map λ(s:Nat)=>D.bl (g s))),.v (.lst (dN o)),.v (.dK (kN o) ((aG o.length).map λ(k:Nat)=>D.int (k:Int))),.v (.tup (zi near)),.v (.lst ((o.map g).map D.bl)),.v (.lst (dN parts)),.v (.dK (kN (kept.map λs=>parts.getD s 0)) ((cL 0 (kept.map λs=>parts.getD s 0).length).map λ(k:Nat)=>D.int (k:Int))),.v (.lst (dN kept)),O,U,.v (.tup (zi (kept.map λs=>(near.getD s []).map (Hop.wz (λs=>parts.getD s 0) kept))))]) rfl (kept:=kept) (bL ac (bL q (by decide))) (by simpa using kl)
 have ak:zw kept.length (λi=>(o.map g).getD (kept.getD i 0) false)=zw (kept.map λs=>(near.getD s []).map (Hop.wz (λs=>parts.getD s 0) kept)).length (λi=>g (o.getD (kept.getD i 0) 0)):=by
  rw[aM]
  exact YG λi hi=>Hop.xN (kl _ (Hop.xZ hi))
 refine z7 rfl ?_
 unfold zcC
 rw[zx,show(zI 3 (xFn YX (zc (za 1) zf))) (zT 13 [.int (A:Int),R,.lst ((aG rows.length).map λ(s:Nat)=>D.bl (g s))])=some (.nx [.v (.int (A:Int)),.v R,.v (.lst ((aG rows.length).map λ(s:Nat)=>D.bl (g s))),.v (.lst (dN o)),.un,.un,.un,.un,.un,.un,.un,.un,.un])from by
  simp[zT,h1],zu,zx]
 rw[show(uy 4 (zc (xL (zO (uY (zc (za 3) zf)) [none,none] (yG 2 (zD (zk 0) (zD (zk 1) yJ))) zK Yd)) zf)) [.v (.int (A:Int)),.v R,.v (.lst ((aG rows.length).map λ(s:Nat)=>D.bl (g s))),.v (.lst (dN o)),.un,.un,.un,.un,.un,.un,.un,.un,.un]=some (.nx [.v (.int (A:Int)),.v R,.v (.lst ((aG rows.length).map λ(s:Nat)=>D.bl (g s))),.v (.lst (dN o)),.ok (prs 0 o),.un,.un,.un,.un,.un,.un,.un,.un])from by
  rw[UP,yu,wS,y0,zf1]
  rw[show zf0 ((zc (za 3) zf) [S.v (.int (A:Int)),.v R,.v (.lst ((aG rows.length).map λ(s:Nat)=>D.bl (g s))),.v (.lst (dN o)),.un,.un,.un,.un,.un,.un,.un,.un,.un])=some (zP (dN o))from rfl,c1,cP,ZF,wR,XF,XI,bF,if_pos (by rw[show(prs 0 o).length=o.length from by simp[prs]];exact bL q (by decide)),zbk b.nd]
  rfl,zu,vm]
 rw[show vW 4 [S.v (.int (A:Int)),.v R,.v (.lst ((aG rows.length).map λ(s:Nat)=>D.bl (g s))),.v (.lst (dN o)),.ok (prs 0 o),.un,.un,.un,.un,.un,.un,.un,.un]=[.v (.int (A:Int)),.v R,.v (.lst ((aG rows.length).map λ(s:Nat)=>D.bl (g s))),.v (.lst (dN o)),.v (.dK (kN o) ((aG o.length).map λ(k:Nat)=>D.int (k:Int))),.un,.un,.un,.un,.un,.un,.un,.un]from by
  show iQ _ 4 (S.v (.dK ((prs 0 o).map bA) ((prs 0 o).map dG)))=_
  rw[Yt,QX,<-kW];rfl]
 rw[zx,show(zI 5 (xFn vy (zc (za 1) (zc (za 3) (zc (za 4) zf))))) [.v (.int (A:Int)),.v R,.v (.lst ((aG rows.length).map λ(s:Nat)=>D.bl (g s))),.v (.lst (dN o)),.v (.dK (kN o) ((aG o.length).map λ(k:Nat)=>D.int (k:Int))),.un,.un,.un,.un,.un,.un,.un,.un]=some (.nx [.v (.int (A:Int)),.v R,.v (.lst ((aG rows.length).map λ(s:Nat)=>D.bl (g s))),.v (.lst (dN o)),.v (.dK (kN o) ((aG o.length).map λ(k:Nat)=>D.int (k:Int))),.v (.tup (zi near)),.un,.un,.un,.un,.un,.un,.un])from by
  rw[xX]
  show Wp 5 (fnO vy (some [R,.lst (dN o),.dK (kN o) ((aG o.length).map λ(k:Nat)=>D.int (k:Int))])) _=_
  rw[YU,h2];rfl,zu]
 rw[zx,show(zI 6 (xL (zO (zY (za 3)) [none,some 2] (zk 0) zK Ye))) [.v (.int (A:Int)),.v R,.v (.lst ((aG rows.length).map λ(s:Nat)=>D.bl (g s))),.v (.lst (dN o)),.v (.dK (kN o) ((aG o.length).map λ(k:Nat)=>D.int (k:Int))),.v (.tup (zi near)),.un,.un,.un,.un,.un,.un,.un]=some (.nx [.v (.int (A:Int)),.v R,.v (.lst ((aG rows.length).map λ(s:Nat)=>D.bl (g s))),.v (.lst (dN o)),.v (.dK (kN o) ((aG o.length).map λ(k:Nat)=>D.int (k:Int))),.v (.tup (zi near)),.v (.lst ((o.map g).map D.bl)),.un,.un,.un,.un,.un,.un])from by
  rw[xX,wS,y0]
  show Wp 6 ((yx (some (dN o)) _ _ _ _ _).map _) _=_
  rw[c2];rfl,zu]
 rw[zx,show(zI 7 (xFn zcB (zc (za 0) (zc (za 5) (zc (za 6) zf))))) [.v (.int (A:Int)),.v R,.v (.lst ((aG rows.length).map λ(s:Nat)=>D.bl (g s))),.v (.lst (dN o)),.v (.dK (kN o) ((aG o.length).map λ(k:Nat)=>D.int (k:Int))),.v (.tup (zi near)),.v (.lst ((o.map g).map D.bl)),.un,.un,.un,.un,.un,.un]=some (.nx [.v (.int (A:Int)),.v R,.v (.lst ((aG rows.length).map λ(s:Nat)=>D.bl (g s))),.v (.lst (dN o)),.v (.dK (kN o) ((aG o.length).map λ(k:Nat)=>D.int (k:Int))),.v (.tup (zi near)),.v (.lst ((o.map g).map D.bl)),.v (.lst (dN parts)),.un,.un,.un,.un,.un])from by
  rw[xX]
  show Wp 7 (fnO Pt.uA (some [.int (A:Int),.tup (zi near),.lst ((o.map g).map D.bl)])) _=_
  rw[YU,hm];rfl,zu]
 rw[zx,show ud 8 [S.v (.int (A:Int)),.v R,.v (.lst ((aG rows.length).map λ(s:Nat)=>D.bl (g s))),.v (.lst (dN o)),.v (.dK (kN o) ((aG o.length).map λ(k:Nat)=>D.int (k:Int))),.v (.tup (zi near)),.v (.lst ((o.map g).map D.bl)),.v (.lst (dN parts)),.un,.un,.un,.un,.un]=some (.nx [.v (.int (A:Int)),.v R,.v (.lst ((aG rows.length).map λ(s:Nat)=>D.bl (g s))),.v (.lst (dN o)),.v (.dK (kN o) ((aG o.length).map λ(k:Nat)=>D.int (k:Int))),.v (.tup (zi near)),.v (.lst ((o.map g).map D.bl)),.v (.lst (dN parts)),.ok [],.un,.un,.un,.un])from rfl,zu]
 rw[zx,show wL 9 (wd zf) [S.v (.int (A:Int)),.v R,.v (.lst ((aG rows.length).map λ(s:Nat)=>D.bl (g s))),.v (.lst (dN o)),.v (.dK (kN o) ((aG o.length).map λ(k:Nat)=>D.int (k:Int))),.v (.tup (zi near)),.v (.lst ((o.map g).map D.bl)),.v (.lst (dN parts)),.ok [],.un,.un,.un,.un]=some (.nx [.v (.int (A:Int)),.v R,.v (.lst ((aG rows.length).map λ(s:Nat)=>D.bl (g s))),.v (.lst (dN o)),.v (.dK (kN o) ((aG o.length).map λ(k:Nat)=>D.int (k:Int))),.v (.tup (zi near)),.v (.lst ((o.map g).map D.bl)),.v (.lst (dN parts)),.ok [],.ol [],.un,.un,.un])from rfl,zu]
 rw[zx,xY]
 rw[show(uY (zc (za 7) zf)) [S.v (.int (A:Int)),.v R,.v (.lst ((aG rows.length).map λ(s:Nat)=>D.bl (g s))),.v (.lst (dN o)),.v (.dK (kN o) ((aG o.length).map λ(k:Nat)=>D.int (k:Int))),.v (.tup (zi near)),.v (.lst ((o.map g).map D.bl)),.v (.lst (dN parts)),.ok [],.ol [],.un,.un,.un]=some (zP (dN parts))from rfl,xi,aa,zu,vm,vm]
 rw[show vW 9 (vW 8 [S.v (.int (A:Int)),.v R,.v (.lst ((aG rows.length).map λ(s:Nat)=>D.bl (g s))),.v (.lst (dN o)),.v (.dK (kN o) ((aG o.length).map λ(k:Nat)=>D.int (k:Int))),.v (.tup (zi near)),.v (.lst ((o.map g).map D.bl)),.v (.lst (dN parts)),.ok (prs 0 (kept.map λs=>parts.getD s 0)),.ol (dN kept),O,U,.un])=[.v (.int (A:Int)),.v R,.v (.lst ((aG rows.length).map λ(s:Nat)=>D.bl (g s))),.v (.lst (dN o)),.v (.dK (kN o) ((aG o.length).map λ(k:Nat)=>D.int (k:Int))),.v (.tup (zi near)),.v (.lst ((o.map g).map D.bl)),.v (.lst (dN parts)),.v (.dK (kN (kept.map λs=>parts.getD s 0)) ((cL 0 (kept.map λs=>parts.getD s 0).length).map λ(k:Nat)=>D.int (k:Int))),.v (.lst (dN kept)),O,U,.un]from by
  show iQ (iQ _ 8 (S.v (.dK ((prs 0 (kept.map λs=>parts.getD s 0)).map bA) ((prs 0 (kept.map λs=>parts.getD s 0)).map dG)))) 9 _=_
  rw[Yt,QX];rfl]
 rw[zx,xX]
 rw[show(xFn vy (zc (za 5) (zc (za 9) (zc (xL (zO (zY (za 7)) [none,some 8] (zk 0) zK uG)) zf)))) [.v (.int (A:Int)),.v R,.v (.lst ((aG rows.length).map λ(s:Nat)=>D.bl (g s))),.v (.lst (dN o)),.v (.dK (kN o) ((aG o.length).map λ(k:Nat)=>D.int (k:Int))),.v (.tup (zi near)),.v (.lst ((o.map g).map D.bl)),.v (.lst (dN parts)),.v (.dK (kN (kept.map λs=>parts.getD s 0)) ((cL 0 (kept.map λs=>parts.getD s 0).length).map λ(k:Nat)=>D.int (k:Int))),.v (.lst (dN kept)),O,U,.un]=some (.d (.tup (zi (kept.map λs=>(near.getD s []).map (Hop.wz (λs=>parts.getD s 0) kept)))))from by
  rw[zdM,yu,yu,yu,wS,y0]
  show fnO vy (dsO (wn (some (.d (.tup (zi near)))) (wn (some (.d (.lst (dN kept)))) (wn ((yx (some (dN parts)) [none,some 8] (zk 0) zK uG _).map _) _))))=_
  rw[c3]
  show fnO vy (some [.tup (zi near),.lst (dN kept),.lst (dN (parts.map λp=>(kept.map λs=>parts.getD s 0).idxOf p))])=_
  rw[YU,ae];rfl]
 rw[Vh,zu]
 rw[show iQ [S.v (.int (A:Int)),.v R,.v (.lst ((aG rows.length).map λ(s:Nat)=>D.bl (g s))),.v (.lst (dN o)),.v (.dK (kN o) ((aG o.length).map λ(k:Nat)=>D.int (k:Int))),.v (.tup (zi near)),.v (.lst ((o.map g).map D.bl)),.v (.lst (dN parts)),.v (.dK (kN (kept.map λs=>parts.getD s 0)) ((cL 0 (kept.map λs=>parts.getD s 0).length).map λ(k:Nat)=>D.int (k:Int))),.v (.lst (dN kept)),O,U,.un] 12 (S.v (.tup (zi (kept.map λs=>(near.getD s []).map (Hop.wz (λs=>parts.getD s 0) kept)))))=[.v (.int (A:Int)),.v R,.v (.lst ((aG rows.length).map λ(s:Nat)=>D.bl (g s))),.v (.lst (dN o)),.v (.dK (kN o) ((aG o.length).map λ(k:Nat)=>D.int (k:Int))),.v (.tup (zi near)),.v (.lst ((o.map g).map D.bl)),.v (.lst (dN parts)),.v (.dK (kN (kept.map λs=>parts.getD s 0)) ((cL 0 (kept.map λs=>parts.getD s 0).length).map λ(k:Nat)=>D.int (k:Int))),.v (.lst (dN kept)),O,U,.v (.tup (zi (kept.map λs=>(near.getD s []).map (Hop.wz (λs=>parts.getD s 0) kept))))]from rfl]
 rw[ZG,za7,yu,yu,yu,vK,yu,wS,y0]
 show JI (zcs (dsO (wn (some (.d (.int (A:Int)))) (wn (some (.d (.tup (zi (kept.map λs=>(near.getD s []).map (Hop.wz (λs=>parts.getD s 0) kept)))))) (wn (JH vr (wn ((yx (some (zP (dN kept))) [none,none,some 6] (yG 2 (zD (zk 0) (zD (zk 1) yJ))) uH Yf _).map (λds=>B.d (.lst ds))) (some []))) (some []))))))=_
 rw[c4,ak]
 rfl
theorem WO(ok:Hop.OkR A rows)(j:A<=3)(z:rows.length<=50000):
  ∃rows' g',UE [.int (A:Int),.tup (zi rows),.lst ((aG rows.length).map λ(s:Nat)=>D.bl (g s))]=some (zn A rows' g')/\Hop.Lst A rows g rows' g':=by
 have b:=Hop.uo ok rfl
 have ol:=Hop.Y2 b
 exact zac ok j z rfl rfl (zbi ok.pos ok.lt ok.len (eB (na z j) (by decide))) (ZJ b.lt (bL (bL ol z) (by decide)) (λs q=>by rw[ok.len s q];exact bL j (by decide)) λs q x U=>by
  have J:=b.lt s q
  obtain⟨a,O,e⟩:=dH.mp U
  obtain⟨k,R,Y⟩:=dH.mp q
  have:=b.cl k a (by rw[<-ok.len s J];exact O) (.inl R)
  rw[Hop.wb R,Y]at this
  rw[show Hop.dl rows a s=x from by show(rows.getD s []).getD a 0=x;rw[Hop.wb O];exact e]at this
  exact zbj this)
end
end Py
namespace Py
open PySem L2 DD
@[simp] theorem ziR:isi .int .bl=false:=by decide
@[simp] theorem ziS:isi .int .int=true:=by decide
@[simp] theorem ziT:isi .tup .tup=true:=by decide
theorem zf6{Γ:G}{i j:Nat}{k:Int}{q z:G->Option B}{ds:List D}{v:D}(h1:we Γ i=some ds)(h2:z Γ=some (.d v))(J:q Γ=some (.d (.int k)))(O:ixN ds.length k=some j):VF i q z Γ=some (.nx (Γ.set i (.ol (ds.set j v)))):=by
 unfold VF
 rw[h1,bF,h2,bF,JG,bF,J,bF,zg2,bF,O]
 rfl
end Py
namespace Py
open PySem PySem.Spec L2 DD
open PyProof.Rows hiding St
theorem UZ{i lo hi:Int}:Wv [.int i,.int lo,.int hi]=some (.bl (decide (lo<=i/\i<=hi))):=by
 refine z7 rfl ?_
 simp[zcD,zT]
 rw[zba (k:=hi) (by simp)]
 simp
theorem zhd{ds:List D}{lo hi:Int}:XE [.tup ds,.int lo,.int hi]=some (.bl (decide (lo<=ds.length/\ds.length<=hi))):=by
 refine z7 rfl ?_
 simp[JQ,zT]
 rw[zba (k:=hi) (by simp)]
 simp
theorem ZP{α:Type}{xs:List α}:(wN (xs.map λ_=>D.bl true)).map (λbs=>D.bl (bs.all id))=some (.bl true):=XD _ λx j=>by
 obtain⟨_,_,rfl⟩:=bK.mp j;rfl
theorem U0{l:List Nat}{n:Nat}(hn:0<n)(h:∀s∈l,s<n)(q:l.length<=16777216):UF [.tup (dN l),.int (n:Int)]=some (.bl true):=by
 have z:=yr (λ(_:Nat)=>D.bl true) (t:=zk 0) (cond:=zK) (el:=Ww) (Γ:=[.v (.tup (dN l)),.v (.int (n:Int))]) (ms:=[none,some 1]) (ds:=dN l) l (by simp) (by simpa using q) λk J=>by
  have j:k<l.length:=by simpa using J
  refine⟨[.v (.int (l[k]:Nat)),.v (.int (n:Int))],by simp[yp],rfl,?_⟩
  have:=h _ (cS j)
  simp[Ww,UZ]
  omega
 refine z7 rfl ?_
 simp[zcE,zT,z,ZP]
theorem zc1(h:l.Pairwise (· < ·))(R:l.length<=100000):JR [.tup (dN l)]=some (.bl true):=by
 have j:r1I ((l.length:Int)-1)=some (zW 0 (l.length-1)):=by
  by_cases q:l.length=0
  ·rw[q];rfl
  ·rw[show((l.length:Int)-1)=((l.length-1:Nat):Int) by omega]
   exact xR (by omega)
 have z:=yr (λ(_:Nat)=>D.bl true) (t:=zk 0) (cond:=zK) (el:=Wx) (Γ:=[.v (.tup (dN l))]) (ms:=[none,some 0]) (ds:=zW 0 (l.length-1)) (aG (l.length-1)) (by simp) (by simp;omega) λk J=>by
  have O:k<l.length-1:=by simpa using J
  refine⟨[.v (.int (k:Int)),.v (.tup (dN l))],by simp[yp],rfl,?_⟩
  have:=m4.mp h k (k+1) (by omega) (by omega) (by omega)
  simp[Wx,wo,zcw,show k<l.length by omega,show k+1<l.length by omega]
  omega
 refine z7 rfl ?_
 simp[zcF,zT,j,z,ZP]
section
variable {A:Nat} {rows:List (List Nat)} {g:Nat->Bool}
theorem zf7(ok:Hop.OkR A rows)(q:r∈rows):r.length=A/\∀s∈r,s<rows.length:=by
 obtain⟨s,j,e⟩:=dH.mp q
 have es:rows.getD s []=r:=by rw[bI,bH j];exact e
 refine⟨by rw[<-es];exact ok.len s j,λx z=>?_⟩
 obtain⟨a,J,ex⟩:=dH.mp z
 have O:=ok.len s j
 rw[es]at O
 have:=ok.lt a s (by omega) j
 rw[show Hop.dl rows a s=x from by show(rows.getD s []).getD a 0=x;rw[es,Hop.wb J];exact ex]at this
 exact this
theorem Qk(ok:Hop.OkR A rows)(R:1<=A)(U:A<=3)(hz:rows.length<=2000):JS [zn A rows g]=some (.bl true):=by
 have j:=ok.pos
 have O:=yr (λ(_:List Nat)=>D.bl true) (t:=zk 0) (cond:=zK) (el:=Wy) (Γ:=[.v (zn A rows g),.v (.tup (zi rows))]) (ms:=[none,some 1,some 0]) (ds:=zi rows) rows (by simp) (by simp;omega) λk Y=>by
  have z:k<rows.length:=by simpa using Y
  obtain⟨Z,q2⟩:=zf7 ok (cS z)
  refine⟨[.v (.tup (dN rows[k])),.v (.tup (zi rows)),.v (zn A rows g)],by simp[yp],rfl,?_⟩
  have q:=U0 (l:=rows[k]) j q2 (by omega)
  simp[Wy,q,zn,Z]
 have q:=U0 (l:=zw rows.length g) j (λs hs=>(yD.mp hs).1) (by have:=vn (n:=rows.length) (g:=g);omega)
 have J:=zc1 (l:=zw rows.length g) UY (by have:=vn (n:=rows.length) (g:=g);omega)
 refine z7 rfl ?_
 simp only[zn]at O
 have i1:(1:Int)<=A:=by omega
 have i2:(A:Int)<=3:=by omega
 have i3:(1:Int)<=rows.length:=by omega
 have i4:(rows.length:Int)<=2000:=by omega
 simp[zcG,zT,zhd,UZ,zn,O,ZP,q,J,i1,i2,i3,i4]
theorem zbn(ok:Hop.OkR A rows)(j:1<=A)(q:A<=3)(z:rows.length<=2000):JT [zn A rows g]=some (zn A rows g):=by
 refine z7 rfl ?_
 simp[zcH,zT,Qk ok j q z]
end
section
variable {A:Nat} {rows:List (List Nat)} {g:Nat->Bool}
theorem zeO(hz:rows.length<=100000):JU [zn A rows g]=some (.lst ((aG rows.length).map λ(s:Nat)=>D.bl (g s))):=by
 have hc:=yr (λ(_:List Nat)=>D.bl false) (t:=zk 0) (cond:=zK) (el:=QS) (Γ:=[.v (zn A rows g),.un,.un]) (ms:=[none]) (ds:=zi rows) rows (by simp) (by simp;omega) λk O=>⟨[.v (zi rows)[k]],by simp[yp],rfl,rfl⟩
 have U:∀s∈zw rows.length g,s<rows.length:=λs q=>(yD.mp q).1
 obtain⟨g1,h1,Y,R⟩:=xl (t:=zk 2) (fb:=QT) (dN (zw rows.length g))
  (λk Γ=>∃Y,Γ=[.v (zn A rows g),.ol ((aG rows.length).map λ(s:Nat)=>D.bl (decide (s∈(zw rows.length g).take k))),Y])
  [.v (zn A rows g),.ol (rows.map λ_=>D.bl false),.un] ⟨.un,by simp[mP]⟩ λk Γ h j=>by
   obtain⟨Y,e⟩:=j
   subst e
   have O:k<(zw rows.length g).length:=by simpa using h
   have q:=U _ (cS O)
   have hx:ixN ((aG rows.length).map λ(s:Nat)=>D.bl (decide (s∈(zw rows.length g).take k))).length (((zw rows.length g)[k]:Nat):Int)=some (zw rows.length g)[k]:=by
    unfold ixN
    rw[if_pos (by omega),if_pos (by simp;exact q)]
    simp
   refine⟨[.v (zn A rows g),.ol ((aG rows.length).map λ(s:Nat)=>D.bl (decide (s∈(zw rows.length g).take k))),.v (.int ((zw rows.length g)[k]:Nat))],[.v (zn A rows g),.ol (((aG rows.length).map λ(s:Nat)=>D.bl (decide (s∈(zw rows.length g).take k))).set (zw rows.length g)[k] (.bl true)),.v (.int ((zw rows.length g)[k]:Nat))],?_,?_,.v (.int ((zw rows.length g)[k]:Nat)),?_⟩
   ·simp
   ·exact zf6 rfl rfl rfl hx
   ·have e:((aG rows.length).map λ(s:Nat)=>D.bl (decide (s∈(zw rows.length g).take k))).set (zw rows.length g)[k] (.bl true)=(aG rows.length).map λ(s:Nat)=>D.bl (decide (s∈(zw rows.length g).take (k+1))):=by
     refine ia (by simp) λi a b=>?_
     rw[List.getElem_set]
     by_cases e:(zw rows.length g)[k]=i
     ·rw[if_pos e]
      subst e
      have hm:(zw rows.length g)[k]∈(zw rows.length g).take (k+1):=by
       rw[ib O];exact cX _ (bN.mpr rfl)
      simp[hm]
     ·rw[if_neg e]
      simp only[dQ,ic,ib O,cA,bN]
      simp[show ¬i=(zw rows.length g)[k]from λz=>e z.symm]
    rw[e]
 rw[show(dN (zw rows.length g)).length=(zw rows.length g).length from by simp,eH]at R
 refine z7 rfl ?_
 simp only[zn]at hc h1 R
 have e:((aG rows.length).map λ(s:Nat)=>D.bl (decide (s∈zw rows.length g)))=(aG rows.length).map λ(s:Nat)=>D.bl (g s):=by
  refine fJ λs q=>?_
  have Z:=bZ.mp q
  congr 1
  cases J:g s with
  | true=>simp[yD,Z,J]
  | false=>simp[yD,J]
 rw[e]at R
 simp[zcI,zT,zn,hc,h1,R,vW]
theorem Q0(ok:Hop.OkR A rows)(q:1<=A)(j:A<=3)(z:rows.length<=2000):∃rows' g',u7 [zn A rows g]=some (zn A rows' g')/\Hop.Lst A rows g rows' g':=by
 obtain⟨rows',g',h,L⟩:=WO (g:=g) ok j (by omega)
 refine⟨rows',g',z7 rfl ?_,L⟩
 have h1:=zbn (g:=g) ok q j z
 have h2:=zeO (A:=A) (rows:=rows) (g:=g) (by omega)
 simp only[zn]at h1 h2
 simp[JV,zT,zn,h1,h2]
 rw[h]
 simp[zn]
end
end Py
namespace Py
open PySem L2 DD
theorem Vq{i:Int}(h:-(2^64)<i/\i<2^64):yZ i=true:=by unfold yZ;simp only[h.1,h.2,decide_true,Bool.and_self]
theorem zf8{ns:List Int}{k:Nat}:∃v:Int,JZ [.scr ns,.int k]=some (.int v):=by
 by_cases h:k<ns.length
 ·refine⟨ns[k],z7 rfl ?_⟩
  simp[UK,zT,wo,h]
 ·by_cases h2:ns=[]
  ·subst h2
   refine⟨0,z7 rfl ?_⟩
   have e:¬((k:Int)<0):=by omega
   simp[UK,zT,QQ,e]
  ·have q:0<ns.length:=List.length_pos_iff.mpr h2
   have z:(k:Int)%(ns.length:Int)=((k%ns.length:Nat):Int):=by simp
   have j:k%ns.length<ns.length:=nc _ q
   refine⟨ns[k%ns.length]*31+k,z7 rfl ?_⟩
   have e:¬((k:Int)<(ns.length:Int)):=by omega
   have J:(0:Int)<(ns.length:Int):=by omega
   simp[UK,zT,QQ,h2,e,XC J]
   rw[z,wo]
   simp[j,vC (.inr (show yZ 31=true by decide))]
theorem vN{ns:List Int}{k many:Nat}(O:0<many):∃v:Nat,v<many/\wf [.scr ns,.int k,.int many]=some (.int v):=by
 obtain⟨c,z⟩:=zf8 (ns:=ns) (k:=k)
 have j:(0:Int)<many:=by omega
 generalize q:(c+7919*(k:Int)+1)*48271%2147483647=d
 have R:0<=d:=by rw[<-q];exact k3 _ (by decide)
 have U:d<2147483647:=by rw[<-q];exact ng _ (by decide)
 refine⟨((d*d+7*d+k)%2147483629%many).toNat,?_,z7 rfl ?_⟩
 ·have h1:=k3 ((d*d+7*d+k)%2147483629) (b:=(many:Int)) (by omega)
  have h2:=ng ((d*d+7*d+k)%2147483629) j
  omega
 ·have h1:=k3 ((d*d+7*d+k)%2147483629) (b:=(many:Int)) (by omega)
  have J:yZ d=true:=Vq ⟨by omega,by omega⟩
  have s1:yZ 7919=true:=by decide
  have s2:yZ 48271=true:=by decide
  have s3:yZ 7=true:=by decide
  simp[zcN,zT,z,vC (.inl s1),vC (.inr s2),XC (show(0:Int)<2147483647 by decide),q,vC (.inl s3),vC (.inl J),XC (show(0:Int)<2147483629 by decide),XC j]
  omega
theorem zbo{ns:List Int}{k:Nat}:∃A:Nat,1<=A/\A<=3/\WB [.scr ns,.int k]=some (.int A):=by
 obtain⟨v,j,z⟩:=vN (ns:=ns) (k:=k) (many:=6) (by decide)
 have q:wf [.scr ns,.int k,.int 6]=some (.int v):=z
 refine⟨[1,2,2,2,2,3].getD v 1,?_,?_,z7 rfl ?_⟩
 ·rcases v with _|_|_|_|_|_|v <;>simp at j ⊢
 ·rcases v with _|_|_|_|_|_|v <;>simp at j ⊢
 ·simp[zcO,zT,q,wo]
  rcases v with _|_|_|_|_|_|v
  all_goals first|rfl|exact absurd j (by simp)
theorem zad:zw (n+1) g=zw n g++if g n=true then [n]else []:=by
 unfold zw
 rw[kM,iJ]
 cases h:g n <;>simp[h]
theorem zc2{ns:List Int}{k A most:Nat}(hA:A<=3)(hm:0<most)(ab:most<=1000):∃rows g,WE [.scr ns,.int k,.int A,.int most]=some (zn A rows g)/\Hop.OkR A rows/\rows.length<=most:=by
 obtain⟨v,hv,hc⟩:=vN (ns:=ns) (k:=k) (many:=most) hm
 have s4:yZ 4=true:=by decide
 generalize hn:1+v=n
 have ac:(1:Int)+v=(n:Int):=by rw[<-hn];rfl
 have ae:0<n:=hn▸cD Nat.one_pos (m5 1 v)
 have O:n<=1000:=hn▸bL (jv 1 v▸hv) ab
 obtain⟨g1,h1,rows,g,y7,hg,U,hr⟩:=xl (t:=zk 7) (fb:=WD) (zW 0 n)
  (λj Γ=>∃rows g y7,Γ=[.v (.scr ns),.v (.int k),.v (.int A),.v (.int most),.v (.int n),.ol (zi rows),.ol (dN (zw j g)),y7]/\rows.length=j/\∀r∈rows,r.length=A/\∀x∈r,x<n)
  [.v (.scr ns),.v (.int k),.v (.int A),.v (.int most),.v (.int n),.ol [],.ol [],.un] ⟨[],λ_=>false,.un,rfl,rfl,by simp⟩ (by
   rintro j Γ hj ⟨rows,g,y7,rfl,U,hr⟩
   have Y:j<n:=by simpa using hj
   obtain⟨ms,af,ag,ah⟩:=UD (λ(x:Nat)=>D.int (x:Int)) (t:=zk 0) (cond:=zK) (el:=WC)
    (Γ:=[.v (.scr ns),.v (.int k),.v (.int A),.v (.int most),.v (.int n),.ol (zi rows),.ol (dN (zw j g)),.v (.int j)]) (ms:=[none,some 0,some 1,some 7,some 4]) (ds:=zW 0 A) (λ_ x=>x<n) (by simp;omega) (by
     intro i hi
     have am:i<A:=by simpa using hi
     obtain⟨x,hx,Z⟩:=vN (ns:=ns) (k:=k+1+4*j+i) (many:=n) ae
     refine⟨_,x,rfl,rfl,?_,hx⟩
     have e2:((k+1+4*j+i:Nat):Int)=(k:Int)+1+4*j+i:=rfl
     rw[e2]at Z
     simp[yp,WC,vC (.inl s4),Z])
   obtain⟨b,hb,Z⟩:=vN (ns:=ns) (k:=k+4+4*j) (many:=2) (by omega)
   have e2:((k+4+4*j:Nat):Int)=(k:Int)+4+4*j:=rfl
   have e3:((2:Nat):Int)=2:=rfl
   rw[e2,e3]at Z
   have aa:ms.length=A:=by simpa using ag
   have c1:rows.length<16777216:=U▸eD Y (eB O (by decide))
   have c2:(zw j g).length<16777216:=eB vn (eD Y (eB O (by decide)))
   refine⟨[.v (.scr ns),.v (.int k),.v (.int A),.v (.int most),.v (.int n),.ol (zi rows),.ol (dN (zw j g)),.v (.int j)],[.v (.scr ns),.v (.int k),.v (.int A),.v (.int most),.v (.int n),.ol (zi (rows++[ms])),.ol (dN (zw (j+1) λs=>if s=j then decide (b=1)else g s)),.v (.int j)],?_,?_,rows++[ms],_,.v (.int j),rfl,by simp[U],?_⟩
   ·simp
   ·have ai:zw (j+1) (λs=>if s=j then decide (b=1)else g s)=zw j g++if b=1 then [j]else []:=by
     rw[zad,YG (g':=g) λs R=>if_neg (by omega)]
     simp
    rw[ai]
    have z:=af
    simp only[zi]at z
    simp[WD,xR (eB hA (by decide)),z,vC (.inl s4),we,c1,Z]
    by_cases aj:b=1
    ·subst aj
     simp[c2,we]
    ·have ak:b=0:=by omega
     subst ak
     simp
   ·intro r al
    rcases cA.mp al with q|q
    ·exact hr r q
    ·have:r=ms:=by simpa using q
     subst this
     exact⟨aa,λx hx=>by
      obtain⟨i,hi,e⟩:=dH.mp hx
      exact e▸ah i hi⟩)
 rw[xM]at hg U
 have J:∀s,s<rows.length->rows.getD s []∈rows:=λs R=>by
  rw[bI,bH R];exact cS R
 refine⟨rows,g,z7 rfl ?_,⟨by omega,λs R=>(hr _ (J s R)).1,λa s ha R=>?_⟩,by omega⟩
 ·subst hg
  simp[zcP,zT,hc,ac,xR (eB O (by decide)),h1]
  simp[zn,U]
 ·obtain⟨q1,q2⟩:=hr _ (J s R)
  rw[U]
  exact q2 _ (Hop.xZ (by omega))
end Py
namespace Py
open PySem L2 DD Pu
open Hop (walk yd Canon dl OkR)
theorem xw:walk δ s (w++[a])=δ a (walk δ s w):=by simp[walk]
def yP(δ1 δ2:Nat->Nat->Nat)(s t:Nat)(w:List Nat):List Key:=[Sum.inl (walk δ1 s w:Int),Sum.inl (walk δ2 t w:Int)]
def Y4(δ1 δ2:Nat->Nat->Nat)(s t:Nat)(w:List Nat):D:=.tup [.int (walk δ1 s w:Int),.int (walk δ2 t w:Int)]
theorem zbp:YQ (Y4 δ1 δ2 s t w)=some (yP δ1 δ2 s t w):=rfl
section
variable {A n1 n2:Nat} {δ1 δ2:Nat->Nat->Nat} {s t:Nat}
theorem Q1:yP δ1 δ2 s t u=yP δ1 δ2 s t v↔walk δ1 s u=walk δ1 s v/\walk δ2 t u=walk δ2 t v:=by
 unfold yP
 constructor
 ·intro h
  injection h with h1 h2
  injection h2 with h2 _
  injection h1 with h1
  injection h2 with h2
  exact⟨by omega,by omega⟩
 ·rintro⟨h1,h2⟩;rw[h1,h2]
theorem zbq(u v:List Nat)(a:Nat)(h:yP δ1 δ2 s t u=yP δ1 δ2 s t v):yP δ1 δ2 s t (u++[a])=yP δ1 δ2 s t (v++[a]):=by
 rw[Q1]at h ⊢
 rw[xw,xw,xw,xw,h.1,h.2]
 exact⟨rfl,rfl⟩
theorem zc3(h1:∀a s,a<A->s<n1->δ1 a s<n1)(h2:∀a s,a<A->s<n2->δ2 a s<n2)(hs:s<n1)(ht:t<n2){ws:List (List Nat)}{k a:Nat}(B:Bfs (yP δ1 δ2 s t) A ws k a):ws.length<=n1*n2:=by
 have:=yq (ws.map (yP δ1 δ2 s t)) ((aG (n1*n2)).map λi=>[(Sum.inl ((i/n2:Nat):Int):Key),Sum.inl ((i%n2:Nat):Int)]) B.nd λx hx=>by
  obtain⟨w,hw,rfl⟩:=bK.mp hx
  have a1:=Hop.xm h1 w s (B.good w hw) hs
  have a2:=Hop.xm h2 w t (B.good w hw) ht
  refine bK.mpr ⟨walk δ1 s w*n2+walk δ2 t w,bZ.mpr ?_,?_⟩
  ·calc walk δ1 s w*n2+walk δ2 t w<walk δ1 s w*n2+n2:=by omega
    _=(walk δ1 s w+1)*n2:=by rw[iR,Nat.one_mul]
    _<=n1*n2:=iS _ a1
  ·have e1:(walk δ1 s w*n2+walk δ2 t w)/n2=walk δ1 s w:=by
    rw[nh,Nat.mul_add_div (by omega),Nat.div_eq_of_lt a2,kY]
   have e2:(walk δ1 s w*n2+walk δ2 t w)%n2=walk δ2 t w:=by
    rw[nh,Nat.mul_add_mod,Nat.mod_eq_of_lt a2]
   rw[e1,e2];rfl
 simpa using this
end
section
variable {A m:Nat} {δ:Nat->Nat->Nat} {g:Nat->Bool}
end
def dlt(rows:List (List Nat))(a s:Nat):Nat:=dl rows a s
section
variable {A:Nat} {rows:List (List Nat)} {g:Nat->Bool}
theorem zdT{Γ:G}{f1 f2:G->Option B}{s:Nat}(h1:f1 Γ=some (.d (zn A rows g)))(h2:f2 Γ=some (.d (.int (s:Int))))(j:s<rows.length):(x2 mIx (x2 mIx f1 (xC (.int 1))) f2) Γ=some (.d (.tup (dN (rows.getD s [])))):=by
 rw[xK,xK,h1,zcq,h2,yi]
 show ap2 mIx (some (.d (.tup (zi rows)))) (some (.d (.int (s:Int))))=_
 rw[yi,YW,za9,bF,ZI j];rfl
theorem zc4{Γ:G}{f1 f2 j:G->Option B}{s a:Nat}(ok:OkR A rows)(h1:f1 Γ=some (.d (zn A rows g)))(h2:f2 Γ=some (.d (.int (s:Int))))(z:j Γ=some (.d (.int (a:Int))))(q:s<rows.length)(J:a<A):(x2 mIx (x2 mIx (x2 mIx f1 (xC (.int 1))) f2) j) Γ=some (.d (.int (dlt rows a s:Int))):=by
 rw[xK,zdT h1 h2 q,z,yi,YW,za9,bF,ZH (by rw[ok.len s q];exact J)];rfl
theorem U1{Γ:G}{f1 f2:G->Option B}{s:Nat}(h1:f1 Γ=some (.d (zn A rows g)))(h2:f2 Γ=some (.d (.int (s:Int))))(q:s<rows.length):(x2 (mIn false) f2 (x2 mIx f1 (xC (.int 2)))) Γ=some (.d (.bl (g s))):=by
 rw[xK,xK,h1,zcq,h2,yi]
 show ap2 (mIn false) (some (.d (.int (s:Int)))) (some (.d (.tup (dN (zw rows.length g)))))=_
 rw[yi,zdS (l:=zw rows.length g) rfl]
 have:decide (s∈zw rows.length g)=g s:=by
  cases j:g s with
  | true=>simp[yD,q,j]
  | false=>simp[yD,j]
 simp[this]
theorem x0(ok:OkR A rows):∀a s,a<A->s<rows.length->dlt rows a s<rows.length:=ok.lt
theorem zbr:OkD 1 (.tup (dN l)):=OkD.tup (n:=0) λd j=>by obtain⟨x,_,rfl⟩:=bK.mp j;exact OkD.int
end
def Y5(δ1 δ2:Nat->Nat->Nat)(w:List Nat):D:=.tup [.tup (dN w),.int (walk δ1 0 w:Int),.int (walk δ2 0 w:Int)]
section
variable {A:Nat} {r1 r2:List (List Nat)} {g1 g2:Nat->Bool}
noncomputable abbrev paG (A:Nat) (r1 r2:List (List Nat)) (g1 g2:Nat->Bool) (ws:List (List Nat)) (y4 y5 y6 y7 y8 y9:S):G:=[.v (zn A r1 g1),.v (zn A r2 g2),.ol (ws.map (Y5 (dlt r1) (dlt r2))),.ot (kvG (yP (dlt r1) (dlt r2) 0 0) (λ_ _=>.bl true) 0 ws),y4,y5,y6,y7,y8,y9]
theorem zae(ok1:OkR A r1)(ok2:OkR A r2){k a:Nat}{w:List Nat}{ws:List (List Nat)}{y4 y9:S}(hz1:r1.length<=2000)(hz2:r2.length<=2000)(B:Bfs (yP (dlt r1) (dlt r2) 0 0) A ws k a)(hw:ws[k]?=some w)(ha:a<A):
  ∃ws' z9,uK (paG A r1 r2 g1 g2 ws y4 (.v (.tup (dN w))) (.v (.int (walk (dlt r1) 0 w:Int))) (.v (.int (walk (dlt r2) 0 w:Int))) (.v (.int (a:Int))) y9)=some (.nx (paG A r1 r2 g1 g2 ws' y4 (.v (.tup (dN w))) (.v (.int (walk (dlt r1) 0 w:Int))) (.v (.int (walk (dlt r2) 0 w:Int))) (.v (.int (a:Int))) z9))/\
   Bfs (yP (dlt r1) (dlt r2) 0 0) A ws' k (a+1)/\ws'[k]?=some w/\ws<+: ws':=by
 have hgw:=B.good w (bX hw)
 have l1:=Hop.xm (x0 ok1) w 0 hgw ok1.pos
 have l2:=Hop.xm (x0 ok2) w 0 hgw ok2.pos
 have few:=zc3 (x0 ok1) (x0 ok2) ok1.pos ok2.pos B
 have few':ws.length<=4000000:=bL few (jD hz1 hz2)
 have hkl:=(aY.mp hw).1
 have hwl:=zeM B k k w (aP _) hw
 have e1:(xV (zc (x2 mIx (x2 mIx (x2 mIx (za 0) (xC (.int 1))) (za 6)) (za 8)) (zc (x2 mIx (x2 mIx (x2 mIx (za 1) (xC (.int 1))) (za 7)) (za 8)) zf))) (paG A r1 r2 g1 g2 ws y4 (.v (.tup (dN w))) (.v (.int (walk (dlt r1) 0 w:Int))) (.v (.int (walk (dlt r2) 0 w:Int))) (.v (.int (a:Int))) y9)=some (.d (Y4 (dlt r1) (dlt r2) 0 0 (w++[a]))):=by
  rw[za7,yu,yu,zc4 ok1 rfl rfl rfl l1 ha,zc4 ok2 rfl rfl rfl l2 ha]
  unfold Y4
  rw[xw,xw]
  rfl
 have hkey:=zbp (δ1:=dlt r1) (δ2:=dlt r2) (s:=0) (t:=0) (w:=w++[a])
 unfold uK
 rw[zx,xX,e1,Vh,zu]
 by_cases hm:yP (dlt r1) (dlt r2) 0 0 (w++[a])∈ws.map (yP (dlt r1) (dlt r2) 0 0)
 ·obtain⟨j,y,hy,q1,q2⟩:=UX (val:=λ_ _=>D.bl true) (k:=0) hm
  refine⟨ws,.v (Y4 (dlt r1) (dlt r2) 0 0 (w++[a])),?_,B.known hw hm,hw,ni _⟩
  simp[paG,hkey,q2]
 ·have q2:=Y3 (val:=λ_ _=>D.bl true) (k:=0) hm
  have hput:um (.ot (kvG (yP (dlt r1) (dlt r2) 0 0) (λ_ _=>.bl true) 0 ws)) (Y4 (dlt r1) (dlt r2) 0 0 (w++[a])) (.bl true)=some (.ot (kvG (yP (dlt r1) (dlt r2) 0 0) (λ_ _=>.bl true) 0 (ws++[w++[a]]))):=by
   unfold um
   simp only
   rw[hkey,bF,if_pos (by show _<aH;rw[QZ,szv];omega)]
   have:=zeN (val:=λ_ _=>D.bl true) hm
   rw[this]
  have cws:ws.length<16777216:=by omega
  have cw:w.length+1<=16777216:=by omega
  refine⟨ws++[w++[a]],.v (Y4 (dlt r1) (dlt r2) 0 0 (w++[a])),?_,B.fresh ha hw hm,by rw[eA hkl];exact hw,List.prefix_append _ _⟩
  simp[paG,hkey,q2,hput,we,cws,cw]
  simp[Y4,Y5,cws]
theorem zbs(J:OkR A r1)(O:OkR A r2){k:Nat}{w:List Nat}{ws:List (List Nat)}{y4 y8 y9:S}(R:r1.length<=2000)(U:r2.length<=2000)(B:Bfs (yP (dlt r1) (dlt r2) 0 0) A ws k 0)(hw:ws[k]?=some w):
  ∃j z q,xr (zk 8) uK (zW 0 A) (paG A r1 r2 g1 g2 ws y4 (.v (.tup (dN w))) (.v (.int (walk (dlt r1) 0 w:Int))) (.v (.int (walk (dlt r2) 0 w:Int))) y8 y9)=some (.nx (paG A r1 r2 g1 g2 j y4 (.v (.tup (dN w))) (.v (.int (walk (dlt r1) 0 w:Int))) (.v (.int (walk (dlt r2) 0 w:Int))) z q))/\
   Bfs (yP (dlt r1) (dlt r2) 0 0) A j (k+1) 0/\ws<+: j:=by
 obtain⟨G1,h1,j,z,q,hg,hB,ag,Y⟩:=xl (t:=zk 8) (fb:=uK) (zW 0 A)
  (λa Γ=>∃j z q,Γ=paG A r1 r2 g1 g2 j y4 (.v (.tup (dN w))) (.v (.int (walk (dlt r1) 0 w:Int))) (.v (.int (walk (dlt r2) 0 w:Int))) z q/\Bfs (yP (dlt r1) (dlt r2) 0 0) A j k a/\j[k]?=some w/\ws<+: j)
  (paG A r1 r2 g1 g2 ws y4 (.v (.tup (dN w))) (.v (.int (walk (dlt r1) 0 w:Int))) (.v (.int (walk (dlt r2) 0 w:Int))) y8 y9) ⟨ws,y8,y9,rfl,B,hw,ni _⟩ (by
   rintro a Γ ha ⟨ah,z,q,rfl,B1,Z,aa⟩
   have ab:a<A:=by simpa using ha
   obtain⟨ac,u9,e,B2,ae,af⟩:=zae (g1:=g1) (g2:=g2) (y4:=y4) (y9:=q) J O R U B1 Z ab
   refine⟨_,_,?_,e,ac,_,u9,rfl,B2,ae,aa.trans af⟩
   simp[paG])
 rw[xM]at hB
 exact⟨j,z,q,by rw[h1,hg],hB.next,Y⟩
theorem zeP(q:OkR A r1)(z:OkR A r2)(ac:A<=3)(J:r1.length<=2000)(O:r2.length<=2000):∃ws,UM [zn A r1 g1,zn A r2 g2]=some (.lst (ws.map (Y5 (dlt r1) (dlt r2))))/\Bfs (yP (dlt r1) (dlt r2) 0 0) A ws ws.length 0:=by
 obtain⟨G1,h2,ws,y4,y5,y6,j,y8,y9,hg,hB⟩:=Vk (t:=Yp) (b:=WJ)
  (λk Γ=>∃ws y5 y6 j y8 y9,Γ=paG A r1 r2 g1 g2 ws (.v (.int (k:Int))) y5 y6 j y8 y9/\Bfs (yP (dlt r1) (dlt r2) 0 0) A ws k 0/\k<=ws.length)
  (λΓ=>∃ws y4 y5 y6 j y8 y9,Γ=paG A r1 r2 g1 g2 ws y4 y5 y6 j y8 y9/\Bfs (yP (dlt r1) (dlt r2) 0 0) A ws ws.length 0) 4000000 (by
   rintro k Γ ⟨ws,y5,y6,j,y8,y9,rfl,B,hk⟩
   have Z:=zc3 (x0 q) (x0 z) q.pos z.pos B
   have ab:ws.length<=4000000:=bL Z (jD J O)
   refine⟨by omega,?_⟩
   by_cases R:k<ws.length
   ·refine .inr ⟨by simp[Yp,paG];omega,?_⟩
    have hw:ws[k]?=some ws[k]:=bH R
    obtain⟨U,z8,z9,e,B',aa⟩:=zbs (g1:=g1) (g2:=g2) (y4:=.v (.int (k:Int))) (y8:=y8) (y9:=y9) q z J O B hw
    have ae:=aa.length_le
    refine⟨paG A r1 r2 g1 g2 U (.v (.int ((k+1:Nat):Int))) (.v (.tup (dN ws[k]))) (.v (.int (walk (dlt r1) 0 ws[k]:Int))) (.v (.int (walk (dlt r2) 0 ws[k]:Int))) z8 z9,?_,U,_,_,_,_,_,rfl,B',by omega⟩
    have Y:(Jr (yG 3 (zD (zk 5) (zD (zk 6) (zD (zk 7) yJ)))) (x2 mIx (za 2) (za 4))) (paG A r1 r2 g1 g2 ws (.v (.int (k:Int))) y5 y6 j y8 y9)=some (.nx (paG A r1 r2 g1 g2 ws (.v (.int (k:Int))) (.v (.tup (dN ws[k]))) (.v (.int (walk (dlt r1) 0 ws[k]:Int))) (.v (.int (walk (dlt r2) 0 ws[k]:Int))) y8 y9)):=by
     have e:(x2 mIx (za 2) (za 4)) (paG A r1 r2 g1 g2 ws (.v (.int (k:Int))) y5 y6 j y8 y9)=some (.d (Y5 (dlt r1) (dlt r2) ws[k])):=by
      simp[paG,wo,R]
     unfold Jr
     rw[e]
     rfl
    have hr:(xR1 (zc (x2 mIx (za 0) (xC (.int 0))) zf)) (paG A r1 r2 g1 g2 ws (.v (.int (k:Int))) (.v (.tup (dN ws[k]))) (.v (.int (walk (dlt r1) 0 ws[k]:Int))) (.v (.int (walk (dlt r2) 0 ws[k]:Int))) y8 y9)=some (zW 0 A):=by
     simp[zn,xR (show A<1000000 by omega)]
    unfold WJ
    rw[zx,Y,zu,zx,xY,hr,xi,e,zu]
    rfl
   ·have:k=ws.length:=by omega
    subst this
    exact .inl ⟨by simp[Yp,paG],ws,_,y5,y6,j,y8,y9,rfl,B⟩) WFB 0
  (paG A r1 r2 g1 g2 [[]] (.v (.int ((0:Nat):Int))) .un .un .un .un .un) (by simp[WFB]) ⟨[[]],.un,.un,.un,.un,.un,rfl,Bfs.start,by simp⟩
 refine⟨ws,z7 rfl ?_,hB⟩
 subst hg
 unfold zcS
 rw[zx]
 show xp (some (.nx [.v (zn A r1 g1),.v (zn A r2 g2),.ol [.tup [.tup [],.int 0,.int 0]],.un,.un,.un,.un,.un,.un,.un])) _=_
 rw[zu,zx]
 show xp (some (.nx [.v (zn A r1 g1),.v (zn A r2 g2),.ol [.tup [.tup [],.int 0,.int 0]],.ot [([Sum.inl 0,Sum.inl 0],.bl true)],.un,.un,.un,.un,.un,.un])) _=_
 rw[zu,zx]
 show xp (some (.nx (paG A r1 r2 g1 g2 [[]] (.v (.int ((0:Nat):Int))) .un .un .un .un .un))) _=_
 rw[zu,zx,h2,zu]
 rfl
end
end Py
namespace Hop
section
variable {A:Nat} {r1 r2:List (List Nat)}
end
end Hop
namespace Hop
open Pu (Bfs slt sle vc v0 uL ZO Zf)
section
variable {A:Nat}
structure First (near:List (List Nat)) (A g j b:Nat):Prop where
 lb:b<A
 is:dl near b j=g
 fst:∀j' b',b'<A->(j'<j\/(j'=j/\b'<b))->dl near b' j'<g
structure Ws (near:List (List Nat)) (A:Nat) (ws:List (List Nat)):Prop where
 len:ws.length=near.length
 one:ws[0]?=some []
 by_:∀k,0<k->k<near.length->∃j b u,j<k/\First near A k j b/\ws[j]?=some u/\ws[k]?=some (u++[b])
theorem zhe(pos:0<near.length)(met:Met A near.length (dl near)):∃ws,Ws near A ws:=by
 have mk:∀n,n<=near.length->∃ws:List (List Nat),ws.length=n/\(0<n->ws[0]?=some [])/\∀k,0<k->k<n->∃j b u,j<k/\First near A k j b/\ws[j]?=some u/\ws[k]?=some (u++[b]):=λn=>by
  induction n with
  | zero=>exact λ_=>⟨[],rfl,λh=>absurd h (cI _),λk J h=>absurd h (jz _)⟩
  | succ n R=>
   intro hn
   obtain⟨ws,z,J,U⟩:=R (by omega)
   have q:∀{x:List Nat} (j:Nat) (y:List Nat),ws[j]?=some y->(ws++[x])[j]?=some y:=λj y h=>by
    rw[eA (aY.mp h).1];exact h
   by_cases Y:n=0
   ·subst Y
    have:ws=[]:=gN.mp z
    subst this
    exact⟨[[]],rfl,λ_=>rfl,λk h1 h2=>by omega⟩
   ·obtain⟨j,b,Z,q2,q3,q4⟩:=met n (by omega) (by omega)
    have hj:j<ws.length:=by omega
    refine⟨ws++[ws[j]++[b]],by simp[z],λ_=>q 0 _ (J (by omega)),λk h1 h2=>?_⟩
    by_cases hk:k<n
    ·obtain⟨O,b',u,r1,r2,r3,r4⟩:=U k h1 hk
     exact⟨O,b',u,r1,r2,q O u r3,q k _ r4⟩
    ·have e:k=n:=by omega
     subst e
     exact⟨j,b,ws[j],Z,⟨q2,q3,q4⟩,q j _ (bH hj),by rw[fD (by omega),z,kL];rfl⟩
 obtain⟨ws,h1,h2,h3⟩:=mk near.length (aP _)
 exact⟨ws,h1,h2 pos,h3⟩
theorem Zg:∀(w:List Nat) (s:Nat),walk δ s (w++[a])=δ a (walk δ s w)
 | [],_=>rfl
 | b::w,s=>Zg w (δ b s)
theorem Ws.walk(W:Ws near A ws):∀(k:Nat) (w:List Nat),ws[k]?=some w->walk (dl near) 0 w=k:=by
 intro k
 induction k using iT with
 | ind k z=>
  intro w q
  have J:=(aY.mp q).1
  by_cases O:k=0
  ·subst O;rw[W.one]at q;cases q;rfl
  ·obtain⟨j,b,u,R,U,Y,Z⟩:=W.by_ k (by omega) (by rw[<-W.len];exact J)
   rw[Z]at q;cases q
   rw[Zg,z j R u Y];exact U.is
theorem Ws.good(W:Ws near A ws):∀(k:Nat) (w:List Nat),ws[k]?=some w->∀x∈w,x<A:=by
 intro k
 induction k using iT with
 | ind k J=>
  intro w z x q
  have O:=(aY.mp z).1
  by_cases R:k=0
  ·subst R;rw[W.one]at z;cases z;cases q
  ·obtain⟨j,b,u,U,Y,Z,q4⟩:=W.by_ k (by omega) (by rw[<-W.len];exact O)
   rw[q4]at z;cases z
   rcases cA.mp q with q|q
   ·exact J j U u Z x q
   ·have:x=b:=by simpa using q
    rw[this];exact Y.lb
theorem zbt(h:First near A g j b)(h':First near A g' q z)(O:g<g'):j<q\/(j=q/\b<z):=by
 by_cases e:q<j\/(q=j/\z<b)
 ·have:=h.fst q z h'.lb e
  rw[h'.is]at this;omega
 ·by_cases J:j=q/\b=z
  ·obtain⟨rfl,rfl⟩:=J
   have:=h.is.symm.trans h'.is
   omega
  ·omega
theorem Ws.sorted(W:Ws near A ws):∀(j i:Nat) (u v:List Nat),i<j->ws[i]?=some u->ws[j]?=some v->slt u v:=by
 intro j
 induction j using iT with
 | ind j Y=>
  intro i u v z q J
  have R:=(aY.mp J).1
  rw[W.len]at R
  obtain⟨Z,b2,u2,q1,q2,O,q4⟩:=W.by_ j (by omega) R
  rw[q4]at J;cases J
  by_cases h0:i=0
  ·subst h0;rw[W.one]at q;cases q;exact uL
  ·obtain⟨j1,b1,u1,p1,p2,U,p4⟩:=W.by_ i (by omega) (by omega)
   rw[p4]at q;cases q
   rcases zbt p2 q2 z with h|⟨rfl,h⟩
   ·exact vc (Y Z q1 j1 u1 u2 h U O)
   ·rw[U]at O;cases O
    exact v0 h
theorem Ws.bfs{near:List (List Nat)}{ws:List (List Nat)}(ok:OkR A near)(W:Ws near A ws):Bfs (Hop.walk (dl near) 0) A ws ws.length 0 where
 one:=W.one
 nd:=by
  have e:ws.map (Hop.walk (dl near) 0)=aG ws.length:=by
   refine ia (by simp) λk h1 h2=>?_
   have hk:k<ws.length:=by simpa using h1
   rw[dQ,ic]
   exact W.walk k _ (bH hk)
  rw[e];exact hZ
 sorted:=λi j u v hij hu hv=>W.sorted j i u v hij hu hv
 from_:=λj x hx=>by
  by_cases h0:j=0
  ·subst h0;rw[W.one]at hx;cases hx;exact .inl rfl
  ·have hj:=(aY.mp hx).1
   obtain⟨i,b,u,q1,q2,q3,q4⟩:=W.by_ j (by omega) (by rw[<-W.len];exact hj)
   rw[q4]at hx;cases hx
   exact .inr ⟨i,b,u,.inl (by omega),q3,rfl⟩
 good:=λx hx y hy=>by
  obtain⟨k,hk⟩:=iO.mp hx
  exact W.good k x hk y hy
 closed:=λi b u hb hA hu=>by
  have hi:i<near.length:=by
   rw[<-W.len];rcases hb with h|⟨_,h⟩
   ·exact h
   ·omega
  have ht:=ok.lt b i hA hi
  have ew:Hop.walk (dl near) 0 (u++[b])=dl near b i:=by rw[Zg,W.walk i u hu]
  obtain⟨x,hx⟩:∃x,ws[dl near b i]?=some x:=⟨_,bH (by rw[W.len];exact ht)⟩
  refine⟨_,bX hx,(W.walk _ _ hx).trans ew.symm,?_⟩
  by_cases h0:dl near b i=0
  ·rw[h0,W.one]at hx
   have:=cV hx
   rw[<-this];exact .inr uL
  ·obtain⟨j2,b2,u2,q1,q2,q3,q4⟩:=W.by_ _ (by omega) ht
   rw[q4]at hx
   have:=cV hx
   rw[<-this]
   have nl:¬(i<j2\/(i=j2/\b<b2)):=λz=>by have:=q2.fst i b hA z;omega
   by_cases e:j2<i
   ·exact .inr (vc (W.sorted i j2 u2 u e q3 hu))
   ·have e2:j2=i:=by omega
    subst e2
    rw[q3]at hu;cases hu
    by_cases e3:b2=b
    ·subst e3;exact .inl rfl
    ·exact .inr (v0 (by omega))
end
end Hop
namespace Py
open PySem L2 DD Pu
open Hop (walk yd Canon dl OkR Lst First Ws)
section
variable {A:Nat}
abbrev ziu(J B j b:Nat):Prop:=j<J\/(j=J/\b<B)
structure WI (near:List (List Nat)) (A J B:Nat) (kvs:List (Key×D)):Prop where
 no:∀g:Nat,zM kvs (Sum.inl (g:Int))=none->∀j b:Nat,b<A->ziu J B j b->dl near b j≠g
 yes:∀(g:Nat) (v:D),zM kvs (Sum.inl (g:Int))=some v->∃j b:Nat,v=.tup [.int (j:Int),.int (b:Int)]/\b<A/\dl near b j=g/\∀j' b':Nat,b'<A->(j'<j\/(j'=j/\b'<b))->dl near b' j'≠g
 len:kvs.length<=J*A+B
theorem Vr{κ:Type} [DecidableEq κ] {kvs:List (κ×D)} {k:κ} {v:D} (h:zM kvs k=none) (j:κ):zM (yO kvs k v) j=if j=k then some v else zM kvs j:=by
 have hn:∀p∈kvs,p.1≠k:=λp q e=>by
  unfold zM at h
  rw[kX,iP]at h
  exact h p q (by simpa using e)
 rw[UQ hn]
 unfold zM
 rw[List.find?_append]
 by_cases e:j=k
 ·subst e
  have:kvs.find? (λJ=>decide (J.1=j))=none:=iP.mpr λp q=>by simpa using hn p q
  simp[this]
 ·have O:¬k=j:=λz=>e z.symm
  simp[e,O]
theorem zc5{κ:Type} [DecidableEq κ] {kvs:List (κ×D)} {k:κ} {v:D} (h:zM kvs k=none):(yO kvs k v).length=kvs.length+1:=by
 have hn:∀p∈kvs,p.1≠k:=λp j e=>by
  unfold zM at h
  rw[kX,iP]at h
  exact h p j (by simpa using e)
 rw[UQ hn];simp
theorem WI.step{near:List (List Nat)}{J B:Nat}{kvs:List (Key×D)}(w:WI near A J B kvs)(Z:B<A):WI near A J (B+1) (if(zM kvs (Sum.inl ((dl near B J:Nat):Int))).isSome=true then kvs else yO kvs (Sum.inl ((dl near B J:Nat):Int)) (.tup [.int (J:Int),.int (B:Int)])):=by
 cases R:zM kvs (Sum.inl ((dl near B J:Nat):Int))with
 | some v=>
  rw[if_pos (show(some v).isSome=true from rfl)]
  refine⟨λg q j b U hs z=>?_,w.yes,by have:=w.len;omega⟩
  by_cases e:j=J/\b=B
  ·obtain⟨rfl,rfl⟩:=e
   rw[z]at R;rw[q]at R;cases R
  ·exact w.no g q j b U (by omega) z
 | none=>
  rw[if_neg (by simp)]
  refine⟨λg q j b U hs z=>?_,λg v q=>?_,by rw[zc5 R];have:=w.len;omega⟩
  ·rw[Vr R]at q
   by_cases O:(Sum.inl (g:Int):Key)=Sum.inl ((dl near B J:Nat):Int)
   ·rw[if_pos O]at q;cases q
   ·rw[if_neg O]at q
    by_cases e:j=J/\b=B
    ·obtain⟨rfl,rfl⟩:=e
     exact O (by rw[z])
    ·exact w.no g q j b U (by omega) z
  ·rw[Vr R]at q
   by_cases O:(Sum.inl (g:Int):Key)=Sum.inl ((dl near B J:Nat):Int)
   ·rw[if_pos O]at q
    cases q
    have e2:g=dl near B J:=by injection O with O;omega
    subst e2
    exact⟨J,B,rfl,Z,rfl,λj' b' Y hl z=>w.no _ R j' b' Y hl z⟩
   ·rw[if_neg O]at q
    exact w.yes g v q
theorem WI.next(w:WI near A J A kvs):WI near A (J+1) 0 kvs :=
 ⟨λg q j b O R z=>w.no g q j b O (by omega) z,w.yes,by have:=w.len;rw[iR];omega⟩
theorem WI.start:WI near A 0 0 []:=⟨λg q j b z J=>by omega,λg v q=>(by cases q),by simp⟩
theorem zf9{near:List (List Nat)}{J:Nat}{a0 a1:S}{y5 y6:S}{x7 x8:S}{kvs:List (Key×D)}{row:List Nat}(hrow:row=near.getD J [])(hl:row.length=A)(hz:(J+1)*A<1000000)(w:WI near A J 0 kvs):
  ∃kvs' z5 z6,xr (yG 2 (zD (zk 5) (zD (zk 6) yJ))) Yg (zP (dN row)) [a0,a1,.ok kvs,.v (.int (J:Int)),.v (.tup (dN row)),y5,y6,x7,x8]=some (.nx [a0,a1,.ok kvs',.v (.int (J:Int)),.v (.tup (dN row)),z5,z6,x7,x8])/\WI near A J A kvs':=by
 obtain⟨G1,h1,kvs',z5,z6,hg,hw⟩:=xl (t:=yG 2 (zD (zk 5) (zD (zk 6) yJ))) (fb:=Yg) (zP (dN row))
  (λb Γ=>∃kvs' z5 z6,Γ=[a0,a1,.ok kvs',.v (.int (J:Int)),.v (.tup (dN row)),z5,z6,x7,x8]/\WI near A J b kvs')
  [a0,a1,.ok kvs,.v (.int (J:Int)),.v (.tup (dN row)),y5,y6,x7,x8] ⟨kvs,y5,y6,rfl,w⟩ (by
   rintro b Γ hb ⟨kvs1,z5,z6,rfl,w1⟩
   have hb':b<A:=by
    have:=hb
    rw[uf,aM,hl]at this
    exact this
   have hbr:b<row.length:=by omega
   have eg:dl near b J=row[b]:=by
    show(near.getD J []).getD b 0=_
    rw[<-hrow,Hop.wb hbr]
   have w2:=w1.step hb'
   rw[eg]at w2
   refine⟨[a0,a1,.ok kvs1,.v (.int (J:Int)),.v (.tup (dN row)),.v (.int (b:Int)),.v (.int ((row[b]:Nat):Int)),x7,x8],[a0,a1,.ok (if(zM kvs1 (Sum.inl ((row[b]:Nat):Int))).isSome=true then kvs1 else yO kvs1 (Sum.inl ((row[b]:Nat):Int)) (.tup [.int (J:Int),.int (b:Int)])),.v (.int (J:Int)),.v (.tup (dN row)),.v (.int (b:Int)),.v (.int ((row[b]:Nat):Int)),x7,x8],?_,?_,_,_,_,rfl,w2⟩
   ·rw[show(zP (dN row))[b]'hb=.tup [.int (b:Int),.int ((row[b]:Nat):Int)]from by simp[zP,bI,hbr]]
    rfl
   ·have hlen:=w1.len
    have hsz:kvs1.length<aH:=by
     rw[szv]
     rw[iR]at hz
     omega
    generalize row[b]=gg
    unfold Yg
    have h1:vu true (.d (.int (gg:Int))) (.k kvs1)=some (.bl (!(zM kvs1 (Sum.inl (gg:Int))).isSome)):=rfl
    cases hv:zM kvs1 (Sum.inl (gg:Int))with
    | some v=>
     rw[hv]at h1
     simp[h1]
    | none=>
     rw[hv]at h1
     have hp:um (.ok kvs1) (.int (gg:Int)) (.tup [.int (J:Int),.int (b:Int)])=some (.ok (yO kvs1 (Sum.inl (gg:Int)) (.tup [.int (J:Int),.int (b:Int)]))):=if_pos hsz
     simp[h1,hp])
 rw[uf,aM,hl]at hw
 exact⟨kvs',z5,z6,by rw[h1,hg],hw⟩
theorem zbu{near:List (List Nat)}{g j b:Nat}{i:Nat}{kvs:List (Key×D)}(w:WI (near.take i) A i 0 kvs)(hi:i<=near.length)(F:First near A g j b)(O:j<i):zM kvs (Sum.inl (g:Int))=some (.tup [.int (j:Int),.int (b:Int)]):=by
 have ed:∀J q,q<i->dl (near.take i) J q=dl near J q:=λJ q h=>by
  have e:(near.take i).getD q []=near.getD q []:=by rw[bI,j3 h,<-bI]
  show((near.take i).getD q []).getD J 0=(near.getD q []).getD J 0
  rw[e]
 cases Y:zM kvs (Sum.inl (g:Int))with
 | none=>exact absurd ((ed b j O).trans F.is) (w.no g Y j b F.lb (.inl O))
 | some v=>
  obtain⟨q,J,rfl,R,e,Z⟩:=w.yes g v Y
  have n1:¬(j<q\/(j=q/\b<J)):=λz=>Z j b F.lb z ((ed b j O).trans F.is)
  by_cases U:q<i
  ·have n2:¬(q<j\/(q=j/\J<b)):=λz=>by
    have h2:=F.fst q J R z
    rw[<-ed J q U,e]at h2
    omega
   have e1:q=j:=by omega
   have e2:J=b:=by omega
   rw[e1,e2]
  ·omega
theorem Ql{near:List (List Nat)}{ws:List (List Nat)}{i m:Nat}{rd:D}{w:List Nat}(Z:rd=.lst (zi (near.take m))\/rd=.tup (zi (near.take m)))(al:i<=m)(aa:m<=near.length)(ok:OkR A near)(W:Ws near A ws)(ab:A<=3)(hz:near.length<=50000)(hi:i<near.length)(hw:ws[i]?=some w):UG [.int (i:Int),rd]=some (.tup (dN w)):=by
 obtain⟨G1,h1,kvs,y3,y4,y5,y6,hg,hW⟩:=xl (t:=yG 2 (zD (zk 3) (zD (zk 4) yJ))) (fb:=Wz) (zP (zi (near.take m)))
  (λJ Γ=>∃kvs y3 y4 y5 y6,Γ=[.v (.int (i:Int)),.v rd,.ok kvs,y3,y4,y5,y6,.un,.un]/\WI (near.take m) A J 0 kvs)
  [.v (.int (i:Int)),.v rd,.ok [],.un,.un,.un,.un,.un,.un] ⟨[],.un,.un,.un,.un,rfl,WI.start⟩ (by
   rintro J Γ hJ ⟨kvs,y3,y4,y5,y6,rfl,w0⟩
   have ac:J<m:=by
    have:=hJ
    rw[uf,aM,fC]at this
    omega
   have R:J<(near.take m).length:=by rw[fC];omega
   have ae:(near.take m).getD J []=near.getD J []:=by
    rw[bI,j3 ac,<-bI]
   have af:((near.take m).getD J []).length=A:=by rw[ae];exact ok.len J (by omega)
   have ag:(J+1)*A<1000000:=by
    have:(J+1)*A<=50000*3:=jD (by omega) ab
    omega
   obtain⟨O,z5,z6,e,w1⟩:=zf9 (a0:=.v (.int (i:Int))) (a1:=.v rd) (y5:=y5) (y6:=y6) (x7:=.un) (x8:=.un) (row:=(near.take m).getD J []) rfl af ag w0
   have ah:(zP (zi (near.take m)))[J]'hJ=.tup [.int (J:Int),.tup (dN ((near.take m).getD J []))]:=by
    have e1:(zi (near.take m)).getD J .non=.tup (dN ((near.take m).getD J [])):=by
     rw[bI,bG,bH R,bI,bH R];rfl
    simp only[zP,dQ,ic,e1]
   refine⟨[.v (.int (i:Int)),.v rd,.ok kvs,.v (.int (J:Int)),.v (.tup (dN ((near.take m).getD J []))),y5,y6,.un,.un],[.v (.int (i:Int)),.v rd,.ok O,.v (.int (J:Int)),.v (.tup (dN ((near.take m).getD J []))),z5,z6,.un,.un],by rw[ah];rfl,?_,O,_,_,z5,z6,rfl,w1.next⟩
   unfold Wz
   rw[xY,zg9]
   exact e)
 have ai:(zP (zi (near.take m))).length=m:=by rw[uf,aM,fC];omega
 rw[ai]at hW
 have back:∀(k:Nat) (acc u:List Nat),k<=i->ws[k]?=some u->acc.length+k<=900000->∀z,k<z->∃q,yB vM Yh z [.v (.int (i:Int)),.v rd,.ok kvs,y3,y4,y5,y6,.ol (dN acc),.v (.int (k:Int))]=some (.nx [.v (.int (i:Int)),.v rd,.ok kvs,y3,y4,y5,y6,.ol (dN q),.v (.int 0)])/\q.reverse=u++acc.reverse:=by
  intro k
  induction k using iT with
  | ind k ih=>
   intro acc u hk Y am z hf
   cases z with
   | zero=>omega
   | succ z=>
    by_cases h0:k=0
    ·subst h0
     rw[W.one]at Y;cases Y
     refine⟨acc,?_,by simp⟩
     unfold yB
     have:vM [.v (.int (i:Int)),.v rd,.ok kvs,y3,y4,y5,y6,.ol (dN acc),.v (.int ((0:Nat):Int))]=some false:=by simp[vM]
     rw[this];rfl
    ·obtain⟨j,b,u',q1,q2,q3,q4⟩:=W.by_ k (by omega) (by omega)
     rw[q4]at Y;cases Y
     have hv:=zbu hW aa q2 (by omega)
     obtain⟨q,e,er⟩:=ih j q1 (acc++[b]) u' (by omega) q3 (by simp;omega) z (by omega)
     refine⟨q,?_,by rw[er];simp⟩
     unfold yB
     have ht:vM [.v (.int (i:Int)),.v rd,.ok kvs,y3,y4,y5,y6,.ol (dN acc),.v (.int (k:Int))]=some true:=by
      have:¬((k:Int)=0):=by omega
      simp[vM,h0]
     rw[ht,bF,if_pos rfl]
     have U:uc (.k kvs) (.d (.int (k:Int)))=some (.tup [.int (j:Int),.int (b:Int)]):=hv
     have hb:Yh [.v (.int (i:Int)),.v rd,.ok kvs,y3,y4,y5,y6,.ol (dN acc),.v (.int (k:Int))]=some (.nx [.v (.int (i:Int)),.v rd,.ok kvs,y3,y4,y5,y6,.ol (dN (acc++[b])),.v (.int (j:Int))]):=by
      have cl:acc.length<16777216:=by omega
      simp[Yh,U,we,cl]
     rw[hb]
     exact e
 have aj:i<WF:=by unfold WF;omega
 obtain⟨q,e,er⟩:=back i [] w (aP _) hw (by simp;omega) WF aj
 have ak:q.reverse=w:=by simpa using er
 refine z7 rfl ?_
 subst hg
 unfold zcJ
 show zt _ _ [.v (.int (i:Int)),.v rd,.un,.un,.un,.un,.un,.un,.un]=_
 rw[zx,show(ud 2) [.v (.int (i:Int)),.v rd,.un,.un,.un,.un,.un,.un,.un]=some (.nx [.v (.int (i:Int)),.v rd,.ok [],.un,.un,.un,.un,.un,.un])from rfl,zu,zx,xY]
 rw[show(JN (uY (zc (za 1) zf)) (xEn (zc (za 1) zf))) [.v (.int (i:Int)),.v rd,.ok [],.un,.un,.un,.un,.un,.un]=some (zP (zi (near.take m)))from by rcases Z with rfl|rfl <;>rfl]
 rw[xi,h1,zu,zx]
 show xp (some (.nx [.v (.int (i:Int)),.v rd,.ok kvs,y3,y4,y5,y6,.ol (dN []),.un])) _=_
 rw[zu,zx]
 show xp (some (.nx [.v (.int (i:Int)),.v rd,.ok kvs,y3,y4,y5,y6,.ol (dN []),.v (.int (i:Int))])) _=_
 rw[zu,zx,e,zu]
 show some (Out.rt (D.tup (dN q).reverse))=_
 rw[<-ak,show dN q.reverse=(dN q).reverse from List.map_reverse]
end
end Py
namespace Py
open PySem L2 DD Pu
open Hop (walk yd Canon dl OkR Lst)
section
variable {κ:Type} [DecidableEq κ] {key:List Nat->κ} {A:Nat}
variable {ws:List (List Nat)}
end
end Py
namespace Py
open PySem L2 DD Pu
open Hop (walk yd Canon dl OkR Lst First Ws)
def Zh(A:Nat)(P:List Nat->Bool):Option (List Nat)->Prop
 | none=>∀u,(∀x∈u,x<A)->P u=false
 | some w=>(∀x∈w,x<A)/\P w=true/\∀u,(∀x∈u,x<A)->P u=true->sle w u
theorem U2(h:sle u v)(h':sle v u):u=v:=by
 rcases h with h|h
 ·exact h
 ·rcases h' with h'|h'
  ·exact h'.symm
  ·exfalso
   rcases h with h|⟨h1,h2⟩ <;>rcases h' with h'|⟨q,j⟩
   ·omega
   ·omega
   ·omega
   ·rw[YE u v h2]at j;cases j
theorem Zh.one:∀{o o':Option (List Nat)},Zh A P o->Zh A P o'->o=o'
 | none,none,_,_=>rfl
 | none,some w,h,h'=>by have:=h w h'.1;rw[h'.2.1]at this;cases this
 | some w,none,h,h'=>by have:=h' w h.1;rw[h.2.1]at this;cases this
 | some w,some j,h,h'=>by rw[U2 (h.2.2 j h'.1 h'.2.1) (h'.2.2 w h.1 h.2.1)]
def WP:Option (List Nat)->D
 | none=>.non
 | some w=>.tup (dN w)
theorem U3{A:Nat}{κ:Type} [DecidableEq κ] {key:List Nat->κ} {ws:List (List Nat)} {P:List Nat->Bool} (B:Bfs key A ws ws.length 0) (q:∀u v a,a<A->(∀x∈u,x<A)->(∀x∈v,x<A)->key u=key v->key (u++[a])=key (v++[a])) (hP:∀u v,(∀x∈u,x<A)->(∀x∈v,x<A)->key u=key v->P u=P v) :
  (∀(i:Nat) (w:List Nat),ws[i]?=some w->P w=true->(∀(j:Nat) (u:List Nat),j<i->ws[j]?=some u->P u=false)->Zh A P (some w))/\((∀w∈ws,P w=false)->Zh A P none):=by
 refine⟨λi w U hp hf=>⟨B.good w (bX U),hp,λu z Y=>?_⟩,λh u z=>?_⟩
 ·obtain⟨x,J,e,l⟩:=B.first q u.length u rfl z
  obtain⟨j,R⟩:=iO.mp J
  have O:P x=true:=(hP x u (B.good x J) z e).trans Y
  by_cases Z:j<i
  ·rw[hf j x Z R]at O;cases O
  ·by_cases e2:j=i
   ·subst e2;rw[U]at R;cases R;exact l
   ·exact ZO (.inr (B.sorted i j w x (by omega) U R)) l
 ·obtain⟨x,J,e,_⟩:=B.first q u.length u rfl z
  rw[<-hP x u (B.good x J) z e];exact h x J
end Py
namespace Hop
def cnt(A:Nat)(δ:Nat->Nat->Nat)(g:Nat->Bool):Nat->Nat->Nat
 | 0,s=>if g s=true then 1 else 0
 | n+1,s=>((aG A).map λa=>cnt A δ g n (δ a s)).sum
section
variable {A:Nat} {δ δ':Nat->Nat->Nat} {g g':Nat->Bool}
theorem xG{α:Type}{f h:α->Nat}{l:List α}(e:∀x∈l,f x=h x):(l.map f).sum=(l.map h).sum:=by rw[fJ e]
theorem zbv:∀{s t:Nat},yd A δ δ' g g' s t->cnt A δ g n s=cnt A δ' g' n t:=by
 induction n with
 | zero=>
  intro s t h
  have:g s=g' t:=h [] (by simp)
  unfold cnt
  rw[this]
 | succ n j=>
  intro s t h
  unfold cnt
  exact xG λa q=>j (h.step (bZ.mp q))
theorem U4(h:∀a,a<A->δ a s=s)(j:g s=false):∀n,cnt A δ g n s=0
 | 0=>by simp[cnt,j]
 | n+1=>by
  unfold cnt
  rw[xG (h:=λ_=>0) λa q=>by rw[h a (bZ.mp q)];exact U4 h j n]
  induction aG A with
  | nil=>rfl
  | cons x r z=>simpa using z
def lay(A:Nat):Nat->List (List Nat)
 | 0=>[[]]
 | k+1=>(lay A k).flatMap λw=>(aG A).map λa=>w++[a]
theorem uM:∀{w:List Nat},w∈lay A k->w.length=k/\∀x∈w,x<A:=by
 induction k with
 | zero=>
  intro w h
  have:w=[]:=by simpa[lay]using h
  subst this;exact⟨rfl,by simp⟩
 | succ k q=>
  intro w h
  unfold lay at h
  obtain⟨v,z,h⟩:=kH.mp h
  obtain⟨a,J,rfl⟩:=bK.mp h
  obtain⟨h1,h2⟩:=q z
  refine⟨by simp[h1],λx j=>?_⟩
  rcases cA.mp j with j|j
  ·exact h2 x j
  ·have:x=a:=by simpa using j
   rw[this];exact bZ.mp J
theorem U5{α β:Type}{f:β->Nat}{k:α->List β}:∀l:List α,((l.flatMap k).map f).sum=(l.map λx=>((k x).map f).sum).sum
 | []=>rfl
 | x::r=>by rw[jy,eI,mS,U5 r,aR,cU]
theorem zeQ(s:Nat)(j:Nat):∀k,((lay A k).map λw=>cnt A δ g j (walk δ s w)).sum=cnt A δ g (k+j) s:=λk=>by
 induction k generalizing j with
 | zero=>simp[lay,walk]
 | succ k q=>
  unfold lay
  rw[U5,show k+1+j=k+(j+1) by omega,<-q (j+1)]
  refine xG λw _=>?_
  rw[cN]
  show _=cnt A δ g (j+1) _
  conv=>rhs;unfold cnt
  refine xG λa _=>?_
  show cnt A δ g j (walk δ s (w++[a]))=_
  unfold walk
  rw[hX];rfl
theorem XR{α:Type}{p:α->Bool}:∀l:List α,(l.filter p).length=(l.map λx=>if p x=true then 1 else 0).sum
 | []=>rfl
 | x::r=>by
  rw[gM,aR,cU,<-XR r]
  cases p x <;>simp <;>omega
theorem zbw{k s:Nat}:((lay A k).filter λw=>g (walk δ s w)).length=cnt A δ g k s:=by
 rw[XR]
 exact zeQ s 0 k
abbrev Tb:=List (Nat×Nat)
def vl(f:Nat->Nat)(t:Tb):Nat:=(t.map λp=>p.2*f p.1).sum
def gt(t:Tb)(k:Nat):Nat:=match t with
 | []=>0
 | (q,c)::r=>if q=k then c else gt r k
def pt(t:Tb)(k c:Nat):Tb:=match t with
 | []=>[(k,c)]
 | (q,d)::r=>if q=k then(q,c)::r else(q,d)::pt r k c
def ad(t:Tb)(k c:Nat):Tb:=pt t k (gt t k+c)
theorem VI:∀t:Tb,vl f (ad t k c)=vl f t+c*f k
 | []=>by simp[ad,pt,gt,vl]
 | (q,d)::r=>by
  have j:=VI (f:=f) (k:=k) (c:=c) r
  unfold ad at j ⊢
  unfold pt gt
  by_cases e:q=k
  ·subst e
   rw[if_pos rfl,if_pos rfl]
   simp only[vl,aR,cU,iR]
   omega
  ·rw[if_neg e,if_neg e]
   unfold vl at j ⊢
   rw[aR,cU,j,aR,cU]
   omega
theorem WQ:∀t:Tb,(pt t k c).map bA=if k∈t.map bA then t.map bA else t.map bA++[k]
 | []=>by simp[pt]
 | (q,d)::r=>by
  unfold pt
  by_cases e:q=k
  ·subst e;simp
  ·have j:¬k=q:=λz=>e z.symm
   rw[if_neg e,aR,WQ r]
   by_cases h:k∈r.map bA
   ·rw[if_pos h,if_pos (by simp only[aR];exact bC _ h)];rfl
   ·rw[if_neg h,if_neg (by simp only[aR,aW,not_or];exact⟨j,h⟩)];rfl
structure TOk (n:Nat) (t:Tb):Prop where
 nd:(t.map bA).Nodup
 lt:∀k∈t.map bA,k<n
theorem TOk.ad{n k c:Nat}{t:Tb}(h:TOk n t)(hk:k<n):TOk n (ad t k c):=by
 refine⟨?_,λx hx=>?_⟩
 ·unfold Hop.ad
  rw[WQ]
  by_cases e:k∈t.map bA
  ·rw[if_pos e];exact h.nd
  ·rw[if_neg e,cZ]
   refine⟨h.nd,by simp,λa ha b hb z=>?_⟩
   have:b=k:=by simpa using hb
   exact e (by rw[<-this,<-z];exact ha)
 ·unfold Hop.ad at hx
  rw[WQ]at hx
  by_cases e:k∈t.map bA
  ·rw[if_pos e]at hx;exact h.lt x hx
  ·rw[if_neg e]at hx
   rcases cA.mp hx with hx|hx
   ·exact h.lt x hx
   ·have:x=k:=by simpa using hx
    rw[this];exact hk
theorem TOk.len(h:TOk n t):t.length<=n:=by
 have:=yq (l:=t.map bA) (m:=aG n) h.nd λx j=>bZ.mpr (h.lt x j)
 simpa using this
theorem TOk.nil:TOk n []:=⟨by simp,by simp⟩
def wc(t:Tb)(row:Tb)(c:Nat):Tb:=row.foldl (λt p=>ad t p.1 (c*p.2)) t
def spr(t:Tb)(M:List Tb):Tb:=t.foldl (λacc p=>wc acc (M.getD p.1 []) p.2) []
theorem U6:∀(row t:Tb),vl f (wc t row c)=vl f t+c*vl f row
 | [],t=>by simp[wc,vl]
 | p::r,t=>by
  show vl f (wc (ad t p.1 (c*p.2)) r c)=_
  rw[U6 r,VI]
  unfold vl
  rw[aR,cU,Nat.mul_add,nj]
  omega
theorem Y6:∀(row t:Tb),TOk n row->TOk n t->TOk n (wc t row c)
 | [],t,_,h=>h
 | p::r,t,j,h=>by
  have h1:=j.nd
  have h2:=j.lt
  rw[aR]at h1 h2
  exact Y6 r _ ⟨(cF.mp h1).2,λk q=>h2 k (bC _ q)⟩ (h.ad (h2 p.1 bE))
theorem U7{f:Nat->Nat}{M:List Tb}:∀(t acc:Tb),vl f (t.foldl (λacc p=>wc acc (M.getD p.1 []) p.2) acc)=vl f acc+vl (λs=>vl f (M.getD s [])) t
 | [],acc=>by simp[vl]
 | p::r,acc=>by
  rw[gO,U7 r,U6]
  have e:vl (λs=>vl f (M.getD s [])) (p::r)=p.2*vl f (M.getD p.1 [])+vl (λs=>vl f (M.getD s [])) r:=by
   show(iU _ (p::r)).sum=_
   rw[aR,cU];rfl
  rw[e]
  omega
theorem zbx:vl f (spr t M)=vl (λs=>vl f (M.getD s [])) t:=by
 unfold spr
 rw[U7];simp[vl]
theorem zby{n:Nat}{M:List Tb}(j:∀s,s<n->TOk n (M.getD s [])):∀(t acc:Tb),(∀k∈t.map bA,k<n)->TOk n acc->TOk n (t.foldl (λacc p=>wc acc (M.getD p.1 []) p.2) acc)
 | [],acc,_,h=>h
 | p::r,acc,q,h=>zby j r _ (λk z=>q k (by rw[aR];exact bC _ z)) (Y6 _ _ (j p.1 (q p.1 (by rw[aR];exact bE))) h)
theorem zc6(e:∀k∈t.map bA,f k=h k):vl f t=vl h t :=
 xG λp j=>by rw[e p.1 (bK.mpr ⟨p,j,rfl⟩)]
structure Stp (A:Nat) (δ:Nat->Nat->Nat) (g:Nat->Bool) (n m:Nat) (M:List Tb):Prop where
 len:M.length=n
 ok:∀s,s<n->TOk n (M.getD s [])
 is:∀s,s<n->∀l,vl (cnt A δ g l) (M.getD s [])=cnt A δ g (m+l) s
theorem Stp.spr(h:Stp A δ g n m M)(j:TOk n t):TOk n (spr t M)/\∀l,vl (cnt A δ g l) (spr t M)=vl (cnt A δ g (m+l)) t :=
 ⟨zby h.ok t [] j.lt .nil,λl=>by rw[zbx];exact zc6 λk q=>h.is k (j.lt k q) l⟩
theorem Stp.twice{n m:Nat}{M:List Tb}(h:Stp A δ g n m M):Stp A δ g n (m+m) (M.map λr=>Hop.spr r M):=by
 have at_:∀s,s<n->(M.map λr=>Hop.spr r M).getD s []=Hop.spr (M.getD s []) M:=λs hs=>by
  have hs':s<M.length:=by rw[h.len];exact hs
  simp[bI,hs']
 refine⟨by simp[h.len],λs hs=>?_,λs hs l=>?_⟩
 ·rw[at_ s hs];exact(h.spr (h.ok s hs)).1
 ·rw[at_ s hs,(h.spr (h.ok s hs)).2 l,h.is s hs (m+l),Nat.add_assoc]
def arw(lost:Nat->Bool)(row:List Nat):Tb:=row.foldl (λt x=>if lost x=true then t else ad t x 1) []
theorem zbz{lost:Nat->Bool}{f:Nat->Nat}:∀(row:List Nat) (t:Tb),(∀x∈row,lost x=true->f x=0)->vl f (row.foldl (λt x=>if lost x=true then t else ad t x 1) t)=vl f t+(row.map f).sum
 | [],t,_=>by simp
 | x::r,t,h=>by
  rw[gO,zbz r _ λy j=>h y (bC _ j),aR,cU]
  by_cases e:lost x=true
  ·rw[if_pos e,h x bE e];omega
  ·rw[if_neg e,VI];omega
theorem zbA{n:Nat}{lost:Nat->Bool}:∀(row:List Nat) (t:Tb),(∀x∈row,x<n)->TOk n t->TOk n (row.foldl (λt x=>if lost x=true then t else ad t x 1) t)
 | [],t,_,h=>h
 | x::r,t,j,h=>by
  rw[gO]
  refine zbA r _ (λy q=>j y (bC _ q)) ?_
  by_cases e:lost x=true
  ·rw[if_pos e];exact h
  ·rw[if_neg e];exact h.ad (j x bE)
theorem zdU:∀{t:Tb},k∉t.map bA->gt t k=0
 | [],_=>rfl
 | (q,c)::r,h=>by
  simp only[aR,aW,not_or]at h
  unfold gt
  rw[if_neg λz=>h.1 z.symm,zdU h.2]
theorem zbB(q:h k=0):∀{l:List Nat},l.Nodup->(l.map λs=>if k=s then c else h s).sum=(if k∈l then c else 0)+(l.map h).sum
 | [],_=>by simp
 | x::r,j=>by
  rw[cF]at j
  rw[aR,cU,aR,cU,zbB q j.2]
  by_cases e:k=x
  ·subst e
   simp[j.1,q]
  ·rw[if_neg e]
   by_cases m:k∈r
   ·rw[if_pos m,if_pos (bC _ m)];omega
   ·rw[if_neg m,if_neg (by simp only[aW,not_or];exact⟨e,m⟩)];omega
theorem zbC{l:List Nat}(j:l.Nodup):∀{t:Tb},(t.map bA).Nodup->(l.map (gt t)).sum=(t.map λp=>if p.1∈l then p.2 else 0).sum
 | [],_=>by
  rw[xG (f:=gt []) (h:=λ_=>0) λ_ _=>rfl]
  induction l with
  | nil=>rfl
  | cons x r z=>rw[cF]at j;simpa using z j.2
 | (q,c)::r,h=>by
  rw[aR,cF]at h
  rw[aR,cU,<-zbC j h.2,<-zbB (zdU h.1) j]
  exact xG λs _=>by
   show(if q=s then c else gt r s)=_
   rfl
theorem zbD{n:Nat}{t:Tb}(h:TOk n t):(((aG n).filter g).map (gt t)).sum=vl (cnt A δ g 0) t:=by
 rw[zbC (kZ _ hZ) h.nd]
 refine xG λp q=>?_
 have j:=h.lt p.1 (bK.mpr ⟨p,q,rfl⟩)
 unfold cnt
 by_cases e:g p.1=true
 ·rw[if_pos e,if_pos (eL.mpr ⟨bZ.mpr j,e⟩)];omega
 ·rw[if_neg e,if_neg λz=>e (eL.mp z).2];omega
abbrev on1:Nat->Nat:=λ_=>1
theorem zhf(h:p∈r):p.2<=vl on1 r:=by
 induction r with
 | nil=>cases h
 | cons q r j=>
  unfold vl
  rw[aR,cU]
  rcases aW.mp h with rfl|h
  ·show _<=p.2*1+_
   omega
  ·have:=j h
   unfold vl at this
   omega
theorem Q2{lost:Nat->Bool}:∀(row:List Nat) (t:Tb),vl on1 (row.foldl (λt x=>if lost x=true then t else ad t x 1) t)<=vl on1 t+row.length
 | [],t=>by simp
 | x::r,t=>by
  rw[gO]
  refine bL (Q2 r _) ?_
  rw[cC]
  by_cases e:lost x=true
  ·rw[if_pos e];omega
  ·rw[if_neg e,VI];show _+1*1+_<=_;omega
def Bnd(M:List Tb)(b:Nat):Prop:=∀r∈M,vl on1 r<=b
theorem Bnd.at(h:Bnd M b)(s:Nat):vl on1 (M.getD s [])<=b:=by
 rw[bI]
 cases e:M[s]? with
 | none=>exact cR _
 | some r=>exact h r (bX e)
theorem zdV(h:∀s,f s<=b):∀t:Tb,vl f t<=vl on1 t*b
 | []=>by simp[vl]
 | p::r=>by
  have j:=zdV h r
  unfold vl at j ⊢
  rw[aR,cU,aR,cU,iR]
  have:=k4 p.2 (h p.1)
  show _<=p.2*1*b+_
  rw[Nat.mul_one]
  omega
theorem Bnd.twice(h:Bnd M b):Bnd (M.map λr=>spr r M) (b*b):=λr j=>by
 obtain⟨q,z,rfl⟩:=bK.mp j
 rw[zbx]
 exact bL (zdV h.at q) (iS b (h q z))
def wal(A:Nat):Nat->List (List Nat)
 | 0=>[[]]
 | k+1=>wal A k++lay A (k+1)
theorem zga:∀{w:List Nat},w∈wal A k->w.length<=k/\∀x∈w,x<A:=by
 induction k with
 | zero=>
  intro w h
  have:w=[]:=by simpa[wal]using h
  subst this;exact⟨aP _,by simp⟩
 | succ k j=>
  intro w h
  rcases cA.mp h with h|h
  ·exact⟨Nat.le_succ_of_le (j h).1,(j h).2⟩
  ·exact⟨eN (uM h).1,(uM h).2⟩
theorem zeR:(wal A k).filter (λw=>decide (w.length=k))=lay A k:=by
 cases k with
 | zero=>rfl
 | succ k=>
  show(wal A k++lay A (k+1)).filter _=_
  rw[iJ,List.filter_eq_nil_iff.mpr λw j=>by have:=(zga j).1;simp;omega,mN.mpr λw j=>by simpa using (uM j).1]
  rfl
end
end Hop
namespace Py
open PySem L2 DD Pu
open Hop (walk yd Canon dl OkR Lst Tb TOk Stp cnt vl gt pt ad wc spr arw lay)
abbrev kI(n:Nat):Key:=Sum.inl (n:Int)
def kvT(t:Tb):List (Key×D):=t.map λp=>(kI p.1,D.int (p.2:Int))
def zm(t:Tb):D:=.dK (t.map λp=>kI p.1) (t.map λp=>D.int (p.2:Int))
theorem XS(h:a≠b):¬(kI a=kI b):=λz=>h (by injection z with z;omega)
theorem ziv(t:Tb):(t.map λp=>kI p.1).zip (t.map λp=>D.int (p.2:Int))=kvT t:=by
 unfold kvT
 induction t with
 | nil=>rfl
 | cons p r j=>rw[aR,aR,iF,j,aR]
theorem zgb:(D.dK ((kvT t).map bA) ((kvT t).map dG))=zm t:=by
 unfold kvT zm
 rw[cN,cN];rfl
theorem zaf{k:Nat}:∀t:Tb,(zM (kvT t) (kI k)).getD (.int 0)=.int (gt t k:Int)
 | []=>rfl
 | (q,c)::r=>by
  have j:=zaf (k:=k) r
  unfold zM at j ⊢
  show((nk _ ((kI q,D.int (c:Int))::kvT r)).map _).getD _=_
  rw[cT]
  unfold gt
  by_cases e:q=k
  ·subst e;simp
  ·simp only[XS e,decide_false,if_neg e]
   exact j
theorem zc7{k c:Nat}:∀t:Tb,(t.map bA).Nodup->yO (kvT t) (kI k) (.int (c:Int))=kvT (pt t k c)
 | [],_=>rfl
 | (q,d)::r,J=>by
  rw[aR,cF]at J
  have R:=zc7 (k:=k) (c:=c) r J.2
  unfold yO at R ⊢
  show(if(((kI q,D.int (d:Int))::kvT r).any λj=>decide (j.1=kI k))=true then((kI q,D.int (d:Int))::kvT r).map (λj=>if j.1=kI k then(j.1,D.int (c:Int))else j)else((kI q,D.int (d:Int))::kvT r)++[(kI k,D.int (c:Int))])=kvT (pt ((q,d)::r) k c)
  unfold pt
  by_cases e:q=k
  ·subst e
   rw[if_pos rfl,if_pos (by simp),aR,if_pos rfl]
   show _=(kI q,D.int (c:Int))::kvT r
   congr 1
   conv=>rhs;rw[<-List.map_id (kvT r)]
   refine fJ λj O=>?_
   obtain⟨p,U,rfl⟩:=bK.mp O
   have:p.1≠q:=λz=>J.1 (bK.mpr ⟨p,U,z⟩)
   rw[if_neg (XS this)];rfl
  ·rw[if_neg e,fF,aR,if_neg (XS e)]
   show(if(decide (kI q=kI k) || _)=true then _ else _)=(kI q,D.int (d:Int))::kvT (pt r k c)
   rw[<-R]
   have Y:decide (kI q=kI k)=false:=by simpa using XS e
   rw[Y,lZ]
   split <;>rfl
theorem zbE(t:Tb):wT (t.map λp=>kI p.1) (t.map λp=>D.int (p.2:Int))=t.map λp=>D.tup [.int (p.1:Int),.int (p.2:Int)]:=by
 unfold wT
 induction t with
 | nil=>rfl
 | cons p r j=>rw[aR,aR,List.zipWith_cons_cons,j,aR];rfl
section
variable {A n:Nat} {t row:Tb} {M:List Tb}
def Sml(M:List Tb):Prop:=∀r∈M,∀p∈r,p.2<2^64
theorem zeS{c k m:Nat}{a0 a1 y3:S}(j:TOk n t)(hn:n<=2000)(Y:m<2^64):
  Za [a0,a1,.ok (kvT t),y3,.v (.int (c:Int)),.v (.int (k:Int)),.v (.int (m:Int))]=some (.nx [a0,a1,.ok (kvT (ad t k (c*m))),y3,.v (.int (c:Int)),.v (.int (k:Int)),.v (.int (m:Int))]):=by
 have Z:=j.len
 have q:yZ (m:Int)=true:=Vq ⟨by omega,by omega⟩
 have z:(ue (za 2) (za 5) (xC (.int 0))) [a0,a1,.ok (kvT t),y3,.v (.int (c:Int)),.v (.int (k:Int)),.v (.int (m:Int))]=some (.d (.int (gt t k:Int))):=by
  show some (B.d ((zM (kvT t) (kI k)).getD (.int 0)))=_
  rw[zaf]
 have J:(x2 xD (za 4) (za 6)) [a0,a1,.ok (kvT t),y3,.v (.int (c:Int)),.v (.int (k:Int)),.v (.int (m:Int))]=some (.d (.int ((c:Int)*(m:Int)))):=by
  rw[xK]
  show ap2 xD (some (.d (.int (c:Int)))) (some (.d (.int (m:Int))))=_
  rw[yi,vC (.inr q)];rfl
 have O:um (.ok (kvT t)) (.int (k:Int)) (.int ((gt t k:Int)+(c:Int)*(m:Int)))=some (.ok (kvT (ad t k (c*m)))):=by
  have R:(kvT t).length<aH:=by rw[szv];unfold kvT;rw[aM];omega
  show(if(kvT t).length<aH then some (S.ok (yO (kvT t) (kI k) (.int ((gt t k:Int)+(c:Int)*(m:Int)))))else none)=_
  rw[if_pos R,show((gt t k:Int)+(c:Int)*(m:Int))=((gt t k+c*m:Nat):Int) by simp,zc7 t j.nd]
  rfl
 have U:(x2 yN (ue (za 2) (za 5) (xC (.int 0))) (x2 xD (za 4) (za 6))) [a0,a1,.ok (kvT t),y3,.v (.int (c:Int)),.v (.int (k:Int)),.v (.int (m:Int))]=some (.d (.int ((gt t k:Int)+(c:Int)*(m:Int)))):=by
  rw[xK,z,J,yi,zdP];rfl
 unfold Za
 rw[Uz,U]
 show Uy 2 (some (.d (.int ((gt t k:Int)+(c:Int)*(m:Int))))) (some (.d (.int (k:Int)))) (some (.ok (kvT t))) _=_
 rw[Vi,O]
 rfl
theorem ZQ(h1:tg d Γ=some Γ1)(h2:fb Γ1=some (.nx j)):xr tg fb (d::r) Γ=xr tg fb r j:=by
 show(tg d Γ).bind _=_
 rw[h1,bF,h2]
 rfl
theorem zgc{c:Nat}{a0 a1 y3 y5 y6:S}(J:TOk n t)(O:TOk n row)(R:∀p∈row,p.2<2^64)(hn:n<=2000):
  ∃j z,xr (yG 2 (zD (zk 5) (zD (zk 6) yJ))) Za (row.map λp=>D.tup [.int (p.1:Int),.int (p.2:Int)]) [a0,a1,.ok (kvT t),y3,.v (.int (c:Int)),y5,y6]=some (.nx [a0,a1,.ok (kvT (wc t row c)),y3,.v (.int (c:Int)),j,z]):=by
 induction row generalizing t y5 y6 with
 | nil=>exact⟨y5,y6,rfl⟩
 | cons p r U=>
  have h1:=O.nd
  have h2:=O.lt
  rw[aR]at h1 h2
  obtain⟨j,z,e⟩:=U (t:=ad t p.1 (c*p.2)) (y5:=.v (.int (p.1:Int))) (y6:=.v (.int (p.2:Int))) (J.ad (h2 p.1 bE)) ⟨(cF.mp h1).2,λk Y=>h2 k (bC _ Y)⟩ λq Z=>R q (bC _ Z)
  refine⟨j,z,?_⟩
  rw[aR,ZQ (Γ1:=[a0,a1,.ok (kvT t),y3,.v (.int (c:Int)),.v (.int (p.1:Int)),.v (.int (p.2:Int))]) rfl (zeS J hn (R p bE))]
  exact e
theorem zgd{acc:Tb}{a0 y3 y4 y5 y6:S}(hM:M.length=n)(okM:∀s,s<n->TOk n (M.getD s []))(sm:Sml M)(hn:n<=2000)(hk:∀k∈t.map bA,k<n)(ha:TOk n acc):
  ∃z3 z4 z5 z6,xr (yG 2 (zD (zk 3) (zD (zk 4) yJ))) Zb (t.map λp=>D.tup [.int (p.1:Int),.int (p.2:Int)]) [a0,.v (.lst (M.map zm)),.ok (kvT acc),y3,y4,y5,y6]=some (.nx [a0,.v (.lst (M.map zm)),.ok (kvT (t.foldl (λacc p=>wc acc (M.getD p.1 []) p.2) acc)),z3,z4,z5,z6]):=by
 induction t generalizing acc y3 y4 y5 y6 with
 | nil=>exact⟨y3,y4,y5,y6,rfl⟩
 | cons p r ih=>
  rw[aR]at hk
  have hp:=hk p.1 bE
  have hp':p.1<M.length:=by rw[hM];exact hp
  have hg:M.getD p.1 []=M[p.1]:=by rw[bI,bH hp'];rfl
  obtain⟨z5,z6,e⟩:=zgc (c:=p.2) (a0:=a0) (a1:=.v (.lst (M.map zm))) (y3:=.v (.int (p.1:Int))) (y5:=y5) (y6:=y6) ha (okM p.1 hp) (by rw[hg];exact sm _ (cS hp')) hn
  obtain⟨w3,w4,w5,w6,e'⟩:=ih (acc:=wc acc (M.getD p.1 []) p.2) (y3:=.v (.int (p.1:Int))) (y4:=.v (.int (p.2:Int))) (y5:=z5) (y6:=z6) (λk h=>hk k (bC _ h)) (Hop.Y6 _ _ (okM p.1 hp) ha)
  refine⟨w3,w4,w5,w6,?_⟩
  have hi:(uC (x2 mIx (za 1) (za 3))) [a0,.v (.lst (M.map zm)),.ok (kvT acc),.v (.int (p.1:Int)),.v (.int (p.2:Int)),y5,y6]=some ((M.getD p.1 []).map λp=>D.tup [.int (p.1:Int),.int (p.2:Int)]):=by
   have:(x2 mIx (za 1) (za 3)) [a0,.v (.lst (M.map zm)),.ok (kvT acc),.v (.int (p.1:Int)),.v (.int (p.2:Int)),y5,y6]=some (.d (zm (M.getD p.1 []))):=by
    rw[xK]
    show ap2 mIx (some (.d (.lst (M.map zm)))) (some (.d (.int (p.1:Int))))=_
    rw[yi,YW,uB,bF,wo,bG,bH hp',hg];rfl
   unfold uC
   rw[this,bF]
   show some (wT _ _)=_
   rw[zbE]
  have hb:Zb [a0,.v (.lst (M.map zm)),.ok (kvT acc),.v (.int (p.1:Int)),.v (.int (p.2:Int)),y5,y6]=some (.nx [a0,.v (.lst (M.map zm)),.ok (kvT (wc acc (M.getD p.1 []) p.2)),.v (.int (p.1:Int)),.v (.int (p.2:Int)),z5,z6]):=by
   unfold Zb
   rw[xY,hi,xi,e]
  rw[aR,ZQ (Γ1:=[a0,.v (.lst (M.map zm)),.ok (kvT acc),.v (.int (p.1:Int)),.v (.int (p.2:Int)),y5,y6]) rfl hb]
  exact e'
theorem U8(q:TOk n t)(z:M.length=n)(j:∀s,s<n->TOk n (M.getD s []))(J:Sml M)(hn:n<=2000):ug [zm t,.lst (M.map zm)]=some (zm (spr t M)):=by
 obtain⟨O,R,U,Y,e⟩:=zgd (acc:=[]) (a0:=.v (zm t)) (y3:=.un) (y4:=.un) (y5:=.un) (y6:=.un) z j J hn q.lt .nil
 refine z7 rfl ?_
 unfold JY
 show zt _ _ [.v (zm t),.v (.lst (M.map zm)),.un,.un,.un,.un,.un]=_
 rw[zx,show(ud 2) [.v (zm t),.v (.lst (M.map zm)),.un,.un,.un,.un,.un]=some (.nx [.v (zm t),.v (.lst (M.map zm)),.ok (kvT []),.un,.un,.un,.un])from rfl,zu,zx,xY]
 rw[show(uC (za 0)) [.v (zm t),.v (.lst (M.map zm)),.ok (kvT []),.un,.un,.un,.un]=some (t.map λp=>D.tup [.int (p.1:Int),.int (p.2:Int)])from by
  show some (wT _ _)=_
  rw[zbE],xi,e,zu,vm]
 show some (Out.rt (D.dK ((kvT (spr t M)).map bA) ((kvT (spr t M)).map dG)))=_
 rw[zgb]
end
section
variable {A:Nat} {rows:List (List Nat)} {g:Nat->Bool}
def zS(rows:List (List Nat))(g:Nat->Bool)(s:Nat):Bool:=((rows.getD s []).all λx=>x==s) && !g s
theorem zhg{Γ:G}{f1 f2:G->Option B}{s:Nat}(h1:f1 Γ=some (.d (zn A rows g)))(h2:f2 Γ=some (.d (.int (s:Int))))(q:s<rows.length):(x2 (mIn true) f2 (x2 mIx f1 (xC (.int 2)))) Γ=some (.d (.bl (!g s))):=by
 rw[xK,xK,h1,zcq,h2,yi]
 show ap2 (mIn true) (some (.d (.int (s:Int)))) (some (.d (.tup (dN (zw rows.length g)))))=_
 rw[yi,zdS (l:=zw rows.length g) rfl]
 have:decide (s∈zw rows.length g)=g s:=by
  cases j:g s with
  | true=>simp[yD,q,j]
  | false=>simp[yD,j]
 simp[this]
theorem zbF(ok:OkR A rows)(z:A<=3){s:Nat}(j:s<rows.length):VG [.int (s:Int),zn A rows g]=some (.bl (zS rows g s)):=by
 have Y:=ok.len s j
 have J:=zdT (Γ:=[.v (.int (s:Int)),.v (zn A rows g)]) (f1:=za 1) (f2:=za 0) (s:=s) (rows:=rows) (g:=g) rfl rfl j
 have O:=zhg (Γ:=[.v (.int (s:Int)),.v (zn A rows g)]) (f1:=za 1) (f2:=za 0) (s:=s) (rows:=rows) (g:=g) rfl rfl j
 have R:yx (some (dN (rows.getD s []))) [none,some 0] (zk 0) zK u8 [.v (.int (s:Int)),.v (zn A rows g)]=some ((rows.getD s []).map λx=>D.bl (x==s)):=by
  refine yr (λx=>D.bl (x==s)) (rows.getD s []) (by simp) (by rw[aM];omega) λk q=>?_
  refine⟨[.v (.int ((rows.getD s [])[k]'(by simpa using q):Nat)),.v (.int (s:Int))],by simp[yp],rfl,?_⟩
  generalize (rows.getD s [])[k]'(by simpa using q)=x
  by_cases e:x=s
  ·subst e;simp[u8]
  ·have:¬((x:Int)=(s:Int)):=by omega
   simp[u8,e,this]
 refine z7 rfl ?_
 unfold JX
 show zZ _ [.v (.int (s:Int)),.v (zn A rows g)]=_
 rw[ZG,zeF,vK,yu,wS,y0,za8,J,zcu,R,ZF,cP,wR,u5,zg8,zg5,bF,Vj,cP,cP,za6]
 unfold zS
 have U:(iU (λx=>x==s) (rows.getD s [])).all id=(rows.getD s []).all λx=>x==s:=by rw[List.all_map];rfl
 rw[U]
 cases (rows.getD s []).all λx=>x==s with
 | false=>rfl
 | true=>rw[zfX,O];rfl
def kvL(l:List Nat):List (Key×D):=l.map λs=>(kI s,D.bl true)
theorem YH:∀l:List Nat,wO (l.map λ(s:Nat)=>D.tup [.int (s:Int),.bl true])=some (kvL l)
 | []=>rfl
 | a::r=>by
  have j:=YH r
  rw[aR]
  show((Zy (.int (a:Int))).bind λk=>(wO _).map λt=>(k,D.bl true)::t)=_
  rw[j];rfl
theorem ziw:(zM (kvL l) (kI x)).isSome=decide (x∈l):=by
 unfold zM
 induction l with
 | nil=>rfl
 | cons a r j=>
  show((nk _ ((kI a,D.bl true)::kvL r)).map _).isSome=_
  rw[cT]
  by_cases e:a=x
  ·subst e;simp
  ·have q:¬x=a:=λz=>e z.symm
   simp only[XS e,decide_false]
   rw[j]
   simp[q]
theorem zeT{a0 a2 a3:S}{l:List Nat}{t:Tb}{n x:Nat}(j:TOk n t)(hn:n<=2000):
  Yk [a0,.ok (kvL l),a2,a3,.ok (kvT t),.v (.int (x:Int))]=some (.nx [a0,.ok (kvL l),a2,a3,.ok (kvT (if decide (x∈l)=true then t else ad t x 1)),.v (.int (x:Int))]):=by
 have h1:(xT (x2 (vu true) (za 5) (za 1))) [a0,.ok (kvL l),a2,a3,.ok (kvT t),.v (.int (x:Int))]=some (!decide (x∈l)):=by
  show some (!(zM (kvL l) (kI x)).isSome)=_
  rw[ziw]
 unfold Yk
 rw[zdN,h1]
 by_cases e:x∈l
 ·simp[e]
 ·rw[decide_eq_false e]
  have O:=j.len
  have q:(kvT t).length<aH:=by rw[szv];unfold kvT;rw[aM];omega
  have z:(x2 yN (ue (za 4) (za 5) (xC (.int 0))) (xC (.int 1))) [a0,.ok (kvL l),a2,a3,.ok (kvT t),.v (.int (x:Int))]=some (.d (.int ((gt t x:Int)+1))):=by
   rw[xK]
   show ap2 yN (some (B.d ((zM (kvT t) (kI x)).getD (.int 0)))) (some (.d (.int 1)))=_
   rw[zaf,yi,zdP];rfl
  have J:um (.ok (kvT t)) (.int (x:Int)) (.int ((gt t x:Int)+1))=some (.ok (kvT (ad t x 1))):=by
   show(if(kvT t).length<aH then some (S.ok (yO (kvT t) (kI x) (.int ((gt t x:Int)+1))))else none)=_
   rw[if_pos q,show((gt t x:Int)+1)=((gt t x+1:Nat):Int) by simp,zc7 t j.nd]
   rfl
  show(wk 4 (za 5) (x2 yN (ue (za 4) (za 5) (xC (.int 0))) (xC (.int 1)))) _=_
  rw[Uz,z]
  show Uy 4 (some (.d (.int ((gt t x:Int)+1)))) (some (.d (.int (x:Int)))) (some (.ok (kvT t))) _=_
  rw[Vi,J]
  rfl
theorem zbG(hn:n<=2000):∀(row:List Nat) (t:Tb) (y5:S),(∀x∈row,x<n)->TOk n t->∃j,xr (zk 5) Yk (dN row) [a0,.ok (kvL l),a2,a3,.ok (kvT t),y5]=some (.nx [a0,.ok (kvL l),a2,a3,.ok (kvT (row.foldl (λt x=>if decide (x∈l)=true then t else ad t x 1) t)),j])
 | [],t,y5,_,_=>⟨y5,rfl⟩
 | x::r,t,y5,z,q=>by
  have h':TOk n (if decide (x∈l)=true then t else ad t x 1):=by
   split
   ·exact q
   ·exact q.ad (z x bE)
  obtain⟨j,e⟩:=zbG (a0:=a0) (a2:=a2) (a3:=a3) (l:=l) hn r _ (.v (.int (x:Int))) (λy J=>z y (bC _ J)) h'
  refine⟨j,?_⟩
  rw[show dN (x::r)=D.int (x:Int)::dN r from rfl,ZQ (Γ1:=[a0,.ok (kvL l),a2,a3,.ok (kvT t),.v (.int (x:Int))]) rfl (zeT q hn)]
  exact e
theorem Yv(ok:OkR A rows){s:Nat}(hs:s<rows.length):∀x∈rows.getD s [],x<rows.length:=λx hx=>by
 obtain⟨a,ha,rfl⟩:=dH.mp hx
 have:=ok.lt a s (by rw[<-ok.len s hs];exact ha) hs
 rwa [show dl rows a s=(rows.getD s [])[a]from by show(rows.getD s []).getD a 0=_;rw[Hop.wb ha]]at this
theorem XT{α β:Type}{f h:β->α->β}:∀(l:List α) (acc:β),(∀x∈l,∀t,f t x=h t x)->l.foldl f acc=l.foldl h acc
 | [],_,_=>rfl
 | x::r,acc,e=>by
  rw[gO,gO,e x bE]
  exact XT r _ λy j=>e y (bC _ j)
def M0(rows:List (List Nat))(g:Nat->Bool):List Tb:=rows.map (arw (zS rows g))
theorem Qm(ok:OkR A rows)(Y:A<=3)(hn:rows.length<=2000):UI [zn A rows g]=some (.lst ((M0 rows g).map zm)):=by
 obtain⟨G1,h1,y3,y4,y5,hg⟩:=xl (t:=zk 3) (fb:=WA) (zi rows)
  (λk Γ=>∃y3 y4 y5,Γ=[.v (zn A rows g),.ok (kvL (zw rows.length (zS rows g))),.ol (((rows.take k).map (arw (zS rows g))).map zm),y3,y4,y5])
  [.v (zn A rows g),.ok (kvL (zw rows.length (zS rows g))),.ol [],.un,.un,.un] ⟨.un,.un,.un,rfl⟩ (by
   rintro k Γ Z ⟨y3,y4,y5,rfl⟩
   have j:k<rows.length:=by simpa using Z
   have aa:rows.getD k []=rows[k]:=by rw[bI,bH j];rfl
   have z:=Yv ok j
   rw[aa]at z
   obtain⟨z5,e⟩:=zbG (a0:=.v (zn A rows g)) (a2:=.ol (((rows.take k).map (arw (zS rows g))).map zm)) (a3:=.v (.tup (dN rows[k]))) (l:=zw rows.length (zS rows g)) hn rows[k] [] y5 z .nil
   have ef:rows[k].foldl (λt x=>if decide (x∈zw rows.length (zS rows g))=true then t else ad t x 1) []=arw (zS rows g) rows[k]:=by
    unfold arw
    refine XT _ _ λx hx t=>?_
    have ab:=z x hx
    have:decide (x∈zw rows.length (zS rows g))=zS rows g x:=by
     cases hh:zS rows g x with
     | true=>simp[yD,ab,hh]
     | false=>simp[yD,hh]
    rw[this]
   rw[ef]at e
   refine⟨[.v (zn A rows g),.ok (kvL (zw rows.length (zS rows g))),.ol (((rows.take k).map (arw (zS rows g))).map zm),.v (.tup (dN rows[k])),y4,y5],[.v (zn A rows g),.ok (kvL (zw rows.length (zS rows g))),.ol (((rows.take (k+1)).map (arw (zS rows g))).map zm),.v (.tup (dN rows[k])),.v (zm (arw (zS rows g) rows[k])),z5],by simp[zi],?_,_,_,_,rfl⟩
   unfold WA
   rw[zx]
   show xp (some (.nx [.v (zn A rows g),.ok (kvL (zw rows.length (zS rows g))),.ol (((rows.take k).map (arw (zS rows g))).map zm),.v (.tup (dN rows[k])),.ok (kvT []),y5])) _=_
   rw[zu,zx,xY]
   show xp (Ux (some (dN rows[k])) _ _ _) _=_
   rw[xi,e,zu,vm]
   rw[show vW 4 [S.v (zn A rows g),.ok (kvL (zw rows.length (zS rows g))),.ol (((rows.take k).map (arw (zS rows g))).map zm),.v (.tup (dN rows[k])),.ok (kvT (arw (zS rows g) rows[k])),z5]=[.v (zn A rows g),.ok (kvL (zw rows.length (zS rows g))),.ol (((rows.take k).map (arw (zS rows g))).map zm),.v (.tup (dN rows[k])),.v (zm (arw (zS rows g) rows[k])),z5]from by
    show iQ _ 4 (S.v (.dK _ _))=_
    rw[zgb];rfl]
   have hz:(((rows.take k).map (arw (zS rows g))).map zm).length<16777216:=by simp;omega
   rw[ib j,eI,eI]
   simp[we,hz]
   omega)
 have R:(zi rows).length=rows.length:=by simp[zi]
 rw[R,eH]at hg
 have J:yx (some (zW 0 rows.length)) [none,some 0] (zk 0) Yj Yi [.v (zn A rows g),.un,.un,.un,.un,.un]=some ((zw rows.length (zS rows g)).map λ(s:Nat)=>D.tup [.int (s:Int),.bl true]):=by
  rw[uh (λk=>D.tup [.int (k:Int),.bl true]) (zS rows g) (by rw[xM];omega) λk Z=>?_,xM]
  ·rfl
  ·have j:k<rows.length:=by simpa using Z
   refine⟨[.v (.int (k:Int)),.v (zn A rows g)],by simp[yp],?_,λ_=>?_⟩
   ·simp[Yj,zbF ok Y j]
   ·simp[Yi]
 have ac:(kvL (zw rows.length (zS rows g))).map bA=kN (zw rows.length (zS rows g)):=by unfold kvL;rw[cN];rfl
 have q:wP [] (kvL (zw rows.length (zS rows g)))=kvL (zw rows.length (zS rows g)):=by
  rw[ZK _ _ (by rw[ac];exact UT (kZ _ hZ)) (by simp)];rfl
 have ae:=vn (n:=rows.length) (g:=zS rows g)
 have U:(uy 1 (zc (xL (zO (xR1 (zc (zH yM (zc (x2 mIx (za 0) (xC (.int 1))) zf)) zf)) [none,some 0] (zk 0) Yj Yi)) zf)) [.v (zn A rows g),.un,.un,.un,.un,.un]=some (.nx [.v (zn A rows g),.ok (kvL (zw rows.length (zS rows g))),.un,.un,.un,.un]):=by
  have O:(zH yM (zc (x2 mIx (za 0) (xC (.int 1))) zf)) [.v (zn A rows g),.un,.un,.un,.un,.un]=some (.d (.int (rows.length:Int))):=by simp[zn,zi]
  have hr:=xR (n:=rows.length) (by omega)
  rw[UP,yu,wS,y0,zdQ,yu,O]
  rw[show(r1O (wn (some (B.d (.int (rows.length:Int)))) (zf [S.v (zn A rows g),.un,.un,.un,.un,.un])))=some (zW 0 rows.length)from by simp[hr],J,cP,ZF,wR,XF,YH,bF,if_pos (by unfold kvL;rw[aM];omega),q]
  rfl
 refine z7 rfl ?_
 unfold zcK
 show zt _ _ [.v (zn A rows g),.un,.un,.un,.un,.un]=_
 rw[zx,U,zu,zx]
 show xp (some (.nx [.v (zn A rows g),.ok (kvL (zw rows.length (zS rows g))),.ol [],.un,.un,.un])) _=_
 rw[zu,zx,xY]
 show xp (Ux (some (zi rows)) _ _ _) _=_
 rw[xi,h1,hg,zu,vm]
 rfl
theorem U9(ok:OkR A rows){s:Nat}(hs:s<rows.length):rows.getD s []=(aG A).map λa=>dl rows a s:=by
 refine ia (by rw[ok.len s hs];simp) λi a b=>?_
 rw[dQ,ic]
 show _=(rows.getD s []).getD i 0
 rw[Hop.wb a]
theorem zc8(ok:OkR A rows){x:Nat}(hx:x<rows.length)(h:zS rows g x=true)(l:Nat):cnt A (dl rows) g l x=0:=by
 unfold zS at h
 rw[fE,eC]at h
 refine Hop.U4 (λa ha=>?_) (by simpa using h.2) l
 have:=h.1 (dl rows a x) (by rw[U9 ok hx];exact bK.mpr ⟨a,bZ.mpr ha,rfl⟩)
 simpa using this
theorem zge(ok:OkR A rows):Stp A (dl rows) g rows.length 1 (M0 rows g):=by
 have at_:∀s,s<rows.length->(M0 rows g).getD s []=arw (zS rows g) (rows.getD s []):=λs hs=>by
  simp[M0,bI,hs]
 refine⟨by simp[M0],λs hs=>?_,λs hs l=>?_⟩
 ·rw[at_ s hs];exact Hop.zbA _ _ (Yv ok hs) .nil
 ·rw[at_ s hs]
  unfold arw
  rw[Hop.zbz _ _ λx hx hl=>zc8 ok (Yv ok hs x hx) hl l,U9 ok hs,cN,jv 1 l]
  show vl _ []+_=((aG A).map λa=>cnt A (dl rows) g l (dl rows a s)).sum
  simp[vl];rfl
end
end Py
namespace Py
open PySem L2 DD Pu
open Hop (walk yd Canon dl OkR Lst Tb TOk Stp cnt vl gt pt ad wc spr arw lay Bnd on1)
section
variable {A n T:Nat} {δ:Nat->Nat->Nat} {g:Nat->Bool}
theorem zbH{M:List Tb}{m:Nat}(h:Bnd M (3^m))(hm:m<=40):Sml M:=λr hr p hp=>by
 have h1:=bL (Hop.zhf hp) (h r hr)
 have h2:3^m<=3^40:=jE (by decide) hm
 have h3:3^40<2^64:=by decide
 omega
structure So (A n T:Nat) (δ:Nat->Nat->Nat) (g:Nat->Bool) (t:Tb) (left m:Nat) (M:List Tb):Prop where
 ok:TOk n t
 st:Stp A δ g n m M
 bd:Bnd M (3^m)
 m1:1<=m
 lm:left*m<=T
 eq:vl (cnt A δ g (left*m)) t=cnt A δ g T 0
theorem zdW(h:So A n T δ g t left m M)(hn:n<=2000)(j:m<=40):ug [zm t,.lst (M.map zm)]=some (zm (spr t M)) :=
 U8 h.ok h.st.len h.st.ok (zbH h.bd j) hn
theorem So.one(h:So A n T δ g t (left+1) m M):So A n T δ g (spr t M) left m M:=by
 obtain⟨a,b⟩:=h.st.spr h.ok
 have e:=h.lm
 rw[nq]at e
 refine⟨a,h.st,h.bd,h.m1,by omega,?_⟩
 rw[b,<-h.eq,nq,jv]
theorem So.half(h:So A n T δ g t (left*2) m M):So A n T δ g t left (m+m) (M.map λr=>spr r M):=by
 have e:left*(m+m)=left*2*m:=by rw[nj,Nat.two_mul]
 refine⟨h.ok,h.st.twice,?_,by have:=h.m1;omega,by rw[e];exact h.lm,by rw[e];exact h.eq⟩
 rw[Nat.pow_add]
 exact h.bd.twice
theorem zc9(hn:1<=n)(U:n<=2000)(hT:T<=40){a0:D}{y5:S}(h0:a0=.lst ((aG n).map λ_=>D.non)\/∃ds,a0=.lst ds/\ds.length=n):∀(left:Nat) (t:Tb) (m:Nat) (M:List Tb),So A n T δ g t left m M->∀q,left<q->∃(t':Tb) (J m':Nat) (M':List Tb),yB uJ uI q [.v a0,.v (.int (T:Int)),.v (zm t),.v (.int (left:Int)),.v (.lst (M.map zm)),y5]=some (.nx [.v a0,.v (.int (T:Int)),.v (zm t'),.v (.int (J:Int)),.v (.lst (M'.map zm)),y5])/\So A n T δ g t' J m' M':=by
 obtain⟨ds,rfl,Y⟩:∃ds,a0=.lst ds/\ds.length=n:=by
  rcases h0 with h|h
  ·exact⟨_,h,by simp⟩
  ·exact h
 intro left
 induction left using iT with
 | ind left ih=>
  intro t m M h q hf
  cases q with
  | zero=>omega
  | succ q=>
   have ht:uJ [.v (.lst ds),.v (.int (T:Int)),.v (zm t),.v (.int (left:Int)),.v (.lst (M.map zm)),y5]=some (decide (n<left)):=by
    have:decide ((ds.length:Int)<(left:Int))=decide (n<left):=by rw[Y];simp
    simp[uJ,Y]
   unfold yB
   rw[ht,bF]
   by_cases hl:n<left
   ·rw[decide_eq_true hl,if_pos rfl]
    have ah:=h.m1
    have ai:=h.lm
    have aj:2*m<=left*m:=iS m (by omega)
    have hm:m<=40:=by omega
    obtain⟨k,b,hb,hk⟩:∃k b,b<2/\left=k*2+b:=⟨left/2,left%2,nc _ (by decide),by omega⟩
    obtain⟨O,aa,ab⟩:∃O,(sIf (xT (x2 (mEq false) (x2 uV (za 3) (xC (.int 2))) (xC (.int 1)))) (zI 2 (xFn ug (zc (za 2) (zc (za 4) zf)))) yv) [.v (.lst ds),.v (.int (T:Int)),.v (zm t),.v (.int (left:Int)),.v (.lst (M.map zm)),y5]=some (.nx [.v (.lst ds),.v (.int (T:Int)),.v (zm O),.v (.int (left:Int)),.v (.lst (M.map zm)),y5])/\So A n T δ g O (k*2) m M:=by
     have R:=XC (i:=(left:Int)) (show(0:Int)<2 by decide)
     rcases b with _|_|b
     ·have e0:(left:Int)%2=0:=by omega
      refine⟨t,?_,by rw[kY]at hk;rw[<-hk];exact h⟩
      simp[R,e0]
     ·have e1:(left:Int)%2=1:=by omega
      have z:=zdW h U hm
      refine⟨spr t M,?_,by rw[hk]at h;exact h.one⟩
      generalize M.map zm=dM at z ⊢
      simp[R,e1,z]
     ·omega
    have hc:yx (some (M.map zm)) [none,some 4] (zk 0) zK Yl [.v (.lst ds),.v (.int (T:Int)),.v (zm O),.v (.int (left:Int)),.v (.lst (M.map zm)),y5]=some ((M.map λr=>spr r M).map zm):=by
     have ac:=h.st.len
     refine yr zm (M.map λr=>spr r M) (by simp) (by simp;omega) λj hj=>?_
     have Z:j<M.length:=by simpa using hj
     have ae:TOk n M[j]:=by
      have:=h.st.ok j (by rw[<-ac];exact Z)
      rwa [bI,bH Z]at this
     have z:=U8 ae h.st.len h.st.ok (zbH h.bd hm) U
     refine⟨[.v (zm M[j]),.v (.lst (M.map zm))],by simp[yp],rfl,?_⟩
     rw[dQ]
     generalize M[j]=r at z ⊢
     generalize M.map zm=dM at z ⊢
     simp[Yl,z]
    have af:(zI 4 (xL (zO (zY (za 4)) [none,some 4] (zk 0) zK Yl))) [.v (.lst ds),.v (.int (T:Int)),.v (zm O),.v (.int (left:Int)),.v (.lst (M.map zm)),y5]=some (.nx [.v (.lst ds),.v (.int (T:Int)),.v (zm O),.v (.int (left:Int)),.v (.lst ((M.map λr=>spr r M).map zm)),y5]):=by
     rw[xX,wS,y0]
     show Wp 4 ((yx (some (M.map zm)) _ _ _ _ _).map _) _=_
     rw[hc];rfl
    have ag:(zI 3 (x2 V1 (za 3) (xC (.int 2)))) [.v (.lst ds),.v (.int (T:Int)),.v (zm O),.v (.int (left:Int)),.v (.lst ((M.map λr=>spr r M).map zm)),y5]=some (.nx [.v (.lst ds),.v (.int (T:Int)),.v (zm O),.v (.int (k:Int)),.v (.lst ((M.map λr=>spr r M).map zm)),y5]):=by
     have hd:=zg6 (i:=(left:Int)) (show(0:Int)<2 by decide) (by decide)
     have e2:(left:Int)/2=(k:Int):=by omega
     simp[hd,e2]
    have hb:uI [.v (.lst ds),.v (.int (T:Int)),.v (zm t),.v (.int (left:Int)),.v (.lst (M.map zm)),y5]=some (.nx [.v (.lst ds),.v (.int (T:Int)),.v (zm O),.v (.int (k:Int)),.v (.lst ((M.map λr=>spr r M).map zm)),y5]):=by
     unfold uI
     rw[zx,aa,zu,zx,af,zu,ag]
    rw[hb]
    exact ih k (by omega) O (m+m) _ ab.half q (by omega)
   ·rw[decide_eq_false hl]
    exact⟨t,left,m,M,rfl,h⟩
theorem zgf(O:n<=2000)(hT:T<=40){a0:D}{left m:Nat}{M:List Tb}{t:Tb}(h:So A n T δ g t left m M)(R:1<=left->m<=40):∃t' z,xr (zk 5) Ym (zW 0 left) [.v a0,.v (.int (T:Int)),.v (zm t),.v (.int (left:Int)),.v (.lst (M.map zm)),.un]=some (.nx [.v a0,.v (.int (T:Int)),.v (zm t'),.v (.int (left:Int)),.v (.lst (M.map zm)),z])/\TOk n t'/\vl (cnt A δ g 0) t'=cnt A δ g T 0:=by
 obtain⟨G1,h1,t',z,U,q⟩:=xl (t:=zk 5) (fb:=Ym) (zW 0 left)
  (λj Γ=>∃t' z,Γ=[.v a0,.v (.int (T:Int)),.v (zm t'),.v (.int (left:Int)),.v (.lst (M.map zm)),z]/\So A n T δ g t' (left-j) m M)
  [.v a0,.v (.int (T:Int)),.v (zm t),.v (.int (left:Int)),.v (.lst (M.map zm)),.un] ⟨t,.un,rfl,h⟩ (by
   rintro j Γ Y ⟨t',z,rfl,q⟩
   have Z:j<left:=by simpa using Y
   have J:=zdW q O (R (by omega))
   refine⟨_,_,rfl,?_,spr t' M,.v (.int (0+(j:Int))),rfl,?_⟩
   ·generalize M.map zm=dM at J ⊢
    simp[Ym,J]
   ·rw[show left-j=left-(j+1)+1 by omega]at q
    exact q.one)
 rw[xM,kL]at q
 refine⟨t',z,by rw[h1,U],q.ok,?_⟩
 have:=q.eq
 rwa [Nat.zero_mul]at this
theorem WR(hn:1<=n)(aa:n<=900)(Z:T<=40){M:List Tb}(st:Stp A δ g n 1 M)(bd:Bnd M 3):∃t,UJ [.lst (M.map zm),.int (T:Int)]=some (zm t)/\TOk n t/\vl (cnt A δ g 0) t=cnt A δ g T 0:=by
 have s0:So A n T δ g [(0,1)] T 1 M:=by
  refine⟨⟨by simp,by simp;omega⟩,st,by simpa using bd,aP 1,by omega,?_⟩
  simp[vl]
 have q:(M.map zm).length=n:=by rw[aM];exact st.len
 obtain⟨j,left,m,M1,O,h1⟩:∃(j:Tb) (left m:Nat) (M1:List Tb),(sIf (xT (x2 mGt (za 1) (x2 xD (xC (.int 4)) (x2 ZB (zH yM (zc (za 0) zf)) (xC (.int 2)))))) (yB uJ uI WF) yv) [.v (.lst (M.map zm)),.v (.int (T:Int)),.v (zm [(0,1)]),.v (.int (T:Int)),.v (.lst (M.map zm)),.un]=some (.nx [.v (.lst (M.map zm)),.v (.int (T:Int)),.v (zm j),.v (.int (left:Int)),.v (.lst (M1.map zm)),.un])/\So A n T δ g j left m M1:=by
  obtain⟨j,left,m,M1,O,h1⟩:=zc9 (y5:=.un) hn (by omega) Z (.inr ⟨M.map zm,rfl,q⟩) T [(0,1)] 1 M s0 WF (by unfold WF;omega)
  have hp:ZB (.d (.int (n:Int))) (.d (.int 2))=some (.int ((n:Int)^2)):=by
   unfold ZB mI
   have e1:(-1000:Int)<(n:Int):=by omega
   have e2:(n:Int)<1000:=by omega
   simp[e1,e2]
  have z:xD (.d (.int 4)) (.d (.int ((n:Int)^2)))=some (.int (4*(n:Int)^2)):=vC (.inl (by decide))
  have hc:(xT (x2 mGt (za 1) (x2 xD (xC (.int 4)) (x2 ZB (zH yM (zc (za 0) zf)) (xC (.int 2)))))) [.v (.lst (M.map zm)),.v (.int (T:Int)),.v (zm [(0,1)]),.v (.int (T:Int)),.v (.lst (M.map zm)),.un]=some (decide (4*(n:Int)^2<(T:Int))):=by
   have J:(zH yM (zc (za 0) zf)) [.v (.lst (M.map zm)),.v (.int (T:Int)),.v (zm [(0,1)]),.v (.int (T:Int)),.v (.lst (M.map zm)),.un]=some (.d (.int (n:Int))):=by
    rw[vK,yu]
    show(yM [.d (.lst (M.map zm))]).map B.d=_
    rw[zg7,uB,cP,q];rfl
   rw[zcr,xK,xK,xK,J]
   show Uw (ap2 mGt (some (.d (.int (T:Int)))) (ap2 xD (some (.d (.int 4))) (ap2 ZB (some (.d (.int (n:Int)))) (some (.d (.int 2))))))=_
   rw[yi (m:=ZB),hp,cP,yi (m:=xD),z]
   rfl
  rw[zdN,hc]
  by_cases hb:4*(n:Int)^2<(T:Int)
  ·rw[decide_eq_true hb,zg3]
   exact⟨j,left,m,M1,O,h1⟩
  ·rw[decide_eq_false hb]
   exact⟨[(0,1)],T,1,M,rfl,s0⟩
 have ab:=h1.lm
 have R:=h1.m1
 obtain⟨t',z5,hf,U,Y⟩:=zgf (a0:=.lst (M.map zm)) (by omega) Z h1 (λh=>by
  have:1*m<=left*m:=iS m h
  omega)
 have ac:left<=T:=by
  have:left*1<=left*m:=k4 left R
  omega
 refine⟨t',z7 rfl ?_,U,Y⟩
 unfold zcL
 show zt _ _ [.v (.lst (M.map zm)),.v (.int (T:Int)),.un,.un,.un,.un]=_
 rw[zx,show(Wr 2 0 1) [.v (.lst (M.map zm)),.v (.int (T:Int)),.un,.un,.un,.un]=some (.nx [.v (.lst (M.map zm)),.v (.int (T:Int)),.ok (kvT [(0,1)]),.un,.un,.un])from rfl,zu,vm]
 rw[show vW 2 [S.v (.lst (M.map zm)),.v (.int (T:Int)),.ok (kvT [(0,1)]),.un,.un,.un]=[.v (.lst (M.map zm)),.v (.int (T:Int)),.v (zm [(0,1)]),.un,.un,.un]from rfl,zx]
 show xp (some (.nx [.v (.lst (M.map zm)),.v (.int (T:Int)),.v (zm [(0,1)]),.v (.int (T:Int)),.un,.un])) _=_
 rw[zu,zx]
 show xp (some (.nx [.v (.lst (M.map zm)),.v (.int (T:Int)),.v (zm [(0,1)]),.v (.int (T:Int)),.v (.lst (M.map zm)),.un])) _=_
 rw[zu,zx,O,zu,zx,xY]
 rw[show(xR1 (zc (za 3) zf)) [.v (.lst (M.map zm)),.v (.int (T:Int)),.v (zm j),.v (.int (left:Int)),.v (.lst (M1.map zm)),.un]=some (zW 0 left)from by have hr:=xR (n:=left) (by omega);simp[hr],xi,hf,zu,vm]
 rfl
theorem Qa:∀l:List Nat,(l.map λ(x:Nat)=>(x:Int)).sum=((l.sum:Nat):Int)
 | []=>rfl
 | a::r=>by rw[aR,cU,Qa r,cU];simp
theorem Vs:∀l:List Nat,uZ (dN l)=some (l.map λ(x:Nat)=>(x:Int))
 | []=>rfl
 | a::r=>by
  have j:=Vs r
  show(uZ (dN r)).map _=_
  rw[j];rfl
theorem XU{α:Type}{f:α->Nat}{l:List α}:dN (l.map f)=l.map λx=>D.int ((f x:Nat):Int):=by
 show(l.map f).map _=_
 rw[cN];rfl
theorem zbI{l:List Nat}:JL [.d (.lst (dN l))]=some (.int ((l.sum:Nat):Int)):=by
 show(uZ (dN l)).map _=_
 rw[Vs,cP,Qa]
end
section
variable {A:Nat} {rows:List (List Nat)} {g:Nat->Bool}
theorem zgg(ok:OkR A rows)(hA3:A<=3):Bnd (M0 rows g) 3:=λr hr=>by
 obtain⟨q,hq,rfl⟩:=bK.mp hr
 obtain⟨s,hs,rfl⟩:=dH.mp hq
 have hl:=ok.len s hs
 rw[show rows.getD s []=rows[s]from by rw[bI,bH hs];rfl]at hl
 have:=Hop.Q2 (lost:=zS rows g) rows[s] []
 unfold arw
 simp only[vl,je,List.sum_nil]at this ⊢
 omega
theorem XV(ok:OkR A rows)(hA1:1<=A)(hA3:A<=3)(hz:rows.length<=900){T:Nat}(hT:T<=40):YY [zn A rows g,.int (T:Int)]=some (.int ((cnt A (dl rows) g T 0:Nat):Int)):=by
 obtain⟨q,h,e1,L⟩:=Q0 (g:=g) ok hA1 hA3 (by omega)
 have hle:=L.le
 have ea:=Qm (g:=h) L.ok hA3 (by omega)
 obtain⟨t,es,tok,teq⟩:=WR (T:=T) L.ok.pos (by omega) hT (zge (g:=h) L.ok) (zgg L.ok hA3)
 have hc:yx (some (dN (zw q.length h))) [none,some 3] (zk 0) zK QU [.v (zn A rows g),.v (.int (T:Int)),.v (zn A q h),.v (zm t)]=some (dN ((zw q.length h).map (gt t))):=by
  have hgl:=vn (n:=q.length) (g:=h)
  refine(yr (λ(s:Nat)=>D.int ((gt t s:Nat):Int)) (zw q.length h) (by simp) (by rw[aM];omega) λk hk=>?_).trans (by rw[XU])
  refine⟨[.v (.int ((zw q.length h)[k]'(by simpa using hk):Nat)),.v (zm t)],by simp[yp],rfl,?_⟩
  generalize (zw q.length h)[k]'(by simpa using hk)=s
  show some (B.d ((zM ((t.map λp=>kI p.1).zip (t.map λp=>D.int (p.2:Int))) (kI s)).getD (.int 0)))=_
  rw[ziv,zaf]
 have hsum:((zw q.length h).map (gt t)).sum=cnt A (dl rows) g T 0:=by
  have:=Hop.zbD (A:=A) (δ:=dl q) (g:=h) tok
  rw[show(zw q.length h).map (gt t)=((aG q.length).filter h).map (gt t)from rfl,this,teq]
  exact Hop.zbv L.al
 refine z7 rfl ?_
 unfold zcM
 show zt _ _ [.v (zn A rows g),.v (.int (T:Int)),.un,.un]=_
 rw[zx,show(zI 2 (xFn u7 (zc (za 0) zf))) [.v (zn A rows g),.v (.int (T:Int)),.un,.un]=some (.nx [.v (zn A rows g),.v (.int (T:Int)),.v (zn A q h),.un])from by simp[e1],zu,zx]
 rw[show(zI 3 (xFn UJ (zc (xFn UI (zc (za 2) zf)) (zc (za 1) zf)))) [.v (zn A rows g),.v (.int (T:Int)),.v (zn A q h),.un]=some (.nx [.v (zn A rows g),.v (.int (T:Int)),.v (zn A q h),.v (zm t)])from by
  generalize (M0 q h).map zm=dM at ea es
  simp[ea,es],zu,ZG,vK,yu,wS,y0]
 rw[show(zY (x2 mIx (za 2) (xC (.int 2)))) [.v (zn A rows g),.v (.int (T:Int)),.v (zn A q h),.v (zm t)]=some (dN (zw q.length h))from rfl,hc,ZF,cP,wR,u5,zbI,hsum]
 rfl
theorem zbJ(ok:OkR A rows)(hA3:A<=3)(hz:rows.length<=900){T:Nat}(hT:T<=40):UO [zn A rows g,.int (T:Int)]=some (.int ((cnt A (dl rows) g T 0:Nat):Int)):=by
 have hc0:yx (some (zW 0 rows.length)) [none,some 0] (zk 0) zK Yq [.v (zn A rows g),.v (.int (T:Int)),.un,.un]=some (dN ((aG rows.length).map (cnt A (dl rows) g 0))):=by
  refine(yr (λ(s:Nat)=>D.int ((cnt A (dl rows) g 0 s:Nat):Int)) (aG rows.length) (by simp) (by simp;omega) λk hk=>?_).trans (by rw[XU])
  have hk':k<rows.length:=by simpa using hk
  refine⟨[.v (.int (k:Int)),.v (zn A rows g)],by simp[yp],rfl,?_⟩
  have hg:=U1 (Γ:=[.v (.int (k:Int)),.v (zn A rows g)]) (f1:=za 1) (f2:=za 0) (s:=k) (rows:=rows) (g:=g) rfl rfl hk'
  unfold Yq
  rw[vK,yu,hg,ic]
  unfold cnt
  cases g k <;>rfl
 obtain⟨G1,h1,z3,hg⟩:=xl (t:=zk 3) (fb:=WM) (zW 0 T)
  (λj Γ=>∃z3,Γ=[.v (zn A rows g),.v (.int (T:Int)),.v (.lst (dN ((aG rows.length).map (cnt A (dl rows) g j)))),z3])
  [.v (zn A rows g),.v (.int (T:Int)),.v (.lst (dN ((aG rows.length).map (cnt A (dl rows) g 0)))),.un] ⟨.un,rfl⟩ (by
   rintro j Γ hj ⟨z3,rfl⟩
   have hc:yx (some (zi rows)) [none,some 2] (zk 0) zK WL [.v (zn A rows g),.v (.int (T:Int)),.v (.lst (dN ((aG rows.length).map (cnt A (dl rows) g j)))),.v (.int (0+(j:Int)))]=some (dN ((aG rows.length).map (cnt A (dl rows) g (j+1)))):=by
    refine(yr (λ(s:Nat)=>D.int ((cnt A (dl rows) g (j+1) s:Nat):Int)) (aG rows.length) (by simp[zi]) (by simp[zi];omega) λk hk=>?_).trans (by rw[XU])
    have hk':k<rows.length:=by simpa[zi]using hk
    have hrk:rows.getD k []=rows[k]:=by rw[bI,bH hk'];rfl
    have hlt:=Yv ok hk'
    have hri:=U9 ok hk'
    have hlen:=ok.len k hk'
    rw[hrk]at hlt hri hlen
    refine⟨[.v (.tup (dN rows[k])),.v (.lst (dN ((aG rows.length).map (cnt A (dl rows) g j))))],by simp[yp,zi],rfl,?_⟩
    rw[ic]
    have hin:yx (some (dN rows[k])) [none,some 1] (zk 0) zK WK [.v (.tup (dN rows[k])),.v (.lst (dN ((aG rows.length).map (cnt A (dl rows) g j))))]=some (dN (rows[k].map (cnt A (dl rows) g j))):=by
     refine(yr (λ(s:Nat)=>D.int ((cnt A (dl rows) g j s:Nat):Int)) rows[k] (by simp) (by rw[aM];omega) λi hi=>?_).trans (by rw[XU])
     have hi':i<rows[k].length:=by simpa using hi
     have hx:=hlt _ (cS hi')
     refine⟨[.v (.int (rows[k][i]:Nat)),.v (.lst (dN ((aG rows.length).map (cnt A (dl rows) g j))))],by simp[yp],rfl,?_⟩
     generalize rows[k][i]=x at hx ⊢
     unfold WK
     rw[xK]
     show ap2 mIx (some (.d (.lst (dN ((aG rows.length).map (cnt A (dl rows) g j)))))) (some (.d (.int (x:Int))))=_
     rw[yi,YW,uB,bF,ZH (by simpa using hx),Hop.xN (by simpa using hx),bI,fU hx]
     rfl
    unfold WL
    rw[vK,yu,wS,y0]
    rw[show(zY (za 0)) [.v (.tup (dN rows[k])),.v (.lst (dN ((aG rows.length).map (cnt A (dl rows) g j))))]=some (dN rows[k])from rfl,hin,ZF,cP,wR,u5,zbI,hri,cN]
    rfl
   refine⟨[.v (zn A rows g),.v (.int (T:Int)),.v (.lst (dN ((aG rows.length).map (cnt A (dl rows) g j)))),.v (.int (0+(j:Int)))],_,by simp,?_,.v (.int (0+(j:Int))),rfl⟩
   unfold WM
   rw[xX,wS,y0]
   rw[show(zY (x2 mIx (za 0) (xC (.int 1)))) [.v (zn A rows g),.v (.int (T:Int)),.v (.lst (dN ((aG rows.length).map (cnt A (dl rows) g j)))),.v (.int (0+(j:Int)))]=some (zi rows)from rfl,hc]
   rfl)
 rw[xM]at hg
 refine z7 rfl ?_
 unfold zcT
 show zt _ _ [.v (zn A rows g),.v (.int (T:Int)),.un,.un]=_
 have hlen1:(zH yM (zc (x2 mIx (za 0) (xC (.int 1))) zf)) [.v (zn A rows g),.v (.int (T:Int)),.un,.un]=some (.d (.int (rows.length:Int))):=by simp[zn,zi]
 rw[zx,show(zI 2 (xL (zO (xR1 (zc (zH yM (zc (x2 mIx (za 0) (xC (.int 1))) zf)) zf)) [none,some 0] (zk 0) zK Yq))) [.v (zn A rows g),.v (.int (T:Int)),.un,.un]=some (.nx [.v (zn A rows g),.v (.int (T:Int)),.v (.lst (dN ((aG rows.length).map (cnt A (dl rows) g 0)))),.un])from by
  have hr:=xR (n:=rows.length) (by omega)
  rw[xX,wS,y0,zdQ,yu,hlen1,show r1O (wn (some (B.d (.int (rows.length:Int)))) (zf [S.v (zn A rows g),.v (.int (T:Int)),.un,.un]))=some (zW 0 rows.length)from by simp[hr],hc0];rfl,zu,zx,xY]
 rw[show(xR1 (zc (za 1) zf)) [.v (zn A rows g),.v (.int (T:Int)),.v (.lst (dN ((aG rows.length).map (cnt A (dl rows) g 0)))),.un]=some (zW 0 T)from by have hr:=xR (n:=T) (by omega);simp[hr],xi,h1,hg,zu,ZG,xK]
 show JI (ap2 mIx (some (.d (.lst (dN ((aG rows.length).map (cnt A (dl rows) g T)))))) (some (.d (.int 0))))=_
 have hp:=ok.pos
 rw[yi,YW,uB,bF,show(0:Int)=((0:Nat):Int)from rfl,ZH (by simpa using hp),Hop.xN (by simpa using hp),bI,fU hp]
 rfl
end
end Py
namespace Py
open PySem L2 DD Pu
open Hop (walk yd Canon dl OkR Lst First Ws cnt lay wal)
abbrev eW(w:List Nat):D:=.tup (dN w)
theorem zgh{L:Nat}{a1 s4:S}{made lastD:D}{longer:List (List Nat)}{v:List Nat}(O:L<=3)(R:v.length<=10)(U:longer.length<1000):
  Yn [.v (.int L),a1,.v made,.v lastD,s4,.ol (longer.map eW),.v (eW v)]=some (.nx [.v (.int L),a1,.v made,.v lastD,s4,.ol ((longer++(aG L).map λa=>v++[a]).map eW),.v (eW v)]):=by
 have h1:=yr eW (t:=zk 0) (cond:=zK) (el:=WG) (Γ:=[.v (.int L),a1,.v made,.v lastD,s4,.ol (longer.map eW),.v (eW v)]) (ms:=[none,some 6]) (ds:=zW 0 L) ((aG L).map λa=>v++[a]) (by simp) (by simp;omega) (by
  intro j Y
  refine⟨_,rfl,rfl,?_⟩
  have q:v.length+1<=16777216:=by omega
  simp[yp,WG,eW,q])
 have J:longer.length+L<=16777216:=by omega
 simp only[eI]
 generalize q:(iU (λa=>v++[a]) (aG L)).map eW=zs at h1
 have z:zs.length=L:=by rw[<-q];simp
 simp[Yn,we,xR (show L<1000000 by omega),h1,z,J]
theorem Y7(j:L<=3):∀vs:List (List Nat),(vs.flatMap λw=>(aG L).map λa=>w++[a]).length<=vs.length*3
 | []=>by simp
 | v::r=>by
  have:=Y7 j r
  rw[jy,bQ,aM,cY,cC]
  omega
theorem vo(j:L<=3):∀k,(lay L k).length<=3^k
 | 0=>by simp[lay]
 | k+1=>by
  unfold lay
  refine bL (Y7 j _) ?_
  rw[nr]
  exact iS 3 (vo j k)
theorem zeU{L k:Nat}{a1 s4 s5 s6:S}{made:List (List Nat)}(hL:L<=3)(hk:k<5)(hm:made.length<1000):
  ∃t5 t6,Yo [.v (.int L),a1,.v (.lst (made.map eW)),.v (.lst ((lay L k).map eW)),s4,s5,s6]=some (.nx [.v (.int L),a1,.v (.lst ((made++lay L (k+1)).map eW)),.v (.lst ((lay L (k+1)).map eW)),s4,t5,t6]):=by
 have h81:3^k<=81:=jE (n:=3) (by decide) (show k<=4 by omega)
 have hs:=vo hL k
 obtain⟨G1,h1,t6,hg⟩:=xl (t:=zk 6) (fb:=Yn) ((lay L k).map eW)
  (λj Γ=>∃t6,Γ=[.v (.int L),a1,.v (.lst (made.map eW)),.v (.lst ((lay L k).map eW)),s4,.ol ((((lay L k).take j).flatMap λw=>(aG L).map λa=>w++[a]).map eW),t6])
  [.v (.int L),a1,.v (.lst (made.map eW)),.v (.lst ((lay L k).map eW)),s4,.ol [],s6] ⟨s6,rfl⟩ (by
   rintro j Γ hj ⟨t6,rfl⟩
   have hj':j<(lay L k).length:=by simpa using hj
   have hm:=(Hop.uM (cS hj')).1
   have hfl:=Y7 hL ((lay L k).take j)
   have htl:((lay L k).take j).length<=81:=by rw[fC];omega
   have hr:=zgh (a1:=a1) (s4:=s4) (made:=.lst (made.map eW)) (lastD:=.lst ((lay L k).map eW)) (longer:=((lay L k).take j).flatMap λw=>(aG L).map λa=>w++[a]) (v:=(lay L k)[j]) hL (by omega) (by omega)
   refine⟨_,_,rfl,?_,.v (eW (lay L k)[j]),rfl⟩
   rw[ib hj',kP,List.flatMap_singleton,dQ]
   exact hr)
 rw[aM,eH]at hg
 have hl1:(lay L (k+1)).length<=243:=bL (vo hL (k+1)) (by rw[nr];omega)
 have c1:made.length+(lay L (k+1)).length<=16777216:=by omega
 refine⟨.v (.lst ((lay L (k+1)).map eW)),t6,?_⟩
 subst hg
 have hf:((lay L k).flatMap λw=>(aG L).map λa=>w++[a])=lay L (k+1):=rfl
 rw[hf]at h1
 generalize lay L (k+1)=l1 at h1 c1 ⊢
 generalize (lay L k).map eW=l0 at h1 ⊢
 simp[Yo,h1,vW,c1]
theorem ZR(j:L<=3):∀k,k<=5->(wal L k).length<=1+243*k
 | 0,_=>by simp[wal]
 | k+1,q=>by
  have h1:=ZR j k (by omega)
  have h2:=vo j (k+1)
  have z:3^(k+1)<=243:=jE (n:=3) (by decide) (show k+1<=5 by omega)
  show(wal L k++lay L (k+1)).length<=_
  rw[bQ]
  omega
theorem zda{L n:Nat}(O:L<=3)(hn:n<=5):UL [.int L,.int (n:Int)]=some (.lst ((wal L n).map eW)):=by
 obtain⟨G1,h1,z,j,q,R⟩:=xl (t:=zk 4) (fb:=Yo) (zW 0 n)
  (λk Γ=>∃z j q,Γ=[.v (.int L),.v (.int (n:Int)),.v (.lst ((wal L k).map eW)),.v (.lst ((lay L k).map eW)),z,j,q])
  [.v (.int L),.v (.int (n:Int)),.v (.lst [.tup []]),.v (.lst [.tup []]),.un,.un,.un] ⟨.un,.un,.un,rfl⟩ (by
   rintro k Γ U ⟨z,j,q,rfl⟩
   have Y:k<n:=by simpa using U
   have hw:=ZR O k (by omega)
   have J:(wal L k).length<1000:=by
    have:243*k<=243*4:=k4 _ (by omega)
    omega
   obtain⟨Z,u6,e⟩:=zeU (k:=k) (a1:=.v (.int (n:Int))) (s4:=.v (.int (0+(k:Int)))) (s5:=j) (s6:=q) (made:=wal L k) O (by omega) J
   exact⟨_,_,by simp,e,_,Z,u6,rfl⟩)
 rw[xM]at R
 have hr:=xR (n:=n) (by omega)
 refine z7 rfl ?_
 subst R
 simp[zcQ,zT,hr,h1]
section
variable {A:Nat} {rows:List (List Nat)} {g:Nat->Bool}
theorem Qn(ok:OkR A rows){w:List Nat}(hw:∀x∈w,x<A):J0 [zn A rows g,eW w]=some (.bl (g (walk (dl rows) 0 w))):=by
 obtain⟨G1,h1,z3,hg⟩:=xl (t:=zk 3) (fb:=WH) (dN w)
  (λk Γ=>∃z3,Γ=[.v (zn A rows g),.v (eW w),.v (.int (walk (dlt rows) 0 (w.take k):Int)),z3])
  [.v (zn A rows g),.v (eW w),.v (.int ((0:Nat):Int)),.un] ⟨.un,rfl⟩ (by
   rintro k Γ hk ⟨z3,rfl⟩
   have hk':k<w.length:=by simpa using hk
   have hx:=hw _ (cS hk')
   have l1:=Hop.xm (x0 ok) (w.take k) 0 (λa ha=>hw a (List.mem_of_mem_take ha)) ok.pos
   refine⟨[.v (zn A rows g),.v (eW w),.v (.int (walk (dlt rows) 0 (w.take k):Int)),.v (.int (w[k]:Nat))],[.v (zn A rows g),.v (eW w),.v (.int (walk (dlt rows) 0 (w.take (k+1)):Int)),.v (.int (w[k]:Nat))],by simp,?_,.v (.int (w[k]:Nat)),rfl⟩
   unfold WH
   rw[xX,zc4 ok rfl rfl rfl l1 hx,ib hk',xw]
   rfl)
 rw[aM,eH]at hg
 have l1:=Hop.xm (x0 ok) w 0 hw ok.pos
 refine z7 rfl ?_
 unfold zcR
 show zt _ _ [.v (zn A rows g),.v (eW w),.un,.un]=_
 rw[zx]
 show xp (some (.nx [.v (zn A rows g),.v (eW w),.v (.int ((0:Nat):Int)),.un])) _=_
 rw[zu,zx,xY]
 show xp (Ux (some (dN w)) _ _ _) _=_
 rw[xi,h1,hg,zu,ZG,U1 rfl rfl l1]
 rfl
theorem zgi(ok:OkR A rows)(hA1:1<=A)(hA3:A<=3)(hz:rows.length<=2000):∃o,UH [zn A rows g]=some (WP o)/\Zh A (λw=>g (walk (dl rows) 0 w)) o:=by
 obtain⟨p,k,e,ls⟩:=Q0 (g:=g) ok hA1 hA3 hz
 have l':=ls.le
 obtain⟨ws,W⟩:=Hop.zhe ls.ok.pos ls.can.met
 have B:=W.bfs ls.ok
 have tell:∀(j:Nat) (u:List Nat),ws[j]?=some u->k j=g (walk (dl rows) 0 u):=λj u hu=>by
  have:=ls.al u (W.good j u hu)
  rwa [W.walk j u hu]at this
 have lo:=U3 (P:=λw=>g (walk (dl rows) 0 w)) B (λu v a _ _ _ e=>by rw[xw,xw,e]) (λu v hu hv e=>by
  show g (walk (dl rows) 0 u)=g (walk (dl rows) 0 v)
  rw[<-ls.al u hu,<-ls.al v hv,e])
 cases hg:zw p.length k with
 | nil=>
  refine⟨none,z7 rfl ?_,lo.2 λw hw=>?_⟩
  ·have ep:zn A p k=.tup [.int (A:Int),.tup (zi p),.tup []]:=by unfold zn;rw[hg];rfl
   rw[ep]at e
   generalize zn A rows g=Q at e ⊢
   generalize zi p=dp at e ⊢
   simp[JW,zT,e,WP]
  ·obtain⟨j,hj⟩:=iO.mp hw
   have hjl:j<p.length:=by rw[<-W.len];exact(aY.mp hj).1
   rw[<-tell j w hj]
   cases hk:k j with
   | false=>rfl
   | true=>have:=yD.mpr ⟨hjl,hk⟩;rw[hg]at this;cases this
 | cons s r=>
  have hs:s<p.length/\k s=true:=yD.mp (by rw[hg];exact bE)
  have up:=UY (n:=p.length) (g:=k)
  rw[hg]at up
  have hws:s<ws.length:=by rw[W.len];exact hs.1
  have hw:ws[s]?=some ws[s]:=bH hws
  generalize ws[s]=w at hw
  have fw:=Ql (rd:=.tup (zi p)) (m:=p.length) (.inr (by rw[eH])) (gQ hs.1) (aP _) ls.ok W hA3 (by omega) hs.1 hw
  refine⟨some w,z7 rfl ?_,lo.1 s w hw ?_ λj u hj hu=>?_⟩
  ·have fw':UG [.int (s:Int),.tup (zi p)]=some (WP (some w)):=fw
   have ep:zn A p k=.tup [.int (A:Int),.tup (zi p),.tup (dN (s::r))]:=by unfold zn;rw[hg]
   rw[ep]at e
   generalize WP (some w)=ow at fw' ⊢
   generalize zn A rows g=Q at e ⊢
   generalize zi p=dp at e fw' ⊢
   have i2:¬((r.length:Int)+1=0):=by omega
   simp[JW,zT,e,fw',i2]
  ·show g (walk (dl rows) 0 w)=true
   rw[<-tell s w hw];exact hs.2
  ·show g (walk (dl rows) 0 u)=false
   rw[<-tell j u hu]
   cases hk:k j with
   | false=>rfl
   | true=>
    have:=yD.mpr ⟨eD hj hs.1,hk⟩
    rw[hg]at this
    rcases aW.mp this with q|q
    ·omega
    ·have:=List.rel_of_pairwise_cons up q;omega
end
end Py
namespace Pt
open PySem PySem.Spec L2 DD
open PyProof.Rows hiding St
open Hop (HS)
def top(i:Nat):aS:=PySem.Challenge.pw_backhead_k09_counts.main.body.getD i (.Pass ⟨0,0,0,0⟩)
def zeV(s:aS):List aS:=match s with
 | .ClassDef _ _ _ b _ _ _ _ _ _ _=>b
 | _=>[]
def zag(i:Nat):aS:=(zeV (top 4)).getD i (.Pass ⟨0,0,0,0⟩)
abbrev ZS:aS:=zag 2
theorem zeW:FnScope ["self","part"] ["self","part"] (zr ZS):=⟨rfl,rfl,rfl,by decide+kernel,rfl,by decide+kernel,by decide+kernel⟩
def zbK(C:aB):Sp:=λvs H Q _=>∃x p H0 st g,vs=[.ref x,.int (p:Nat)]/\Rep C H0 H x st g/\p<st.waits.length/\st.waiting.length<aH/\∀H',Rep C H0 H' x {st with waits:=st.waits.set p true,waiting:=st.waiting++[p]} g->Q .non H'
theorem Q3{P:aU}{w:aO}{K:aE}{mg:aC->Option aA}{base:aN}{fa C:aB}{fd:cB}(z:Fun K "let_wait" "Parting.let_wait" ZS fa fd)(T:PC K C):FnOk P w K mg base CX0 1 fa fd ["self","part"] (zbK C) :=
 z.ok (k:=0) zeW (λvs H Q E ⟨x,p,H0,st,g,e,_⟩=>by rw[e];rfl) λcdv A outer s H vs Q E R j=>by
  obtain⟨x,p,H0,st,g,e,r,J,O,q⟩:=j
  subst e
  refine⟨_,zL (Zm vz (Y9 (yV (pv 0) rfl) (pv 1) uT)) (yk (xj (xS dB dF dR yz (yV (pv 0) rfl) (zA (pv 1) zN)))),?_⟩
  have r1:=r.setWaits (st.waits.set p true)
  refine⟨_,rfl,x,C,g.dx,_,_,rfl,r.ins,T.cl,T.n4,rfl,_,rfl,g.ws,_,_,p,rfl,rfl,r.ws,Wm (by rw[aM];exact J),?_⟩
  rw[show(st.waits.map V.bl).set p (V.bl true)=(st.waits.set p true).map V.bl from k5.symm]
  refine⟨_,rfl,x,C,g.dx,_,_,rfl,r1.ins,T.cl,T.n3,rfl,.inl ⟨rfl,_,SqL.of r1.wg⟩,_,rfl,g.wg,_,_,rfl,rfl,r1.wg,by rw[aM];exact O,?_⟩
  have r2:=r1.setWaiting (st.waiting++[p])
  refine q _ ?_
  rw[show z0 st.waiting++[V.int (p:Int)]=z0 (st.waiting++[p])from by simp]
  exact r2
abbrev XW:aS:=zag 1
theorem Q4:FnScope ["self","part"] ["self"] (zr XW):=⟨rfl,rfl,rfl,by decide+kernel,rfl,by decide+kernel,by decide+kernel⟩
def zgj(C:aB):Sp:=λvs H Q _=>∃x p H0 st g,vs=[.ref x]/\Rep C H0 H x st g/\st.waiting.getLast?=some p/\p<st.waits.length/\p<st.parts.length/\
 ∀l H',H0 l=none->Rep C (upd H0 l (.lst (z0 (st.parts.getD p [])))) H' x (Hop.take st p) g->Q (.ref l) H'
theorem zeX{P:aU}{w:aO}{K:aE}{mg:aC->Option aA}{base:aN}{fa C:aB}{fd:cB}(Fn:Fun K "take_goals" "Parting.take_goals" XW fa fd)(T:PC K C)(j:mg "list"=none):FnOk P w K mg base CX0 1 fa fd ["self"] (zgj C) :=
 Fn.ok (k:=0) Q4 (λvs H Q E ⟨x,p,H0,st,g,e,_⟩=>by rw[e];rfl) λcdv A outer s H vs Q E hr J=>by
  obtain⟨x,p,H0,st,g,e,r,Y,hp,R,q⟩:=J
  subst e
  refine⟨_,zL (xa (i:=1) Q4.nd rfl (Or.inl rfl) (zfs dB lG PySem.F.type_list_pop zft (yV (pv 0) rfl))) (zL (Zm vz (Y9 (yV (pv 0) rfl) (pv 1) uT)) (yk (Zl (Zr (Jy rfl) rfl j boot_list (zA (wG xQ (yV (pv 0) rfl) (pv 1) (λ_ _=>rfl)) zN))))),?_⟩
  have aa:st.waiting≠[]:=λz=>by rw[z]at Y;cases Y
  have O:(z0 st.waiting)[(z0 st.waiting).length-1]?=some (V.int (p:Int)):=by
   rw[bG,aM,<-List.getLast?_eq_getElem?,Y];rfl
  refine⟨_,rfl,x,C,g.dx,_,_,rfl,r.ins,T.cl,T.n3,rfl,.inl ⟨rfl,_,SqL.of r.wg⟩,g.wg,_,_,rfl,rfl,r.wg,O,?_⟩
  have r1:=r.setWaiting st.waiting.dropLast
  rw[show(z0 st.waiting).dropLast=z0 st.waiting.dropLast from List.map_dropLast.symm]
  refine⟨_,rfl,x,C,g.dx,_,_,rfl,r1.ins,T.cl,T.n4,rfl,_,rfl,g.ws,_,_,p,rfl,rfl,r1.ws,Wm (by rw[aM];exact hp),?_⟩
  rw[show(st.waits.map V.bl).set p (V.bl false)=(st.waits.set p false).map V.bl from k5.symm]
  have r2:=r1.setWaits (st.waits.set p false)
  have hd:g.ds[p]?=some (g.ds[p]'(by rw[r.len];exact R)):=by simp[r.len,R]
  refine⟨_,rfl,x,C,g.dx,_,_,rfl,r2.ins,T.cl,T.n2,rfl,_,rfl,g.pl,_,_,_,rfl,rfl,SqL.of r2.pl,xA (by rw[bG,hd];rfl),_,_,rfl,r2.ds p _ hd,λl U=>?_⟩
  have ek:iU (λZ:Key×V=>kV Z.1) (xv (st.parts.getD p []))=z0 (st.parts.getD p []):=by rw[cN];rfl
  show Q (.ref l) (upd _ l (.lst (iU (λZ:Key×V=>kV Z.1) (xv (st.parts.getD p [])))))
  rw[ek]
  exact q l _ (r2.sm.free U) (r2.ext U _)
abbrev VJ:aS:=zag 3
theorem XX:FnScope ["self","part","stands","rest","fresh","stand"] ["self","part","stands"] (zr VJ):=⟨rfl,rfl,rfl,by decide+kernel,rfl,by decide+kernel,by decide+kernel⟩
def zhh(C:aB):Sp:=λvs H Q _=>∃x part l stands H0 st g n,vs=[.ref x,.int (part:Nat),.ref l]/\Rep C H0 H x st g/\H0 l=some (.lst (z0 stands))/\Hop.Ok n st/\Hop.Cut n st part stands/\n<aH/\st.parts.length<aH/\st.waiting.length<aH/\
 ∀H' g',Rep C H0 H' x (Hop.ye st part stands) g'->Q .non H'
theorem zgk{P:aU}{w:aO}{K:aE}{mg:aC->Option aA}{base:aN}{fa fw C:aB}{fd fdw:cB}(Fn:Fun K "part_off" "Parting.part_off" VJ fa fd)(T:PC K C)(hlen:mg "len"=none)(Fw:Fun K "let_wait" "Parting.let_wait" ZS fw fdw)(mw:Meth K C "let_wait" fw):FnOk P w K mg base CX0 2 fa fd ["self","part","stands"] (zhh C) :=
 Fn.ok (k:=1) XX (λvs H Q E ⟨x,part,l,stands,H0,st,g,n,e,_⟩=>by rw[e];rfl) λcdv A outer s H vs Q E hr hh67'=>by
  obtain⟨x,part,l,stands,H0,st,g,n,e,r,hs,ok,c,hn,hz,hw,q⟩:=hh67'
  subst e
  have bw:xo K fdw ["self","part"] []:=Fw.binds λ_ _ _ _ _ _ us hl=>by rcases us with _|⟨_,_|⟨_,_|⟨_,_⟩⟩⟩ <;>first|rfl|cases hl|(simp at hl)
  refine⟨_,zL (xa (i:=3) XX.nd rfl (Or.inl rfl) (wG xQ (yV (pv 0) rfl) (pv 1) (λ_ _=>rfl)))
   (zL (Vu (ZW zgH (wq zF rfl hlen cE (zA (pv 2) zN)) (wq W3 rfl hlen cE (zA (pv 3) zN)) (yo _)) (yk zd4) X4)
   (zL (xa (i:=4) XX.nd rfl (Or.inl rfl) (wq zF rfl hlen cE (zA (yV (pv 0) rfl) zN)))
   (zL (xj (xS dB dF dR yz (yV (pv 0) rfl) (zA vV zN)))
   (zL (xj (xS dB dF dR yz (yV (pv 0) rfl) (zA vz zN)))
   (zL (vi bY rfl (ZV (pv 2)) (xk (i:=5) XX.nd rfl (Or.inl rfl)) (zL (xj (zb6 (pv 3) (pv 5) ⟨rfl,rfl,rfl,rfl⟩)) (zL (Z5 (yE hr) (wG xQ (yV (pv 0) rfl) (pv 4) (λ_ _=>rfl)) (pv 5) vz rfl) (yk (Zm (pv 4) (Y9 (yV (pv 0) rfl) (pv 5) uT))))))
   (yk (Vu (PW.pt (zdA (VP (wG xQ (yV (pv 0) rfl) (pv 1) (λ_ _=>rfl))) (zar (ZW Xb (wq zF rfl hlen cE (zA (pv 2) zN)) (wq W3 rfl hlen cE (zA (pv 3) zN)) (yo _)))))
    (yk (xj (X8 (pv 0) T.cl mw (Q3 Fw T) hr bw .nil v6 (zA (pv 4) zN)))) (yk (xj (X8 (pv 0) T.cl mw (Q3 Fw T) hr bw .nil v6 (zA (pv 1) zN))))))))))),?_⟩
  have hd:g.ds[part]?=some (g.ds[part]'(by rw[r.len];exact c.lt)):=by simp[r.len,c.lt]
  generalize hdp:g.ds[part]'(by rw[r.len];exact c.lt)=dp at hd
  refine⟨_,rfl,x,C,g.dx,_,_,rfl,r.ins,T.cl,T.n2,rfl,_,rfl,g.pl,_,_,.ref dp,rfl,rfl,SqL.of r.pl,xA (by rw[bG,hd];rfl),?_⟩
  have hl:H l=some (.lst (z0 stands)):=r.sm _ _ hs
  refine⟨_,rfl,l,_,rfl,.inl (SqL.of hl),_,rfl,dp,_,rfl,r.ds part dp hd,rfl,_,rfl,?_⟩
  refine VU (λh=>?_) (λh=>?_)
  ·have h':=zew h
   rw[aM,aM]at h'
   exact q H g (by rw[Hop.Xw h'];exact r)
  have h':=zex h
  rw[aM,aM]at h'
  refine⟨_,rfl,x,C,g.dx,_,_,rfl,r.ins,T.cl,T.n2,rfl,g.pl,_,rfl,.inl (SqL.of r.pl),?_⟩
  refine⟨_,rfl,x,C,g.dx,_,_,rfl,r.ins,T.cl,T.n2,rfl,.inl ⟨rfl,_,SqL.of r.pl⟩,λd hd0=>⟨g.pl,_,_,rfl,rfl,by rw[ze (zq r.pl hd0)];exact r.pl,by rw[aM,r.len];exact hz,?_⟩⟩
  have r1:=r.addPart hd0
  rw[show g.ds.map V.ref++[V.ref d]=(g.ds++[d]).map V.ref from by simp]
  have hd1:(g.ds++[d])[part]?=some dp:=by rw[eA (by rw[r.len];exact c.lt)];exact hd
  have hdf:(g.ds++[d])[st.parts.length]?=some d:=by rw[<-r.len];simp
  have el:(g.ds.map V.ref).length=st.parts.length:=by rw[aM];exact r.len
  generalize hg1:({g with ds:=g.ds++[d]}:Ads)=g1 at r1
  have eds:g1.ds=g.ds++[d]:=by rw[<-hg1]
  rw[<-eds]at hd1 hdf
  have ews:g1.ws=g.ws:=by rw[<-hg1]
  have edx:g1.dx=g.dx:=by rw[<-hg1]
  refine⟨_,rfl,x,C,g1.dx,_,_,rfl,r1.ins,T.cl,T.n4,rfl,.inl ⟨rfl,_,SqL.of r1.ws⟩,g1.ws,_,_,rfl,rfl,r1.ws,by rw[aM,ok.wl];exact hz,?_⟩
  have r2:=r1.setWaits (st.waits++[false])
  rw[show st.waits.map V.bl++[V.bl false]=(st.waits++[false]).map V.bl from by simp]
  have r2':Rep C H0 (upd (upd (upd H d (.dK [])) g.pl (.lst ((g.ds++[d]).map V.ref))) g1.ws (.lst ((st.waits++[false]).map V.bl))) x (mid st part stands 0) g1:=by rw[zcj part stands c.lt];exact r2
  have hwl:st.waits.length=st.parts.length:=ok.wl
  refine⟨_,rfl,l,rfl,⟨_,SqL.of (r2'.sm _ _ hs)⟩,uS (xs:=z0 stands) (λi σ H=>(∃o,σ=[some (.ref x),some (.int (part:Int)),some (.ref l),some (.ref dp),some (.int (st.parts.length:Int)),o])/\Rep C H0 H x (mid st part stands i) g1)
   ⟨⟨none,by rw[el];rfl⟩,r2'⟩ (λi σ H _ p=>SqL.of (p.2.sm _ _ hs)) (λi v σ H hv p=>?_) (λσ H p=>?_)⟩
  ·obtain⟨⟨o,rfl⟩,r⟩:=p
   rw[bG]at hv
   obtain⟨s,hsi,rfl⟩:=eE.mp hv
   have hmem:s∈stands:=bX hsi
   have hnt:s∉stands.take i:=λz=>by
    obtain⟨j,hj⟩:=eG z
    rw[mQ]at hj
    split at hj
    ·rename_i hji
     obtain⟨a1,a2⟩:=aY.mp hj
     obtain⟨b1,b2⟩:=aY.mp hsi
     have:=(fX c.nd).mp (a2.trans b2.symm)
     omega
    ·cases hj
   have hin:s∈(mid st part stands i).parts.getD part []:=by
    rw[Ul c.lt,eL]
    exact⟨c.sub s hmem,by simpa using hnt⟩
   have hsn:s<n:=((ok.mem part s).mp (c.sub s hmem)).1
   refine⟨_,rfl,dp,rfl,.inl ⟨_,.inl (r.ds part dp hd1)⟩,_,rfl,_,Sum.inl (s:Int),V.bl true,r.ds part dp hd1,rfl,by rw[ZC,if_pos hin],?_⟩
   rw[u4]
   have r3:=r.setPart hd1 (((mid st part stands i).parts.getD part []).filter λt=>decide (t≠s))
   have hpf:part≠st.parts.length:=bO c.lt
   have ef:((mid st part stands i).parts.set part (((mid st part stands i).parts.getD part []).filter λt=>decide (t≠s))).getD st.parts.length []=stands.take i:=by
    rw[Hop.xJ,if_neg λz=>hpf z.1,W9]
   have hkd:=r3.ds st.parts.length d hdf
   rw[show({mid st part stands i with parts:=(mid st part stands i).parts.set part (((mid st part stands i).parts.getD part []).filter λt=>decide (t≠s))}:HS).parts.getD st.parts.length []=stands.take i from ef]at hkd
   refine⟨_,rfl,x,C,g1.dx,_,_,rfl,r3.ins,T.cl,T.n2,rfl,_,rfl,g1.pl,_,_,.ref d,rfl,rfl,SqL.of r3.pl,xA (by rw[bG,hdf];rfl),_,rfl,d,_,rfl,vU.k (k:=Sum.inl (s:Int)) hkd ?_,?_⟩
   ·rw[aM]
    have h1:(stands.take i).length<=stands.length:=List.length_take_le' _ _
    have h2:=Hop.yq (m:=aG n) c.nd λy hy=>bZ.mpr ((ok.mem part y).mp (c.sub y hy)).1
    rw[cY]at h2
    omega
   rw[W8 hnt]
   have r4:=r3.setPart hdf (stands.take i++[s])
   refine⟨_,rfl,_,rfl,x,C,g1.dx,_,_,rfl,r4.ins,T.cl,T.n1,rfl,_,rfl,g1.po,_,_,s,rfl,rfl,r4.po,Wm ?_,?_⟩
   ·rw[aM]
    show s<(Hop.yX st.partOf (stands.take i) st.parts.length).length
    rw[Hop.u0,ok.len];exact hsn
   have r5:=r4.setPartOf ((mid st part stands i).partOf.set s st.parts.length)
   rw[show(z0 (mid st part stands i).partOf).set s (V.int (st.parts.length:Int))=z0 ((mid st part stands i).partOf.set s st.parts.length)from k5.symm]
   refine⟨⟨_,rfl⟩,?_⟩
   rw[zck c.lt hsi,W9]
   exact r5
  ·obtain⟨⟨o,rfl⟩,r⟩:=p
   rw[aM]at r
   have hpw:part<(st.waits++[false]).length:=by rw[bQ,hwl];have:=c.lt;omega
   have hfw:st.parts.length<(st.waits++[false]).length:=by rw[bQ,hwl];simp
   have fin:∀w,(w=if(st.waits++[false]).getD part false=true\/stands.length<=((mid st part stands stands.length).parts.getD part []).length then st.parts.length else part)->w<(st.waits++[false]).length->zbK C [.ref x,.int (w:Nat)] H Q E0:=λw hw1 hw2=>
    ⟨x,w,H0,_,g1,rfl,r,hw2,hw,λH' r'=>q H' g1 (by rw[<-zev c.lt h' hw1];exact r')⟩
   refine⟨_,rfl,x,C,g1.dx,_,_,rfl,r.ins,T.cl,T.n4,rfl,_,rfl,g1.ws,_,_,.bl ((st.waits++[false]).getD part false),rfl,rfl,SqL.of r.ws,xA (by rw[bG,show(mid st part stands stands.length).waits=st.waits++[false]from rfl,getD_some (d:=false) hpw];rfl),_,rfl,?_⟩
   refine VU (λhc=>?_) (λhc=>?_)
   ·refine zig ⟨_,rfl,x,g1.dx,_,rfl,r.ins,rfl,_,rfl,fin st.parts.length (by rw[if_pos (.inl hc)]) hfw⟩
   ·refine⟨_,rfl,l,_,rfl,.inl (SqL.of (r.sm _ _ hs)),_,rfl,dp,_,rfl,r.ds part dp hd1,_,_,rfl,rfl,_,rfl,?_⟩
    refine VU (λhc2=>?_) (λhc2=>?_)
    ·have h2:stands.length<=((mid st part stands stands.length).parts.getD part []).length:=by
      have:=of_decide_eq_true hc2
      rw[aM,aM]at this
      omega
     exact⟨_,rfl,x,g1.dx,_,rfl,r.ins,rfl,_,rfl,fin st.parts.length (by rw[if_pos (.inr h2)]) hfw⟩
    ·have h2:¬stands.length<=((mid st part stands stands.length).parts.getD part []).length:=λz=>hc2 (decide_eq_true (by
      rw[aM,aM];omega))
     exact⟨_,rfl,x,g1.dx,_,rfl,r.ins,rfl,_,rfl,fin part (by rw[if_neg λz=>z.elim hc h2]) hpw⟩
abbrev XY:aS:=zag 0
theorem Yw:FnScope ["self","good","stand","mark","part"] ["self","good"] (zr XY):=⟨rfl,rfl,rfl,by decide+kernel,rfl,by decide+kernel,by decide+kernel⟩
def zgl(C:aB):Sp:=λvs H Q _=>∃x gl dx good H0,vs=[.ref x,.ref gl]/\H x=some (.ins C dx [])/\zp H0 H/\H0 x=none/\H0 gl=some (.lst ((good:List Bool).map V.bl))/\good.length<aH/\∀H' g,Rep C H0 H' x (Hop.start good) g->Q .non H'
theorem zhi(h:Q (.int (pOf b:Nat)) H):if b=true then tC (.int 1) σ H Q else tC (.int 0) σ H Q:=by
 cases b <;>exact h
theorem zeY{P:aU}{w:aO}{K:aE}{mg:aC->Option aA}{base:aN}{fa C:aB}{fd:cB}(Fn:Fun K "__init__" "Parting.__init__" XY fa fd)(T:PC K C)(Y:mg "enumerate"=none):FnOk P w K mg base CX0 1 fa fd ["self","good"] (zgl C) :=
 Fn.ok (k:=0) Yw (λvs H Q E ⟨x,gl,dx,good,H0,e,_⟩=>by rw[e];rfl) λcdv A outer s H vs Q E hr Z=>by
  obtain⟨x,gl,dx,good,H0,e,hx,sm,h0,O,hz,q⟩:=Z
  subst e
  refine⟨_,zL (Xe (pv 0) (vO zN) rfl) (zL (Xe (pv 0) (vO (zA vV (zA vV zN))) rfl) (zL (Xe (pv 0) (vO (zA wE (zA wE zN))) rfl) (zL (Xe (pv 0) (vO (zA vz (zA vz zN))) rfl)
   (yk (vi bY rfl (Uc rfl Y (zA (pv 1) zN)) (Y8 rfl (wp (xk (i:=2) Yw.nd rfl (Or.inl rfl)) (wp (xk (i:=3) Yw.nd rfl (Or.inl rfl)) ZU)))
    (zL (xa (i:=4) Yw.nd rfl (Or.inl rfl) (zbM (VP (pv 3)) wE wE)) (zL (xj (xS dB dF dR yz (yV (pv 0) rfl) (zA (pv 4) zN)))
     (yk (Z5 (yE hr) (wG xQ (yV (pv 0) rfl) (pv 4) (λ_ _=>rfl)) (pv 2) vz rfl))))))))),?_⟩
  refine⟨by decide,λz af=>⟨_,rfl,x,C,dx,_,rfl,by rw[ze (zq hx af)];exact hx,T.cl,T.n1,by decide,?_⟩⟩
  have l1:=wh "part_of" (V.ref z) ([]:List (aC×V))
  rw[jo]at l1
  generalize ea:upd (upd H z (HO.lst [])) x (HO.ins C dx (yg "part_of" (V.ref z) []))=Ha
  have j:Ha x=some (HO.ins C dx (yg "part_of" (V.ref z) [])):=by rw[<-ea];exact zj
  refine λd1 J d2 aa=>⟨by show 2<=aH;decide,λpl ag=>⟨_,rfl,x,C,dx,_,rfl,by rw[ze (zq (by rw[ze (zq (by rw[ze (zq j J)];exact j) aa),ze (zq j J)];exact j) ag),ze (zq (by rw[ze (zq j J)];exact j) aa),ze (zq j J)];exact j,T.cl,T.n2,by omega,?_⟩⟩
  have l2:=wh "parts" (V.ref pl) (yg "part_of" (V.ref z) ([]:List (aC×V)))
  generalize eb:upd (upd (upd (upd Ha d1 (HO.dK [])) d2 (HO.dK [])) pl (HO.lst [V.ref d1,V.ref d2])) x (HO.ins C dx (yg "parts" (V.ref pl) (yg "part_of" (V.ref z) [])))=Hb
  have ah:Hb x=some (HO.ins C dx (yg "parts" (V.ref pl) (yg "part_of" (V.ref z) []))):=by rw[<-eb];exact zj
  refine⟨by decide,λR ai=>⟨_,rfl,x,C,dx,_,rfl,by rw[ze (zq ah ai)];exact ah,T.cl,T.n3,by omega,?_⟩⟩
  have l3:=wh "waiting" (V.ref R) (yg "parts" (V.ref pl) (yg "part_of" (V.ref z) ([]:List (aC×V))))
  generalize ec:upd (upd Hb R (HO.lst [V.int 0,V.int 1])) x (HO.ins C dx (yg "waiting" (V.ref R) (yg "parts" (V.ref pl) (yg "part_of" (V.ref z) []))))=Hc
  have aj:Hc x=some (HO.ins C dx (yg "waiting" (V.ref R) (yg "parts" (V.ref pl) (yg "part_of" (V.ref z) [])))):=by rw[<-ec];exact zj
  refine⟨by decide,λws ak=>⟨_,rfl,x,C,dx,_,rfl,by rw[ze (zq aj ak)];exact aj,T.cl,T.n4,by omega,?_⟩⟩
  have ef:yg "waits" (V.ref ws) (yg "waiting" (V.ref R) (yg "parts" (V.ref pl) (yg "part_of" (V.ref z) [])))=zci ⟨dx,z,pl,R,ws,[d1,d2]⟩:=by rfl
  generalize hH:upd (upd Hc ws (HO.lst [V.bl true,V.bl true])) x (HO.ins C dx (yg "waits" (V.ref ws) (yg "waiting" (V.ref R) (yg "parts" (V.ref pl) (yg "part_of" (V.ref z) [])))))=Hd
  have r0:=Rep.begin (C:=C) (dx:=dx) (Hd:=Hd) sm hx h0 af ea.symm J aa ag eb.symm ai ec.symm ak (ed:=by rw[<-hH,ef])
  generalize hg:(⟨dx,z,pl,R,ws,[d1,d2]⟩:Ads)=g at r0
  have al:g.ds.length=2:=by rw[<-hg];rfl
  refine⟨_,rfl,gl,rfl,⟨_,SqL.of (r0.sm _ _ O)⟩,Um (n:=good.length) (λi σ H=>(∃o2 o3 o4,σ=[some (.ref x),some (.ref gl),o2,o3,o4])/\∃H1,zp H0 H1/\Rep C H1 H x (ini good i) g)
   ⟨⟨none,none,none,rfl⟩,H0,zp.refl _,r0⟩ (λi σ H hi ab=>(by obtain⟨_,H1,s1,r⟩:=ab;exact⟨_,.bl good[i],SqL.of (r.sm _ _ (s1 _ _ O)),by simp[hi]⟩)) (λσ H ac=>(by obtain⟨_,H1,s1,r⟩:=ac;exact⟨_,SqL.of (r.sm _ _ (s1 _ _ O)),by rw[aM];exact aP _⟩)) (λi v σ H H' hi p y=>?_) (λσ H p=>?_)⟩
  ·obtain⟨⟨o2,o3,o4,rfl⟩,H1,s1,r⟩:=p
   obtain⟨t,u,hT,rfl,rfl,hv⟩:=y
   have hb:=hv _ (SqL.of (r.sm _ _ (s1 _ _ O)))
   rw[bG]at hb
   obtain⟨b,am,rfl⟩:=eE.mp hb
   have r1:=r.ext hT (.tup [.int i,.bl b])
   have U:pOf b<2:=by cases b <;>decide
   have ae:g.ds[pOf b]?=some (g.ds[pOf b]'(by rw[al];exact U)):=by simp[al,U]
   refine⟨t,_,rfl,SqT.of zj,rfl,_,_,rfl,_,_,rfl,rfl,?_⟩
   refine⟨_,rfl,b,rfl,zhi ?_⟩
   refine⟨_,rfl,x,C,g.dx,_,_,rfl,r1.ins,T.cl,T.n1,rfl,.inl ⟨rfl,_,SqL.of r1.po⟩,_,rfl,g.po,_,_,rfl,rfl,r1.po,?_,?_⟩
   ·rw[aM]
    show((good.take i).map pOf).length<_
    rw[aM,fC]
    omega
   have r2:=r1.setPartOf ((ini good i).partOf++[pOf b])
   rw[show z0 (ini good i).partOf++[V.int (pOf b:Int)]=z0 ((ini good i).partOf++[pOf b])from by simp]
   have hk:=r2.ds (pOf b) _ ae
   refine⟨_,rfl,x,C,g.dx,_,_,rfl,r2.ins,T.cl,T.n2,rfl,_,rfl,g.pl,_,_,_,rfl,rfl,SqL.of r2.pl,xA (by rw[bG,ae];rfl),_,rfl,_,_,rfl,vU.k (k:=Sum.inl (i:Int)) hk ?_,?_⟩
   ·rw[aM]
    exact eB (za0 (good:=good) (i:=i) (p:=pOf b)) (by omega)
   have r3:=r2.setPart ae ((ini good i).parts.getD (pOf b) []++[i])
   rw[W8 (l:=((ini good i).parts.getD (pOf b) [])) zaZ]
   refine⟨⟨_,_,_,rfl⟩,upd H1 t (.tup [.int i,.bl b]),?_,?_⟩
   ·exact s1.trans (zE (r.sm.free hT) _)
   ·rw[zcm am]
    exact r3
  ·obtain⟨_,H1,s1,r⟩:=p
   rw[zcl]at r
   exact q H g (r.weak s1)
abbrev XZ:aS:=top 6
theorem uN:FnScope ["goals","back","part_of","found","goal","stand","part"] ["goals","back","part_of"] (zr XZ):=⟨rfl,rfl,rfl,by decide+kernel,rfl,by decide+kernel,by decide+kernel⟩
def zgm:Sp:=λvs H Q _=>∃gl bl pl goals back partOf as,vs=[.ref gl,.ref bl,.ref pl]/\H gl=some (.lst (z0 goals))/\BkR H bl back as/\H pl=some (.lst (z0 partOf))/\(∀g∈goals,g<back.length)/\(∀g,∀s∈back.getD g [],s<partOf.length)/\
 (goals.flatMap λg=>back.getD g []).length<aH/\∀d H' fl,FR H H' d fl->fl.map (·.1)=Hop.wQ goals back partOf->Q (.ref d) H'
theorem zeZ{P:aU}{w:aO}{K:aE}{mg:aC->Option aA}{base:aN}{fa:aB}{fd:cB}(Fn:Fun K "leading_to" "leading_to" XZ fa fd):FnOk P w K mg base CX0 1 fa fd ["goals","back","part_of"] zgm :=
 Fn.ok (k:=0) uN (λvs H Q E ⟨gl,bl,pl,goals,back,partOf,as,e,_⟩=>by rw[e];rfl) λcdv A outer s H vs Q E hr hh71'=>by
  obtain⟨gl,bl,pl,goals,back,partOf,as,e,hgl,hbl,hpl,hgb,hsp,hz,q⟩:=hh71'
  subst e
  refine⟨_,zL (xa (i:=3) uN.nd rfl (Or.inl rfl) vV) (zL (vi bY rfl (ZV (pv 0)) (xk (i:=4) uN.nd rfl (Or.inl rfl)) (yk (vi bY rfl (ZV (wG xQ (pv 1) (pv 4) (λ_ _=>rfl))) (xk (i:=5) uN.nd rfl (Or.inl rfl))
   (zL (xa (i:=6) uN.nd rfl (Or.inl rfl) (wG xQ (pv 2) (pv 5) (λ_ _=>rfl))) (zL (Vu (ze7 (zaI (yE hr) (pv 6) (pv 3))) (yk (Z5 (yE hr) (pv 3) (pv 6) (vO zN) rfl)) X4)
    (yk (xj (xS dB dF dR yz (QB (yE hr) (pv 3) (pv 6) (λ_ _=>rfl)) (zA (pv 5) zN))))))))) (yk (Zl (pv 3)))),?_⟩
  intro d hd
  have f0:=FR.new hd
  refine⟨_,rfl,gl,rfl,⟨_,SqL.of (f0.sm _ _ hgl)⟩,uS (xs:=z0 goals) (λi σ H1=>(∃o4 o5 o6,σ=[some (.ref gl),some (.ref bl),some (.ref pl),some (.ref d),o4,o5,o6])/\∃fl,FR H H1 d fl/\fl.map (·.1)=vx (λs=>partOf.getD s 0) ((goals.take i).flatMap λg=>back.getD g []))
   ⟨⟨none,none,none,rfl⟩,[],f0,rfl⟩ (λi σ H1 _ hh72'=>(by obtain⟨_,fl,f,_⟩:=hh72';exact SqL.of (f.sm _ _ hgl))) (λi v σ H1 hv p=>?_) (λσ H1 p=>?_)⟩
  ·obtain⟨⟨o4,o5,o6,rfl⟩,fl,f,efl⟩:=p
   rw[bG]at hv
   obtain⟨g,hgi,rfl⟩:=eE.mp hv
   have hg:=hgb g (bX hgi)
   have hag:as[g]?=some (as[g]'(by rw[hbl.len];exact hg)):=by simp[hbl.len,hg]
   generalize as[g]'(by rw[hbl.len];exact hg)=ag at hag
   have hal:=hbl.ls g ag hag
   refine⟨_,rfl,_,rfl,bl,_,_,.ref ag,rfl,rfl,SqL.of (f.sm _ _ hbl.b),xA (by rw[bG,hag];rfl),ag,rfl,⟨_,SqL.of (f.sm _ _ hal)⟩,uS (xs:=z0 (back.getD g [])) (λj σ H1=>(∃o5 o6,σ=[some (.ref gl),some (.ref bl),some (.ref pl),some (.ref d),some (.int (g:Int)),o5,o6])/\∃fl,FR H H1 d fl/\fl.map (·.1)=vx (λs=>partOf.getD s 0) ((goals.take i).flatMap (λg=>back.getD g [])++(back.getD g []).take j))
    ⟨⟨o5,o6,rfl⟩,fl,f,by rw[mM,gF];exact efl⟩ (λj σ H1 _ hh73'=>(by obtain⟨_,fl,f,_⟩:=hh73';exact SqL.of (f.sm _ _ hal))) (λj v σ H1 hv p=>?_) (λσ H1 p=>?_)⟩
   ·obtain⟨⟨o5,o6,rfl⟩,fl,f,efl⟩:=p
    rw[bG]at hv
    obtain⟨s,hsj,rfl⟩:=eE.mp hv
    have hs:=hsp g s (bX hsj)
    generalize hxs:(goals.take i).flatMap (λg=>back.getD g [])++(back.getD g []).take j=xs at efl
    have hxl:xs.length<aH:=by rw[<-hxs];exact eB (zez back hgi j) hz
    have small:=JB (λs=>partOf.getD s 0) xs
    rw[<-efl]at small
    have exs:(goals.take i).flatMap (λg=>back.getD g [])++(back.getD g []).take (j+1)=xs++[s]:=by rw[ZD hsj,<-mm,hxs]
    have eg:vx (λs=>partOf.getD s 0) (xs++[s])=Hop.yw (fl.map (·.1)) (partOf.getD s 0) s:=by rw[Vb,efl]
    generalize hp:partOf.getD s 0=p at eg
    refine⟨_,rfl,_,rfl,pl,_,_,.int (p:Nat),rfl,rfl,SqL.of (f.sm _ _ hpl),xA (by rw[bG,getD_some (d:=0) hs,hp];rfl),?_⟩
    refine⟨_,rfl,_,rfl,d,_,rfl,xn.k (k:=Sum.inl (p:Int)) f.dd,_,rfl,?_⟩
    refine VU (λhc=>?_) (λhc=>?_)
    ·have hnot:p∉fl.map (·.1.1):=λz=>by
      obtain⟨e,he,ee⟩:=bK.mp z
      have:=Uo f.kn he
      rw[ee]at this
      rw[this]at hc;cases hc
     refine⟨by decide,λa ha=>⟨_,rfl,_,rfl,d,_,rfl,vU.k (k:=Sum.inl (p:Int)) (by rw[ze (zq f.dd ha)];exact f.dd) ?_,?_⟩⟩
     ·rw[aM]
      have:=small.1
      rw[aM]at this
      omega
     have f1:=f.add hnot ha
     have hin:(((p,[]),a):FE)∈fl++[((p,[]),a)]:=by simp
     have dg:xn (upd (upd H1 a (.lst [])) d (.dK (xf (kvF fl) (Sum.inl (p:Int)) (V.ref a)))) d (.int (p:Int)) (some (.ref a)):=by
      have:=xn.k (k:=Sum.inl (p:Int)) f1.dd
      rw[Uo f1.kn hin]at this
      exact this
     refine⟨_,rfl,_,rfl,d,.ref a,rfl,dg,.inl ⟨rfl,_,SqL.of (f1.ls _ hin).1⟩,_,rfl,a,_,_,rfl,rfl,(f1.ls _ hin).1,by show 0<aH;decide,?_⟩
     have f2:=f1.app (s:=s) hin rfl
     exact⟨⟨_,_,rfl⟩,_,f2,by rw[exs,eg,zcn hnot]⟩
    ·have hk:p∈fl.map (·.1.1):=kQ λz=>hc (by rw[QN z];rfl)
     obtain⟨e,he,ee⟩:=bK.mp hk
     have dg:xn H1 d (.int (p:Int)) (some (.ref e.2)):=by
      have:=xn.k (k:=Sum.inl (p:Int)) f.dd
      rw[<-ee,Uo f.kn he,ee]at this
      exact this
     refine⟨_,rfl,_,rfl,d,.ref e.2,rfl,dg,.inl ⟨rfl,_,SqL.of (f.ls _ he).1⟩,_,rfl,e.2,_,_,rfl,rfl,(f.ls _ he).1,?_,?_⟩
     ·rw[aM]
      have:=small.2 e.1 (bK.mpr ⟨e,he,rfl⟩)
      omega
     have f2:=f.app (s:=s) he ee
     rw[show z0 e.1.2++[V.int (s:Int)]=z0 (e.1.2++[s])from by simp]
     exact⟨⟨_,_,rfl⟩,_,f2,by rw[exs,eg,JA f.kn hk]⟩
   ·obtain⟨⟨o5,o6,rfl⟩,fl,f,efl⟩:=p
    refine⟨⟨_,_,_,rfl⟩,fl,f,?_⟩
    rw[efl,aM,eH,Vd back hgi]
  ·obtain⟨⟨o4,o5,o6,rfl⟩,fl,f,efl⟩:=p
   refine⟨_,rfl,q d H1 fl f ?_⟩
   rw[efl,aM,eH,za1]
abbrev VL:aS:=top 5
theorem X0:FnScope ["rows","letter","back","stand","row"] ["rows","letter"] (zr VL):=⟨rfl,rfl,rfl,by decide+kernel,rfl,by decide+kernel,by decide+kernel⟩
structure RwR (H:Hp) (rl:aB) (rows:List (List Nat)) (rs:List aB):Prop where
 r:H rl=some (.tup (rs.map V.ref))
 len:rs.length=rows.length
 ls:∀(i:Nat) a,rs[i]?=some a->H a=some (.tup (z0 (rows.getD i [])))
theorem RwR.mono(r:RwR H j rows q)(s:zp H H'):RwR H' j rows q:=⟨s _ _ r.r,r.len,λi a h=>s _ _ (r.ls i a h)⟩
def zdX:Sp:=λvs H Q _=>∃j a rows q,vs=[.ref j,.int (a:Nat)]/\RwR H j rows q/\(∀s,s<rows.length->a<(rows.getD s []).length/\(rows.getD s []).getD a 0<rows.length)/\rows.length<aH/\∀b H' as,BO H H' b as (bk rows a rows.length)->Q (.ref b) H'
theorem zgn{P:aU}{w:aO}{K:aE}{mg:aC->Option aA}{base:aN}{fa:aB}{fd:cB}(Fn:Fun K "arrows_back" "arrows_back" VL fa fd)(O:mg "enumerate"=none):FnOk P w K mg base CX0 1 fa fd ["rows","letter"] zdX :=
 Fn.ok (k:=0) X0 (λvs H Q E ⟨Z,a,rows,rs,e,_⟩=>by rw[e];rfl) λcdv A outer s H vs Q E hr R=>by
  obtain⟨Z,a,rows,rs,e,z,aa,hz,q⟩:=R
  subst e
  refine⟨_,zL (ZY (N:=["row"]) (ms:=[none]) (i:=2) rfl (CompOk.of (by rfl)) (zfg (pv 0)) (λcl C s H ex=>⟨xk (i:=0) (show(["row"]:List aC).Nodup by decide+kernel) rfl (Or.inl rfl),VW,vO zN⟩) X0.nd rfl (Or.inl rfl) rfl)
   (zL (vi bY rfl (VY rfl O (zA (pv 0) zN)) (Y8 rfl (wp (xk (i:=3) X0.nd rfl (Or.inl rfl)) (wp (xk (i:=4) X0.nd rfl (Or.inl rfl)) ZU)))
    (yk (xj (xS dB dF dR yz (wG xQ (pv 2) (wG VT (pv 4) (pv 1) (λ_ _=>rfl)) (λ_ _=>rfl)) (zA (pv 3) zN)))))
    (yk (Zl (pv 2)))),?_⟩
  have j:(rs.map V.ref).length=rows.length:=by rw[aM];exact z.len
  refine⟨_,rfl,Z,rfl,⟨_,SqT.of z.r⟩,zco z.r (by rw[j];omega) λas H1 l b hb=>?_⟩
  rw[j,<-zeA rows a]at l
  have b0:=l.close hb
  refine⟨_,rfl,Z,rfl,⟨_,SqT.of (b0.l.sm _ _ z.r)⟩,Um (n:=rows.length) (λi σ H2=>(∃o3 o4,σ=[some (.ref Z),some (.int (a:Int)),some (.ref b),o3,o4])/\BO H H2 b as (bk rows a i))
   ⟨⟨none,none,rfl⟩,b0⟩ (λi σ H2 hi U=>(by obtain⟨_,r⟩:=U;exact⟨_,.ref (rs[i]'(by rw[z.len];exact hi)),SqT.of (r.l.sm _ _ z.r),by simp[z.len,hi]⟩)) (λσ H2 Y=>(by obtain⟨_,r⟩:=Y;exact⟨_,SqT.of (r.l.sm _ _ z.r),by rw[j];exact aP _⟩)) (λi v σ H2 H' hi p y=>?_) (λσ H2 p=>?_)⟩
  ·obtain⟨⟨o3,o4,rfl⟩,r⟩:=p
   obtain⟨t,u,hT,rfl,rfl,hv⟩:=y
   have hu:=hv _ (SqT.of (r.l.sm _ _ z.r))
   rw[bG]at hu
   obtain⟨ra,ab,rfl⟩:=eE.mp hu
   have r1:=r.grow (zE hT (.tup [.int i,.ref ra]))
   obtain⟨h1,h2⟩:=aa i hi
   have J:as[(rows.getD i []).getD a 0]?=some (as[(rows.getD i []).getD a 0]'(by rw[l.len];unfold bk;simpa using h2)):=by
    rw[bH]
   generalize as[(rows.getD i []).getD a 0]'(by rw[l.len];unfold bk;simpa using h2)=ag at J
   obtain⟨k1,k2⟩:=r1.l.ls _ ag J
   refine⟨t,_,rfl,SqT.of zj,rfl,_,_,rfl,_,_,rfl,rfl,?_⟩
   refine⟨_,rfl,_,rfl,_,rfl,ra,_,_,.int ((rows.getD i []).getD a 0:Nat),rfl,rfl,SqT.of (r1.l.sm _ _ (z.ls i ra ab)),xA (by rw[bG,getD_some (d:=0) h1];rfl),b,_,_,.ref ag,rfl,rfl,SqL.of r1.bb,xA (by rw[bG,J];rfl),.inl ⟨rfl,_,SqL.of k1⟩,_,rfl,ag,_,_,rfl,rfl,k1,?_,?_⟩
   ·rw[aM,XB h2]
    have:=jq (λs=>decide ((rows.getD s []).getD a 0=(rows.getD i []).getD a 0)) (aG i)
    rw[cY]at this
    omega
   have r2:=r1.put J ((bk rows a i).getD ((rows.getD i []).getD a 0) []++[i])
   rw[show z0 ((bk rows a i).getD ((rows.getD i []).getD a 0) [])++[V.int (i:Int)]=z0 ((bk rows a i).getD ((rows.getD i []).getD a 0) []++[i])from by simp]
   refine⟨⟨_,_,rfl⟩,?_⟩
   rw[zeB h2]
   exact r2
  ·obtain⟨⟨o3,o4,rfl⟩,r⟩:=p
   exact⟨_,rfl,q b H2 as r⟩
abbrev Yx:aS:=top 7
abbrev zgo:List aC:=["letters","rows","good","backs","parting","goals","back","found","part","stands"]
theorem x4:FnScope zgo ["letters","rows","good"] (zr Yx):=⟨rfl,rfl,rfl,by decide+kernel,rfl,by decide+kernel,by decide+kernel⟩
def ze0:Sp:=λvs H Q _=>∃A rl gl rows rs good,vs=[.int (A:Nat),.ref rl,.ref gl]/\RwR H rl rows rs/\Rows rows A/\H gl=some (.lst ((good:List Bool).map V.bl))/\good.length=rows.length/\rows.length+3<aH/\A<aH/\
 ∀po H',zp H H'->H po=none->H' po=some (.lst (z0 (Hop.yt (bks rows A) good)))->Q (.ref po) H'
structure PM (K:aE) (mg:aC->Option aA) (C fi ft fo fw fl fr:aB) (di dt do_ dw dl dr:cB):Prop where
 pc:PC K C
 mgC:mg "Parting"=some (.ref C)
 mkc:Mk K C fi
 init:Fun K "__init__" "Parting.__init__" XY fi di
 mt:Meth K C "take_goals" ft
 take:Fun K "take_goals" "Parting.take_goals" XW ft dt
 mo:Meth K C "part_off" fo
 off:Fun K "part_off" "Parting.part_off" VJ fo do_
 mw:Meth K C "let_wait" fw
 wait:Fun K "let_wait" "Parting.let_wait" ZS fw dw
 ml:mg "leading_to"=some (.ref fl)
 lead:Fun K "leading_to" "leading_to" XZ fl dl
 mr:mg "arrows_back"=some (.ref fr)
 arr:Fun K "arrows_back" "arrows_back" VL fr dr
 len:mg "len"=none
 list:mg "list"=none
 range:mg "range"=none
 enum:mg "enumerate"=none
theorem zdb{H:Hp}{J:aB}{rows:List (List Nat)}{U:List aB}{A:Nat}(rr:RwR H J rows U)(Y:Rows rows A)(hz:rows.length<aH)(hA:A<=aH){E:XK}{Fin:List V->Hp->Prop} 
  (h:∀bs H',zp H H'->BsR H' rows bs->bs.length=A->Fin (bs.map V.ref) H'):Vw (Itr 0 A) (v5 0) Wa (zdB zdX [] E (Xf (uQ 1) (Xf (uQ 0) X6))) [none,some (.ref J)] H Fin:=by
 refine⟨λi m ys H1=>m=A-i/\i<=A/\∃bs,ys=bs.map V.ref/\bs.length=i/\zp H H1/\BsR H1 rows bs,⟨A,by simp,cR _,[],rfl,rfl,zp.refl _,⟨λi b h=>by simp at h⟩⟩,?_⟩
 rintro i m ys H1 ⟨rfl,hi,bs,rfl,O,R,b⟩
 refine⟨by rw[aM];omega,?_⟩
 by_cases q:i<A
 ·refine .inr ⟨q,λx H' y=>?_⟩
  obtain⟨rfl,rfl⟩:=y
  refine⟨⟨rfl,λj v z=>?_⟩,(show _ from ?_)⟩
  ·match j,z with
   | 0,z=>simp at z
   | 1,z=>exact z
   | j+2,z=>simp at z
  ·refine⟨_,rfl,_,rfl,J,i,rows,U,?_,rr.mono R,λs Z=>⟨cD q (Y.len s Z),Y.lt s i Z q⟩,hz,λc H' as o=>⟨by rw[aM];omega,A-(i+1),by omega,rfl,q,bs++[c],by simp,by simp[O],R.trans o.l.sm,(b.mono o.l.sm).snoc (as:=as) ?_⟩⟩
   ·show [V.ref J,V.int (0+(i:Int))]=_
    rw[Int.zero_add]
   ·rw[O];exact o.bk
 ·have e:i=A:=by omega
  subst e
  exact .inl ⟨aP _,h bs H1 R b O⟩
theorem zdc{P:aU}{w:aO}{K:aE}{mg:aC->Option aA}{base:aN}{fa C fi ft fo fw fl fr:aB}{fd di dt a9 dw dl dr:cB}(Fn:Fun K "parts_of_stands" "parts_of_stands" Yx fa fd)(M:PM K mg C fi ft fo fw fl fr di dt a9 dw dl dr):FnOk P w K mg base CX0 3 fa fd ["letters","rows","good"] ze0 :=
 Fn.ok (k:=2) x4 (λvs H Q E ⟨A,rl,gl,rows,rs,good,e,_⟩=>by rw[e];rfl) λcdv A0 outer s H vs Q E hr ao=>by
  obtain⟨A,rl,gl,rows,rs,good,e,rr,aa,ca,ba,hz,cw,q⟩:=ao
  subst e
  have ap:=hr.mono (show 1<=2 by decide)
  have bi:xo K di ["self","good"] []:=M.init.binds λ_ _ _ _ _ _ us O=>by rcases us with _|⟨_,_|⟨_,_|⟨_,_⟩⟩⟩ <;>first|rfl|cases O|(simp at O)
  have bt:xo K dt ["self"] []:=M.take.binds λ_ _ _ _ _ _ us O=>by rcases us with _|⟨_,_|⟨_,_⟩⟩ <;>first|rfl|cases O|(simp at O)
  have bo:xo K a9 ["self","part","stands"] []:=M.off.binds λ_ _ _ _ _ _ us O=>by rcases us with _|⟨_,_|⟨_,_|⟨_,_|⟨_,_⟩⟩⟩⟩ <;>first|rfl|cases O|(simp at O)
  have bl:xo K dl ["goals","back","part_of"] []:=M.lead.binds λ_ _ _ _ _ _ us O=>by rcases us with _|⟨_,_|⟨_,_|⟨_,_|⟨_,_⟩⟩⟩⟩ <;>first|rfl|cases O|(simp at O)
  have br:xo K dr ["rows","letter"] []:=M.arr.binds λ_ _ _ _ _ _ us O=>by rcases us with _|⟨_,_|⟨_,_|⟨_,_⟩⟩⟩ <;>first|rfl|cases O|(simp at O)
  refine⟨_,zL (ZY (N:=["letter","rows"]) (ms:=[none,some 1]) (i:=3) rfl (CompOk.of (by rfl)) (WU rfl M.range (zA (pv 0) zN)) (λcl C s H ex=>⟨xk (i:=0) (show(["letter","rows"]:List aC).Nodup by decide+kernel) rfl (Or.inl rfl),VW,X7 (zgn M.arr M.enum) ap rfl M.mr M.arr.kp br .nil v6 (zA (pv 1) (zA (pv 0) zN))⟩) x4.nd rfl (Or.inl rfl) rfl)
   (zL (xa (i:=4) x4.nd rfl (Or.inl rfl) (zed M.mkc (zeY M.init M.pc M.enum) hr rfl M.mgC bi .nil v6 (zA (pv 2) zN)))
   (zL (VQ bY (ZW Q8 (wq zF rfl M.len cE (zA (yV (pv 4) rfl) zN)) wE (yo _))
    (zL (xa (i:=5) x4.nd rfl (Or.inl rfl) (zbU (pv 4) M.pc.cl M.mt (zeX M.take M.pc M.list) ap bt .nil v6))
    (yk (vi bY rfl (ZV (pv 3)) (xk (i:=6) x4.nd rfl (Or.inl rfl))
     (zL (xa (i:=7) x4.nd rfl (Or.inl rfl) (X7 (zeZ M.lead) ap rfl M.ml M.lead.kp bl .nil v6 (zA (pv 5) (zA (pv 6) (zA (yV (pv 4) rfl) zN)))))
     (yk (vi bY rfl (zcf (pv 7)) (Y8 rfl (wp (xk (i:=8) x4.nd rfl (Or.inl rfl)) (wp (xk (i:=9) x4.nd rfl (Or.inl rfl)) ZU)))
      (yk (xj (X8 (pv 4) M.pc.cl M.mo (zgk M.off M.pc M.len M.wait M.mw) hr bo .nil v6 (zA (pv 8) (zA (pv 9) zN))))))))))))
   (yk (Zl (yV (pv 4) rfl))))),?_⟩
  refine⟨_,rfl,(A:Int),rfl,by omega,?_,?_⟩
  ·have:aH<2^62:=by decide
   omega
  rw[gL]
  refine zdb rr aa (by omega) (by omega) λbs H1 cb cc bb p hp=>?_
  have aq:zp H1 (upd H1 p (.lst (bs.map V.ref))):=zE hp _
  refine⟨_,rfl,λx dx hx bc cd=>?_⟩
  generalize ce:upd H1 p (.lst (bs.map V.ref))=H2 at aq hx bc
  have bd:H2 p=some (.lst (bs.map V.ref)):=by rw[<-ce];exact zj
  have be:zp H H2:=cb.trans aq
  have U:zp H2 (upd H2 dx (.own x)):=zE bc _
  generalize cf:upd H2 dx (.own x)=Hb at U
  have bf:Hb x=none:=by rw[<-cf,ze (aT cd)];exact hx
  refine⟨x,gl,dx,good,Hb,rfl,zj,zE bf _,bf,U _ _ (be _ _ ca),by omega,λH3 g r0=>⟨rfl,?_⟩⟩
  have bg:zp H Hb:=be.trans U
  have hδ:∀a s,a<A->s<rows.length->(λa s=>(rows.getD s []).getD a 0) a s<rows.length:=λa s ha hs=>aa.lt s a hs ha
  have ar:∀i,i<A->Hop.Back rows.length ((λa s=>(rows.getD s []).getD a 0) i) ((bks rows A).getD i []):=λi hi=>by
   rw[bI,Wn hi];exact aa.back hi
  have cg:Hop.Inv rows.length A (λa s=>(rows.getD s []).getD a 0) (λ_ _=>True) (Hop.start good):=by
   rw[<-ba]at hδ ⊢
   exact Hop.Vg hδ λ_ _ _ _ _=>trivial
  refine⟨λm σ H'=>(∃o5 o6 o7 o8 o9,σ=[some (.int (A:Int)),some (.ref rl),some (.ref gl),some (.ref p),some (.ref x),o5,o6,o7,o8,o9])/\∃st g H1,Rep C H1 H' x st g/\zp Hb H1/\Hop.Inv rows.length A (λa s=>(rows.getD s []).getD a 0) (λ_ _=>True) st/\rows.length+2+st.waiting.length<=m+st.parts.length/\(Hop.run (bks rows A) m st).partOf=Hop.yt (bks rows A) good,
   ⟨rows.length+2,⟨none,none,none,none,none,rfl⟩,Hop.start good,g,Hb,r0,zp.refl _,cg,by show _+2+2<=_+2+2;omega,by rw[<-ba];rfl⟩,?_⟩
  rintro m σ H4 ⟨⟨o5,o6,o7,o8,o9,rfl⟩,st,g,H5,r,Y,iv,hm,ab⟩
  have gd:Hop.Good rows.length st:=⟨iv.ok,iv.full⟩
  refine⟨_,rfl,x,C,g.dx,_,_,rfl,r.ins,M.pc.cl,M.pc.n3,rfl,g.wg,_,rfl,.inl (SqL.of r.wg),_,_,rfl,rfl,_,rfl,?_⟩
  refine VU (λhc=>?_) (λhc=>?_)
  ·have bh:0<st.waiting.length:=by
    have:=of_decide_eq_true hc
    rw[aM]at this
    omega
   have ac:st.waiting≠[]:=λz=>by rw[z]at bh;exact absurd bh (by simp)
   have cx:=gd.parts
   obtain⟨k,rfl⟩:∃k,m=k+1:=⟨m-1,by omega⟩
   have J:=kK ac
   generalize st.waiting.getLast ac=pt at J
   obtain⟨ci,cnt,_⟩:=Hop.Uj hδ (λ_ _ _ _ _ _ _=>trivial) (Wo rows A) ar iv J
   have ae:Hop.turn (bks rows A) st=(bks rows A).foldl (Hop.xg (st.parts.getD pt [])) (Hop.take st pt):=by unfold Hop.turn;rw[J]
   have au:(Hop.run (bks rows A) k (Hop.turn (bks rows A) st)).partOf=Hop.yt (bks rows A) good:=by
    rw[<-ab]
    conv=>rhs;unfold Hop.run
    rw[if_neg ac]
   have bj:pt∈st.waiting:=by
    rw[(Hop.Wl iv.ok J).2];simp
   have al:=iv.ok.wlt pt bj
   refine⟨_,λσ' H' w=>⟨k,gE k,w⟩,?_⟩
   refine⟨_,rfl,x,g.dx,_,rfl,r.ins,rfl,x,pt,H5,st,g,rfl,r,J,by rw[iv.ok.wl];exact al,al,λl H6 O r6=>?_⟩
   generalize R:st.parts.getD pt []=goals at r6 ae
   have av:goals.Nodup:=by rw[<-R];exact iv.ok.nd pt
   have bm:∀y∈goals,y<rows.length:=λy hy=>by rw[<-R]at hy;exact((iv.ok.mem pt y).mp hy).1
   have af:zp H5 (upd H5 l (.lst (z0 goals))):=zE O _
   have bn:upd H5 l (.lst (z0 goals)) l=some (.lst (z0 goals)):=zj
   generalize upd H5 l (.lst (z0 goals))=ah at r6 af bn
   have gt:=Hop.za4 gd J
   have aw:∀b∈bks rows A,∃d,Hop.Back rows.length d b:=λb hb=>by
    unfold bks at hb
    obtain⟨a,ha,rfl⟩:=bK.mp hb
    exact⟨_,aa.back (bZ.mp ha)⟩
   refine⟨_,rfl,p,rfl,⟨_,SqL.of (r6.sm _ _ (af _ _ (Y _ _ (U _ _ bd))))⟩,uS (xs:=bs.map V.ref) (λi σ H'=>(∃o6 o7 o8 o9,σ=[some (.int (A:Int)),some (.ref rl),some (.ref gl),some (.ref p),some (.ref x),some (.ref l),o6,o7,o8,o9])/\∃g H1,Rep C H1 H' x (((bks rows A).take i).foldl (Hop.xg goals) (Hop.take st pt)) g/\zp ah H1)
    ⟨⟨o6,o7,o8,o9,rfl⟩,g,ah,r6,zp.refl _⟩ (λi σ H' _ ax=>(by obtain⟨_,g,H1,r,s1⟩:=ax;exact SqL.of (r.sm _ _ (s1 _ _ (af _ _ (Y _ _ (U _ _ bd))))))) (λi v σ H' hv pv=>?_) (λσ H' pv=>?_)⟩
   ·obtain⟨⟨o6,o7,o8,o9,rfl⟩,g,H7,r,s7⟩:=pv
    rw[bG]at hv
    obtain⟨b,bp,rfl⟩:=eE.mp hv
    have bq:i<A:=by rw[<-bb];exact(aY.mp bp).1
    have ai:=Hop.Vf (δ:=λ_ s=>s) av (bks rows A) _ aw gt i
    generalize bu:((bks rows A).take i).foldl (Hop.xg goals) (Hop.take st pt)=Z at r ai
    obtain⟨as,ck⟩:=cc.ls i b bp
    have bv:BkR H' b (bk rows i rows.length) as:=((((ck.mono (aq.trans U)).mono Y).mono af).mono s7).mono r.sm
    have aj:=aa.back bq
    have bw:(bk rows i rows.length).length=rows.length:=by unfold bk;simp
    have cm:(goals.flatMap λg=>(bk rows i rows.length).getD g []).length<=rows.length:=by
     have:=Hop.yq (m:=aG rows.length) (Hop.u3 aj av) λy hy=>bZ.mpr ((Hop.vb aj y).mp hy).1
     rw[cY]at this
     exact this
    refine⟨_,rfl,_,rfl,_,rfl,x,C,g.dx,_,_,rfl,r.ins,M.pc.cl,M.pc.n1,rfl,l,b,g.po,goals,bk rows i rows.length,Z.partOf,as,rfl,r.sm _ _ (s7 _ _ bn),bv,r.po,λy hy=>by rw[bw];exact bm y hy,λy z cn=>by rw[ai.ok.len];exact((aj.mem y z).mp cn).1,by omega,λd H8 fl f bx=>?_⟩
    obtain⟨H9,s9,r9,am⟩:=r.grow f.sm
    have pr:=Hop.Ve aj av ai.ok
    rw[<-bx]at pr
    obtain⟨bz,cv⟩:=Hop.zcp _ Z ai pr
    refine⟨_,rfl,d,kvF fl,rfl,f.dd,λo=>?_⟩
    have co:=am d _ f.d0 f.dd
    have b0:=r9.over co (.frz o (.dK (kvF fl)))
    have cp:ah d=none:=by
     have:H7 d=none:=r.sm.free f.d0
     exact s7.free this
    have b1:zp ah (upd H9 d (.frz o (.dK (kvF fl)))):=xF (s7.trans s9) cp _
    have b2:∀e∈fl,upd H9 d (.frz o (.dK (kvF fl))) e.2=some (.lst (z0 e.1.2)):=λe he=>by
     rw[ze (v4 (f.ls e he).1 f.dd (λz=>nomatch z))]
     exact am _ _ (f.ls e he).2 (f.ls e he).1
    have ay:upd H9 d (.frz o (.dK (kvF fl))) d=some (.frz o (.dK (kvF fl))):=zj
    generalize upd H9 d (.frz o (.dK (kvF fl)))=b3 at b0 b1 b2 ay
    have b4:(kvF fl).length=fl.length:=aM _
    refine Um (n:=fl.length) (λj σ H'=>(∃o8 o9,σ=[some (.int (A:Int)),some (.ref rl),some (.ref gl),some (.ref p),some (.ref x),some (.ref l),some (.ref b),some (.ref d),o8,o9])/\∃g H1,Rep C H1 H' x (Hop.xP Z ((fl.map (·.1)).take j)) g/\zp b3 H1)
     ⟨⟨o8,o9,rfl⟩,g,b3,b0,zp.refl _⟩ (λj σ H' hj az=>(by obtain⟨_,g,H1,r,s1⟩:=az;exact⟨r.sm _ _ (s1 _ _ ay),by rw[b4];exact hj⟩)) (λσ H' a8=>(by obtain⟨_,g,H1,r,s1⟩:=a8;exact⟨r.sm _ _ (s1 _ _ ay),by rw[b4];exact aP _⟩)) (λj v σ H' cy hj pv y=>?_) (λσ H' pv=>?_)
    ·obtain⟨⟨o8,o9,rfl⟩,g,ag,r,ak⟩:=pv
     obtain⟨t,kk,vv,hT,rfl,b5,rfl⟩:=y
     rw[bG]at b5
     obtain⟨e,b6,ee⟩:=eE.mp b5
     cases ee
     have he:=bX b6
     have an:(fl.map (·.1))[j]?=some (e.1.1,e.1.2):=by rw[bG,b6];rfl
     obtain⟨gj,cj⟩:=bz j e.1.1 e.1.2 an
     have b7:=r.ext hT (.tup [kV (Sum.inl (e.1.1:Int)),V.ref e.2])
     have b8:upd ag t (.tup [kV (Sum.inl (e.1.1:Int)),V.ref e.2]) e.2=some (.lst (z0 e.1.2)):=by
      have b9:=ak _ _ (b2 e he)
      rw[ze (zq (r.sm _ _ b9) hT)];exact b9
     refine⟨t,_,rfl,SqT.of zj,rfl,_,_,rfl,_,_,rfl,rfl,?_⟩
     have cz:=gj.parts
     have c0:=gj.wait
     refine⟨_,rfl,x,g.dx,_,rfl,b7.ins,rfl,_,rfl,_,rfl,x,e.1.1,e.2,e.1.2,_,_,g,rows.length,rfl,b7,b8,gj.ok,cj,by omega,by omega,by omega,λc1 cq cr=>⟨⟨_,_,rfl⟩,cq,upd ag t (.tup [kV (Sum.inl (e.1.1:Int)),V.ref e.2]),?_,ak.trans (zE (r.sm.free hT) _)⟩⟩
     rw[Hop.Qh Z an]
     exact cr
    ·obtain⟨⟨o8,o9,rfl⟩,g,ag,r,ak⟩:=pv
     refine⟨⟨_,_,_,_,rfl⟩,g,ag,?_,b1.trans ak⟩
     rw[Hop.za3 goals (Hop.take st pt) (Wn bq),bu]
     show Rep C ag H' x (Hop.xP Z (Hop.wQ goals (bk rows i rows.length) Z.partOf)) g
     rw[<-bx]
     have:(fl.map (·.1)).take fl.length=fl.map (·.1):=nt (by rw[aM];exact aP _)
     rw[this]at r
     exact r
   ·obtain⟨⟨o6,o7,o8,o9,rfl⟩,g,H7,r,s7⟩:=pv
    refine⟨⟨_,_,_,_,_,rfl⟩,Hop.turn (bks rows A) st,g,H7,?_,(Y.trans af).trans s7,ci,by omega,au⟩
    rw[ae]
    have:(bks rows A).take (bs.map V.ref).length=bks rows A:=nt (by rw[aM,bb,Wo];exact aP _)
    rw[this]at r
    exact r
  ·have cu:st.waiting=[]:=by
    have h0:¬(0<st.waiting.length):=λz=>hc (decide_eq_true (by rw[aM];omega))
    exact gN.mp (by omega)
   have er:(Hop.run (bks rows A) m st)=st:=by
    cases m with
    | zero=>rfl
    | succ k=>unfold Hop.run;rw[if_pos cu]
   rw[er]at ab
   refine⟨_,rfl,x,C,g.dx,_,_,rfl,r.ins,M.pc.cl,M.pc.n1,rfl,q g.po H4 ((bg.trans Y).trans r.sm) ((bg.trans Y).free r.f1) ?_⟩
   rw[<-ab]
   exact r.po
theorem Qb{P:aU}{w:aO}{K:aE}{mg:aC->Option aA}{base:aN}{fa C fi ft fo fw fl fr:aB}{fd di dt R dw dl dr:cB}(U:Fun K "parts_of_stands" "parts_of_stands" Yx fa fd)(hm:mg "parts_of_stands"=some (.ref fa))(M:PM K mg C fi ft fo fw fl fr di dt R dw dl dr):Callee P w K mg base 3 "parts_of_stands" uA:=by
 refine⟨fa,fd,["letters","rows","good"],FnOk.imp (zdc U M) λvs H Q E h=>?_,hm,U.kp,U.binds λ_ _ _ _ _ _ us hl=>by rcases us with _|⟨_,_|⟨_,_|⟨_,_|⟨_,_⟩⟩⟩⟩ <;>first|rfl|cases hl|(simp at hl)⟩
 obtain⟨F,ds,d,O,r,e,q⟩:=h
 unfold uA at e
 split at e
 ·rename_i a rd g
  obtain⟨rows,j,e⟩:=kR.mp e
  obtain⟨good,z,e⟩:=kR.mp e
  by_cases Y:0<=a/\vJ rows a.toNat=true/\good.length=rows.length/\rows.length+3<aH/\a.toNat<aH
  ·rw[if_pos Y]at e
   cases e
   obtain⟨c1,c2,c3,c4,c5⟩:=Y
   obtain⟨v1,r1,rfl,i1,r⟩:=r.inv
   obtain⟨v2,r2,rfl,i2,r⟩:=r.inv
   obtain⟨v3,r3,rfl,i3,r⟩:=r.inv
   cases r.inv0
   simp only[Is]at i1 i2 i3
   obtain⟨rl,ws,rfl,Z,ar⟩:=i2
   obtain⟨gl,ab,rfl,J,ag⟩:=i3
   obtain⟨rs,rfl,e2,e3⟩:=QP j ar
   rw[Us z ag]at J
   refine⟨a.toNat,rl,gl,rows,rs,good,by rw[i1,mR c1],⟨O _ _ Z,e2,λi b h=>O _ _ (e3 i b h)⟩,JF c2,O _ _ J,c3,c4,c5,λpo H' s hp aa=>?_⟩
   refine q _ _ H' (zeD O s hp aa) ?_
   simp only[Is]
   exact⟨po,_,rfl,zj,Ut _⟩
  ·rw[if_neg Y]at e;cases e
 ·cases e
end Pt
namespace Py
open PySem L2 DD Pu
open Hop (walk yd Canon dl OkR Lst First Ws cnt lay wal)
section
variable {A:Nat} {rows:List (List Nat)} {g:Nat->Bool}
theorem Vt(us:List (List Nat)):(((aG us.length).filter λk=>P (us.getD k [])).map λk=>us.getD k [])=us.filter P:=by
 have e:us=(aG us.length).map λk=>us.getD k []:=ia (by simp) λi a b=>by
  simp[bI,bH a]
 have:=List.filter_map (f:=λk=>us.getD k []) (p:=P) (l:=aG us.length)
 rw[<-e]at this
 exact this.symm
theorem X1{us:List (List Nat)}{P:List Nat->Bool}{ms:List (Option Nat)}{q:G->Option Bool}{Γ:G}{x:S}(z:us.length<=16777216)(J:∀w,zk 0 (eW w) (yp ms Γ)=some [.v (eW w),x])(O:∀w∈us,q [.v (eW w),x]=some (P w)):
  yx (some (us.map eW)) ms (zk 0) q wy Γ=some ((us.filter P).map eW):=by
 rw[<-Vt,cN]
 rw[uh (λk=>eW (us.getD k [])) (λk=>P (us.getD k [])) (by rw[aM];exact z) λk R=>?_,aM]
 ·rfl
 ·have j:k<us.length:=by simpa using R
  have e:us.getD k []=us[k]:=by rw[bI,bH j];rfl
  rw[e,dQ]
  exact⟨[.v (eW us[k]),x],J _,O _ (cS j),λ_=>rfl⟩
theorem zah(B:Bfs (yP (dlt rows) (dlt rows) 0 0) A ws ws.length 0)(J:∀u v,(∀x∈u,x<A)->(∀x∈v,x<A)->yP (dlt rows) (dlt rows) 0 0 u=yP (dlt rows) (dlt rows) 0 0 v->P u=P v):
  Zh A P (ws.filter P).head?:=by
 have lo:=U3 (P:=P) B (λu v a _ _ _ e=>zbq u v a e) J
 rw[List.head?_filter]
 cases h:ws.find? P with
 | none=>exact lo.2 λw q=>by simpa using iP.mp h w q
 | some w=>
  obtain⟨O,i,hi,q,R⟩:=List.find?_eq_some_iff_getElem.mp h
  exact lo.1 i w (by rw[bH hi,q]) O λj u U Y=>by
   have z:=(aY.mp Y)
   obtain⟨hl,Z⟩:=z
   have:=R j U
   rw[Z]at this
   simpa using this
end
theorem good(ns:List Int)(hn:ns.length<=63):Yr [.scr ns]=some (.bl true):=by
 obtain⟨A,hA1,hA3,hl⟩:=zbo (ns:=ns) (k:=0)
 obtain⟨rows,g,hr,ok,hz⟩:=zc2 (ns:=ns) (k:=1) (A:=A) (most:=5) hA3 (by omega) (by omega)
 obtain⟨n,hn6,hmx⟩:=vN (ns:=ns) (k:=22) (many:=6) (by decide)
 obtain⟨T,hT,hmt⟩:=vN (ns:=ns) (k:=23) (many:=41) (by decide)
 have hU:=zda (L:=A) (n:=n) hA3 (by omega)
 have hw1:=XV (g:=g) ok hA1 hA3 (by omega) (T:=n) (by omega)
 have hw2:=XV (g:=g) ok hA1 hA3 (by omega) (T:=T) (by omega)
 have hct:=zbJ (g:=g) ok hA3 (by omega) (T:=T) (by omega)
 obtain⟨o,ho,Lo⟩:=zgi (g:=g) ok hA1 hA3 (by omega)
 obtain⟨ws,hp,B⟩:=zeP (g1:=g) (g2:=g) ok ok hA3 (by omega) (by omega)
 have hl':WB [.scr ns,.int 0]=some (.int (A:Int)):=hl
 have hr':WE [.scr ns,.int 1,.int (A:Int),.int 5]=some (zn A rows g):=hr
 have hmx':wf [.scr ns,.int 22,.int 6]=some (.int (n:Int)):=hmx
 have hmt':wf [.scr ns,.int 23,.int 41]=some (.int (T:Int)):=hmt
 have hwl:(wal A n).length<=16777216:=by
  have:=ZR hA3 n (by omega)
  omega
 have c4:yx (some ((wal A n).map eW)) [none,some 3] (zk 0) vZ wy [.v (.scr ns),.v (.int (A:Int)),.v (zn A rows g),.v (.int (n:Int)),.un,.un,.un,.un,.un]=some ((lay A n).map eW):=by
  rw[X1 (P:=λw=>decide (w.length=n)) (x:=.v (.int (n:Int))) hwl (λw=>rfl) λw _=>?_,Hop.zeR]
  by_cases e:w.length=n
  ·simp[vZ,e]
  ·have:¬((w.length:Int)=(n:Int)):=by omega
   simp[vZ,e,this]
 have hll:(lay A n).length<=16777216:=by
  have h1:=vo hA3 n
  have h2:3^n<=3^5:=jE (by decide) (by omega)
  omega
 have c5:yx (some ((lay A n).map eW)) [none,some 2] (zk 0) Zc wy [.v (.scr ns),.v (.int (A:Int)),.v (zn A rows g),.v (.int (n:Int)),.v (.lst ((lay A n).map eW)),.un,.un,.un,.un]=some (((lay A n).filter λw=>g (walk (dl rows) 0 w)).map eW) :=
  X1 (P:=λw=>g (walk (dl rows) 0 w)) (x:=.v (zn A rows g)) hll (λw=>rfl) λw hw=>by
   have ht:=Qn (g:=g) ok (Hop.uM hw).2
   generalize eW w=ew at ht ⊢
   simp[Zc,ht]
 have hdue:((lay A n).filter λw=>g (walk (dl rows) 0 w)).length=cnt A (dl rows) g n 0:=Hop.zbw
 have hP:∀u v,(∀x∈u,x<A)->(∀x∈v,x<A)->yP (dlt rows) (dlt rows) 0 0 u=yP (dlt rows) (dlt rows) 0 0 v->(λw=>g (walk (dlt rows) 0 w)) u=(λw=>g (walk (dlt rows) 0 w)) v:=λu v _ _ e=>by
  rw[Q1]at e
  show g _=g _
  rw[e.1]
 have eo:=Lo.one (zah (P:=λw=>g (walk (dlt rows) 0 w)) B hP)
 have c8:∀Γ:G,Γ[2]?=some (.v (zn A rows g))->yx (some (ws.map (Y5 (dlt rows) (dlt rows)))) [none,some 2] (zk 0) Zd YZ Γ=some ((ws.filter λw=>g (walk (dlt rows) 0 w)).map eW):=λΓ h2=>by
  rw[<-Vt,cN]
  have hwz:ws.length<=16777216:=by
   have:=zc3 (x0 ok) (x0 ok) ok.pos ok.pos B
   have:rows.length*rows.length<=5*5:=jD hz hz
   omega
  rw[uh (λk=>eW (ws.getD k [])) (λk=>g (walk (dlt rows) 0 (ws.getD k []))) (by rw[aM];exact hwz) λk hk=>?_,aM]
  ·rfl
  ·have hk':k<ws.length:=by simpa using hk
   have e:ws.getD k []=ws[k]:=by rw[bI,bH hk'];rfl
   have hg:=B.good _ (cS hk')
   rw[e,dQ]
   generalize ws[k]=u at hg ⊢
   have l1:=Hop.xm (x0 ok) u 0 hg ok.pos
   refine⟨[.v (Y5 (dlt rows) (dlt rows) u),.v (zn A rows g)],by simp[yp,h2],?_,λ_=>rfl⟩
   unfold Zd
   rw[zcr,U1 (s:=walk (dlt rows) 0 u) rfl rfl l1]
   rfl
 have q8:=c8 [.v (.scr ns),.v (.int (A:Int)),.v (zn A rows g),.v (.int (n:Int)),.v (.lst ((lay A n).map eW)),.v (.int ((cnt A (dl rows) g n 0:Nat):Int)),.v (.int ((cnt A (dl rows) g n 0:Nat):Int)),.v (.int (T:Int)),.un] rfl
 generalize ws.filter (λw=>g (walk (dlt rows) 0 w))=gd at q8 eo
 subst eo
 have hlen5:((((lay A n).filter λw=>g (walk (dl rows) 0 w)).map eW).length:Int)=((cnt A (dl rows) g n 0:Nat):Int):=by rw[aM,hdue]
 generalize ((lay A n).filter λw=>g (walk (dl rows) 0 w)).map eW=l5 at c5 hlen5
 generalize cnt A (dl rows) g n 0=N at*
 generalize cnt A (dl rows) g T 0=NT at*
 generalize ws.map (Y5 (dlt rows) (dlt rows))=pr at hp q8
 generalize zn A rows g=Q at*
 generalize (wal A n).map eW=l3 at hU c4
 generalize (lay A n).map eW=l4 at*
 have hwh:UN [.int (N:Int)]=some (.bl true):=rfl
 refine z7 rfl ?_
 unfold J1
 show zt _ _ [.v (.scr ns),.un,.un,.un,.un,.un,.un,.un,.un]=_
 rw[zx,show(zI 1 (xFn WB (zc (za 0) (zc (xC (.int 0)) zf)))) [.v (.scr ns),.un,.un,.un,.un,.un,.un,.un,.un]=some (.nx [.v (.scr ns),.v (.int (A:Int)),.un,.un,.un,.un,.un,.un,.un])from by simp[hl'],zu,zx]
 rw[show(zI 2 (xFn WE (zc (za 0) (zc (xC (.int 1)) (zc (za 1) (zc (xC (.int 5)) zf)))))) [.v (.scr ns),.v (.int (A:Int)),.un,.un,.un,.un,.un,.un,.un]=some (.nx [.v (.scr ns),.v (.int (A:Int)),.v Q,.un,.un,.un,.un,.un,.un])from by simp[hr'],zu,zx]
 rw[show(zI 3 (xFn wf (zc (za 0) (zc (xC (.int 22)) (zc (xC (.int 6)) zf))))) [.v (.scr ns),.v (.int (A:Int)),.v Q,.un,.un,.un,.un,.un,.un]=some (.nx [.v (.scr ns),.v (.int (A:Int)),.v Q,.v (.int (n:Int)),.un,.un,.un,.un,.un])from by simp[hmx'],zu,zx]
 rw[show(zI 4 (xL (zO (zY (xFn UL (zc (za 1) (zc (za 3) zf)))) [none,some 3] (zk 0) vZ wy))) [.v (.scr ns),.v (.int (A:Int)),.v Q,.v (.int (n:Int)),.un,.un,.un,.un,.un]=some (.nx [.v (.scr ns),.v (.int (A:Int)),.v Q,.v (.int (n:Int)),.v (.lst l4),.un,.un,.un,.un])from by simp[hU,c4],zu,zx]
 rw[show(zI 5 (zH yM (zc (xL (zO (zY (za 4)) [none,some 2] (zk 0) Zc wy)) zf))) [.v (.scr ns),.v (.int (A:Int)),.v Q,.v (.int (n:Int)),.v (.lst l4),.un,.un,.un,.un]=some (.nx [.v (.scr ns),.v (.int (A:Int)),.v Q,.v (.int (n:Int)),.v (.lst l4),.v (.int (N:Int)),.un,.un,.un])from by simp[c5,hlen5],zu,zx]
 rw[show(zI 6 (xFn YY (zc (za 2) (zc (za 3) zf)))) [.v (.scr ns),.v (.int (A:Int)),.v Q,.v (.int (n:Int)),.v (.lst l4),.v (.int (N:Int)),.un,.un,.un]=some (.nx [.v (.scr ns),.v (.int (A:Int)),.v Q,.v (.int (n:Int)),.v (.lst l4),.v (.int (N:Int)),.v (.int (N:Int)),.un,.un])from by simp[hw1],zu,zx]
 rw[show ∀X,xp ((sIf (xOr (vR (xT (xFn UN (zc (za 6) zf)))) (xT (x2 (mEq true) (za 6) (za 5)))) (zZ (xC (.bl false))) yv) [.v (.scr ns),.v (.int (A:Int)),.v Q,.v (.int (n:Int)),.v (.lst l4),.v (.int (N:Int)),.v (.int (N:Int)),.un,.un]) X=X [.v (.scr ns),.v (.int (A:Int)),.v Q,.v (.int (n:Int)),.v (.lst l4),.v (.int (N:Int)),.v (.int (N:Int)),.un,.un]from λX=>by simp[hwh],zx]
 rw[show(zI 7 (xFn wf (zc (za 0) (zc (xC (.int 23)) (zc (xC (.int 41)) zf))))) [.v (.scr ns),.v (.int (A:Int)),.v Q,.v (.int (n:Int)),.v (.lst l4),.v (.int (N:Int)),.v (.int (N:Int)),.un,.un]=some (.nx [.v (.scr ns),.v (.int (A:Int)),.v Q,.v (.int (n:Int)),.v (.lst l4),.v (.int (N:Int)),.v (.int (N:Int)),.v (.int (T:Int)),.un])from by simp[hmt'],zu,zx]
 rw[show ∀X,xp ((sIf (xT (x2 (mEq true) (xFn YY (zc (za 2) (zc (za 7) zf))) (xFn UO (zc (za 2) (zc (za 7) zf))))) (zZ (xC (.bl false))) yv) [.v (.scr ns),.v (.int (A:Int)),.v Q,.v (.int (n:Int)),.v (.lst l4),.v (.int (N:Int)),.v (.int (N:Int)),.v (.int (T:Int)),.un]) X=X [.v (.scr ns),.v (.int (A:Int)),.v Q,.v (.int (n:Int)),.v (.lst l4),.v (.int (N:Int)),.v (.int (N:Int)),.v (.int (T:Int)),.un]from λX=>by simp[hw2,hct],zx]
 rw[show(zI 8 (xL (zO (zY (xFn UM (zc (za 2) (zc (za 2) zf)))) [none,some 2] (zk 0) Zd YZ))) [.v (.scr ns),.v (.int (A:Int)),.v Q,.v (.int (n:Int)),.v (.lst l4),.v (.int (N:Int)),.v (.int (N:Int)),.v (.int (T:Int)),.un]=some (.nx [.v (.scr ns),.v (.int (A:Int)),.v Q,.v (.int (n:Int)),.v (.lst l4),.v (.int (N:Int)),.v (.int (N:Int)),.v (.int (T:Int)),.v (.lst (gd.map eW))])from by
  rw[xX,wS,y0,za8,zdM]
  simp[hp,q8],zu]
 cases gd with
 | nil=>
  have h0:mEq false (.d (.lst [])) (.d (.lst []))=some (.bl true):=UB (OkD.lst (n:=1) (by simp))
  have n0:WP ([]:List (List Nat)).head?=.non:=rfl
  rw[n0]at ho
  have isn:Ju (.d .non) (.d .non)=some (.bl true):=rfl
  simp[h0,ho,isn]
 | cons w r=>
  have ok1:∀x∈(w::r).map eW,OkD 1 x:=λx hx=>by obtain⟨u,_,rfl⟩:=bK.mp hx;exact zbr
  have h0:mEq false (.d (.lst ((w::r).map eW))) (.d (.lst []))=some (.bl false):=by
   rw[JK (n:=2) (OkD.lst ok1) (OkD.lst (n:=1) (by simp))]
   simp[toP,toPs,bR,iL]
  have hs:mEq false (.d (eW w)) (.d (eW w))=some (.bl true):=UB (n:=1) (zbr (l:=w))
  have n0:WP (w::r).head?=eW w:=rfl
  rw[n0]at ho
  rw[aR]at h0 ⊢
  generalize eW w=ew at h0 ho hs ⊢
  simp[h0,ho,hs]
end Py
namespace Py
open PySem PySem.Spec L2 DD
open PyProof.Rows hiding St
theorem yQ(a:j.kind=.function:=by rfl)(b:j.isCoroutine=false:=by rfl)(c:j.isGenerator=false:=by rfl)(d:N.Nodup:=by decide+kernel)(e:N.take P.length=P:=by rfl)(f:∀x∈P,j.names.lookup x=some .local\/j.names.lookup x=some .cell:=by decide+kernel)(g:∀y∈j.names,y.2≠.free:=by decide+kernel):FnScope N P j:=⟨a,b,c,d,e,f,g⟩
def top(i:Nat):aS:=PySem.Challenge.pw_backhead_k09_counts.main.body.getD i (.Pass ⟨0,0,0,0⟩)
structure Bi (mg:aC->Option aA):Prop where
 all:mg "all"=none
 bool:mg "bool"=none
 dict:mg "dict"=none
 enumerate:mg "enumerate"=none
 int:mg "int"=none
 isinstance:mg "isinstance"=none
 len:mg "len"=none
 list:mg "list"=none
 range:mg "range"=none
 reversed:mg "reversed"=none
 sum:mg "sum"=none
 tuple:mg "tuple"=none
section
variable {P:aU} {w:aO} {K:aE} {mg:aC->Option aA} {base:aN} {fa:aB} {fd:cB}
abbrev zdd:aS:=top 8
theorem Zi:FnScope ["rows","order","known","at","row","goal"] ["rows"] (zr zdd):=yQ
theorem zhj(j:Fun K "reached_in_order" "reached_in_order" zdd fa fd)(z:mg "reached_in_order"=some (.ref fa))(J:Bi mg):Callee P w K mg base 1 "reached_in_order" YX :=
 zJ (k:=0) (f:=JO) j z Zi (j.binds λ_ _ _ _ _ _ us O=>match us,O with|[_],_=>rfl) λcdv A outer s H E q=>
  (zh (ua (i:=1) Zi.nd rfl (Or.inl rfl) (x6 (zd zl zg))) (zh (zet (i:=2) Zi.nd rfl (Or.inl rfl)) (zh (zV (i:=3) Zi.nd rfl (Or.inl rfl) zl) (zh (Z6 (n:=WF) bY (yY Vv VA (zb (pv 3)) (zR zF yW rfl J.len cE (zd (zb (pv 1)) zg)) (yo _)) (zh (zV (i:=4) Zi.nd rfl (Or.inl rfl) (zQ (zb (pv 0)) (zQ (zb (pv 1)) (zb (pv 3)) (λ_ _=>rfl)) (λ_ _=>rfl))) (zh (xy bY rfl (yU (zb (pv 4))) (zB (i:=5) Zi.nd rfl (Or.inl rfl)) (zo (xI (yY (vX (yE q)) Zz (zb (pv 5)) (zb (pv 2)) (by with_unfolding_all rfl)) (zh (ux (i:=2) (yE q) (pv 2) (zb (pv 5)) vq) (zo (uX (i:=1) (h1:=xS dB dF dR yz (pv 1) (zA (zb (pv 5)) zN))))) yI))) (zo (zgZ (i:=3) Zi.nd rfl (Or.inl rfl) zl))))) (xO (i:=1) (zo (zU (zb (pv 1)))))))))
abbrev zde:aS:=top 9
theorem zhk:FnScope ["rows","kept","numbers"] ["rows","kept","numbers"] (zr zde):=yQ
theorem zhl(j:Fun K "renumbered" "renumbered" zde fa fd)(z:mg "renumbered"=some (.ref fa))(q:Bi mg):Callee P w K mg base 1 "renumbered" vy :=
 zJ (k:=0) (f:=JP) j z zhk (j.binds λ_ _ _ _ _ _ us J=>match us,J with|[_,_,_],_=>rfl) λcdv A outer s H E O=>
  (zo (zU (wu xt wY rfl q.tuple fK (zd (yF (yK (N:=["stand","rows","numbers"]) (ms:=[none,some 0,some 2]) rfl (CompOk.of (by rfl)) (xq (yU (zb (pv 1)))) ⟨λ_ _ _ _ _=>⟨(zB (i:=0) (show(["stand","rows","numbers"]:List aC).Nodup by decide+kernel) rfl (Or.inl rfl)),xu,(wu xt wY rfl q.tuple fK (zd (yF (yK (N:=["goal","numbers"]) (ms:=[none,some 2]) rfl (CompOk.of (by rfl)) (xq (yU (zQ (zb (pv 1)) (zb (pv 0)) (λ_ _=>rfl)))) ⟨λ_ _ _ _ _=>⟨(zB (i:=0) (show(["goal","numbers"]:List aC).Nodup by decide+kernel) rfl (Or.inl rfl)),xu,(zg0 (yE O) (zb (pv 1)) (zb (pv 0)) (λ_ _=>rfl))⟩⟩ (yR (by decide)) (yS (by decide)))) zg))⟩⟩ (yR (by decide)) (yS (by decide)))) zg))))
abbrev zdf:aS:=top 10
theorem wU:FnScope ["letters","rows","good","order","places","near","marks","part_of","numbers","kept","stand","part","rows_kept"] ["letters","rows","good"] (zr zdf):=yQ
theorem zhm(R:Fun K "least_reader" "least_reader" zdf fa fd)(U:mg "least_reader"=some (.ref fa))(z:Bi mg)(J:Callee P w K mg base 1 "reached_in_order" YX)(j:Callee P w K mg base 1 "renumbered" vy)(O:Callee P w K mg base 3 "parts_of_stands" zcB):Callee P w K mg base 4 "least_reader" UE :=
 zJ (k:=3) (f:=zcC) R U wU (R.binds λ_ _ _ _ _ _ us Y=>match us,Y with|[_,_,_],_=>rfl) λcdv A outer s H E q=>
  (zh (zV (i:=3) wU.nd rfl (Or.inl rfl) (zy J q (by decide) rfl (zd (zb (pv 1)) zg))) (zh (QI (i:=4) rfl wU.nd rfl (Or.inl rfl) rfl z.dict (zd (yF (yK (N:=["place","stand"]) (ms:=[none,none]) rfl (CompOk.of (by rfl)) (xq (Yc rfl z.enumerate (zd (zb (pv 3)) zg))) ⟨λ_ _ _ _ _=>⟨(ub rfl (yA (zB (i:=0) (show(["place","stand"]:List aC).Nodup by decide+kernel) rfl (Or.inl rfl)) (yA (zB (i:=1) (show(["place","stand"]:List aC).Nodup by decide+kernel) rfl (Or.inl rfl)) vk))),xu,(xU (zd (zb (pv 1)) (zd (zb (pv 0)) zg)))⟩⟩ (yR (by decide)) (yS (by decide)))) zg)) (xO (i:=4) (zh (zV (i:=5) wU.nd rfl (Or.inl rfl) (zy j q (by decide) rfl (zd (zb (pv 1)) (zd (zb (pv 3)) (zd (zb (pv 4)) zg))))) (zh (zV (i:=6) wU.nd rfl (Or.inr rfl) (yF (yK (N:=["stand","good"]) (ms:=[none,some 2]) rfl (CompOk.of (by rfl)) (xq (yU (zb (pv 3)))) ⟨λ_ _ _ _ _=>⟨(zB (i:=0) (show(["stand","good"]:List aC).Nodup by decide+kernel) rfl (Or.inl rfl)),xu,(zQ (zb (pv 1)) (zb (pv 0)) (λ_ _=>rfl))⟩⟩ (yR (by decide)) (yS (by decide))))) (zh (zV (i:=7) wU.nd rfl (Or.inl rfl) (zy O q (by decide) rfl (zd (zb (pv 0)) (zd (zb (pv 5)) (zd (zb (pv 6)) zg))))) (zh (Xs (i:=8) wU.nd rfl (Or.inr rfl)) (zh (ua (i:=9) wU.nd rfl (Or.inl rfl) (x6 zg)) (zh (xy bY rfl (Yc rfl z.enumerate (zd (zb (pv 7)) zg)) (ub rfl (yA (zB (i:=10) wU.nd rfl (Or.inl rfl)) (yA (zB (i:=11) wU.nd rfl (Or.inl rfl)) vk))) (zo (xI (yY (vX (yE q)) Zz (zb (pv 11)) (zb (pv 8)) (by with_unfolding_all rfl)) (zh (ux (i:=8) (yE q) (pv 8) (zb (pv 11)) (zR zF yW rfl z.len cE (zd (zb (pv 9)) zg))) (zo (uX (i:=9) (h1:=xS dB dF dR yz (pv 9) (zA (zb (pv 10)) zN))))) yI))) (xO (i:=8) (xO (i:=9) (zh (zV (i:=12) wU.nd rfl (Or.inl rfl) (zy j q (by decide) rfl (by refine zd ?_ ?_;(· exact(zb (pv 5)));refine zd ?_ ?_;(· exact(zb (pv 9)));refine zd ?_ ?_;(· exact(yF (yK (N:=["part","numbers"]) (ms:=[none,some 8]) rfl (CompOk.of (by rfl)) (xq (yU (zb (pv 7)))) ⟨λ_ _ _ _ _=>⟨(zB (i:=0) (show(["part","numbers"]:List aC).Nodup by decide+kernel) rfl (Or.inl rfl)),xu,(Ub (yE q) (zb (pv 1)) (zb (pv 0)) (λ_ _=>rfl))⟩⟩ (yR (by decide)) (yS (by decide)))));exact zg))) (zo (zU (xU (by refine zd ?_ ?_;(· exact(zb (pv 0)));refine zd ?_ ?_;(· exact(zb (pv 12)));refine zd ?_ ?_;(· exact(wu xt wY rfl z.tuple fK (zd (yF (yK (N:=["place","stand","marks"]) (ms:=[none,none,some 6]) rfl (CompOk.of (by rfl)) (xq (Yc rfl z.enumerate (zd (zb (pv 9)) zg))) ⟨λ_ _ _ _ _=>⟨(ub rfl (yA (zB (i:=0) (show(["place","stand","marks"]:List aC).Nodup by decide+kernel) rfl (Or.inl rfl)) (yA (zB (i:=1) (show(["place","stand","marks"]:List aC).Nodup by decide+kernel) rfl (Or.inl rfl)) vk))),(Xn (wH (zQ (zb (pv 2)) (zb (pv 1)) (λ_ _=>rfl)))),(zb (pv 0))⟩⟩ (yR (by decide)) (yS (by decide)))) zg)));exact zg))))))))))))))))
abbrev zdg:aS:=top 13
theorem zhn:FnScope ["thing","low","high"] ["thing","low","high"] (zr zdg):=yQ
theorem zho(q:Fun K "is_number" "is_number" zdg fa fd)(z:mg "is_number"=some (.ref fa))(j:Bi mg):Callee P w K mg base 1 "is_number" Wv :=
 zJ (k:=0) (f:=zcD) q z zhn (q.binds λ_ _ _ _ _ _ us J=>match us,J with|[_,_,_],_=>rfl) λcdv A outer s H E O=>
  (zh (xI (t_w (zb0 (wH (zR va uu rfl j.isinstance ie (zd (zb (pv 0)) (zd (Wf .bl rfl j.bool boot_bool) zg)))) (Jm (uU (wH (zR va uu rfl j.isinstance ie (zd (zb (pv 0)) (zd (Wf .int rfl j.int k6) zg)))))))) (zo (zU vq)) yI) (zo (zU (Qy Xb VB Xb VB (zb (pv 1)) (zb (pv 0)) (zb (pv 2))))))
abbrev zai:aS:=top 14
theorem zgp:FnScope ["thing","low","high"] ["thing","low","high"] (zr zai):=yQ
theorem zgq(q:Fun K "is_row" "is_row" zai fa fd)(z:mg "is_row"=some (.ref fa))(j:Bi mg):Callee P w K mg base 1 "is_row" XE :=
 zJ (k:=0) (f:=JQ) q z zgp (q.binds λ_ _ _ _ _ _ us J=>match us,J with|[_,_,_],_=>rfl) λcdv A outer s H E O=>
  (zo (zU (Z2 (zR va uu rfl j.isinstance ie (zd (zb (pv 0)) (zd (Wf .tup rfl j.tuple fK) zg))) (Z1 (Qy Xb VB Xb VB (zb (pv 1)) (zR zF yW rfl j.len cE (zd (zb (pv 0)) zg)) (zb (pv 2)))))))
abbrev zdh:aS:=top 17
theorem zhp:FnScope ["thing","count"] ["thing","count"] (zr zdh):=yQ
theorem zhq(z:Fun K "are_stands" "are_stands" zdh fa fd)(J:mg "are_stands"=some (.ref fa))(q:Bi mg)(j:Callee P w K mg base 1 "is_number" Wv):Callee P w K mg base 2 "are_stands" UF :=
 zJ (k:=1) (f:=zcE) z J zhp (z.binds λ_ _ _ _ _ _ us O=>match us,O with|[_,_],_=>rfl) λcdv A outer s H E R=>
  (zo (zU (Z2 (zR va uu rfl q.isinstance ie (zd (zb (pv 0)) (zd (Wf .tup rfl q.tuple fK) zg))) (Z1 (zR (vf rfl) Xq rfl q.all jF (zd (yF (yK (N:=["stand","count"]) (ms:=[none,some 1]) rfl (CompOk.of (by rfl)) (xq (yU (zb (pv 0)))) ⟨λ_ _ _ _ _=>⟨(zB (i:=0) (show(["stand","count"]:List aC).Nodup by decide+kernel) rfl (Or.inl rfl)),xu,(zy j R (by decide) rfl (by refine zd ?_ ?_;(· exact(zb (pv 0)));refine zd ?_ ?_;(· exact zl);refine zd ?_ ?_;(· exact(yj zat zaG (zb (pv 1)) zl));exact zg))⟩⟩ (yR (by decide)) (yS (by decide)))) zg))))))
abbrev zdi:aS:=top 18
theorem zhr:FnScope ["numbers"] ["numbers"] (zr zdi):=yQ
theorem zhs(q:Fun K "is_rising" "is_rising" zdi fa fd)(z:mg "is_rising"=some (.ref fa))(j:Bi mg):Callee P w K mg base 1 "is_rising" JR :=
 zJ (k:=0) (f:=zcF) q z zhr (q.binds λ_ _ _ _ _ _ us J=>match us,J with|[_],_=>rfl) λcdv A outer s H E O=>
  (zo (zU (zR (vf rfl) Xq rfl j.all jF (zd (yF (yK (N:=["k","numbers"]) (ms:=[none,some 0]) rfl (CompOk.of (by rfl)) (xq (xx rfl j.range (zd (yj zat zaG (zR zF yW rfl j.len cE (zd (zb (pv 0)) zg)) zl) zg))) ⟨λ_ _ _ _ _=>⟨(zB (i:=0) (show(["k","numbers"]:List aC).Nodup by decide+kernel) rfl (Or.inl rfl)),xu,(v7 Vv VA (zQ (zb (pv 1)) (zb (pv 0)) (λ_ _=>rfl)) (zQ (zb (pv 1)) (yj ya yc (zb (pv 0)) zl) (λ_ _=>rfl)) (yo _))⟩⟩ (yR (by decide)) (yS (by decide)))) zg))))
abbrev zdj:aS:=top 19
theorem zdY:FnScope ["thing","rows"] ["thing"] (zr zdj):=yQ
theorem zht(Fn:Fun K "is_reader" "is_reader" zdj fa fd)(hm:mg "is_reader"=some (.ref fa))(bi:Bi mg)(J:Callee P w K mg base 1 "is_row" XE)(Y:Callee P w K mg base 1 "is_number" Wv)(R:Callee P w K mg base 2 "are_stands" UF)(Z:Callee P w K mg base 1 "is_rising" JR)(j:mg "MOST_LETTERS"=some (.int 3 z))(q:mg "MOST_STANDS"=some (.int 2000 O)):Callee P w K mg base 3 "is_reader" JS :=
 zJ (k:=2) (f:=zcG) Fn hm zdY (Fn.binds λ_ _ _ _ _ _ us hl=>match us,hl with|[_],_=>rfl) λcdv A outer s H E U=>
  (zh (xI (t_w (zb0 (uU (wH (zy J U (by decide) rfl (zd (zb (pv 0)) (zd zl (zd zl zg)))))) (Jm (uU (wH (zy Y U (by decide) rfl (by refine zd ?_ ?_;(· exact(zQ (zb (pv 0)) zl (λ_ _=>rfl)));refine zd ?_ ?_;(· exact zl);refine zd ?_ ?_;(· exact(Qx rfl j));exact zg))))))) (zo (zU vq)) yI) (zh (zV (i:=1) zdY.nd rfl (Or.inr rfl) (zQ (zb (pv 0)) zl (λ_ _=>rfl))) (zh (xI (uU (wH (zy J U (by decide) rfl (zd (zb (pv 1)) (zd zl (zd (Qx rfl q) zg)))))) (zo (zU vq)) yI) (zh (xI (uU (wH (zR (vf rfl) Xq rfl bi.all jF (zd (yF (yK (N:=["row","rows","thing"]) (ms:=[none,some 1,some 0]) rfl (CompOk.of (by rfl)) (xq (yU (zb (pv 1)))) ⟨λ_ _ _ _ _=>⟨(zB (i:=0) (show(["row","rows","thing"]:List aC).Nodup by decide+kernel) rfl (Or.inl rfl)),xu,(Z2 (zy R U (by decide) rfl (by refine zd ?_ ?_;(· exact(zb (pv 0)));refine zd ?_ ?_;(· exact(zR zF yW rfl bi.len cE (zd (zb (pv 1)) zg)));exact zg)) (Z1 (v7 (wM (Room.units U)) wm (zR zF yW rfl bi.len cE (zd (zb (pv 0)) zg)) (zQ (zb (pv 2)) zl (λ_ _=>rfl)) (yo _))))⟩⟩ (yR (by decide)) (yS (by decide)))) zg)))) (zo (zU vq)) yI) (zo (zU (Z2 (zy R U (by decide) rfl (by refine zd ?_ ?_;(· exact(zQ (zb (pv 0)) zl (λ_ _=>rfl)));refine zd ?_ ?_;(· exact(zR zF yW rfl bi.len cE (zd (zb (pv 1)) zg)));exact zg)) (Z1 (zy Z U (by decide) rfl (zd (zQ (zb (pv 0)) zl (λ_ _=>rfl)) zg))))))))))
abbrev zdk:aS:=top 20
theorem zhu:FnScope ["reader"] ["reader"] (zr zdk):=yQ
theorem zhv(q:Fun K "checked_reader" "checked_reader" zdk fa fd)(z:mg "checked_reader"=some (.ref fa))(R:Bi mg)(j:Callee P w K mg base 3 "is_reader" JS):Callee P w K mg base 4 "checked_reader" JT :=
 zJ (k:=3) (f:=zcH) q z zhu (q.binds λ_ _ _ _ _ _ us J=>match us,J with|[_],_=>rfl) λcdv A outer s H E O=>
  (zh (xI (uU (wH (zy j O (by decide) rfl (zd (zb (pv 0)) zg)))) (zo zij) yI) (zo (zU (zb (pv 0)))))
abbrev zdl:aS:=top 21
theorem zaj:FnScope ["reader","marks","stand"] ["reader"] (zr zdl):=yQ
theorem zhw(j:Fun K "marks_of" "marks_of" zdl fa fd)(q:mg "marks_of"=some (.ref fa))(J:Bi mg):Callee P w K mg base 1 "marks_of" JU :=
 zJ (k:=0) (f:=zcI) j q zaj (j.binds λ_ _ _ _ _ _ us z=>match us,z with|[_],_=>rfl) λcdv A outer s H E O=>
  (zh (zfI (i:=1) (N:=["row"]) (ms:=[none]) rfl (CompOk.of (by rfl)) (xq (yU (zQ (zb (pv 0)) zl (λ_ _=>rfl)))) ⟨λ_ _ _ _ _=>⟨(zB (i:=0) (show(["row"]:List aC).Nodup by decide+kernel) rfl (Or.inl rfl)),xu,vq⟩⟩ (yR (by decide)) (yS (by decide)) zaj.nd rfl (Or.inl rfl) (by rfl)) (zh (xy bY rfl (yU (zQ (zb (pv 0)) zl (λ_ _=>rfl))) (zB (i:=2) zaj.nd rfl (Or.inl rfl)) (zo (zfS (i:=1) (pv 1) (zb (pv 2)) vq))) (xO (i:=1) (zo (zU (zb (pv 1)))))))
abbrev zak:aS:=top 22
theorem zgr:FnScope ["reader"] ["reader"] (zr zak):=yQ
theorem zgs(O:Fun K "least" "least" zak fa fd)(R:mg "least"=some (.ref fa))(Y:Bi mg)(j:Callee P w K mg base 4 "checked_reader" JT)(q:Callee P w K mg base 1 "marks_of" JU)(z:Callee P w K mg base 4 "least_reader" UE):Callee P w K mg base 5 "least" u7 :=
 zJ (k:=4) (f:=JV) O R zgr (O.binds λ_ _ _ _ _ _ us U=>match us,U with|[_],_=>rfl) λcdv A outer s H E J=>
  (zh (zfE (zy j J (by decide) rfl (zd (zb (pv 0)) zg))) (zo (zU (zy z J (by decide) rfl (by refine zd ?_ ?_;(· exact(zQ (zb (pv 0)) zl (λ_ _=>rfl)));refine zd ?_ ?_;(· exact(zQ (zb (pv 0)) zl (λ_ _=>rfl)));refine zd ?_ ?_;(· exact(zy q J (by decide) rfl (zd (zb (pv 0)) zg)));exact zg)))))
abbrev zdm:aS:=top 24
theorem vD:FnScope ["goal","rows","ways","stand","row","letter","near","word","at"] ["goal","rows"] (zr zdm):=yQ
theorem zhx(z:Fun K "first_word_to" "first_word_to" zdm fa fd)(J:mg "first_word_to"=some (.ref fa))(j:Bi mg):Callee P w K mg base 1 "first_word_to" UG :=
 zJ (k:=0) (f:=zcJ) z J vD (z.binds λ_ _ _ _ _ _ us O=>match us,O with|[_,_],_=>rfl) λcdv A outer s H E q=>
  (zh (Xs (i:=2) vD.nd rfl (Or.inl rfl)) (zh (xy bY rfl (zit (Yc rfl j.enumerate (zd (zb (pv 1)) zg)) (QH rfl j.enumerate (zd (zb (pv 1)) zg))) (ub rfl (yA (zB (i:=3) vD.nd rfl (Or.inl rfl)) (yA (zB (i:=4) vD.nd rfl (Or.inl rfl)) vk))) (zo (xy bY rfl (QH rfl j.enumerate (zd (zb (pv 4)) zg)) (ub rfl (yA (zB (i:=5) vD.nd rfl (Or.inl rfl)) (yA (zB (i:=6) vD.nd rfl (Or.inl rfl)) vk))) (zo (xI (yY (vX (yE q)) Zz (zb (pv 6)) (zb (pv 2)) (by with_unfolding_all rfl)) (zo (ux (i:=2) (yE q) (pv 2) (zb (pv 6)) (xU (zd (zb (pv 3)) (zd (zb (pv 5)) zg))))) yI))))) (zh (ua (i:=7) vD.nd rfl (Or.inl rfl) (x6 zg)) (zh (zV (i:=8) vD.nd rfl (Or.inl rfl) (zb (pv 0))) (zh (Z6 (n:=WF) bY (yY (V5 (Room.units q)) wm (zb (pv 8)) zl (yo _)) (zh (uX (i:=7) (h1:=xS dB dF dR yz (pv 7) (zA (zQ (Ub (yE q) (zb (pv 2)) (zb (pv 8)) (λ_ _=>rfl)) zl (λ_ _=>rfl)) zN))) (zo (zV (i:=8) vD.nd rfl (Or.inl rfl) (zQ (Ub (yE q) (zb (pv 2)) (zb (pv 8)) (λ_ _=>rfl)) zl (λ_ _=>rfl)))))) (zo (zU (zcA rfl rfl j.tuple rfl j.reversed (zd (zb (pv 7)) zg)))))))))
abbrev zdn:aS:=top 25
theorem zdZ:FnScope ["reader","small"] ["reader"] (zr zdn):=yQ
theorem zhy(J:Fun K "first_word" "first_word" zdn fa fd)(O:mg "first_word"=some (.ref fa))(R:Bi mg)(j:Callee P w K mg base 5 "least" u7)(q:Callee P w K mg base 1 "first_word_to" UG):Callee P w K mg base 6 "first_word" UH :=
 zJ (k:=5) (f:=JW) J O zdZ (J.binds λ_ _ _ _ _ _ us U=>match us,U with|[_],_=>rfl) λcdv A outer s H E z=>
  (zh (zV (i:=1) zdZ.nd rfl (Or.inl rfl) (zy j z (by decide) rfl (zd (zb (pv 0)) zg))) (zh (xI (yY (wM (Room.units z)) wm (zR zF yW rfl R.len cE (zd (zQ (zb (pv 1)) zl (λ_ _=>rfl)) zg)) zl (yo _)) (zo (zU zdE)) yI) (zo (zU (zy q z (by decide) rfl (by refine zd ?_ ?_;(· exact(zQ (zQ (zb (pv 1)) zl (λ_ _=>rfl)) zl (λ_ _=>rfl)));refine zd ?_ ?_;(· exact(zQ (zb (pv 1)) zl (λ_ _=>rfl)));exact zg))))))
abbrev zal:aS:=top 26
theorem zgt:FnScope ["stand","small"] ["stand","small"] (zr zal):=yQ
theorem zgu(j:Fun K "is_lost" "is_lost" zal fa fd)(z:mg "is_lost"=some (.ref fa))(J:Bi mg):Callee P w K mg base 1 "is_lost" VG :=
 zJ (k:=0) (f:=JX) j z zgt (j.binds λ_ _ _ _ _ _ us O=>match us,O with|[_,_],_=>rfl) λcdv A outer s H E q=>
  (zo (zU (Z2 (zR (vf rfl) Xq rfl J.all jF (zd (yF (yK (N:=["goal","stand"]) (ms:=[none,some 0]) rfl (CompOk.of (by rfl)) (xq (yU (zQ (zQ (zb (pv 1)) zl (λ_ _=>rfl)) (zb (pv 0)) (λ_ _=>rfl)))) ⟨λ_ _ _ _ _=>⟨(zB (i:=0) (show(["goal","stand"]:List aC).Nodup by decide+kernel) rfl (Or.inl rfl)),xu,(v7 (wM (Room.units q)) wm (zb (pv 0)) (zb (pv 1)) (yo _))⟩⟩ (yR (by decide)) (yS (by decide)))) zg)) (Z1 (v7 (zem (Z8 q)) VD (zb (pv 0)) (zQ (zb (pv 1)) zl (λ_ _=>rfl)) (by with_unfolding_all rfl))))))
abbrev zdo:aS:=top 27
theorem Yy:FnScope ["small","lost","arrows","row","counts","goal"] ["small"] (zr zdo):=yQ
theorem zhz(J:Fun K "arrows_of" "arrows_of" zdo fa fd)(O:mg "arrows_of"=some (.ref fa))(z:Bi mg)(j:Callee P w K mg base 1 "is_lost" VG):Callee P w K mg base 2 "arrows_of" UI :=
 zJ (k:=1) (f:=zcK) J O Yy (J.binds λ_ _ _ _ _ _ us R=>match us,R with|[_],_=>rfl) λcdv A outer s H E q=>
  (zh (QI (i:=1) rfl Yy.nd rfl (Or.inl rfl) rfl z.dict (zd (yF (yK (N:=["stand","small"]) (ms:=[none,some 0]) rfl (CompOk.of (by rfl)) (xq (xx rfl z.range (zd (zR zF yW rfl z.len cE (zd (zQ (zb (pv 0)) zl (λ_ _=>rfl)) zg)) zg))) ⟨λ_ _ _ _ _=>⟨(zB (i:=0) (show(["stand","small"]:List aC).Nodup by decide+kernel) rfl (Or.inl rfl)),(Xn (wH (zy j q (by decide) rfl (zd (zb (pv 0)) (zd (zb (pv 1)) zg))))),(xU (zd (zb (pv 0)) (zd vq zg)))⟩⟩ (yR (by decide)) (yS (by decide)))) zg)) (zh (ua (i:=2) Yy.nd rfl (Or.inl rfl) (x6 zg)) (zh (xy bY rfl (yU (zQ (zb (pv 0)) zl (λ_ _=>rfl))) (zB (i:=3) Yy.nd rfl (Or.inl rfl)) (zh (Xs (i:=4) Yy.nd rfl (Or.inl rfl)) (zh (xy bY rfl (yU (zb (pv 3))) (zB (i:=5) Yy.nd rfl (Or.inl rfl)) (zo (xI (yY (vX (yE q)) Zz (zb (pv 5)) (zb (pv 1)) (by with_unfolding_all rfl)) (zo (ux (i:=4) (yE q) (pv 4) (zb (pv 5)) (yj ya yc (Wh (yE q) (zb (pv 4)) (zb (pv 5)) zl ⟨rfl,rfl,rfl,rfl⟩) zl))) yI))) (xO (i:=4) (zo (uX (i:=2) (h1:=xS dB dF dR yz (pv 2) (zA (zb (pv 4)) zN)))))))) (xO (i:=2) (zo (zU (zb (pv 2))))))))
abbrev zam:aS:=top 28
theorem uO:FnScope ["counts","arrows","further","stand","count","goal","many"] ["counts","arrows"] (zr zam):=yQ
theorem zgv(j:Fun K "spread" "spread" zam fa fd)(z:mg "spread"=some (.ref fa))(O:Bi mg):Callee P w K mg base 1 "spread" ug :=
 zJ (k:=0) (f:=JY) j z uO (j.binds λ_ _ _ _ _ _ us J=>match us,J with|[_,_],_=>rfl) λcdv A outer s H E q=>
  (zh (Xs (i:=2) uO.nd rfl (Or.inl rfl)) (zh (xy bY rfl (QR (zb (pv 0))) (ub rfl (yA (zB (i:=3) uO.nd rfl (Or.inl rfl)) (yA (zB (i:=4) uO.nd rfl (Or.inl rfl)) vk))) (zo (xy bY rfl (QR (zQ (zb (pv 1)) (zb (pv 3)) (λ_ _=>rfl))) (ub rfl (yA (zB (i:=5) uO.nd rfl (Or.inl rfl)) (yA (zB (i:=6) uO.nd rfl (Or.inl rfl)) vk))) (zo (ux (i:=2) (yE q) (pv 2) (zb (pv 5)) (yj ya yc (Wh (yE q) (zb (pv 2)) (zb (pv 5)) zl ⟨rfl,rfl,rfl,rfl⟩) (yj wF wK (zb (pv 4)) (zb (pv 6))))))))) (xO (i:=2) (zo (zU (zb (pv 2)))))))
abbrev zdp:aS:=top 29
theorem vE:FnScope ["arrows","times","counts","left","longer","step"] ["arrows","times"] (zr zdp):=yQ
theorem zhA(J:Fun K "spread_often" "spread_often" zdp fa fd)(O:mg "spread_often"=some (.ref fa))(z:Bi mg)(j:Callee P w K mg base 1 "spread" ug):Callee P w K mg base 2 "spread_often" UJ :=
 zJ (k:=1) (f:=zcL) J O vE (J.binds λ_ _ _ _ _ _ us R=>match us,R with|[_,_],_=>rfl) λcdv A outer s H E q=>
  (zh (zcx (i:=2) vE.nd rfl (Or.inl rfl)) (xO (i:=2) (zh (zV (i:=3) vE.nd rfl (Or.inl rfl) (zb (pv 1))) (zh (zV (i:=4) vE.nd rfl (Or.inr rfl) (zb (pv 0))) (zh (xI (yY Q8 zdG (zb (pv 1)) (yj wF wK zl (yj zfl zfQ (zR zF yW rfl z.len cE (zd (zb (pv 0)) zg)) zl)) (yo _)) (zo (Z6 (n:=WF) bY (yY Q8 zdG (zb (pv 3)) (zR zF yW rfl z.len cE (zd (zb (pv 0)) zg)) (yo _)) (zh (xI (yY (wM (Room.units q)) wm (yj Zo Zu (zb (pv 3)) zl) zl (yo _)) (zo (zV (i:=2) vE.nd rfl (Or.inl rfl) (zy j q (by decide) rfl (zd (zb (pv 2)) (zd (zb (pv 4)) zg))))) yI) (zh (zV (i:=4) vE.nd rfl (Or.inr rfl) (yF (yK (N:=["row","longer"]) (ms:=[none,some 4]) rfl (CompOk.of (by rfl)) (xq (yU (zb (pv 4)))) ⟨λ_ _ _ _ _=>⟨(zB (i:=0) (show(["row","longer"]:List aC).Nodup by decide+kernel) rfl (Or.inl rfl)),xu,(zy j q (by decide) rfl (zd (zb (pv 0)) (zd (zb (pv 1)) zg)))⟩⟩ (yR (by decide)) (yS (by decide))))) (zo (zV (i:=3) vE.nd rfl (Or.inl rfl) (yj zd5 zfy (zb (pv 3)) zl))))))) yI) (zh (xy bY rfl (xx rfl z.range (zd (zb (pv 3)) zg)) (zB (i:=5) vE.nd rfl (Or.inl rfl)) (zo (zV (i:=2) vE.nd rfl (Or.inl rfl) (zy j q (by decide) rfl (zd (zb (pv 2)) (zd (zb (pv 4)) zg)))))) (xO (i:=2) (zo (zU (zb (pv 2)))))))))))
abbrev zdq:aS:=top 30
theorem zan:FnScope ["reader","length","small","counts"] ["reader","length"] (zr zdq):=yQ
theorem zhB(O:Fun K "how_many" "how_many" zdq fa fd)(R:mg "how_many"=some (.ref fa))(U:Bi mg)(j:Callee P w K mg base 5 "least" u7)(q:Callee P w K mg base 2 "arrows_of" UI)(z:Callee P w K mg base 2 "spread_often" UJ):Callee P w K mg base 6 "how_many" YY :=
 zJ (k:=5) (f:=zcM) O R zan (O.binds λ_ _ _ _ _ _ us Y=>match us,Y with|[_,_],_=>rfl) λcdv A outer s H E J=>
  (zh (zV (i:=2) zan.nd rfl (Or.inl rfl) (zy j J (by decide) rfl (zd (zb (pv 0)) zg))) (zh (zV (i:=3) zan.nd rfl (Or.inr rfl) (zy z J (by decide) rfl (by refine zd ?_ ?_;(· exact(zy q J (by decide) rfl (zd (zb (pv 2)) zg)));refine zd ?_ ?_;(· exact(zb (pv 1)));exact zg))) (zo (zU (zR (Vl rfl) zbb rfl U.sum boot_sum (zd (yF (yK (N:=["stand","counts"]) (ms:=[none,some 3]) rfl (CompOk.of (by rfl)) (xq (yU (zQ (zb (pv 2)) zl (λ_ _=>rfl)))) ⟨λ_ _ _ _ _=>⟨(zB (i:=0) (show(["stand","counts"]:List aC).Nodup by decide+kernel) rfl (Or.inl rfl)),xu,(Wh (yE J) (zb (pv 1)) (zb (pv 0)) zl ⟨rfl,rfl,rfl,rfl⟩)⟩⟩ (yR (by decide)) (yS (by decide)))) zg))))))
abbrev zdr:aS:=top 32
theorem zhC:FnScope ["_law_script","_law_k"] ["_law_script","_law_k"] (zr zdr):=yQ
theorem zhD(j:Fun K "_law_cell_at" "_law_cell_at" zdr fa fd)(z:mg "_law_cell_at"=some (.ref fa))(q:Bi mg):Callee P w K mg base 1 "_law_cell_at" JZ :=
 zJ (k:=0) (f:=UK) j z zhC (j.binds λ_ _ _ _ _ _ us J=>match us,J with|[_,_],_=>rfl) λcdv A outer s H E O=>
  (zh (xI (yY Vv VA (zb (pv 1)) (zR zF yW rfl q.len cE (zd (zb (pv 0)) zg)) (yo _)) (zo (zU (zQ (zb (pv 0)) (zb (pv 1)) (λ_ _=>rfl)))) yI) (zh (xI (yY (wM (Room.units O)) wm (zb (pv 0)) (yF (x6 zg)) (yo _)) (zo (zU zl)) yI) (zo (zU (yj ya yc (yj wF wK (zQ (zb (pv 0)) (yj Zo Zu (zb (pv 1)) (zR zF yW rfl q.len cE (zd (zb (pv 0)) zg))) (λ_ _=>rfl)) zl) (zb (pv 1)))))))
abbrev zds:aS:=top 33
theorem zd0:FnScope ["_law_script","_law_k","_law_many","_law_drawn"] ["_law_script","_law_k","_law_many"] (zr zds):=yQ
theorem zhE(q:Fun K "_law_mixed" "_law_mixed" zds fa fd)(z:mg "_law_mixed"=some (.ref fa))(R:Bi mg)(j:Callee P w K mg base 1 "_law_cell_at" JZ):Callee P w K mg base 2 "_law_mixed" wf :=
 zJ (k:=1) (f:=zcN) q z zd0 (q.binds λ_ _ _ _ _ _ us J=>match us,J with|[_,_,_],_=>rfl) λcdv A outer s H E O=>
  (zh (zV (i:=3) zd0.nd rfl (Or.inl rfl) (yj Zo Zu (yj wF wK (yj ya yc (yj ya yc (zy j O (by decide) rfl (zd (zb (pv 0)) (zd (zb (pv 1)) zg))) (yj wF wK zl (zb (pv 1)))) zl) zl) zl)) (zo (zU (yj Zo Zu (yj Zo Zu (yj ya yc (yj ya yc (yj wF wK (zb (pv 3)) (zb (pv 3))) (yj wF wK zl (zb (pv 3)))) (zb (pv 1))) zl) (zb (pv 2))))))
abbrev zdt:aS:=top 34
theorem zhF:FnScope ["_law_script","_law_at"] ["_law_script","_law_at"] (zr zdt):=yQ
theorem zhG(q:Fun K "_law_letters" "_law_letters" zdt fa fd)(z:mg "_law_letters"=some (.ref fa))(R:Bi mg)(j:Callee P w K mg base 2 "_law_mixed" wf):Callee P w K mg base 3 "_law_letters" WB :=
 zJ (k:=2) (f:=zcO) q z zhF (q.binds λ_ _ _ _ _ _ us J=>match us,J with|[_,_],_=>rfl) λcdv A outer s H E O=>
  (zo (zU (zQ (yF (x6 (zd zl (zd zl (zd zl (zd zl (zd zl (zd zl zg)))))))) (zy j O (by decide) rfl (zd (zb (pv 0)) (zd (zb (pv 1)) (zd zl zg)))) (λ_ _=>rfl))))
abbrev zdu:aS:=top 35
theorem X2:FnScope ["_law_script","_law_at","_law_letters_here","_law_most","_law_many","_law_rows","_law_good","_law_k"] ["_law_script","_law_at","_law_letters_here","_law_most"] (zr zdu):=yQ
theorem zhH(J:Fun K "_law_reader" "_law_reader" zdu fa fd)(O:mg "_law_reader"=some (.ref fa))(q:Bi mg)(j:Callee P w K mg base 2 "_law_mixed" wf):Callee P w K mg base 3 "_law_reader" WE :=
 zJ (k:=2) (f:=zcP) J O X2 (J.binds λ_ _ _ _ _ _ us R=>match us,R with|[_,_,_,_],_=>rfl) λcdv A outer s H E z=>
  (zh (zV (i:=4) X2.nd rfl (Or.inr rfl) (yj ya yc zl (zy j z (by decide) rfl (zd (zb (pv 0)) (zd (zb (pv 1)) (zd (zb (pv 3)) zg)))))) (zh (ua (i:=5) X2.nd rfl (Or.inl rfl) (x6 zg)) (zh (ua (i:=6) X2.nd rfl (Or.inl rfl) (x6 zg)) (zh (xy bY rfl (xx rfl q.range (zd (zb (pv 4)) zg)) (zB (i:=7) X2.nd rfl (Or.inr rfl)) (zh (uX (i:=5) (h1:=xS dB dF dR yz (pv 5) (zA (wu xt wY rfl q.tuple fK (zd (yF (yK (N:=["_law_j","_law_script","_law_at","_law_k","_law_many"]) (ms:=[none,some 0,some 1,some 7,some 4]) rfl (CompOk.of (by rfl)) (xq (xx rfl q.range (zd (zb (pv 2)) zg))) ⟨λ_ _ _ _ _=>⟨(zB (i:=0) (show(["_law_j","_law_script","_law_at","_law_k","_law_many"]:List aC).Nodup by decide+kernel) rfl (Or.inl rfl)),xu,(zy j z (by decide) rfl (by refine zd ?_ ?_;(· exact(zb (pv 1)));refine zd ?_ ?_;(· exact(yj ya yc (yj ya yc (yj ya yc (zb (pv 2)) zl) (yj wF wK zl (zb (pv 3)))) (zb (pv 0))));refine zd ?_ ?_;(· exact(zb (pv 4)));exact zg))⟩⟩ (yR (by decide)) (yS (by decide)))) zg)) zN))) (zo (xI (yY (wM (Room.units z)) wm (zy j z (by decide) rfl (by refine zd ?_ ?_;(· exact(zb (pv 0)));refine zd ?_ ?_;(· exact(yj ya yc (yj ya yc (zb (pv 1)) zl) (yj wF wK zl (zb (pv 7)))));refine zd ?_ ?_;(· exact zl);exact zg)) zl (yo _)) (zo (uX (i:=6) (h1:=xS dB dF dR yz (pv 6) (zA (zb (pv 7)) zN)))) yI)))) (zo (zU (xU (by refine zd ?_ ?_;(· exact(zb (pv 2)));refine zd ?_ ?_;(· exact(wu xt wY rfl q.tuple fK (zd (zb (pv 5)) zg)));refine zd ?_ ?_;(· exact(wu xt wY rfl q.tuple fK (zd (zb (pv 6)) zg)));exact zg))))))))
abbrev zdv:aS:=top 36
theorem ui:FnScope ["_law_letters_here","_law_most","_law_made","_law_last","_law_turn","_law_longer_ones","_law_word"] ["_law_letters_here","_law_most"] (zr zdv):=yQ
theorem zhI(j:Fun K "_law_words" "_law_words" zdv fa fd)(z:mg "_law_words"=some (.ref fa))(q:Bi mg):Callee P w K mg base 1 "_law_words" UL :=
 zJ (k:=0) (f:=zcQ) j z ui (j.binds λ_ _ _ _ _ _ us J=>match us,J with|[_,_],_=>rfl) λcdv A outer s H E O=>
  (zh (zV (i:=2) ui.nd rfl (Or.inl rfl) (yF (x6 (zd (xU zg) zg)))) (zh (zV (i:=3) ui.nd rfl (Or.inl rfl) (yF (x6 (zd (xU zg) zg)))) (zh (xy bY rfl (xx rfl q.range (zd (zb (pv 1)) zg)) (zB (i:=4) ui.nd rfl (Or.inl rfl)) (zh (ua (i:=5) ui.nd rfl (Or.inl rfl) (x6 zg)) (zh (xy bY rfl (yU (zb (pv 3))) (zB (i:=6) ui.nd rfl (Or.inr rfl)) (zo (zgV (i:=5) (h1:=xS dB lF PySem.F.type_list_extend zaB (pv 5) (zA (yF (yK (N:=["_law_letter","_law_word"]) (ms:=[none,some 6]) rfl (CompOk.of (by rfl)) (xq (xx rfl q.range (zd (zb (pv 0)) zg))) ⟨λ_ _ _ _ _=>⟨(zB (i:=0) (show(["_law_letter","_law_word"]:List aC).Nodup by decide+kernel) rfl (Or.inl rfl)),xu,(yj ya yc (zb (pv 1)) (xU (zd (zb (pv 0)) zg)))⟩⟩ (yR (by decide)) (yS (by decide)))) zN))))) (xO (i:=5) (zh (zV (i:=3) ui.nd rfl (Or.inl rfl) (zb (pv 5))) (zo (zV (i:=2) ui.nd rfl (Or.inl rfl) (yj ya yc (zb (pv 2)) (zb (pv 3)))))))))) (zo (zU (zb (pv 2)))))))
abbrev zdw:aS:=top 37
theorem VM:FnScope ["_law_reader_here","_law_word","_law_stand","_law_letter"] ["_law_reader_here","_law_word"] (zr zdw):=yQ
theorem zhJ(j:Fun K "_law_takes" "_law_takes" zdw fa fd)(q:mg "_law_takes"=some (.ref fa))(O:Bi mg):Callee P w K mg base 1 "_law_takes" J0 :=
 zJ (k:=0) (f:=zcR) j q VM (j.binds λ_ _ _ _ _ _ us z=>match us,z with|[_,_],_=>rfl) λcdv A outer s H E J=>
  (zh (zV (i:=2) VM.nd rfl (Or.inl rfl) zl) (zh (xy bY rfl (yU (zb (pv 1))) (zB (i:=3) VM.nd rfl (Or.inl rfl)) (zo (zV (i:=2) VM.nd rfl (Or.inl rfl) (zQ (zQ (zQ (zb (pv 0)) zl (λ_ _=>rfl)) (zb (pv 2)) (λ_ _=>rfl)) (zb (pv 3)) (λ_ _=>rfl))))) (zo (zU (v7 (V6 (Z8 J)) VD (zb (pv 2)) (zQ (zb (pv 0)) zl (λ_ _=>rfl)) (by with_unfolding_all rfl))))))
abbrev zdx:aS:=top 38
theorem vg:FnScope ["_law_one","_law_other","_law_row","_law_met","_law_at","_law_word","_law_here","_law_there","_law_letter","_law_pair"] ["_law_one","_law_other"] (zr zdx):=yQ
theorem zhK(q:Fun K "_law_pairs" "_law_pairs" zdx fa fd)(J:mg "_law_pairs"=some (.ref fa))(z:Bi mg):Callee P w K mg base 1 "_law_pairs" UM :=
 zJ (k:=0) (f:=zcS) q J vg (q.binds λ_ _ _ _ _ _ us O=>match us,O with|[_,_],_=>rfl) λcdv A outer s H E j=>
  (zh (ua (i:=2) vg.nd rfl (Or.inl rfl) (x6 (zd (xU (by refine zd ?_ ?_;(· exact(xU zg));refine zd ?_ ?_;(· exact zl);refine zd ?_ ?_;(· exact zl);exact zg)) zg))) (zh (zeq (i:=3) (yE j) vg.nd rfl (Or.inl rfl) (xU (zd zl (zd zl zg))) vq) (zh (zV (i:=4) vg.nd rfl (Or.inl rfl) zl) (zh (Z6 (n:=WFB) bY (yY Vv VA (zb (pv 4)) (zR zF yW rfl z.len cE (zd (zb (pv 2)) zg)) (yo _)) (zh (zgT (zQ (zb (pv 2)) (zb (pv 4)) (λ_ _=>rfl)) (ub rfl (yA (zB (i:=5) vg.nd rfl (Or.inl rfl)) (yA (zB (i:=6) vg.nd rfl (Or.inl rfl)) (yA (zB (i:=7) vg.nd rfl (Or.inl rfl)) vk))))) (zh (xy bY rfl (xx rfl z.range (zd (zQ (zb (pv 0)) zl (λ_ _=>rfl)) zg)) (zB (i:=8) vg.nd rfl (Or.inl rfl)) (zh (zV (i:=9) vg.nd rfl (Or.inl rfl) (xU (by refine zd ?_ ?_;(· exact(zQ (zQ (zQ (zb (pv 0)) zl (λ_ _=>rfl)) (zb (pv 6)) (λ_ _=>rfl)) (zb (pv 8)) (λ_ _=>rfl)));refine zd ?_ ?_;(· exact(zQ (zQ (zQ (zb (pv 1)) zl (λ_ _=>rfl)) (zb (pv 7)) (λ_ _=>rfl)) (zb (pv 8)) (λ_ _=>rfl)));exact zg))) (zo (xI (yY (vX (yE j)) Zz (zb (pv 9)) (zb (pv 3)) (by with_unfolding_all rfl)) (zh (ux (i:=3) (yE j) (pv 3) (zb (pv 9)) vq) (zo (uX (i:=2) (h1:=xS dB dF dR yz (pv 2) (zA (xU (by refine zd ?_ ?_;(· exact(yj ya yc (zb (pv 5)) (xU (zd (zb (pv 8)) zg))));refine zd ?_ ?_;(· exact(zQ (zb (pv 9)) zl (λ_ _=>rfl)));refine zd ?_ ?_;(· exact(zQ (zb (pv 9)) zl (λ_ _=>rfl)));exact zg)) zN))))) yI)))) (zo (zV (i:=4) vg.nd rfl (Or.inl rfl) (yj ya yc (zb (pv 4)) zl)))))) (xO (i:=2) (zo (zU (zb (pv 2)))))))))
abbrev zdy:aS:=top 40
theorem zhL:FnScope ["_law_found"] ["_law_found"] (zr zdy):=yQ
theorem zhM(q:Fun K "_law_whole" "_law_whole" zdy fa fd)(z:mg "_law_whole"=some (.ref fa))(j:Bi mg):Callee P w K mg base 1 "_law_whole" UN :=
 zJ (k:=0) (f:=zf3) q z zhL (q.binds λ_ _ _ _ _ _ us J=>match us,J with|[_],_=>rfl) λcdv A outer s H E O=>
  (zo (zU (Z2 (zR va uu rfl j.isinstance ie (zd (zb (pv 0)) (zd (Wf .int rfl j.int k6) zg))) (Z1 (zgM (zR va uu rfl j.isinstance ie (zd (zb (pv 0)) (zd (Wf .bl rfl j.bool boot_bool) zg))))))))
abbrev zdz:aS:=top 41
theorem VN:FnScope ["_law_reader_here","_law_length","_law_counts","_law_turn"] ["_law_reader_here","_law_length"] (zr zdz):=yQ
theorem zhN(q:Fun K "_law_counted" "_law_counted" zdz fa fd)(z:mg "_law_counted"=some (.ref fa))(j:Bi mg):Callee P w K mg base 1 "_law_counted" UO :=
 zJ (k:=0) (f:=zcT) q z VN (q.binds λ_ _ _ _ _ _ us J=>match us,J with|[_,_],_=>rfl) λcdv A outer s H E O=>
  (zh (zV (i:=2) VN.nd rfl (Or.inr rfl) (yF (yK (N:=["_law_k","_law_reader_here"]) (ms:=[none,some 0]) rfl (CompOk.of (by rfl)) (xq (xx rfl j.range (zd (zR zF yW rfl j.len cE (zd (zQ (zb (pv 0)) zl (λ_ _=>rfl)) zg)) zg))) ⟨λ_ _ _ _ _=>⟨(zB (i:=0) (show(["_law_k","_law_reader_here"]:List aC).Nodup by decide+kernel) rfl (Or.inl rfl)),xu,(wu za5 zeE rfl j.int k6 (zd (v7 (V6 (Z8 O)) VD (zb (pv 0)) (zQ (zb (pv 1)) zl (λ_ _=>rfl)) (by with_unfolding_all rfl)) zg))⟩⟩ (yR (by decide)) (yS (by decide))))) (zh (xy bY rfl (xx rfl j.range (zd (zb (pv 1)) zg)) (zB (i:=3) VN.nd rfl (Or.inl rfl)) (zo (zV (i:=2) VN.nd rfl (Or.inr rfl) (yF (yK (N:=["_law_row","_law_counts"]) (ms:=[none,some 2]) rfl (CompOk.of (by rfl)) (xq (yU (zQ (zb (pv 0)) zl (λ_ _=>rfl)))) ⟨λ_ _ _ _ _=>⟨(zB (i:=0) (show(["_law_row","_law_counts"]:List aC).Nodup by decide+kernel) rfl (Or.inl rfl)),xu,(zR (Vl rfl) zbb rfl j.sum boot_sum (zd (yF (yK (N:=["_law_to","_law_counts"]) (ms:=[none,some 1]) rfl (CompOk.of (by rfl)) (xq (yU (zb (pv 0)))) ⟨λ_ _ _ _ _=>⟨(zB (i:=0) (show(["_law_to","_law_counts"]:List aC).Nodup by decide+kernel) rfl (Or.inl rfl)),xu,(zQ (zb (pv 1)) (zb (pv 0)) (λ_ _=>rfl))⟩⟩ (yR (by decide)) (yS (by decide)))) zg))⟩⟩ (yR (by decide)) (yS (by decide))))))) (zo (zU (zQ (zb (pv 2)) zl (λ_ _=>rfl))))))
abbrev Zj:aS:=top 42
theorem wV:FnScope ["_law_script","_law_letters_here","_law_reader_here","_law_length","_law_some","_law_due","_law_found","_law_far","_law_good"] ["_law_script"] (zr Zj):=yQ
theorem zgw(Fn:Fun K "law" "law" Zj fa fd)(bi:Bi mg)(O:Callee P w K mg base 3 "_law_letters" WB)(R:Callee P w K mg base 3 "_law_reader" WE)(q:Callee P w K mg base 2 "_law_mixed" wf)(U:Callee P w K mg base 1 "_law_words" UL)(Y:Callee P w K mg base 1 "_law_takes" J0)(z:Callee P w K mg base 6 "how_many" YY)(Z:Callee P w K mg base 1 "_law_whole" UN)(aa:Callee P w K mg base 1 "_law_counted" UO)(ab:Callee P w K mg base 1 "_law_pairs" UM)(J:Callee P w K mg base 6 "first_word" UH):FnOk P w K mg base CX0 7 fa fd ["_law_script"] (spD K Yr) :=
 zfK (k:=6) (N:=["_law_script","_law_letters_here","_law_reader_here","_law_length","_law_some","_law_due","_law_found","_law_far","_law_good"]) (ps:=["_law_script"]) (f:=J1) Fn wV λcdv A outer s H E j=>
  (zh (zV (i:=1) wV.nd rfl (Or.inl rfl) (zy O j (by decide) rfl (zd (zb (pv 0)) (zd zl zg)))) (zh (zV (i:=2) wV.nd rfl (Or.inr rfl) (zy R j (by decide) rfl (zd (zb (pv 0)) (zd zl (zd (zb (pv 1)) (zd zl zg)))))) (zh (zV (i:=3) wV.nd rfl (Or.inr rfl) (zy q j (by decide) rfl (zd (zb (pv 0)) (zd zl (zd zl zg))))) (zh (zaQ (i:=4) (N:=["_law_word","_law_length"]) (ms:=[none,some 3]) rfl (CompOk.of (by rfl)) (xq (yU (zy U j (by decide) rfl (zd (zb (pv 1)) (zd (zb (pv 3)) zg))))) ⟨λ_ _ _ _ _=>⟨(zB (i:=0) (show(["_law_word","_law_length"]:List aC).Nodup by decide+kernel) rfl (Or.inl rfl)),(Xn (yY (wM (Room.units j)) wm (zR zF yW rfl bi.len cE (zd (zb (pv 0)) zg)) (zb (pv 1)) (yo _))),(zb (pv 0))⟩⟩ (yR (by decide)) (yS (by decide)) wV.nd rfl (Or.inl rfl)) (zh (zV (i:=5) wV.nd rfl (Or.inl rfl) (zR zF yW rfl bi.len cE (zd (yF (yK (N:=["_law_word","_law_reader_here"]) (ms:=[none,some 2]) rfl (CompOk.of (by rfl)) (xq (yU (zb (pv 4)))) ⟨λ_ _ _ _ _=>⟨(zB (i:=0) (show(["_law_word","_law_reader_here"]:List aC).Nodup by decide+kernel) rfl (Or.inl rfl)),(Xn (wH (zy Y j (by decide) rfl (zd (zb (pv 1)) (zd (zb (pv 0)) zg))))),(zb (pv 0))⟩⟩ (yR (by decide)) (yS (by decide)))) zg))) (zh (zV (i:=6) wV.nd rfl (Or.inl rfl) (zy z j (by decide) rfl (zd (zb (pv 2)) (zd (zb (pv 3)) zg)))) (zh (xI (t_w (zb0 (uU (wH (zy Z j (by decide) rfl (zd (zb (pv 6)) zg)))) (Jm (yY (V5 (Room.units j)) wm (zb (pv 6)) (zb (pv 5)) (yo _))))) (zo (zU vq)) yI) (zh (zV (i:=7) wV.nd rfl (Or.inl rfl) (zy q j (by decide) rfl (zd (zb (pv 0)) (zd zl (zd zl zg))))) (zh (xI (yY (V5 (Room.units j)) wm (zy z j (by decide) rfl (zd (zb (pv 2)) (zd (zb (pv 7)) zg))) (zy aa j (by decide) rfl (zd (zb (pv 2)) (zd (zb (pv 7)) zg))) (yo _)) (zo (zU vq)) yI) (zh (zaQ (i:=8) (N:=["_law_row","_law_reader_here"]) (ms:=[none,some 2]) rfl (CompOk.of (by rfl)) (xq (yU (zy ab j (by decide) rfl (zd (zb (pv 2)) (zd (zb (pv 2)) zg))))) ⟨λ_ _ _ _ _=>⟨(zB (i:=0) (show(["_law_row","_law_reader_here"]:List aC).Nodup by decide+kernel) rfl (Or.inl rfl)),(Xn (yY (V6 (Z8 j)) VD (zQ (zb (pv 0)) zl (λ_ _=>rfl)) (zQ (zb (pv 1)) zl (λ_ _=>rfl)) (by with_unfolding_all rfl))),(zQ (zb (pv 0)) zl (λ_ _=>rfl))⟩⟩ (yR (by decide)) (yS (by decide)) wV.nd rfl (Or.inl rfl)) (zh (xI (yY (wM (Room.units j)) wm (zb (pv 8)) (yF (x6 zg)) (yo _)) (zo (zU (v7 zfn zfO (zy J j (by decide) rfl (zd (zb (pv 2)) zg)) zdE (yo _)))) yI) (zo (zU (v7 (wM (Room.units j)) wm (zy J j (by decide) rfl (zd (zb (pv 2)) zg)) (zQ (zb (pv 8)) zl (λ_ _=>rfl)) (yo _)))))))))))))))
end
theorem zgx{l:g5}{w:aO}{K:aE}{h:aN}{mg:aC->Option aA}{fa:aB}(X:K.In h)(z:h.Ns aV mg)(gp:mg "law"=some (.ref fa)) 
  {bp:aB} (db:bD K aV "reached_in_order"=some (some (.ref bp))) (dd:∃fd,Fun K "reached_in_order" "reached_in_order" zdd bp fd)
  {bq:aB} (de:bD K aV "renumbered"=some (some (.ref bq))) (df:∃fd,Fun K "renumbered" "renumbered" zde bq fd)
  {br:aB} (dg:bD K aV "least_reader"=some (some (.ref br))) (dh:∃fd,Fun K "least_reader" "least_reader" zdf br fd)
  {bt:aB} (di:bD K aV "is_number"=some (some (.ref bt))) (dj:∃fd,Fun K "is_number" "is_number" zdg bt fd)
  {ay:aB} (ck:bD K aV "is_row"=some (some (.ref ay))) (cm:∃fd,Fun K "is_row" "is_row" zai ay fd)
  {bu:aB} (dk:bD K aV "are_stands"=some (some (.ref bu))) (dm:∃fd,Fun K "are_stands" "are_stands" zdh bu fd)
  {bv:aB} (dn:bD K aV "is_rising"=some (some (.ref bv))) (dp:∃fd,Fun K "is_rising" "is_rising" zdi bv fd)
  {bw:aB} (dq:bD K aV "is_reader"=some (some (.ref bw))) (dr:∃fd,Fun K "is_reader" "is_reader" zdj bw fd)
  {bx:aB} (dt:bD K aV "checked_reader"=some (some (.ref bx))) (du:∃fd,Fun K "checked_reader" "checked_reader" zdk bx fd)
  {bz:aB} (dv:bD K aV "marks_of"=some (some (.ref bz))) (dw:∃fd,Fun K "marks_of" "marks_of" zdl bz fd)
  {az:aB} (cn:bD K aV "least"=some (some (.ref az))) (co:∃fd,Fun K "least" "least" zak az fd)
  {b0:aB} (dy:bD K aV "first_word_to"=some (some (.ref b0))) (dz:∃fd,Fun K "first_word_to" "first_word_to" zdm b0 fd)
  {b1:aB} (d0:bD K aV "first_word"=some (some (.ref b1))) (d1:∃fd,Fun K "first_word" "first_word" zdn b1 fd)
  {a8:aB} (cp:bD K aV "is_lost"=some (some (.ref a8))) (cq:∃fd,Fun K "is_lost" "is_lost" zal a8 fd)
  {b2:aB} (d2:bD K aV "arrows_of"=some (some (.ref b2))) (d3:∃fd,Fun K "arrows_of" "arrows_of" zdo b2 fd)
  {a9:aB} (cr:bD K aV "spread"=some (some (.ref a9))) (cu:∃fd,Fun K "spread" "spread" zam a9 fd)
  {b3:aB} (d4:bD K aV "spread_often"=some (some (.ref b3))) (d5:∃fd,Fun K "spread_often" "spread_often" zdp b3 fd)
  {b4:aB} (d6:bD K aV "how_many"=some (some (.ref b4))) (d7:∃fd,Fun K "how_many" "how_many" zdq b4 fd)
  {b5:aB} (d8:bD K aV "_law_cell_at"=some (some (.ref b5))) (d9:∃fd,Fun K "_law_cell_at" "_law_cell_at" zdr b5 fd)
  {b6:aB} (ea:bD K aV "_law_mixed"=some (some (.ref b6))) (eb:∃fd,Fun K "_law_mixed" "_law_mixed" zds b6 fd)
  {b7:aB} (ec:bD K aV "_law_letters"=some (some (.ref b7))) (ee:∃fd,Fun K "_law_letters" "_law_letters" zdt b7 fd)
  {b8:aB} (ef:bD K aV "_law_reader"=some (some (.ref b8))) (eg:∃fd,Fun K "_law_reader" "_law_reader" zdu b8 fd)
  {b9:aB} (eh:bD K aV "_law_words"=some (some (.ref b9))) (ei:∃fd,Fun K "_law_words" "_law_words" zdv b9 fd)
  {ca:aB} (ej:bD K aV "_law_takes"=some (some (.ref ca))) (ek:∃fd,Fun K "_law_takes" "_law_takes" zdw ca fd)
  {cb:aB} (em:bD K aV "_law_pairs"=some (some (.ref cb))) (en:∃fd,Fun K "_law_pairs" "_law_pairs" zdx cb fd)
  {cc:aB} (eo:bD K aV "_law_whole"=some (some (.ref cc))) (er:∃fd,Fun K "_law_whole" "_law_whole" zdy cc fd)
  {ce:aB} (et:bD K aV "_law_counted"=some (some (.ref ce))) (eu:∃fd,Fun K "_law_counted" "_law_counted" zdz ce fd)
  {ba:aB} (cv:bD K aV "law"=some (some (.ref ba))) (cw:∃fd,Fun K "law" "law" Zj ba fd)
  {cf:aB} (ev:bD K aV "parts_of_stands"=some (some (.ref cf))) (ew:∃fd,Fun K "parts_of_stands" "parts_of_stands" Pt.Yx cf fd)
  {cg:aB} (ey:bD K aV "arrows_back"=some (some (.ref cg))) (ez:∃fd,Fun K "arrows_back" "arrows_back" Pt.VL cg fd)
  {ci:aB} (e0:bD K aV "leading_to"=some (some (.ref ci))) (e1:∃fd,Fun K "leading_to" "leading_to" Pt.XZ ci fd)
  {j:aB} (ax:bD K aV "Parting"=some (some (.ref j)))
  {ae:aB} (bb:cM K (.ref j) "__init__"=some (some (.ref ae))) (bc:∃fd,Fun K "__init__" "Parting.__init__" Pt.XY ae fd) (bd:gD K (.ref ae)=true)
  {q:aB} (af:cM K (.ref j) "take_goals"=some (some (.ref q))) (ag:∃fd,Fun K "take_goals" "Parting.take_goals" Pt.XW q fd) (ah:gD K (.ref q)=true)
  {J:aB} (am:cM K (.ref j) "part_off"=some (some (.ref J))) (ao:∃fd,Fun K "part_off" "Parting.part_off" Pt.VJ J fd) (ap:gD K (.ref J)=true)
  {O:aB} (aq:cM K (.ref j) "let_wait"=some (some (.ref O))) (ar:∃fd,Fun K "let_wait" "Parting.let_wait" Pt.ZS O fd) (au:gD K (.ref O)=true)
  (gq:ip K j lq=true)
  (gr:i5 K j=true)
  (gs:jR K j=true)
  (gu:cM K (.ref j) "__setattr__"=some (some (.builtin "object.__setattr__")))
  (gv:cM K (.ref j) "part_of"=some none)
  (gw:cM K (.ref j) "parts"=some none)
  (gx:cM K (.ref j) "waiting"=some none)
  (gy:cM K (.ref j) "waits"=some none)
  (gz:jT K j=true)
  (g0:fO K (.ref j)=true)
  (cx:bD K aV "all"=some none)
  (bm:bD K aV "bool"=some none)
  (bn:bD K aV "dict"=some none)
  (av:bD K aV "enumerate"=some none)
  (cy:bD K aV "int"=some none)
  (al:bD K aV "isinstance"=some none)
  (cz:bD K aV "len"=some none)
  (bo:bD K aV "list"=some none)
  (be:bD K aV "range"=some none)
  (aw:bD K aV "reversed"=some none)
  (c0:bD K aV "sum"=some none)
  (bf:bD K aV "tuple"=some none)
  {aa:dU} (ab:bD K aV "MOST_LETTERS"=some (some (.int 3 aa)))
  {ai:dU} (aj:bD K aV "MOST_STANDS"=some (some (.int 2000 ai))) :
  ∃fd:cB,(∀(s:aD) (v:aA),gY s fd ⟨[v],[]⟩ [("_law_script",v)])/\∀base:aN,K.In base->base.Ns aV mg->FnOk l.prog w K mg base CX0 7 fa fd ["_law_script"] (spD K Yr):=by
 have e:=gp.symm.trans (bP X z cv)
 cases e
 have U:Bi mg:=⟨eJ X z cx,eJ X z bm,eJ X z bn,eJ X z av,eJ X z cy,eJ X z al,eJ X z cz,eJ X z bo,eJ X z be,eJ X z aw,eJ X z c0,eJ X z bf⟩
 have ac:=bP X z ab
 have ak:=bP X z aj
 obtain⟨_,e2⟩:=dd
 obtain⟨_,e3⟩:=df
 obtain⟨_,e4⟩:=dh
 obtain⟨_,e5⟩:=dj
 obtain⟨_,c1⟩:=cm
 obtain⟨_,e6⟩:=dm
 obtain⟨_,e7⟩:=dp
 obtain⟨_,e8⟩:=dr
 obtain⟨_,e9⟩:=du
 obtain⟨_,fc⟩:=dw
 obtain⟨_,c2⟩:=co
 obtain⟨_,fe⟩:=dz
 obtain⟨_,ff⟩:=d1
 obtain⟨_,c3⟩:=cq
 obtain⟨_,fg⟩:=d3
 obtain⟨_,c4⟩:=cu
 obtain⟨_,fi⟩:=d5
 obtain⟨_,fj⟩:=d7
 obtain⟨_,fk⟩:=d9
 obtain⟨_,fm⟩:=eb
 obtain⟨_,fo⟩:=ee
 obtain⟨_,fq⟩:=eg
 obtain⟨_,fr⟩:=ei
 obtain⟨_,ft⟩:=ek
 obtain⟨_,fu⟩:=en
 obtain⟨_,fv⟩:=er
 obtain⟨_,fw⟩:=eu
 obtain⟨_,fx⟩:=ew
 obtain⟨_,fy⟩:=ez
 obtain⟨_,fz⟩:=e1
 obtain⟨_,bg⟩:=bc
 obtain⟨_,R⟩:=ag
 obtain⟨_,Y⟩:=ao
 obtain⟨_,Z⟩:=ar
 obtain⟨_,⟨oc,od,kV,dc,pm,an,cd,ct,sl,rfl,c5,c6⟩,c7⟩:=cw
 refine⟨gJ "law" "law" (uq Zj) (wA Zj) (zr Zj) .none kV dc pm an cd ct,λs v=>.of_eq rfl,λbase _ _=>?_⟩
 have g4:=Pt.PM.mk (mg:=mg) ⟨⟨gq,gr,gs,gu⟩,gv,gw,gx,gy⟩ (bP X z ax) ⟨gz,bb,bd,g0⟩ bg ⟨af,ah,R.2⟩ R ⟨am,ap,Y.2⟩ Y ⟨aq,au,Z.2⟩ Z (bP X z e0) fz (bP X z ey) fy U.len U.list U.range U.enumerate
 have f0:=Pt.Qb (P:=l.prog) (w:=w) (base:=base) fx (bP X z ev) g4
 have f3:=zhj (P:=l.prog) (w:=w) (base:=base) e2 (bP X z db) U
 have f4:=zhl (P:=l.prog) (w:=w) (base:=base) e3 (bP X z de) U
 have f5:=zhm (P:=l.prog) (w:=w) (base:=base) e4 (bP X z dg) U f3 f4 f0
 have cj:=zho (P:=l.prog) (w:=w) (base:=base) e5 (bP X z di) U
 have c8:=zgq (P:=l.prog) (w:=w) (base:=base) c1 (bP X z ck) U
 have f6:=zhq (P:=l.prog) (w:=w) (base:=base) e6 (bP X z dk) U cj
 have f7:=zhs (P:=l.prog) (w:=w) (base:=base) e7 (bP X z dn) U
 have f8:=zht (P:=l.prog) (w:=w) (base:=base) e8 (bP X z dq) U c8 cj f6 f7 ac ak
 have f9:=zhv (P:=l.prog) (w:=w) (base:=base) e9 (bP X z dt) U f8
 have ga:=zhw (P:=l.prog) (w:=w) (base:=base) fc (bP X z dv) U
 have bh:=zgs (P:=l.prog) (w:=w) (base:=base) c2 (bP X z cn) U f9 ga f5
 have gb:=zhx (P:=l.prog) (w:=w) (base:=base) fe (bP X z dy) U
 have gc:=zhy (P:=l.prog) (w:=w) (base:=base) ff (bP X z d0) U bh gb
 have c9:=zgu (P:=l.prog) (w:=w) (base:=base) c3 (bP X z cp) U
 have gd:=zhz (P:=l.prog) (w:=w) (base:=base) fg (bP X z d2) U c9
 have da:=zgv (P:=l.prog) (w:=w) (base:=base) c4 (bP X z cr) U
 have ge:=zhA (P:=l.prog) (w:=w) (base:=base) fi (bP X z d4) U da
 have gf:=zhB (P:=l.prog) (w:=w) (base:=base) fj (bP X z d6) U bh gd ge
 have gg:=zhD (P:=l.prog) (w:=w) (base:=base) fk (bP X z d8) U
 have bj:=zhE (P:=l.prog) (w:=w) (base:=base) fm (bP X z ea) U gg
 have gh:=zhG (P:=l.prog) (w:=w) (base:=base) fo (bP X z ec) U bj
 have gi:=zhH (P:=l.prog) (w:=w) (base:=base) fq (bP X z ef) U bj
 have gj:=zhI (P:=l.prog) (w:=w) (base:=base) fr (bP X z eh) U
 have gk:=zhJ (P:=l.prog) (w:=w) (base:=base) ft (bP X z ej) U
 have gl:=zhK (P:=l.prog) (w:=w) (base:=base) fu (bP X z em) U
 have gm:=zhM (P:=l.prog) (w:=w) (base:=base) fv (bP X z eo) U
 have gn:=zhN (P:=l.prog) (w:=w) (base:=base) fw (bP X z et) U
 exact zgw (zaE (st:=Zj) c5 c6 c7) U gh gi bj gj gk gf gm gn gl gc
theorem walk{l:g5}{O:aU}{j:List aC}{R:(aC->Option aA)->aN->Prop}{J:aO->aN->Prop}{d:DefRec}{K:jd->aE}(good:∀ns:List Int,ns.length<=63->Yr [.scr ns]=some (.bl true))(hn:l.most=some 63)(q:d.params.defaults=[]) 
  (U:∀(w:aO) (h:aN),J w h->(K w.params).In h)
  (F:∀(w:aO) (mg:aC->Option aA) (fa:aB) (h:aN),(K w.params).In h->h.Ns aV mg->mg d.name=some (.ref fa)->
   ∃fd:cB,(∀(s:aD) (u:aA),gY s fd ⟨[u],[]⟩ [("_law_script",u)])/\∀base:aN,(K w.params).In base->base.Ns aV mg->FnOk l.prog w (K w.params) mg base CX0 7 fa fd ["_law_script"] (spD (K w.params) Yr)) :
  ko O j R J l.row.toRowW d [] (λf vs=>kq f vs) :=
 L2.zef (n:=63) (k:=7) (x:="_law_script") (CX:=λ_=>CX0) (sp:=λw=>spD (K w.params) Yr) hn (by decide) q ⟨rfl,by decide,by decide⟩ U F (λ_ _ a ns Y _ Z=>zfL Z (good ns Y)) λ_ _ _ _ _ z=>z
end Py
open PySem PySem.W PyProof.Rows
namespace PySem.W.Fast
def tw14959193191209645597:=()
def tw6768459848464513264:=()
def tw4252761331081256718:=()
def tw5698855911840736824:=()
def tw16470274188607648572:=()
def tw1396847489604628927:=()
def tw16366773364516665513:=()
def tw14554033076103129381:=()
def tw17136554794348199234:=()
def tw2969398444302972815:=()
def tw159181175793397406:=()
def tw2503193212594382360:=()
def tw15675496832309870705:=()
def tw16005514025313246331:=()
def tw5985982476387914347:=()
def tw12194466662849948667:=()
def tw16038970953997360784:=()
def tw12731748155893727870:=()
def tw4434324066877856770:=()
def tw7527057394986984639:=()
def tw13862311074578690217:=()
def tw595085842380104297:=()
def tw5674060678564946381:=()
def tw17700977961566134158:=()
def tw16819687664481264796:=()
def tw12149296883952819021:=()
def tw1938021508139688:=()
def tw17423633318017464129:=()
def tw773591865275668601:=()
def tw11744928262664186961:=()
def tw17592375166709772913:=()
def tw14250965059213619021:=()
def tw16315321040959586094:=()
def tw8014180895955318639:=()
def tw10286416530404144538:=()
def tw17871192893806931273:=()
def tw5151602609841442498:=()
def tw12673176341221759850:=()
def tw5809986074622737618:=()
def tw16305886768211233632:=()
def tw7724995416950695223:=()
def tw11528020160587432251:=()
def tw3615737247731167375:=()
def tw7502722220185760537:=()
def tw956186666374905000:=()
def tw7293317858414381984:=()
def tw3108271372972388192:=()
def tw6540901508007649312:=()
def tw17326857886847756621:=()
def tw15444535807136629461:=()
def tw7093569925621185068:=()
def tw15705504728823180578:=()
def tw13271250701795572758:=()
def tw4940277140141322149:=()
def tw13274264663775896120:=()
def tw5270329398756837622:=()
def tw3371237000603645549:=()
def tw4912365170610762652:=()
def tw16474443569046034337:=()
def tw645569677550137007:=()
def tw12923968948250447399:=()
def tw3790035436296955202:=()
def tw14554666381945689591:=()
def tw3951034349265008563:=()
def tw9718061018958950031:=()
def tw12360955294333256086:=()
def tw3933469828775451797:=()
def tw16235511377017078771:=()
def tw3215124800502635624:=()
def tw8974117863403843968:=()
def tw10878334740112166183:=()
def tw799303474341373942:=()
def tw6622094511831562561:=()
def tw2025468957081353180:=()
def tw7754442140797060395:=()
def tw205020116796638349:=()
def tw10752980622623232581:=()
def tw13614174291400934035:=()
def tw914286856263822952:=()
def tw11124628247856617807:=()
def tw8649995264868642842:=()
def tw11529699803130723123:=()
def tw1746038404801978784:=()
def tw16262665755491289739:=()
def tw1777405596323004790:=()
def tw3091535341001478357:=()
def tw13389459759216629329:=()
def tw16353595431493016189:=()
def tw6386136129227367149:=()
end PySem.W.Fast
set_option maxRecDepth 100000 in
set_option maxHeartbeats 0 in
theorem PySem.Challenge.cw_backhead_k09_counts_holds : PySem.Challenge.rw_backhead_k09_counts.Holds := by
 w_on;o_law;k_head;(case hw=>w_witness2)
 k_fill
 refine Py.walk (l:=PySem.Challenge.rw_backhead_k09_counts) Py.good rfl rfl (fun w h Y=>PySem.W.kIn_of Y) ?F
 case F =>
  intro w mg fa h KX G hmg
  apply Py.zgx KX G hmg
  all_goals first|(refine' ⟨_,L2.zaE ?l ?c ?k⟩;(case l=>k_is);(case c=>k_is);(case k=>k_is))|k_is
