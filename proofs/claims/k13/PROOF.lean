import PyProof.Rows.All
import Wide.All
import OpenK.AllK
import PySem.Challenge.RW_backhead_k13_whole_three_fates
open Array renaming length_toList->K8,toList->Nx,getElem?_toList->MH
open Bool renaming false_ne_true->Gx,eq_iff_iff->Iv,and_eq_true->G0,or_eq_true->MM,beq_eq_decide_eq->OV,false_eq_true->Po
open Classical renaming byContradiction->K1
open Decidable renaming byContradiction->M6
open Eq renaming trans->Nl
open False renaming elim->Hm
open Function renaming comp->Ps
open Int renaming fdiv_eq_ediv_of_nonneg->ND,fmod_eq_emod_of_nonneg->NF,toNat_natCast->Il,toNat_of_nonneg->LH,emod_nonneg->Ng,emod_lt_of_pos->Pp
open List renaming range->Fy,mem_filter->HC,mem_range->Gh,filterMap_cons->Ma,mem_cons_self->F9,mem_cons_of_mem->Gc,mem_cons->FL,mem_append->Gk,mem_append_left->He,getElem?_eq_some_iff->FO,getElem_inj->IJ,getElem?_set_self->Hs,getElem?_set_ne->GZ,mem_filterMap->NB,mem_append_right->GV,length_cons->Gu,length_nil->KA,lookup->Ie,map_cons->FY,length_map->FF,append_nil->Iw,nodup_cons->GX,of_mem_zip->Mr,replicate->F7,length->Mt,length_take->HP,getElem?_append_right->Ii,getElem?_replicate->Lo,getElem?_append_left->GK,getElem?_map->FP,getElem?_take_of_lt->Lp,mem_of_getElem?->Gj,length_append->Gb,length_replicate->NP,size_toArray->Go,length_set->GD,reverse_cons->Lu,replicate_succ->Iz,flatten_cons->IT,foldl->Lv,append_assoc->ME,foldl_cons->NW,length_singleton->GA,length_dropLast->NY,map_nil->MJ,lookup_cons->IB,forIn_cons->KN,all_eq_true->GR,mem_singleton->Gf,length_range->GS,getElem?_range->Hv,drop_eq_getElem_cons->KS,drop_length->MR,getElem?_eq_getElem->FU,any_cons->HW,getD->HX,mem_iff_getElem->GE,getElem_mem->GF,mem_map->FX,length_eq_zero_iff->HL,find?_cons->Hj,filter_cons->Ko,length_filter_le->LF,nodup_nil->MT,findIdx?_eq_some_iff_getElem->Oq,zip_cons_cons->LG,forIn_nil->MV,getD_eq_getElem?_getD->FM,getElem?_set->MZ,mem_erase_of_ne->OI,length_erase_of_mem->OJ,length_pos_of_mem->OK,getElem?_eq_none->M0,nodup_append->G3,cons_append->OL,flatMap_cons->ON,foldl_append->IV,mem_flatMap->LL,dropLast_concat_getLast->LN,getLast?_eq_some_getLast->M2,getElem?_of_mem->Hy,take_add_one->LO,take_zero->OO,ext_getElem?->OP,take_length->HY,range_succ->M3,filter_append->M4,map_map->Hq,map_congr_left->G5,map_append->GO,flatMap_append->OR,take_append_drop->OS,map_const'->OT,nodup_range->LP,getElem?_take->OU,any_map->OW,ext_getElem->IG,idxOf_lt_length_of_mem->O5,getElem_idxOf->O6,getElem_map->Hr,pairwise_iff_getElem->LV,take_append_of_le_length->LW,getElem_take->LX,getElem_zip->O8,prefix_refl->Ks,prefix_append->M8,take_succ_eq_append_getElem->Kt,zipIdx_cons->Pa,zipIdx_nil->Pb,not_mem_nil->IX,idxOf_cons->Nb,mem_iff_getElem?->IY,map_take->Ph,getElem_range->Kv,length_reverse->Nd,take_of_length_le->K5,any_eq_true->IZ,findIdx?_cons->Pr,getElem?_cons_succ->Nh,getElem?_cons_zero->Ni,find?_eq_none->L4,range'->G7,range'_succ->K6,range_eq_range'->Nk,set->L5,findIdx?_eq_none_iff->No,rel_of_pairwise_cons->Pz,map_set->Np,map->L6,map_singleton->PB
open List.Nodup renaming idxOf_getElem->O7
open List.Pairwise renaming filter->Rm
open Nat renaming lt_of_lt_of_le->Gs,lt_irrefl->Gy,ne_of_lt->Gd,le_trans->Ge,le_of_lt->G9,ne_of_gt->Kx,le_refl->FA,zero_le->GI,le_of_eq->HN,lt_succ_self->IR,le_succ->KC,succ_mul->Lw,add_comm->MI,lt_of_le_of_lt->IA,lt_succ_of_lt->KO,succ_ne_self->Oe,lt_trans->GT,mul_comm->IF,not_lt_zero->LM,zero_add->G4,sub_self->OQ,succ_le_succ->M5,strongRecOn->Kr,pos_of_ne_zero->OX,div_lt_of_lt_mul->OY,mod_lt->LR,mul_le_mul_right->K2,mul_add_div->OZ,div_eq_of_lt->O0,mul_add_mod->O1,mod_eq_of_lt->O2,lt_trichotomy->LU,lt_asymm->O3,lt_or_ge->IH,le_antisymm->O4,le_add_right->K3,add_mul->M7,mul_pos->O9,min_eq_left->Pi,mul_le_mul->L3,add_le_add->Pw,div_add_mod->Px
open Ne renaming symm->FH
open Option renaming isSome_iff_exists->NO,map_some->HK,bind_some->FZ,isSome_map->Og,map_eq_some_iff->Hx,bind_eq_some_iff->G6,getD_some->Hz,map_eq_none_iff->Nj,or->Pv
open Option.some renaming inj->GG,injEq->N0
open Prod renaming fst->Gq,snd->HV
open Prod.mk renaming injEq->OM
open PyProof renaming noPylong_small->NE
open PyProof.Rows renaming IsTup->Ip,AllBare->Ia,Call_->Ke,callWith_type1->IQ,envOfC->HJ,callWith_builtin1->Rf,subscriptTail->MD,subscriptTail_builtinR->NQ,IntsAre->KM,boot_enumerate->Od,boot_tuple->HM,boot_isinstance->HA,boot_str->II,boot_all->K7
open PyProof.Rows.IsTup renaming new->Lq
open PySem renaming Str->Fp,Value->Fl,World->FB,Tok->G8,Program->FI,Addr->Fo,Obj->FD,Heap->Fz,sizeLine->Fv,sysModules->HB,tupleKind->I0,Within->L7,mainGlobals->Gv,builtinsNs->L9,bootBuiltins->HZ,Around->FW,Shared->Fq,Env->Gn,Scope->Gp,GenState->Kw,Model->IK,storeName->Mb,Expr->Fu,model->Fx,eval->FJ,isTrue->Kb,Sem->GH,Pos->FG,backTo->GJ,starEach->FK,Stmt->FC,wpAny_mono->Hf,wpAny_Name->Mc,wpAny_loadName_local->Nt,wpAny_loadName_cell->Nu,CmpOp->Kc,compareOp->Gz,behindInMarks->IL,wpAny_isTrue_Compare1->Nw,wpAny_truthy_bool->IM,standAt->Kd,holding->HE,wpAny_execs_nil->K9,wpAny_execs_cons->Ny,swapsWith->GP,assign->Ht,assignEach->GQ,setItem->La,wpAny_assign_Name->NA,wpAny_bind->Ft,wpAny_holding->HF,wpAny_standAt->Lb,swapsWithSole->Md,swappedStores->Me,PassesOwn->Lc,wpAny_passesOwn->IN,pyNext->Hu,letOwnedTupleGo->Ld,wpAny_pure->FS,rawInt->Ib,wpAny_pyNext_list_item->Mg,wpAny_pyNext_list_end->Mh,wpAny_pyIter_list->Ky,wpAny_pyIter_tuple->IP,foldedSetIterable->Ir,again->Kz,binaryOp->GW,rule->Iu,intBits_le_64->NC,sizeLine_eq->HG,getMethod->Lg,Result->Li,attributeBase->Kg,recursionLimit->NK,cLine->Gi,FuncData->Ga,BindsTo->Kh,codeAny_mono->Lk,wpAny_Call_Name_kw->Ll,backToKw->Lm,keywordEach->Ln,Keyword->KD,NameKind->Ih,bindL->Ix,bindC->Iy,cellsFrom->Ms,mem_of_lookup->KF,concat_meets->Mw,noFill_tuple_add->Mx,seq_tuple_add->My,seqIndex_of->MC,subscripted->KG,getItem->KH,typeIs_int->KL,wpAny_Call_method0_late->NT,evalArgs_none->NU,call_meets->Ij,Params->Lx,callerA->IU,call->ML,comprehension->N1,wpAny_newObj_type->KP,wpAny_callSpecial?_slot->Kj,wpAny_call_entry->Kk,field->HR,wpAny_field->Hh,wpAny_seqItems->Ik,wpAny_setField->N4,wpAny_rule->Lz,firstArgMember->N7,Meets->Kl,Builtin->HU,IsEnum->LA,wpAny_pyNext_enum_itemD->N9,wpAny_letOwnedTupleGo_enum->Oa,wpAny_attempt->KQ,wpAny_isInstance->KR,isSubtype_stop->MQ,wpAny_pyIter_enum->LC,PyData->Hw,ReadsAll->Km,Reads->Kn,valueAt->IE,stored->LD,atKey->Io,tupleKind_room_in1->MS,typeLookup->Kp,getitemInPython_of_ne->Oi,wpAny_specialOf->KU,letTemporaryGo->Oj,wpAny_operating->Ol,wpAny_letTemporaryGo->Om,seqSlot_of->Ov,wpAny_binaryOp_repeat_ref->Ow,typeLookup_type->MW,builtinLookup_eq_fast->MX,sub_AttributeError->OD,getattributeRaised->OE,codeAny_builtin->KY,wpAny_typeOf->LK,plainId_quiet->K0,callType_codes->OF,ZipApart->K4,IsZip->GY,IsPair->GB,wpAny_setField_rec->Ku,wpAny_onRaise->LZ,wpAny_updateSeq_pair->M9,wpAny_letGo->Na,wpAny_pyIter_zip->Pg,boot_len->Gg
open PySem.Around renaming under->Mm,under_plainId->KZ
open PySem.AutoSeq1 renaming idx_int->Os
open PySem.Builtin.Dict renaming pairItems->Ri,selfAndRest->Rj,updateFrom->OG
open PySem.Builtin.List renaming listTooLong->MF,listSameRef->Pk,listExtendWith->Pl,listLengthHint->Rk
open PySem.Builtin.Range renaming rangeSize->PL
open PySem.Builtin.SmallTypes renaming nextOf->IC,ownedTupleIsFree->LY,ownedTupleHandOut->Pc
open PySem.Builtin.Tuple renaming tupleCompareSizes->Rh,tupleTooMany->Ot,tupleExact->Pn
open PySem.Calls renaming Name_function_global->Nv,spliced_nil->Mo,spliced_cons->Mp,callWith_builtin->Lr,evalArgs_plain->NV
open PySem.Code renaming frames->NL,isFrame->Mn
open PySem.EqMixed renaming eq_bool_str->PU,eq_int_str->PX,eq_str_bool->PZ,eq_str_int->P0,ne_bool_str->P6,ne_int_str->P8,ne_str_bool->Ra,ne_str_int->Rb
open PySem.EqNone renaming eq_none_none->PN,eq_none_bool->PO,eq_none_int->PP,eq_none_str->PQ,eq_bool_none->PR,eq_int_none->PV,eq_str_none->PY,ne_none_none->P1,ne_none_bool->P2,ne_none_int->P3,ne_none_str->P4,ne_bool_none->P5,ne_int_none->P7,ne_str_none->P9
open PySem.F renaming slot_tuple_add->Mz,entry_tuple_add->MA,args_tuple_add_2->MB,slot_list_append->GM,slot_list_extend->MG,slot_list_pop->NX,slot_tuple_iterator_next->Ly,entry_tuple_iterator_next->N2,args_tuple_iterator_next_1->N3,args_object_init_2->N8,slot_enumerate_next->LB,entry_enumerate_next->Ob,args_enumerate_next_1->Oc,slot_dict_pop->Oh,slot_dict_getitem->On,plainAttrs_dict->Op,slot_list_index->MU,slot_tuple_mul->LI,slot_tuple_rmul->Ou,fills_int_mul->Ox,slot_int_rmul->LJ,slot_int_index->Oy,entry_int_rmul->Oz,args_int_rmul_2->OA,entry_tuple_mul->OB,args_tuple_mul_2->OC,slot_list_getattribute->MY,slot_dict_items->OH,slot_zip_next->L0,entry_zip_next->Pd,args_zip_next_1->Pe,plain_list_iadd->Pj,plain_tuple_new->Pm,called_tuple->Nc,plainAttrs_list->GC,type_list_append->GU,type_list_extend->PD,type_list_index->PH
open PySem.Heap renaming lt_size->FV,SameBut->Ka,get?_push_of_some->FQ,get?_push_size->Gr,size_push->HH,get?_update_self->NR,get?_update_other->NS,ExtBut->MN,IsTuple->MO
open PySem.Heap.DictOf renaming new->Oo
open PySem.Heap.SameBut renaming update->N5,refl->Rl
open PySem.Obj renaming mapSeq->KJ,data_mapFields->N6
open PySem.PassesOwn renaming never->Gw
open PySem.PyData renaming strOk->Hn,canLay0->Ho,canLayAll0->Im,eqv->F8,depth->IW,depthAll->LQ,eqvAll->Kq
open PySem.SeqAt renaming shaped->Gm,canLay_of_shaped->Hi,in_tupleAt->Of
open PySem.SeqAt.EqAt renaming int_str->PJ,str_int->PK
open PySem.SeqAt.Reads renaming unique->Rg
open PySem.Shared renaming heap->MP
open PySem.Str renaming empty->Ml,ofString->HQ
open PySem.Value renaming isInt->Nq,isStrOf->Nr
open PySem.W renaming instObj->Iq,methodObj->L8,Frag->Fs,lookIn->Le,plainGet->Kf,hasDictIn->KB,findIn->Hg,handedIn->NG,plainGet_of->Mi,isFn->Lf,plainOver->Lh,takerIn->Mj,makesIn->Lj,emptyDict->Ic,keepIn->Ig,kitOne->NH,kia_one->HI,kitx_list->NI,kitx_dict->NJ,callWith_K->Mq,methodCall_KW->NM,cellsFrom_some->NN,fnOf->IS,codeIn->Mu,OpenLaw->Ki,WalkO->MK,nsIn->Hk,mg_of->FN,mg_none_of->Hl
open PySem.W.Looks renaming here->Rc
open PySem.W.WShape renaming has->NZ
open PySem.Within renaming cons->Re
noncomputable section
set_option Elab.async false
set_option linter.all false
set_option maxRecDepth 100000
set_option maxHeartbeats 4000000
namespace L2
open PySem PySem.Spec PyProof.Rows
abbrev Key:=Sum Int Fp
def Wa:Key->Fl->Bool
 | .inl k,v=>Nq k v
 | .inr x,v=>Nr x v
def Dm(w:FB):Key->Int
 | .inl k=>hashInt k
 | .inr x=>hashStr w x
theorem xq:∀{k:Key} {v:Fl},Wa k v=true->(∃i t,k=Sum.inl i/\v=Value.int i t)\/(∃x t,k=Sum.inr x/\v=Value.str x t)
 | .inl i,v,h=>by
  obtain⟨t,e⟩:=Value.isInt_shape (k:=i) (v:=v) h
  exact .inl ⟨i,t,rfl,e⟩
 | .inr x,v,h=>by
  obtain⟨t,e⟩:=Value.isStrOf_shape (x:=x) (v:=v) h
  exact .inr ⟨x,t,rfl,e⟩
def lE(i:Int)(t:G8):Wa (.inl i) (.int i t)=true:=by simp[Wa,Nq]
def lF(x:Fp)(t:G8):Wa (.inr x) (.str x t)=true:=by simp[Wa,Nr]
def tL(a b:Int):decide ((Sum.inl a:Key)=Sum.inl b)=(a==b):=by
 by_cases e:a=b
 ·subst e;simp
 ·have h:¬(Sum.inl a:Key)=Sum.inl b:=λq=>e (Sum.inl.inj q)
  rw[decide_eq_false h]
  exact(beq_eq_false_iff_ne.mpr e).symm
def tM(a b:Fp):decide ((Sum.inr a:Key)=Sum.inr b)=decide (a=b):=by
 by_cases e:a=b
 ·subst e;simp
 ·have h:¬(Sum.inr a:Key)=Sum.inr b:=λq=>e (Sum.inr.inj q)
  rw[decide_eq_false h,decide_eq_false e]
def tN(a:Int)(b:Fp):decide ((Sum.inl a:Key)=Sum.inr b)=false:=decide_eq_false (λq=>nomatch q)
def tO(a:Fp)(b:Int):decide ((Sum.inr a:Key)=Sum.inl b)=false:=decide_eq_false (λq=>nomatch q)
def yc(prog:FI)(w:FB):PySem.KeyKind prog w Key where
 is:=Wa
 hash:=Dm w
 inj:=λv a b ha hb=>by
  rcases xq ha with⟨i,t,rfl,rfl⟩|⟨x,t,rfl,rfl⟩
  ·rcases xq hb with⟨j,u,rfl,e⟩|⟨y,u,rfl,e⟩
   ·injection e with e1 _;rw[e1]
   ·exact nomatch e
  ·rcases xq hb with⟨j,u,rfl,e⟩|⟨y,u,rfl,e⟩
   ·exact nomatch e
   ·injection e with e1 _;rw[e1]
 byValue:=λk v h=>by
  rcases xq h with⟨i,t,rfl,rfl⟩|⟨x,t,rfl,rfl⟩ <;>rfl
 pyHash:=λhv h=>by
  rcases xq hv with⟨i,t,rfl,rfl⟩|⟨x,t,rfl,rfl⟩
  ·exact wpAny_pyHash_int h
  ·exact wpAny_pyHash_str h
 eqBool:=λhu hv h=>by
  rcases xq hu with⟨i,t,rfl,rfl⟩|⟨x,t,rfl,rfl⟩
  ·rcases xq hv with⟨j,u,rfl,rfl⟩|⟨y,u,rfl,rfl⟩
   ·rw[tL]at h;exact wpAny_eqBool_int h
   ·rw[tN]at h;exact PJ i t y u _ _ _ _ h
  ·rcases xq hv with⟨j,u,rfl,rfl⟩|⟨y,u,rfl,rfl⟩
   ·rw[tO]at h;exact PK x t j u _ _ _ _ h
   ·rw[tM]at h;exact wpAny_eqBool_str h
 «strs»:=λk x t v h=>by
  rcases xq h with⟨i,u,rfl,e⟩|⟨y,u,rfl,e⟩
  ·exact nomatch e
  ·injection e with e1 _
   subst e1
   cases v <;>rfl
def eC(prog:FI)(w:FB)(i:Int)(t:G8):(yc prog w).is (.inl i) (.int i t)=true:=lE i t
def eD(prog:FI)(w:FB)(x:Fp)(t:G8):(yc prog w).is (.inr x) (.str x t)=true:=lF x t
end L2
namespace L2
open PySem PySem.Spec PyProof.Rows
inductive V where
 | non|bl (b:Bool)|int (i:Int)|str (x:Fp)|byt (b:Array UInt8)|flt (b:UInt64)|ref (a:Fo)|ty (n:String)
 deriving DecidableEq
def zI:V->Fl->Prop
 | .non,u=>u=Value.none
 | .bl b,u=>u=Value.bool b
 | .int i,u=>∃t,u=Value.int i t
 | .str x,u=>∃t,u=Value.str x t
 | .byt b,u=>∃t,u=Value.bytes b t
 | .flt b,u=>∃t,u=Value.float b t
 | .ref a,u=>u=Value.ref a
 | .ty n,u=>u=Value.type n
abbrev zC:List V->List Fl->Prop:=Paired zI
def zC.length(r:zC xs us):xs.length=us.length:=Paired.length r
theorem zC.get:∀{xs:List V} {us:List Fl} {i:Nat} {x:V},zC xs us->xs[i]?=some x->∃u,us[i]?=some u/\zI x u
 | _,_,_,_,.nil,e=>by simp at e
 | _,_,0,_,.cons r _,e=>by simp at e;subst e;exact⟨_,rfl,r⟩
 | _,_,i+1,x,.cons _ t,e=>by
  obtain⟨u,h1,h2⟩:=zC.get (i:=i) (x:=x) t (by simpa using e)
  exact⟨u,by simpa using h1,h2⟩
theorem zC.set(r:zI x u):∀{xs:List V} {us:List Fl} (i:Nat),zC xs us->zC (xs.set i x) (us.set i u)
 | _,_,_,.nil=>.nil
 | _,_,0,.cons _ t=>.cons r t
 | _,_,i+1,.cons q t=>.cons q (zC.set r i t)
theorem zC.append:∀{xs ys:List V} {us ws:List Fl},zC xs us->zC ys ws->zC (xs++ys) (us++ws)
 | _,_,_,_,.nil,s=>s
 | _,_,_,_,.cons r t,s=>.cons r (zC.append t s)
def vb:Option V->Option Fl->Prop
 | some v,some u=>zI v u
 | none,none=>True
 | _,_=>False
def KV{κ:Type}:List (κ×V)->List (κ×Fl)->Prop:=Paired λ(p:κ×V) (q:κ×Fl)=>p.1=q.1/\zI p.2 q.2
def kV:Key->V
 | .inl i=>.int i
 | .inr x=>.str x
inductive HO where
 | lst (xs:List V)
 | tup (xs:List V)
 | dK (kvs:List (Key×V))|dT (kvs:List (List Key×V))
 | set (S:Int->Bool) (n:Nat)
 | ins (C dx:Fo) (fs:List (Fp×V))
 | own (x:Fo)
 | xd (fs:List (Fp×V))
 | met (f x:Fo)
 | rng (lo hi:Int)
 | frz (o:FD) (u:HO)
 | tbl (ps:Array Fl)
 | ext (φ:Fz->Prop)
abbrev Hp:=Fo->Option HO
def upd(H:Hp)(a:Fo)(o:HO):Hp:=λb=>if b=a then some o else H b
def zj:upd H a o a=some o:=by unfold upd;rw[if_pos rfl]
def zd(h:b≠a):upd H a o b=H b:=by unfold upd;rw[if_neg h]
def rE:upd (upd H a o) a u=upd H a u:=by
 funext b;unfold upd;split <;>rfl
def vX{H:Hp}{a b:Fo}{o u:HO}(h:H a=some o)(h':H b=some u)(d:o≠u):a≠b:=by
 intro e;subst e;rw[h]at h';exact d (GG h')
def zn{H:Hp}{a b:Fo}{o:HO}(h:H a=some o)(h':H b=none):a≠b:=by
 intro e;subst e;rw[h]at h';cases h'
section
variable (P:FI) (w:FB)
def yB(H:Hp)(h:Fz)(a:Fo):HO->Prop
 | .lst xs=>xs.length<=Fv/\∃(its:List Fl) (n:Nat),zC xs its/\h.get? a=some {cls:=.type "list",data:=.seq its.toArray n}
 | .tup xs=>xs.length<=Fv/\∃its:List Fl,zC xs its/\Ip h a its.toArray
 | .dK kvs=>kvs.length<=Fv/\(a==HB)=false/\∃vs,KV kvs vs/\h.DictOf (yc P w) a vs
 | .dT kvs=>kvs.length<=Fv/\(a==HB)=false/\∃xs:List (List Key×Fo×Fl),
  Paired (λ(p:List Key×V) (q:List Key×Fo×Fl)=>p.1=q.1/\H q.2.1=some (.tup (p.1.map kV))/\zI p.2 q.2.2) kvs xs/\
  ∃o es ep,h.get? a=some o/\o.ExactDict/\o.data=.dict es ep/\es.toList=xs.map (entryOfKey (I0 (yc P w)))/\(xs.map (·.1)).Nodup
 | .set S n=>h.SetOf (intKind P w) a S n
 | .ins C dx fs=>H dx=some (.own a)/\fs.length<=1000/\dx≠a/\h.get? a=some (Iq C dx)/\
  ∃mA,h.Ns1 dx mA/\(∀f,vb (fs.lookup f) (mA f))/\L7 mA (fs.map (·.1))
 | .own _=>∃o,h.get? a=some o
 | .xd fs=>∃mA,h.Ns1 a mA/\∀f,vb (fs.lookup f) (mA f)
 | .rng lo hi=>∃t u v,h.get? a=some {cls:=.type "range",data:=.fields #[.int lo t,.int hi u,.int 1 v]}
 | .frz o u=>h.get? a=some o/\yB H h a u
 | .tbl ps=>h.get? a=some {cls:=.none,data:=.fields ps}
 | .met f x=>h.get? a=some (L8 (.ref f) (.ref x))
 | .ext φ=>φ h/\(∃o,h.get? a=some o)/\∀h1 h2:Fz,φ h1->(∀o,h1.get? a=some o->h2.get? a=some o)->φ h2
def HOk(H:Hp)(h:Fz):Prop:=∀a o,H a=some o->yB P w H h a o
end
section
variable {P:FI} {w:FB} {H H':Hp} {h h':Fz} {a:Fo} {o:HO}
def yB.lt(x:yB P w H h a o):a<h.objs.size:=by
 cases o with
 | lst xs=>obtain⟨_,_,_,_,e⟩:=x;exact FV e
 | tup xs=>obtain⟨_,_,_,p⟩:=x;exact p.lt
 | dK kvs=>obtain⟨_,_,_,_,o,_,_,e,_⟩:=x;exact FV e
 | dT kvs=>obtain⟨_,_,_,_,o,_,_,e,_⟩:=x;exact FV e
 | set S n=>obtain⟨o,_,_,_,e,_⟩:=x;exact FV e
 | ins C dx fs=>obtain⟨_,_,_,e,_⟩:=x;exact FV e
 | own y=>obtain⟨_,e⟩:=x;exact FV e
 | xd fs=>obtain⟨_,⟨_,_,_,e,_⟩,_⟩:=x;exact FV e
 | rng lo hi=>obtain⟨_,_,_,e⟩:=x;exact FV e
 | frz j u=>obtain⟨e,_⟩:=x;exact FV e
 | tbl ps=>exact FV (show h.get? a=some _ from x)
 | met f y=>exact FV (show h.get? a=some _ from x)
 | ext φ=>obtain⟨_,⟨_,e⟩,_⟩:=x;exact FV e
theorem Paired.mapP{α z:Type}{F G:α->z->Prop}:∀{l₁:List α} {j:List z},Paired F l₁ j->(∀a b,F a b->G a b)->Paired G l₁ j
 | _,_,.nil,_=>.nil
 | _,_,.cons r t,f=>.cons (f _ _ r) (Paired.mapP t f)
def yB.stay(x:yB P w H h a o)(k:∀b u,(b=a\/H b=some (.own a))->h.get? b=some u->h'.get? b=some u) 
  (O:∀b,H b=some (.own a)->H' b=some (.own a)) (U:∀b xs,H b=some (.tup xs)->H' b=some (.tup xs)):yB P w H' h' a o:=by
 induction o with
 | lst xs=>obtain⟨z,its,n,r,e⟩:=x;exact⟨z,its,n,r,k _ _ (.inl rfl) e⟩
 | tup xs=>obtain⟨z,its,r,j,e,c⟩:=x;exact⟨z,its,r,j,k _ _ (.inl rfl) e,c⟩
 | dK kvs=>obtain⟨z,y,vs,r,j,es,ep,e,c⟩:=x;exact⟨z,y,vs,r,j,es,ep,k _ _ (.inl rfl) e,c⟩
 | dT kvs=>
  obtain⟨z,y,xs,r,j,es,ep,e,c⟩:=x
  exact⟨z,y,xs,Paired.mapP r λp q z=>⟨z.1,U _ _ z.2.1,z.2.2⟩,j,es,ep,k _ _ (.inl rfl) e,c⟩
 | set S n=>obtain⟨j,es,ep,t,e,c⟩:=x;exact⟨j,es,ep,t,k _ _ (.inl rfl) e,c⟩
 | ins C dx fs=>
  obtain⟨d,z,ne,e,mA,⟨J,es,ep,Y,c⟩,r⟩:=x
  exact⟨O _ d,z,ne,k _ _ (.inl rfl) e,mA,⟨J,es,ep,k _ _ (.inr d) Y,c⟩,r⟩
 | own y=>obtain⟨j,e⟩:=x;exact⟨j,k _ _ (.inl rfl) e⟩
 | xd fs=>obtain⟨mA,⟨J,es,ep,e,c⟩,r⟩:=x;exact⟨mA,⟨J,es,ep,k _ _ (.inl rfl) e,c⟩,r⟩
 | rng lo hi=>obtain⟨t,u,v,e⟩:=x;exact⟨t,u,v,k _ _ (.inl rfl) e⟩
 | frz j u Z=>obtain⟨e,q⟩:=x;exact⟨k _ _ (.inl rfl) e,Z q⟩
 | tbl ps=>
  have e:h.get? a=some {cls:=.none,data:=.fields ps}:=x
  show h'.get? a=some {cls:=.none,data:=.fields ps}
  exact k a _ (.inl rfl) e
 | met f y=>
  have e:h.get? a=some (L8 (.ref f) (.ref y)):=x
  show h'.get? a=some (L8 (.ref f) (.ref y))
  exact k a _ (.inl rfl) e
 | ext φ=>obtain⟨p,⟨o,e⟩,st⟩:=x;exact⟨st _ _ p λo q=>k _ _ (.inl rfl) q,⟨o,k _ _ (.inl rfl) e⟩,st⟩
def HOk.lt(x:HOk P w H h)(e:H a=some o):a<h.objs.size:=(x a o e).lt
def HOk.fresh(x:HOk P w H h)(e:h.objs.size<=a):H a=none:=by
 cases q:H a with
 | none=>rfl
 | some u=>exact absurd (Gs (x.lt q) e) (Gy _)
def HOk.kept(x:HOk P w H h)(k:∀b u,h.get? b=some u->h'.get? b=some u):HOk P w H h':=λa o e=>
 (x a o e).stay (λb u _ q=>k b u q) (λ_ q=>q) λ_ _ q=>q
def HOk.laid(x:HOk P w H h)(k:∀b u,h.get? b=some u->h'.get? b=some u)(z:h.objs.size<=a)(new:yB P w (upd H a o) h' a o):HOk P w (upd H a o) h':=λb u e=>by
 have hn:=x.fresh z
 by_cases j:b=a
 ·subst j;rw[zj]at e;cases e;exact new
 ·rw[zd j]at e
  exact(x b u e).stay (λc v _ q=>k c v q) (λc q=>by rw[zd (zn q hn)];exact q) λc xs q=>by rw[zd (zn q hn)];exact q
end
def Rd(H:Hp)(a:Fo)(u:HO):Prop:=H a=some u\/∃o,H a=some (.frz o u)
def Rd.ok(r:Rd H a u)(x:HOk P w H h):yB P w H h a u:=by
 rcases r with r|⟨o,r⟩
 ·exact x a u r
 ·obtain⟨_,q⟩:=x a _ r
  exact q
def Mut:Option HO->Prop
 | some (.lst _)=>True
 | some (.dK _)=>True
 | some (.dT _)=>True
 | some (.set _ _)=>True
 | some (.ins _ _ _)=>True
 | some (.ext _)=>True
 | _=>False
section
variable {P:FI} {w:FB} {H:Hp} {h h':Fz} {x e:Fo} {o':HO}
def HOk.write(ok:HOk P w H h)(U:Mut (H x))(he:e=x\/H e=some (.own x))(k:∀b u,b≠e->h.get? b=some u->h'.get? b=some u)(aa:∃u,h'.get? e=some u) 
  (new:yB P w (upd H x o') h' x o'):HOk P w (upd H x o') h':=λb u q=>by
 have J:∀c y,H c=some (.own y)->c≠x:=λc y r z=>by subst z;rw[r]at U;exact U
 have O:∀c xs,H c=some (.tup xs)->c≠x:=λc xs r z=>by subst z;rw[r]at U;exact U
 by_cases Y:b=x
 ·subst Y;rw[zj]at q;cases q;exact new
 ·rw[zd Y]at q
  by_cases j:b=e
  ·have q':H b=some (.own x):=by
    rcases he with z|z
    ·exact absurd (j.trans z) Y
    ·rw[j];exact z
   rw[q]at q';cases q'
   obtain⟨v,hv⟩:=aa
   exact⟨v,by rw[j];exact hv⟩
  ·refine(ok b u q).stay (λc v Z r=>k c v ?_ r) (λc r=>by rw[zd (J c b r)];exact r) λc xs r=>by rw[zd (O c xs r)];exact r
   rcases Z with rfl|Z
   ·exact j
   ·rintro rfl
    rcases he with z|z
    ·exact J c b Z z
    ·rw[Z]at z;cases z;exact Y rfl
end
structure Un (fs ex:List Fo) (H H':Hp) (h h':Fz):Prop where
 keep:∀b o,h.get? b=some o->H b=none->b∉fs->b∉ex->h'.get? b=some o
 slot:∀b o,h.get? b=some o->H b=none->b∈fs->b∉ex->∃sl,h'.get? b=some {o with slots:=sl}
 free:∀b o,h.get? b=some o->H b=none->b∉ex->H' b=none
 there:∀b o,h.get? b=some o->b∉ex->∃o',h'.get? b=some o'
 tups:∀b xs,H b=some (.tup xs)->H' b=some (.tup xs)
 frzs:∀b o u,H b=some (.frz o u)->H' b=some (.frz o u)
 tbls:∀b ps,H b=some (.tbl ps)->∃more,H' b=some (.tbl (ps++more))
section
variable {fs fs' ex ex':List Fo} {H H1 H2:Hp} {h h1 h2 h':Fz} {a x e:Fo} {o:HO}
def Un.any(u:Un fs ex H H1 h h1)(q:h.get? b=some j)(n:H b=none)(z:b∉ex):∃O,h1.get? b=some {j with slots:=O}:=by
 by_cases J:b∈fs
 ·exact u.slot b j q n J z
 ·exact⟨j.slots,u.keep b j q n J z⟩
def Un.kept(k:∀b u,h.get? b=some u->h'.get? b=some u):Un fs ex H H h h' :=
 ⟨λb j q _ _ _=>k b j q,λb j q _ _ _=>⟨j.slots,k b j q⟩,λ_ _ _ n _=>n,λb j q _=>⟨j,k b j q⟩,λ_ _ q=>q,λ_ _ _ q=>q,λ_ ps q=>⟨#[],by rw[q];simp⟩⟩
def Un.refl:Un fs ex H H h h:=Un.kept λ_ _ q=>q
def Un.laid(k:∀b u,h.get? b=some u->h'.get? b=some u)(hp:h.objs.size<=a)(hn:H a=none):Un fs ex H (upd H a o) h h' where
 keep:=λb u q _ _ _=>k b u q
 slot:=λb u q _ _ _=>⟨u.slots,k b u q⟩
 free:=λb u q n _=>by rw[zd (Gd (Gs (FV q) hp))];exact n
 there:=λb u q _=>⟨u,k b u q⟩
 tups:=λb xs q=>by rw[zd (zn q hn)];exact q
 frzs:=λb u xs q=>by rw[zd (zn q hn)];exact q
 tbls:=λb ps q=>⟨#[],by rw[zd (zn q hn),q];simp⟩
def Un.write(J:Mut (H x))(he:e=x\/H e=some (.own x))(k:∀b u,b≠e->h.get? b=some u->h'.get? b=some u)(O:∃u,h'.get? e=some u):Un fs ex H (upd H x o) h h':=by
 have Y:∀b,H b=none->b≠x:=λb n z=>by subst z;rw[n]at J;exact J
 have Z:∀b,H b=none->b≠e:=λb n z=>by
  subst z
  rcases he with r|r
  ·exact Y b n r
  ·rw[n]at r;cases r
 have U:∀b u,H b=some u->¬Mut (some u)->b≠x:=λb u q nm z=>by subst z;rw[q]at J;exact nm J
 refine⟨λb u q n _ _=>k b u (Z b n) q,λb u q n _ _=>⟨u.slots,k b u (Z b n) q⟩,λb u q n _=>by rw[zd (Y b n)];exact n,λb u q _=>?_,
  λb xs q=>by rw[zd (U b _ q λz=>z)];exact q,λb u xs q=>by rw[zd (U b _ q λz=>z)];exact q,λb ps q=>⟨#[],by rw[zd (U b _ q λz=>z),q];simp⟩⟩
 by_cases j:b=e
 ·subst j;exact O
 ·exact⟨u,k b u j q⟩
end
def trk(h:Fz)(H:Hp):List Fo:=(Fy h.objs.size).filter λa=>(H a).isSome
def YM(h:Fz)(H:Hp):Fz:=PySem.W.hideAll h (trk h H)
def lG(h:Fz)(H:Hp):(YM h H).objs.size=h.objs.size:=PySem.W.hideAll_size _ _
def nK(e:h.get? b=some o)(n:H b=none):(YM h H).get? b=some o :=
 PySem.W.hideAll_get _ e λj=>by
  have q:(H b).isSome=true:=(HC.mp j).2
  rw[n]at q;simp at q
def rF(e:(YM h H).get? b=some o):h.get? b=some o/\H b=none:=by
 have j:h.get? b=some o:=PySem.W.of_hideAll (trk h H) e
 refine⟨j,?_⟩
 cases q:H b with
 | none=>rfl
 | some x=>
  have J:b∈trk h H:=HC.mpr ⟨Gh.mpr (FV j),by simp[q]⟩
  have z:(YM h H).get? b=none:=PySem.W.hideAll_none (trk h H) J
  rw[z]at e;cases e
end L2
namespace L2
open PySem PySem.Spec PyProof.Rows
structure Mod (K:Fs) (mg:Fp->Option Fl) (base:Fz):Prop where
 kin:K.In base
 glob:base.Ns Gv mg
 blt:∃mb,base.Ns L9 mb/\∀x:Fp,x≠"__name__"->mb x=HZ x
 nolimit:base.NoLimit
structure Cx where
 prog:FI
 w:FB
 K:Fs
 mg:Fp->Option Fl
 base:Fz
 A:FW
 N:List Fp
 s₀:Fq
 H₀:Hp
 env:Gn
 outer:List Gn
 stack:List Gn
 ex:List Fo
 fn:Fp->Bool
 calm:Bool
 pn:List (Fo×FD)
 xe:Fl->Fq->Prop
def frs(l:List Gn):List Fo:=l.filterMap (·.frame)
abbrev Cx.fs(X:Cx):List Fo:=frs X.outer
def Vis(j:Gp)(x:Fp):Prop:=j.names.lookup x=some .local\/j.names.lookup x=some .cell\/j.names.lookup x=some .free
def Loc(j:Gp)(x:Fp):Prop:=j.names.lookup x=some .local\/j.names.lookup x=some .cell
def Do(env:Gn)(h:Fz)(m:Fp->Option Fl)(x:Fp)(u:Fl):Prop :=
 (env.kindOf x=some .local/\m x=some u)\/((env.kindOf x=some .cell\/env.kindOf x=some .free)/\∃c,env.cells.lookup x=some c/\h.IsCell c (some u))
structure Cx.Ok (X:Cx):Prop where
 mod:Mod X.K X.mg X.base
 kind:X.env.scope.kind=.function
 glob:X.env.globals=Gv
 blt:X.env.builtins=L9
 above:X.s₀.heap.objs.size<=X.env.locals
 inj:∀x y c,X.env.cells.lookup x=some c->X.env.cells.lookup y=some c->x=y
 has:∀x,(X.env.kindOf x=some .cell\/X.env.kindOf x=some .free)->∃c,X.env.cells.lookup x=some c
 cab:∀x c,X.fn x=true->X.env.cells.lookup x=some c->X.s₀.heap.objs.size<=c
 hd:X.calm=true->X.A.handled=none
 frames:X.A.frames=some X.stack
 stk:X.stack=X.outer\/(X.stack=X.env::X.outer/\X.env.frame=some X.env.locals)
 exf:∀b∈X.ex,b≠X.env.locals/\∀x c,X.env.cells.lookup x=some c->c≠b
 bs:∀b o,X.base.get? b=some o->X.s₀.heap.get? b=some o/\X.H₀ b=none
 bsz:X.base.objs.size<=X.s₀.heap.objs.size
 noex:∀b o,X.base.get? b=some o->b∉X.ex
 exfs:∀b∈X.ex,b∉X.fs
 funs:X.s₀.heap.FunFrames X.base X.outer
 frf:∀b∈X.fs,X.H₀ b=none
structure Inv (X:Cx) (pins:List (Fo×FD)) (σ:List (Option V)) (H:Hp) (s:Fq):Prop where
 ok:X.Ok
 os:s.os=X.s₀.os
 bare:Ia s.gens
 base:Un X.fs X.ex X.H₀ H X.s₀.heap s.heap
 loc:∃m,s.heap.Ns X.env.locals m/\∀(i:Nat) (x:Fp) (v:V),X.N[i]?=some x->σ[i]?=some (some v)->Vis X.env.scope x->∃u,zI v u/\Do X.env s.heap m x u
 cell:∀x c,X.env.cells.lookup x=some c->∃v,s.heap.IsCell c v
 free:H X.env.locals=none
 freeC:∀x c,X.env.cells.lookup x=some c->H c=none
 pin:∀p∈X.pn++pins,s.heap.get? p.1=some p.2/\H p.1=none/\p.1≠X.env.locals/\p.1∉X.fs/\∀v,p.2.data≠.cell v
 hok:HOk X.prog X.w H s.heap
 len:σ.length=X.N.length
section
variable {X:Cx} {pins:List (Fo×FD)} {σ:List (Option V)} {H H':Hp} {s:Fq} {h':Fz}
def Cx.Ok.nofr(ok:X.Ok)(e:X.base.get? b=some o):b∉X.fs:=λj=>by
 have:=(ok.funs.mem j).1
 rw[e]at this;cases this
def Inv.bs(I:Inv X pins σ H s):∀b o,X.base.get? b=some o->s.heap.get? b=some o/\H b=none:=λb o e=>
 ⟨I.base.keep b o (I.ok.bs b o e).1 (I.ok.bs b o e).2 (I.ok.nofr e) (I.ok.noex b o e),I.base.free b o (I.ok.bs b o e).1 (I.ok.bs b o e).2 (I.ok.noex b o e)⟩
def Inv.bk(I:Inv X pins σ H s):∀b o,X.base.get? b=some o->s.heap.get? b=some o:=λb o e=>(I.bs b o e).1
def Inv.mod(I:Inv X pins σ H s):Mod X.K X.mg X.base:=I.ok.mod
def Inv.kIn(I:Inv X pins σ H s):X.K.In s.heap:=I.ok.mod.kin.keeps I.bk
def Inv.lt(I:Inv X pins σ H s):X.env.locals<s.heap.objs.size:=(by obtain⟨_,hn,_⟩:=I.loc;exact hn.lt)
def Inv.sz(I:Inv X pins σ H s):X.s₀.heap.objs.size<=s.heap.objs.size:=Ge I.ok.above (G9 I.lt)
def Inv.nofs(I:Inv X pins σ H s)(h:s.heap.objs.size<=a):a∉X.fs:=λj=>by
 obtain⟨_,o,z,_⟩:=I.ok.funs.mem j
 exact absurd (Gs (FV z) (Ge I.sz h)) (Gy _)
def Inv.cne(I:Inv X pins σ H s):∀x c,X.env.cells.lookup x=some c->c≠X.env.locals:=λx c e z=>by
 obtain⟨v,o,O,U⟩:=I.cell x c e
 obtain⟨m,⟨o',es,ep,j,J,_⟩,_⟩:=I.loc
 rw[z,j]at O;cases O;rw[J]at U;cases U
def Inv.funs(I:Inv X pins σ H s):s.heap.FunFrames X.base X.outer:=by
 have all:∀(l:List Gn),(∀b∈frs l,b∈X.fs)->X.s₀.heap.FunFrames X.base l->s.heap.FunFrames X.base l:=by
  intro l
  induction l with
  | nil=>intro _ _;trivial
  | cons env r Y=>
   intro U Z
   obtain⟨hk,⟨L,o,j,hn,ho,hd⟩,hr⟩:=Z
   have J:L∈X.fs:=U L (by unfold frs;rw[Ma,j];exact F9)
   obtain⟨sl,e⟩:=I.base.slot L o ho (I.ok.frf L J) J λz=>I.ok.exfs L z J
   exact⟨hk,⟨L,_,j,hn,e,hd⟩,Y (λb O=>U b (by unfold frs;rw[Ma,j];exact Gc _ O)) hr⟩
 exact all X.outer (λ_ O=>O) I.ok.funs
def Inv.stack(I:Inv X pins σ H s):s.heap.FunFrames X.base X.stack:=by
 rcases I.ok.stk with e|⟨e,j⟩
 ·rw[e];exact I.funs
 ·rw[e]
  obtain⟨m,hn,_⟩:=I.loc
  refine .cons (by rw[I.ok.kind];decide) j hn ?_ I.funs
  exact Heap.get?_none_of_le (Ge I.ok.bsz I.ok.above)
def Inv.stkSub(I:Inv X pins σ H s):∀b∈frs X.stack,b∈X.env.locals::X.fs:=λb j=>by
 rcases I.ok.stk with e|⟨e,z⟩
 ·rw[e]at j;exact Gc _ j
 ·rw[e]at j
  unfold frs at j
  rw[Ma,z]at j
  exact j
def Inv.stkFree(I:Inv X pins σ H s):∀b∈frs X.stack,H b=none:=λb j=>by
 rcases FL.mp (I.stkSub b j)with e|j
 ·rw[e];exact I.free
 ·obtain⟨_,o,J,_⟩:=I.ok.funs.mem j
  exact I.base.free b o J (I.ok.frf b j) λz=>I.ok.exfs b z j
def Inv.step{g':Array Kw}{t':Nat}{d':Drawn}{ch:List Fo}(I:Inv X pins σ H s) 
  (J:∀b∈ch,(b∈X.ex\/X.s₀.heap.objs.size<=b)/\b≠X.env.locals/\(∀x c,X.env.cells.lookup x=some c->c≠b)/\∀p∈X.pn++pins,p.1≠b)
  (O:∀b o,b≠X.env.locals->b∉X.fs->b∉ch->s.heap.get? b=some o->H b=none->h'.get? b=some o)
  (aa:∀b o,b≠X.env.locals->b∈X.fs->b∉ch->s.heap.get? b=some o->H b=none->∃sl,h'.get? b=some {o with slots:=sl}) (free:∀b o,b∉ch->s.heap.get? b=some o->H b=none->H' b=none)
  (ab:∀b o,b∉ch->s.heap.get? b=some o->∃o',h'.get? b=some o')
  (ac:∀b xs,H b=some (.tup xs)->H' b=some (.tup xs)) (ad:∀b o u,H b=some (.frz o u)->H' b=some (.frz o u)) (ae:∀b ps,H b=some (.tbl ps)->∃af,H' b=some (.tbl (ps++af)))
  (ns:∀m,s.heap.Ns X.env.locals m->h'.Ns X.env.locals m) (ai:HOk X.prog X.w H' h') (hg:Ia g') :
  Inv X pins σ H' {s with heap:=h',gens:=g',drawn:=d',toks:=t'}:=by
 have ag:∀b o,X.s₀.heap.get? b=some o->b≠X.env.locals:=λb o e=>Gd (Gs (FV e) I.ok.above)
 have Z:∀b o,X.s₀.heap.get? b=some o->b∉X.ex->b∉ch:=λb o e j hb=>by
  rcases(J b hb).1 with z|z
  ·exact j z
  ·exact absurd (Gs (FV e) z) (Gy _)
 have U:∀x c,X.env.cells.lookup x=some c->∀v,s.heap.IsCell c v->h'.IsCell c v:=λx c e v ah=>by
  obtain⟨o,ho,hd⟩:=ah
  have Y:c∉ch:=λz=>(J c z).2.2.1 x c e rfl
  by_cases hc:c∈X.fs
  ·obtain⟨sl,q⟩:=aa c o (I.cne x c e) hc Y ho (I.freeC x c e)
   exact⟨_,q,hd⟩
  ·exact⟨o,O c o (I.cne x c e) hc Y ho (I.freeC x c e),hd⟩
 refine⟨I.ok,I.os,hg,⟨λb o e n hb j=>?_,λb o e n hb j=>?_,λb o e n j=>?_,λb o e j=>?_,λb xs e=>ac b xs (I.base.tups b xs e),λb o xs e=>ad b o xs (I.base.frzs b o xs e),λb ps e=>?_⟩,?_,λx c e=>?_,?_,λx c e=>?_,λp hp=>?_,ai,I.len⟩
 ·exact O b o (ag b o e) hb (Z b o e j) (I.base.keep b o e n hb j) (I.base.free b o e n j)
 ·obtain⟨sl,e1⟩:=I.base.slot b o e n hb j
  obtain⟨aj,e2⟩:=aa b _ (ag b o e) hb (Z b o e j) e1 (I.base.free b o e n j)
  exact⟨aj,e2⟩
 ·obtain⟨o',e1⟩:=I.base.there b o e j
  exact free b o' (Z b o e j) e1 (I.base.free b o e n j)
 ·obtain⟨o',e1⟩:=I.base.there b o e j
  exact ab b o' (Z b o e j) e1
 ·obtain⟨m1,e1⟩:=I.base.tbls b ps e
  obtain⟨m2,e2⟩:=ae b _ e1
  exact⟨m1++m2,by rw[e2,Array.append_assoc]⟩
 ·obtain⟨m,hn,hl⟩:=I.loc
  refine⟨m,ns m hn,λi x v e1 e2 e3=>?_⟩
  obtain⟨u,r,l⟩:=hl i x v e1 e2 e3
  refine⟨u,r,?_⟩
  rcases l with l|⟨k,c,e,z⟩
  ·exact .inl l
  ·exact .inr ⟨k,c,e,U x c e _ z⟩
 ·obtain⟨v,z⟩:=I.cell x c e
  exact⟨v,U x c e v z⟩
 ·obtain⟨m,⟨o,_,_,ho,_⟩,_⟩:=I.loc
  exact free _ o (λz=>(J _ z).2.1 rfl) ho I.free
 ·obtain⟨v,o,ho,hd⟩:=I.cell x c e
  exact free c o (λz=>(J c z).2.2.1 x c e rfl) ho (I.freeC x c e)
 ·obtain⟨e,n,ne,nf,d⟩:=I.pin p hp
  have Y:p.1∉ch:=λz=>(J p.1 z).2.2.2 p hp rfl
  exact⟨O p.1 p.2 ne nf Y e n,free p.1 p.2 Y e n,ne,nf,d⟩
def Inv.un(I:Inv X pins σ H s)(u:Un X.fs [] H H' s.heap h')(J:HOk X.prog X.w H' h'):Inv X pins σ H' {s with heap:=h',toks:=t'}:=by
 obtain⟨m,⟨o,es,ep,Z,r⟩,_⟩:=id I.loc
 obtain⟨sl,hL⟩:=u.any Z I.free (by simp)
 exact I.step (g':=s.gens) (d':=s.drawn) (ch:=[]) (λ_ z=>nomatch z) (λb o _ O _ e n=>u.keep b o e n O (by simp)) (λb o _ O _ e n=>u.slot b o e n O (by simp)) (λb o _ e n=>u.free b o e n (by simp)) (λb o _ e=>u.there b o e (by simp)) u.tups u.frzs u.tbls (λm' hm=>by
  obtain⟨o',U,Y,j,r'⟩:=hm
  rw[Z]at j;cases j
  exact⟨_,U,Y,hL,r'⟩) J I.bare
def Inv.call{g':Array Kw}{t':Nat}{d':Drawn}{ch:List Fo}(I:Inv X pins σ H s)(u:Un (frs X.stack) ch H H' s.heap h')(U:HOk X.prog X.w H' h')(hg:Ia g') 
  (J:∀b∈ch,(b∈X.ex\/X.s₀.heap.objs.size<=b)/\b≠X.env.locals/\(∀x c,X.env.cells.lookup x=some c->c≠b)/\∀p∈X.pn++pins,p.1≠b) :
  Inv X pins σ H' {s with heap:=h',gens:=g',drawn:=d',toks:=t'}:=by
 obtain⟨m,⟨o,es,ep,ho,r⟩,_⟩:=id I.loc
 obtain⟨sl,Y⟩:=u.any ho I.free λz=>(J _ z).2.1 rfl
 exact I.step (ch:=ch) J (λb o Y hb j e n=>u.keep b o e n (λz=>(FL.mp (I.stkSub b z)).elim Y hb) j) (λb o _ _ j e n=>u.any e n j) (λb o j e n=>u.free b o e n j) (λb o j e=>u.there b o e j) u.tups u.frzs u.tbls (λm' hm=>by
  obtain⟨o',Z,aa,O,r'⟩:=hm
  rw[ho]at O;cases O
  exact⟨_,Z,aa,Y,r'⟩) U hg
def Inv.turned{t':Nat}{j:Fo}(I:Inv X pins σ H s)(k:∀b o,b≠j->s.heap.get? b=some o->h'.get? b=some o)(hn:H j=none)(U:j≠X.env.locals) 
  (h1:j∈X.ex\/X.s₀.heap.objs.size<=j) (h2:∀x c,X.env.cells.lookup x=some c->c≠j) (Y:∀p∈X.pn++pins,p.1≠j):Inv X pins σ H {s with heap:=h',toks:=t'}:=by
 have O:∀b u,H b=some u->b≠j:=λb u e z=>by rw[z,hn]at e;cases e
 refine I.step (g':=s.gens) (d':=s.drawn) (ch:=[j]) (λb Z=>?_) (λb o _ _ J e _=>k b o (λz=>J (by simp[z])) e) (λb o _ _ J e _=>⟨o.slots,k b o (λz=>J (by simp[z])) e⟩) (λ_ _ _ _ n=>n)
  (λb o J e=>⟨o,k b o (λz=>J (by simp[z])) e⟩) (λ_ _ e=>e) (λ_ _ _ e=>e) (λb ps e=>⟨#[],by rw[e];simp⟩) (λm hm=>?_) (λb u e=>?_) I.bare
 ·have e:b=j:=by simpa using Z
  subst e
  exact⟨h1,U,h2,Y⟩
 ·obtain⟨o,es,ep,ho,r⟩:=hm
  exact⟨o,es,ep,k _ o (FH U) ho,r⟩
 ·refine(I.hok b u e).stay (λc v J q=>k c v ?_ q) (λ_ q=>q) λ_ _ q=>q
  rcases J with z|z
  ·rw[z];exact O b u e
  ·exact O c _ z
def Inv.tok(I:Inv X pins σ H s)(t:Nat):Inv X pins σ H {s with toks:=t}:=I.un (h':=s.heap) (t':=t) Un.refl I.hok
def Inv.kept(I:Inv X pins σ H s)(k:∀b u,s.heap.get? b=some u->h'.get? b=some u):Inv X pins σ H {s with heap:=h',toks:=t'}:=I.un (Un.kept k) (I.hok.kept k)
def Inv.laid{a:Fo}{o:HO}{t':Nat}(I:Inv X pins σ H s)(k:∀b u,s.heap.get? b=some u->h'.get? b=some u)(j:s.heap.objs.size<=a)(new:yB X.prog X.w (upd H a o) h' a o):
 Inv X pins σ (upd H a o) {s with heap:=h',toks:=t'}:=I.un (Un.laid k j (I.hok.fresh j)) (I.hok.laid k j new)
def Inv.write{x e:Fo}{o:HO}{t':Nat}(I:Inv X pins σ H s)(z:Mut (H x))(J:e=x\/H e=some (.own x))(k:∀b u,b≠e->s.heap.get? b=some u->h'.get? b=some u)(j:∃u,h'.get? e=some u) 
 (new:yB X.prog X.w (upd H x o) h' x o):Inv X pins σ (upd H x o) {s with heap:=h',toks:=t'}:=I.un (Un.write z J k j) (I.hok.write z J k j new)
def Inv.weak(I:Inv X pins σ H s)(J:j.length=σ.length)(w:∀(i:Nat) v,j[i]?=some (some v)->σ[i]?=some (some v)):Inv X pins j H s :=
 ⟨I.ok,I.os,I.bare,I.base,(by obtain⟨m,hn,z⟩:=I.loc;exact⟨m,hn,λi x v O U Y=>z i x v O (w i v U) Y⟩),I.cell,I.free,I.freeC,I.pin,I.hok,J.trans I.len⟩
def Inv.pins_of(I:Inv X pins σ H s)(h:∀p∈pins',s.heap.get? p.1=some p.2/\H p.1=none/\p.1≠X.env.locals/\p.1∉X.fs/\∀v,p.2.data≠.cell v):Inv X pins' σ H s :=
 ⟨I.ok,I.os,I.bare,I.base,I.loc,I.cell,I.free,I.freeC,λp j=>(Gk.mp j).elim (λz=>I.pin p (He _ z)) (h p),I.hok,I.len⟩
def J6{N:List Fp}(z:N.Nodup){i j:Nat}{x:Fp}(a:N[i]?=some x)(b:N[j]?=some x):i=j:=by
 obtain⟨h1,J⟩:=FO.mp a
 obtain⟨h2,O⟩:=FO.mp b
 exact(IJ z).mp (J.trans O.symm)
def QE{M:IK}{A:FW}{E:Fl->Fq->Prop}{i:Nat}{x:Fp}{v:V}{u:Fl}{Q:Unit->Fq->Prop}(I:Inv X pins σ H s)(hN:X.N.Nodup)(hi:X.N[i]?=some x)(Z:Loc X.env.scope x)(r:zI v u) 
  (h:∀s',Inv X pins (σ.set i (some v)) H s'->(∃a,Ka a s.heap s'.heap/\(a=X.env.locals\/X.env.cells.lookup x=some a))->Q () s') (hf:X.fn x=true\/X.env.scope.names.lookup x=some .local:=by first|exact .inl rfl|exact .inr rfl|assumption):wpAny M A (Mb X.env x u) Q E s:=by
 obtain⟨m,hn,hl⟩:=id I.loc
 have ad:(X.env.scope.kind== .class|| (X.env.scope.kind== .module && X.env.locals !=X.env.globals))=false:=by rw[I.ok.kind];rfl
 have ab:i<σ.length:=by rw[I.len];exact(FO.mp hi).1
 have cne:=I.cne
 have O:∀{a:Fo} {h':Fz},(∃o,s.heap.get? a=some o/\H a=none)->Ka a s.heap h'->HOk X.prog X.w H h':=λ{a h'} ha J b ob e=>by
  obtain⟨_,_,aa⟩:=ha
  refine(I.hok b ob e).stay (λc w' Y q=>(J.2 c ?_).trans q) (λ_ q=>q) λ_ _ q=>q
  rintro rfl
  rcases Y with rfl|Y
  ·rw[aa]at e;cases e
  ·rw[aa]at Y;cases Y
 rcases Z with hk|hk
 ·refine wpAny_storeName_local hk hn (λh' ai J=>?_) ad
  obtain⟨oL,_,_,aj,_⟩:=id hn
  refine h _ ⟨I.ok,I.os,I.bare,⟨λb o e n hb Z=>?_,λb o e n hb Z=>?_,I.base.free,λb o e Z=>?_,I.base.tups,I.base.frzs,I.base.tbls⟩,⟨_,ai,λj y v' U e2 e3=>?_⟩,λy c e=>?_,I.free,I.freeC,λp hp=>?_,O ⟨oL,aj,I.free⟩ J,by simpa using I.len⟩ ⟨_,J,.inl rfl⟩
  ·exact(J.2 b (Gd (Gs (FV e) I.ok.above))).trans (I.base.keep b o e n hb Z)
  ·obtain⟨sl,U⟩:=I.base.slot b o e n hb Z
   exact⟨sl,(J.2 b (Gd (Gs (FV e) I.ok.above))).trans U⟩
  ·obtain⟨o',U⟩:=I.base.there b o e Z
   exact⟨o',(J.2 b (Gd (Gs (FV e) I.ok.above))).trans U⟩
  ·by_cases hj:j=i
   ·subst hj
    rw[hi]at U;cases U
    rw[Hs ab]at e2
    cases e2
    exact⟨u,r,.inl ⟨hk,by simp⟩⟩
   ·rw[GZ (FH hj)]at e2
    obtain⟨u',r',q⟩:=hl j y v' U e2 e3
    refine⟨u',r',?_⟩
    rcases q with⟨k,e⟩|⟨k,c,e,z⟩
    ·refine .inl ⟨k,?_⟩
     have:y≠x:=λe=>hj (J6 hN U (e▸hi))
     simp[this,e]
    ·exact .inr ⟨k,c,e,z.sameBut J (cne y c e)⟩
  ·obtain⟨w',z⟩:=I.cell y c e
   exact⟨w',z.sameBut J (cne y c e)⟩
  ·obtain⟨e,n,ne,nf,d⟩:=I.pin p hp
   exact⟨(J.2 p.1 ne).trans e,n,ne,nf,d⟩
 ·have ac:X.fn x=true:=by
   rcases hf with z|z
   ·exact z
   ·rw[z]at hk;cases hk
  obtain⟨c,Y⟩:=I.ok.has x (.inl hk)
  obtain⟨w',z⟩:=I.cell x c Y
  refine wpAny_storeName_cell I.ok.kind hk Y z (λh' ae J=>?_)
  obtain⟨oc,af,ag⟩:=id z
  refine h {s with heap:=h'} ⟨I.ok,I.os,I.bare,⟨λb o e n hb Z=>?_,λb o e n hb Z=>?_,I.base.free,λb o e Z=>?_,I.base.tups,I.base.frzs,I.base.tbls⟩,⟨m,hn.sameBut J (FH (cne x c Y)),λj y v' U e2 e3=>?_⟩,λy c' e=>?_,I.free,I.freeC,λp hp=>?_,O ⟨oc,af,I.freeC x c Y⟩ J,by simpa using I.len⟩ ⟨c,J,.inr Y⟩
  ·exact(J.2 b (Gd (Gs (FV e) (I.ok.cab x c ac Y)))).trans (I.base.keep b o e n hb Z)
  ·obtain⟨sl,U⟩:=I.base.slot b o e n hb Z
   exact⟨sl,(J.2 b (Gd (Gs (FV e) (I.ok.cab x c ac Y)))).trans U⟩
  ·obtain⟨o',U⟩:=I.base.there b o e Z
   exact⟨o',(J.2 b (Gd (Gs (FV e) (I.ok.cab x c ac Y)))).trans U⟩
  ·by_cases hj:j=i
   ·subst hj
    rw[hi]at U;cases U
    rw[Hs ab]at e2
    cases e2
    exact⟨u,r,.inr ⟨.inl hk,c,Y,ae⟩⟩
   ·rw[GZ (FH hj)]at e2
    obtain⟨u',r',q⟩:=hl j y v' U e2 e3
    refine⟨u',r',?_⟩
    rcases q with q|⟨k,c',e,z'⟩
    ·exact .inl q
    ·refine .inr ⟨k,c',e,z'.sameBut J ?_⟩
     rintro rfl
     exact hj (J6 hN U (I.ok.inj _ _ _ e Y▸hi))
  ·by_cases ah:c'=c
   ·subst ah;exact⟨_,ae⟩
   ·obtain⟨w2,z2⟩:=I.cell y c' e
    exact⟨w2,z2.sameBut J ah⟩
  ·obtain⟨e,n,ne,nf,d⟩:=I.pin p hp
   refine⟨(J.2 p.1 ?_).trans e,n,ne,nf,d⟩
   intro q
   rw[q,af]at e
   have q':oc=p.2:=GG e
   exact d w' (by rw[<-q'];exact ag)
def WX{M:IK}{A:FW}{E:Fl->Fq->Prop}{i:Nat}{x:Fp}{v:V}{u:Fl}{Q:Unit->Fq->Prop}(I:Inv X pins σ H s)(j:X.N.Nodup)(hi:X.N[i]?=some x)(z:Loc X.env.scope x)(r:zI v u) 
  (h:∀s',Inv X pins (σ.set i (some v)) H s'->Q () s') (J:X.fn x=true\/X.env.scope.names.lookup x=some .local:=by first|exact .inl rfl|exact .inr rfl|assumption):wpAny M A (Mb X.env x u) Q E s :=
 QE I j hi z r (λs' O _=>h s' O) J
def Inv.call'(I:Inv X pins σ H s)(J:s'.os=s.os)(u:Un (frs X.stack) ch H H' s.heap s'.heap)(j:HOk X.prog X.w H' s'.heap)(O:Ia s'.gens) 
  (z:∀b∈ch,(b∈X.ex\/X.s₀.heap.objs.size<=b)/\b≠X.env.locals/\(∀x c,X.env.cells.lookup x=some c->c≠b)/\∀p∈X.pn++pins,p.1≠b):Inv X pins σ H' s':=by
 obtain⟨h',g',d',t',o'⟩:=s'
 have e:o'=s.os:=J
 subst e
 exact I.call (g':=g') (t':=t') (d':=d') u j O z
end
abbrev XK:=Fl->Option Fo->Hp->Prop
abbrev St:=List (Option V)
abbrev VK:=V->Hp->Prop
abbrev TE:=St->Hp->VK->Prop
abbrev TT:=St->Hp->(Bool->Hp->Prop)->Prop
abbrev TA:=St->Hp->(List V->Hp->Prop)->Prop
structure Ends where
 nx:St->Hp->Prop
 rt:VK
 bk:St->Hp->Prop:=λ_ _=>False
 ct:St->Hp->Prop:=λ_ _=>False
abbrev TS:=Ends->St->Hp->Prop
def EP(X:Cx)(pins:List (Fo×FD))(σ:St)(Q:VK)(u:Fl)(s':Fq):Prop:=∃v H',Inv X pins σ H' s'/\zI v u/\Q v H'
def TP(X:Cx)(pins:List (Fo×FD))(σ:St)(Q:Bool->Hp->Prop)(b:Bool)(s':Fq):Prop:=∃H',Inv X pins σ H' s'/\Q b H'
def AP(X:Cx)(pins:List (Fo×FD))(σ:St)(Q:List V->Hp->Prop)(us:List Fl)(s':Fq):Prop:=∃vs H',Inv X pins σ H' s'/\zC vs us/\Q vs H'
def SP(X:Cx)(pins:List (Fo×FD))(D:Ends)(f:Flow)(s':Fq):Prop :=
 match f with
 | .next=>∃j H',Inv X pins j H' s'/\D.nx j H'
 | .brk=>∃j H',Inv X pins j H' s'/\D.bk j H'
 | .cont=>∃j H',Inv X pins j H' s'/\D.ct j H'
 | .ret u=>∃v j H',Inv X pins j H' s'/\zI v u/\D.rt v H'
def PE(X:Cx)(e:Fu)(t:TE):Prop :=
 ∀(pins:List (Fo×FD)) (s:Fq) (σ:St) (H:Hp) (Q:VK),Inv X pins σ H s->t σ H Q->wpAny (Fx X.prog X.w) X.A (FJ e X.env) (EP X pins σ Q) X.xe s
def PT(X:Cx)(e:Fu)(t:TT):Prop :=
 ∀(pins:List (Fo×FD)) (s:Fq) (σ:St) (H:Hp) (Q:Bool->Hp->Prop),Inv X pins σ H s->t σ H Q->wpAny (Fx X.prog X.w) X.A (Kb e X.env (FJ e X.env)) (TP X pins σ Q) X.xe s
def PW(X:Cx)(e:Fu)(t:TT):Prop :=
 ∀(j:GH Fl) (pins:List (Fo×FD)) (s:Fq) (σ:St) (H:Hp) (Q:Bool->Hp->Prop),Inv X pins σ H s->t σ H Q->wpAny (Fx X.prog X.w) X.A (Kb e X.env j) (TP X pins σ Q) X.xe s
def PW.pt(h:PW X e t):PT X e t:=h _
def PA(X:Cx)(es:List Fu)(t:TA):Prop :=
 ∀(pos:FG) (pins:List (Fo×FD)) (s:Fq) (σ:St) (H:Hp) (Q:List V->Hp->Prop),Inv X pins σ H s->t σ H Q->wpAny (Fx X.prog X.w) X.A (spliced (GJ pos (FK es X.env))) (AP X pins σ Q) X.xe s
def PS(X:Cx)(st:FC)(t:TS):Prop :=
 ∀(pins:List (Fo×FD)) (s:Fq) (σ:St) (H:Hp) (D:Ends),Inv X pins σ H s->t D σ H->wpAny (Fx X.prog X.w) X.A (exec st X.env) (SP X pins D) X.xe s
def PSs(X:Cx)(st:List FC)(t:TS):Prop :=
 ∀(pins:List (Fo×FD)) (s:Fq) (σ:St) (H:Hp) (D:Ends),Inv X pins σ H s->t D σ H->wpAny (Fx X.prog X.w) X.A (execs st X.env) (SP X pins D) X.xe s
def thn{α:Type}{t:GH α}{Q j:α->Fq->Prop}{M:IK}{A:FW}{E:Fl->Fq->Prop}{s:Fq}(h:wpAny M A t Q E s)(z:∀a s,Q a s->j a s):wpAny M A t j E s:=Hf h z λ_ _ x=>x
end L2
namespace L2
open PySem PySem.Spec PyProof.Rows
section
variable {X:Cx}
def vK(i:Nat):TE:=λσ H Q=>∃v,σ[i]?=some (some v)/\Q v H
def tC(v:V):TE:=λ_ H Q=>Q v H
def tP(Y:X.N[i]?=some x)(Z:Vis X.env.scope x)(J:(x==("__debug__":Fp))=false:=by decide)(O:(x==("__classdict__":Fp))=false:=by decide):PE X (.Name x pos) (vK i):=by
 intro pins s σ H Q I h
 obtain⟨v,e,h⟩:=h
 obtain⟨m,hn,hl⟩:=I.loc
 obtain⟨u,r,l⟩:=hl i x v Y e Z
 have fin:EP X pins σ Q u s:=⟨v,H,I,r,h⟩
 rcases l with⟨z,hm⟩|⟨z,c,U,j⟩
 ·exact Mc (Nt I.ok.kind z hn hm fin) J
 ·rcases z with z|z
  ·exact Mc (Nu I.ok.kind z U j fin) J
  ·exact Mc (wpAny_loadName_free I.ok.kind z U j fin O) J
def wd{i j pos}:PE X (.Constant (.int i) j pos) (tC (.int i)):=λ_ _ _ H _ I h=>wpAny_Constant_int ⟨.int i,H,I.tok _,⟨_,rfl⟩,h⟩
def uU{b j pos}:PE X (.Constant (.bool b) j pos) (tC (.bl b)):=λ_ _ _ H _ I h=>Constant_bool ⟨.bl b,H,I,rfl,h⟩
def lH{j pos}:PE X (.Constant .none j pos) (tC .non):=λ_ _ _ H _ I h=>Constant_none ⟨.non,H,I,rfl,h⟩
def tQ{x j pos}:PE X (.Constant (.str x) j pos) (tC (.str x)):=λ_ _ _ H _ I h=>Calls.Constant_str ⟨.str x,H,I.tok _,⟨_,rfl⟩,h⟩
def Gl(X:Cx)(x:Fp):Prop:=X.env.kindOf x=some .globalImplicit
def UI{E:Fl->Fq->Prop}{pins:List (Fo×FD)}{s:Fq}{σ:St}{H:Hp}{x:Fp}{u:Fl}{pos:FG}{Q:Fl->Fq->Prop}(I:Inv X pins σ H s)(j:Gl X x)(z:X.mg x=some u)(h:Q u s) 
  (J:(x==("__debug__":Fp))=false:=by decide):wpAny (Fx X.prog X.w) X.A (FJ (.Name x pos) X.env) Q E s :=
 Nv I.ok.kind j (Calls.loadGlobal_global (by rw[I.ok.glob];exact I.mod.glob.keeps I.bk) z h) J
def vY{E:Fl->Fq->Prop}{pins:List (Fo×FD)}{s:Fq}{σ:St}{H:Hp}{x:Fp}{u:Fl}{pos:FG}{Q:Fl->Fq->Prop}(I:Inv X pins σ H s)(j:Gl X x)(z:X.mg x=none)(J:HZ x=some u)(h:Q u s) 
  (hn:x≠"__name__":=by decide) (O:(x==("__debug__":Fp))=false:=by decide):wpAny (Fx X.prog X.w) X.A (FJ (.Name x pos) X.env) Q E s:=by
 obtain⟨U,h1,h2⟩:=I.mod.blt
 exact Nv I.ok.kind j (Calls.loadGlobal_builtin (by rw[I.ok.glob];exact I.mod.glob.keeps I.bk) z (by rw[I.ok.blt];exact h1.keeps I.bk) ((h2 x hn).trans J) h) O
def u7(j:Gl X x)(z:X.mg x=some u)(r:zI v u)(J:(x==("__debug__":Fp))=false:=by decide):PE X (.Name x pos) (tC v) :=
 λ_ _ _ H _ I h=>UI I j z ⟨v,H,I,r,h⟩ J
def rG(j:Gl X x)(z:X.mg x=none)(J:HZ x=some u)(r:zI v u)(hn:x≠"__name__":=by decide)(O:(x==("__debug__":Fp))=false:=by decide):PE X (.Name x pos) (tC v) :=
 λ_ _ _ H _ I h=>vY I j z J ⟨v,H,I,r,h⟩ hn O
variable {a b:Fu} {ta tb:TE} {pos:FG}
def PC(X:Cx)(J:Kc)(a b:Fu)(t:TE):Prop :=
 ∀(pins:List (Fo×FD)) (s:Fq) (σ:St) (H:Hp) (Q:VK),Inv X pins σ H s->t σ H Q->
  wpAny (Fx X.prog X.w) X.A (FJ a X.env) (λv j=>wpAny (Fx X.prog X.w) X.A (FJ b X.env) (λu z=>wpAny (Fx X.prog X.w) X.A (Gz J v u) (EP X pins σ Q) X.xe z) X.xe j) X.xe s
def tB(t:TE):TT:=λσ H Q=>t σ H λx H1=>∃c,x=.bl c/\Q c H1
def lI{z:Kc}{t:TE}(h:PC X z a b t)(h1:IL z b=false:=by first|exact j _ (by decide) (by decide)|rfl):PT X (.Compare a [z] [b] pos) (tB t):=by
 intro pins s σ H Q I J
 refine Nw (thn (h pins s σ H _ I J) λv s1 h1=>thn h1 λu s2 h2=>thn h2 λc s3 ⟨x,H1,O,r1,q1⟩=>?_) h1
 obtain⟨d,rfl,q⟩:=q1
 cases r1
 exact IM ⟨H1,O,q⟩
def Yc{e:Fu}{t:TE}(h:PE X e t)(z:∀j,Kb e X.env j=(do let v <-j;Kd e.pos;HE [v] (truthy v)):=by intro _;rfl):PT X e (tB t):=by
 intro pins s σ H Q I J
 refine isTrue_plain (thn (h pins s σ H _ I J) λv s1 ⟨x,H1,O,r1,q1⟩=>?_) (z _)
 obtain⟨d,rfl,q⟩:=q1
 cases r1
 exact IM ⟨H1,O,q⟩
variable {tA tB':TT} {rest:List Fu}
def Dp(t u:TT):TT:=λσ H Q=>t σ H λc H1=>if c=true then u σ H1 Q else Q false H1
def tOr(t u:TT):TT:=λσ H Q=>t σ H λc H1=>if c=true then Q true H1 else u σ H1 Q
def Dq(t:TT):TT:=λσ H Q=>t σ H λc H1=>Q (!c) H1
def rH(j:PT X a tA):PW X (.BoolOp .And [a] pos) tA:=by
 intro z pins s σ H Q I h
 refine isTrue_and (thn (j pins s σ H Q I h) λc s1 e=>?_)
 cases c with
 | true=>exact isTrue_and_nil e
 | false=>exact e
def lJ(j:PT X a tA):PW X (.BoolOp .Or [a] pos) tA:=by
 intro z pins s σ H Q I h
 refine isTrue_or (thn (j pins s σ H Q I h) λc s1 e=>?_)
 cases c with
 | false=>exact isTrue_or_nil e
 | true=>exact e
def tR(z:PT X a tA)(J:PW X (.BoolOp .And (b::rest) pos) tB'):PW X (.BoolOp .And (a::b::rest) pos) (Dp tA tB'):=by
 intro O pins s σ H Q I h
 refine isTrue_and (thn (z pins s σ H _ I h) λc s1 ⟨H1,j,q1⟩=>?_)
 cases c with
 | true=>exact J O pins s1 σ H1 Q j q1
 | false=>exact⟨H1,j,q1⟩
def qN(z:PT X a tA)(J:PW X (.BoolOp .Or (b::rest) pos) tB'):PW X (.BoolOp .Or (a::b::rest) pos) (tOr tA tB'):=by
 intro O pins s σ H Q I h
 refine isTrue_or (thn (z pins s σ H _ I h) λc s1 ⟨H1,j,q1⟩=>?_)
 cases c with
 | true=>exact⟨H1,j,q1⟩
 | false=>exact J O pins s1 σ H1 Q j q1
def tS(j:PT X a tA):PT X (.UnaryOp .Not a pos) (Dq tA):=by
 intro pins s σ H Q I h
 exact isTrue_not (j pins s σ H (λc H1=>Q (!c) H1) I h)
def BG(ta tb:TE):TE:=λσ H Q=>ta σ H λx H1=>∃c,x=.bl c/\if c=true then tb σ H1 Q else Q (.bl false) H1
def BH(ta:TE):TE:=λσ H Q=>ta σ H λx H1=>∃c,x=.bl c/\Q (.bl (!c)) H1
def tT{j}(h:PE X a t):PE X (.BoolOp j [a] pos) t:=λpins s σ H Q I z=>BoolOp_one (h pins s σ H Q I z)
def tU(z:PE X a ta)(J:PE X (.BoolOp .And (b::rest) pos) tb):PE X (.BoolOp .And (a::b::rest) pos) (BG ta tb):=by
 intro pins s σ H Q I h
 refine BoolOp_and (thn (z pins s σ H _ I h) λv s1 ⟨x,H1,j,r1,q1⟩=>?_)
 obtain⟨c,rfl,q1⟩:=q1
 cases r1
 refine IM ?_
 cases c with
 | true=>exact J pins s1 σ H1 Q j q1
 | false=>exact⟨.bl false,H1,j,rfl,q1⟩
def tV(j:PE X a ta):PE X (.UnaryOp .Not a pos) (BH ta):=by
 intro pins s σ H Q I h
 refine UnaryOp_ (thn (j pins s σ H _ I h) λv s1 ⟨x,H1,z,r1,q1⟩=>?_)
 obtain⟨c,rfl,q1⟩:=q1
 cases r1
 exact not_of (IM ⟨.bl (!c),H1,z,rfl,q1⟩)
def tIf(t:TT)(ta tb:TE):TE:=λσ H Q=>t σ H λc H1=>if c=true then ta σ H1 Q else tb σ H1 Q
def J7{c:Fu}(z:PT X c tA)(J:PE X a ta)(O:PE X b tb):PE X (.IfExp c a b pos) (tIf tA ta tb):=by
 intro pins s σ H Q I h
 refine wpAny_IfExp (thn (z pins s σ H _ I h) λd s1 ⟨H1,j,q1⟩=>?_)
 cases d with
 | true=>exact J pins s1 σ H1 Q j q1
 | false=>exact O pins s1 σ H1 Q j q1
end
end L2
namespace L2
open PySem PySem.Spec PyProof.Rows
def SqL(K:Fs)(H:Hp)(a:Fo)(xs:List V):Prop :=
 Rd H a (.lst xs)\/
  ∃(o:FD) (its:Array Fl) (n:Nat),K.lookup a=some o/\o.cls=.type "list"/\o.dict=none/\o.data=.seq its n/\its.size<=Fv/\zC xs its.toList
def SqT(K:Fs)(H:Hp)(a:Fo)(xs:List V):Prop :=
 Rd H a (.tup xs)\/
  ∃(o:FD) (its:Array Fl) (n:Nat),K.lookup a=some o/\o.cls=.type "tuple"/\o.data=.seq its n/\its.size<=Fv/\zC xs its.toList
def Dr:Fl->Option V
 | .none=>some .non
 | .bool b=>some (.bl b)
 | .int i _=>some (.int i)
 | .str x _=>some (.str x)
 | .bytes b _=>some (.byt b)
 | .float b _=>some (.flt b)
 | .ref a=>some (.ref a)
 | .type n=>some (.ty n)
 | _=>none
def zI.abs(r:zI x u):Dr u=some x:=by
 cases x with
 | non=>cases r;rfl
 | bl _=>cases r;rfl
 | int _=>obtain⟨t,rfl⟩:=r;rfl
 | str _=>obtain⟨t,rfl⟩:=r;rfl
 | byt _=>obtain⟨t,rfl⟩:=r;rfl
 | flt _=>obtain⟨t,rfl⟩:=r;rfl
 | ref _=>cases r;rfl
 | ty _=>cases r;rfl
def zI.inj(r:zI x u)(q:zI y u):x=y:=GG (r.abs.symm.trans q.abs)
theorem zC.inj:∀{xs ys:List V} {us:List Fl},zC xs us->zC ys us->xs=ys
 | _,_,_,.nil,.nil=>rfl
 | _,_,_,.cons r t,.cons j t'=>by rw[r.inj j,zC.inj t t']
section
variable {X:Cx} {pins:List (Fo×FD)} {σ:St} {H:Hp} {s:Fq} {a:Fo} {xs ys:List V}
def SqL.of{K:Fs}(h:H a=some (.lst xs)):SqL K H a xs:=.inl (.inl h)
def SqT.of{K:Fs}(h:H a=some (.tup xs)):SqT K H a xs:=.inl (.inl h)
def Inv.list(I:Inv X pins σ H s)(h:SqL X.K H a xs):∃its:List Fl,zC xs its/\PlainL s.heap a its.toArray/\xs.length<=Fv:=by
 rcases h with h|⟨o,its,n,j,J,O,U,Y,r⟩
 ·obtain⟨z,its,n,r,e⟩:=h.ok I.hok
  exact⟨its,r,⟨_,n,e,rfl,rfl,rfl⟩,z⟩
 ·refine⟨its.toList,r,⟨o,n,I.kIn a o j,J,O,by simpa using U⟩,?_⟩
  have e:=r.length
  simp only[K8]at e
  omega
def Inv.tuple(I:Inv X pins σ H s)(h:SqT X.K H a xs):∃its:List Fl,zC xs its/\Ip s.heap a its.toArray/\xs.length<=Fv:=by
 rcases h with h|⟨o,its,n,j,J,O,U,r⟩
 ·obtain⟨z,its,r,p⟩:=h.ok I.hok
  exact⟨its,r,p,z⟩
 ·refine⟨its.toList,r,⟨o,I.kIn a o j,J,n,by simpa using O⟩,?_⟩
  have e:=r.length
  simp only[K8]at e
  omega
def Inv.list_inj(I:Inv X pins σ H s)(h:SqL X.K H a xs)(h':SqL X.K H a ys):xs=ys:=by
 obtain⟨its,r,⟨o,n,e,_,_,d⟩,_⟩:=I.list h
 obtain⟨its',z,⟨o',O,j,_,_,d'⟩,_⟩:=I.list h'
 rw[e]at j;cases j
 rw[d]at d'
 injection d' with J _
 have:its=its':=by simpa using congrArg Nx J
 subst this
 exact r.inj z
def Inv.tuple_inj(I:Inv X pins σ H s)(h:SqT X.K H a xs)(h':SqT X.K H a ys):xs=ys:=by
 obtain⟨its,r,⟨o,e,_,n,d⟩,_⟩:=I.tuple h
 obtain⟨its',z,⟨o',j,_,O,d'⟩,_⟩:=I.tuple h'
 rw[e]at j;cases j
 rw[d]at d'
 injection d' with J _
 have:its=its':=by simpa using congrArg Nx J
 subst this
 exact r.inj z
end
abbrev Cx.wish(X:Cx)(E:Fl->Fq->Prop):Cx:={X with xe:=E}
abbrev Cx.nox(X:Cx):Cx:=X.wish λ_ _=>False
def Cx.Ok.wish{X:Cx}(ok:X.Ok)(E:Fl->Fq->Prop):(X.wish E).Ok :=
 ⟨ok.mod,ok.kind,ok.glob,ok.blt,ok.above,ok.inj,ok.has,ok.cab,ok.hd,ok.frames,ok.stk,ok.exf,ok.bs,ok.bsz,ok.noex,ok.exfs,ok.funs,ok.frf⟩
def Cx.Ok.unwish{X:Cx}{E:Fl->Fq->Prop}(ok:(X.wish E).Ok):X.Ok :=
 ⟨ok.mod,ok.kind,ok.glob,ok.blt,ok.above,ok.inj,ok.has,ok.cab,ok.hd,ok.frames,ok.stk,ok.exf,ok.bs,ok.bsz,ok.noex,ok.exfs,ok.funs,ok.frf⟩
section
variable {X:Cx} {pins:List (Fo×FD)} {σ:St} {H:Hp} {s:Fq} {E:Fl->Fq->Prop}
def Inv.wish(I:Inv X pins σ H s)(E:Fl->Fq->Prop):Inv (X.wish E) pins σ H s:=⟨I.ok.wish E,I.os,I.bare,I.base,I.loc,I.cell,I.free,I.freeC,I.pin,I.hok,I.len⟩
def Inv.unwish(I:Inv (X.wish E) pins σ H s):Inv X pins σ H s:=⟨I.ok.unwish,I.os,I.bare,I.base,I.loc,I.cell,I.free,I.freeC,I.pin,I.hok,I.len⟩
def SP.unwish(h:SP (X.wish E) pins D f s'):SP X pins D f s':=by
 cases f with
 | next=>obtain⟨j,H',I,q⟩:=h;exact⟨j,H',I.unwish,q⟩
 | brk=>obtain⟨j,H',I,q⟩:=h;exact⟨j,H',I.unwish,q⟩
 | cont=>obtain⟨j,H',I,q⟩:=h;exact⟨j,H',I.unwish,q⟩
 | ret u=>obtain⟨v,j,H',I,r,q⟩:=h;exact⟨v,j,H',I.unwish,r,q⟩
def PSs.nox{st:List FC}{t:TS}(h:PSs X.nox st t):PSs X st t:=λpins s σ H D I j=>
 Hf (h pins s σ H D (I.wish _) j) (λ_ _ q=>q.unwish) λ_ _ z=>Hm z
end
section
variable {X:Cx} {st:FC} {rest:List FC} {t u:TS} {e:Fu} {te:TE} {pos:FG}
def BJ:TS:=λD σ H=>D.nx σ H
def Ds(t u:TS):TS:=λD σ H=>t {D with nx:=u D} σ H
def u8:PSs X [] BJ:=λ_ _ σ H _ I h=>K9 ⟨σ,H,I,h⟩
def zw(h1:PS X st t)(h2:PSs X rest u):PSs X (st::rest) (Ds t u):=by
 intro pins s σ H D I h
 refine Ny (thn (h1 pins s σ H {D with nx:=u D} I h) λf s1 q=>?_)
 cases f with
 | next=>
  obtain⟨j,H',z,q⟩:=q
  exact h2 pins s1 j H' D z q
 | ret v=>exact q
 | brk=>exact q
 | cont=>exact q
def zR(h1:PS X st t):PSs X [st] t:=by
 intro pins s σ H D I h
 refine Ny (thn (h1 pins s σ H D I h) λf s1 q=>?_)
 cases f with
 | next=>exact K9 q
 | ret v=>exact q
 | brk=>exact q
 | cont=>exact q
def Inv.quiet(I:Inv X pins σ H s):interactive X.env=false:=by simp[interactive,I.ok.kind]
def BK(te:TE):TS:=λD σ H=>te σ H λ_ H1=>D.nx σ H1
def yL(he:PE X e te)(hs:GP e none pos.line X.env=pure false:=by rfl):PS X (.Expr e pos) (BK te):=by
 intro pins s σ H D I h
 exact wpAny_Expr_any (thn (he pins s σ H _ I h) λv s1 hh3'=>(by obtain⟨x,H1,I1,r1,q1⟩:=hh3';exact⟨σ,H1,I1,q1⟩)) I.quiet hs
def Dt(te:TE):TS:=λD σ H=>te σ H D.rt
def wu(z:PE X e te):PS X (.Return (some e) pos) (Dt te):=by
 intro pins s σ H D I h
 exact wpAny_Return_some (thn (z pins s σ H _ I h) λv s1 j=>(by obtain⟨x,H1,J,r1,q1⟩:=j;exact⟨x,σ,H1,J,r1,q1⟩))
def BL:TS:=λD _ H=>D.rt .non H
def rJ:PS X (.Return none pos) BL:=λ_ _ σ H _ I h=>wpAny_Return_none ⟨.non,σ,H,I,rfl,h⟩
def Du(c:TT)(t u:TS):TS:=λD σ H=>c σ H λb H1=>if b=true then t D σ H1 else u D σ H1
def YN{c:Fu}{a b:List FC}{tc:TT}(z:PT X c tc)(J:PSs X a t)(O:PSs X b u):PS X (.If c a b pos) (Du tc t u):=by
 intro pins s σ H D I h
 refine wpAny_If (thn (z pins s σ H _ I h) λd s1 ⟨H1,j,q1⟩=>?_)
 cases d with
 | true=>exact J pins s1 σ H1 D j q1
 | false=>exact O pins s1 σ H1 D j q1
def tW:TS:=λ_ _ _=>False
def nL:PS X st tW:=λ_ _ _ _ _ _ h=>h.elim
end
abbrev TG:=V->St->Hp->(St->Hp->Prop)->Prop
abbrev TGs:=List V->St->Hp->(St->Hp->Prop)->Prop
def PG(X:Cx)(j:Fu)(t:TG):Prop :=
 ∀(pins:List (Fo×FD)) (s:Fq) (σ:St) (H:Hp) (v:V) (u:Fl) (Q:St->Hp->Prop),Inv X pins σ H s->zI v u->t v σ H Q->
  wpAny (Fx X.prog X.w) X.A (Ht j X.env u) (λ_ s'=>∃z H',Inv X pins z H' s'/\Q z H') X.xe s
def PGs(X:Cx)(z:List Fu)(t:TGs):Prop :=
 ∀(pins:List (Fo×FD)) (s:Fq) (σ:St) (H:Hp) (vs:List V) (us:List Fl) (Q:St->Hp->Prop),Inv X pins σ H s->zC vs us->t vs σ H Q->
  wpAny (Fx X.prog X.w) X.A (assignInOrder ((GQ z X.env).map (·.2)) us) (λ_ s'=>∃j H',Inv X pins j H' s'/\Q j H') X.xe s
abbrev nM:=V->V->V->Hp->(Hp->Prop)->Prop
def tX(X:Cx)(t:nM):Prop :=
 ∀(pins:List (Fo×FD)) (s:Fq) (σ:St) (H:Hp) (o i v:V) (j z u:Fl) (Q:Hp->Prop),Inv X pins σ H s->zI o j->zI i z->zI v u->t o i v H Q->
  wpAny (Fx X.prog X.w) X.A (La j z u) (λ_ s'=>∃H',Inv X pins σ H' s'/\Q H') X.xe s
abbrev TIp:=V->V->Hp->VK->Prop
def PIp(X:Cx)(j:Operator)(t:TIp):Prop :=
 ∀(pins:List (Fo×FD)) (s:Fq) (σ:St) (H:Hp) (x y:V) (v u:Fl) (Q:VK),Inv X pins σ H s->zI x v->zI y u->t x y H Q->
  wpAny (Fx X.prog X.w) X.A (inplaceOp j v u) (EP X pins σ Q) X.xe s
section
variable {X:Cx} {pos:FG}
def vl(i:Nat):TG:=λv σ H Q=>Q (σ.set i (some v)) H
def xH(j:X.N.Nodup)(hi:X.N[i]?=some x)(z:Loc X.env.scope x)(J:X.fn x=true\/X.env.scope.names.lookup x=some .local:=by first|exact .inl rfl|exact .inr rfl|assumption):PG X (.Name x pos) (vl i):=by
 intro pins s σ H v u Q I r h
 exact NA (WX I j hi z r (λs' O=>⟨_,H,O,h⟩) J)
def nN:TGs:=λvs σ H Q=>vs=[]/\Q σ H
def Vs(t:TG)(u:TGs):TGs:=λvs σ H Q=>∃v r,vs=v::r/\t v σ H λj H'=>u r j H' Q
def Yd:PGs X [] nN:=by
 intro pins s σ H vs us Q I r h
 obtain⟨e,h⟩:=h
 subst e
 cases r
 exact assignInOrder_nil ⟨σ,H,I,h⟩
def wN{e:Fu}{es:List Fu}{t:TG}{u:TGs}(h1:PG X e t)(h2:PGs X es u) 
  (z:(GQ (e::es) X.env).map (·.2)=Ht e X.env::(GQ es X.env).map (·.2):=by rfl):PGs X (e::es) (Vs t u):=by
 intro pins s σ H vs us Q I r h
 obtain⟨v,Y,J,h⟩:=h
 subst J
 cases r with
 | cons r O=>
  rw[z]
  refine assignInOrder_cons (thn (h1 pins s σ H _ _ _ I r h) λ_ s1 ⟨j,H1,U,q1⟩=>?_)
  exact h2 pins s1 j H1 _ _ Q U O q1
def nO(K:Fs)(n:Nat)(t:TGs):TG:=λv σ H Q=>∃a xs,v=.ref a/\SqT K H a xs/\xs.length=n/\t xs σ H Q
def Xu{es:List Fu}{k:Nat}{t:TGs}{n:Nat}(O:X.calm=true)(h:PGs X es t) 
  (hn:(GQ es X.env).length=n:=by rfl) (j:(GQ es X.env).findIdx? (·.1)=none:=by rfl):PG X (.Tuple es k pos) (nO X.K n t):=by
 intro pins s σ H v u Q I r z
 obtain⟨a,xs,U,Y,Z,z⟩:=z
 subst U
 cases r
 obtain⟨its,J,ht,hz⟩:=I.tuple Y
 refine assign_Tuple_tuple (I.ok.hd O) ht (by simp[hn,<-Z,J.length]) j λh' hx=>?_
 have I1:Inv X pins σ H {s with heap:=h'}:=I.kept (t':=s.toks) λb o e=>hx b o (Gd (FV e)) e
 exact h pins _ σ H xs _ Q I1 (by simpa using J) z
def Dv(to j:TE)(t:nM):TG:=λv σ H Q=>to σ H λo H1=>j σ H1 λi H2=>t o i v H2 λz=>Q σ z
def Vt{o i:Fu}{to J:TE}{t:nM}(O:PE X o to)(hi:PE X i J)(U:tX X t) 
  (Y:∀v,Ht (.Subscript o i pos) X.env v=(do
   let j <-HE [v] (FJ o X.env)
   let z <-HE [v,j] (FJ i X.env)
   Kd pos
   HE [v,j,z] (La j z v)
   release [v,j,z] []):=by intro _;rfl):PG X (.Subscript o i pos) (Dv to J t):=by
 intro pins s σ H v u Q I r h
 rw[Y]
 refine Ft (HF (thn (O pins s σ H _ I h) λj s1 ⟨x,H1,Z,r1,q1⟩=>?_))
 refine Ft (HF (thn (hi pins s1 σ H1 _ Z q1) λz s2 ⟨y,H2,I2,r2,q2⟩=>?_))
 refine Ft (Lb (Ft (HF (thn (U pins s2 σ H2 x y v j z u _ I2 r1 r2 r q2) λ_ s3 ⟨H3,I3,q3⟩=>?_))))
 exact wpAny_release ⟨σ,H3,I3,q3⟩
def UJ(te:TE)(g:TG):TS:=λD σ H=>te σ H λx H1=>g x σ H1 D.nx
def Xv{tg e:Fu}{te:TE}{g:TG}(he:PE X e te)(hg:PG X tg g)(hs:Md [tg] e pos.line X.env=pure false:=by rfl)(hw:Me [tg] e X.env=pure none:=by rfl) 
  (h1:(GQ [tg] X.env).map (·.2)=[Ht tg X.env]:=by rfl):PS X (.Assign [tg] e pos) (UJ te g):=by
 intro pins s σ H D I h
 refine wpAny_Assign_stores (thn (he pins s σ H _ I h) λv s1 ⟨x,H1,I1,r1,q1⟩=>?_) hs hw
 rw[h1]
 exact thn (hg pins s1 σ H1 x v _ I1 r1 q1) λ_ s2 q=>q
def yZ{i:Nat}{x:Fp}{e:Fu}{te:TE}{pos':FG}(hN:X.N.Nodup)(hi:X.N[i]?=some x)(hx:Loc X.env.scope x)(he:PE X e te)(hs:GP e (some (.Name x pos')) pos.line X.env=pure false:=by rfl)(hf:X.fn x=true\/X.env.scope.names.lookup x=some .local:=by first|exact .inl rfl|exact .inr rfl|assumption):
  PS X (.Assign [.Name x pos'] e pos) (UJ te (vl i)):=by
 intro pins s σ H D I h
 refine wpAny_Assign_Name (thn (he pins s σ H _ I h) λv s1 ⟨y,H1,I1,r1,q1⟩=>?_) hs
 exact WX I1 hN hi hx r1 (λs2 I2=>⟨_,H1,I2,q1⟩) hf
def Dw(i:Nat)(te:TE)(j:TIp):TS:=λD σ H=>∃x,σ[i]?=some (some x)/\te σ H λy H1=>j x y H1 λz H2=>D.nx (σ.set i (some z)) H2
def tY{i:Nat}{x:Fp}{e:Fu}{te:TE}{Y:Operator}{ti:TIp}{pos':FG}(hN:X.N.Nodup)(hi:X.N[i]?=some x)(Z:Loc X.env.scope x)(he:PE X e te)(ho:PIp X Y ti)(hf:X.fn x=true\/X.env.scope.names.lookup x=some .local:=by first|exact .inl rfl|exact .inr rfl|assumption):
  PS X (.AugAssign (.Name x pos') Y e pos) (Dw i te ti):=by
 intro pins s σ H D I h
 obtain⟨v,e1,h⟩:=h
 obtain⟨m,hn,hl⟩:=I.loc
 have aa:Vis X.env.scope x:=by rcases Z with k|k;exact .inl k;exact .inr (.inl k)
 obtain⟨u,r,l⟩:=hl i x v hi e1 aa
 refine wpAny_AugAssign_Name ?_
 have go:wpAny (Fx X.prog X.w) X.A (FJ e X.env) (λw O=>wpAny (Fx X.prog X.w) X.A (inplaceOp Y u w) (λr U=>wpAny (Fx X.prog X.w) X.A (Mb X.env x r) (λ_=>SP X pins D .next) X.xe U) X.xe O) X.xe s:=by
  refine thn (he pins s σ H _ I h) λw s1 ⟨y,H1,I1,r1,q1⟩=>?_
  refine thn (ho pins s1 σ H1 v y u w _ I1 r r1 q1) λz s2 ⟨zv,H2,I2,r2,q2⟩=>?_
  exact WX I2 hN hi Z r2 (λs3 I3=>⟨_,H2,I3,q2⟩) hf
 rcases l with⟨j,hm⟩|⟨j,c,hc,J⟩
 ·exact Nt I.ok.kind j hn hm go
 ·rcases j with j|j
  ·exact Nu I.ok.kind j hc J go
  ·rcases Z with k|k
   ·have:X.env.scope.names.lookup x=some .free:=j
    rw[k]at this;cases this
   ·have:X.env.scope.names.lookup x=some .free:=j
    rw[k]at this;cases this
def ipI(f:Int->Int->Int):TIp:=λx y H Q=>∃i j,x=.int i/\y=.int j/\Q (.int (f i j)) H
def tZ:PIp X .Add (ipI λi j=>i+j):=by
 intro pins s σ H x y v u Q I r1 r2 h
 obtain⟨i,j,z,J,q⟩:=h
 subst z;subst J
 obtain⟨t,rfl⟩:=r1
 obtain⟨t',rfl⟩:=r2
 exact iadd_int ⟨.int _,H,I.tok _,⟨_,rfl⟩,q⟩
end
section
variable {X:Cx} {pos:FG}
def t0(c:TT)(tb:TS):TS:=λD σ H=>∃W:Nat->St->Hp->Prop,(∃m,W m σ H)/\∀m σ H,W m σ H->
 c σ H λb H1=>if b=true then ∃N:St->Hp->Prop,(∀j H',N j H'->∃z,z<m/\W z j H')/\tb {D with nx:=N,ct:=N,bk:=D.nx} σ H1 else D.nx σ H1
def YO{c:Fu}{J:List FC}{tc:TT}{tb:TS}(hp:Lc (Fx X.prog X.w) X.A X.env X.xe)(hc:PT X c tc)(hb:PSs X J tb):PS X (.While c J [] pos) (t0 tc tb):=by
 intro pins s σ H D I h
 obtain⟨W,⟨m0,w0⟩,turn⟩:=h
 refine wpAny_While (codeAny_whileLoop (λn s'=>∃O H',Inv X pins O H' s'/\W n O H') ?_ m0 ⟨σ,H,I,w0⟩)
 rintro n s1 ⟨z,H1,I1,w1⟩
 refine IN hp (thn (hc pins s1 z H1 _ I1 (turn n z H1 w1)) λb s2 ⟨H2,I2,q2⟩=>?_)
 cases b with
 | true=>
  obtain⟨N,hN,q2⟩:=q2
  rw[if_pos rfl]
  refine IN hp (thn (hb pins s2 z H2 _ I2 q2) λf s3 Y=>?_)
  cases f with
  | next=>
   obtain⟨j,U,Z,n3⟩:=Y
   obtain⟨m',hm,w3⟩:=hN j U n3
   exact⟨m',hm,j,U,Z,w3⟩
  | cont=>
   obtain⟨j,U,Z,n3⟩:=Y
   obtain⟨m',hm,w3⟩:=hN j U n3
   exact⟨m',hm,j,U,Z,w3⟩
  | brk=>exact Y
  | ret v=>exact Y
 | false=>
  rw[if_neg Gx]
  exact K9 ⟨z,H2,I2,q2⟩
end
structure It where
 go:Nat->Hp->Prop
 yld:Nat->Hp->V->Hp->Prop
 stop:Nat->Hp->Prop
def wF(X:Cx)(pins:List (Fo×FD))(H:Hp)(b:Fo):Prop :=
 H b=none/\b≠X.env.locals/\b∉X.fs/\(b∈X.ex\/X.s₀.heap.objs.size<=b)/\(∀x c,X.env.cells.lookup x=some c->c≠b)/\∀p∈X.pn++pins,p.1≠b
def Inv.fpOk(I:Inv X pins σ H s)(j:s.heap.objs.size<=b)(hn:H' b=none):wF X pins H' b:=by
 refine⟨hn,Kx (Gs I.lt j),I.nofs j,.inr (Ge I.sz j),λx c e z=>?_,λp J z=>?_⟩
 ·obtain⟨v,q⟩:=I.cell x c e
  exact absurd (Gs q.lt (by rw[z];exact j)) (Gy _)
 ·exact absurd (Gs (FV (I.pin p J).1) (by rw[z];exact j)) (Gy _)
structure Turn (P:FI) (w:FB) (K:Fs) (tg:Fu) (J:It) (fp:List Fo) (it:Fo) (tn:Nat->Fz->Prop):Prop where
 mem:it∈fp
 obj:∀i h,tn i h->∀b∈fp,∃o,h.get? b=some o/\∀v,o.data≠.cell v
 keep:∀i h h',tn i h->(∀b∈fp,∀o,h.get? b=some o->h'.get? b=some o)->tn i h'
 item:∀(X:Cx),X.prog=P->X.w=w->X.K=K->X.calm=true->∀(i:Nat) (pins:List (Fo×FD)) (s:Fq) (σ:St) (H:Hp) (E:Fl->Fq->Prop),Inv X pins σ H s->(∀b∈fp,wF X pins H b)->tn i s.heap->J.go i H->
  wpAny (Fx P w) X.A (Hu (.ref it)) (λr s1=>∃u,r=some u/\
   wpAny (Fx P w) X.A (Ld tg (.ref it) u) (λ_ s2=>∃x H',Inv X pins σ H' s2/\zI x u/\J.yld i H x H'/\tn (i+1) s2.heap/\∀b∈fp,H' b=none) E s1) E s
 done:∀(X:Cx),X.prog=P->X.w=w->X.K=K->X.calm=true->∀(i:Nat) (pins:List (Fo×FD)) (s:Fq) (σ:St) (H:Hp) (E:Fl->Fq->Prop),Inv X pins σ H s->(∀b∈fp,wF X pins H b)->tn i s.heap->J.stop i H->
  wpAny (Fx P w) X.A (Hu (.ref it)) (λr s1=>r=none/\Inv X pins σ H s1) E s
 self:∀(A:FW) (i:Nat) (s:Fq) (Q:Fl->Fq->Prop) (E:Fl->Fq->Prop),tn i s.heap->Q (.ref it) s->wpAny (Fx P w) A (pyIter (.ref it)) Q E s
abbrev TI:=St->Hp->(It->Hp->Prop)->Prop
def PIE(X:Cx)(pins:List (Fo×FD))(σ:St)(tg:Fu)(R:It->Hp->Prop)(j:Fl)(s2:Fq):Prop :=
 ∃(z:Fo) (fp:List Fo) (O:Nat->Fz->Prop) (J:It) (H':Hp),j=.ref z/\Inv X pins σ H' s2/\Turn X.prog X.w X.K tg J fp z O/\O 0 s2.heap/\(∀b∈fp,wF X pins H' b)/\R J H'
def PI(X:Cx)(tg iter:Fu)(j:TI):Prop :=
 ∀(pins:List (Fo×FD)) (s:Fq) (σ:St) (H:Hp) (R:It->Hp->Prop),Inv X pins σ H s->j σ H R->
  wpAny (Fx X.prog X.w) X.A (FJ iter X.env) (λv s1=>wpAny (Fx X.prog X.w) X.A (pyIter v) (PIE X pins σ tg R) X.xe s1) X.xe s
def hX{M: IK}{A: FW}{E: Fl->Fq->Prop}{s: Fq}{tg: Fu}{z: Fo}{u: Fl}{o: FD}{n: String}{vs: Array Fl}{Q: Unit->Fq->Prop}(J: s.heap.get? z=some o)(O: o.cls= .type n)(U: o.data= .fields vs) 
    (hn: ["enumerate", "zip", "dict_itemiterator", "dict_reverseitemiterator", "odict_iterator", "itertools.zip_longest", "itertools.pairwise"].contains n=false) (j: Q () s) : wpAny M A (Ld tg (.ref z) u) Q E s :=by
  unfold Ld
  cases tg <;>first
    | exact FS j
    | (cases u <;>first
        | exact FS j
        | (refine Ft (wpAny_load J ?_)
           rw[O, U]
           show wpAny M A (if(["enumerate", "zip", "dict_itemiterator", "dict_reverseitemiterator", "odict_iterator", "itertools.zip_longest", "itertools.pairwise"].contains n && vs[0]? ==some (Ib _))=true then _ else _) Q E s
           rw[if_neg (by intro h; rw[hn, Bool.false_and]at h; cases h)]
           exact FS j))
def Itl(K:Fs)(a:Fo):It :=
 ⟨λi H=>∃xs x,SqL K H a xs/\xs[i]?=some x,λi H x H'=>H'=H/\∀xs,SqL K H a xs->xs[i]?=some x,λi H=>∃xs,SqL K H a xs/\xs.length<=i⟩
def Itt(K:Fs)(a:Fo):It :=
 ⟨λi H=>∃xs x,SqT K H a xs/\xs[i]?=some x,λi H x H'=>H'=H/\∀xs,SqT K H a xs->xs[i]?=some x,λi H=>∃xs,SqT K H a xs/\xs.length<=i⟩
def Itr(lo:Int)(n:Nat):It:=⟨λi _=>i<n,λi H x H'=>H'=H/\x=.int (lo+i),λi _=>n<=i⟩
def QF{P:FI}{w:FB}{K:Fs}{tg:Fu}(a it:Fo):Turn P w K tg (Itl K a) [it] it (λi h=>h.IsListIter it a i) where
 mem:=by simp
 obj:=λi h st b hb=>by
  have e:b=it:=by simpa using hb
  subst e
  obtain⟨o,e,c,d⟩:=st
  exact⟨o,e,λv z=>by rw[d]at z;cases z⟩
 keep:=λi h h' st k=>st.at λo e=>k it (by simp) o e
 item:=by
  intro X hP hw hK hc i pins s σ H E I hf st hg
  subst hP hw hK
  obtain⟨xs,x,hq,hx⟩:=hg
  obtain⟨its,rv,p,hz⟩:=I.list hq
  obtain⟨u,hu,ru⟩:=rv.get hx
  obtain⟨f0,f1,f2,f3,f4,f5⟩:=hf it (by simp)
  refine Mg st p.isList (x:=u) (by simpa using hu) λh' st' sb=>?_
  have I1:Inv X pins σ H {s with heap:=h'}:=I.turned (t':=s.toks) (λb o hb e=>(sb.2 b hb).trans e) f0 f1 f3 f4 f5
  obtain⟨o,e,c,d⟩:=id st'
  exact⟨u,rfl,hX (s:={s with heap:=h'}) e c d (by decide) ⟨x,H,I1,ru,⟨rfl,λys hy=>by rw[I.list_inj hy hq];exact hx⟩,st',λb hb=>(hf b hb).1⟩⟩
 done:=by
  intro X hP hw hK hc i pins s σ H E I hf st hg
  subst hP hw hK
  obtain⟨xs,hq,hx⟩:=hg
  obtain⟨its,rv,p,hz⟩:=I.list hq
  obtain⟨f0,f1,f2,f3,f4,f5⟩:=hf it (by simp)
  have hl:=rv.length
  exact Mh (I.ok.hd hc) st p.isList (by simp;omega) λh' eb=>⟨rfl,I.turned (t':=s.toks) (λb o hb e=>eb b o hb e) f0 f1 f3 f4 f5⟩
 self:=λ_ _ _ _ _ st h=>wpAny_pyIter_listiter st h
def Vu{P:FI}{w:FB}{K:Fs}{tg:Fu}(a it:Fo):Turn P w K tg (Itt K a) [it] it (λi h=>h.IsTupleIter it a i) where
 mem:=by simp
 obj:=λi h st b hb=>by
  have e:b=it:=by simpa using hb
  subst e
  obtain⟨o,e,c,d⟩:=st
  exact⟨o,e,λv z=>by rw[d]at z;cases z⟩
 keep:=λi h h' st k=>st.at λo e=>k it (by simp) o e
 item:=by
  intro X hP hw hK hc i pins s σ H E I hf st hg
  subst hP hw hK
  obtain⟨xs,x,hq,hx⟩:=hg
  obtain⟨its,rv,p,hz⟩:=I.tuple hq
  obtain⟨u,hu,ru⟩:=rv.get hx
  obtain⟨f0,f1,f2,f3,f4,f5⟩:=hf it (by simp)
  refine wpAny_pyNext_tuple_item st (show s.heap.IsTuple a its.toArray from p) (x:=u) (by simpa using hu) λh' st' sb=>?_
  have I1:Inv X pins σ H {s with heap:=h'}:=I.turned (t':=s.toks) (λb o hb e=>(sb.2 b hb).trans e) f0 f1 f3 f4 f5
  obtain⟨o,e,c,d⟩:=id st'
  exact⟨u,rfl,hX (s:={s with heap:=h'}) e c d (by decide) ⟨x,H,I1,ru,⟨rfl,λys hy=>by rw[I.tuple_inj hy hq];exact hx⟩,st',λb hb=>(hf b hb).1⟩⟩
 done:=by
  intro X hP hw hK hc i pins s σ H E I hf st hg
  subst hP hw hK
  obtain⟨xs,hq,hx⟩:=hg
  obtain⟨its,rv,p,hz⟩:=I.tuple hq
  obtain⟨f0,f1,f2,f3,f4,f5⟩:=hf it (by simp)
  have hl:=rv.length
  exact wpAny_pyNext_tuple_end (I.ok.hd hc) st (show s.heap.IsTuple a its.toArray from p) (by simp;omega) λh' eb=>⟨rfl,I.turned (t':=s.toks) (λb o hb e=>eb b o hb e) f0 f1 f3 f4 f5⟩
 self:=λ_ _ _ _ _ st h=>wpAny_pyIter_tupleiter st h
def hZ{P:FI}{w:FB}{K:Fs}{tg:Fu}(it:Fo)(lo:Int)(n:Nat):Turn P w K tg (Itr lo n) [it] it (λi h=>IsRangeIter h it (lo+(i:Nat)*1) ((n:Int)-(i:Nat)) 1) where
 mem:=by simp
 obj:=λi h st b hb=>by
  have e:b=it:=by simpa using hb
  subst e
  exact⟨_,st,λv z=>by
   have z':Data.fields _=Data.cell v:=z
   cases z'⟩
 keep:=λi h h' st k=>k it (by simp) _ st
 item:=by
  intro X hP hw hK hc i pins s σ H E I hf st hg
  subst hP hw hK
  obtain⟨f0,f1,f2,f3,f4,f5⟩:=hf it (by simp)
  have W:=Walks.range (prog:=X.prog) (w:=X.w) (I.ok.hd hc) it lo 1 n
  refine W.item i s _ _ hg st λv h' tk hv st' kk=>?_
  obtain⟨t,rfl⟩:=hv
  have I1:Inv X pins σ H {s with heap:=h',toks:=tk}:=I.turned (λb o hb e=>kk b o (by simpa using hb) e) f0 f1 f3 f4 f5
  refine⟨_,rfl,hX (s:={s with heap:=h',toks:=tk}) (n:="range_iterator") st' rfl rfl (by decide) ⟨.int (lo+i),H,I1,⟨t,?_⟩,⟨rfl,rfl⟩,st',λb hb=>(hf b hb).1⟩⟩
  rw[Int.mul_one]
 done:=by
  intro X hP hw hK hc i pins s σ H E I hf st hg
  subst hP hw hK
  obtain⟨f0,f1,f2,f3,f4,f5⟩:=hf it (by simp)
  exact wpAny_pyNext_range_end (I.ok.hd hc) st (by have:n<=i:=hg;omega) λh' eb=>⟨rfl,I.turned (t':=s.toks) (λb o hb e=>eb b o hb e) f0 f1 f3 f4 f5⟩
 self:=λ_ _ _ _ _ st h=>wpAny_pyIter_rangeiter st h
end L2
namespace L2
open PySem PySem.Spec PyProof.Rows
section
variable {X:Cx} {tg:Fu}
def BM(K:Fs)(tl:TE):TI:=λσ H R=>tl σ H λx H1=>∃a,x=.ref a/\(∃xs,SqL K H1 a xs)/\R (Itl K a) H1
def Dx(K:Fs)(tl:TE):TI:=λσ H R=>tl σ H λx H1=>∃a,x=.ref a/\(∃xs,SqT K H1 a xs)/\R (Itt K a) H1
def Wb(z:PE X l tl):PI X tg l (BM X.K tl):=by
 intro pins s σ H R I h
 refine thn (z pins s σ H _ I h) λv s1 ⟨x,H1,j,r1,q1⟩=>?_
 obtain⟨a,e,⟨xs,J⟩,q⟩:=q1
 subst e
 cases r1
 obtain⟨its,U,p,Y⟩:=j.list J
 refine Ky p.isList ?_
 refine⟨s1.heap.objs.size,[s1.heap.objs.size],_,_,H1,rfl,j.kept (t':=s1.toks) λb o e=>FQ _ e,QF a _,⟨_,Gr _ rfl,rfl,rfl⟩,λb O=>?_,q⟩
 have e:b=s1.heap.objs.size:=by simpa using O
 subst e
 exact j.fpOk (FA _) (j.hok.fresh (FA _))
def Aa(z:PE X l tl):PI X tg l (Dx X.K tl):=by
 intro pins s σ H R I h
 refine thn (z pins s σ H _ I h) λv s1 ⟨x,H1,j,r1,q1⟩=>?_
 obtain⟨a,e,⟨xs,J⟩,q⟩:=q1
 subst e
 cases r1
 obtain⟨its,U,p,Y⟩:=j.tuple J
 refine IP (show s1.heap.IsTuple a its.toArray from p) ?_
 refine⟨s1.heap.objs.size,[s1.heap.objs.size],_,_,H1,rfl,j.kept (t':=s1.toks) λb o e=>FQ _ e,Vu a _,⟨_,Gr _ rfl,rfl,rfl⟩,λb O=>?_,q⟩
 have e:b=s1.heap.objs.size:=by simpa using O
 subst e
 exact j.fpOk (FA _) (j.hok.fresh (FA _))
def nP{pins:List (Fo×FD)}{σ:St}{H:Hp}{s:Fq}{R:It->Hp->Prop}{E:Fl->Fq->Prop}{lo hi:Int}{t u v:G8}{tk:Nat}(I:Inv X pins σ H s)(h1:-(2^62)<=lo)(h2:lo<2^62)(z:-(2^62)<=hi)(J:hi<2^62) 
  (q:R (Itr lo (hi-lo).toNat) H):wpAny (Fx X.prog X.w) X.A (pyIter (.ref s.heap.objs.size)) (PIE X pins σ tg R) E {s with heap:=s.heap.push {cls:=.type "range",data:=.fields #[.int lo t,.int hi u,.int 1 v]},toks:=tk}:=by
 refine wpAny_pyIter_range (IsRange.new ..) (small_one h1 h2 z J) ?_
 have j:Inv X pins σ H {s with heap:=s.heap.push {cls:=.type "range",data:=.fields #[.int lo t,.int hi u,.int 1 v]},toks:=tk}:=I.kept λb o e=>FQ _ e
 refine⟨(s.heap.push {cls:=.type "range",data:=.fields #[.int lo t,.int hi u,.int 1 v]}).objs.size,[(s.heap.push {cls:=.type "range",data:=.fields #[.int lo t,.int hi u,.int 1 v]}).objs.size],_,_,H,rfl,
  j.kept (t':=tk) λb o e=>FQ _ e,hZ _ lo (hi-lo).toNat,?_,λb O=>?_,q⟩
 ·have U:lo+((0:Nat):Int)*1=lo:=by simp
  have Y:(((hi-lo).toNat:Nat):Int)-((0:Nat):Int)=PL lo hi 1:=by rw[rangeSize_one];split <;>omega
  show IsRangeIter _ _ (lo+((0:Nat):Int)*1) ((((hi-lo).toNat:Nat):Int)-((0:Nat):Int)) 1
  rw[U,Y]
  exact Gr _ rfl
 ·have e:b=(s.heap.push {cls:=.type "range",data:=.fields #[.int lo t,.int hi u,.int 1 v]}).objs.size:=by simpa using O
  subst e
  exact j.fpOk (FA _) (j.hok.fresh (FA _))
def BN(ta:TA):TI:=λσ H R=>ta σ H λvs H1=>∃j:Int,vs=[.int j]/\-(2^62)<=j/\j<2^62/\R (Itr 0 j.toNat) H1
def QG(z:Gl X "range")(J:X.mg "range"=none)(O:PA X [a] ta)(U:FK [a] X.env=[(false,FJ a X.env)]:=by rfl):PI X tg (.Call (.Name "range" p) [a] [] pos) (BN ta):=by
 intro pins s σ H R I h
 refine Ke (vY I z J boot_range (IQ (thn (O pos pins s σ H _ I h) λus s1 ⟨vs,H1,Y,r1,q1⟩=>?_) U rfl))
 obtain⟨j,e,q1,q2,q⟩:=q1
 subst e
 cases r1 with
 | cons r Z=>
  cases Z
  obtain⟨t,rfl⟩:=r
  exact call_range_1 (nP Y (by omega) (by omega) q1 q2 (by simpa using q))
def Dy(U:TI)(g:TG)(tb:TS):TS:=λD σ H=>U σ H λJ H1=>∃W:Nat->Nat->St->Hp->Prop,(∃m,W 0 m σ H1)/\∀i m σ H,W i m σ H->
 (J.stop i H/\D.nx σ H)\/(J.go i H/\∃N:St->Hp->Prop,(∀j H',N j H'->∃O,O<m/\W (i+1) O j H')/\∀x H',J.yld i H x H'->g x σ H' λz H2=>tb {D with nx:=N,ct:=N,bk:=D.nx} z H2)
def Xw(fp:List Fo)(h:Fz):List (Fo×FD):=fp.filterMap λb=>(h.get? b).map λo=>(b,o)
def YQ(j:b∈fp)(e:h.get? b=some o):(b,o)∈Xw fp h:=NB.mpr ⟨b,j,by rw[e];rfl⟩
def lK(j:p∈Xw fp h):p.1∈fp/\h.get? p.1=some p.2:=by
 obtain⟨b,z,e⟩:=NB.mp j
 cases q:h.get? b with
 | none=>rw[q]at e;cases e
 | some o=>
  rw[q]at e
  have J:(b,o)=p:=GG e
  subst J
  exact⟨z,q⟩
def Inv.pinned(I:Inv X pins σ H s)(O:∀b∈fp,wF X pins H b)(U:∀b∈fp,∃o,s.heap.get? b=some o/\∀v,o.data≠.cell v):Inv X (pins++Xw fp s.heap) σ H s :=
 I.pins_of λp Y=>(Gk.mp Y).elim (λz=>I.pin p (GV _ z)) λz=>by
  obtain⟨j,e⟩:=lK z
  obtain⟨Z,f1,f2,_⟩:=O p.1 j
  obtain⟨o,J,d⟩:=U p.1 j
  rw[e]at J;cases J
  exact⟨e,Z,f1,f2,d⟩
def Inv.unpinned(I:Inv X (pins++pl) σ H s):Inv X pins σ H s:=I.pins_of λp j=>I.pin p (GV _ (He _ j))
def uD{iter:Fu}{body:List FC}{wi:TI}{g:TG}{tb:TS}{pos:FG}(hp:Lc (Fx X.prog X.w) X.A X.env X.xe)(hc:X.calm=true)(hi:PI X tg iter wi)(hg:PG X tg g)(hb:PSs X body tb) 
  (hs:∀x,Ir iter X.env x=pure x:=by intro _;rfl):PS X (.For tg iter body [] pos) (Dy wi g tb):=by
 intro pins s σ H D I h
 refine wpAny_For (thn (hi pins s σ H _ I h) λv s1 h1=>thn h1 λitv s2 h2=>?_) hs
 obtain⟨it,fp,tn,J,H2,e,I2,T,st2,f2,W,⟨m0,w0⟩,turn⟩:=h2
 subst e
 have stat:∀{H':Hp},(∀b∈fp,H' b=none)->∀b∈fp,wF X pins H' b:=λhn b hb=>⟨hn b hb,(f2 b hb).2⟩
 refine codeAny_forLoop_any (λn s'=>∃i σ' H',Inv X pins σ' H' s'/\tn i s'.heap/\(∀b∈fp,H' b=none)/\W i n σ' H') ?_ m0 ⟨0,σ,H2,I2,st2,λb hb=>(f2 b hb).1,w0⟩
 rintro n s3 ⟨i,σ3,H3,I3,st3,fr3,w3⟩
 rcases turn i n σ3 H3 w3 with⟨stop,qn⟩|⟨go,N,hN,step⟩
 ·refine IN hp (thn (T.done X rfl rfl rfl hc i pins s3 σ3 H3 X.xe I3 (stat fr3) st3 stop) λr s4 ⟨hr,I4⟩=>?_)
  subst hr
  exact K9 ⟨σ3,H3,I4,qn⟩
 ·refine IN hp (thn (T.item X rfl rfl rfl hc i pins s3 σ3 H3 X.xe I3 (stat fr3) st3 go) λr s4 ⟨u,hr,h4⟩=>?_)
  subst hr
  refine IN hp (thn h4 λ_ s5 ⟨x,H5,I5,r5,y5,st5,fr5⟩=>?_)
  have I5':=I5.pinned (stat fr5) (T.obj _ _ st5)
  refine IN hp (thn (hg _ s5 σ3 H5 x u _ I5' r5 (step x H5 y5)) λ_ s6 ⟨σ6,H6,I6,q6⟩=>?_)
  refine IN hp (thn (hb _ s6 σ6 H6 _ I6 q6) λf s7 q7=>?_)
  have Kz:∀{σ7:St} {H7:Hp},Inv X (pins++Xw fp s5.heap) σ7 H7 s7->N σ7 H7->∃m,m<n/\∃i σ' H',Inv X pins σ' H' s7/\tn i s7.heap/\(∀b∈fp,H' b=none)/\W i m σ' H':=λ{σ7 H7} I7 n7=>by
   obtain⟨m',hm,w7⟩:=hN σ7 H7 n7
   refine⟨m',hm,i+1,σ7,H7,I7.unpinned,T.keep _ _ _ st5 λb hb o e=>(I7.pin (b,o) (GV _ (GV _ (YQ hb e)))).1,λb hb=>?_,w7⟩
   obtain⟨o,e,d⟩:=T.obj _ _ st5 b hb
   exact(I7.pin (b,o) (GV _ (GV _ (YQ hb e)))).2.1
  cases f with
  | next=>obtain⟨σ7,H7,I7,n7⟩:=q7;exact Kz I7 n7
  | cont=>obtain⟨σ7,H7,I7,n7⟩:=q7;exact Kz I7 n7
  | brk=>obtain⟨σ7,H7,I7,q7⟩:=q7;exact⟨σ7,H7,I7.unpinned,q7⟩
  | ret v=>obtain⟨x7,σ7,H7,I7,r7,q7⟩:=q7;exact⟨x7,σ7,H7,I7.unpinned,r7,q7⟩
end
def YR{K:Fs}{a:Fo}{xs:List V}{g:TG}{tb:TS}{D:Ends}{σ:St}{H:Hp}(j:Nat->St->Hp->Prop)(Y:j 0 σ H)(Z:∀i σ H,i<=xs.length->j i σ H->SqL K H a xs) 
  (hs:∀i x σ H,xs[i]?=some x->j i σ H->g x σ H λz H2=>tb {D with nx:=j (i+1),ct:=j (i+1),bk:=D.nx} z H2) (hd:∀σ H,j xs.length σ H->D.nx σ H) :
  ∃W:Nat->Nat->St->Hp->Prop,(∃m,W 0 m σ H)/\∀i m σ H,W i m σ H->
   ((Itl K a).stop i H/\D.nx σ H)\/((Itl K a).go i H/\∃N:St->Hp->Prop,(∀J H',N J H'->∃U,U<m/\W (i+1) U J H')/\∀x H',(Itl K a).yld i H x H'->g x σ H' λz H2=>tb {D with nx:=N,ct:=N,bk:=D.nx} z H2):=by
 refine⟨λi m σ H=>m=xs.length-i/\i<=xs.length/\j i σ H,⟨xs.length,by simp,GI _,Y⟩,?_⟩
 rintro i m σ H ⟨rfl,hi,p⟩
 have q:=Z i σ H hi p
 by_cases O:i<xs.length
 ·refine .inr ⟨⟨xs,xs[i],q,by simp[O]⟩,j (i+1),λJ H' p'=>⟨xs.length-(i+1),by omega,rfl,O,p'⟩,λx H' y=>?_⟩
  obtain⟨e,y⟩:=y
  subst e
  exact hs i x σ _ (y xs q) p
 ·have e:i=xs.length:=by omega
  subst e
  exact .inl ⟨⟨xs,q,FA _⟩,hd σ H p⟩
end L2
namespace L2
open PySem PySem.Spec PyProof.Rows
abbrev R2:=V->V->Hp->VK->Prop
def OpR(X:Cx)(f:Fl->Fl->GH Fl)(r:R2):Prop :=
 ∀(pins:List (Fo×FD)) (s:Fq) (σ:St) (H:Hp) (x y:V) (v u:Fl) (Q:VK),Inv X pins σ H s->zI x v->zI y u->r x y H Q->
  wpAny (Fx X.prog X.w) X.A (f v u) (EP X pins σ Q) X.xe s
def UnR(X:Cx)(f:Fl->GH Fl)(r:V->Hp->VK->Prop):Prop :=
 ∀(pins:List (Fo×FD)) (s:Fq) (σ:St) (H:Hp) (x:V) (v:Fl) (Q:VK),Inv X pins σ H s->zI x v->r x H Q->
  wpAny (Fx X.prog X.w) X.A (f v) (EP X pins σ Q) X.xe s
def vI(X:Cx)(f:Fl)(r:List V->Hp->VK->Prop):Prop :=
 ∀(pins:List (Fo×FD)) (s:Fq) (σ:St) (H:Hp) (xs:List V) (us:List Fl) (Q:VK),Inv X pins σ H s->zC xs us->r xs H Q->
  wpAny (Fx X.prog X.w) X.A (call f us) (EP X pins σ Q) X.xe s
def tOp(r:R2)(ta tb:TE):TE:=λσ H Q=>ta σ H λx H1=>tb σ H1 λy H2=>r x y H2 Q
def tUn(r:V->Hp->VK->Prop)(ta:TE):TE:=λσ H Q=>ta σ H λx H1=>r x H1 Q
def rI(C:Int->Int->Prop)(g:Int->Int->V):R2:=λx y H Q=>∃i j,x=.int i/\y=.int j/\C i j/\Q (g i j) H
def rI0(g:Int->Int->V):R2:=λx y H Q=>∃i j,x=.int i/\y=.int j/\Q (g i j) H
def rU(g:Int->V):V->Hp->VK->Prop:=λx H Q=>∃i,x=.int i/\Q (g i) H
section
variable {X:Cx} {a b c:Fu} {ta tb tc:TE} {pos:FG}
def nQ(J:PE X a ta)(O:PE X b tb){pins:List (Fo×FD)}{s:Fq}{σ:St}{H:Hp}{R:V->V->Hp->Prop}(I:Inv X pins σ H s) 
  (h:ta σ H λx H1=>tb σ H1 λy H2=>R x y H2) {Q:Fl->Fq->Prop} {f:Fl->Fl->GH Fl}
  (U:∀v u s2 x y H2,Inv X pins σ H2 s2->zI x v->zI y u->R x y H2->wpAny (Fx X.prog X.w) X.A (f v u) Q X.xe s2) :
  wpAny (Fx X.prog X.w) X.A (FJ a X.env) (λv j=>wpAny (Fx X.prog X.w) X.A (FJ b X.env) (λu z=>wpAny (Fx X.prog X.w) X.A (f v u) Q X.xe z) X.xe j) X.xe s:=by
 refine thn (J pins s σ H _ I h) λv s1 ⟨x,H1,Y,r1,q1⟩=>?_
 refine thn (O pins s1 σ H1 _ Y q1) λu s2 ⟨y,H2,Z,r2,q2⟩=>?_
 exact U v u s2 x y H2 Z r1 r2 q2
def iA(j:OpR X (GW z) r)(J:PE X a ta)(O:PE X b tb):PE X (.BinOp a z b pos) (tOp r ta tb):=by
 intro pins s σ H Q I h
 exact wpAny_BinOp (nQ J O I h λv u s2 x y H2 U Y Z q=>j pins s2 σ H2 x y v u Q U Y Z q)
def BP{r:V->Hp->VK->Prop}(z:UnR X (unaryOp J) r)(O:PE X a ta):PE X (.UnaryOp J a pos) (tUn r ta):=by
 intro pins s σ H Q I h
 exact UnaryOp_ (thn (O pins s σ H _ I h) λv s1 j=>(by obtain⟨x,H1,U,r1,q1⟩:=j;exact z pins s1 σ H1 x v Q U r1 q1))
def opI{f:Fl->Fl->GH Fl}{C:Int->Int->Prop}{g:Int->Int->Int} 
  (Iu:∀(i j:Int) (t u:G8) (s:Fq) (Q:Fl->Fq->Prop) (E:Fl->Fq->Prop),C i j->Q (.int (g i j) s.toks) {s with toks:=s.toks+1}->wpAny (Fx X.prog X.w) X.A (f (.int i t) (.int j u)) Q E s) :
  OpR X f (rI C λi j=>.int (g i j)):=by
 intro pins s σ H x y v u Q I z J h
 obtain⟨i,j,rfl,rfl,O,q⟩:=h
 obtain⟨t,rfl⟩:=z
 obtain⟨t',rfl⟩:=J
 exact Iu i j t t' s _ _ O ⟨.int (g i j),H,I.tok _,⟨_,rfl⟩,q⟩
def Ab{f:Fl->Fl->GH Fl}{g:Int->Int->Int} 
  (Iu:∀(i j:Int) (t u:G8) (s:Fq) (Q:Fl->Fq->Prop) (E:Fl->Fq->Prop),Q (.int (g i j) s.toks) {s with toks:=s.toks+1}->wpAny (Fx X.prog X.w) X.A (f (.int i t) (.int j u)) Q E s) :
  OpR X f (rI0 λi j=>.int (g i j)):=by
 intro pins s σ H x y v u Q I z J h
 obtain⟨i,j,rfl,rfl,q⟩:=h
 obtain⟨t,rfl⟩:=z
 obtain⟨t',rfl⟩:=J
 exact Iu i j t t' s _ _ ⟨.int (g i j),H,I.tok _,⟨_,rfl⟩,q⟩
def nR{f:Fl->Fl->GH Fl}{g:Int->Int->Bool} 
  (Iu:∀(i j:Int) (t u:G8) (s:Fq) (Q:Fl->Fq->Prop) (E:Fl->Fq->Prop),Q (.bool (g i j)) s->wpAny (Fx X.prog X.w) X.A (f (.int i t) (.int j u)) Q E s) :
  OpR X f (rI0 λi j=>.bl (g i j)):=by
 intro pins s σ H x y v u Q I z J h
 obtain⟨i,j,rfl,rfl,q⟩:=h
 obtain⟨t,rfl⟩:=z
 obtain⟨t',rfl⟩:=J
 exact Iu i j t t' s _ _ ⟨.bl (g i j),H,I,rfl,q⟩
def nS(i j:Int):Prop:=0<j/\j<1073741824
def J8(i j:Int):Prop:=(-(2^64)<i/\i<2^64)\/(-(2^64)<j/\j<2^64)
def J8.ok{i j:Int}(h:J8 i j):IntMulOk i j:=by
 rcases h with⟨h1,h2⟩|⟨h1,h2⟩
 ·exact .of_left (NC h1 h2)
 ·exact .of_right (NC h1 h2)
def lL:OpR X (GW .Add) (rI0 λi j=>.int (i+j)):=Ab λ_ _ _ _ _ _ _ q=>add_int q
def Xx:OpR X (GW .Sub) (rI0 λi j=>.int (i-j)):=Ab λ_ _ _ _ _ _ _ q=>sub_int q
def uE:OpR X (GW .Mult) (rI J8 λi j=>.int (i*j)):=opI λ_ _ _ _ _ _ _ z q=>mul_int q z.ok
def eV:OpR X (GW .FloorDiv) (rI nS λi j=>.int (i/j)):=opI λi j _ _ _ _ _ hc q=>by
 have h1:(0:Int)<j:=hc.1
 have h2:j<1073741824:=hc.2
 exact floordiv_int (by omega) (by rw[ND i (by omega)];exact q) (.inl (NE (by omega)))
def Zj:OpR X (GW .Mod) (rI (λ_ j=>0<j) λi j=>.int (i%j)):=opI λi j _ _ _ _ _ z q=>by
 have h1:(0:Int)<j:=z
 exact mod_int' (by omega) (by rw[NF i (by omega)];exact q)
def unI{f:Fl->GH Fl}{g:Int->Int} 
  (Iu:∀(i:Int) (t:G8) (s:Fq) (Q:Fl->Fq->Prop) (E:Fl->Fq->Prop),Q (.int (g i) s.toks) {s with toks:=s.toks+1}->wpAny (Fx X.prog X.w) X.A (f (.int i t)) Q E s) :
  UnR X f (rU λi=>.int (g i)):=by
 intro pins s σ H x v Q I j h
 obtain⟨i,rfl,q⟩:=h
 obtain⟨t,rfl⟩:=j
 exact Iu i t s _ _ ⟨.int (g i),H,I.tok _,⟨_,rfl⟩,q⟩
def Ac:UnR X (unaryOp .USub) (rU λi=>.int (-i)):=unI λ_ _ _ _ _ q=>neg_int q
end
def Ad:V->V->Bool
 | .non,.non=>true|.non,.int _=>true|.int _,.non=>true|.non,.bl _=>true|.bl _,.non=>true|.non,.str _=>true|.str _,.non=>true
 | .int _,.int _=>true|.bl _,.bl _=>true|.str _,.str _=>true|.byt _,.byt _=>true
 | .int _,.str _=>true|.str _,.int _=>true|.bl _,.str _=>true|.str _,.bl _=>true
 | _,_=>false
def rEq:R2:=λx y H Q=>Ad x y=true/\Q (.bl (decide (x=y))) H
def rNe:R2:=λx y H Q=>Ad x y=true/\Q (.bl (!decide (x=y))) H
def eW{i j:Int}:decide (V.int i=V.int j)=(i==j):=by
 rw[Iv]
 simp
def lM:decide (V.bl i=V.bl j)=(i==j):=by
 rw[Iv]
 simp
def eX:decide (V.str i=V.str j)=(i==j):=by
 rw[Iv]
 simp
def eY:decide (V.byt i=V.byt j)=(i.toList==j.toList):=by
 rw[Iv]
 cases i
 cases j
 simp
section
variable {X:Cx} {a b c:Fu} {ta tb tc:TE} {pos:FG}
def ym(I:Inv X pins σ H s)(q:Q (.bl k) H)(e:k=j):EP X pins σ Q (.bool j) s:=by
 subst e
 exact⟨.bl k,H,I,rfl,q⟩
def BQ:OpR X (Gz .Eq) rEq:=by
 intro pins s σ H x y v u Q I O z h
 obtain⟨J,q⟩:=h
 cases x with
 | non=>
  cases O
  cases y with
  | non=>cases z;exact PN (ym I q (by simp))
  | bl j=>cases z;exact PO (ym I q (by simp))
  | int j=>obtain⟨t',rfl⟩:=z;exact PP (ym I q (by simp))
  | str j=>obtain⟨t',rfl⟩:=z;exact PQ (ym I q (by simp))
  | _=>exact absurd (show false=true from J) Gx
 | bl i=>
  cases O
  cases y with
  | non=>cases z;exact PR (ym I q (by simp))
  | bl j=>cases z;exact eq_bool (ym I q lM)
  | str j=>obtain⟨t',rfl⟩:=z;exact PU (ym I q (by simp))
  | _=>exact absurd (show false=true from J) Gx
 | int i=>
  obtain⟨t,rfl⟩:=O
  cases y with
  | non=>cases z;exact PV (ym I q (by simp))
  | int j=>obtain⟨t',rfl⟩:=z;exact eq_int (ym I q eW)
  | str j=>obtain⟨t',rfl⟩:=z;exact PX (ym I q (by simp))
  | _=>exact absurd (show false=true from J) Gx
 | str i=>
  obtain⟨t,rfl⟩:=O
  cases y with
  | non=>cases z;exact PY (ym I q (by simp))
  | bl j=>cases z;exact PZ (ym I q (by simp))
  | int j=>obtain⟨t',rfl⟩:=z;exact P0 (ym I q (by simp))
  | str j=>obtain⟨t',rfl⟩:=z;exact eq_str (ym I q eX)
  | _=>exact absurd (show false=true from J) Gx
 | byt i=>
  obtain⟨t,rfl⟩:=O
  cases y with
  | byt j=>obtain⟨t',rfl⟩:=z;exact PySem.W.eq_bytes (ym I q eY)
  | _=>exact absurd (show false=true from J) Gx
 | _=>cases y <;>exact absurd (show false=true from J) Gx
def BR:OpR X (Gz .NotEq) rNe:=by
 intro pins s σ H x y v u Q I O z h
 obtain⟨J,q⟩:=h
 cases x with
 | non=>
  cases O
  cases y with
  | non=>cases z;exact P1 (ym I q (by simp))
  | bl j=>cases z;exact P2 (ym I q (by simp))
  | int j=>obtain⟨t',rfl⟩:=z;exact P3 (ym I q (by simp))
  | str j=>obtain⟨t',rfl⟩:=z;exact P4 (ym I q (by simp))
  | _=>exact absurd (show false=true from J) Gx
 | bl i=>
  cases O
  cases y with
  | non=>cases z;exact P5 (ym I q (by simp))
  | bl j=>cases z;exact ne_bool (ym I q (congrArg not lM))
  | str j=>obtain⟨t',rfl⟩:=z;exact P6 (ym I q (by simp))
  | _=>exact absurd (show false=true from J) Gx
 | int i=>
  obtain⟨t,rfl⟩:=O
  cases y with
  | non=>cases z;exact P7 (ym I q (by simp))
  | int j=>obtain⟨t',rfl⟩:=z;exact ne_int (ym I q (congrArg not eW))
  | str j=>obtain⟨t',rfl⟩:=z;exact P8 (ym I q (by simp))
  | _=>exact absurd (show false=true from J) Gx
 | str i=>
  obtain⟨t,rfl⟩:=O
  cases y with
  | non=>cases z;exact P9 (ym I q (by simp))
  | bl j=>cases z;exact Ra (ym I q (by simp))
  | int j=>obtain⟨t',rfl⟩:=z;exact Rb (ym I q (by simp))
  | str j=>obtain⟨t',rfl⟩:=z;exact ne_str (ym I q (congrArg not eX))
  | _=>exact absurd (show false=true from J) Gx
 | byt i=>
  obtain⟨t,rfl⟩:=O
  cases y with
  | byt j=>obtain⟨t',rfl⟩:=z;exact PySem.W.ne_bytes (ym I q (congrArg not eY))
  | _=>exact absurd (show false=true from J) Gx
 | _=>cases y <;>exact absurd (show false=true from J) Gx
def Wc:OpR X (Gz .Lt) (rI0 λi j=>.bl (decide (i<j))):=nR λ_ _ _ _ _ _ _ q=>lt_int q
def Vv:OpR X (Gz .LtE) (rI0 λi j=>.bl (decide (i<=j))):=nR λ_ _ _ _ _ _ _ q=>le_int q
def qO:OpR X (Gz .Gt) (rI0 λi j=>.bl (decide (j<i))):=nR λ_ _ _ _ _ _ _ q=>gt_int q
def UK:OpR X (Gz .IsNot) (λx y H Q=>y=.non/\Q (.bl (!decide (x=.non))) H):=by
 intro pins s σ H x y v u Q I j z h
 obtain⟨rfl,q⟩:=h
 cases z
 refine isnot_none_gen (ym I q ?_)
 cases x <;>first
  | (cases j;rfl)
  | (obtain⟨t,rfl⟩:=j;rfl)
def OpR.or(h:OpR X f r)(h':OpR X f J):OpR X f (λx y H Q=>r x y H Q\/J x y H Q):=by
 intro pins s σ H x y v u Q I j z q
 rcases q with q|q
 ·exact h pins s σ H x y v u Q I j z q
 ·exact h' pins s σ H x y v u Q I j z q
def yk(b:Fu)(h:j≠.In:=by decide)(h2:j≠.NotIn:=by decide):IL j b=false:=by
 have z:(j==CmpOp.In)=false:=by cases j <;>first|rfl|exact absurd rfl h
 have J:(j==CmpOp.NotIn)=false:=by cases j <;>first|rfl|exact absurd rfl h2
 cases b <;>simp[IL,z,J]
def UL(z:OpR X (Gz j) r)(J:PE X a ta)(O:PE X b tb)(U:IL j b=false):PE X (.Compare a [j] [b] pos) (tOp r ta tb):=by
 intro pins s σ H Q I h
 exact wpAny_Compare1 (nQ J O I h λv u s2 x y H2 Y Z ry q=>z pins s2 σ H2 x y v u Q Y Z ry q) U
def BS(t:TE):TT:=λσ H Q=>t σ H λx H'=>∃k,x=.bl k/\Q k H'
def Ye(J:OpR X (Gz j) r)(O:PE X a ta)(U:PE X b tb)(Y:IL j b=false):PT X (.Compare a [j] [b] pos) (BS (tOp r ta tb)):=by
 intro pins s σ H Q I h
 refine Nw (thn (O pins s σ H _ I h) λv s1 ⟨x,H1,Z,r1,q1⟩=>thn (U pins s1 σ H1 _ Z q1) λu s2 ⟨y,H2,I2,r2,q2⟩=>
  thn (J pins s2 σ H2 x y v u _ I2 r1 r2 q2) λc s3 ⟨z,H3,I3,r3,k,e,q3⟩=>?_) Y
 subst e
 cases r3
 exact IM ⟨H3,I3,q3⟩
def lN(r J:R2)(ta tb tc:TE):TE:=λσ H Q=>ta σ H λx H1=>tb σ H1 λy H2=>r x y H2 λz j=>∃k,z=.bl k/\
 (if k=true then tc σ j λO U=>J y O U Q else Q (.bl false) j)
def nT{op op':Kc}{r r':R2}(ho:OpR X (Gz op) r)(ho':OpR X (Gz op') r')(ha:PE X a ta)(hb:PE X b tb)(hc:PE X c tc) 
  (hm:lastMarks [op,op'] [b,c]=false:=by with_unfolding_all rfl):PE X (.Compare a [op,op'] [b,c] pos) (lN r r' ta tb tc):=by
 intro pins s σ H Q I h
 refine Compare_chain (thn (ha pins s σ H _ I h) λv s1 ⟨x,H1,I1,r1,q1⟩=>chain_link (thn (hb pins s1 σ H1 _ I1 q1) λu s2 ⟨y,H2,I2,r2,q2⟩=>
  thn (ho pins s2 σ H2 x y v u _ I2 r1 r2 q2) λd s3 ⟨z,H3,I3,r3,k,e,q3⟩=>?_)) hm
 subst e
 cases r3
 refine IM ?_
 cases k with
 | false=>exact ite_ff ⟨.bl false,H3,I3,rfl,q3⟩
 | true=>exact ite_tt (chain_last (thn (hc pins s3 σ H3 _ I3 q3) λw' s4 hh6'=>(by obtain⟨z',H4,I4,r4,q4⟩:=hh6';exact ho' pins s4 σ H4 y z' u w' Q I4 r2 r4 q4)))
def Vw:(Fv:Nat)<2^63:=by rw[HG];decide
def Wd(r:zC [x] us):∃u,us=[u]/\zI x u:=by
 cases r with
 | cons r1 r2=>cases r2;exact⟨_,rfl,r1⟩
def BU(r:zC [x,y] us):∃u j,us=[u,j]/\zI x u/\zI y j:=by
 cases r with
 | cons r1 r2=>
  cases r2 with
  | cons z J=>cases J;exact⟨_,_,rfl,r1,z⟩
def eE:vI X (.builtin "divmod") (λxs H Q=>∃i j,xs=[.int i,.int j]/\nS i j/\∀p,H p=none->Q (.ref p) (upd H p (.tup [.int (i/j),.int (i%j)]))):=by
 intro pins s σ H xs us Q I r h
 obtain⟨i,j,rfl,⟨h1,h2⟩,q⟩:=h
 obtain⟨u,w',rfl,⟨t,rfl⟩,⟨t',rfl⟩⟩:=BU r
 refine divmod_int (by omega) ?_ (.inl (NE (by omega)))
 rw[ND i (by omega),NF i (by omega)]
 have hn:H s.heap.objs.size=none:=I.hok.fresh (FA _)
 refine⟨.ref s.heap.objs.size,_,?_,rfl,q _ hn⟩
 refine I.laid (λb o e=>FQ _ e) (FA _) ⟨by simp only[Gu,KA];rw[HG];decide,[.int (i/j) s.toks,.int (i%j) (s.toks+1)],.cons ⟨_,rfl⟩ (.cons ⟨_,rfl⟩ .nil),?_⟩
 exact⟨_,Gr s.heap rfl,rfl,0,rfl⟩
end
end L2
namespace L2
open PySem PySem.Spec PyProof.Rows
structure ObjM (h:Fz) (x dx C:Fo) (mA:Fp->Option Fl):Prop where
 obj:h.get? x=some (Iq C dx)
 ns:h.Ns1 dx mA
 ne:dx≠x
def lO{h:Fz}{dx:Fo}{mA:Fp->Option Fl}(n:h.Ns1 dx mA):∃J,h.get? dx=some J/\∀name,Le name J=some (mA name):=by
 obtain⟨o,es,ep,O,U,Y,_,Z⟩:=n
 refine⟨o,O,λname=>?_⟩
 have e:=Z name
 unfold nsFind findBy at e
 rw[<-Array.find?_toList]at e
 unfold Le
 rw[U]
 dsimp only
 split
 ·rename_i y q
  rw[q]at e
  exact congrArg some e
 ·rename_i q
  rw[q]at e
  have a:es.toList.any (·.refKey)=false:=by
   rw[List.any_eq_false]
   intro y hy
   obtain⟨z,t,j⟩:=Y y (Array.mem_toList_iff.mp hy)
   simp[DictEntry.refKey,j]
  have a':¬es.toList.any (·.refKey)=true:=by rw[a];exact Gx
  rw[if_neg a']
  exact congrArg some e
def ObjM.look(I:ObjM h x dx C mA):∃j,PySem.W.InstAt h x (Iq C dx) C (some j)/\∀name,Le name j=some (mA name) :=
 let ⟨j,z,J⟩:=lO I.ns
 ⟨j,⟨I.obj,rfl,rfl,z⟩,J⟩
section
variable {prog:FI} {w:FB} {A:FW} {E:Fl->Fq->Prop} {s:Fq} {K:Fs} {x dx C f:Fo} {mA:Fp->Option Fl} {name:Fp} {v:Fl}
def rK{j:Bool}{Q:Fl->Fq->Prop}(X:K.In s.heap)(I:ObjM s.heap x dx C mA)(O:Kf K C name=true)(U:KB K C=true) 
  (Y:Hg K (.ref C) name=some none) (Z:mA name=some v) (z:NG v=true) (h:Q v {s with toks:=s.toks+1}) :
  wpAny (Fx prog w) A (getAttr (.ref x) name j) Q E s:=by
 obtain⟨od,J,hl⟩:=I.look
 exact PySem.W.get_value X J (Mi O).1 (PySem.W.findObj_own U Y rfl (by rw[hl,Z])) z h
def nU{pl:GH Bool}{Q:Fl×List Fl->Fq->Prop}(X:K.In s.heap)(I:ObjM s.heap x dx C mA)(j:Kf K C name=true) 
  (z:Hg K (.ref C) name=some (some (.ref f))) (O:Lf K (.ref f)=true) (U:mA name=none) (h:Q (.ref f,[.ref x]) s) :
  wpAny (Fx prog w) A (Lg (.ref x) name pl) Q E s:=by
 obtain⟨Y,J,Z⟩:=I.look
 exact PySem.W.method_fn X J (Mi j).1 (Mi j).2 z (beq_iff_eq.mp O) (by show(Le name Y).map (·.isSome)=some false;rw[Z,U];rfl) h
def rL{ns:List Fp}{Q:Unit->Fq->Prop}(X:K.In s.heap)(I:ObjM s.heap x dx C mA) 
  (hs:Hg K (.ref C) "__setattr__"=some (some (.builtin "object.__setattr__"))) (hp:Lh K C=true) (ht:Mj K C name=some none) (hh:KB K C=true)
  (hw:L7 mA ns) (hsz:ns.length<=Fv)
  (h:∀h',ObjM h' x dx C (λy=>if y=name then some v else mA y)->Ka dx s.heap h'->Q () {s with heap:=h',toks:=s.toks+2}) :
  wpAny (Fx prog w) A (setAttr (.ref x) name v) Q E s:=by
 obtain⟨od,J,hl⟩:=I.look
 refine PySem.W.set_plain X J hs (PySem.W.osa_open (s:={s with toks:=s.toks+1}) (r:=none) X J hp ht λb=>?_)
 obtain⟨cd,hc,O⟩:=PySem.W.any_some hh
 have hx:s.heap.get? x=some ⟨.ref C,some dx,.plain,#[]⟩:=I.obj
 refine Ft (FS (Ft (Ft (wpAny_loadPart hx (Ft (Rc (s:={s with toks:=s.toks+1}) (PySem.W.looks_clsIn X hc) ?_))))))
 rw[O]
 refine FS (a:=some dx) (Ft (FS (Ft ?_)))
 refine wpAny_nsSet1 (s:={s with toks:=s.toks+1}) I.ns λh' j z=>?_
 obtain⟨oD,aa,ab,U,Y,Z⟩:=j.count (Re name v hw)
 refine Ft (wpAny_lookBehind U (by rw[Y];exact pastItsLine_dict (Ge Z (by rw[Gu];omega))) ?_)
 exact FS (h _ ⟨(z.2 _ (FH I.ne)).trans I.obj,j,I.ne⟩ z)
def nV{R:Li->Fq->Prop}{vs:List Fl}{z:List (Fp×Fl)}(X:K.In s.heap)(J:Lj K C=true) 
  (hi:Hg K (.ref C) "__init__"=some (some (.ref f))) (O:PySem.W.typeIn K (.ref f)=some (.type "function"))
  (h:codeAny (Fx prog w) (A.under (.builtin "type.__call__" ⟨.ref C::vs,z⟩)) (.call (.ref f) ⟨.ref (s.heap.objs.size+1)::vs,z⟩) (PySem.W.InitBack (s.heap.objs.size+1) R)
   {s with heap:=(s.heap.push Ic).push (Iq C s.heap.objs.size)}) :
  codeAny (Fx prog w) A (.call (.ref C) ⟨vs,z⟩) R s:=by
 obtain⟨U,g,d,t,os⟩:=s
 exact PySem.W.make_core (PySem.W.makes_of X J) (PySem.W.looks_findIn X hi) (λj=>PySem.W.bind_fn X j O) (.inl rfl) h
end
def yC(f:Fp)(v:V):List (Fp×V)->List (Fp×V)
 | []=>[(f,v)]
 | (g,x)::r=>if g=f then(g,v)::r else(g,x)::yC f v r
theorem WQ(f g:Fp)(v:V):∀fs:List (Fp×V),(yC f v fs).lookup g=if g=f then some v else fs.lookup g
 | []=>by
  show Ie g [(f,v)]=_
  by_cases h:g=f
  ·have j:(g==f)=true:=beq_iff_eq.mpr h
   simp only[Ie,j,if_pos h]
  ·have j:(g==f)=false:=beq_eq_false_iff_ne.mpr h
   simp only[Ie,j,if_neg h]
 | (k,x)::r=>by
  have J:=WQ f g v r
  rw[show yC f v ((k,x)::r)=(if k=f then(k,v)::r else(k,x)::yC f v r)from rfl]
  by_cases z:k=f
  ·rw[if_pos z]
   by_cases h:g=k
   ·have j:(g==k)=true:=beq_iff_eq.mpr h
    simp only[Ie,j,if_pos (h.trans z)]
   ·have j:(g==k)=false:=beq_eq_false_iff_ne.mpr h
    simp only[Ie,j,if_neg (λe:g=f=>h (e.trans z.symm))]
  ·rw[if_neg z]
   by_cases h:g=k
   ·have j:(g==k)=true:=beq_iff_eq.mpr h
    simp only[Ie,j,if_neg (λe:g=f=>z (h.symm.trans e))]
   ·have j:(g==k)=false:=beq_eq_false_iff_ne.mpr h
    simp only[Ie,j]
    exact J
theorem Xy(f:Fp)(v:V):∀fs:List (Fp×V),f∈(yC f v fs).map (·.1)/\∀g,g∈fs.map (·.1)->g∈(yC f v fs).map (·.1)
 | []=>⟨by simp[yC],λg h=>by simp at h⟩
 | (k,x)::r=>by
  obtain⟨i1,i2⟩:=Xy f v r
  rw[show yC f v ((k,x)::r)=(if k=f then(k,v)::r else(k,x)::yC f v r)from rfl]
  by_cases j:k=f
  ·rw[if_pos j]
   subst j
   exact⟨by simp,λg h=>by simpa using h⟩
  ·rw[if_neg j]
   refine⟨?_,λg h=>?_⟩
   ·rw[FY]
    exact Gc _ i1
   ·rw[FY]at h ⊢
    rcases FL.mp h with e|e
    ·exact FL.mpr (.inl e)
    ·exact Gc _ (i2 g e)
theorem vB(f:Fp)(v:V):∀fs:List (Fp×V),(yC f v fs).length<=fs.length+1
 | []=>by simp[yC]
 | (k,x)::r=>by
  have z:=vB f v r
  rw[show yC f v ((k,x)::r)=(if k=f then(k,v)::r else(k,x)::yC f v r)from rfl]
  by_cases j:k=f
  ·rw[if_pos j,Gu,Gu];omega
  ·rw[if_neg j,Gu,Gu];omega
def vb.some_of(r:vb (some v) o):∃u,o=some u/\zI v u:=by
 cases o with
 | none=>exact(show False from r).elim
 | some u=>exact⟨u,rfl,r⟩
def vb.none_of(r:vb none o):o=none:=by
 cases o with
 | none=>rfl
 | some u=>exact(show False from r).elim
def lP(r:zI v u):NG u=true:=by
 cases v with
 | non=>cases (show u=Value.none from r);rfl
 | bl b=>cases (show u=Value.bool b from r);rfl
 | int i=>obtain⟨t,e⟩:=(show ∃t,u=Value.int i t from r);cases e;rfl
 | str x=>obtain⟨t,e⟩:=(show ∃t,u=Value.str x t from r);cases e;rfl
 | byt b=>obtain⟨t,e⟩:=(show ∃t,u=Value.bytes b t from r);cases e;rfl
 | flt b=>obtain⟨t,e⟩:=(show ∃t,u=Value.float b t from r);cases e;rfl
 | ref a=>cases (show u=Value.ref a from r);rfl
 | ty n=>cases (show u=Value.type n from r);rfl
section
variable {P:FI} {w:FB} {H H':Hp} {h h':Fz} {a C dx:Fo} {fs fs':List (Fp×V)}
def We(j:HOk P w H h)(e:H a=some (.ins C dx fs)):∃mA,ObjM h a dx C mA/\(∀f,vb (fs.lookup f) (mA f))/\L7 mA (fs.map (·.1))/\fs.length<=1000/\H dx=some (.own a):=by
 obtain⟨d,z,ne,J,mA,n,r,q⟩:=(show yB P w H h a (.ins C dx fs)from j a _ e)
 exact⟨mA,⟨J,n,ne⟩,r,q,z,d⟩
end
structure Cls (K:Fs) (C:Fo):Prop where
 pg:Kf K C Ml=true
 hd:KB K C=true
 po:Lh K C=true
 sa:Hg K (.ref C) "__setattr__"=some (some (.builtin "object.__setattr__"))
def Cls.get{K:Fs}{C:Fo}(c:Cls K C)(f:Fp):Kf K C f=true:=c.pg
def xr(K:Fs)(C:Fo)(f:Fp):Prop:=Hg K (.ref C) f=some none
def xr.taker{K:Fs}{C:Fo}{f:Fp}(n:xr K C f):Mj K C f=some none:=by
 unfold Mj
 rw[show Hg K (.ref C) f=some none from n]
 rfl
structure Meth (K:Fs) (C:Fo) (m:Fp) (f:Fo):Prop where
 at_:Hg K (.ref C) m=some (some (.ref f))
 fn:Lf K (.ref f)=true
 kp:Ig K (.ref f)=true
section
variable {X:Cx} {pins:List (Fo×FD)} {σ:St} {H:Hp} {s:Fq} {a C dx:Fo} {fs:List (Fp×V)} {f:Fp} {v:V} {A:FW} {E:Fl->Fq->Prop}
def iB{b:Bool}{Q:Fl->Fq->Prop}(I:Inv X pins σ H s)(e:H a=some (.ins C dx fs))(c:Cls X.K C)(n:xr X.K C f)(l:fs.lookup f=some v) 
  (h:∀u s',Inv X pins σ H s'->zI v u->Q u s'):wpAny (Fx X.prog X.w) A (getAttr (.ref a) f b) Q E s:=by
 obtain⟨mA,O,r,_,_,_⟩:=We I.hok e
 obtain⟨u,z,j⟩:=vb.some_of (v:=v) (o:=mA f) (by rw[<-l];exact r f)
 exact rK I.kIn O (c.get f) c.hd n z (lP j) (h u _ (I.tok _) j)
def Vx{m:Fp}{g:Fo}{pl:GH Bool}{Q:Fl×List Fl->Fq->Prop}(I:Inv X pins σ H s)(e:H a=some (.ins C dx fs))(c:Cls X.K C)(k:Meth X.K C m g)(l:fs.lookup m=none) 
  (h:Q (.ref g,[.ref a]) s):wpAny (Fx X.prog X.w) A (Lg (.ref a) m pl) Q E s:=by
 obtain⟨mA,O,r,_,_,_⟩:=We I.hok e
 have hn:mA m=none:=vb.none_of (by rw[<-l];exact r m)
 exact nU I.kIn O (c.get m) k.at_ k.fn hn h
def iC{y:V}{u:Fl}{Q:Unit->Fq->Prop}(I:Inv X pins σ H s)(e:H a=some (.ins C dx fs))(c:Cls X.K C)(n:xr X.K C f)(hl:fs.length<1000)(Y:zI y u) 
  (h:∀s',Inv X pins σ (upd H a (.ins C dx (yC f y fs))) s'->Q () s'):wpAny (Fx X.prog X.w) A (setAttr (.ref a) f u) Q E s:=by
 obtain⟨mA,O,r,J,_,U⟩:=We I.hok e
 have Z:(fs.map (·.1)).length<=Fv:=by rw[FF,HG];omega
 refine rL I.kIn O c.sa c.po n.taker c.hd J Z λh' j sb=>h _ ?_
 have hd:∃o,h'.get? dx=some o:=(by obtain⟨o,_,_,e',_⟩:=j.ns;exact⟨o,e'⟩)
 refine I.write (x:=a) (e:=dx) (by rw[e];exact True.intro) (.inr U) (λb q hb z=>(sb.2 b hb).trans z) hd ?_
 refine⟨by rw[zd O.ne];exact U,?_,O.ne,j.obj,_,j.ns,λg=>?_,λg hg=>?_⟩
 ·have:=vB f y fs;omega
 ·show vb ((yC f y fs).lookup g) (if g=f then some u else mA g)
  rw[WQ]
  by_cases q:g=f
  ·rw[if_pos q,if_pos q];exact Y
  ·rw[if_neg q,if_neg q];exact r g
 ·by_cases q:g=f
  ·rw[q];exact(Xy f y fs).1
  ·refine(Xy f y fs).2 g (J g λz=>hg ?_)
   show(if g=f then some u else mA g)=none
   rw[if_neg q];exact z
def Inv.made(I:Inv X pins σ H s):Inv X pins σ (upd (upd H s.heap.objs.size (.own (s.heap.objs.size+1))) (s.heap.objs.size+1) (.ins C s.heap.objs.size []))
  {s with heap:=(s.heap.push Ic).push (Iq C s.heap.objs.size)}:=by
 have j:(s.heap.push Ic).get? s.heap.objs.size=some Ic:=Gr s.heap rfl
 have z:((s.heap.push Ic).push (Iq C s.heap.objs.size)).get? (s.heap.objs.size+1)=some (Iq C s.heap.objs.size):=by
  have:=Gr (s.heap.push Ic) (o:=Iq C s.heap.objs.size) rfl
  rwa [HH]at this
 have J:(s.heap.push Ic).Ns s.heap.objs.size (λ_=>none):=⟨Ic,#[],_,j,rfl,(λe O=>absurd O (by simp)),λ_=>rfl⟩
 have U:=I.laid (a:=s.heap.objs.size) (o:=.own (s.heap.objs.size+1)) (h':=s.heap.push Ic) (t':=s.toks) (λb u q=>FQ _ q) (FA _) ⟨_,j⟩
 refine U.laid (a:=s.heap.objs.size+1) (o:=.ins C s.heap.objs.size []) (t':=s.toks) (λb u q=>FQ _ q) (HN (HH _ _)) ?_
 have ne:s.heap.objs.size≠s.heap.objs.size+1:=Gd (IR _)
 refine⟨by rw[zd ne,zj],GI _,ne,z,λ_=>none,(Heap.Ns1.of_empty J).at λo q=>FQ _ q,λ_=>True.intro,λy Y=>absurd rfl Y⟩
def rM{prog:FI}{w:FB}{env:Gn}{e:Fu}{f:Fp}{pos:FG}{s:Fq}{Q:Fl->Fq->Prop}(z:Kg e f env (FJ e env)=FJ e env) 
  (h:wpAny (Fx prog w) A (FJ e env) (λo j=>wpAny (Fx prog w) A (getAttr o f true) Q E j) E s):wpAny (Fx prog w) A (FJ (.Attribute e f pos) env) Q E s :=
 Attribute_any_ h (by rw[arm_eval_Attribute,z])
end
def Dz(K:Fs)(ta:TE)(f:Fp):TE:=λσ H Q=>ta σ H λx H1=>∃a C dx fs v,x=.ref a/\H1 a=some (.ins C dx fs)/\Cls K C/\xr K C f/\fs.lookup f=some v/\Q v H1
def DA(K:Fs)(ta tv:TE)(f:Fp):TS:=λD σ H=>tv σ H λy H1=>ta σ H1 λx H2=>∃a C dx fs,x=.ref a/\H2 a=some (.ins C dx fs)/\Cls K C/\xr K C f/\fs.length<1000/\
 D.nx σ (upd H2 a (.ins C dx (yC f y fs)))
section
variable {X:Cx} {o e value:Fu} {f:Fp} {pos pos' tpos:FG} {ta tv:TE}
def zU(j:PE X e ta)(z:Kg e f X.env (FJ e X.env)=FJ e X.env):PE X (.Attribute e f pos) (Dz X.K ta f):=by
 intro pins s σ H Q I h
 refine rM z (thn (j pins s σ H _ I h) λu s1 ⟨x,H1,J,O,a,C,dx,fs,v,ex,U,c,n,l,q⟩=>?_)
 subst ex
 obtain rfl:u=Value.ref a:=O
 exact iB J U c n l λu' s2 Y Z=>⟨v,H1,Y,Z,q⟩
def wL(ha:PE X o ta)(hv:PE X value tv)(hs:GP value (some (.Attribute o f pos')) pos.line X.env=pure false):PS X (.Assign [.Attribute o f pos'] value pos) (DA X.K ta tv f):=by
 intro pins s σ H D I h
 refine plainObj_wpAny_Assign_Attribute (thn (hv pins s σ H _ I h) λu s1 ⟨y,H1,I1,ry,q⟩=>thn (ha pins s1 σ H1 _ I1 q) λov s2 ⟨x,H2,I2,rx,a,C,dx,fs,ex,ea,c,n,l,q2⟩=>?_) hs
 subst ex
 obtain rfl:ov=Value.ref a:=rx
 exact iC I2 ea c n l ry λs3 I3=>⟨σ,_,I3,q2⟩
end
section
variable {X:Cx} {pins:List (Fo×FD)} {σ:St} {H:Hp} {s:Fq} {A:FW} {E:Fl->Fq->Prop} {Q:Fl->Fq->Prop} {c:Fl} {b:Bool}
inductive TyOf (K:Fs) (H:Hp):V->Fl->Prop where
 | non:TyOf K H .non (.type "NoneType")
 | bl (x:Bool):TyOf K H (.bl x) (.type "bool")
 | int (i:Int):TyOf K H (.int i) (.type "int")
 | str (x:Fp):TyOf K H (.str x) (.type "str")
 | flt (x:UInt64):TyOf K H (.flt x) (.type "float")
 | lst {a:Fo} {xs:List V} (e:H a=some (.lst xs)):TyOf K H (.ref a) (.type "list")
 | frz {a:Fo} {o:FD} {xs:List V} (e:H a=some (.frz o (.lst xs))):TyOf K H (.ref a) (.type "list")
 | tup {a:Fo} {xs:List V} (e:H a=some (.tup xs)):TyOf K H (.ref a) (.type "tuple")
 | dK {a:Fo} {kvs:List (Key×V)} (e:H a=some (.dK kvs)):TyOf K H (.ref a) (.type "dict")
 | dT {a:Fo} {kvs:List (List Key×V)} (e:H a=some (.dT kvs)):TyOf K H (.ref a) (.type "dict")
 | ins {a C dx:Fo} {fs:List (Fp×V)} (e:H a=some (.ins C dx fs)) (cl:Cls K C) (ha:Hg K (.ref C) "__class__"=some (some (.builtin "object.__class__")))
  (hn:PySem.W.specialIn K (.builtin "object.__class__") "__get__"=some (some (.builtin "getset_descriptor.__get__"))) (htk:PySem.W.takesIn K (.builtin "object.__class__")=some true)
  (hm:PySem.W.mroIn K C (.type "object")=some true):TyOf K H (.ref a) (.ref C)
def lQ{x:V}{u t:Fl}(I:Inv X pins σ H s)(j:zI x u)(ty:TyOf X.K H x t)(e:NH X.K t c=some b)(h:∀tk,Q (.bool b) {s with toks:=tk}):
  wpAny (Fx X.prog X.w) A (call (.builtin "isinstance") [u,c]) Q E s:=by
 cases ty with
 | non=>cases (show u=Value.none from j);exact HI PySem.W.kitx_none I.kIn True.intro e (λz=>nomatch z) h
 | bl y=>cases (show u=Value.bool y from j);exact HI PySem.W.kitx_bool I.kIn True.intro e (λz=>nomatch z) h
 | int i=>obtain⟨t,q⟩:=(show ∃t,u=Value.int i t from j);cases q;exact HI PySem.W.kitx_int I.kIn True.intro e (λz=>nomatch z) h
 | str y=>obtain⟨t,q⟩:=(show ∃t,u=Value.str y t from j);cases q;exact HI PySem.W.kitx_str I.kIn True.intro e (λz=>nomatch z) h
 | flt y=>obtain⟨t,q⟩:=(show ∃t,u=Value.float y t from j);cases q;exact HI PySem.W.kitx_float I.kIn True.intro e (λz=>nomatch z) h
 | @lst a xs U=>
  cases (show u=Value.ref a from j)
  obtain⟨_,_,n,_,h1⟩:=(show yB X.prog X.w H s.heap a (.lst xs)from I.hok a _ U)
  exact HI NI I.kIn ⟨_,h1,rfl⟩ e (λz=>nomatch z) h
 | @frz a Z xs U=>
  cases (show u=Value.ref a from j)
  obtain⟨_,_,_,n,_,h1⟩:=(show yB X.prog X.w H s.heap a (.frz Z (.lst xs))from I.hok a _ U)
  exact HI NI I.kIn ⟨_,h1,rfl⟩ e (λz=>nomatch z) h
 | @tup a xs U=>
  cases (show u=Value.ref a from j)
  obtain⟨_,_,_,p⟩:=(show yB X.prog X.w H s.heap a (.tup xs)from I.hok a _ U)
  obtain⟨o,h1,h2,_⟩:=p
  exact HI PySem.W.kitx_tuple I.kIn ⟨o,h1,h2⟩ e (λz=>nomatch z) h
 | @dK a kvs U=>
  cases (show u=Value.ref a from j)
  obtain⟨_,_,vs,_,p⟩:=(show yB X.prog X.w H s.heap a (.dK kvs)from I.hok a _ U)
  obtain⟨o,es,ep,h1,h2,_⟩:=p
  exact HI NJ I.kIn ⟨o,h1,h2.1⟩ e (λz=>nomatch z) h
 | @dT a kvs U=>
  cases (show u=Value.ref a from j)
  obtain⟨_,_,xs,_,o,es,ep,h1,h2,_⟩:=(show yB X.prog X.w H s.heap a (.dT kvs)from I.hok a _ U)
  exact HI NJ I.kIn ⟨o,h1,h2.1⟩ e (λz=>nomatch z) h
 | @ins a C dx fs U cl ha hn Y hm=>
  cases (show u=Value.ref a from j)
  obtain⟨mA,O,_⟩:=We I.hok U
  obtain⟨od,J,_⟩:=O.look
  exact HI (PySem.W.kitx_own (cl.get _) cl.hd ha hn Y hm) I.kIn J e (λz=>nomatch z) h
end
end L2
namespace L2
open PySem PySem.Spec PyProof.Rows
structure Room (k:Nat) (A:FW):Prop where
 hd:A.handled=none
 dp:A.depth+3*k+5<NK
 un:A.units+16*k+200<Gi
def Room.mono(r:Room k A)(h:j<=k):Room j A:=⟨r.hd,by have:=r.dp;omega,by have:=r.un;omega⟩
def Room.deeper(r:Room (k+1) A)(env:Gn):Room k (A.deeper env) :=
 ⟨r.hd,by have:=r.dp;show A.depth+1+3*k+5<_;omega,by have:=r.un;show A.units+3+16*k+200<_;omega⟩
def iD{A:FW}{C:Fo}{us:List Fl}{j:List (Fp×Fl)}:(A.under (.builtin "type.__call__" ⟨.ref C::us,j⟩)).depth=A.depth+1:=by
 first|rfl|simp[Mm,Code.weight,Code.isCreation,Code.isGuard,Code.isCaller,NL,Mn,guardIds]
def iE{A:FW}{C:Fo}{us:List Fl}{j:List (Fp×Fl)}:(A.under (.builtin "type.__call__" ⟨.ref C::us,j⟩)).units=A.units+1:=by
 first|rfl|simp[Mm,Code.cUnits,NL,Mn]
def Room.make(r:Room (k+1) A)(C:Fo)(us:List Fl)(j:List (Fp×Fl)):Room k (A.under (.builtin "type.__call__" ⟨.ref C::us,j⟩)) :=
 ⟨r.hd,by have:=r.dp;rw[iD];omega,by have:=r.un;rw[iE];omega⟩
def Room.depth(r:Room k A):A.depth<NK:=by have:=r.dp;omega
def Room.units(r:Room k A):A.units+64<Gi:=by have:=r.un;omega
def YS:TA:=λ_ H Q=>Q [] H
def uz(ta:TE)(j:TA):TA:=λσ H Q=>ta σ H λx H1=>j σ H1 λxs H2=>Q (x::xs) H2
section
variable {X:Cx} {e:Fu} {es:List Fu} {te:TE} {t:TA} {pos:FG}
def zu:PA X [] YS:=λ_ _ _ _ H Q I h=>Mo ⟨[],H,I,.nil,h⟩
def zi(ha:PE X e te)(hr:PA X es t)(hs:FK (e::es) X.env=(false,FJ e X.env)::FK es X.env:=by rfl):PA X (e::es) (uz te t):=by
 intro pos pins s σ H Q I h
 rw[hs]
 show wpAny _ _ (spliced ((false,FJ e X.env)::GJ pos (FK es X.env))) _ _ s
 refine Mp (thn (ha pins s σ H _ I h) λu s1 ⟨x,H1,I1,r1,q1⟩=>?_)
 exact thn (hr pos pins s1 σ H1 _ I1 q1) λus s2 hh8'=>by obtain⟨xs,H2,I2,r2,q2⟩:=hh8';exact⟨x::xs,H2,I2,.cons r1 r2,q2⟩
def DB(t:TA):TE:=λσ H Q=>t σ H λxs H1=>xs.length<=Fv/\∀p,H1 p=none->Q (.ref p) (upd H1 p (.tup xs))
def Ae(t:TA):TE:=λσ H Q=>t σ H λxs H1=>xs.length<=Fv/\∀p,H1 p=none->Q (.ref p) (upd H1 p (.lst xs))
def lR{x1}(h:PA X es t):PE X (.Tuple es x1 pos) (DB t):=by
 intro pins s σ H Q I J
 refine wpAny_Tuple_spliced (thn (h pos pins s σ H _ I J) λus s1 ⟨xs,H1,j,r,z,q⟩=>⟨by rw[<-r.length];exact z,?_⟩)
 have O:H1 s1.heap.objs.size=none:=j.hok.fresh (FA _)
 refine⟨.ref s1.heap.objs.size,upd H1 s1.heap.objs.size (.tup xs),j.laid (t':=s1.toks) (λb u e=>FQ _ e) (FA _) ?_,rfl,q _ O⟩
 exact⟨z,us,r,⟨_,Gr _ rfl,rfl,_,rfl⟩⟩
def vC(h:PA X es t):PE X (.List es pos) (Ae t):=by
 intro pins s σ H Q I J
 refine wpAny_List_spliced (thn (h pos pins s σ H _ I J) λus s1 ⟨xs,H1,j,r,z,q⟩=>⟨by rw[<-r.length];exact z,?_⟩)
 have O:H1 s1.heap.objs.size=none:=j.hok.fresh (FA _)
 refine⟨.ref s1.heap.objs.size,upd H1 s1.heap.objs.size (.lst xs),j.laid (t':=s1.toks) (λb u e=>FQ _ e) (FA _) ?_,rfl,q _ O⟩
 exact⟨z,us,0,r,Gr _ rfl⟩
end
abbrev Sp:=List V->Hp->VK->XK->Prop
abbrev CXT:=List Gn->Hp->Fq->XK->Fl->Fq->Prop
structure Env0 (P:FI) (w:FB) (K:Fs) (mg:Fp->Option Fl) (base:Fz) (A:FW) (outer:List Gn) (s:Fq) (H:Hp):Prop where
 frames:A.frames=some outer
 mod:Mod K mg base
 bs:∀b o,base.get? b=some o->s.heap.get? b=some o/\H b=none
 bsz:base.objs.size<=s.heap.objs.size
 funs:s.heap.FunFrames base outer
 frf:∀b∈frs outer,H b=none
 hok:HOk P w H s.heap
 bare:Ia s.gens
def CE(outer:List Gn)(P:FI)(w:FB)(H:Hp)(s:Fq)(Q:VK)(u:Fl)(s':Fq):Prop :=
 ∃v H',s'.os=s.os/\Ia s'.gens/\Un (frs outer) [] H H' s.heap s'.heap/\HOk P w H' s'.heap/\zI v u/\Q v H'
def CR(CX:CXT)(outer:List Gn)(P:FI)(w:FB)(H:Hp)(s:Fq)(Q:VK)(E:XK)(r:Li)(s':Fq):Prop :=
 match r with
 | .ok (.ret u)=>CE outer P w H s Q u s'
 | .ok _=>False
 | .error e=>CX outer H s E e s'
structure FnOk (P:FI) (w:FB) (K:Fs) (mg:Fp->Option Fl) (base:Fz) (CX:CXT) (k:Nat) (f:Fo) (fd:Ga) (ps:List Fp) (sp:Sp):Prop where
 len:∀vs H Q E,sp vs H Q E->vs.length=ps.length
 run:∀(A:FW) (outer:List Gn) (s:Fq) (H:Hp) (args:Args) (us:List Fl) (vs:List V) (Q:VK) (E:XK),Room k A->Env0 P w K mg base A outer s H->Kh s fd args (ps.zip us)->zC vs us->sp vs H Q E->
  codeAny (Fx P w) A (.call (.ref f) args) (CR CX outer P w H s Q E) s
def FnOk.mono{P:FI}{w:FB}{K:Fs}{mg:Fp->Option Fl}{base:Fz}{CX:CXT}{j k:Nat}{f:Fo}{fd:Ga}{ps:List Fp}{sp:Sp}(F:FnOk P w K mg base CX j f fd ps sp)(h:j<=k):
 FnOk P w K mg base CX k f fd ps sp:=⟨F.len,λA outer s H args us vs Q E z=>F.run A outer s H args us vs Q E (z.mono h)⟩
def FnOk.imp{P:FI}{w:FB}{K:Fs}{mg:Fp->Option Fl}{base:Fz}{CX:CXT}{k:Nat}{f:Fo}{fd:Ga}{ps:List Fp}{sp j:Sp}(F:FnOk P w K mg base CX k f fd ps sp) 
  (h:∀vs H Q E,j vs H Q E->sp vs H Q E):FnOk P w K mg base CX k f fd ps j :=
 ⟨λvs H Q E q=>F.len vs H Q E (h _ _ _ _ q),λA outer s H args us vs Q E z J O U Y=>F.run A outer s H args us vs Q E z J O U (h _ _ _ _ Y)⟩
def Env0.make{P:FI}{w:FB}{K:Fs}{mg:Fp->Option Fl}{base:Fz}{A:FW}{outer:List Gn}{s:Fq}{H:Hp}(e:Env0 P w K mg base A outer s H)(C:Fo)(us:List Fl)(j:List (Fp×Fl)):
 Env0 P w K mg base (A.under (.builtin "type.__call__" ⟨.ref C::us,j⟩)) outer s H:=⟨by first|exact e.frames|(simpa[Mm,Code.envs,Mn,pushEnvs]using e.frames),e.mod,e.bs,e.bsz,e.funs,e.frf,e.hok,e.bare⟩
section
variable {X:Cx} {pins:List (Fo×FD)} {σ:St} {H:Hp} {s s':Fq}
def Inv.env0(I:Inv X pins σ H s):Env0 X.prog X.w X.K X.mg X.base X.A X.stack s H :=
 ⟨I.ok.frames,I.ok.mod,I.bs,Ge I.ok.bsz I.sz,I.stack,I.stkFree,I.hok,I.bare⟩
def Inv.after(I:Inv X pins σ H s)(h:CE X.stack X.prog X.w H s Q u s'):EP X pins σ Q u s':=by
 obtain⟨v,H',os,j,un,J,r,q⟩:=h
 obtain⟨U,g,d,t,O⟩:=s'
 obtain rfl:O=s.os:=os
 exact⟨v,H',I.call (h':=U) (g':=g) (d':=d) (t':=t) (ch:=[]) un J j (λb z=>absurd z (by simp)),r,q⟩
end
def qP(sp:Sp)(dvs:List V)(E:XK)(t:TA):TE:=λσ H Q=>t σ H λvs H1=>sp (vs++dvs) H1 Q E
def JG(C:Fo)(m:Fp)(sp:Sp)(dvs:List V)(E:XK)(ta:TE)(t:TA):TE:=λσ H Q=>ta σ H λx H1=>∃a dx fs,x=.ref a/\H1 a=some (.ins C dx fs)/\fs.lookup m=none/\
 t σ H1 λvs H2=>sp (x::(vs++dvs)) H2 Q E
def BV(C:Fo)(sp:Sp)(dvs:List V)(E:XK)(t:TA):TE:=λσ H Q=>t σ H λvs H1=>∀x dx,H1 x=none->H1 dx=none->dx≠x->
 sp (.ref x::(vs++dvs)) (upd (upd H1 dx (.own x)) x (.ins C dx [])) (λv H2=>v=.non/\Q (.ref x) H2) E
def yD(K:Fs)(fd:Ga)(ps:List Fp)(ds:List Fl):Prop :=
 ∀(s:Fq) (us:List Fl),K.In s.heap->(us++ds).length=ps.length->Kh s fd ⟨us,[]⟩ (ps.zip (us++ds))
def yD.all{K:Fs}{fd:Ga}{ps:List Fp}(h:∀us:List Fl,us.length=ps.length->bindArgs fd ⟨us,[]⟩=pure (ps.zip us)):yD K fd ps []:=λs us _ hl=>by
 rw[Iw]at hl ⊢
 exact .of_eq (h us hl)
def Zk(CX:CXT)(X:Cx)(E:XK):Prop:=∀(pins:List (Fo×FD)) (σ:St) (H:Hp) (s:Fq) (e:Fl) (s':Fq),Inv X pins σ H s->CX X.stack H s E e s'->X.xe e s'
section
variable {X:Cx} {CX:CXT} {k:Nat} {f C:Fo} {fd:Ga} {ps:List Fp} {sp:Sp} {dvs:List V} {ds:List Fl} {E:XK} {x m:Fp} {p pos apos:FG} {e o:Fu} {es:List Fu} {ta:TE} {t:TA}
def J9{pins:List (Fo×FD)}{σ:St}{H:Hp}{s:Fq}{Q:VK}{us:List Fl}{vs:List V}(F:FnOk X.prog X.w X.K X.mg X.base CX k f fd ps sp)(z:Room k X.A)(J:yD X.K fd ps ds)(O:zC dvs ds)(U:Zk CX X E) 
  (I:Inv X pins σ H s) (r:zC vs us) (h:sp (vs++dvs) H Q E):wpAny (Fx X.prog X.w) X.A (call (.ref f) us) (EP X pins σ Q) X.xe s:=by
 have r2:zC (vs++dvs) (us++ds):=r.append O
 have Y:(us++ds).length=ps.length:=by rw[<-r2.length];exact F.len _ _ _ _ h
 refine wpAny_call (Lk (F.run X.A X.stack s H ⟨us,[]⟩ (us++ds) (vs++dvs) Q E z I.env0 (J s us I.kIn Y) r2 h) λr s' j=>?_)
 cases r with
 | error e=>exact U pins σ H s e s' I j
 | ok fl=>
  cases fl with
  | ret u=>exact I.after j
  | next=>exact Hm j
  | brk=>exact Hm j
  | cont=>exact Hm j
def xj(F:FnOk X.prog X.w X.K X.mg X.base CX k f fd ps sp)(O:Room k X.A)(U:Gl X x)(Y:X.mg x=some (.ref f))(Z:Ig X.K (.ref f)=true)(hb:yD X.K fd ps ds)(hd:zC dvs ds)(hx:Zk CX X E) 
  (ha:PA X (e::es) t) (j:(x==("__debug__":Fp))=false:=by decide) (he:FK (e::es) X.env=(false,FJ e X.env)::FK es X.env:=by rfl) (z:(GJ pos (FK es X.env)).any (·.1)=false:=by rfl) :
  PE X (.Call (.Name x p) (e::es) [] pos) (qP sp dvs E t):=by
 intro pins s σ H Q I h
 refine Ll (UI I U Y ?_ j)
 refine Mq (h₀:=X.base) I.ok.mod.kin Z (thn (ha pos pins s σ H _ I h) λus s1 ⟨vs,H1,J,r,q⟩=>⟨J.kIn,?_⟩) he z
 exact J9 F O hb hd hx J r q
def Yf{pl:GH Bool}(Z:PE X o ta)(c:Cls X.K C)(J:Meth X.K C m f)(F:FnOk X.prog X.w X.K X.mg X.base CX k f fd ps sp)(hr:Room k X.A)(hb:yD X.K fd ps ds)(hd:zC dvs ds)(hx:Zk CX X E)(ha:PA X (e::es) t) 
  (j:FK (e::es) X.env=(false,FJ e X.env)::FK es X.env:=by rfl) (z:(GJ pos (FK es X.env)).any (·.1)=false:=by rfl)
  (ht:FJ (.Call (.Attribute o m apos) (e::es) [] pos) X.env=(do
   let O <-FJ o X.env
   Kd apos.atName
   let (f,first) <-HE [O] (Lg O m pl)
   callWith pos f first (GJ pos (FK (e::es) X.env)) (Lm pos (Ln [] X.env))):=by rfl) :
  PE X (.Call (.Attribute o m apos) (e::es) [] pos) (JG C m sp dvs E ta t):=by
 intro pins s σ H Q I h
 refine NM (pl:=pl) (thn (Z pins s σ H _ I h) λu s1 ⟨x,H1,U,rx,a,dx,fs,ex,ea,l,q⟩=>?_) ht
 subst ex
 obtain rfl:u=Value.ref a:=rx
 refine Vx U ea c J l ?_
 refine Mq (first:=[.ref a]) (h₀:=X.base) I.ok.mod.kin J.kp (thn (ha pos pins s1 σ H1 _ U q) λus s2 ⟨vs,H2,Y,r,q2⟩=>⟨Y.kIn,?_⟩) j z
 exact J9 (us:=.ref a::us) (vs:=.ref a::vs) F hr hb hd hx Y (.cons rfl r) q2
def Zl{pl:GH Bool}(O:PE X o ta)(c:Cls X.K C)(z:Meth X.K C m f)(F:FnOk X.prog X.w X.K X.mg X.base CX k f fd ps sp)(U:Room k X.A)(Y:yD X.K fd ps ds)(Z:zC dvs ds)(hx:Zk CX X E) 
  (ht:FJ (.Call (.Attribute o m apos) [] [] pos) X.env=(do
   let J <-FJ o X.env
   Kd apos.atName
   let (f,first) <-HE [J] (Lg J m pl)
   callWith pos f first (GJ pos (FK [] X.env)) (Lm pos (Ln [] X.env))):=by rfl) :
  PE X (.Call (.Attribute o m apos) [] [] pos) (JG C m sp dvs E ta YS):=by
 intro pins s σ H Q I h
 refine NM (pl:=pl) (thn (O pins s σ H _ I h) λu s1 ⟨x,H1,j,rx,a,dx,fs,ex,ea,l,q⟩=>?_) ht
 subst ex
 obtain rfl:u=Value.ref a:=rx
 refine Vx j ea c z l ?_
 exact PySem.W.callWith_K0 (first:=[.ref a]) j.kIn z.kp (J9 (us:=[.ref a]) (vs:=[.ref a]) F U Y Z hx j (.cons rfl .nil) q)
structure Mk (K:Fs) (C f:Fo):Prop where
 makes:Lj K C=true
 init:Hg K (.ref C) "__init__"=some (some (.ref f))
 fn:Lf K (.ref f)=true
 kp:Ig K (.ref C)=true
def nW{pins:List (Fo×FD)}{σ:St}{H:Hp}{s:Fq}{Q:VK}{us:List Fl}{vs:List V}(M:Mk X.K C f)(F:FnOk X.prog X.w X.K X.mg X.base CX k f fd ps sp)(O:Room (k+1) X.A)(U:yD X.K fd ps ds)(Y:zC dvs ds) 
  (Z:Zk CX X E) (I:Inv X pins σ H s) (r:zC vs us)
  (h:∀x dx,H x=none->H dx=none->dx≠x->sp (.ref x::(vs++dvs)) (upd (upd H dx (.own x)) x (.ins C dx [])) (λv H2=>v=.non/\Q (.ref x) H2) E) :
  wpAny (Fx X.prog X.w) X.A (call (.ref C) us) (EP X pins σ Q) X.xe s:=by
 have J:=h (s.heap.objs.size+1) s.heap.objs.size (I.hok.fresh (KC _)) (I.hok.fresh (FA _)) (Gd (IR _))
 have z:=Inv.made (C:=C) I
 have r2:zC (V.ref (s.heap.objs.size+1)::(vs++dvs)) (Value.ref (s.heap.objs.size+1)::(us++ds)):=.cons rfl (r.append Y)
 have hl:(Value.ref (s.heap.objs.size+1)::us++ds).length=ps.length:=by
  have e:=r2.length
  rw[F.len _ _ _ _ J]at e
  exact e.symm
 refine wpAny_call (nV (f:=f) I.kIn M.makes M.init (beq_iff_eq.mp M.fn) (Lk (F.run _ X.stack _ _ ⟨Value.ref (s.heap.objs.size+1)::us,[]⟩ (Value.ref (s.heap.objs.size+1)::(us++ds)) _ _ E (O.make C us [])
  (z.env0.make C us []) (U _ (Value.ref (s.heap.objs.size+1)::us) z.kIn hl) r2 J) λr s' j=>?_))
 cases r with
 | error e=>exact Z pins σ _ _ e s' z j
 | ok fl=>
  cases fl with
  | ret u=>
   obtain⟨v,H',I3,rv,ev,q3⟩:=z.after j
   subst ev
   exact⟨rv,⟨V.ref (s.heap.objs.size+1),H',I3,rfl,q3⟩⟩
  | next=>exact Hm j
  | brk=>exact Hm j
  | cont=>exact Hm j
def eZ(M:Mk X.K C f)(F:FnOk X.prog X.w X.K X.mg X.base CX k f fd ps sp)(O:Room (k+1) X.A)(U:Gl X x)(Y:X.mg x=some (.ref C))(Z:yD X.K fd ps ds)(hd:zC dvs ds)(hx:Zk CX X E) 
  (ha:PA X (e::es) t) (j:(x==("__debug__":Fp))=false:=by decide) (he:FK (e::es) X.env=(false,FJ e X.env)::FK es X.env:=by rfl) (z:(GJ pos (FK es X.env)).any (·.1)=false:=by rfl) :
  PE X (.Call (.Name x p) (e::es) [] pos) (BV C sp dvs E t):=by
 intro pins s σ H Q I h
 refine Ll (UI I U Y ?_ j)
 refine Mq (h₀:=X.base) I.ok.mod.kin M.kp (thn (ha pos pins s σ H _ I h) λus s1 ⟨vs,H1,J,r,q⟩=>⟨J.kIn,?_⟩) he z
 exact nW M F O Z hd hx J r q
end
section
variable {X:Cx} {CX:CXT} {k:Nat} {f C:Fo} {fd:Ga} {ps ks:List Fp} {sp:Sp} {E:XK} {x m:Fp} {p pos apos kpos:FG} {e o:Fu} {es:List Fu} {kws:List KD} {te ta:TE} {t tk:TA} {nm:Option Fp}
variable {g:List Fl->List Fl->List Fl} {gV:List V->List V->List V}
end
structure FnScope (N P:List Fp) (sc:Gp):Prop where
 kind:sc.kind=.function
 co:sc.isCoroutine=false
 gen:sc.isGenerator=false
 nd:N.Nodup
 pre:N.take P.length=P
 par:∀x∈P,sc.names.lookup x=some .local\/sc.names.lookup x=some .cell
 nofree:∀y∈sc.names,y.2≠.free
theorem QH{kindOf:Fp->Option Ih}{x:Fp}:∀{binds:List (Fp×Fl)} {m:Fp->Option Fl},(∀v,(x,v)∉binds)->Ix kindOf binds m x=m x
 | [],_,_=>rfl
 | (n,v)::r,m,h=>by
  unfold Ix
  rw[QH λw j=>h w (Gc _ j)]
  split
  ·have:x≠n:=by rintro rfl;exact h v F9
   simp[this]
  ·rfl
theorem QI{kindOf:Fp->Option Ih}{x:Fp}:∀{binds:List (Fp×Fl)} {m:Fp->Option Fl},(∀v,(x,v)∉binds)->Iy kindOf binds m x=m x
 | [],_,_=>rfl
 | (n,v)::r,m,h=>by
  unfold Iy
  rw[QI λw j=>h w (Gc _ j)]
  split
  ·rfl
  ·have:x≠n:=by rintro rfl;exact h v F9
   simp[this]
theorem QJ{kindOf:Fp->Option Ih}{x:Fp}{v:Fl}:∀{P:List Fp} {vs:List Fl} {i:Nat} {m:Fp->Option Fl},P.Nodup->P[i]?=some x->vs[i]?=some v->kindOf x=some .local->
  Ix kindOf (P.zip vs) m x=some v
 | [],_,_,_,_,h,_,_=>by simp at h
 | _::_,[],_,_,_,_,h,_=>by simp at h
 | p::P,w::vs,0,m,j,h1,h2,z=>by
  simp at h1 h2;subst h1;subst h2
  show Ix kindOf ((p,w)::P.zip vs) m p=_
  unfold Ix
  rw[QH λv J=>(GX.mp j).1 (Mr J).1,if_pos z]
  simp
 | p::P,w::vs,i+1,m,j,h1,h2,z=>by
  show Ix kindOf ((p,w)::P.zip vs) m x=_
  unfold Ix
  exact QJ (i:=i) (GX.mp j).2 (by simpa using h1) (by simpa using h2) z
theorem QK{kindOf:Fp->Option Ih}{x:Fp}{v:Fl}:∀{P:List Fp} {vs:List Fl} {i:Nat} {m:Fp->Option Fl},P.Nodup->P[i]?=some x->vs[i]?=some v->kindOf x≠some .local->
  Iy kindOf (P.zip vs) m x=some v
 | [],_,_,_,_,h,_,_=>by simp at h
 | _::_,[],_,_,_,_,h,_=>by simp at h
 | p::P,w::vs,0,m,j,h1,h2,z=>by
  simp at h1 h2;subst h1;subst h2
  show Iy kindOf ((p,w)::P.zip vs) m p=_
  unfold Iy
  rw[QI λv J=>(GX.mp j).1 (Mr J).1,if_neg z]
  simp
 | p::P,w::vs,i+1,m,j,h1,h2,z=>by
  show Iy kindOf ((p,w)::P.zip vs) m x=_
  unfold Iy
  exact QK (i:=i) (GX.mp j).2 (by simpa using h1) (by simpa using h2) z
def start(N:List Fp)(vs:List V):St:=vs.map some++F7 (N.length-vs.length) none
def Xz(CX:CXT)(P:FI)(w:FB)(K:Fs)(mg:Fp->Option Fl)(base:Fz)(N:List Fp)(qual:Fp)(scope:Gp)(f:Fo)(cd:Fl)(A:FW)(outer:List Gn)(s:Fq)(H:Hp)(E:XK):Cx where
 prog:=P
 w:=w
 K:=K
 mg:=mg
 base:=base
 A:=A.deeper (HJ qual scope s.heap.objs.size f cd)
 N:=N
 s₀:=s
 H₀:=H
 env:=HJ qual scope s.heap.objs.size f cd
 outer:=outer
 stack:=HJ qual scope s.heap.objs.size f cd::outer
 ex:=[]
 calm:=true
 fn:=λ_=>true
 pn:=[]
 xe:=λe s'=>wpAny (Fx P w) (A.deeper (HJ qual scope s.heap.objs.size f cd)) (leaving (HJ qual scope s.heap.objs.size f cd) e) (λ_ s''=>CX outer H s E e s'') (λe' s''=>CX outer H s E e' s'') s'
def aA{j:Gp}{n:Nat}{x:Fp}(h:j.names.lookup x=some .cell):∃c,(Ms n j.names []).lookup x=some c:=by
 have q:=NN j.names n [] (.inl h)
 exact NO.mp q
def lS{CX:CXT}{P:FI}{w:FB}{K:Fs}{mg:Fp->Option Fl}{base:Fz}{N ps:List Fp}{qual:Fp}{scope:Gp}{f:Fo}{Z:Fl}{A:FW}{outer:List Gn}{s s1:Fq}{H:Hp}{E:XK}{us:List Fl}{vs:List V} 
  (S:FnScope N ps scope) (hd:A.handled=none) (j:Env0 P w K mg base A outer s H) (hl:vs.length=ps.length) (r:zC vs us)
  (x:InCallC s s.heap.objs.size (Ix (HJ qual scope s.heap.objs.size f Z).kindOf (ps.zip us) λ_=>none) (Ms (s.heap.objs.size+1) scope.names []) (Iy (HJ qual scope s.heap.objs.size f Z).kindOf (ps.zip us) λ_=>none) s1) :
  Inv (Xz CX P w K mg base N qual scope f Z A outer s H E) [] (start N vs) H s1:=by
 have aa:ps.length<=N.length:=by have:=congrArg Mt S.pre;rw[HP]at this;omega
 obtain⟨h1,tk,rfl,hk⟩:=x.done
 have J:∀b:Fo,b∉(Xz CX P w K mg base N qual scope f Z A outer s H E).ex:=λb z=>absurd (show b∈([]:List Fo)from z) (by simp)
 refine⟨⟨j.mod,S.kind,rfl,rfl,FA _,λy z c h1 h2=>?_,λy O=>?_,λy c _ h=>?_,λ_=>hd,Around.frames_deeper j.frames,.inr ⟨rfl,rfl⟩,λb z=>absurd z (J b),j.bs,j.bsz,λb _ _=>J b,λb z=>absurd z (J b),j.funs,j.frf⟩,
  rfl,j.bare,Un.kept hk,⟨_,x.toInCall.ns,λi y v h1 h2 h3=>?_⟩,λy c h=>⟨_,x.cell y c h⟩,j.hok.fresh (FA _),λy c h=>?_,λp U=>absurd (show p∈([]:List (Fo×FD))from U) (by simp),j.hok.kept hk,?_⟩
 ·exact name_of_addr x.apart (KF h1) (KF h2)
 ·have O:scope.names.lookup y=some .cell\/scope.names.lookup y=some .free:=O
  rcases O with O|O
  ·exact aA O
  ·exact absurd rfl (S.nofree _ (KF O))
 ·exact G9 (x.above y c (KF h))
 ·have hi:i<vs.length:=by
   unfold start at h2
   by_cases hi:i<vs.length
   ·exact hi
   ·rw[Ii (by simpa using hi)]at h2
    rw[Lo]at h2
    split at h2 <;>cases h2
  have ha:vs[i]?=some v:=by
   unfold start at h2
   rw[GK (by simpa using hi),FP]at h2
   cases e:vs[i]? with
   | none=>rw[e]at h2;cases h2
   | some a=>rw[e]at h2;cases h2;rfl
  obtain⟨u,hu,rv⟩:=r.get ha
  have U:ps[i]?=some y:=by
   rw[<-S.pre,Lp (by omega)];exact h1
  have Y:ps.Nodup:=by rw[<-S.pre];exact S.nd.sublist (List.take_sublist _ _)
  refine⟨u,rv,?_⟩
  rcases S.par y (Gj U)with k|k
  ·exact .inl ⟨k,QJ Y U hu k⟩
  ·obtain⟨c,e⟩:=aA (n:=s.heap.objs.size+1) k
   refine .inr ⟨.inl k,c,e,?_⟩
   have q:=x.cell y c e
   rw[QK Y U hu (by show scope.names.lookup y≠_;rw[k];decide)]at q
   exact q
 ·exact j.hok.fresh (G9 (x.above y c (KF h)))
 ·unfold start
  show _=N.length
  rw[Gb,FF,NP]
  omega
def BW{CX:CXT}{P:FI}{w:FB}{K:Fs}{mg:Fp->Option Fl}{base:Fz}{k:Nat}{f:Fo}{name qual:Fp}{j:Arguments}{z:List FC}{scope:Gp}{dV kV aa pm cdv ct oc:Fl}{an od:Option Fo} 
  {ae:Array (Option Fl)} {N ps:List Fp} {sp:Sp} (lk:K.lookup f=some ⟨oc,od,.func (IS name qual j z scope dV kV aa pm an cdv ct),ae⟩) (af:Mu K cdv qual=true) (S:FnScope N ps scope)
  (ab:∀vs H Q E,sp vs H Q E->vs.length=ps.length)
  (U:∀(A:FW) (outer:List Gn) (s:Fq) (H:Hp) (vs:List V) (Q:VK) (E:XK),Room k (A.deeper (HJ qual scope s.heap.objs.size f cdv))->sp vs H Q E->
   ∃t,PSs (Xz CX P w K mg base N qual scope f cdv A outer s H E) z t/\t {nx:=λ_ H'=>Q .non H',rt:=Q} (start N vs) H) :
  FnOk P w K mg base CX (k+1) f (IS name qual j z scope dV kV aa pm an cdv ct) ps sp:=by
 refine⟨ab,λA outer s H args us vs Q E hr e0 hb r ac=>?_⟩
 have hl:=ab _ _ _ _ ac
 have KX:K.In s.heap:=e0.mod.kin.keeps λb o e=>(e0.bs b o e).1
 have ag:s.heap.NoLimit:=e0.mod.nolimit.keeps λb o e=>(e0.bs b o e).1
 have Y:∀y∈ps.zip us,scope.names.lookup y.1=some .local\/(scope.names.lookup y.1=some .cell/\((Ms (s.heap.objs.size+1) scope.names []).lookup y.1).isSome=true):=λad hy=>by
  obtain⟨n,v⟩:=ad
  rcases S.par n (Mr hy).1 with q|q
  ·exact .inl q
  ·exact .inr ⟨q,NN _ _ _ (.inl q)⟩
 refine codeAny_call_function hr.depth (KX _ _ lk) rfl S.co S.gen rfl (PySem.W.codeRec_of KX af) (hb _ _ _ _ ?_)
 refine wpAny_newFunctionEnv_cells S.kind Y λenv he s1 x=>?_
 subst he
 refine⟨ag.keeps x.toInCall.keep,codeAny_func ?_⟩
 obtain⟨t,ht,hq⟩:=U A outer s H vs Q E (hr.deeper _) ac
 have I:Inv (Xz CX P w K mg base N qual scope f cdv A outer s H E) [] (start N vs) H s1:=lS S hr.hd e0 hl r x
 refine Hf (ht [] s1 (start N vs) H _ I hq) (λfl s' Z=>?_) λe s' Z=>Z
 have fin:∀{O:St} {H':Hp} {v:V} {u:Fl},Inv (Xz CX P w K mg base N qual scope f cdv A outer s H E) [] O H' s'->zI v u->Q v H'->CE outer P w H s Q u s' :=
  λ{O H' v u} J rv q=>⟨v,H',J.os,J.bare,J.base,J.hok,rv,q⟩
 cases fl with
 | ret u=>
  obtain⟨v,O,H',J,rv,q⟩:=Z
  exact fin J rv q
 | next=>
  obtain⟨O,H',J,q⟩:=Z
  exact fin (v:=V.non) (u:=Value.none) J rfl q
 | brk=>
  obtain⟨_,_,_,q⟩:=Z
  exact Hm q
 | cont=>
  obtain⟨_,_,_,q⟩:=Z
  exact Hm q
end L2
namespace L2
open PySem PySem.Spec PyProof.Rows
section
variable {X:Cx} {x:Fp} {p pos:FG} {e:Fu} {es:List Fu} {t:TA} {id T:String} {r:List V->Hp->VK->Prop}
def tCB(r:List V->Hp->VK->Prop)(t:TA):TE:=λσ H Q=>t σ H λvs H1=>r vs H1 Q
def xi(O:vI X (.builtin id) r)(U:Gl X x)(Y:X.mg x=none)(Z:HZ x=some (.builtin id))(ha:PA X (e::es) t)(hn:x≠"__name__":=by decide)(z:(x==("__debug__":Fp))=false:=by decide) 
  (he:FK (e::es) X.env=(false,FJ e X.env)::FK es X.env:=by rfl) (J:(GJ pos (FK es X.env)).any (·.1)=false:=by rfl):PE X (.Call (.Name x p) (e::es) [] pos) (tCB r t):=by
 intro pins s σ H Q I h
 refine Ll (vY I U Y Z ?_ hn z)
 exact Rf (thn (ha pos pins s σ H _ I h) λus s1 j=>(by obtain⟨vs,H1,I1,r1,q1⟩:=j;exact O pins s1 σ H1 vs us Q I1 r1 q1)) he J
def ZK(O:vI X (.type T) r)(U:Gl X x)(Y:X.mg x=none)(Z:HZ x=some (.type T))(ha:PA X (e::es) t)(hn:x≠"__name__":=by decide)(z:(x==("__debug__":Fp))=false:=by decide) 
  (he:FK (e::es) X.env=(false,FJ e X.env)::FK es X.env:=by rfl) (J:(GJ pos (FK es X.env)).any (·.1)=false:=by rfl):PE X (.Call (.Name x p) (e::es) [] pos) (tCB r t):=by
 intro pins s σ H Q I h
 refine Ll (vY I U Y Z ?_ hn z)
 exact IQ (thn (ha pos pins s σ H _ I h) λus s1 j=>(by obtain⟨vs,H1,I1,r1,q1⟩:=j;exact O pins s1 σ H1 vs us Q I1 r1 q1)) he J
end
end L2
namespace HT
open PySem PyProof.Rows
section
open PySem.SeqAt
open PySem.AutoSeq1 (wpAny_loadPart')
open PySem.MeetsSeq PySem.MeetsSeq2 PySem.MeetsSeq3
end
section
variable {prog:FI} {w:FB} {A:FW} {E:Fl->Fq->Prop} {s:Fq}
def cat_tup{t b:Fo}{vs ws:List Fl}{Q:Fl->Fq->Prop}(ht:Ip s.heap t vs.toArray)(hb:Ip s.heap b ws.toArray)(hv:vs≠[]) 
  (h1:ws=[]->Q (.ref t) s) (h2:ws≠[]->Q (.ref s.heap.objs.size) {s with heap:=s.heap.push {cls:=.type "tuple",data:=.seq (vs++ws).toArray}})
  (hsz:vs.length+ws.length<=Fv):wpAny (Fx prog w) A (GW .Add (.ref t) (.ref b)) Q E s:=by
 obtain⟨⟨cls,dd,data,sl⟩,Y,hc,n,hd⟩:=id ht
 obtain⟨⟨aa,z,data2,J⟩,j,O,n2,U⟩:=id hb
 simp only at hc hd O U
 subst hc hd O U
 have e:vs.toArray++ws.toArray=(vs++ws).toArray:=by simp
 by_cases Z:ws=[]
 ·exact Mw ⟨_,Y,rfl⟩ ⟨_,j,rfl⟩ Mx My Mz MA (MB _ _)
   (tuple_addW1 t b vs.toArray ws.toArray n n2 dd z sl J (by simpa using hv) (by simp[Z])) ⟨Y,j,h1 Z⟩
 ·refine Mw ⟨_,Y,rfl⟩ ⟨_,j,rfl⟩ Mx My Mz MA (MB _ _)
   (tuple_addW2 t b vs.toArray ws.toArray n n2 dd z sl J (by simpa using hv) (by simpa using Z) (by rw[Go,Go];exact hsz)) ⟨Y,j,?_⟩
  rw[e]
  exact h2 Z
end
end HT
namespace L2
open PySem PySem.Spec PyProof.Rows
section
variable {X:Cx} {e:Fu} {te:TE} {lo hi:Option Fu} {tl th:TO} {pos p2:FG}
def qQ(K:Fs):R2:=λx y H Q=>∃a b xs ys,x=.ref a/\y=.ref b/\SqT K H a xs/\SqT K H b ys/\xs≠[]/\xs.length+ys.length<=Fv/\
 (ys=[]->Q (.ref a) H)/\(ys≠[]->∀p,H p=none->Q (.ref p) (upd H p (.tup (xs++ys))))
def zC.nil_iff(r:zC xs us):us=[]↔xs=[]:=by
 cases r with
 | nil=>simp
 | cons _ _=>simp
def rN:OpR X (GW .Add) (qQ X.K):=by
 intro pins s σ H x y v u Q I O U h
 obtain⟨a,b,xs,ys,rfl,rfl,Y,Z,hx,j,q1,q2⟩:=h
 cases O
 cases U
 obtain⟨its,r1,p1,_⟩:=I.tuple Y
 obtain⟨J,r2,p2,_⟩:=I.tuple Z
 refine HT.cat_tup p1 p2 (λz=>hx (r1.nil_iff.mp z)) (λz=>⟨.ref a,H,I,rfl,q1 (r2.nil_iff.mp z)⟩) (λz=>?_) (by rw[<-r1.length,<-r2.length];exact j)
 refine⟨.ref s.heap.objs.size,_,I.laid (t':=s.toks) (o:=.tup (xs++ys)) (λb ob q=>FQ _ q) (FA _) ?_,rfl,q2 (λw=>z (r2.nil_iff.mpr w)) _ (I.hok.fresh (FA _))⟩
 exact⟨by rw[Gb];exact j,_,r1.append r2,Lq _ _⟩
end
end L2
namespace L2
open PySem PySem.Spec PyProof.Rows
def ixN(n:Nat)(i:Int):Option Nat:=if 0<=i then(if i<n then some i.toNat else none)else if-(n:Int)<=i then some (i+n).toNat else none
def atI{α:Type}(xs:List α)(i:Int):Option α:=(ixN xs.length i).bind λj=>xs[j]?
def fA{n:Nat}{i:Int}{j:Nat}(h:ixN n i=some j):seqIndex? i n=some j/\j<n/\-(n:Int)<=i/\i<n:=by
 unfold ixN at h
 by_cases z:0<=i
 ·rw[if_pos z]at h
  by_cases h1:i<n
  ·rw[if_pos h1]at h
   have e:i.toNat=j:=GG h
   exact⟨by rw[MC z h1,e],by omega,by omega,h1⟩
  ·rw[if_neg h1]at h;cases h
 ·rw[if_neg z]at h
  by_cases h1:-(n:Int)<=i
  ·rw[if_pos h1]at h
   have e:(i+n).toNat=j:=GG h
   exact⟨by rw[seqIndex_neg (by omega) h1,e],by omega,h1,by omega⟩
  ·rw[if_neg h1]at h;cases h
def fB{α:Type}{xs:List α}{i:Int}{v:α}(h:atI xs i=some v):∃j,seqIndex? i xs.length=some j/\xs[j]?=some v/\j<xs.length/\-(xs.length:Int)<=i/\i<xs.length:=by
 unfold atI at h
 cases e:ixN xs.length i with
 | none=>rw[e]at h;cases h
 | some j=>
  rw[e]at h
  obtain⟨h1,h2,z,J⟩:=fA e
  exact⟨j,h1,h,h2,z,J⟩
def xf{α:Type}{xs:List α}{j:Nat}{v:α}(h:xs[j]?=some v):atI xs (j:Int)=some v:=by
 have z:j<xs.length:=(FO.mp h).1
 have e:ixN xs.length (j:Int)=some j:=by
  unfold ixN
  rw[if_pos (by omega),if_pos (by omega)];simp
 unfold atI;rw[e];exact h
def UM(b:Fu):Prop:=∀o i,KG b false o i=operate [o,i] (KH o i)
def IxR(X:Cx)(r:R2):Prop :=
 ∀(value j:Fu) (pins:List (Fo×FD)) (s:Fq) (σ:St) (H:Hp) (x y:V) (v u:Fl) (Q:VK),Inv X pins σ H s->zI x v->zI y u->r x y H Q->
  KG j false v u=operate [v,u] (KH v u)->wpAny (Fx X.prog X.w) X.A (MD value j v u) (EP X pins σ Q) X.xe s
def MtR(X:Cx)(id:String)(r:V->List V->Hp->VK->Prop):Prop :=
 ∀(pins:List (Fo×FD)) (s:Fq) (σ:St) (H:Hp) (x:V) (xs:List V) (v:Fl) (us:List Fl) (Q:VK),Inv X pins σ H s->zI x v->zC xs us->r x xs H Q->
  wpAny (Fx X.prog X.w) X.A (call (.builtin id) (v::us)) (EP X pins σ Q) X.xe s
section
variable {X:Cx} {a b:Fu} {ta tb:TE} {pos:FG}
def IxR.or(h:IxR X r)(h':IxR X U):IxR X (λx y H Q=>r x y H Q\/U x y H Q):=by
 intro value j pins s σ H x y v u Q I z J q O
 rcases q with q|q
 ·exact h value j pins s σ H x y v u Q I z J q O
 ·exact h' value j pins s σ H x y v u Q I z J q O
def xo(j:IxR X r)(z:PE X a ta)(J:PE X b tb)(O:UM b):PE X (.Subscript a b pos) (tOp r ta tb):=by
 intro pins s σ H Q I h
 exact Subscript_ (nQ z J I h λv u s2 x y H2 U Y Z q=>j a b pins s2 σ H2 x y v u Q U Y Z q (O _ _))
def Af(K:Fs):R2:=λx y H Q=>∃p xs i v,x=.ref p/\y=.int i/\SqL K H p xs/\atI xs i=some v/\Q v H
def Ag(K:Fs):R2:=λx y H Q=>∃p xs i v,x=.ref p/\y=.int i/\SqT K H p xs/\atI xs i=some v/\Q v H
def xQ:IxR X (Af X.K):=by
 intro value J pins s σ H x y v u Q I rx ry h Y
 obtain⟨p,xs,i,z,rfl,rfl,hq,he,q⟩:=h
 cases rx
 obtain⟨t,rfl⟩:=ry
 obtain⟨its,r,pl,hz⟩:=I.list hq
 obtain⟨j,h1,h2,h3,h4,h5⟩:=fB he
 obtain⟨w,Z,O⟩:=r.get h2
 have hl:=r.length
 have hn:=Vw
 have fin:EP X pins σ Q w s:=⟨z,H,I,O,q⟩
 by_cases h0:0<=i
 ·have U:i.toNat=j:=by
   rw[MC h0 h5]at h1
   exact GG h1
  exact item_listR pl.isList h0 (by omega) (by rw[U];simpa using Z) fin Y
 ·have U:(i+(its.toArray.size:Int)).toNat=j:=by
   rw[seqIndex_neg (by omega) h4]at h1
   rw[Go,<-hl]
   exact GG h1
  exact NQ (x:=w) pl.isList.typeIs slot_list_getitem.lookup
   (wpAny_getItem_list_neg (Q:=λr s'=>r=w/\EP X pins σ Q r s') pl.isList (by omega) (by rw[Go] <;>omega) (by omega) (by rw[U];simpa using Z) ⟨rfl,fin⟩) Y
def wR:IxR X (Ag X.K):=by
 intro value J pins s σ H x y v u Q I U Y h Z
 obtain⟨p,xs,i,z,rfl,rfl,hq,he,q⟩:=h
 cases U
 obtain⟨t,rfl⟩:=Y
 obtain⟨its,r,pl,hz⟩:=I.tuple hq
 obtain⟨j,h1,h2,h3,h4,h5⟩:=fB he
 obtain⟨w,ew,O⟩:=r.get h2
 have hl:=r.length
 have hn:=Vw
 have fin:EP X pins σ Q w s:=⟨z,H,I,O,q⟩
 exact NQ (x:=w) pl.typeIs slot_tuple_getitem.lookup
  (getItem_tuple (j:=j) (Q:=λr s'=>r=w/\EP X pins σ Q r s') pl (by omega) (by omega) (by rw[Go,<-hl];exact h1) (by simpa using ew) ⟨rfl,fin⟩) Z
def iF(its:List Fl)(n j:Nat)(u:Fl):KJ (·.setIfInBounds j u) {cls:=.type "list",data:=.seq its.toArray n}={cls:=.type "list",data:=.seq (its.set j u).toArray n}:=by
 simp[KJ]
def Inv.lst(I:Inv X pins σ H s)(h:H p=some (.lst xs)):
  ∃(its:List Fl) (n:Nat),zC xs its/\s.heap.get? p=some {cls:=.type "list",data:=.seq its.toArray n}/\xs.length<=Fv:=by
 obtain⟨z,its,n,r,e⟩:=I.hok p _ h
 exact⟨its,n,r,e,z⟩
def Inv.lstUpd{pins:List (Fo×FD)}{σ:St}{H:Hp}{s:Fq}{p:Fo}{xs ys:List V}{its its':List Fl}{n j:Nat}{f:FD->FD}(I:Inv X pins σ H s)(h:H p=some (.lst xs)) 
  (J:s.heap.get? p=some {cls:=.type "list",data:=.seq its.toArray n}) (z:f {cls:=.type "list",data:=.seq its.toArray n}={cls:=.type "list",data:=.seq its'.toArray j}) (r:zC ys its') (O:ys.length<=Fv) (t:Nat) :
  Inv X pins σ (upd H p (.lst ys)) {s with heap:=s.heap.update p f,toks:=t}:=by
 have e:(s.heap.update p f).get? p=some {cls:=.type "list",data:=.seq its'.toArray j}:=by
  rw[NR f J (by rw[z] <;>rfl),z]
 refine I.write (x:=p) (e:=p) (by rw[h];trivial) (.inl rfl) (λb u U q=>(NS _ _ (FH U)).trans q) ⟨_,e⟩ ?_
 exact⟨O,its',j,r,e⟩
def BX:V->V->V->Hp->(Hp->Prop)->Prop:=λo i v H Q=>∃p xs k j,o=.ref p/\i=.int k/\H p=some (.lst xs)/\ixN xs.length k=some j/\Q (upd H p (.lst (xs.set j v)))
def YT:tX X BX:=by
 intro pins s σ H o i v ov iv u Q I ro ri rv h
 obtain⟨p,xs,k,j,rfl,rfl,U,hj,q⟩:=h
 cases ro
 obtain⟨t,rfl⟩:=ri
 obtain⟨its,n,r,z,hz⟩:=I.lst U
 obtain⟨h1,h2,Y,Z⟩:=fA hj
 have J:=r.length
 have hn:=Vw
 have I':Inv X pins σ (upd H p (.lst (xs.set j v))) {s with heap:=s.heap.update p (KJ (·.setIfInBounds j u))} :=
  I.lstUpd U z (iF its n j u) (r.set rv j) (by rw[GD];exact hz) s.toks
 by_cases h0:0<=k
 ·have O:k.toNat=j:=by
   rw[MC h0 Z]at h1
   exact GG h1
  exact PySem.W.ki_setAt z h0 (by omega) (by rw[Go,<-J];exact Z) (by rw[O];exact⟨_,I',q⟩)
 ·have O:(k+(its.toArray.size:Int)).toNat=j:=by
   rw[seqIndex_neg (by omega) Y]at h1
   rw[Go,<-J]
   exact GG h1
  exact PySem.W.ki_setBack z (by omega) (by rw[Go,<-J];exact Y) (by omega) (by rw[O];exact⟨_,I',q⟩)
def zy:vI X (.builtin "len") (λxs H Q=>∃p ys,xs=[.ref p]/\(SqL X.K H p ys\/SqT X.K H p ys)/\Q (.int ys.length) H):=by
 intro pins s σ H xs us Q I r h
 obtain⟨p,ys,rfl,hq,q⟩:=h
 obtain⟨u,rfl,rx⟩:=Wd r
 cases rx
 have hn:=Vw
 rcases hq with hq|hq
 ·obtain⟨its,r',pl,hz⟩:=I.list hq
  have hlen:=r'.length
  exact Calls.call_len_list pl.isList (by simp only[Go] <;>omega) ⟨.int ys.length,H,I.tok _,⟨s.toks+1,by rw[Go,hlen]⟩,q⟩
 ·obtain⟨its,r',pl,hz⟩:=I.tuple hq
  have hlen:=r'.length
  exact len_tuple pl (by simp only[Go] <;>omega) ⟨.int ys.length,H,I.tok _,⟨s.toks+1,by rw[Go,hlen]⟩,q⟩
def xx:vI X (.type "tuple") (λxs H Q=>∃p ys,xs=[.ref p]/\((SqL X.K H p ys/\∀l,H l=none->Q (.ref l) (upd H l (.tup ys)))\/(SqT X.K H p ys/\Q (.ref p) H))):=by
 intro pins s σ H xs us Q I r h
 obtain⟨p,ys,rfl,h⟩:=h
 obtain⟨u,rfl,Y⟩:=Wd r
 cases Y
 rcases h with⟨j,q⟩|⟨j,q⟩
 ·obtain⟨its,z,pl,J⟩:=I.list j
  have O:=z.length
  refine call_tuple_list pl.isList (λh' Z=>?_) (by simp only[Go] <;>omega)
  have U:Inv X pins σ H {s with heap:=h'}:=I.kept (t':=s.toks) Z
  have I2:Inv X pins σ (upd H h'.objs.size (.tup ys)) {s with heap:=h'.push {cls:=.type "tuple",data:=.seq its.toArray}} :=
   U.laid (t':=s.toks) (λb o e=>FQ _ e) (FA _) (show yB X.prog X.w _ _ _ (.tup ys)from⟨J,its,z,Lq _ _⟩)
  exact⟨.ref h'.objs.size,_,I2,rfl,q _ (U.hok.fresh (FA _))⟩
 ·obtain⟨its,z,pl,J⟩:=I.tuple j
  exact call_tuple_same pl ⟨.ref p,H,I,rfl,q⟩
def tyV(K:Fs)(T:String)(x:V)(H:Hp):Prop:=match x with
 | .str _=>T="str"
 | .int _=>T="int"
 | .ref p=>(T="list"/\∃xs,SqL K H p xs)\/(T="tuple"/\∃o,K.lookup p=some o/\o.cls=.type "tuple"/\o.dict=none)\/
  (T="dict"/\((∃kvs,H p=some (.dK kvs))\/∃kvs,H p=some (.dT kvs)))\/(T="set"/\∃S n,H p=some (.set S n))
 | _=>False
def lT(I:Inv X pins σ H s)(r:zI x v)(ty:tyV X.K T x H):
  s.TypeIs v T/\∀a,v=.ref a->∃U,s.heap.get? a=some U/\U.dict=none:=by
 cases x with
 | str z=>
  obtain⟨t,rfl⟩:=r
  cases (show T="str"from ty)
  exact⟨typeIs_str s z t,λ_ e=>nomatch e⟩
 | int i=>
  obtain⟨t,rfl⟩:=r
  cases (show T="int"from ty)
  exact⟨KL s i t,λ_ e=>nomatch e⟩
 | ref p=>
  cases r
  rcases ty with⟨rfl,xs,Y⟩|⟨rfl,o,j,Z,J⟩|⟨rfl,j⟩|⟨rfl,S,n,j⟩
  ·obtain⟨its,_,pl,_⟩:=I.list Y
   refine⟨pl.isList.typeIs,λa e=>?_⟩
   cases e
   obtain⟨o,n,e,c,J,_⟩:=pl
   exact⟨o,e,J⟩
  ·refine⟨⟨o,I.kIn p o j,Z⟩,λa e=>?_⟩
   cases e
   exact⟨o,I.kIn _ o j,J⟩
  ·have z:∃o,s.heap.get? p=some o/\o.ExactDict:=by
    rcases j with⟨kvs,j⟩|⟨kvs,j⟩
    ·obtain⟨_,_,_,_,o,_,_,e,ex,_⟩:=I.hok p _ j
     exact⟨o,e,ex⟩
    ·obtain⟨_,_,_,_,o,_,_,e,ex,_⟩:=I.hok p _ j
     exact⟨o,e,ex⟩
   obtain⟨o,e,ex⟩:=z
   refine⟨⟨o,e,ex.1⟩,λa O=>?_⟩
   cases O
   exact⟨o,e,ex.2.1⟩
  ·obtain⟨o,_,_,_,e,ex,_⟩:=I.hok p _ j
   refine⟨⟨o,e,ex.1⟩,λa O=>?_⟩
   cases O
   exact⟨o,e,ex.2.1⟩
 | _=>exact Hm ty
def DC(K:Fs)(T:String)(r:V->List V->Hp->VK->Prop)(to:TE):TE:=λσ H Q=>to σ H λx H1=>tyV K T x H1/\r x [] H1 Q
def tBM(K:Fs)(T:String)(r:V->List V->Hp->VK->Prop)(to:TE)(t:TA):TE:=λσ H Q=>to σ H λx H1=>tyV K T x H1/\t σ H1 λxs H2=>r x xs H2 Q
variable {o e:Fu} {es:List Fu} {to:TE} {t:TA} {name:Fp} {apos cpos:FG} {T id:String} {r:V->List V->Hp->VK->Prop}
def Ah(pa:PlainAttrs T)(slot:Slot T name id)(hty:typeOf (.builtin id)=pure (.type "method_descriptor"))(hm:MtR X id r)(ho:PE X o to) 
  (hbase:Kg o name X.env (FJ o X.env)=FJ o X.env:=by rfl) (hline:(apos.endLine==cpos.line)=true:=by rfl):PE X (.Call (.Attribute o name apos) [] [] cpos) (DC X.K T r to):=by
 intro pins s σ H Q I h
 refine NT hbase hline (thn (ho pins s σ H _ I h) λv s1 ⟨x,H1,I1,r1,ty,q1⟩=>?_)
 obtain⟨h1,h2⟩:=lT I1 r1 ty
 exact⟨T,id,pa,slot,hty,h1,h2,Lr rfl (NU (hm pins s1 σ H1 x [] v [] Q I1 r1 .nil q1))⟩
def xJ(pa:PlainAttrs T)(slot:Slot T name id)(hty:typeOf (.builtin id)=pure (.type "method_descriptor"))(hm:MtR X id r)(ho:PE X o to)(ha:PA X (e::es) t) 
  (hbase:Kg o name X.env (FJ o X.env)=FJ o X.env:=by rfl)
  (hfew:((GJ cpos (FK (e::es) X.env)).all (λx=>!x.1) && (Lm cpos (Ln [] X.env)).all (λx=>x.1.isSome)
   && decide ((e::es).length+([]:List KD).length+(if([]:List KD).isEmpty then 0 else 1)<30))=true:=by rfl)
  (hline:(apos.endLine==cpos.line)=true:=by rfl) (hs:FK (e::es) X.env=(false,FJ e X.env)::FK es X.env:=by rfl) (hplain:(GJ cpos (FK es X.env)).any (·.1)=false:=by rfl) :
  PE X (.Call (.Attribute o name apos) (e::es) [] cpos) (tBM X.K T r to t):=by
 intro pins s σ H Q I h
 refine wpAny_Call_method_late hbase hfew hline rfl (thn (ho pins s σ H _ I h) λv s1 ⟨x,H1,I1,r1,ty,q1⟩=>?_)
 obtain⟨h1,h2⟩:=lT I1 r1 ty
 refine⟨T,id,pa,slot,hty,h1,h2,?_⟩
 have hA:=ha cpos pins s1 σ H1 _ I1 q1
 rw[hs]at hA ⊢
 refine Lr (by show(false|| (GJ cpos (FK es X.env)).any (·.1))=false;rw[hplain] <;>rfl) (NV ?_)
 exact thn hA λus s2 hh12'=>by obtain⟨vs,H2,I2,r2,q2⟩:=hh12';exact hm pins s2 σ H2 x vs v us Q I2 r1 r2 q2
end
end L2
namespace L2
open PySem PySem.Spec PyProof.Rows
def MtM(X:Cx)(id:String)(r:V->List V->Hp->VK->Prop):Prop :=
 ∀(pins:List (Fo×FD)) (s:Fq) (σ:St) (H:Hp) (x:V) (xs:List V) (v:Fl) (us:List Fl) (Q:VK),Inv X pins σ H s->zI x v->zC xs us->r x xs H Q->
  wpAny (Fx X.prog X.w) X.A (call (.builtin id) (v::us)) (EP X pins σ Q) X.xe s
theorem zC.one:∀{x:V} {us:List Fl},zC [x] us->∃u,us=[u]/\zI x u
 | _,_,.cons r .nil=>⟨_,rfl,r⟩
theorem zC.zero:∀{us:List Fl},zC [] us->us=[]
 | _,.nil=>rfl
def zC.dropLast(h:zC xs us):zC xs.dropLast us.dropLast:=by
 induction h with
 | nil=>exact .nil
 | cons r t j=>
  cases t with
  | nil=>exact .nil
  | cons q t'=>exact .cons r j
def zC.reverse(h:zC xs us):zC xs.reverse us.reverse:=by
 induction h with
 | nil=>exact .nil
 | cons r t j=>rw[Lu,Lu];exact zC.append j (.cons r .nil)
theorem zC.rep(h:zC xs us):∀k:Nat,zC (F7 k xs).flatten (F7 k us).flatten
 | 0=>.nil
 | k+1=>by
  rw[Iz,Iz,IT,IT]
  exact zC.append h (zC.rep h k)
def iG{α:Type}(l:List α):l.eraseIdx (l.length-1)=l.dropLast:=by
 induction l with
 | nil=>rfl
 | cons a r j=>
  cases r with
  | nil=>rfl
  | cons b r=>
   have e:(a::b::r).length-1=((b::r).length-1)+1:=by
    have h1:(a::b::r).length=r.length+2:=rfl
    have h2:(b::r).length=r.length+1:=rfl
    omega
   rw[e,List.eraseIdx_cons_succ,j]
   all_goals rfl
theorem QL(its:List Fl):∀(k:Nat) (acc:List Fl),
  Lv (λx1 x2=>x1++x2) acc.toArray (F7 k its.toArray)=(acc++(F7 k its).flatten).toArray
 | 0,acc=>by simp
 | k+1,acc=>by
  have e:acc.toArray++its.toArray=(acc++its).toArray:=by simp
  have j:(acc++its)++(F7 k its).flatten=acc++(F7 (k+1) its).flatten:=by
   rw[Iz,IT,ME]
  rw[<-j,<-QL its k (acc++its),<-e,Iz,NW]
section
variable {X:Cx} {pins:List (Fo×FD)} {σ:St} {H:Hp} {s:Fq} {l b:Fo} {xs ys zs:List V}
def Inv.lset{its its':List Fl}{n:Nat}{f:Array Fl->Array Fl}{t':Nat}(I:Inv X pins σ H s)(j:H l=some (.lst xs)) 
  (e:s.heap.get? l=some {cls:=.type "list",data:=.seq its.toArray n}) (z:f its.toArray=its'.toArray) (J:zC ys its') (O:ys.length<=Fv) :
  Inv X pins σ (upd H l (.lst ys)) {s with heap:=s.heap.update l (KJ f),toks:=t'}:=by
 have q:=PySem.IsL.update e f
 rw[z]at q
 refine I.write (x:=l) (e:=l) (by rw[j];exact trivial) (.inl rfl) (λZ u U Y=>(NS s.heap (KJ f) (FH U)).trans Y) ⟨_,q⟩ ?_
 exact⟨O,its',_,J,q⟩
def Inv.lnew{its:List Fl}{t':Nat}(I:Inv X pins σ H s)(j:zC ys its)(z:ys.length<=Fv):
  Inv X pins σ (upd H s.heap.objs.size (.lst ys)) {s with heap:=s.heap.push {cls:=.type "list",data:=.seq its.toArray},toks:=t'} :=
 I.laid (λ_ _ q=>FQ _ q) (FA _) ⟨z,its,0,j,Gr _ rfl⟩
def Inv.fresh(I:Inv X pins σ H s):H s.heap.objs.size=none:=I.hok.fresh (FA _)
def Inv.lstM(I:Inv X pins σ H s)(j:H l=some (.lst xs)):xs.length<=Fv/\∃(its:List Fl) (n:Nat),zC xs its/\xs.length=its.length/\s.heap.get? l=some {cls:=.type "list",data:=.seq its.toArray n}:=by
 obtain⟨z,its,n,r,e⟩:=I.hok l _ j
 exact⟨z,its,n,r,r.length,e⟩
def nX(h:n<=Fv):MF n=false:=by
 unfold MF
 exact decide_eq_false (by omega)
end
section
variable {X:Cx}
def fC:V->List V->Hp->VK->Prop:=λx vs H Q=>∃l xs y,x=.ref l/\vs=[y]/\H l=some (.lst xs)/\xs.length<Fv/\Q .non (upd H l (.lst (xs++[y])))
def yA:MtM X "list.append" fC:=by
 intro pins s σ H x vs v us Q I J O h
 obtain⟨l,xs,y,rfl,rfl,j,Y,q⟩:=h
 cases J
 obtain⟨u,rfl,U⟩:=O.one
 obtain⟨z,its,n,r,Z,e⟩:=I.lstM j
 refine Ij GM ⟨_,e,rfl⟩ F.entry_list_append (F.args_list_append_2 _ _) (PySem.list_append l its.toArray n u (by rw[Go];omega)) ⟨e,?_⟩
 refine⟨.non,_,I.lset (its':=its++[u]) j e (by simp) (r.append (.cons U .nil)) ?_,rfl,q⟩
 rw[Gb,GA]
 omega
def fD:V->List V->Hp->VK->Prop:=λx vs H Q=>∃l b xs zs,x=.ref l/\vs=[.ref b]/\H l=some (.lst xs)/\H b=some (.lst zs)/\xs.length+zs.length<=Fv/\Q .non (upd H l (.lst (xs++zs)))
def QM:MtM X "list.extend" fD:=by
 intro pins s σ H x vs v us Q I rx rv h
 obtain⟨l,b,xs,zs,rfl,rfl,hH,hB,hz,q⟩:=h
 cases rx
 obtain⟨u,rfl,ru⟩:=rv.one
 cases ru
 obtain⟨z,its,n,r,hl,e⟩:=I.lstM hH
 obtain⟨z2,its2,n2,r2,hl2,e2⟩:=I.lstM hB
 have hsz:its.toArray.size+its2.toArray.size<=Fv:=by rw[Go,Go];omega
 have hlong:¬(!its.toArray.isEmpty && MF (its.toArray.size+its2.toArray.size))=true:=by
  rw[nX hsz,Bool.and_false]
  exact Gx
 refine Ij MG ⟨_,e,rfl⟩ F.entry_list_extend (F.args_list_extend_2 _ _)
  (AutoSeq1.list_extend_list_list_0 l its.toArray n b its2.toArray n2 hlong (by rw[Go];omega) (by omega)) ⟨e,e2,?_⟩
 refine⟨.non,_,I.lset (its':=its++its2) hH e (by simp) (r.append r2) ?_,rfl,q⟩
 rw[Gb]
 omega
def DE:V->List V->Hp->VK->Prop:=λx vs H Q=>∃l xs y,x=.ref l/\vs=[]/\H l=some (.lst xs)/\xs[xs.length-1]?=some y/\Q y (upd H l (.lst xs.dropLast))
def Ai:MtM X "list.pop" DE:=by
 intro pins s σ H x vs v us Q I rx rv h
 obtain⟨l,xs,y,rfl,rfl,hH,hy,q⟩:=h
 cases rx
 have hus:=rv.zero
 subst hus
 obtain⟨z,its,n,r,hl,e⟩:=I.lstM hH
 obtain⟨u,hu,ru⟩:=r.get hy
 have hy':its.toArray[its.toArray.size-1]?=some u:=by
  show its.toArray[its.length-1]?=some u
  rw[<-MH,<-hl]
  exact hu
 refine Ij NX ⟨_,e,rfl⟩ F.entry_list_pop (F.args_list_pop_1 _) (MeetsSeq.list_pop_last l its.toArray n u hy' (by rw[Go];omega)) ⟨e,?_⟩
 refine⟨y,_,I.lset (its':=its.dropLast) hH e ?_ r.dropLast ?_,ru,q⟩
 ·show its.toArray.eraseIdxIfInBounds (its.toArray.size-1)=its.dropLast.toArray
  rw[Go,List.eraseIdxIfInBounds_toArray,iG]
 ·rw[NY]
  omega
def iH:R2:=λx y H Q=>∃l b xs zs,x=.ref l/\y=.ref b/\H l=some (.lst xs)/\H b=some (.lst zs)/\xs.length+zs.length<=Fv/\∀p,H p=none->Q (.ref p) (upd H p (.lst (xs++zs)))
def Aj:OpR X (GW .Add) iH:=by
 intro pins s σ H x y v u Q I J O h
 obtain⟨l,b,xs,zs,rfl,rfl,U,Y,hz,q⟩:=h
 cases J
 cases O
 obtain⟨z,its,n,r,hl,e⟩:=I.lstM U
 obtain⟨z2,j,n2,r2,Z,e2⟩:=I.lstM Y
 refine PySem.P.add_list e e2 ?_ (by rw[Go,Go];omega)
 have ea:its.toArray++j.toArray=(its++j).toArray:=by simp
 rw[ea]
 exact⟨.ref _,_,I.lnew (t':=s.toks) (r.append r2) (by rw[Gb];omega),rfl,q _ I.fresh⟩
def rO{α:Type}(xs:List α)(k:Nat):(F7 k xs).flatten.length=k*xs.length:=by
 induction k with
 | zero=>simp
 | succ k j=>rw[Iz,IT,Gb,j,Lw,MI]
end
section
variable {prog:FI} {w:FB} {A:FW} {E:Fl->Fq->Prop} {s:Fq}
end
section
variable {X:Cx}
end
end L2
namespace Att
open PySem PySem.W PySem.Calls PyProof.Rows
def Vy{P:Lx}{h:Fz}:∀(ns:List Int) (vs:List Fl),WellAll P h vs (ns.map WData.int)->KM vs ns:=by
 intro ns
 induction ns with
 | nil=>
  intro vs w
  rw[MJ]at w
  cases w
  exact .nil
 | cons n ns j=>
  intro vs w
  rw[FY]at w
  cases w with
  | cons a b=>
   cases a
   exact .cons _ _ (j _ b)
def lU{l:Ki}{n:Nat}(hn:l.most=some n){P:Lx}{h:Fz}{args:List WData}{j:List Fl} 
  (z:l.row.toRowW.claim.pre args=true) (Z:WellAll P h j args) :
  ∃a vs ns,j=[Value.ref a]/\args=[WData.list (ns.map WData.int)]/\h.get? a=some {cls:=.type "list",data:=.seq vs.toArray}/\KM vs ns/\ns.length<=n:=by
 have aa:WShape.hasAll [] args [.list .int]=true:=(pre_splitW z).1
 have hc:l.pre.holds [] {args:=args}=true:=(pre_splitW z).2
 obtain⟨d,r,rfl,h1,h2⟩:=hasAllW_cons aa
 obtain rfl:=hasAllW_nil h2
 obtain⟨xs,rfl,h3⟩:=hasW_list h1
 obtain⟨ns,rfl⟩:=items_int h3
 have J:ns.length<=n:=by
  unfold OpenLaw.pre at hc
  have U:(WTm.not (.lt (.lit (.int (n:Int))) (.len (.arg 0)))).holds [] {args:=[.list (ns.map .int)]}=true:=by
   have U:=(holds_andW hc).1
   rw[hn]at U
   exact U
  have Y:=condW_of U (w_not (w_lt w_lit (w_len_list (w_arg rfl))))
  rw[FF]at Y
  refine Nat.le_of_not_lt λq=>?_
  have q':(n:Int)<((ns.length:Nat):Int):=by omega
  first
   | (rw[decide_eq_true q']at Y;exact absurd Y (by decide))
   | (simp at Y;omega)
 cases Z with
 | cons w1 w2=>
  cases w2
  cases w1 with
  | list ho O=>exact⟨_,_,ns,rfl,rfl,ho,Vy ns _ O,J⟩
def lV(l:Ki)(args:List WData):l.row.toRowW.claim.post args (.bool true) args=true :=
 postW_of (r:=l.row.toRowW) (X:=(true==true))
  (show NZ [] (.bool true) .bool=true by first|rfl|decide|simp[NZ,WShape.arms,WShape.armsAll])
  (show(WTm.eq .res (.lit (.bool true))).value [] {args:=args,res:=some (.bool true),after:=args}=some (.bool (true==true))from w_eq_bool (w_res rfl) w_lit) rfl
def attach_call{l:Ki}{n:Nat}{q:FI}{z:List Fp}{XP:(Fp->Option Fl)->Fz->Prop}{YP:FB->Fz->Prop}{d:DefRec} 
  (hn:l.most=some n) (ab:d.params.defaults=[])
  (call:∀(w:FB) (s₀ j:Fq) (mg mb:Fp->Option Fl) (fa:Fo) (o:FD) (pm cd J:Fl) (a:Fo) (vs:List Fl) (ns:List Int),
   Ground q z [] XP w s₀ mg mb j.heap->YP w j.heap->
   j.heap.get? fa=some o->o.data=.func (docDef d.name d.params d.body d.scope pm cd J)->j.heap.CodeRec cd d.name->mg d.name=some (.ref fa)->
   j.heap.get? a=some {cls:=.type "list",data:=.seq vs.toArray}->KM vs ns->ns.length<=n->j.gens=#[]->
   codeAny (Fx l.prog w) IU (.call (.ref fa) ⟨[.ref a],[]⟩) (λr s'=>r=.ok (.ret (.bool true))/\OldK j.heap s'.heap/\s'.os=j.os/\Ia s'.gens) j) :
  MK q z XP YP l.row.toRowW d [] (λf vs=>ML f vs):=by
 intro w s₀ j mg mb G Y fa o pm cd J dV kV ho hd ac hD ad hg args af as U ag ah ae ai
 obtain rfl:dV=.none:=Dflts.none hD ab
 obtain rfl:kV=.none:=Dflts.noKw hD
 obtain⟨a,vs,ns,rfl,rfl,Z,O,aa⟩:=lU hn U ae
 refine enter_call (Lk (call w s₀ j mg mb fa o pm cd J a vs ns G Y ho (fd_plain hd) ac ad Z O aa hg) λr s' hq=>?_)
 obtain⟨rfl,h2,h3,h4⟩:=hq
 exact⟨.inl ⟨.bool true,.bool true,[],rfl,λ_=>rfl,.bool true,lV l _,λ_=>⟨List.Pairwise.nil,λ_ hm=>(nomatch hm)⟩⟩,h2,h3,h4⟩
section
variable {prog:FI} {w:FB} {A:FW} {E:Fl->Fq->Prop} {s:Fq} {K:Fs}
end
end Att
namespace L2
open PySem PySem.Spec PyProof.Rows
theorem QN:∀{vs:List Fl} {ns:List Int},KM vs ns->zC (ns.map V.int) vs
 | _,_,.nil=>.nil
 | _,_,.cons n t h=>.cons ⟨t,rfl⟩ (QN h)
def nY(H:Hp):Prop:=∀b,H b=none\/∃o xs,H b=some (.frz o (.lst xs))
def nZ{P:FI}{w:FB}{K:Fs}{mg mb:Fp->Option Fl}{CX:CXT}{k:Nat}{fa a:Fo}{fd:Ga}{x:Fp}{sp:Sp}{j:Fq}{vs:List Fl}{ns:List Int} 
  (KX:K.In j.heap) (ab:j.heap.Ns Gv mg) (O:j.heap.Ns L9 mb) (ai:∀x:Fp,x≠"__name__"->mb x=HZ x) (ac:j.heap.NoLimit) (hg:j.gens=#[])
  (ha:j.heap.get? a=some {cls:=.type "list",data:=.seq vs.toArray}) (hi:KM vs ns) (hl:ns.length<=Fv) (hr:Room k IU)
  (F:∀base:Fz,K.In base->base.Ns Gv mg->FnOk P w K mg base CX k fa fd [x] sp) (Z:∀(s:Fq) (u:Fl),Kh s fd ⟨[u],[]⟩ [(x,u)])
  (aj:∀H:Hp,nY H->SqL K H a (ns.map V.int)->sp [.ref a] H (λv _=>v=.bl true) λ_ _ _=>False)
  (ak:∀H e s',CX [] H j (λ_ _ _=>False) e s'->False) :
  codeAny (Fx P w) IU (.call (.ref fa) ⟨[.ref a],[]⟩) (λr s'=>r=.ok (.ret (.bool true))/\OldK j.heap s'.heap/\s'.os=j.os/\Ia s'.gens) j:=by
 have rv:=QN hi
 have ad:=hi.length
 have Y:∀H:Hp,nY H->SqL K H a (ns.map V.int)->HOk P w H j.heap->(∀b,H b≠none->b=a)->(H a≠none->K.lookup a=none)->
   codeAny (Fx P w) IU (.call (.ref fa) ⟨[.ref a],[]⟩) (λr s'=>r=.ok (.ret (.bool true))/\OldK j.heap s'.heap/\s'.os=j.os/\Ia s'.gens) j:=by
  intro H hO hS ae hA hK
  have J:∀{b:Fo} {o:FD},j.heap.get? b=some o->H b=none->(YM j.heap H).get? b=some o:=λe n=>nK e n
  have al:∀{b:Fo} {o:FD} {es:Array DictEntry} {ep:Nat},j.heap.get? b=some o->o.data=.dict es ep->H b=none:=λ{b o es ep} e d=>by
   cases q:H b with
   | none=>rfl
   | some u=>
    have e':b=a:=hA b (by rw[q];simp)
    subst e'
    rw[ha]at e;cases e
    have d':Data.seq vs.toArray _=Data.dict es ep:=d
    cases d'
  have U:∀{b:Fo} {m:Fp->Option Fl},j.heap.Ns b m->(YM j.heap H).Ns b m:=λ{b m} aa=>by obtain⟨o,es,ep,e,d,r⟩:=aa;exact⟨o,es,ep,J e (al e d),d,r⟩
  have af:K.In (YM j.heap H):=λb o e=>J (KX b o e) (by
   cases q:H b with
   | none=>rfl
   | some u=>
    have e':b=a:=hA b (by rw[q];simp)
    subst e'
    rw[hK (by rw[q];simp)]at e;cases e)
  have hM:Mod K mg (YM j.heap H):=⟨af,U ab,⟨mb,U O,ai⟩,(by obtain⟨mc,h1,h2⟩:=ac;exact⟨mc,U h1,h2⟩)⟩
  have e0:Env0 P w K mg (YM j.heap H) IU [] j H:=⟨rfl,hM,λb o e=>rF e,HN (lG _ _),trivial,λb O=>absurd (show b∈([]:List Fo)from O) (by simp),ae,.of_eq hg⟩
  refine Lk ((F _ af (U ab)).run IU [] j H ⟨[.ref a],[]⟩ [.ref a] [.ref a] _ _ hr e0 (Z j (.ref a)) (.cons rfl .nil) (aj H hO hS)) λr s' h=>?_
  cases r with
  | error e=>exact(ak H e s' h).elim
  | ok fl=>
   cases fl with
   | next=>exact Hm h
   | brk=>exact Hm h
   | cont=>exact Hm h
   | ret u=>
    obtain⟨v,H',os,ag,un,ah,r',q⟩:=h
    have q':v=.bl true:=q
    subst q'
    obtain rfl:u=Value.bool true:=r'
    refine⟨rfl,OldK.of_keep λb o e=>?_,os,ag⟩
    cases q:H b with
    | none=>exact un.keep b o e q (by intro z;exact absurd (show b∈([]:List Fo)from z) (by simp)) (by simp)
    | some u=>
     rcases hO b with z|⟨ob,xs,z⟩
     ·rw[q]at z;cases z
     ·have z2:=un.frzs b ob _ z
      obtain⟨e1,_⟩:=ae b _ z
      obtain⟨e2,_⟩:=ah b _ z2
      rw[e]at e1;cases e1
      exact e2
 cases hk:K.lookup a with
 | some o=>
  have e:=KX a o hk
  rw[ha]at e
  cases e
  refine Y (λ_=>none) (λ_=>.inl rfl) (.inr ⟨_,vs.toArray,_,hk,rfl,rfl,rfl,by rw[Go,ad];exact hl,by simpa using rv⟩) (λb u z=>by have z':(none:Option HO)=some u:=z;cases z') (λb z=>absurd rfl z) λz=>absurd rfl z
 | none=>
  refine Y (λb=>if b=a then some (.frz {cls:=.type "list",data:=.seq vs.toArray} (.lst (ns.map V.int)))else none) (λb=>?_) (.inl (.inr ⟨{cls:=.type "list",data:=.seq vs.toArray},if_pos rfl⟩)) (λb u z=>?_) (λb z=>?_) λ_=>hk
  ·by_cases O:b=a
   ·exact .inr ⟨_,_,if_pos O⟩
   ·exact .inl (if_neg O)
  ·by_cases O:b=a
   ·have z':=(if_pos O).symm.trans z
    cases z'
    subst O
    exact⟨ha,by rw[FF];exact hl,vs,_,rv,ha⟩
   ·have z':=(if_neg O).symm.trans z
    cases z'
  ·by_cases O:b=a
   ·exact O
   ·exact absurd (if_neg O) z
end L2
namespace L2
open PySem PySem.Spec PyProof.Rows
def rP{l:Ki}{n k:Nat}{q:FI}{loose:List Fp}{XP:(Fp->Option Fl)->Fz->Prop}{YP:FB->Fz->Prop}{d:DefRec}{K:Lx->Fs}{CX:FB->CXT}{sp:FB->Sp}{x:Fp} 
  (hn:l.most=some n) (hn2:n<=Fv) (hdf:d.params.defaults=[]) (hr:Room k IU)
  (hY:∀(w:FB) (h:Fz),YP w h->(K w.params).In h)
  (F:∀(w:FB) (mg:Fp->Option Fl) (fa:Fo) (h:Fz),(K w.params).In h->h.Ns Gv mg->mg d.name=some (.ref fa)->
   ∃fd:Ga,(∀(s:Fq) (u:Fl),Kh s fd ⟨[u],[]⟩ [(x,u)])/\
    ∀base:Fz,(K w.params).In base->base.Ns Gv mg->FnOk l.prog w (K w.params) mg base (CX w) k fa fd [x] (sp w))
  (hsp:∀(w:FB) (H:Hp) (a:Fo) (ns:List Int),ns.length<=n->nY H->SqL (K w.params) H a (ns.map V.int)->sp w [.ref a] H (λv _=>v=.bl true) λ_ _ _=>False)
  (hCX:∀(w:FB) (H:Hp) (s:Fq) (e:Fl) (s':Fq),CX w [] H s (λ_ _ _=>False) e s'->False) :
  MK q loose XP YP l.row.toRowW d [] (λf vs=>ML f vs):=by
 refine Att.attach_call hn hdf λw s₀ s₁ mg mb fa o pm cd doc a vs ns G Y ho hd hcd hmg hobj hints hlen hg=>?_
 have KX:=hY w _ Y
 obtain⟨fd,hb,hF⟩:=F w mg fa _ KX G.T.g hmg
 exact nZ KX G.T.g G.T.b G.T.builtins G.T.nolimit hg hobj hints (Ge hlen hn2) hr hF hb (λH hO hS=>hsp w H a ns hlen hO hS) λH e s'=>hCX w H s₁ e s'
end L2
namespace L2
open PySem PySem.Spec PyProof.Rows
def Yg(s:FC):Arguments:=match s with
 | .FunctionDef _ a _ _ _ _ _ _ _ _=>a
 | _=>{posonlyargs:=[],args:=[],vararg:=none,kwonlyargs:=[],kw_defaults:=[],kwarg:=none,defaults:=[]}
def vR(s:FC):List FC:=match s with
 | .FunctionDef _ _ b _ _ _ _ _ _ _=>b
 | _=>[]
def zl(s:FC):Gp:=match s with
 | .FunctionDef _ _ _ _ _ _ j _ _ _=>j
 | _=>{kind:=.function,names:=[],isGenerator:=false,isCoroutine:=false}
abbrev CX0:CXT:=λ_ _ _ _ _ _=>False
abbrev E0:XK:=λ_ _ _=>False
def yO:Zk CX0 X E0:=λ_ _ _ _ _ _ _ h=>h.elim
structure Fun (K:Fs) (x qual:Fp) (st:FC) (f:Fo) (fd:Ga):Prop where
 ex:∃(oc:Fl) (od:Option Fo) (kV doc pm:Fl) (an:Option Fo) (cdv ct:Fl) (osl:Array (Option Fl)),
  fd=IS x qual (Yg st) (vR st) (zl st) .none kV doc pm an cdv ct/\K.lookup f=some ⟨oc,od,.func fd,osl⟩/\Mu K cdv qual=true
 kp:Ig K (.ref f)=true
section
variable {P:FI} {w:FB} {K:Fs} {mg:Fp->Option Fl} {base:Fz}
def Fun.ok{x qual:Fp}{st:FC}{f:Fo}{fd:Ga}{N ps:List Fp}{k:Nat}{sp:Sp}(F:Fun K x qual st f fd)(S:FnScope N ps (zl st))(z:∀vs H Q E,sp vs H Q E->vs.length=ps.length) 
  (j:∀(cdv:Fl) (A:FW) (outer:List Gn) (s:Fq) (H:Hp) (vs:List V) (Q:VK) (E:XK),Room k (A.deeper (HJ qual (zl st) s.heap.objs.size f cdv))->sp vs H Q E->
   ∃t,PSs (Xz CX0 P w K mg base N qual (zl st) f cdv A outer s H E).nox (vR st) t/\t {nx:=λ_ H'=>Q .non H',rt:=Q} (start N vs) H):FnOk P w K mg base CX0 (k+1) f fd ps sp:=by
 obtain⟨oc,od,kV,U,pm,an,cdv,ct,Y,rfl,Z,J⟩:=F.ex
 refine BW Z J S z λA outer s H vs Q E hr O=>?_
 obtain⟨t,h,q⟩:=j cdv A outer s H vs Q E hr O
 exact⟨t,h.nox,q⟩
def Fun.binds{x qual:Fp}{st:FC}{f:Fo}{fd:Ga}{ps:List Fp}(F:Fun K x qual st f fd) 
  (h:∀(kV doc pm:Fl) (an:Option Fo) (cdv ct:Fl) (us:List Fl),us.length=ps.length->bindArgs (IS x qual (Yg st) (vR st) (zl st) .none kV doc pm an cdv ct) ⟨us,[]⟩=pure (ps.zip us)):yD K fd ps []:=by
 obtain⟨oc,od,kV,doc,pm,an,cdv,ct,osl,rfl,lk,hcd⟩:=F.ex
 exact .all (h kV doc pm an cdv ct)
def Vz{x qual:Fp}{st:FC}{f:Fo}{U:Fl}{Y J:Option Fo}{z:Array (Option Fl)}{kV j O cdv ct:Fl}(l:K.lookup f=some ⟨U,Y,.func (IS x qual (Yg st) (vR st) (zl st) .none kV j O J cdv ct),z⟩) 
 (c:Mu K cdv qual=true) (k:Ig K (.ref f)=true):Fun K x qual st f (IS x qual (Yg st) (vR st) (zl st) .none kV j O J cdv ct):=⟨⟨U,Y,kV,j,O,J,cdv,ct,z,rfl,l,c⟩,k⟩
end
def xz(j:Room k A):A.units+1<Gi:=IA (Nat.add_le_add_left (by decide:1<=64) _) j.units
section
variable {X:Cx}
def pv(i:Nat){x:Fp}{pos:FG}(z:X.N[i]?=some x:=by rfl)(J:Vis X.env.scope x:=by first|exact Or.inl rfl|exact Or.inr (Or.inl rfl)|exact Or.inr (Or.inr rfl))(O:(x==("__debug__":Fp))=false:=by decide) 
 (j:(x==("__classdict__":Fp))=false:=by decide):PE X (.Name x pos) (vK i):=tP z J O j
end
def DF{A B:Prop}(h:A):if true=true then A else B:=by
 rw[if_pos rfl]
 exact h
def ZX{c A B:Prop} [Decidable c] (h1:c->A) (h2:¬c->B):if c then A else B:=by
 by_cases h:c
 ·rw[if_pos h]
  exact h1 h
 ·rw[if_neg h]
  exact h2 h
def zm(H H':Hp):Prop:=∀b o,H b=some o->H' b=some o
def zm.refl(H:Hp):zm H H:=λ_ _ h=>h
def zm.trans(a:zm H H1)(b:zm H1 H2):zm H H2:=λc o h=>b c o (a c o h)
def zm.free(e:zm H H')(h:H' l=Option.none):H l=Option.none:=by
 cases q:H l with
 | none=>rfl
 | some o=>
  rw[e l o q]at h
  cases h
def zm.seq{K:Fs}{H H':Hp}{a:Fo}{xs:List V}(e:zm H H')(h:SqL K H a xs):SqL K H' a xs:=by
 rcases h with(h|⟨o,h⟩)|h
 ·exact .inl (.inl (e _ _ h))
 ·exact .inl (.inr ⟨o,e _ _ h⟩)
 ·exact .inr h
end L2
namespace L2
open PySem PySem.Spec PyProof.Rows
def PF(X:Cx)(ifs:List Fu)(t:TT):Prop :=
 ∀(pins:List (Fo×FD)) (s:Fq) (σ:St) (H:Hp) (Q:Bool->Hp->Prop),Inv X pins σ H s->t σ H Q->
  wpAny (Fx X.prog X.w) X.A (forIn ifs true λc r=>if r=true then do let ok <-Kb c X.env (FJ c X.env);pure (ForInStep.yield ok)else pure (ForInStep.yield r)) (TP X pins σ Q) X.xe s
def Yh:TT:=λ_ H Q=>Q true H
def VA{X:Cx}:PF X [] Yh:=λ_ _ _ H _ I h=>wpAny_tests_nil ⟨H,I,h⟩
def Ak(h:PT X c t):PF X [c] t:=λpins s σ H Q I q=>wpAny_tests_one (h pins s σ H Q I q)
def lW{prog:FI}{w:FB}{A:FW}{R:Li->Fq->Prop}{s:Fq}{elt target iter:Fu}{ifs:List Fu}{scope:Gp}{pos:FG}{it acc:Fl}{env:Gn}(I:Nat->Fq->Prop) 
  (turn:∀n s,I n s->wpAny (Fx prog w) A (Hu it) (λr s1=>match r with
   | none=>R (.ok .next) s1
   | some v=>wpAny (Fx prog w) A (Ld target it v) (λ_ s1'=>wpAny (Fx prog w) A (Ht target env v) (λ_ s2=>
    wpAny (Fx prog w) A (forIn ifs true λc r=>if r=true then do let ok <-Kb c env (FJ c env);pure (ForInStep.yield ok)else pure (ForInStep.yield r)) (λok s3=>
     if ok=true then wpAny (Fx prog w) A (FJ elt env) (λx s4=>
      wpAny (Fx prog w) A (call (.builtin "list.append") [acc,x]) (λ_ s5=>∃m,m<n/\I m s5) (λ_ _=>False) s4) (λ_ _=>False) s3
     else ∃m,m<n/\I m s3) (λ_ _=>False) s2) (λ_ _=>False) s1') (λ_ _=>False) s1) (λ_ _=>False) s)
  (n:Nat) (h:I n s) :
  codeAny (Fx prog w) A (.compLoop (.ListComp elt [⟨target,iter,ifs,0⟩] scope pos) 0 it acc env) R s:=by
 refine codeAny_loop rfl I (λn s hI=>?_) n h
 show wpAny _ A ((compTurn (.ListComp elt [⟨target,iter,ifs,0⟩] scope pos) 0 it acc env).onRaise (λx=>do noteFrame x env;theTreesLotGoes x)) _ _ s
 refine wpAny_noted ?_
 rw[compTurn_list]
 refine Ft (Lb (Ft (Hf (turn n s hI) (λr s1 h1=>?_) λ_ _ h'=>h'.elim)))
 cases r with
 | none=>exact FS h1
 | some v=>
  refine Ft (Hf h1 (λ_ s1' h1'=>?_) λ_ _ h'=>h'.elim)
  refine Ft (Hf h1' (λ_ s2 h2=>Ft (Hf h2 (λok s3 h3=>?_) λ_ _ h'=>h'.elim)) λ_ _ h'=>h'.elim)
  cases ok with
  | false=>exact FS ⟨rfl,h3⟩
  | true=>exact Ft (Ft (Hf h3 (λx s4 h4=>Ft (Hf h4 (λ_ s5 h5=>FS (FS ⟨rfl,h5⟩)) λ_ _ h'=>h'.elim)) λ_ _ h'=>h'.elim))
theorem ZY{env:Gn}:∀(l:List (Fp×Ih)) (acc:List (Fp×Fo)),(∀y∈l,y.2=.free->(env.cells.lookup y.1).isSome=true)->(∀x c,acc.lookup x=some c->env.cells.lookup x=some c)->
  ∃cl:List (Fp×Fo),(forIn l acc (λ(x:Fp×Ih) (r:List (Fp×Fo))=>match x with
   | (name,kind)=>if(kind==NameKind.free)=true then do let a <-cellOf env name;pure (ForInStep.yield ((name,a)::r))else pure (ForInStep.yield r)):GH (List (Fp×Fo)))=pure cl/\
   (∀x c,cl.lookup x=some c->env.cells.lookup x=some c)/\(∀x,(x,NameKind.free)∈l->∃c,cl.lookup x=some c)/\∀x,(∃c,acc.lookup x=some c)->∃c,cl.lookup x=some c
 | [],acc,_,ha=>⟨acc,rfl,ha,λx h=>(nomatch h),λx h=>h⟩
 | (n,k)::r,acc,h,ha=>by
  by_cases hk:k=NameKind.free
  ·subst hk
   obtain⟨c,hc⟩:=NO.mp (h (n,.free) F9 rfl)
   have ha':∀x c',((n,c)::acc).lookup x=some c'->env.cells.lookup x=some c':=λx c' e=>by
    rw[IB]at e
    cases hx:x==n with
    | true=>
     rw[hx]at e
     have:x=n:=eq_of_beq hx
     rw[this,hc];simpa using e
    | false=>rw[hx]at e;exact ha x c' e
   obtain⟨cl,e1,e2,e3,e4⟩:=ZY r ((n,c)::acc) (λy hy=>h y (Gc _ hy)) ha'
   refine⟨cl,?_,e2,λx hx=>?_,λx ⟨d,hd⟩=>e4 x ?_⟩
   ·rw[KN]
    show(if(NameKind.free==NameKind.free)=true then _ else _:GH _)>>=_=_
    rw[if_pos (show(NameKind.free==NameKind.free)=true from rfl)]
    have hco:cellOf env n=pure c:=by unfold cellOf;rw[hc]
    rw[hco]
    exact e1
   ·rcases FL.mp hx with q|q
    ·cases q
     exact e4 n ⟨c,by simp[IB]⟩
    ·exact e3 x q
   ·cases hx:x==n with
    | true=>exact⟨c,by rw[IB,hx]⟩
    | false=>exact⟨d,by rw[IB,hx];exact hd⟩
  ·obtain⟨cl,e1,e2,e3,e4⟩:=ZY r acc (λy hy=>h y (Gc _ hy)) ha
   refine⟨cl,?_,e2,λx hx=>?_,e4⟩
   ·rw[KN]
    have hb:¬(k==NameKind.free)=true:=by simpa using hk
    show(if(k==NameKind.free)=true then _ else _:GH _)>>=_=_
    rw[if_neg hb]
    exact e1
   ·rcases FL.mp hx with q|q
    ·cases q;exact absurd rfl hk
    ·exact e3 x q
def iI{scope:Gp}{env:Gn}(h:∀y∈scope.names,y.2=.free->(env.cells.lookup y.1).isSome=true):
  ∃cl:List (Fp×Fo),closureFor scope env=pure cl/\(∀x c,cl.lookup x=some c->env.cells.lookup x=some c)/\∀x,(x,NameKind.free)∈scope.names->∃c,cl.lookup x=some c:=by
 obtain⟨cl,e1,e2,e3,_⟩:=ZY (env:=env) scope.names [] h (λx c e=>by simp at e)
 refine⟨cl,?_,e2,e3⟩
 unfold closureFor
 exact(congrArg (λ(m:GH (List (Fp×Fo)))=>m>>=λcs=>pure cs) e1)
def fE(z:Gp)(J:List Fp)(scope:Gp)(N:List Fp)(ms:List (Option Nat)):Bool :=
 scope.names.all (λy=>decide (y.2≠.cell) && (decide (y.2≠.local) || decide (scope.names.lookup y.1=some .local)) && (decide (y.2≠.free) || decide (z.names.lookup y.1=some .cell) || decide (z.names.lookup y.1=some .free)))
 && decide (ms.length=N.length) && decide (N.Nodup) && decide (scope.kind=.function)
 && (N.zip ms).all (λp=>match p.2 with|none=>true|some j=>decide (J[j]?=some p.1) && decide (scope.names.lookup p.1=some .free))
structure CompOk (osc:Gp) (oN:List Fp) (scope:Gp) (N:List Fp) (ms:List (Option Nat)):Prop where
 kind:scope.kind=.function
 nocell:∀y∈scope.names,y.2≠.cell
 loc:∀y∈scope.names,y.2=.local->scope.names.lookup y.1=some .local
 fr:∀y∈scope.names,y.2=.free->osc.names.lookup y.1=some .cell\/osc.names.lookup y.1=some .free
 len:ms.length=N.length
 nd:N.Nodup
 sel:∀(i:Nat) x j,N[i]?=some x->ms[i]?=some (some j)->oN[j]?=some x/\scope.names.lookup x=some .free
def CompOk.of(h:fE J O scope N ms=true):CompOk J O scope N ms:=by
 unfold fE at h
 simp only[G0,decide_eq_true_eq,GR,MM]at h
 obtain⟨⟨⟨⟨h1,h2⟩,U⟩,Y⟩,Z⟩:=h
 refine⟨Y,λy z=>(h1 y z).1.1,λy z e=>?_,λy z e=>?_,h2,U,λi x j e1 e2=>?_⟩
 ·rcases(h1 y z).1.2 with q|q
  ·exact absurd e q
  ·exact q
 ·rcases(h1 y z).2 with(q|q)|q
  ·exact absurd e q
  ·exact .inl q
  ·exact .inr q
 ·have m:(x,some j)∈N.zip ms:=by
   have:(N.zip ms)[i]?=some (x,some j):=by rw[List.getElem?_zip_eq_some];exact⟨e1,e2⟩
   exact Gj this
  have q:=Z _ m
  simpa using q
def yH(X:Cx)(scope:Gp)(cl:List (Fp×Fo))(C:Fo)(N:List Fp)(s:Fq)(H:Hp)(ex:List Fo):Cx :=
 {X with N:=N,s₀:=s,H₀:=H,env:=compEnvC scope cl C X.env,outer:=X.stack,stack:=X.stack,ex:=ex,fn:=λ_=>false,pn:=[],xe:=λ_ _=>False}
def blk(ms:List (Option Nat))(σ:St):St:=ms.map λm=>m.bind λj=>(σ[j]?).join
def fF{ms:List (Option Nat)}{σ:St}{i:Nat}{v:V}(h:(blk ms σ)[i]?=some (some v)):∃j,ms[i]?=some (some j)/\σ[j]?=some (some v):=by
 unfold blk at h
 rw[FP]at h
 cases e:ms[i]? with
 | none=>rw[e]at h;simp at h
 | some m=>
  rw[e]at h
  cases m with
  | none=>simp at h
  | some j=>
   refine⟨j,rfl,?_⟩
   simp only[HK,FZ,N0]at h
   cases q:σ[j]? with
   | none=>rw[q]at h;simp at h
   | some o=>rw[q]at h;simp at h;rw[h]
theorem uf{env:Gn}:∀{names:List (Fp×Ih)} {x:Fp} {k:Ih},
  (names.map λ(n,k)=>if(k==NameKind.free && env.scope.kind== .function && env.kindOf n==some .cell)then(n,NameKind.cell)else(n,k)).lookup x=some k->
  (names.lookup x=some k)\/(names.lookup x=some .free/\k=.cell)
 | [],_,_,h=>by simp at h
 | (n,j)::r,x,k,h=>by
  have O:=@uf env r x k
  rw[FY]at h
  by_cases J:(j==NameKind.free && env.scope.kind== .function && env.kindOf n==some .cell)=true
  ·have U:j=.free:=by
    simp only[G0]at J
    simpa using J.1.1
   have h':Ie x ((n,NameKind.cell)::r.map λ(n,k)=>if(k==NameKind.free && env.scope.kind== .function && env.kindOf n==some .cell)then(n,NameKind.cell)else(n,k))=some k:=by
    have e:(match (n,j)with|(n,k)=>if(k==NameKind.free && env.scope.kind== .function && env.kindOf n==some .cell)=true then(n,NameKind.cell)else(n,k))=(n,NameKind.cell):=if_pos J
    rw[e]at h;exact h
   rw[IB]at h' ⊢
   cases z:x==n with
   | true=>rw[z]at h';cases h';exact .inr ⟨by rw[U],rfl⟩
   | false=>rw[z]at h';exact O h'
  ·have h':Ie x ((n,j)::r.map λ(n,k)=>if(k==NameKind.free && env.scope.kind== .function && env.kindOf n==some .cell)then(n,NameKind.cell)else(n,k))=some k:=by
    have e:(match (n,j)with|(n,k)=>if(k==NameKind.free && env.scope.kind== .function && env.kindOf n==some .cell)=true then(n,NameKind.cell)else(n,k))=(n,j):=if_neg J
    rw[e]at h;exact h
   rw[IB]at h' ⊢
   cases z:x==n with
   | true=>rw[z]at h';cases h';exact .inl rfl
   | false=>rw[z]at h';exact O h'
theorem ue{env:Gn}:∀{names:List (Fp×Ih)} {x:Fp},names.lookup x=some .free->
  (names.map λ(n,k)=>if(k==NameKind.free && env.scope.kind== .function && env.kindOf n==some .cell)then(n,NameKind.cell)else(n,k)).lookup x=some .free\/
  (names.map λ(n,k)=>if(k==NameKind.free && env.scope.kind== .function && env.kindOf n==some .cell)then(n,NameKind.cell)else(n,k)).lookup x=some .cell
 | [],_,h=>by simp at h
 | (n,j)::r,x,h=>by
  have J:=@ue env r x
  rw[FY]
  by_cases O:(j==NameKind.free && env.scope.kind== .function && env.kindOf n==some .cell)=true
  ·have e:(match (n,j)with|(n,k)=>if(k==NameKind.free && env.scope.kind== .function && env.kindOf n==some .cell)=true then(n,NameKind.cell)else(n,k))=(n,NameKind.cell):=if_pos O
   rw[e]
   rw[IB]at h ⊢
   cases z:x==n with
   | true=>exact .inr rfl
   | false=>rw[z]at h;exact J h
  ·have e:(match (n,j)with|(n,k)=>if(k==NameKind.free && env.scope.kind== .function && env.kindOf n==some .cell)=true then(n,NameKind.cell)else(n,k))=(n,j):=if_neg O
   rw[e]
   rw[IB]at h ⊢
   cases z:x==n with
   | true=>rw[z]at h;cases h;exact .inl rfl
   | false=>rw[z]at h;exact J h
section
variable {X:Cx} {pins:List (Fo×FD)} {σ:St} {H:Hp} {s:Fq}
def HOk.track(x:HOk P w H h)(hn:H D=none)(k:∀b u,H b≠none->h.get? b=some u->h'.get? b=some u)(new:yB P w (upd H D o) h' D o):HOk P w (upd H D o) h':=λb u e=>by
 by_cases j:b=D
 ·subst j;rw[zj]at e;cases e;exact new
 ·rw[zd j]at e
  refine(x b u e).stay (λc v J q=>k c v ?_ q) (λc q=>by rw[zd (zn q hn)];exact q) λc xs q=>by rw[zd (zn q hn)];exact q
  rcases J with z|z
  ·rw[z,e];simp
  ·rw[z];simp
def iJ{scope:Gp}{cl:List (Fp×Fo)}{N:List Fp}{ms:List (Option Nat)}{fp:List Fo}{s3:Fq}{D C:Fo}{h1:Fz}{tk:Nat}{m0:Fp->Option Fl} 
  (I:Inv X pins σ H s) (ok:CompOk X.env.scope X.N scope N ms) (J:∀x c,cl.lookup x=some c->X.env.cells.lookup x=some c) (Z:∀x,(x,NameKind.free)∈scope.names->∃c,cl.lookup x=some c)
  (ab:∀b∈fp,wF X pins H b) (ai:∀b∈fp,b<s.heap.objs.size) (hD:D=s.heap.objs.size) (ac:s3={s with heap:=s.heap.push {cls:=.type "list",data:=.seq ([]:List Fl).toArray}}) (hC:C=s3.heap.objs.size)
  (aj:h1.Ns C m0) (hk:∀b o,s3.heap.get? b=some o->h1.get? b=some o):Inv (yH X scope cl C N s3 H (D::fp)) [] (blk ms σ) H {s3 with heap:=h1,toks:=tk}:=by
 have up:∀b o,s.heap.get? b=some o->s3.heap.get? b=some o:=λb o e=>by rw[ac];exact FQ _ e
 have up1:∀b o,s.heap.get? b=some o->h1.get? b=some o:=λb o e=>hk b o (up b o e)
 have I3:Inv X pins σ H s3:=by rw[ac];exact I.kept (t':=s.toks) λb o e=>FQ _ e
 have ae:s3.heap.objs.size=s.heap.objs.size+1:=by rw[ac];exact HH ..
 have U:∀x c,cl.lookup x=some c->c<s.heap.objs.size:=λx c e=>let ⟨v,q⟩:=I.cell x c (J x c e);q.lt
 have af:∀b∈D::fp,b<s3.heap.objs.size:=λb O=>by
  rcases FL.mp O with q|q
  ·rw[q,hD,ae];exact IR _
  ·rw[ae];exact KO (ai b q)
 have Y:∀b∈D::fp,∀o,X.base.get? b=some o->False:=λb O o e=>by
  rcases FL.mp O with q|q
  ·have:=FV e
   have h2:=Ge I.ok.bsz I.sz
   rw[q,hD]at this
   exact absurd (Gs this h2) (Gy _)
  ·obtain⟨_,_,_,z,_⟩:=ab b q
   rcases z with z|z
   ·exact I.ok.noex b o e z
   ·exact absurd (Gs (FV e) (Ge I.ok.bsz z)) (Gy _)
 refine⟨⟨I.ok.mod,ok.kind,I.ok.glob,I.ok.blt,HN hC.symm,λx y c a b=>I.ok.inj x y c (J x c a) (J y c b),λx hx=>?_,λx c e=>absurd e Gx,I.ok.hd,I.ok.frames,.inl rfl,
  λb O=>⟨?_,λx c e z=>?_⟩,λb o e=>I3.bs b o e,Ge I.ok.bsz I3.sz,λb o e O=>Y b O o e,λb O hf=>?_,I3.stack,I3.stkFree⟩,rfl,I3.bare,Un.kept hk,⟨m0,aj,λi x v e1 e2 e3=>?_⟩,λx c e=>?_,
  I3.hok.fresh (HN hC.symm),λx c e=>I.freeC x c (J x c e),λp hp=>(nomatch hp),I3.hok.kept hk,by simp[blk,ok.len,yH]⟩
 ·have fin:scope.names.lookup x=some .free->∃c,cl.lookup x=some c:=λq=>Z x (mem_of_lookup q)
  have no:scope.names.lookup x≠some .cell:=λq=>ok.nocell _ (mem_of_lookup q) rfl
  rcases hx with hx|hx
  ·rcases uf (env:=X.env) (show(relabel scope X.env).names.lookup x=some .cell from hx)with q|⟨q,_⟩
   ·exact absurd q no
   ·exact fin q
  ·rcases uf (env:=X.env) (show(relabel scope X.env).names.lookup x=some .free from hx)with q|⟨q,_⟩
   ·exact fin q
   ·exact fin q
 ·have:=af b O
  intro z
  have z':b=C:=z
  rw[z',hC]at this
  exact Gy _ this
 ·have e':cl.lookup x=some c:=e
  rcases FL.mp O with q|q
  ·have:=U x c e'
   rw[z,q,hD]at this
   exact Gy _ this
  ·exact(ab b q).2.2.2.2.1 x c (J x c e') z
 ·have ag:b∈frs X.stack:=hf
  rcases FL.mp O with q|q
  ·rcases FL.mp (I.stkSub b ag)with z|z
   ·have:=I.lt
    rw[<-z,q,hD]at this
    exact Gy _ this
   ·exact I.nofs (a:=b) (by rw[q,hD];exact FA _) z
  ·obtain⟨_,n1,n2,_⟩:=ab b q
   rcases FL.mp (I.stkSub b ag)with z|z
   ·exact n1 z
   ·exact n2 z
 ·obtain⟨j,q1,q2⟩:=fF e2
  obtain⟨q3,q4⟩:=ok.sel i x j e1 q1
  have hm:(x,NameKind.free)∈scope.names:=mem_of_lookup q4
  obtain⟨m,hn,hl⟩:=I.loc
  have kd:=ok.fr _ hm rfl
  have ak:Vis X.env.scope x:=kd.elim (λz=>.inr (.inl z)) λz=>.inr (.inr z)
  obtain⟨u,r,l⟩:=hl j x v q3 q2 ak
  refine⟨u,r,.inr ⟨?_,?_⟩⟩
  ·rcases ue (env:=X.env) q4 with z|z
   ·exact .inr z
   ·exact .inl z
  ·rcases l with⟨al,_⟩|⟨_,c,hc,ad⟩
   ·have aa:X.env.scope.names.lookup x=some .local:=al
    rcases kd with z|z
    ·rw[aa]at z;cases z
    ·rw[aa]at z;cases z
   ·obtain⟨c',ah⟩:=Z x hm
    have:=J x c' ah
    rw[hc]at this;cases this
    exact⟨c,ah,ad.keeps up1⟩
 ·obtain⟨v,q⟩:=I.cell x c (J x c e)
  exact⟨v,q.keeps up1⟩
def iK{scope:Gp}{cl:List (Fp×Fo)}{N:List Fp}{fp:List Fo}{s3 s':Fq}{D C:Fo}{pl:List (Fo×FD)}{sg:St}{H':Hp}{its:List Fl}{ys:List V}{n:Nat} 
  (I:Inv X pins σ H s) (aa:∀b∈fp,wF X pins H b) (hD:D=s.heap.objs.size) (J:s3={s with heap:=s.heap.push {cls:=.type "list",data:=.seq ([]:List Fl).toArray}})
  (Y:Inv (yH X scope cl C N s3 H (D::fp)) pl sg H' s') (ab:H' D=none) (hd:s'.heap.get? D=some {cls:=.type "list",data:=.seq its.toArray n}) (r:zC ys its) (hz:ys.length<=Fv) :
  Inv X pins σ (upd H' D (.lst ys)) s':=by
 have Z:∀b o,s.heap.get? b=some o->s3.heap.get? b=some o:=λb o e=>by rw[J];exact FQ _ e
 have O:∀b o,s.heap.get? b=some o->b≠D:=λb o e z=>by
  have:=FV e
  rw[z,hD]at this
  exact Gy _ this
 have U:Un (frs X.stack) (D::fp) H H' s3.heap s'.heap:=Y.base
 have HD:H D=none:=I.hok.fresh (HN hD.symm)
 have j:∀b o,s.heap.get? b=some o->b∉fp->b∉D::fp:=λb o e h z=>(FL.mp z).elim (O b o e) h
 refine I.call' (ch:=fp) (by rw[Y.os];show s3.os=s.os;rw[J]) ⟨λb o e n h1 h2=>U.keep b o (Z b o e) n h1 (j b o e h2),λb o e n h1 h2=>U.slot b o (Z b o e) n h1 (j b o e h2),
  λb o e n h2=>by rw[zd (O b o e)];exact U.free b o (Z b o e) n (j b o e h2),λb o e h2=>U.there b o (Z b o e) (j b o e h2),λb xs e=>by rw[zd (zn e HD)];exact U.tups b xs e,
  λb o u e=>by rw[zd (zn e HD)];exact U.frzs b o u e,λb ps e=>by rw[zd (zn e HD)];exact U.tbls b ps e⟩ ?_ Y.bare λb hb=>?_
 ·exact HOk.track Y.hok ab (λ_ _ _ q=>q) ⟨hz,its,n,r,hd⟩
 ·obtain⟨_,n1,_,n2,n3,n4⟩:=aa b hb
  exact⟨n2,n1,n3,n4⟩
def Wk(σ j:St):Prop:=σ.length=j.length/\∀(i:Nat) v,σ[i]?=some (some v)->j[i]?=some (some v)
def VB(J:It)(g:TG)(tf:TT)(te:TE)(σ:St)(H:Hp)(Fin:List V->Hp->Prop):Prop :=
 ∃W:Nat->Nat->List V->Hp->Prop,(∃m,W 0 m [] H)/\∀i m ys H,W i m ys H->ys.length<=Fv/\
  ((J.stop i H/\Fin ys H)\/(J.go i H/\∀x H',J.yld i H x H'->g x σ H' λj H2=>Wk σ j/\tf j H2 λb O=>if b=true then te j O λy U=>ys.length+1<=Fv/\∃z,z<m/\W (i+1) z (ys++[y]) U else ∃z,z<m/\W (i+1) z ys O))
def aB{elt tg iter:Fu}{ifs:List Fu}{scope:Gp}{pos cpos:FG}{use:Option (Fl->GH Unit)}{N:List Fp}{ms:List (Option Nat)}{wi:TI}{g:TG}{tf:TT}{te:TE}{Q:Fl->Fq->Prop}{Fin:List V->Hp->Prop} 
  (hc:X.calm=true) (ok:CompOk X.env.scope X.N scope N ms) (hi:PI X tg iter wi)
  (hb:∀cl C s H ex,PG (yH X scope cl C N s H ex) tg g/\PF (yH X scope cl C N s H ex) ifs tf/\PE (yH X scope cl C N s H ex) elt te)
  (hs:∀x,Ir iter X.env x=pure x)
  (I:Inv X pins σ H s) (hw:wi σ H λJ H1=>VB J g tf te (blk ms σ) H1 Fin)
  (fin:∀D C s' ys H' m,Inv X pins σ (upd H' D (.lst ys)) s'->H' D=none->Fin ys H'->s'.heap.Ns C m->wF X pins (upd H' D (.lst ys)) C->compPost (Fx X.prog X.w) X.A X.xe use Q (.ref D) C (.ok .next) s') :
  wpAny (Fx X.prog X.w) X.A (N1 (.ListComp elt [⟨tg,iter,ifs,0⟩] scope pos) scope X.env cpos (newList []) false (FJ iter X.env) use) Q X.xe s:=by
 obtain⟨cl,hclos,hcl,hcl2⟩:=iI (scope:=scope) (env:=X.env) (λy hy e=>by
  obtain⟨c,hc⟩:=I.ok.has y.1 (ok.fr y hy e)
  rw[hc];rfl)
 refine wpAny_comprehension_free (use:=use) rfl hs hclos ok.kind ok.loc (thn (hi pins s σ H _ I hw) λv s1 h1=>thn h1 λitv s2 h2=>?_)
 obtain⟨it,fp,tn,J,H2,e,I2,T,st2,f2,W,⟨m0,w0⟩,turn⟩:=h2
 subst e
 refine KP (wpAny_newFunctionEnv ok.nocell (by intro y hy;simp at hy) (λh1 hns hsb=>?_) ok.kind)
 dsimp only at hns hsb ⊢
 generalize hs3:({s2 with heap:=s2.heap.push {cls:=.type "list",dict:=none,data:=.seq ([]:List Fl).toArray}}:Fq)=s3
 have hheap:s2.heap.push {cls:=.type "list",dict:=none,data:=.seq ([]:List Fl).toArray}=s3.heap:=by rw[<-hs3]
 rw[hheap]at hns hsb
 have hDs:s3.heap.objs.size=s2.heap.objs.size+1:=by rw[<-hheap];exact HH ..
 obtain⟨D,hD⟩:∃D,D=s2.heap.objs.size:=⟨_,rfl⟩
 obtain⟨C,hC⟩:∃C,C=s3.heap.objs.size:=⟨_,rfl⟩
 have hk:∀b o,s3.heap.get? b=some o->h1.get? b=some o:=λb o e=>hsb.extBut b o (Gd (FV e)) (FQ _ e)
 have up:∀b o,s2.heap.get? b=some o->s3.heap.get? b=some o:=λb o e=>by rw[<-hheap];exact FQ _ e
 have hfo:∀b∈fp,b<s2.heap.objs.size:=λb hb=>let ⟨o,e,_⟩:=T.obj _ _ st2 b hb;FV e
 have hDC:D≠C:=by rw[hD,hC,hDs];exact Gd (IR _)
 have hDfp:D∉fp:=λhm=>by have:=hfo D hm;rw[hD]at this;exact Gy _ this
 have hs3':s3={s2 with heap:=s2.heap.push {cls:=.type "list",data:=.seq ([]:List Fl).toArray}}:=hs3.symm
 have I3:Inv X pins σ H2 s3:=by rw[hs3'];exact I2.kept (t':=s2.toks) λb o e=>FQ _ e
 have en:∀tk,Inv (yH X scope cl C N s3 H2 (D::fp)) [] (blk ms σ) H2 {s3 with heap:=h1,toks:=tk}:=λtk=>iJ I2 ok hcl hcl2 f2 hfo hD hs3' hC (by rw[hC];exact hns) hk
 have fpX:∀{pl:List (Fo×FD)} {H':Hp},(∀b∈fp,H' b=none)->(∀p∈pl,p.1=D)->∀b∈fp,wF (yH X scope cl C N s3 H2 (D::fp)) pl H' b:=λ{pl H'} hn hp b hb=>by
  have ok':=(en 0).ok
  refine⟨hn b hb,(ok'.exf b (Gc _ hb)).1,ok'.exfs b (Gc _ hb),.inl (Gc _ hb),(ok'.exf b (Gc _ hb)).2,λp hpm z=>?_⟩
  have hpm':p∈pl:=hpm
  rw[hp p hpm']at z
  exact hDfp (z▸hb)
 have DX:∀{pl:List (Fo×FD)} {sg:St} {H':Hp} {s':Fq} {o:FD},Inv (yH X scope cl C N s3 H2 (D::fp)) pl sg H' s'->H' D=none->s'.heap.get? D=some o->(∀v,o.data≠.cell v)->Inv (yH X scope cl C N s3 H2 (D::fp)) [(D,o)] sg H' s':=λ{pl sg H' s' o} J' hn ho hd=>
  J'.pins_of λp hp=>by
   obtain rfl:=Gf.mp hp
   exact⟨ho,hn,(J'.ok.exf D F9).1,J'.ok.exfs D F9,hd⟩
 have loop:∀s4:Fq,(∃tk,s4={s3 with heap:=h1,toks:=tk})->
   codeAny (Fx X.prog X.w) X.A (.compLoop (.ListComp elt [⟨tg,iter,ifs,0⟩] scope pos) 0 (.ref it) (.ref D) (compEnvC scope cl C X.env)) (compPost (Fx X.prog X.w) X.A X.xe use Q (.ref D) C) s4:=by
  rintro s4 ⟨tk,rfl⟩
  refine lW (λn s'=>∃i ys H' its nn,Inv (yH X scope cl C N s3 H2 (D::fp)) [] (blk ms σ) H' s'/\tn i s'.heap/\(∀b∈fp,H' b=none)/\H' D=none/\
   s'.heap.get? D=some {cls:=.type "list",data:=.seq (its:List Fl).toArray nn}/\zC ys its/\W i n ys H') ?_ m0 ⟨0,[],H2,[],0,en tk,T.keep _ _ _ st2 λb hb o e=>hk b o (up b o e),λb hb=>(f2 b hb).1,I2.hok.fresh (HN hD.symm),hk _ _ ?_,.nil,w0⟩
  ·rintro n s' ⟨i,ys,H',its,nn,I',st',fr',dn',hd',rv',w'⟩
   obtain⟨gh,hb2⟩:=hb cl C s3 H2 (D::fp)
   obtain⟨tfh,teh⟩:=hb2
   obtain⟨hz,alt⟩:=turn i n ys H' w'
   have nocell:∀v,(({cls:=.type "list",data:=.seq its.toArray nn}:FD)).data≠.cell v:=λv z=>by
    have z':Data.seq its.toArray nn=Data.cell v:=z
    cases z'
   have ID:=DX I' dn' hd' nocell
   have fpI:=fpX (pl:=[(D,({cls:=.type "list",data:=.seq its.toArray nn}:FD))]) fr' (λp hp=>by obtain rfl:=Gf.mp hp;rfl)
   rcases alt with⟨stop,qf⟩|⟨go,step⟩
   ·refine thn (T.done (yH X scope cl C N s3 H2 (D::fp)) rfl rfl rfl hc i _ s' _ H' _ ID fpI st' stop) λr s5 ⟨hr,I5⟩=>?_
    subst hr
    have hd5:=(I5.pin (D,_) (GV _ (Gf.mpr rfl))).1
    obtain⟨m,hn5,_⟩:=I5.loc
    have Hc:(upd H' D (.lst ys)) C=none:=by rw[zd (FH hDC)];exact I5.free
    exact fin D C s5 ys H' m (iK I2 f2 hD hs3' I5 dn' hd5 rv' hz) dn' qf hn5 (I3.fpOk (HN hC.symm) Hc)
   ·refine thn (T.item (yH X scope cl C N s3 H2 (D::fp)) rfl rfl rfl hc i _ s' _ H' _ ID fpI st' go) λr s5 ⟨u,hr,h5⟩=>?_
    subst hr
    refine thn h5 λ_ s6 ⟨x,H6,I6,r6,y6,st6,fr6⟩=>?_
    have I6':=I6.pinned (fpX (pl:=[(D,({cls:=.type "list",data:=.seq its.toArray nn}:FD))]) fr6 (λp hp=>by obtain rfl:=Gf.mp hp;rfl)) (T.obj _ _ st6)
    refine thn (gh _ s6 _ H6 x u _ I6' r6 (step x H6 y6)) λ_ s7 ⟨sg7,H7,I7,wk7,q7⟩=>?_
    have back:∀{H9:Hp} {s9:Fq} {its':List Fl} {ys':List V} {m' nn':Nat},Inv (yH X scope cl C N s3 H2 (D::fp)) ([(D,({cls:=.type "list",data:=.seq its.toArray nn}:FD))]++Xw fp s6.heap) sg7 H9 s9->
      ∀h10:Fz,(∀b o,b≠D->s9.heap.get? b=some o->h10.get? b=some o)->h10.get? D=some {cls:=.type "list",data:=.seq its'.toArray nn'}->zC ys' its'->m'<n->W (i+1) m' ys' H9->
      ∃m,m<n/\∃i ys H' its nn,Inv (yH X scope cl C N s3 H2 (D::fp)) [] (blk ms σ) H' {s9 with heap:=h10}/\tn i h10/\(∀b∈fp,H' b=none)/\H' D=none/\
       h10.get? D=some {cls:=.type "list",data:=.seq (its:List Fl).toArray nn}/\zC ys its/\W i m ys H':=λ{H9 s9 its' ys' m' nn'} I9 h10 hb10 hd10 rv10 hm w9=>by
     have dn9:H9 D=none:=(I9.pin (D,_) (GV _ (He _ (Gf.mpr rfl)))).2.1
     have pk:∀b∈fp,∀o,s6.heap.get? b=some o->s9.heap.get? b=some o/\H9 b=none:=λb hb o e=>
      let q:=I9.pin (b,o) (GV _ (GV _ (YQ hb e)));⟨q.1,q.2.1⟩
     have I10:Inv (yH X scope cl C N s3 H2 (D::fp)) [] (blk ms σ) H9 s9:=(I9.pins_of (pins':=[]) λp hp=>(nomatch hp)).weak wk7.1 wk7.2
     refine⟨m',hm,i+1,ys',H9,its',nn',I10.turned (t':=s9.toks) hb10 dn9 (I10.ok.exf D F9).1 (.inl F9) (λx c e=>(I10.ok.exf D F9).2 x c e) (λp hp=>(nomatch hp)),
      T.keep _ _ _ st6 λb hb o e=>hb10 b o (λz=>hDfp (z▸hb)) (pk b hb o e).1,λb hb=>?_,dn9,hd10,rv10,w9⟩
     obtain⟨o,e,_⟩:=T.obj _ _ st6 b hb
     exact(pk b hb o e).2
    refine thn (tfh _ s7 sg7 H7 _ I7 q7) λb s8 ⟨H8,I8,q8⟩=>?_
    have hd8:s8.heap.get? D=some {cls:=.type "list",data:=.seq its.toArray nn}:=(I8.pin (D,_) (GV _ (He _ (Gf.mpr rfl)))).1
    cases b with
    | false=>
     obtain⟨m',hm,w8⟩:=q8
     exact back I8 s8.heap (λ_ _ _ q=>q) hd8 rv' hm w8
    | true=>
     refine thn (teh _ s8 sg7 H8 _ I8 q8) λu9 s9 ⟨y9,H9,I9,r9,hz9,m',hm,w9⟩=>?_
     have hd9:s9.heap.get? D=some {cls:=.type "list",data:=.seq its.toArray nn}:=(I9.pin (D,_) (GV _ (He _ (Gf.mpr rfl)))).1
     have hl:=rv'.length
     refine append_at (hsz:=by rw[Go,<-hl];exact hz) hd9 λh10 hs10 hd10=>?_
     refine back I9 h10 (λb o hb e=>(hs10.2 b hb).trans e) (its':=its++[u9]) (nn':=nn+1) (by rw[hd10,List.push_toArray]) (rv'.append (.cons r9 .nil)) hm w9
  ·rw[<-hheap,hD]
   exact Gr _ rfl
 subst hD
 subst hC
 subst hs3
 exact codeAny_compStart_list (loop _ ⟨_,rfl⟩) (T.self X.A 0 _ _ _ (T.keep _ _ _ st2 λb hb o e=>hk b o (up b o e)) (loop _ ⟨_,rfl⟩))
def iL(j:TI)(g:TG)(tf:TT)(te:TE)(ms:List (Option Nat)):TE:=λσ H Q=>j σ H λJ H1=>VB J g tf te (blk ms σ) H1 λys H'=>∀p,H' p=none->Q (.ref p) (upd H' p (.lst ys))
def fG{elt tg iter:Fu}{ifs:List Fu}{scope:Gp}{pos:FG}{N:List Fp}{ms:List (Option Nat)}{wi:TI}{g:TG}{tf:TT}{te:TE} 
  (hc:X.calm=true) (ok:CompOk X.env.scope X.N scope N ms) (hi:PI X tg iter wi)
  (hb:∀cl C s H ex,PG (yH X scope cl C N s H ex) tg g/\PF (yH X scope cl C N s H ex) ifs tf/\PE (yH X scope cl C N s H ex) elt te)
  (hs:∀x,Ir iter X.env x=pure x:=by intro _;rfl):PE X (.ListComp elt [⟨tg,iter,ifs,0⟩] scope pos) (iL wi g tf te ms):=by
 intro pins s σ H Q I hw
 rw[eval_ListComp]
 refine aB (use:=none) hc ok hi hb hs I hw ?_
 intro D C s' ys H' m I' hn fin hns fp
 refine⟨m,hns,λh' sb=>?_⟩
 exact⟨.ref D,_,I'.turned (t':=s'.toks) (λb o hb e=>(sb.2 b hb).trans e) fp.1 fp.2.1 fp.2.2.2.1 fp.2.2.2.2.1 fp.2.2.2.2.2,rfl,fin D hn⟩
def Wf{elt tg iter:Fu}{ifs:List Fu}{scope:Gp}{pos spos py:FG}{N:List Fp}{ms:List (Option Nat)}{wi:TI}{g:TG}{tf:TT}{te:TE}{i:Nat}{y:Fp} 
  (hc:X.calm=true) (ok:CompOk X.env.scope X.N scope N ms) (hi:PI X tg iter wi)
  (hb:∀cl C s H ex,PG (yH X scope cl C N s H ex) tg g/\PF (yH X scope cl C N s H ex) ifs tf/\PE (yH X scope cl C N s H ex) elt te)
  (hN:X.N.Nodup) (hy:X.N[i]?=some y) (hx:Loc X.env.scope y)
  (hsw:GP (.ListComp elt [⟨tg,iter,ifs,0⟩] scope pos) (some (.Name y py)) spos.line X.env=pure true)
  (hf:X.fn y=true\/X.env.scope.names.lookup y=some .local:=by first|exact .inl rfl|exact .inr rfl|assumption)
  (hs:∀x,Ir iter X.env x=pure x:=by intro _;rfl):PS X (.Assign [.Name y py] (.ListComp elt [⟨tg,iter,ifs,0⟩] scope pos) spos) (UJ (iL wi g tf te ms) (vl i)):=by
 intro pins s σ H Dn I hw
 rw[exec_Assign_Name_used _ _ _ _ hsw]
 refine Ft (Lb (Ft ?_))
 show wpAny _ X.A (do let _ <-N1 (.ListComp elt [⟨tg,iter,ifs,0⟩] scope pos) scope X.env _ (newList []) false (FJ iter X.env) (some (Ht (.Name y py) X.env))) _ _ s
 refine Ft (Hf (aB (use:=some (Ht (.Name y py) X.env)) (Q:=λ_ s'=>SP X pins Dn .next s') hc ok hi hb hs I hw ?_) (λ_ s' hq=>FS (FS hq)) λ_ _ e=>e)
 intro D C s' ys H' m I' hn fin hns fp
 show wpAny _ X.A (Ht (.Name y py) X.env (.ref D)) _ _ s'
 refine NA (QE I' hN hy hx (v:=.ref D) rfl (λs2 I2 sb=>?_) hf)
 obtain⟨a,sb,ha⟩:=sb
 have hne:C≠a:=by
  rcases ha with z|z
  ·rw[z];exact fp.2.1
  ·exact λq=>fp.2.2.2.2.1 y a z q.symm
 refine⟨m,hns.sameBut sb hne,λh' sb'=>?_⟩
 exact⟨_,_,I2.turned (t':=s2.toks) (λb o hb e=>(sb'.2 b hb).trans e) fp.1 fp.2.1 fp.2.2.2.1 fp.2.2.2.2.1 fp.2.2.2.2.2,fin D hn⟩
def DG(K:Fs)(tl:TE):TI:=λσ H R=>tl σ H λx H1=>∃a,x=.ref a/\(((∃xs,SqL K H1 a xs)/\R (Itl K a) H1)\/((∃xs,SqT K H1 a xs)/\R (Itt K a) H1))
def Al(O:PE X l tl):PI X tg l (DG X.K tl):=by
 intro pins s σ H R I h
 refine thn (O pins s σ H _ I h) λv s1 ⟨x,H1,j,r1,q1⟩=>?_
 obtain⟨a,e,q1⟩:=q1
 subst e
 cases r1
 rcases q1 with⟨⟨xs,z⟩,q⟩|⟨⟨xs,z⟩,q⟩
 ·obtain⟨its,U,p,Y⟩:=j.list z
  refine Ky p.isList ?_
  refine⟨s1.heap.objs.size,[s1.heap.objs.size],_,_,H1,rfl,j.kept (t':=s1.toks) λb o e=>FQ _ e,QF a _,⟨_,Gr _ rfl,rfl,rfl⟩,λb J=>?_,q⟩
  have e:b=s1.heap.objs.size:=by simpa using J
  subst e
  exact j.fpOk (FA _) (j.hok.fresh (FA _))
 ·obtain⟨its,U,p,Y⟩:=j.tuple z
  refine IP (show s1.heap.IsTuple a its.toArray from p) ?_
  refine⟨s1.heap.objs.size,[s1.heap.objs.size],_,_,H1,rfl,j.kept (t':=s1.toks) λb o e=>FQ _ e,Vu a _,⟨_,Gr _ rfl,rfl,rfl⟩,λb J=>?_,q⟩
  have e:b=s1.heap.objs.size:=by simpa using J
  subst e
  exact j.fpOk (FA _) (j.hok.fresh (FA _))
end
end L2
namespace L2
open PySem PySem.Spec PyProof.Rows
open PySem.AutoSeq1 (wpAny_loadPart')
section
variable {prog:FI} {w:FB} {A:FW} {E:Fl->Fq->Prop} {s:Fq}
def wK{z t:Fo}{i:Nat}{items:Array Fl}{x:Fl}{Q:Fl->Fq->Prop}(j:s.heap.IsTupleIter z t i)(Z:s.heap.IsTuple t items)(hx:items[i]?=some x) 
  (hQ:∀h',h'.IsTupleIter z t (i+1)->Ka z s.heap h'->Q x {s with heap:=h'}):wpAny (Fx prog w) A (IC (.ref z)) Q E s:=by
 obtain⟨o,O,hc,J⟩:=id j
 obtain⟨ol,U,_,nl,Y⟩:=Z
 unfold IC
 refine Ft (Kj (name:=HQ "__next__") j.typeIs Ly
  (Kk Ly j.typeIs N2 ?_ (N3 _)))
 show wpAny _ _ (HR (.ref z) 0>>=_) _ _ s
 refine Ft (Hh O J (x:=.ref t) rfl ?_)
 show wpAny _ _ (if(Value.ref t==Value.none)=true then _ else _) _ _ s
 rw[if_neg (show ¬((Value.ref t==Value.none)=true)from Gx)]
 show wpAny _ _ (HR (.ref z) 1>>=_) _ _ s
 refine Ft (Hh O J (x:=.int i 0) rfl ?_)
 show wpAny _ _ (seqItems? (.ref t)>>=_) _ _ s
 refine Ft (Ik U Y ?_)
 simp only[Il,hx]
 refine Ft (N4 O J (by simp) (FS ⟨x,rfl,FS (hQ _ ?_ (N5 ..))⟩))
 exact⟨_,NR _ O (Obj.isFreed_of_fields (N6 J _)),(Obj.cls_mapFields ..).trans hc,by
  rw[N6 J];simp[Ib]⟩
def wO{it t:Fo}{i:Nat}{items:Array Fl}{Q:Fl->Fq->Prop}(hh:A.handled=none) 
  (hit:s.heap.IsTupleIter it t i) (ht:s.heap.IsTuple t items) (hx:items[i]?=none)
  (hE:∀h' e,MN it s.heap h'->(∃o,h'.get? e=some o/\o.cls=.type "StopIteration")->E (.ref e) {s with heap:=h'}) :
  wpAny (Fx prog w) A (IC (.ref it)) Q E s:=by
 obtain⟨o,ho,hc,hd⟩:=id hit
 obtain⟨ol,hol,_,nl,hdl⟩:=ht
 unfold IC
 refine Ft (Kj (name:=HQ "__next__") hit.typeIs Ly
  (Kk Ly hit.typeIs N2 ?_ (N3 _)))
 show wpAny _ _ (HR (.ref it) 0>>=_) _ _ s
 refine Ft (Hh ho hd (x:=.ref t) rfl ?_)
 show wpAny _ _ (if(Value.ref t==Value.none)=true then _ else _) _ _ s
 rw[if_neg (show ¬((Value.ref t==Value.none)=true)from Gx)]
 show wpAny _ _ (HR (.ref it) 1>>=_) _ _ s
 refine Ft (Hh ho hd (x:=.int i 0) rfl ?_)
 show wpAny _ _ (seqItems? (.ref t)>>=_) _ _ s
 refine Ft (Ik hol hdl ?_)
 simp only[Il,hx]
 refine Ft (Lz (Ft (N4 ho hd (by simp) ?_)))
 show wpAny _ _ (newExc (.type "StopIteration") []>>=_) _ _ _
 refine Ft ?_
 simp only[newExc,newTuple]
 refine Ft (KP ?_ (by size_fits))
 refine Ft (m:=N7 _ _) (wpAny_of_eq (a:=Value.none) (by first|rfl|(simp only[N7];rfl)) ?_)
 refine KP ?_ (by size_fits)
 simp only[raiseNew]
 refine Ft (wpAny_handled ?_)
 first|rw[show A.in1.handled=none from hh]|rw[hh]
 refine Ft (FS (wpAny_throw ?_))
 exact hE _ _ (((N5 ..).extBut.push _).push _) ⟨_,Gr _ rfl,rfl⟩
end
def eF{prog:FI}{w:FB}{A:FW}(hh:A.handled=none)(it l:Fo)(hne:l≠it)(items:Array Fl):
  Draws prog w A it [it,l] items.size (λi v=>items[i]?=some v) (λi h=>h.IsTupleIter it l i/\h.IsTuple l items) where
 live:=λ_ _ st=>let ⟨o,ho,_⟩:=st.1;⟨o,ho⟩
 frame:=λ_ _ _ st hk=>⟨st.1.at λo e=>hk it (by simp) o e,(by obtain⟨o,e,r⟩:=st.2;exact⟨o,hk l (by simp) o e,r⟩)⟩
 item:=λi s Q E hi st hQ=>by
  refine wK st.1 st.2 (x:=items[i]) (by simp[hi]) λh' hit' hs'=>?_
  exact hQ _ h' s.toks (by simp[hi]) ⟨hit',st.2.extBut hs'.extBut hne⟩ hs'
 done:=λs Q E st hE=>wO hh st.1 st.2 (by simp) hE
def VC(l:Fo)(items:Array Fl)(n:Nat)(dct:Option Fo)(sl:Array (Option Fl)):
  Kl (HU.«enumerate.__new__» ⟨[.type "enumerate",.ref l],[]⟩) (λ_ R s=>s.heap.get? l=some {cls:=.type "tuple",dict:=dct,data:=.seq items n,slots:=sl}/\
   R (.ok (.ret (.ref (s.heap.push {cls:=.type "tuple_iterator",data:=.fields #[.ref l,.int 0 0]}).objs.size)))
    {s with heap:=(s.heap.push {cls:=.type "tuple_iterator",data:=.fields #[.ref l,.int 0 0]}).push {cls:=.type "enumerate",data:=.fields #[.none,.bool false,.ref s.heap.objs.size,Ib 0,.none,.none]}}) :=
 .of_wp λprog w A R s h=>by
  obtain⟨hp,g,d,tk,os⟩:=s;obtain⟨hl,h⟩:=h
  have hsub:=sub_enumerate
  have hL:MO (MP ⟨hp,g,d,tk,os⟩) l items:=⟨_,hl,rfl,n,rfl⟩
  wp_walk using wpAny_loadPart' hl
  refine wpAny_stack_any λst=>FS ?_
  split
  ·rename_i c _ _ _ _ _
   cases (c==Value.type "enumerate")
   ·wp_walk using wpAny_loadPart' hl,IP hL
    exact⟨_,rfl,h⟩
   ·wp_walk using wpAny_loadPart' hl,IP hL
    exact⟨_,rfl,h⟩
  ·wp_walk using wpAny_loadPart' hl,IP hL
   exact⟨_,rfl,h⟩
def VD{prog:FI}{w:FB}{A:FW}{E:Fl->Fq->Prop}{s:Fq}{l:Fo}{items:Array Fl}{Q:Fl->Fq->Prop}(Z:s.heap.IsTuple l items) 
  (h:∀h',LA h' (s.heap.objs.size+1) s.heap.objs.size 0 .none->h'.IsTupleIter s.heap.objs.size l 0->h'.objs.size=s.heap.objs.size+2->
   (∀b o,s.heap.get? b=some o->h'.get? b=some o)->Q (.ref (s.heap.objs.size+1)) {s with heap:=h'}) :
  wpAny (Fx prog w) A (call (.type "enumerate") [.ref l]) Q E s:=by
 obtain⟨⟨c,j,dt,sl⟩,hl,z,n,J⟩:=Z
 replace z:c=.type "tuple":=z
 replace J:dt=.seq items n:=J
 subst z J
 refine callType_new F.called_enumerate (by decide) (F.typeCall_enumerate_1 _) (F.newCall_enumerate_1 _) (λO=>N8 O _) F.entry_enumerate_new
  (VC l items n j sl) ⟨hl,?_⟩
 have U:(s.heap.push {cls:=.type "tuple_iterator",data:=.fields #[.ref l,.int 0 0]}).objs.size=s.heap.objs.size+1:=HH ..
 show _/\_
 rw[U]
 have Y:LA ((s.heap.push {cls:=.type "tuple_iterator",data:=.fields #[.ref l,.int 0 0]}).push
   {cls:=.type "enumerate",data:=.fields #[.none,.bool false,.ref s.heap.objs.size,Ib 0,.none,.none]}) (s.heap.objs.size+1) s.heap.objs.size 0 .none:=by
  have:=Gr (s.heap.push {cls:=.type "tuple_iterator",data:=.fields #[.ref l,.int 0 0]})
   (o:={cls:=.type "enumerate",data:=.fields #[.none,.bool false,.ref s.heap.objs.size,Ib 0,.none,.none]}) rfl
  rw[U]at this;exact this
 refine⟨⟨_,Y,rfl⟩,h _ Y ⟨_,FQ _ (Gr _ rfl),rfl,rfl⟩ (by rw[HH,U]) λb o x=>FQ _ (FQ _ x)⟩
end L2
namespace L2
open PySem PySem.Spec PyProof.Rows
def Ite(rd:Hp->List V->Prop):It :=
 ⟨λi H=>∃xs x,rd H xs/\xs[i]?=some x,λi H x H'=>∃T v,H T=none/\H'=upd H T (.tup [.int i,v])/\x=.ref T/\∀xs,rd H xs->xs[i]?=some v,λi H=>∃xs,rd H xs/\xs.length<=i⟩
section
variable {X:Cx} {pins:List (Fo×FD)} {σ:St} {H:Hp} {s:Fq}
def QO{e O:Fo}{i:Nat}{v:V}{x:Fl}{tk tk':Nat}{h':Fz}(I:Inv X pins σ H s)(Z:wF X pins H e)(J:wF X pins H O)(rv:zI v x) 
  (hT:h'.get? s.heap.objs.size=some {cls:=.type "tuple",data:=.seq #[.int i tk,x]}) (Y:∀b o,b≠e->b≠O->s.heap.get? b=some o->h'.get? b=some o) (th:∀b o,s.heap.get? b=some o->∃o',h'.get? b=some o') :
  Inv X pins σ (upd H s.heap.objs.size (.tup [.int i,v])) {s with heap:=h',toks:=tk'}:=by
 have hn:H s.heap.objs.size=none:=I.hok.fresh (FA _)
 have fT:wF X pins H s.heap.objs.size:=I.fpOk (FA _) hn
 have ch:∀b∈[s.heap.objs.size,e,O],wF X pins H b:=λb j=>by
  rcases FL.mp j with q|j
  ·rw[q];exact fT
  ·rcases FL.mp j with q|j
   ·rw[q];exact Z
   ·rw[Gf.mp j];exact J
 have ne:∀b,b∉ [s.heap.objs.size,e,O]->b≠e/\b≠O:=λb j=>⟨λz=>j (by simp[z]),λz=>j (by simp[z])⟩
 have neT:∀b o,s.heap.get? b=some o->b≠s.heap.objs.size:=λb o q=>Gd (FV q)
 refine I.step (g':=s.gens) (d':=s.drawn) (ch:=[s.heap.objs.size,e,O]) (λb j=>let ⟨_,q1,_,q2,q3,q4⟩:=ch b j;⟨q2,q1,q3,q4⟩)
  (λb o _ _ U q _=>Y b o (ne b U).1 (ne b U).2 q) (λb o _ _ U q _=>⟨o.slots,Y b o (ne b U).1 (ne b U).2 q⟩) (λb o U q n=>by rw[zd (neT b o q)];exact n) (λb o _ q=>th b o q)
  (λb xs q=>by rw[zd (zn q hn)];exact q) (λb o u q=>by rw[zd (zn q hn)];exact q) (λb ps q=>⟨#[],by rw[zd (zn q hn),q];simp⟩) (λm hm=>?_) ?_ I.bare
 ·obtain⟨o,es,ep,ho,r⟩:=hm
  exact⟨o,es,ep,Y _ o (FH Z.2.1) (FH J.2.1) ho,r⟩
 ·refine HOk.track I.hok hn (λb u nb q=>Y b u (λz=>nb (by rw[z];exact Z.1)) (λz=>nb (by rw[z];exact J.1)) q) ?_
  exact⟨by show 2<=Fv;decide,[.int i tk,x],.cons ⟨tk,rfl⟩ (.cons rv .nil),⟨_,hT,rfl,_,rfl⟩⟩
end
def iM{P:FI}{w:FB}{K:Fs}{elts:List Fu}{k:Nat}{tp:FG}(a it e:Fo)(hei:e≠it):
  Turn P w K (.Tuple elts k tp) (Ite λH xs=>SqT K H a xs) [e,it] e (λi h=>(∃old,LA h e it i old)/\h.IsTupleIter it a i) where
 mem:=by simp
 obj:=λi h st b hb=>by
  obtain⟨⟨old,he⟩,o,e1,c,d⟩:=st
  rcases FL.mp hb with q|hb
  ·subst q
   exact⟨_,he,λv z=>by
    have z':Data.fields _=Data.cell v:=z
    cases z'⟩
  ·rw[Gf.mp hb]
   exact⟨o,e1,λv z=>by rw[d]at z;cases z⟩
 keep:=λi h h' st k=>⟨let ⟨old,he⟩:=st.1;⟨old,k e (by simp) _ he⟩,st.2.at λo q=>k it (by simp) o q⟩
 item:=by
  intro X hP hw hK hc i pins s σ H E I hf st hg
  subst hP hw hK
  obtain⟨xs,x,hq,hx⟩:=hg
  obtain⟨its,rv,p,hz⟩:=I.tuple hq
  obtain⟨u,hu,ru⟩:=rv.get hx
  obtain⟨⟨old,he⟩,hit⟩:=st
  have fe:=hf e (by simp)
  have fi:=hf it (by simp)
  have hai:a≠it:=λz=>by
   obtain⟨o,e1,c,_⟩:=p
   obtain⟨o2,e2,c2,_⟩:=hit
   rw[z,e2]at e1;cases e1;rw[c2]at c;exact absurd c (by simp)
  have hae:e∉ [it,a]:=λhm=>by
   rcases FL.mp hm with q|hm
   ·exact hei q
   ·have q:=Gf.mp hm
    obtain⟨o,e1,c,_⟩:=p
    rw[<-q,he]at e1
    cases e1;simp at c
  refine N9 (eF (A:=X.A.in1) (I.ok.hd hc) it a hai its.toArray) he ⟨hit,p⟩ (by rw[Go];exact(FO.mp hu).1) hei hae λx' h' tk hP ho hs' hT hsz hk=>?_
  have hx':x'=u:=by
   have hP':its[i]?=some x':=by simpa using hP
   rw[hu]at hP';cases hP';rfl
  subst hx'
  refine⟨_,rfl,Oa ho λh2 he2 hs2=>?_⟩
  have hk2:∀b o,b≠e->b≠it->s.heap.get? b=some o->h2.get? b=some o:=λb o n1 n2 q=>(hs2.2 b n1).trans (hk b o n1 n2 q)
  have hel:e≠s.heap.objs.size:=Gd (FV he)
  have hit2:h2.IsTupleIter it a (i+1):=hs'.1.at λo q=>(hs2.2 it (FH hei)).trans q
  have I2:=QO (tk':=tk+1) (i:=i) (tk:=tk) (h':=h2) I fe fi ru ((hs2.2 _ (FH hel)).trans hT) hk2 (λb o q=>by
   by_cases n1:b=e
   ·subst n1;exact⟨_,he2⟩
   ·by_cases n2:b=it
    ·subst n2;obtain⟨o',q',_⟩:=hit2;exact⟨o',q'⟩
    ·exact⟨o,hk2 b o n1 n2 q⟩)
  refine⟨.ref s.heap.objs.size,_,I2,rfl,⟨_,x,I.hok.fresh (FA _),rfl,rfl,λys hy=>by rw[I.tuple_inj hy hq];exact hx⟩,⟨⟨x',by simpa using he2⟩,hit2⟩,λb hb=>?_⟩
  have hb':wF X pins H b:=hf b hb
  rw[zd (λz=>?_)]
  ·exact hb'.1
  ·rcases FL.mp hb with q|hb
   ·exact hel (q.symm.trans z)
   ·have q:=Gf.mp hb
    obtain⟨o,e1,_⟩:=hit
    exact Gd (FV e1) (q.symm.trans z)
 done:=by
  intro X hP hw hK hc i pins s σ H E I hf st hg
  subst hP hw hK
  obtain⟨xs,hq,hx⟩:=hg
  obtain⟨its,rv,p,hz⟩:=I.tuple hq
  obtain⟨⟨old,he⟩,hit⟩:=st
  obtain⟨f0,f1,f2,f3,f4,f5⟩:=hf it (by simp)
  have hl:=rv.length
  have hai:a≠it:=λz=>by
   obtain⟨o,e1,c,_⟩:=p
   obtain⟨o2,e2,c2,_⟩:=hit
   rw[z,e2]at e1;cases e1;rw[c2]at c;exact absurd c (by simp)
  have hT:s.TypeIs (.ref e) "enumerate":=⟨_,he,rfl⟩
  unfold Hu
  refine Ft (KQ (Kj (name:=HQ "__next__") hT LB
   (Kk LB hT Ob ?_ (Oc _))))
  show wpAny _ _ (HR (.ref e) 2>>=_) _ _ _
  refine Ft (Hh he rfl (x:=.ref it) rfl ?_)
  refine Ft (wO (A:=X.A.in1) (I.ok.hd hc) hit (show s.heap.IsTuple a its.toArray from p) (by simp;omega) λh' ex hx' ⟨o,ho,hcl⟩=>?_)
  refine Ft (KR (T:="StopIteration") (b:=true) ⟨o,ho,hcl⟩ MQ ?_)
  exact FS ⟨rfl,I.turned (t':=s.toks) (λb o hb q=>hx' b o hb q) f0 f1 f3 f4 f5⟩
 self:=λ_ _ _ _ _ st h=>let ⟨_,he⟩:=st.1;LC he h
section
variable {X:Cx}
def DH(K:Fs)(ta:TA):TI:=λσ H R=>ta σ H λvs H1=>∃a,vs=[.ref a]/\(∃xs,SqT K H1 a xs)/\R (Ite λH xs=>SqT K H a xs) H1
def aC{a:Fu}{ta:TA}{p pos tp:FG}{j:List Fu}{k:Nat}(hg:Gl X "enumerate")(hm:X.mg "enumerate"=none)(ha:PA X [a] ta)(hs:FK [a] X.env=[(false,FJ a X.env)]:=by rfl):
  PI X (.Tuple j k tp) (.Call (.Name "enumerate" p) [a] [] pos) (DH X.K ta):=by
 intro pins s σ H R I h
 refine Ke (vY I hg hm Od (IQ (thn (ha pos pins s σ H _ I h) λus s1 ⟨vs,H1,O,r1,q1⟩=>?_) hs rfl))
 obtain⟨l,e,⟨xs,hq⟩,q⟩:=q1
 subst e
 cases r1 with
 | cons r rr=>
  cases rr
  cases r
  obtain⟨its,rv,pt,hz⟩:=O.tuple hq
  refine VD (items:=its.toArray) pt λh' Z U hsz hk=>?_
  refine LC Z ?_
  have I2:Inv X pins σ H1 {s1 with heap:=h'}:=O.kept (t':=s1.toks) hk
  refine⟨s1.heap.objs.size+1,[s1.heap.objs.size+1,s1.heap.objs.size],_,_,H1,rfl,I2,iM l s1.heap.objs.size (s1.heap.objs.size+1) (Oe _),⟨⟨_,Z⟩,U⟩,λb Y=>?_,q⟩
  have J:s1.heap.objs.size<=b:=by
   rcases FL.mp Y with z|Y
   ·rw[z];exact KC _
   ·rw[Gf.mp Y];exact FA _
  exact O.fpOk J (O.hok.fresh J)
end
end L2
namespace DD
open PySem PySem.Spec L2
open PyProof.Rows hiding St
inductive D where
 | non|bl (b:Bool)|int (i:Int)|str (x:Fp)|scr (ns:List Int)|tup (xs:List D)|lst (xs:List D)|dK (ks:List Key) (vs:List D)|dT (ks:List (List Key)) (vs:List D)
mutual
def Is(K:Fs)(F:Hp):D->V->Prop
 | .non,v=>v=.non
 | .bl b,v=>v=.bl b
 | .int i,v=>v=.int i
 | .str x,v=>v=.str x
 | .scr ns,v=>∃a,v=.ref a/\SqL K F a (ns.map V.int)
 | .tup ds,v=>∃a vs,v=.ref a/\F a=some (.tup vs)/\Are K F ds vs
 | .lst ds,v=>∃a vs,v=.ref a/\F a=some (.lst vs)/\Are K F ds vs
 | .dK ks ds,v=>∃a ws,v=.ref a/\F a=some (.dK ws)/\ws.map Gq=ks/\Are K F ds (ws.map HV)
 | .dT ks ds,v=>∃a ws,v=.ref a/\F a=some (.dT ws)/\ws.map Gq=ks/\Are K F ds (ws.map HV)
def Are(K:Fs)(F:Hp):List D->List V->Prop
 | [],vs=>vs=[]
 | d::ds,vs=>∃v r,vs=v::r/\Is K F d v/\Are K F ds r
end
section
variable {K:Fs} {F F' H H':Hp}
mutual
theorem Is.mono(s:zm F F'):∀(d:D) {v:V},Is K F d v->Is K F' d v
 | .non,_,h=>by simpa[Is]using h
 | .bl _,_,h=>by simpa[Is]using h
 | .int _,_,h=>by simpa[Is]using h
 | .str _,_,h=>by simpa[Is]using h
 | .scr ns,_,h=>by
  simp only[Is]at h ⊢
  obtain⟨a,e,j⟩:=h
  exact⟨a,e,s.seq j⟩
 | .tup ds,_,h=>by
  simp only[Is]at h ⊢
  obtain⟨a,vs,e,j,r⟩:=h
  exact⟨a,vs,e,s _ _ j,Are.mono s ds r⟩
 | .lst ds,_,h=>by
  simp only[Is]at h ⊢
  obtain⟨a,vs,e,j,r⟩:=h
  exact⟨a,vs,e,s _ _ j,Are.mono s ds r⟩
 | .dK ks ds,_,h=>by
  simp only[Is]at h ⊢
  obtain⟨a,ws,e,j,q,r⟩:=h
  exact⟨a,ws,e,s _ _ j,q,Are.mono s ds r⟩
 | .dT ks ds,_,h=>by
  simp only[Is]at h ⊢
  obtain⟨a,ws,e,j,q,r⟩:=h
  exact⟨a,ws,e,s _ _ j,q,Are.mono s ds r⟩
theorem Are.mono(s:zm F F'):∀(ds:List D) {vs:List V},Are K F ds vs->Are K F' ds vs
 | [],_,h=>by simpa[Are]using h
 | d::ds,_,h=>by
  simp only[Are]at h ⊢
  obtain⟨v,r,e,h1,h2⟩:=h
  exact⟨v,r,e,Is.mono s d h1,Are.mono s ds h2⟩
end
def Are.nil:Are K F [] []:=by simp[Are]
def Are.cons(h:Is K F d v)(r:Are K F ds vs):Are K F (d::ds) (v::vs):=by
 simp only[Are]
 exact⟨v,vs,rfl,h,r⟩
def Are.inv(h:Are K F (d::ds) vs):∃v r,vs=v::r/\Is K F d v/\Are K F ds r:=by
 simpa only[Are]using h
def Are.inv0(h:Are K F [] vs):vs=[]:=by simpa only[Are]using h
theorem Are.length:∀{ds:List D} {vs:List V},Are K F ds vs->vs.length=ds.length
 | [],_,h=>by rw[h.inv0];rfl
 | d::ds,_,h=>by
  obtain⟨v,r,e,_,q⟩:=h.inv
  rw[e,Gu,Gu,q.length]
theorem Are.get:∀{ds:List D} {vs:List V} {i:Nat} {d:D},Are K F ds vs->ds[i]?=some d->∃v,vs[i]?=some v/\Is K F d v
 | [],_,_,_,_,e=>by simp at e
 | x::ds,_,0,d,h,e=>by
  obtain⟨v,r,j,q,_⟩:=h.inv
  simp at e;subst e;subst j
  exact⟨v,rfl,q⟩
 | x::ds,_,i+1,d,h,e=>by
  obtain⟨v,r,j,_,q⟩:=h.inv
  subst j
  obtain⟨u,h1,h2⟩:=Are.get (i:=i) (d:=d) q (by simpa using e)
  exact⟨u,by simpa using h1,h2⟩
theorem Are.append:∀{ds es:List D} {vs us:List V},Are K F ds vs->Are K F es us->Are K F (ds++es) (vs++us)
 | [],_,_,_,h,q=>by rw[h.inv0];exact q
 | d::ds,_,_,_,h,q=>by
  obtain⟨v,r,e,h1,h2⟩:=h.inv
  subst e
  exact .cons h1 (Are.append h2 q)
theorem Are.set(j:Is K F x u):∀{ds:List D} {vs:List V} (n:Nat),Are K F ds vs->Are K F (ds.set n x) (vs.set n u)
 | [],_,_,h=>by rw[h.inv0];exact .nil
 | d::ds,_,0,h=>by
  obtain⟨v,r,e,h1,h2⟩:=h.inv
  subst e
  exact .cons j h2
 | d::ds,_,n+1,h=>by
  obtain⟨v,r,e,h1,h2⟩:=h.inv
  subst e
  exact .cons h1 (Are.set j n h2)
def n'(s:zm F F')(h:SqT K F a xs):SqT K F' a xs:=by
 rcases h with(h|⟨o,h⟩)|h
 ·exact .inl (.inl (s _ _ h))
 ·exact .inl (.inr ⟨o,s _ _ h⟩)
 ·exact .inr h
end
structure Ext (F H F' H':Hp):Prop where
 ff:zm F F'
 hh:zm H H'
 fh:zm F' H'
 new:∀b,F b=none->F' b≠none->H b=none
def Ext.refl(s:zm F H):Ext F H F H:=⟨zm.refl _,zm.refl _,s,λ_ h1 h2=>absurd h1 h2⟩
def Ext.trans(a:Ext F H F1 H1)(b:Ext F1 H1 F2 H2):Ext F H F2 H2 :=
 ⟨a.ff.trans b.ff,a.hh.trans b.hh,b.fh,λc h1 h2=>by
  by_cases q:F1 c=none
  ·exact a.hh.free (b.new c q h2)
  ·exact a.new c h1 q⟩
def zz(h:H p=none)(o:HO):zm H (upd H p o):=λb u q=>by rw[zd (zn q h)];exact q
def XA(s:zm F H)(o:HO):zm (upd F p o) (upd H p o):=λb u q=>by
 by_cases e:b=p
 ·subst e;rw[zj]at q ⊢;exact q
 ·rw[zd e]at q ⊢;exact s _ _ q
def Ext.freed(e:Ext F H F' H')(h:F a=none)(n:H a≠none):F' a=none:=by
 cases z:F' a with
 | none=>rfl
 | some u=>exact absurd (e.new a h (by rw[z];simp)) n
def Ext.fix(s:zm F H)(h:H p=none)(o:HO):Ext F H (upd F p o) (upd H p o) :=
 ⟨zz (s.free h) o,zz h o,XA s o,λb h1 h2=>by
  by_cases e:b=p
  ·subst e;exact h
  ·rw[zd e]at h2;exact absurd h1 h2⟩
def Ext.own(s:zm F H)(h:H p=none)(o:HO):Ext F H F (upd H p o) :=
 ⟨zm.refl _,zz h o,λb u q=>zz h o b u (s b u q),λb h1 h2=>absurd h1 h2⟩
def Ext.turn(e:Ext F0 H0 F H)(j:H0 p=none)(z:F p=none)(o:HO):Ext F0 H0 F (upd H p o) :=
 ⟨e.ff,λb u q=>by rw[zd (zn q j)];exact e.hh b u q,λb u q=>by rw[zd (zn q z)];exact e.fh b u q,e.new⟩
def Ext.freeze(e:Ext F0 H0 F H)(j:H0 p=none)(J:F p=none)(O:H p=some o):Ext F0 H0 (upd F p o) H :=
 ⟨λb u q=>zz J o b u (e.ff b u q),e.hh,λb u q=>by
  by_cases z:b=p
  ·subst z;rw[zj]at q;rw[O,q]
  ·rw[zd z]at q;exact e.fh b u q,λb h1 h2=>by
  by_cases z:b=p
  ·subst z;exact j
  ·rw[zd z]at h2;exact e.new b h1 h2⟩
inductive S where
 | un|v (d:D)|ol (ds:List D)|ot (kvs:List (List Key×D))|ok (kvs:List (Key×D))
abbrev G:=List S
def S.own:S->Bool
 | .un=>false|.v _=>false|_=>true
def xZ{κ:Type}(K:Fs)(F:Hp):List (κ×D)->List (κ×V)->Prop:=Paired λp q=>p.1=q.1/\Is K F p.2 q.2
def xZ.mono{κ:Type}{K:Fs}{F F':Hp}(s:zm F F'){ps:List (κ×D)}{z:List (κ×V)}(h:xZ K F ps z):xZ K F' ps z:=Paired.mapP h λ_ _ j=>by obtain⟨a,b⟩:=j;exact⟨a,b.mono s⟩
def SIs(K:Fs)(H0 F H:Hp):S->Option V->Prop
 | .un,_=>True
 | .v d,o=>∃v,o=some v/\Is K F d v
 | .ol ds,o=>∃a vs,o=some (.ref a)/\H a=some (.lst vs)/\Are K F ds vs/\F a=none/\H0 a=none
 | .ot kvs,o=>∃a ws,o=some (.ref a)/\H a=some (.dT ws)/\xZ K F kvs ws/\F a=none/\H0 a=none
 | .ok kvs,o=>∃a ws,o=some (.ref a)/\H a=some (.dK ws)/\xZ K F kvs ws/\F a=none/\H0 a=none
structure EnvIs (K:Fs) (F0 H0 F H:Hp) (σ:St) (Γ:G):Prop where
 ext:Ext F0 H0 F H
 len:σ.length=Γ.length
 val:∀(i:Nat) s,Γ[i]?=some s->∃o,σ[i]?=some o/\SIs K H0 F H s o
 sep:∀(i j:Nat) s t a,i≠j->Γ[i]?=some s->Γ[j]?=some t->s.own=true->t.own=true->σ[i]?=some (some (.ref a))->σ[j]?=some (some (.ref a))->False
section
variable {K:Fs} {F0 H0 F H F' H':Hp} {σ:St} {Γ:G}
def SIs.ext(h:SIs K H0 F H s o)(e:Ext F H F' H'):SIs K H0 F' H' s o:=by
 cases s with
 | un=>trivial
 | v d=>obtain⟨v,j,q⟩:=h;exact⟨v,j,q.mono e.ff⟩
 | ol ds=>obtain⟨a,vs,j,q1,q2,z,J⟩:=h;exact⟨a,vs,j,e.hh _ _ q1,q2.mono e.ff,e.freed z (by rw[q1];simp),J⟩
 | ot kvs=>obtain⟨a,vs,j,q1,q2,z,J⟩:=h;exact⟨a,vs,j,e.hh _ _ q1,q2.mono e.ff,e.freed z (by rw[q1];simp),J⟩
 | ok kvs=>obtain⟨a,vs,j,q1,q2,z,J⟩:=h;exact⟨a,vs,j,e.hh _ _ q1,q2.mono e.ff,e.freed z (by rw[q1];simp),J⟩
def EnvIs.grow(E:EnvIs K F0 H0 F H σ Γ)(e:Ext F H F' H'):EnvIs K F0 H0 F' H' σ Γ :=
 ⟨E.ext.trans e,E.len,λi s h=>let ⟨o,h1,h2⟩:=E.val i s h;⟨o,h1,h2.ext e⟩,E.sep⟩
def EnvIs.fh(E:EnvIs K F0 H0 F H σ Γ):zm F H:=E.ext.fh
def EnvIs.put(E:EnvIs K F0 H0 F H σ Γ)(h:Is K F d v):EnvIs K F0 H0 F H (σ.set i (some v)) (Γ.set i (.v d)):=by
 refine⟨E.ext,by simpa using E.len,λj s e=>?_,λj k s t a O U Y Z o2 r1 r2=>?_⟩
 ·by_cases hj:j=i
  ·subst hj
   have J:j<Γ.length:=by
    have:=(FO.mp e).1;simpa using this
   rw[Hs J]at e
   cases e
   exact⟨some v,Hs (by rw[E.len];exact J),v,rfl,h⟩
  ·rw[GZ (FH hj)]at e ⊢
   exact E.val j s e
 ·have no:∀(k:Nat) (t:S),(Γ.set i (.v d))[k]?=some t->t.own=true->k≠i:=λk t e o z=>by
   subst z
   have J:k<Γ.length:=by
    have:=(FO.mp e).1;simpa using this
   rw[Hs J]at e
   cases e;cases o
  have n1:=no j s U Z
  have n2:=no k t Y o2
  rw[GZ (FH n1)]at U r1
  rw[GZ (FH n2)]at Y r2
  exact E.sep j k s t a O U Y Z o2 r1 r2
def EnvIs.putOwn(E:EnvIs K F0 H0 F H σ Γ)(h:SIs K H0 F H s0 (some (.ref a)))(nw:∀(j:Nat) s,j≠i->Γ[j]?=some s->s.own=true->σ[j]?≠some (some (.ref a))):
  EnvIs K F0 H0 F H (σ.set i (some (.ref a))) (Γ.set i s0):=by
 refine⟨E.ext,by simpa using E.len,λj s e=>?_,λj k s t b O Y Z o1 o2 r1 r2=>?_⟩
 ·by_cases J:j=i
  ·subst J
   have z:j<Γ.length:=by
    have:=(FO.mp e).1;simpa using this
   rw[Hs z]at e
   cases e
   exact⟨_,Hs (by rw[E.len];exact z),h⟩
  ·rw[GZ (FH J)]at e ⊢
   exact E.val j s e
 ·by_cases J:j=i
  ·subst J
   have U:k≠j:=FH O
   have z:j<σ.length:=by
    have:=(FO.mp r1).1;simpa using this
   rw[Hs z]at r1
   cases r1
   rw[GZ (FH U)]at Z r2
   exact nw k t U Z o2 r2
  ·by_cases U:k=i
   ·subst U
    have z:k<σ.length:=by
     have:=(FO.mp r2).1;simpa using this
    rw[Hs z]at r2
    cases r2
    rw[GZ (FH J)]at Y r1
    exact nw j s J Y o1 r1
   ·rw[GZ (FH J)]at Y r1
    rw[GZ (FH U)]at Z r2
    exact E.sep j k s t b O Y Z o1 o2 r1 r2
end
inductive Ty where
 | non|bl|int|str|tup|lst
 deriving DecidableEq
def Ty.name:Ty->String
 | .non=>"NoneType"|.bl=>"bool"|.int=>"int"|.str=>"str"|.tup=>"tuple"|.lst=>"list"
inductive B where
 | d (d:D)|l (ds:List D)|c (ds:List D)|t (kvs:List (List Key×D))|k (kvs:List (Key×D))|ty (c:Ty)
def BIs(K:Fs)(F H:Hp):B->V->Prop
 | .d d,v=>Is K F d v
 | .l ds,v=>∃a vs,v=.ref a/\H a=some (.lst vs)/\Are K F ds vs
 | .c ds,v=>∃a vs,v=.ref a/\SqT K H a vs/\Are K F ds vs
 | .t kvs,v=>∃a ws,v=.ref a/\H a=some (.dT ws)/\xZ K F kvs ws
 | .k kvs,v=>∃a ws,v=.ref a/\H a=some (.dK ws)/\xZ K F kvs ws
 | .ty c,v=>v=.ty c.name
def BIs.ext{K:Fs}{F H F' H':Hp}{b:B}{v:V}(h:BIs K F H b v)(e:Ext F H F' H'):BIs K F' H' b v:=by
 cases b with
 | d d=>exact Is.mono e.ff d h
 | l ds=>obtain⟨a,vs,j,q,r⟩:=h;exact⟨a,vs,j,e.hh _ _ q,r.mono e.ff⟩
 | c ds=>obtain⟨a,vs,j,q,r⟩:=h;exact⟨a,vs,j,n' e.hh q,r.mono e.ff⟩
 | t kvs=>obtain⟨a,ws,j,q,r⟩:=h;exact⟨a,ws,j,e.hh _ _ q,r.mono e.ff⟩
 | k kvs=>obtain⟨a,ws,j,q,r⟩:=h;exact⟨a,ws,j,e.hh _ _ q,r.mono e.ff⟩
 | ty c=>exact h
noncomputable def S.look:S->Option B
 | .un=>none
 | .v d=>some (.d d)
 | .ol ds=>some (.l ds)
 | .ot kvs=>some (.t kvs)
 | .ok kvs=>some (.k kvs)
noncomputable def B.asD:B->Option D
 | .d x=>some x
 | _=>none
def dE(K:Fs)(f:G->Option B):TE:=λσ H Q=>∃F0 H0 F Γ b,EnvIs K F0 H0 F H σ Γ/\f Γ=some b/\∀v F' H',Ext F H F' H'->BIs K F' H' b v->Q v H'
def dT(K:Fs)(f:G->Option Bool):TT:=λσ H Q=>∃F0 H0 F Γ b,EnvIs K F0 H0 F H σ Γ/\f Γ=some b/\∀F' H',Ext F H F' H'->Q b H'
abbrev aD(K:Fs)(F H:Hp):List B->List V->Prop:=Paired (BIs K F H)
def dA(K:Fs)(f:G->Option (List B)):TA:=λσ H Q=>∃F0 H0 F Γ ds,EnvIs K F0 H0 F H σ Γ/\f Γ=some ds/\∀vs F' H',Ext F H F' H'->aD K F' H' ds vs->Q vs H'
def dL(K:Fs)(f:G->Option (List D)):TE:=λσ H Q=>∃F0 H0 F Γ ds,EnvIs K F0 H0 F H σ Γ/\f Γ=some ds/\
 ∀a vs F' H',Ext F H F' H'->H a=none->F' a=none->H' a=some (.lst vs)->Are K F' ds vs->Q (.ref a) H'
inductive Out where
 | nx (g:G)|rt (d:D)|bk (g:G)|ct (g:G)
def JH(K:Fs)(F0 H0 j:Hp)(E:Ends):Out->Prop
 | .nx g=>∀σ F H,EnvIs K F0 H0 F H σ g->zm j F->E.nx σ H
 | .bk g=>∀σ F H,EnvIs K F0 H0 F H σ g->zm j F->E.bk σ H
 | .ct g=>∀σ F H,EnvIs K F0 H0 F H σ g->zm j F->E.ct σ H
 | .rt d=>∀v F H,Ext F0 H0 F H->Is K F d v->E.rt v H
def JH.mono{K:Fs}{F0 H0 J O:Hp}{E:Ends}{o:Out}(h:JH K F0 H0 J E o)(s:zm J O):JH K F0 H0 O E o:=by
 cases o with
 | nx g=>exact λσ F H j z=>h σ F H j (s.trans z)
 | bk g=>exact λσ F H j z=>h σ F H j (s.trans z)
 | ct g=>exact λσ F H j z=>h σ F H j (s.trans z)
 | rt d=>exact h
def dS(K:Fs)(f:G->Option Out):TS:=λE σ H=>∃F0 H0 F Γ o,EnvIs K F0 H0 F H σ Γ/\f Γ=some o/\JH K F0 H0 F E o
def EE(X:Cx)(e:Fu)(f:G->Option B):Prop:=PE X e (dE X.K f)
def ET(X:Cx)(e:Fu)(f:G->Option Bool):Prop:=PT X e (dT X.K f)
def EW(X:Cx)(e:Fu)(f:G->Option Bool):Prop:=PW X e (dT X.K f)
def EA(X:Cx)(es:List Fu)(f:G->Option (List B)):Prop:=PA X es (dA X.K f)
def EL(X:Cx)(e:Fu)(f:G->Option (List D)):Prop:=PE X e (dL X.K f)
def SD(X:Cx)(st:FC)(f:G->Option Out):Prop:=PS X st (dS X.K f)
def SDs(X:Cx)(st:List FC)(f:G->Option Out):Prop:=PSs X st (dS X.K f)
section
variable {X:Cx}
def yx(h:PE X e t)(w:∀σ H Q,t' σ H Q->t σ H Q):PE X e t':=λpins s σ H Q I q=>h pins s σ H Q I (w σ H Q q)
def UN(h:PT X e t)(w:∀σ H Q,t' σ H Q->t σ H Q):PT X e t':=λpins s σ H Q I q=>h pins s σ H Q I (w σ H Q q)
def fH(h:PW X e t)(w:∀σ H Q,t' σ H Q->t σ H Q):PW X e t':=λj pins s σ H Q I q=>h j pins s σ H Q I (w σ H Q q)
def fI(h:PA X e t)(w:∀σ H Q,t' σ H Q->t σ H Q):PA X e t':=λp pins s σ H Q I q=>h p pins s σ H Q I (w σ H Q q)
def yV{st:FC}{t t':TS}(h:PS X st t)(w:∀E σ H,t' E σ H->t E σ H):PS X st t':=λpins s σ H E I q=>h pins s σ H E I (w E σ H q)
def WY{st:List FC}{t t':TS}(h:PSs X st t)(w:∀E σ H,t' E σ H->t E σ H):PSs X st t':=λpins s σ H E I q=>h pins s σ H E I (w E σ H q)
def UO(h:PG X e t)(w:∀v σ H Q,t' v σ H Q->t v σ H Q):PG X e t':=λpins s σ H v u Q I r q=>h pins s σ H v u Q I r (w v σ H Q q)
noncomputable def zc (i:Nat):G->Option B:=λΓ=>Γ[i]?.bind S.look
def zb(h:PE X (.Name x pos) (vK i)):EE X (.Name x pos) (zc i):=yx h λσ H Q j=>by
 obtain⟨F0,H0,F,Γ,b,E,e,q⟩:=j
 unfold zc at e
 cases z:Γ[i]? with
 | none=>rw[z]at e;cases e
 | some s=>
  rw[z]at e
  have J:s.look=some b:=e
  obtain⟨o,h1,h2⟩:=E.val i s z
  cases s with
  | un=>cases J
  | v d=>cases J;obtain⟨v,rfl,r⟩:=h2;exact⟨v,h1,q v F H (.refl E.fh) r⟩
  | ol ds=>cases J;obtain⟨a,vs,rfl,r1,r2,_⟩:=h2;exact⟨_,h1,q _ F H (.refl E.fh) ⟨a,vs,rfl,r1,r2⟩⟩
  | ot kvs=>cases J;obtain⟨a,vs,rfl,r1,r2,_⟩:=h2;exact⟨_,h1,q _ F H (.refl E.fh) ⟨a,vs,rfl,r1,r2⟩⟩
  | ok kvs=>cases J;obtain⟨a,vs,rfl,r1,r2,_⟩:=h2;exact⟨_,h1,q _ F H (.refl E.fh) ⟨a,vs,rfl,r1,r2⟩⟩
noncomputable def xC (d:D):G->Option B:=λ_=>some (.d d)
def Yi(h:PE X e (tC v))(r:∀F,Is X.K F d v):EE X e (xC d):=yx h λσ H Q j=>by
 obtain⟨F0,H0,F,Γ,b,E,e,q⟩:=j
 cases e
 exact q v F H (.refl E.fh) (r F)
def zk{i j pos}:EE X (.Constant (.int i) j pos) (xC (.int i)):=Yi wd λF=>by simp[Is]
def vc{i j pos}:EE X (.Constant (.bool i) j pos) (xC (.bl i)):=Yi uU λF=>by simp[Is]
def uA{i j pos}:EE X (.Constant (.str i) j pos) (xC (.str i)):=Yi tQ λF=>by simp[Is]
def JI{j pos}:EE X (.Constant .none j pos) (xC .non):=Yi lH λF=>by simp[Is]
def Wg{x:Fp}{i:Int}{t:G8}{pos:FG}(j:Gl X x)(z:X.mg x=some (.int i t))(J:(x==("__debug__":Fp))=false:=by decide):EE X (.Name x pos) (xC (.int i)):=Yi (u7 j z (v:=.int i) ⟨t,rfl⟩ J) λF=>by simp[Is]
end
section
variable {X:Cx} {a b c e:Fu} {f g h:G->Option B} {pos:FG}
def OpB(K:Fs)(r:R2)(m:B->B->Option D):Prop:=∀F H x y v u d Q,zm F H->BIs K F H x v->BIs K F H y u->m x y=some d->(∀w F' H',Ext F H F' H'->Is K F' d w->Q w H')->r v u H Q
noncomputable def x2 (m:B->B->Option D) (f g:G->Option B):G->Option B:=λΓ=>(f Γ).bind λx=>(g Γ).bind λy=>(m x y).map B.d
def ug(e:x2 m f g Γ=some z):∃x y d,f Γ=some x/\g Γ=some y/\m x y=some d/\z=.d d:=by
 unfold x2 at e
 cases j:f Γ with
 | none=>rw[j]at e;cases e
 | some x=>
  cases O:g Γ with
  | none=>rw[j,O]at e;cases e
  | some y=>
   rw[j,O]at e
   cases J:m x y with
   | none=>simp[J]at e
   | some d=>simp[J]at e;exact⟨x,y,d,rfl,rfl,J,e.symm⟩
def yi(U:OpR X (GW Y) r)(Z:OpB X.K r m)(ha:EE X a f)(hb:EE X b g):EE X (.BinOp a Y b pos) (x2 m f g) :=
 yx (iA U ha hb) λσ H Q j=>by
  obtain⟨F0,H0,F,Γ,z,E,e,q⟩:=j
  obtain⟨x,y,d,hx,hy,hd,rfl⟩:=ug e
  exact⟨F0,H0,F,Γ,x,E,hx,λv F1 H1 O r1=>⟨F0,H0,F1,Γ,y,E.grow O,hy,λu F2 H2 J r2=>Z F2 H2 x y v u d Q J.fh (r1.ext J) r2 hd λw F' H' e3 r3=>q w F' H' ((O.trans J).trans e3) r3⟩⟩
def VE(Y:OpR X (Gz O) r)(Z:OpB X.K r m)(ha:EE X a f)(hb:EE X b g)(hk:IL O b=false):EE X (.Compare a [O] [b] pos) (x2 m f g) :=
 yx (UL Y ha hb hk) λσ H Q j=>by
  obtain⟨F0,H0,F,Γ,z,E,e,q⟩:=j
  obtain⟨x,y,d,hx,hy,hd,rfl⟩:=ug e
  exact⟨F0,H0,F,Γ,x,E,hx,λv F1 H1 U r1=>⟨F0,H0,F1,Γ,y,E.grow U,hy,λu F2 H2 J r2=>Z F2 H2 x y v u d Q J.fh (r1.ext J) r2 hd λw F' H' e3 r3=>q w F' H' ((U.trans J).trans e3) r3⟩⟩
def B.tst:B->Option Bool
 | .d (.bl b)=>some b
 | _=>none
noncomputable def xT (f:G->Option B):G->Option Bool:=λΓ=>(f Γ).bind B.tst
def Wh(e:xT f Γ=some z):f Γ=some (.d (.bl z)):=by
 unfold xT at e
 cases J:f Γ with
 | none=>rw[J]at e;cases e
 | some x=>
  rw[J]at e
  have j:x.tst=some z:=e
  unfold B.tst at j
  split at j
  ·cases j;rfl
  ·cases j
def yJ(Y:OpR X (Gz O) r)(Z:OpB X.K r m)(ha:EE X a f)(hb:EE X b g)(hk:IL O b=false):ET X (.Compare a [O] [b] pos) (xT (x2 m f g)) :=
 UN (Ye Y ha hb hk) λσ H Q j=>by
  obtain⟨F0,H0,F,Γ,z,E,e,q⟩:=j
  obtain⟨x,y,d,hx,hy,hd,hz⟩:=ug (Wh e)
  cases hz
  exact⟨F0,H0,F,Γ,x,E,hx,λv F1 H1 U r1=>⟨F0,H0,F1,Γ,y,E.grow U,hy,λu F2 H2 J r2=>Z F2 H2 x y v u _ _ J.fh (r1.ext J) r2 hd λw F' H' e3 r3=>⟨z,by simpa[Is]using r3,q F' H' ((U.trans J).trans e3)⟩⟩⟩
def xp(O:EE X a f)(U:∀j,Kb a X.env j=(do let v <-j;Kd a.pos;HE [v] (truthy v)):=by intro _;rfl):ET X a (xT f) :=
 UN (Yc O U) λσ H Q ⟨F0,H0,F,Γ,z,E,e,q⟩=>⟨F0,H0,F,Γ,_,E,Wh e,λv F1 H1 Y r1=>⟨z,by
  have J:Is X.K F1 (.bl z) v:=r1
  simpa[Is]using J,q F1 H1 Y⟩⟩
variable {tf tg:G->Option Bool} {rest:List Fu}
def iN(f g:G->Option Bool):G->Option Bool:=λΓ=>(f Γ).bind λx=>if x=true then g Γ else some false
def xOr(f g:G->Option Bool):G->Option Bool:=λΓ=>(f Γ).bind λx=>if x=true then some true else g Γ
def wX(f:G->Option Bool):G->Option Bool:=λΓ=>(f Γ).map (!·)
def bind_some{α j:Type}{o:Option α}{k:α->Option j}{z:j}(e:o.bind k=some z):∃x,o=some x/\k x=some z:=by
 cases o with
 | none=>cases e
 | some x=>exact⟨x,rfl,e⟩
def lX(j:ET X a tf):EW X (.BoolOp .And [a] pos) tf:=rH j
def uV(j:ET X a tf):EW X (.BoolOp .Or [a] pos) tf:=lJ j
def qR(O:ET X a tf)(U:EW X (.BoolOp .And (b::rest) pos) tg):EW X (.BoolOp .And (a::b::rest) pos) (iN tf tg) :=
 fH (tR O U) λσ H Q j=>by
  obtain⟨F0,H0,F,Γ,z,E,e,q⟩:=j
  obtain⟨x,Y,e⟩:=bind_some e
  refine⟨F0,H0,F,Γ,x,E,Y,λF1 H1 J=>?_⟩
  cases x with
  | true=>exact⟨F0,H0,F1,Γ,z,E.grow J,e,λF2 H2 Z=>q F2 H2 (J.trans Z)⟩
  | false=>cases e;exact q F1 H1 J
def ZZ(O:ET X a tf)(U:EW X (.BoolOp .Or (b::rest) pos) tg):EW X (.BoolOp .Or (a::b::rest) pos) (xOr tf tg) :=
 fH (qN O U) λσ H Q j=>by
  obtain⟨F0,H0,F,Γ,z,E,e,q⟩:=j
  obtain⟨x,Y,e⟩:=bind_some e
  refine⟨F0,H0,F,Γ,x,E,Y,λF1 H1 J=>?_⟩
  cases x with
  | true=>cases e;exact q F1 H1 J
  | false=>exact⟨F0,H0,F1,Γ,z,E.grow J,e,λF2 H2 Z=>q F2 H2 (J.trans Z)⟩
def t_w(h:EW X e tf):ET X e tf:=PW.pt h
def w5(O:ET X a tf):ET X (.UnaryOp .Not a pos) (wX tf) :=
 UN (tS O) λσ H Q j=>by
  obtain⟨F0,H0,F,Γ,z,E,e,q⟩:=j
  unfold wX at e
  cases J:tf Γ with
  | none=>rw[J]at e;cases e
  | some x=>rw[J]at e;cases e;exact⟨F0,H0,F,Γ,x,E,J,λF1 H1 U=>q F1 H1 U⟩
def YU(f g:G->Option B):G->Option B:=λΓ=>(xT f Γ).bind λx=>if x=true then g Γ else some (.d (.bl false))
def JJ(f:G->Option B):G->Option B:=λΓ=>(xT f Γ).map λx=>.d (.bl (!x))
def qS{K:Fs}{F H:Hp}{b:Bool}{v:V}(h:BIs K F H (.d (.bl b)) v):v=.bl b:=by
 have h':Is K F (.bl b) v:=h
 simpa[Is]using h'
def iO{K:Fs}{F H:Hp}{b:Bool}:BIs K F H (.d (.bl b)) (.bl b):=by
 show Is K F (.bl b) (.bl b)
 simp[Is]
def VF{j}(z:EE X a f):EE X (.BoolOp j [a] pos) f:=tT z
def VG(O:EE X a f)(U:EE X (.BoolOp .And (b::rest) pos) g):EE X (.BoolOp .And (a::b::rest) pos) (YU f g) :=
 yx (tU O U) λσ H Q j=>by
  obtain⟨F0,H0,F,Γ,z,E,e,q⟩:=j
  obtain⟨x,Y,e⟩:=bind_some e
  refine⟨F0,H0,F,Γ,_,E,Wh Y,λv F1 H1 J r1=>⟨x,qS r1,?_⟩⟩
  cases x with
  | true=>exact⟨F0,H0,F1,Γ,z,E.grow J,e,λv F2 H2 Z r2=>q v F2 H2 (J.trans Z) r2⟩
  | false=>cases e;exact q _ F1 H1 J iO
def BY(O:EE X a f):EE X (.UnaryOp .Not a pos) (JJ f) :=
 yx (tV O) λσ H Q j=>by
  obtain⟨F0,H0,F,Γ,z,E,e,q⟩:=j
  unfold JJ at e
  cases J:xT f Γ with
  | none=>rw[J]at e;cases e
  | some x=>
   rw[J]at e;cases e
   exact⟨F0,H0,F,Γ,_,E,Wh J,λv F1 H1 U r1=>⟨x,qS r1,q _ F1 H1 U iO⟩⟩
def xIf(t:G->Option Bool)(f g:G->Option B):G->Option B:=λΓ=>(t Γ).bind λx=>if x=true then f Γ else g Γ
def DI(U:ET X c tf)(Y:EE X a f)(Z:EE X b g):EE X (.IfExp c a b pos) (xIf tf f g) :=
 yx (J7 U Y Z) λσ H Q j=>by
  obtain⟨F0,H0,F,Γ,z,E,e,q⟩:=j
  obtain⟨x,hx,e⟩:=bind_some e
  refine⟨F0,H0,F,Γ,x,E,hx,λF1 H1 J=>?_⟩
  cases x with
  | true=>exact⟨F0,H0,F1,Γ,z,E.grow J,e,λv F2 H2 O r2=>q v F2 H2 (J.trans O) r2⟩
  | false=>exact⟨F0,H0,F1,Γ,z,E.grow J,e,λv F2 H2 O r2=>q v F2 H2 (J.trans O) r2⟩
def x3(m j:B->B->Option D)(f g h:G->Option B):G->Option B:=λΓ=>(f Γ).bind λx=>(g Γ).bind λy=>((m x y).bind λz=>B.tst (.d z)).bind λk=>
 if k=true then(h Γ).bind λw=>(j y w).map B.d else some (.d (.bl false))
def oa(e:B.tst (.d d)=some k):d=.bl k:=by
 unfold B.tst at e
 split at e
 ·rename_i q;cases q;cases e;rfl
 ·cases e
def BZ(hm:OpB X.K r m)(Y:OpB X.K r' m'):dE X.K (x3 m m' f g h) σ H Q->lN r r' (dE X.K f) (dE X.K g) (dE X.K h) σ H Q:=λj=>by
 obtain⟨F0,H0,F,Γ,z,E,e,q⟩:=j
 obtain⟨x,hx,e⟩:=bind_some e
 obtain⟨y,hy,e⟩:=bind_some e
 obtain⟨k,Z,e⟩:=bind_some e
 obtain⟨d,hd,Z⟩:=bind_some Z
 have aa:=oa Z
 subst aa
 refine⟨F0,H0,F,Γ,x,E,hx,λv F1 H1 O r1=>⟨F0,H0,F1,Γ,y,E.grow O,hy,λu F2 H2 J r2=>hm F2 H2 x y v u _ _ J.fh (r1.ext J) r2 hd λw F3 H3 U r3=>⟨k,by simpa[Is]using r3,?_⟩⟩⟩
 cases k with
 | false=>cases e;exact q _ F3 H3 ((O.trans J).trans U) iO
 | true=>
  obtain⟨w',hw,e⟩:=bind_some e
  cases hq:m' y w' with
  | none=>simp[hq]at e
  | some d'=>
   simp[hq]at e;subst e
   exact⟨F0,H0,F3,Γ,w',((E.grow O).grow J).grow U,hw,λv' F4 H4 e4 r4=>Y F4 H4 y w' u v' d' Q e4.fh ((r2.ext U).ext e4) r4 hq λw2 F5 H5 e5 r5=>q w2 F5 H5 ((((O.trans J).trans U).trans e4).trans e5) r5⟩
def fJ{op op':Kc}{r r':R2}{m m':B->B->Option D}(ho:OpR X (Gz op) r)(hm:OpB X.K r m)(ho':OpR X (Gz op') r')(hm':OpB X.K r' m')(ha:EE X a f)(hb:EE X b g)(hc:EE X c h) 
 (hk:lastMarks [op,op'] [b,c]=false:=by with_unfolding_all rfl):EE X (.Compare a [op,op'] [b,c] pos) (x3 m m' f g h):=yx (nT ho ho' ha hb hc hk) λσ H Q q=>BZ hm hm' q
variable {es:List Fu} {fs:G->Option (List B)}
noncomputable def zf:G->Option (List B):=λ_=>some []
noncomputable def za (f:G->Option B) (fs:G->Option (List B)):G->Option (List B):=λΓ=>(f Γ).bind λx=>(fs Γ).map λxs=>x::xs
def zh:EA X [] zf:=fI zu λσ H Q ⟨F0,H0,F,Γ,z,E,e,q⟩=>by cases e;exact q [] F H (.refl E.fh) .nil
def ze(Y:EE X e f)(Z:EA X es fs)(hs:FK (e::es) X.env=(false,FJ e X.env)::FK es X.env:=by rfl):EA X (e::es) (za f fs) :=
 fI (zi Y Z hs) λσ H Q j=>by
  obtain⟨F0,H0,F,Γ,z,E,e,q⟩:=j
  obtain⟨x,hx,e⟩:=bind_some e
  cases J:fs Γ with
  | none=>rw[J]at e;cases e
  | some xs=>
   rw[J]at e;cases e
   exact⟨F0,H0,F,Γ,x,E,hx,λv F1 H1 O r1=>⟨F0,H0,F1,Γ,xs,E.grow O,J,λvs F2 H2 U r2=>q (v::vs) F2 H2 (O.trans U) (.cons (r1.ext U) r2)⟩⟩
def Zm:List B->Option (List D)
 | []=>some []
 | b::r=>b.asD.bind λd=>(Zm r).map λds=>d::ds
def Zn{K:Fs}{F H:Hp}:∀{bs:List B} {vs:List V} {ds:List D},Zm bs=some ds->aD K F H bs vs->Are K F ds vs:=λ{bs}=>by
 induction bs with
 | nil=>intro vs ds e h;cases e;cases h;exact .nil
 | cons b r J=>
  intro vs ds e h
  cases h with
  | cons h q=>
   obtain⟨d,z,e⟩:=bind_some e
   cases j:Zm r with
   | none=>rw[j]at e;cases e
   | some ds=>
    rw[j]at e;cases e
    cases b with
    | d d'=>cases z;exact .cons h (J j q)
    | _=>cases z
def y7(fs:G->Option (List B)):G->Option B:=λΓ=>((fs Γ).bind Zm).bind λds=>if ds.length<=Fv then some (.d (.tup ds))else none
def yP{k}(h:EA X es fs):EE X (.Tuple es k pos) (y7 fs):=yx (lR h) λσ H Q j=>by
 obtain⟨F0,H0,F,Γ,z,E,e,q⟩:=j
 obtain⟨ds,J,e⟩:=bind_some e
 obtain⟨bs,Z,J⟩:=bind_some J
 by_cases O:ds.length<=Fv
 ·rw[if_pos O]at e;cases e
  refine⟨F0,H0,F,Γ,bs,E,Z,λvs F1 H1 U r1=>⟨by rw[(Zn J r1).length];exact O,λp Y=>q _ (upd F1 p (.tup vs)) _ (U.trans (.fix U.fh Y _)) ?_⟩⟩
  show Is _ _ (.tup ds) _
  simp only[Is]
  exact⟨p,vs,rfl,zj,(Zn J r1).mono (zz (U.fh.free Y) _)⟩
 ·rw[if_neg O]at e;cases e
def xL(f:G->Option (List D)):G->Option B:=λΓ=>(f Γ).map λds=>.d (.lst ds)
def xb(h:EL X e fl):EE X e (xL fl):=yx h λσ H Q j=>by
 obtain⟨F0,H0,F,Γ,z,E,e,q⟩:=j
 unfold xL at e
 cases J:fl Γ with
 | none=>rw[J]at e;cases e
 | some ds=>
  rw[J]at e;cases e
  refine⟨F0,H0,F,Γ,ds,E,J,λa vs F1 H1 U hn O Y r1=>q _ (upd F1 a (.lst vs)) H1 ?_ ?_⟩
  ·exact(Ext.freeze U hn O Y)
  ·show Is _ _ (.lst ds) _
   simp only[Is]
   exact⟨a,vs,rfl,zj,r1.mono (zz O _)⟩
def wv(fs:G->Option (List B)):G->Option (List D):=λΓ=>((fs Γ).bind Zm).bind λds=>if ds.length<=Fv then some ds else none
def xR(h:EA X es fs):EL X (.List es pos) (wv fs):=yx (vC h) λσ H Q j=>by
 obtain⟨F0,H0,F,Γ,z,E,e,q⟩:=j
 obtain⟨ds,J,e⟩:=bind_some e
 obtain⟨bs,Z,J⟩:=bind_some J
 by_cases U:ds.length<=Fv
 ·rw[if_pos U]at e;cases e
  refine⟨F0,H0,F,Γ,bs,E,Z,λvs F1 H1 O r1=>⟨by rw[(Zn J r1).length];exact U,λp Y=>q p vs F1 _ (O.trans (.own O.fh Y _)) (O.hh.free Y) (O.fh.free Y) zj (Zn J r1)⟩⟩
 ·rw[if_neg U]at e;cases e
end
section
variable {K:Fs} {F H F' H':Hp}
theorem WZ:∀(ns:List Int),Are K F (ns.map D.int) (ns.map V.int)
 | []=>.nil
 | n::r=>.cons (by simp[Is]) (WZ r)
noncomputable def B.seq:B->Option (List D)
 | .d (.tup ds)=>some ds
 | .d (.lst ds)=>some ds
 | .d (.scr ns)=>some (ns.map D.int)
 | .l ds=>some ds
 | .c ds=>some ds
 | _=>none
def aE(s:zm F H)(e:b.seq=some ds)(h:BIs K F H b v):∃a vs,v=.ref a/\(SqL K H a vs\/SqT K H a vs)/\Are K F ds vs:=by
 cases b with
 | d d=>
  have h':Is K F d v:=h
  cases d with
  | tup xs=>cases e;simp only[Is]at h';obtain⟨a,vs,j,z,r⟩:=h';exact⟨a,vs,j,.inr (SqT.of (s _ _ z)),r⟩
  | lst xs=>cases e;simp only[Is]at h';obtain⟨a,vs,j,z,r⟩:=h';exact⟨a,vs,j,.inl (SqL.of (s _ _ z)),r⟩
  | scr ns=>cases e;simp only[Is]at h';obtain⟨a,j,z⟩:=h';exact⟨a,_,j,.inl (s.seq z),WZ ns⟩
  | _=>cases e
 | l xs=>cases e;obtain⟨a,vs,j,z,r⟩:=h;exact⟨a,vs,j,.inl (SqL.of z),r⟩
 | c xs=>cases e;obtain⟨a,vs,j,z,r⟩:=h;exact⟨a,vs,j,.inr z,r⟩
 | _=>cases e
noncomputable def B.lst:B->Option (List D)
 | .d (.lst ds)=>some ds
 | .l ds=>some ds
 | _=>none
def uF(s:zm F H)(e:b.lst=some ds)(h:BIs K F H b v):∃a vs,v=.ref a/\H a=some (.lst vs)/\Are K F ds vs:=by
 cases b with
 | d d=>
  have h':Is K F d v:=h
  cases d with
  | lst xs=>cases e;simp only[Is]at h';obtain⟨a,vs,j,z,r⟩:=h';exact⟨a,vs,j,s _ _ z,r⟩
  | _=>cases e
 | l xs=>cases e;obtain⟨a,vs,j,z,r⟩:=h;exact⟨a,vs,j,z,r⟩
 | _=>cases e
noncomputable def B.int:B->Option Int
 | .d (.int i)=>some i
 | _=>none
def vD{b:B}{i:Int}{v:V}(e:b.int=some i)(h:BIs K F H b v):v=.int i:=by
 cases b with
 | d d=>
  have h':Is K F d v:=h
  cases d with
  | int j=>cases e;simpa[Is]using h'
  | _=>cases e
 | _=>cases e
def vd{i:Int}:Is K F (.int i) (.int i):=by simp[Is]
def vZ:Is K F (.bl i) (.bl i):=by simp[Is]
def Am{ds:List D}{vs:List V}{i:Int}{d:D}(r:Are K F ds vs)(e:atI ds i=some d):∃v,atI vs i=some v/\Is K F d v:=by
 unfold atI at e ⊢
 rw[r.length]
 obtain⟨j,z,e⟩:=bind_some e
 obtain⟨v,h1,h2⟩:=r.get e
 exact⟨v,by rw[z];exact h1,h2⟩
def mI(p:Int->Int->Bool)(g:Int->Int->D):B->B->Option D:=λx y=>x.int.bind λi=>y.int.bind λj=>if p i j then some (g i j)else none
def fK{p:Int->Int->Bool}{g:Int->Int->D}{x y:B}{d:D}(e:mI p g x y=some d):∃i j,x.int=some i/\y.int=some j/\p i j=true/\d=g i j:=by
 obtain⟨i,hi,e⟩:=bind_some e
 obtain⟨j,J,e⟩:=bind_some e
 by_cases z:p i j=true
 ·rw[if_pos z]at e;cases e;exact⟨i,j,hi,J,z,rfl⟩
 ·rw[if_neg z]at e;cases e
def XB{g:Int->Int->V}{z:Int->Int->D}(J:∀F i j,Is K F (z i j) (g i j)):OpB K (rI0 g) (mI (λ_ _=>true) z):=λF H x y v u d Q s O U e q=>by
 obtain⟨i,j,h1,h2,_,rfl⟩:=fK e
 exact⟨i,j,vD h1 O,vD h2 U,q _ F H (.refl s) (J F i j)⟩
def iP{C:Int->Int->Prop}{p:Int->Int->Bool}{g:Int->Int->V}{z:Int->Int->D}(J:∀i j,p i j=true->C i j)(O:∀F i j,Is K F (z i j) (g i j)):OpB K (rI C g) (mI p z):=λF H x y v u d Q s U Y e q=>by
 obtain⟨i,j,h1,h2,Z,rfl⟩:=fK e
 exact⟨i,j,vD h1 U,vD h2 Y,J i j Z,q _ F H (.refl s) (O F i j)⟩
def VH:=mI (λ_ _=>true) λi j=>.int (i+j)
def W0:=mI (λ_ _=>true) λi j=>.int (i-j)
def xS(i:Int):Bool:=decide (-(2^64)<i) && decide (i<2^64)
def Z0:=mI (λi j=>xS i|| xS j) λi j=>.int (i*j)
def Z1:=mI (λ_ j=>decide (0<j)) λi j=>.int (i%j)
def aF:=mI (λ_ j=>decide (0<j) && decide (j<1073741824)) λi j=>.int (i/j)
def mLt:=mI (λ_ _=>true) λi j=>.bl (decide (i<j))
def mLe:=mI (λ_ _=>true) λi j=>.bl (decide (i<=j))
def mGt:=mI (λ_ _=>true) λi j=>.bl (decide (j<i))
def rQ:OpB K (rI0 λi j=>.int (i+j)) VH:=XB λF i j=>vd
def XC:OpB K (rI0 λi j=>.int (i-j)) W0:=XB λF i j=>vd
def Zo:OpB K (rI J8 λi j=>.int (i*j)) Z0:=iP (λi j h=>by
 simp only[MM,xS,G0,decide_eq_true_eq]at h
 exact h) λF i j=>vd
def Zp:OpB K (rI (λ_ j=>0<j) λi j=>.int (i%j)) Z1:=iP (λi j h=>of_decide_eq_true h) λF i j=>vd
def lY:OpB K (rI nS λi j=>.int (i/j)) aF:=iP (λi j h=>by
 simp only[G0,decide_eq_true_eq]at h
 exact h) λF i j=>vd
def VI:OpB K (rI0 λi j=>.bl (decide (i<j))) mLt:=XB λF i j=>vZ
def JK:OpB K (rI0 λi j=>.bl (decide (i<=j))) mLe:=XB λF i j=>vZ
def B0:OpB K (rI0 λi j=>.bl (decide (j<i))) mGt:=XB λF i j=>vZ
def mOr(m n:B->B->Option D):B->B->Option D:=λx y=>(m x y).or (n x y)
def OpB.or(h:OpB K r m)(h':OpB K U n):OpB K (λx y H Q=>r x y H Q\/U x y H Q) (mOr m n):=λF H x y v u d Q s J O e q=>by
 unfold mOr at e
 cases j:m x y with
 | some z=>rw[j]at e;cases e;exact .inl (h F H x y v u _ Q s J O j q)
 | none=>rw[j]at e;exact .inr (h' F H x y v u _ Q s J O (by simpa using e) q)
def Wi:B->B->Option D
 | .d (.tup a),.d (.tup b)=>if a.length+b.length<=Fv then some (.tup (a++b))else none
 | _,_=>none
def VJ:B->B->Option D:=λx y=>x.lst.bind λa=>y.lst.bind λb=>if a.length+b.length<=Fv then some (.lst (a++b))else none
def rR:OpB K iH VJ:=λF H x y v u d Q s O U e q=>by
 obtain⟨a,Y,e⟩:=bind_some e
 obtain⟨b,Z,e⟩:=bind_some e
 obtain⟨p,vs,rfl,hp,r1⟩:=uF s Y O
 obtain⟨p2,us,rfl,j,r2⟩:=uF s Z U
 by_cases z:a.length+b.length<=Fv
 ·rw[if_pos z]at e;cases e
  refine⟨p,p2,vs,us,rfl,rfl,hp,j,by rw[r1.length,r2.length];exact z,λl J=>q _ (upd F l (.lst (vs++us))) _ (.fix s J _) ?_⟩
  simp only[Is]
  exact⟨l,_,rfl,zj,(r1.append r2).mono (zz (s.free J) _)⟩
 ·rw[if_neg z]at e;cases e
def mIx:B->B->Option D:=λx y=>x.seq.bind λds=>y.int.bind λi=>atI ds i
def qT:OpB K (λx y H Q=>Af K x y H Q\/Ag K x y H Q) mIx:=λF H x y v u d Q s O U e q=>by
 obtain⟨ds,Y,e⟩:=bind_some e
 obtain⟨i,hi,e⟩:=bind_some e
 obtain⟨a,vs,rfl,j,r⟩:=aE s Y O
 obtain⟨w,z,J⟩:=Am r e
 have Z:=vD hi U
 subst Z
 rcases j with j|j
 ·exact .inl ⟨a,vs,i,w,rfl,rfl,j,z,q w F H (.refl s) J⟩
 ·exact .inr ⟨a,vs,i,w,rfl,rfl,j,z,q w F H (.refl s) J⟩
end
section
variable {X:Cx} {a b c e:Fu} {f g h:G->Option B} {pos:FG} {es:List Fu} {fs:G->Option (List B)}
def zH(U:EE X a f)(Y:EE X b g)(Z:UM b):EE X (.Subscript a b pos) (x2 mIx f g) :=
 yx (xo (xQ.or wR) U Y Z) λσ H Q j=>by
  obtain⟨F0,H0,F,Γ,z,E,e,q⟩:=j
  obtain⟨x,y,d,hx,hy,hd,rfl⟩:=ug e
  exact⟨F0,H0,F,Γ,x,E,hx,λv F1 H1 O r1=>⟨F0,H0,F1,Γ,y,E.grow O,hy,λu F2 H2 J r2=>qT F2 H2 x y v u d Q J.fh (r1.ext J) r2 hd λw F' H' e3 r3=>q w F' H' ((O.trans J).trans e3) r3⟩⟩
def ZL(K:Fs)(r:List V->Hp->VK->Prop)(m:List B->Option D):Prop:=∀F H bs vs d Q,zm F H->aD K F H bs vs->m bs=some d->(∀w F' H',Ext F H F' H'->Is K F' d w->Q w H')->r vs H Q
def zN(m:List B->Option D)(fs:G->Option (List B)):G->Option B:=λΓ=>(fs Γ).bind λbs=>(m bs).map B.d
def map_some{α j:Type}{o:Option α}{k:α->j}{z:j}(e:o.map k=some z):∃x,o=some x/\z=k x:=by
 cases o with
 | none=>cases e
 | some x=>cases e;exact⟨x,rfl,rfl⟩
def W1{r:List V->Hp->VK->Prop}(O:ZL X.K r m):dE X.K (zN m fs) σ H Q->tCB r (dA X.K fs) σ H Q:=λj=>by
 obtain⟨F0,H0,F,Γ,z,E,e,q⟩:=j
 obtain⟨bs,U,e⟩:=bind_some e
 obtain⟨d,Y,rfl⟩:=map_some e
 exact⟨F0,H0,F,Γ,bs,E,U,λvs F1 H1 J r1=>O F1 H1 bs vs d Q J.fh r1 Y λw F' H' Z r2=>q w F' H' (J.trans Z) r2⟩
def zL{id:String}{x:Fp}{p:FG}{r:List V->Hp->VK->Prop}{m:List B->Option D}(O:vI X (.builtin id) r)(j:ZL X.K r m)(U:Gl X x)(Y:X.mg x=none)(Z:HZ x=some (.builtin id))(ha:EA X (e::es) fs) 
 (hn:x≠"__name__":=by decide) (z:(x==("__debug__":Fp))=false:=by decide) (he:FK (e::es) X.env=(false,FJ e X.env)::FK es X.env:=by rfl) (J:(GJ pos (FK es X.env)).any (·.1)=false:=by rfl) :
 EE X (.Call (.Name x p) (e::es) [] pos) (zN m fs):=yx (xi O U Y Z ha hn z he J) λσ H Q q=>W1 j q
def vL{T:String}{x:Fp}{p:FG}{r:List V->Hp->VK->Prop}{m:List B->Option D}(O:vI X (.type T) r)(j:ZL X.K r m)(U:Gl X x)(Y:X.mg x=none)(Z:HZ x=some (.type T))(ha:EA X (e::es) fs) 
 (hn:x≠"__name__":=by decide) (z:(x==("__debug__":Fp))=false:=by decide) (he:FK (e::es) X.env=(false,FJ e X.env)::FK es X.env:=by rfl) (J:(GJ pos (FK es X.env)).any (·.1)=false:=by rfl) :
 EE X (.Call (.Name x p) (e::es) [] pos) (zN m fs):=yx (ZK O U Y Z ha hn z he J) λσ H Q q=>W1 j q
def uB{K:Fs}{F H:Hp}{b:B}{vs:List V}(h:aD K F H [b] vs):∃v,vs=[v]/\BIs K F H b v:=by
 cases h with
 | cons p q=>cases q;exact⟨_,rfl,p⟩
def wh:List B->Option D
 | [b]=>b.seq.map λds=>.int ds.length
 | _=>none
def y0{K:Fs}:ZL K (λxs H Q=>∃p ys,xs=[.ref p]/\(SqL K H p ys\/SqT K H p ys)/\Q (.int ys.length) H) wh:=λF H bs vs d Q s h e q=>by
 match bs,e,h with
 | [b],e,h=>
  obtain⟨v,rfl,j⟩:=uB h
  obtain⟨ds,z,rfl⟩:=map_some e
  obtain⟨a,ys,rfl,J,r⟩:=aE s z j
  refine⟨a,ys,rfl,J,q _ F H (.refl s) ?_⟩
  rw[r.length];exact vd
def Zq:List B->Option D:=λbs=>match bs with
 | [.d (.tup ds)]=>some (.tup ds)
 | [.d (.lst ds)]=>some (.tup ds)
 | [.l ds]=>some (.tup ds)
 | _=>none
def vM{K: Fs}: ZL K (λxs H Q=> ∃ p ys, xs= [.ref p]/\((SqL K H p ys/\ ∀ l, H l=none->Q (.ref l) (upd H l (.tup ys)))\/(SqT K H p ys/\Q (.ref p) H))) Zq :=λF H bs vs d Q s h e q=>by
  have lst: ∀ {a: Fo} {ys: List V} {ds: List D}, H a=some (.lst ys)->Are K F ds ys->(∀ w F' H', Ext F H F' H'->Is K F' (.tup ds) w->Q w H')-> ∀ l, H l=none->Q (.ref l) (upd H l (.tup ys)) :=λ{a ys ds} Y r q l U=>q _ (upd F l (.tup ys)) _ (.fix s U _) (by
    simp only[Is]
    exact⟨l, ys, rfl, zj, r.mono (zz (s.free U) _)⟩)
  have key: ∃ b, bs= [b] :=by
    rcases bs with _| ⟨b, _| ⟨_, _⟩⟩
    · cases e
    · exact⟨b, rfl⟩
    · cases b <;>(try (rename_i w; cases w)) <;>cases e
  obtain⟨b, rfl⟩ :=key
  cases b with
  | d w=>
   cases w with
   | tup ds=>
    cases e
    obtain⟨v, rfl, J⟩ :=uB h
    have j: Is K F (.tup ds) v :=J
    have O :=j
    simp only[Is]at j
    obtain⟨a, ys, rfl, z, r⟩ :=j
    exact⟨a, ys, rfl,.inr ⟨SqT.of (s _ _ z), q _ F H (.refl s) O⟩⟩
   | lst ds=>
    cases e
    obtain⟨v, rfl, J⟩ :=uB h
    obtain⟨a, ys, rfl, z, r⟩ :=uF (b := .d (.lst ds)) s rfl J
    exact⟨a, ys, rfl,.inl ⟨SqL.of z, lst z r q⟩⟩
   | _=>cases e
  | l ds=>
    cases e
    obtain⟨v, rfl, J⟩ :=uB h
    obtain⟨a, ys, rfl, z, r⟩ :=uF (b := .l ds) s rfl J
    exact⟨a, ys, rfl,.inl ⟨SqL.of z, lst z r q⟩⟩
  | _=>cases e
def spD(K:Fs)(m:List D->Option D):Sp:=λvs H Q _=>∃F ds d,zm F H/\Are K F ds vs/\m ds=some d/\∀v F' H',Ext F H F' H'->Is K F' d v->Q v H'
def xFn(m:List D->Option D)(fs:G->Option (List B)):G->Option B:=λΓ=>((fs Γ).bind Zm).bind λds=>(m ds).map B.d
def An{k:Nat}{x:Fp}{p:FG}{m:List D->Option D}{fa:Fo}{fd:Ga}{ps:List Fp}(Fn:FnOk X.prog X.w X.K X.mg X.base CX0 k fa fd ps (spD X.K m))(hr:Room k X.A)(hg:Gl X x)(hm:X.mg x=some (.ref fa))(hk:Ig X.K (.ref fa)=true)(hb:yD X.K fd ps []) 
  (ha:EA X (e::es) fs) (J:(x==("__debug__":Fp))=false:=by decide) (he:FK (e::es) X.env=(false,FJ e X.env)::FK es X.env:=by rfl) (O:(GJ pos (FK es X.env)).any (·.1)=false:=by rfl) :
  EE X (.Call (.Name x p) (e::es) [] pos) (xFn m fs) :=
 yx (xj (E:=E0) (dvs:=[]) (ds:=[]) Fn hr hg hm hk hb .nil yO ha J he O) λσ H Q j=>by
  obtain⟨F0,H0,F,Γ,z,E,e,q⟩:=j
  obtain⟨ds,U,e⟩:=bind_some e
  obtain⟨bs,Y,U⟩:=bind_some U
  obtain⟨d,Z,rfl⟩:=map_some e
  refine⟨F0,H0,F,Γ,bs,E,Y,λvs F1 H1 e1 r1=>?_⟩
  have r2:=Zn U r1
  exact⟨F1,ds,d,e1.fh,by rw[Iw];exact r2,Z,λv F' H' e2 r3=>q v F' H' (e1.trans e2) r3⟩
end
section
variable {X:Cx} {a b c e:Fu} {f g h:G->Option B} {pos:FG} {es:List Fu} {fs:G->Option (List B)} {tf:G->Option Bool}
noncomputable def yj:G->Option Out:=λΓ=>some (.nx Γ)
noncomputable def zt (f g:G->Option Out):G->Option Out:=λΓ=>(f Γ).bind λo=>match o with
 | .nx j=>g j
 | o=>some o
def yd:SDs X [] yj:=WY u8 λE σ H ⟨F0,H0,F,Γ,o,j,e,q⟩=>by cases e;exact q σ F H j (zm.refl _)
def zg{st:FC}{rest:List FC}{f g:G->Option Out}(h1:SD X st f)(h2:SDs X rest g):SDs X (st::rest) (zt f g) :=
 WY (zw h1 h2) λE σ H j=>by
  obtain⟨F0,H0,F,Γ,o,J,e,q⟩:=j
  obtain⟨O,h1,e⟩:=bind_some e
  cases O with
  | nx g1=>exact⟨F0,H0,F,Γ,_,J,h1,λU F1 H1 Y z=>⟨F0,H0,F1,g1,o,Y,e,q.mono z⟩⟩
  | rt d=>cases e;exact⟨F0,H0,F,Γ,_,J,h1,q⟩
  | bk g1=>cases e;exact⟨F0,H0,F,Γ,_,J,h1,q⟩
  | ct g1=>cases e;exact⟨F0,H0,F,Γ,_,J,h1,q⟩
def zo{st:FC}{f:G->Option Out}(h1:SD X st f):SDs X [st] f:=zR h1
noncomputable def zO (f:G->Option B):G->Option Out:=λΓ=>(f Γ).bind λb=>b.asD.map Out.rt
def xI{b:B}{d:D}(e:b.asD=some d):b=.d d:=by
 cases b with
 | d x=>cases e;rfl
 | _=>cases e
def zD(J:EE X e f):SD X (.Return (some e) pos) (zO f):=yV (wu J) λE σ H j=>by
 obtain⟨F0,H0,F,Γ,o,z,e,q⟩:=j
 obtain⟨b,O,e⟩:=bind_some e
 obtain⟨d,U,rfl⟩:=map_some e
 have:=xI U;subst this
 exact⟨F0,H0,F,Γ,_,z,O,λv F1 H1 Y r1=>q v F1 H1 (z.ext.trans Y) r1⟩
noncomputable def sIf (t:G->Option Bool) (f g:G->Option Out):G->Option Out:=λΓ=>(t Γ).bind λx=>if x=true then f Γ else g Γ
def yS{p q:List FC}{f g:G->Option Out}(O:ET X c tf)(U:SDs X p f)(Y:SDs X q g):SD X (.If c p q pos) (sIf tf f g):=yV (YN O U Y) λE σ H j=>by
 obtain⟨F0,H0,F,Γ,o,J,e,q⟩:=j
 obtain⟨x,Z,e⟩:=bind_some e
 refine⟨F0,H0,F,Γ,x,J,Z,λF1 H1 z=>?_⟩
 cases x with
 | true=>exact⟨F0,H0,F1,Γ,o,J.grow z,e,q.mono z.ff⟩
 | false=>exact⟨F0,H0,F1,Γ,o,J.grow z,e,q.mono z.ff⟩
def sNo:G->Option Out:=λ_=>none
def og{st:FC}:SD X st sNo:=λ_ _ _ _ _ _ ⟨_,_,_,_,_,_,e,_⟩=>by cases e
def YV(f:G->Option B):G->Option Out:=λΓ=>(f Γ).map λ_=>.nx Γ
def aG(he:EE X e f)(hs:GP e none pos.line X.env=pure false:=by rfl):SD X (.Expr e pos) (YV f):=yV (yL he hs) λE σ H hh39'=>by
 obtain⟨F0,H0,F,Γ,o,En,e,q⟩:=hh39'
 obtain⟨b,hb,rfl⟩:=map_some e
 exact⟨F0,H0,F,Γ,b,En,hb,λv F1 H1 e1 r1=>q σ F1 H1 (En.grow e1) e1.ff⟩
noncomputable def yf (i:Nat) (f:G->Option B):G->Option Out:=λΓ=>(f Γ).bind λb=>b.asD.map λd=>.nx (Γ.set i (.v d))
def fL{i:Nat}{E:Ends}{σ:St}{H:Hp}:dS X.K (yf i f) E σ H->UJ (dE X.K f) (vl i) E σ H:=λj=>by
 obtain⟨F0,H0,F,Γ,o,z,e,q⟩:=j
 obtain⟨b,O,e⟩:=bind_some e
 obtain⟨d,U,rfl⟩:=map_some e
 have:=xI U;subst this
 exact⟨F0,H0,F,Γ,_,z,O,λv F1 H1 J r1=>q _ F1 H1 ((z.grow J).put r1) J.ff⟩
def yq{i:Nat}{x:Fp}{p:FG}(hN:X.N.Nodup)(hi:X.N[i]?=some x)(hx:Loc X.env.scope x)(he:EE X e f)(hs:GP e (some (.Name x p)) pos.line X.env=pure false:=by rfl)(hf:X.fn x=true\/X.env.scope.names.lookup x=some .local:=by first|exact .inl rfl|exact .inr rfl|assumption):
 SD X (.Assign [.Name x p] e pos) (yf i f):=yV (yZ hN hi hx he hs hf) λE σ H q=>fL q
def vu(i:Nat)(f:G->Option (List D)):G->Option Out:=λΓ=>(f Γ).map λds=>.nx (Γ.set i (.ol ds))
def fM:dS X.K (vu i fl) E σ H->UJ (dL X.K fl) (vl i) E σ H:=λJ=>by
 obtain⟨F0,H0,F,Γ,o,U,e,q⟩:=J
 obtain⟨ds,hb,rfl⟩:=map_some e
 refine⟨F0,H0,F,Γ,_,U,hb,λa vs F1 H1 Y hn hf hh r1=>q _ F1 H1 ((U.grow Y).putOwn ⟨a,vs,rfl,hh,r1,hf,U.ext.hh.free hn⟩ λj s hj hs Z z=>?_) Y.ff⟩
 obtain⟨o,h1,h2⟩:=U.val j s hs
 rw[z]at h1;cases h1
 cases s with
 | un=>cases Z
 | v d=>cases Z
 | ol ds=>obtain⟨a',vs,O,q1,_⟩:=h2;cases O;rw[hn]at q1;cases q1
 | ot kvs=>obtain⟨a',vs,O,q1,_⟩:=h2;cases O;rw[hn]at q1;cases q1
 | ok kvs=>obtain⟨a',vs,O,q1,_⟩:=h2;cases O;rw[hn]at q1;cases q1
def uC{i:Nat}{x:Fp}{p:FG}{fl:G->Option (List D)}(hN:X.N.Nodup)(hi:X.N[i]?=some x)(hx:Loc X.env.scope x)(he:EL X e fl)(hs:GP e (some (.Name x p)) pos.line X.env=pure false:=by rfl)(hf:X.fn x=true\/X.env.scope.names.lookup x=some .local:=by first|exact .inl rfl|exact .inr rfl|assumption):
 SD X (.Assign [.Name x p] e pos) (vu i fl):=yV (yZ hN hi hx he hs hf) λE σ H q=>fM q
def lZ(J:List Nat)(σ z:St):Prop:=σ.length=z.length/\∀j,j∉J->z[j]?=σ[j]?
def dGs(K:Fs)(z:List Nat)(f:D->G->Option G):TG:=λv σ H Q=>∃F0 H0 F Γ d g,EnvIs K F0 H0 F H σ Γ/\Is K F d v/\f d Γ=some g/\∀j,EnvIs K F0 H0 F H j g->lZ z σ j->Q j H
def GN(X:Cx)(e:Fu)(j:List Nat)(f:D->G->Option G):Prop:=PG X e (dGs X.K j f)
def zr(i:Nat):D->G->Option G:=λd Γ=>some (Γ.set i (.v d))
def zK(O:X.N.Nodup)(hi:X.N[i]?=some x)(U:Loc X.env.scope x)(Y:X.fn x=true\/X.env.scope.names.lookup x=some .local:=by first|exact .inl rfl|exact .inr rfl|assumption):GN X (.Name x pos) [i] (zr i) :=
 UO (xH O hi U Y) λv σ H Q J=>by
  obtain⟨F0,H0,F,Γ,d,g,Z,r,e,q⟩:=J
  cases e
  exact q _ (Z.put r) ⟨by simp,λj hj=>GZ (λz=>hj (by simp[z]))⟩
def dGl(K:Fs)(z:List Nat)(f:List D->G->Option G):TGs:=λvs σ H Q=>∃F0 H0 F Γ ds g,EnvIs K F0 H0 F H σ Γ/\Are K F ds vs/\f ds Γ=some g/\∀j,EnvIs K F0 H0 F H j g->lZ z σ j->Q j H
def GL(X:Cx)(es:List Fu)(j:List Nat)(f:List D->G->Option G):Prop:=PGs X es (dGl X.K j f)
def yK:List D->G->Option G:=λds Γ=>match ds with
 | []=>some Γ
 | _=>none
def zA(f:D->G->Option G)(g:List D->G->Option G):List D->G->Option G:=λds Γ=>match ds with
 | d::r=>(f d Γ).bind λj=>g r j
 | []=>none
def vE:GL X [] [] yK:=λpins s σ H vs us Q I r ⟨F0,H0,F,Γ,ds,g,j,z,e,q⟩=>Yd pins s σ H vs us Q I r (by
 cases ds with
 | nil=>cases e;exact⟨z.inv0,q _ j ⟨rfl,λ_ _=>rfl⟩⟩
 | cons d r=>cases e)
def yM(h1:GN X e is t)(h2:GL X es js u)(hs:(GQ (e::es) X.env).map (·.2)=Ht e X.env::(GQ es X.env).map (·.2):=by rfl):GL X (e::es) (is++js) (zA t u) :=
 λpins s σ H vs us Q I r ⟨F0,H0,F,Γ,ds,g,En,ra,e,q⟩=>wN h1 h2 hs pins s σ H vs us Q I r (by
  cases ds with
  | nil=>cases e
  | cons d rd=>
   obtain⟨g1,J,e⟩:=bind_some e
   obtain⟨v,rv,rfl,r1,r2⟩:=ra.inv
   refine⟨v,rv,rfl,F0,H0,F,Γ,d,g1,En,r1,J,λσ1 E1 U=>⟨F0,H0,F,g1,rd,g,E1,r2,e,λO E2 Y=>q O E2 ⟨U.1.trans Y.1,λj Z=>?_⟩⟩⟩
   rw[Y.2 j λz=>Z (GV _ z),U.2 j λz=>Z (He _ z)])
def yQ(n:Nat)(u:List D->G->Option G):D->G->Option G:=λd Γ=>match d with
 | .tup ds=>if ds.length=n then u ds Γ else none
 | _=>none
def uW(Z:X.calm=true)(h:GL X es is u)(hn:(GQ es X.env).length=n:=by rfl)(z:(GQ es X.env).findIdx? (·.1)=none:=by rfl):GN X (.Tuple es k pos) is (yQ n u) :=
 UO (Xu Z h hn z) λv σ H Q j=>by
  obtain⟨F0,H0,F,Γ,d,g,O,r,e,q⟩:=j
  cases d with
  | tup ds=>
   have U:=r
   simp only[Is]at U
   obtain⟨a,vs,rfl,hf,Y⟩:=U
   unfold yQ at e
   by_cases J:ds.length=n
   ·simp only[J,if_true]at e
    exact⟨a,vs,rfl,SqT.of (O.fh _ _ hf),by rw[Y.length];exact J,F0,H0,F,Γ,ds,g,O,Y,e,q⟩
   ·simp only[J,if_false]at e;cases e
  | _=>cases e
def iQ(t:D->G->Option G)(f:G->Option B):G->Option Out:=λΓ=>(f Γ).bind λb=>b.asD.bind λd=>(t d Γ).map .nx
def qU{tg:Fu}{is:List Nat}{t:D->G->Option G}(he:EE X e f)(hg:GN X tg is t)(hs:Md [tg] e pos.line X.env=pure false:=by rfl)(hw:Me [tg] e X.env=pure none:=by rfl) 
  (h1:(GQ [tg] X.env).map (·.2)=[Ht tg X.env]:=by rfl):SD X (.Assign [tg] e pos) (iQ t f):=yV (Xv he hg hs hw h1) λE σ H ⟨F0,H0,F,Γ,o,En,e,q⟩=>by
 obtain⟨b,hb,e⟩:=bind_some e
 obtain⟨d,hd,e⟩:=bind_some e
 obtain⟨g,hg,rfl⟩:=map_some e
 have:=xI hd;subst this
 exact⟨F0,H0,F,Γ,_,En,hb,λv F1 H1 e1 r1=>⟨F0,H0,F1,Γ,d,g,En.grow e1,r1,hg,λσ' E' _=>q σ' F1 H1 E' e1.ff⟩⟩
def YW(i:Nat)(Γ:G):G:=match Γ[i]? with
 | some (.ol ds)=>Γ.set i (.v (.lst ds))
 | some (.ok kvs)=>Γ.set i (.v (.dK (kvs.map Gq) (kvs.map HV)))
 | some (.ot kvs)=>Γ.set i (.v (.dT (kvs.map Gq) (kvs.map HV)))
 | _=>Γ
def EnvIs.frzA{K:Fs}{F0 H0 F H:Hp}{σ:St}{Γ:G}{i:Nat}{a:Fo}{O:HO}{s:S}{d:D}(E:EnvIs K F0 H0 F H σ Γ)(hi:Γ[i]?=some s)(own:s.own=true)(h1:σ[i]?=some (some (.ref a)))(h2:H a=some O)(h4:F a=none)(h5:H0 a=none)(hd:Is K (upd F a O) d (.ref a)):
  EnvIs K F0 H0 (upd F a O) H σ (Γ.set i (.v d)):=by
 have U:i<Γ.length:=(FO.mp hi).1
 have ex:Ext F0 H0 (upd F a O) H:=E.ext.freeze h5 h4 h2
 have sm:zm F (upd F a O):=zz h4 _
 refine⟨ex,by simpa using E.len,λj s' e=>?_,λj k s' t b aa e1 e2 o1 o2 r1 r2=>?_⟩
 ·by_cases hj:j=i
  ·subst hj
   rw[Hs U]at e
   cases e
   exact⟨_,h1,.ref a,rfl,hd⟩
  ·rw[GZ (FH hj)]at e
   obtain⟨o,q1,q2⟩:=E.val j s' e
   refine⟨o,q1,?_⟩
   have ne:∀b,s'.own=true->σ[j]?=some (some (.ref b))->b≠a:=λb so sb z=>by
    subst z
    exact E.sep j i s' _ b hj e hi so own sb h1
   cases s' with
   | un=>trivial
   | v d=>obtain⟨v,e1,q⟩:=q2;exact⟨v,e1,q.mono sm⟩
   | ol Y=>obtain⟨b,J,rfl,Z,p2,p3,p4⟩:=q2;exact⟨b,J,rfl,Z,p2.mono sm,by rw[zd (ne b rfl q1)];exact p3,p4⟩
   | ot Y=>obtain⟨b,J,rfl,Z,p2,p3,p4⟩:=q2;exact⟨b,J,rfl,Z,p2.mono sm,by rw[zd (ne b rfl q1)];exact p3,p4⟩
   | ok Y=>obtain⟨b,J,rfl,Z,p2,p3,p4⟩:=q2;exact⟨b,J,rfl,Z,p2.mono sm,by rw[zd (ne b rfl q1)];exact p3,p4⟩
 ·have no:∀(k:Nat) (t:S),(Γ.set i (.v d))[k]?=some t->t.own=true->Γ[k]?=some t:=λk t e o=>by
   by_cases z:k=i
   ·subst z
    rw[Hs U]at e
    cases e;cases o
   ·rw[GZ (FH z)]at e;exact e
  exact E.sep j k s' t b aa (no j s' e1 o1) (no k t e2 o2) o1 o2 r1 r2
def xZ.keys{κ:Type}{K:Fs}{F:Hp}:∀{ps:List (κ×D)} {j:List (κ×V)},xZ K F ps j->j.map Gq=ps.map Gq/\Are K F (ps.map HV) (j.map HV):=λh=>by
 induction h with
 | nil=>exact⟨rfl,.nil⟩
 | cons h r z=>
  obtain⟨a,b⟩:=h
  obtain⟨h1,h2⟩:=z
  exact⟨by rw[FY,FY,h1,a],.cons b h2⟩
def EnvIs.frz{K:Fs}{F0 H0 F H:Hp}{σ:St}{Γ:G}{i:Nat}(E:EnvIs K F0 H0 F H σ Γ):∃F',EnvIs K F0 H0 F' H σ (YW i Γ)/\zm F F':=by
 unfold YW
 split
 ·rename_i ds hi
  obtain⟨o,h1,a,vs,rfl,h2,z,j,J⟩:=E.val i _ hi
  exact⟨_,E.frzA hi rfl h1 h2 j J (by simp only[Is];exact⟨a,vs,rfl,zj,z.mono (zz j _)⟩),zz j _⟩
 ·rename_i ds hi
  obtain⟨o,h1,a,vs,rfl,h2,z,j,J⟩:=E.val i _ hi
  obtain⟨O,U⟩:=xZ.keys (z.mono (zz j (.dK vs)))
  exact⟨_,E.frzA hi rfl h1 h2 j J (by simp only[Is];exact⟨a,vs,rfl,zj,O,U⟩),zz j _⟩
 ·rename_i ds hi
  obtain⟨o,h1,a,vs,rfl,h2,z,j,J⟩:=E.val i _ hi
  obtain⟨O,U⟩:=xZ.keys (z.mono (zz j (.dT vs)))
  exact⟨_,E.frzA hi rfl h1 h2 j J (by simp only[Is];exact⟨a,vs,rfl,zj,O,U⟩),zz j _⟩
 ·exact⟨F,E,zm.refl _⟩
def Zr(i:Nat)(f:G->Option Out):G->Option Out:=λΓ=>f (YW i Γ)
def uG{i:Nat}{st:List FC}{f:G->Option Out}(h:SDs X st f):SDs X st (Zr i f):=WY h λE σ H j=>by
 obtain⟨F0,H0,F,Γ,o,O,e,q⟩:=j
 obtain⟨F',J,z⟩:=O.frz (i:=i)
 exact⟨F0,H0,F',_,o,J,e,q.mono z⟩
end
section
variable {X:Cx} {a b c e tg iter elt:Fu} {f g h:G->Option B} {pos:FG} {es:List Fu} {fs:G->Option (List B)} {tf:G->Option Bool}
def Ao(K:Fs)(J:It)(F:Hp)(ds:List D):Prop:=∀(i:Nat) F2 H2,zm F F2->zm F2 H2->
 (∀d,ds[i]?=some d->J.go i H2/\∀x H',J.yld i H2 x H'->∃j,Ext F2 H2 j H'/\Is K j d x)/\(ds.length<=i->J.stop i H2)
def B3(K:Fs)(J:It)(F H:Hp)(ds:List D):Prop:=∀(i:Nat) F2 H2,Ext F H F2 H2->
 (∀d,ds[i]?=some d->J.go i H2/\∀x H',J.yld i H2 x H'->∃j,Ext F2 H2 j H'/\Is K j d x)/\(ds.length<=i->J.stop i H2)
def dI(K:Fs)(f:G->Option (List D)):TI:=λσ H R=>∃F0 H0 F Γ ds,EnvIs K F0 H0 F H σ Γ/\f Γ=some ds/\∀J F' H',Ext F H F' H'->Ao K J F' ds->R J H'
def dIc(K:Fs)(f:G->Option (List D)):TI:=λσ H R=>∃F0 H0 F Γ ds,EnvIs K F0 H0 F H σ Γ/\f Γ=some ds/\∀J F' H',Ext F H F' H'->B3 K J F' H' ds->R J H'
def EI(X:Cx)(tg iter:Fu)(f:G->Option (List D)):Prop:=PI X tg iter (dI X.K f)
def EC(X:Cx)(tg iter:Fu)(f:G->Option (List D)):Prop:=PI X tg iter (dIc X.K f)
def Za(h:PI X tg iter t)(w:∀σ H R,t' σ H R->t σ H R):PI X tg iter t':=λpins s σ H R I q=>h pins s σ H R I (w σ H R q)
def wB(h:EI X tg iter fl):EC X tg iter fl:=Za h λσ H R ⟨F0,H0,F,Γ,ds,z,e,q⟩=>
 ⟨F0,H0,F,Γ,ds,z,e,λJ F1 H1 O U=>q J F1 H1 O λi F2 H2 j=>U i F2 H2 j.ff j.fh⟩
def l4{K:Fs}{F:Hp}{a:Fo}{vs:List V}{ds:List D}(h:∀H2,zm F H2->SqL K H2 a vs)(inj:True)(r:Are K F ds vs):∀(i:Nat) F2 H2,zm F F2->zm F2 H2->
  (∀d,ds[i]?=some d->(Itl K a).go i H2/\∀x H',(Itl K a).yld i H2 x H'->∃z,Ext F2 H2 z H'/\Is K z d x)/\(ds.length<=i->(Itl K a).stop i H2):=λi F2 H2 s1 s2=>by
 have j:=h H2 (s1.trans s2)
 refine⟨λd O=>?_,λU=>⟨vs,j,by rw[r.length];exact U⟩⟩
 obtain⟨v,J,hi⟩:=r.get O
 refine⟨⟨vs,v,j,J⟩,λx H' y=>?_⟩
 obtain⟨rfl,y⟩:=y
 have:=y vs j
 rw[J]at this;cases this
 exact⟨F2,.refl s2,hi.mono s1⟩
def Ap{K:Fs}{F:Hp}{a:Fo}{vs:List V}{ds:List D}(h:∀H2,zm F H2->SqT K H2 a vs)(r:Are K F ds vs):∀(i:Nat) F2 H2,zm F F2->zm F2 H2->
  (∀d,ds[i]?=some d->(Itt K a).go i H2/\∀x H',(Itt K a).yld i H2 x H'->∃z,Ext F2 H2 z H'/\Is K z d x)/\(ds.length<=i->(Itt K a).stop i H2):=λi F2 H2 s1 s2=>by
 have j:=h H2 (s1.trans s2)
 refine⟨λd O=>?_,λU=>⟨vs,j,by rw[r.length];exact U⟩⟩
 obtain⟨v,J,hi⟩:=r.get O
 refine⟨⟨vs,v,j,J⟩,λx H' y=>?_⟩
 obtain⟨rfl,y⟩:=y
 have:=y vs j
 rw[J]at this;cases this
 exact⟨F2,.refl s2,hi.mono s1⟩
noncomputable def B.fix:B->Option (List D)
 | .d (.tup ds)=>some ds
 | .d (.lst ds)=>some ds
 | .d (.scr ns)=>some (ns.map D.int)
 | _=>none
def wx(f:G->Option B):G->Option (List D):=λΓ=>(f Γ).bind B.fix
def wE(U:EE X iter f):EI X tg iter (wx f):=Za (Al U) λσ H R z=>by
 obtain⟨F0,H0,F,Γ,ds,Y,e,q⟩:=z
 obtain⟨b,Z,e⟩:=bind_some e
 refine⟨F0,H0,F,Γ,b,Y,Z,λv F1 H1 J r1=>?_⟩
 cases b with
 | d d=>
  have O:Is X.K F1 d v:=r1
  cases d with
  | tup xs=>
   cases e
   simp only[Is]at O
   obtain⟨a,vs,rfl,j,r⟩:=O
   exact⟨a,rfl,.inr ⟨⟨vs,SqT.of (J.fh _ _ j)⟩,q _ F1 H1 J (Ap (λH2 s=>SqT.of (s _ _ j)) r)⟩⟩
  | lst xs=>
   cases e
   simp only[Is]at O
   obtain⟨a,vs,rfl,j,r⟩:=O
   exact⟨a,rfl,.inl ⟨⟨vs,SqL.of (J.fh _ _ j)⟩,q _ F1 H1 J (l4 (λH2 s=>SqL.of (s _ _ j)) trivial r)⟩⟩
  | scr ns=>
   cases e
   simp only[Is]at O
   obtain⟨a,rfl,j⟩:=O
   exact⟨a,rfl,.inl ⟨⟨_,J.fh.seq j⟩,q _ F1 H1 J (l4 (λH2 s=>s.seq j) trivial (WZ ns))⟩⟩
  | _=>cases e
 | _=>cases e
def xk(lo:Int)(n:Nat):List D:=(Fy n).map λ(k:Nat)=>D.int (lo+(k:Int))
def Aq{K:Fs}{F:Hp}(lo:Int)(n:Nat):Ao K (Itr lo n) F (xk lo n):=λi F2 H2 s1 s2=>by
 refine⟨λd J=>?_,λO=>by
  have j:=O
  simp only[xk,FF,GS]at j
  exact j⟩
 have z:i<n:=by
  have:=(FO.mp J).1
  simpa[xk]using this
 refine⟨z,λx H' y=>?_⟩
 obtain⟨rfl,rfl⟩:=y
 refine⟨F2,.refl s2,?_⟩
 have:d=.int (lo+i):=by
  simp[xk,FP,Hv z]at J
  exact J.symm
 subst this
 exact vd
def xR1(fs:G->Option (List B)):G->Option (List D):=λΓ=>(fs Γ).bind λbs=>match bs with
 | [b]=>b.int.bind λj=>if-(2^62)<=j/\j<2^62 then some (xk 0 j.toNat)else none
 | _=>none
def ve(O:Gl X "range")(U:X.mg "range"=none)(Y:EA X [a] fs)(Z:FK [a] X.env=[(false,FJ a X.env)]:=by rfl):EI X tg (.Call (.Name "range" p) [a] [] pos) (xR1 fs) :=
 Za (QG O U Y Z) λσ H R z=>by
  obtain⟨F0,H0,F,Γ,ds,En,e,q⟩:=z
  obtain⟨bs,hb,e⟩:=bind_some e
  refine⟨F0,H0,F,Γ,bs,En,hb,λvs F1 H1 e1 r1=>?_⟩
  match bs,e,r1 with
  | [b],e,r1=>
   obtain⟨v,rfl,hv⟩:=uB r1
   obtain⟨j,hj,e⟩:=bind_some e
   have:=vD hj hv
   subst this
   by_cases J:-(2^62)<=j/\j<2^62
   ·rw[if_pos J]at e;cases e
    exact⟨j,rfl,J.1,J.2,q _ F1 H1 e1 (Aq 0 _)⟩
   ·rw[if_neg J]at e;cases e
def x0(t:D->G->Option G)(fb:G->Option Out):List D->G->Option Out
 | [],Γ=>some (.nx Γ)
 | d::r,Γ=>(t d Γ).bind λz=>(fb z).bind λo=>match o with
  | .nx j=>x0 t fb r j
  | .ct j=>x0 t fb r j
  | .bk j=>some (.nx j)
  | .rt d=>some (.rt d)
noncomputable def uh (j:G->Option (List D)) (t:D->G->Option G) (fb:G->Option Out):G->Option Out:=λΓ=>(j Γ).bind λds=>x0 t fb ds Γ
def v0{is:List Nat}{it:G->Option (List D)}{t:D->G->Option G}{fb:G->Option Out}{body:List FC}(hp:Lc (Fx X.prog X.w) X.A X.env X.xe)(hc:X.calm=true)(hi:EI X tg iter it)(hg:GN X tg is t)(hb:SDs X body fb) 
  (hs:∀x,Ir iter X.env x=pure x:=by intro _;rfl):SD X (.For tg iter body [] pos) (uh it t fb):=yV (uD hp hc hi hg hb hs) λE σ H ⟨F0,H0,F,Γ,o,En,e,q⟩=>by
 obtain⟨ds,hd,e⟩:=bind_some e
 refine⟨F0,H0,F,Γ,ds,En,hd,λJ F1 H1 e1 itr=>?_⟩
 refine⟨λi m σ H=>m=ds.length-i/\i<=ds.length/\∃F2 Γ2,EnvIs X.K F0 H0 F2 H σ Γ2/\zm F1 F2/\x0 t fb (ds.drop i) Γ2=some o,⟨ds.length,by simp,GI _,F1,Γ,En.grow e1,zm.refl _,by simpa using e⟩,?_⟩
 rintro i m σ2 H2 ⟨rfl,hi,F2,Γ2,E2,s2,e2⟩
 obtain⟨go,stop⟩:=itr i F2 H2 s2 E2.fh
 by_cases hlt:i<ds.length
 ·obtain⟨g1,g2⟩:=go ds[i] (by simp[hlt])
  rw[KS hlt]at e2
  obtain⟨Γ3,h3,e2⟩:=bind_some e2
  obtain⟨o1,h4,e2⟩:=bind_some e2
  refine .inr ⟨g1,λσ' H'=>∃F3 Γ3,EnvIs X.K F0 H0 F3 H' σ' Γ3/\zm F1 F3/\x0 t fb (ds.drop (i+1)) Γ3=some o,λσ' H' hh47'=>(by obtain⟨F3,Γ3,p1,p2,p3⟩:=hh47';exact⟨ds.length-(i+1),by omega,rfl,hlt,F3,Γ3,p1,p2,p3⟩),λx H' y=>?_⟩
  obtain⟨F3,ex,hx⟩:=g2 x H' y
  refine⟨F0,H0,F3,Γ2,ds[i],Γ3,E2.grow ex,hx,h3,λσ3 E3 _=>⟨F0,H0,F3,Γ3,o1,E3,h4,?_⟩⟩
  have s3:=s2.trans ex.ff
  cases o1 with
  | nx g=>exact λσ4 F4 H4 E4 z=>⟨F4,g,E4,s3.trans z,e2⟩
  | ct g=>exact λσ4 F4 H4 E4 z=>⟨F4,g,E4,s3.trans z,e2⟩
  | bk g=>cases e2;exact λσ4 F4 H4 E4 z=>q σ4 F4 H4 E4 ((e1.ff.trans s3).trans z)
  | rt d=>cases e2;exact q
 ·have:i=ds.length:=by omega
  subst this
  rw[MR]at e2
  cases e2
  exact .inl ⟨stop (FA _),q σ2 F2 H2 E2 (e1.ff.trans s2)⟩
def xt(t:G->Option Bool)(fb:G->Option Out):Nat->G->Option Out
 | 0,_=>none
 | n+1,Γ=>(t Γ).bind λx=>if x=true then(fb Γ).bind λo=>match o with
  | .nx j=>xt t fb n j
  | .ct j=>xt t fb n j
  | .bk j=>some (.nx j)
  | .rt d=>some (.rt d)else some (.nx Γ)
def Wj(hp:Lc (Fx X.prog X.w) X.A X.env X.xe)(hc:ET X c tf)(hb:SDs X Y fb):SD X (.While c Y [] pos) (xt tf fb n):=yV (YO hp hc hb) λE σ H O=>by
 obtain⟨F0,H0,F,Γ,o,En,e,q⟩:=O
 refine⟨λm σ H=>∃F2 j,EnvIs X.K F0 H0 F2 H σ j/\zm F F2/\xt tf fb m j=some o,⟨n,F,Γ,En,zm.refl _,e⟩,?_⟩
 rintro m σ2 H2 ⟨F2,j,E2,s2,J⟩
 cases m with
 | zero=>cases J
 | succ m=>
  obtain⟨x,hx,J⟩:=bind_some J
  refine⟨F0,H0,F2,j,x,E2,hx,λZ H3 e3=>?_⟩
  cases x with
  | false=>cases J;exact q σ2 Z H3 (E2.grow e3) (s2.trans e3.ff)
  | true=>
   obtain⟨o1,h4,J⟩:=bind_some J
   refine⟨λσ' H'=>∃Z Γ3,EnvIs X.K F0 H0 Z H' σ' Γ3/\zm F Z/\xt tf fb m Γ3=some o,λσ' H' z=>⟨m,IR _,z⟩,F0,H0,Z,j,o1,E2.grow e3,h4,?_⟩
   have s3:=s2.trans e3.ff
   cases o1 with
   | nx g=>exact λU F4 H4 E4 z=>⟨F4,g,E4,s3.trans z,J⟩
   | ct g=>exact λU F4 H4 E4 z=>⟨F4,g,E4,s3.trans z,J⟩
   | bk g=>cases J;exact λU F4 H4 E4 z=>q U F4 H4 E4 (s3.trans z)
   | rt d=>cases J;exact q
def EF(X:Cx)(j:List Fu)(f:G->Option Bool):Prop:=PF X j (dT X.K f)
def zX:G->Option Bool:=λ_=>some true
def xU:EF X [] zX:=λpins s σ H Q I j=>by obtain⟨F0,H0,F,Γ,b,z,e,q⟩:=j;exact VA pins s σ H Q I (by cases e;exact q F H (.refl z.fh))
def qV(h:ET X c tf):EF X [c] tf:=Ak h
def y8(ms:List (Option Nat))(Γ:G):G:=ms.map λm=>match m with
 | none=>S.un
 | some j=>(Γ[j]?).getD S.un
def W2{ms:List (Option Nat)}{Γ:G}{i:Nat}{s:S}(h:(y8 ms Γ)[i]?=some s):s=S.un\/∃j,ms[i]?=some (some j)/\Γ[j]?=some s:=by
 unfold y8 at h
 rw[FP]at h
 cases e:ms[i]? with
 | none=>rw[e]at h;cases h
 | some m=>
  rw[e]at h
  cases m with
  | none=>cases h;exact .inl rfl
  | some j=>
   simp only[HK,N0]at h
   cases q:Γ[j]? with
   | none=>rw[q]at h;exact .inl h.symm
   | some z=>rw[q]at h;simp at h;subst h;exact .inr ⟨j,rfl,q⟩
def EnvIs.blk{K:Fs}{F0 H0 F H:Hp}{σ:St}{Γ:G}{ms:List (Option Nat)}(E:EnvIs K F0 H0 F H σ Γ)(nd:∀(i k j:Nat),ms[i]?=some (some j)->ms[k]?=some (some j)->i=k):EnvIs K F0 H0 F H (L2.blk ms σ) (y8 ms Γ):=by
 have get:∀(i j:Nat),ms[i]?=some (some j)->(L2.blk ms σ)[i]?=some ((σ[j]?).join):=λi j e=>by
  unfold L2.blk
  rw[FP,e]
  rfl
 refine⟨E.ext,by simp[L2.blk,y8],λi s e=>?_,λi k s t a hik e1 e2 o1 o2 r1 r2=>?_⟩
 ·have hlt:i<ms.length:=by
   have:=(FO.mp e).1
   simpa[y8]using this
  rcases W2 e with rfl|⟨j,h1,h2⟩
  ·refine⟨((L2.blk ms σ)[i]?).join,?_,trivial⟩
   have:i<(L2.blk ms σ).length:=by simpa[L2.blk]using hlt
   rw[FU this];rfl
  ·obtain⟨o,h3,h4⟩:=E.val j s h2
   refine⟨o,?_,h4⟩
   rw[get i j h1,h3];rfl
 ·rcases W2 e1 with rfl|⟨j,h1,h2⟩
  ·cases o1
  ·rcases W2 e2 with rfl|⟨j',h1',h2'⟩
   ·cases o2
   ·have hjj:j≠j':=λz=>hik (nd i k j h1 (z▸h1'))
    have q1:σ[j]?=some (some (.ref a)):=by
     rw[get i j h1]at r1
     cases z:σ[j]? with
     | none=>rw[z]at r1;cases r1
     | some u=>rw[z]at r1;simp at r1;rw[r1]
    have q2:σ[j']?=some (some (.ref a)):=by
     rw[get k j' h1']at r2
     cases z:σ[j']? with
     | none=>rw[z]at r2;cases r2
     | some u=>rw[z]at r2;simp at r2;rw[r2]
    exact E.sep j j' s t a hjj h2 h2' o1 o2 q1 q2
def uX(t:D->G->Option G)(cond:G->Option Bool)(el:G->Option B)(Γ:G):List D->Option (List D)
 | []=>some []
 | d::r=>(t d Γ).bind λj=>(cond j).bind λb=>if b=true then(el j).bind λy=>y.asD.bind λz=>(uX t cond el Γ r).map λzs=>z::zs else uX t cond el Γ r
def yE(j:G->Option (List D))(ms:List (Option Nat))(t:D->G->Option G)(cond:G->Option Bool)(el:G->Option B):G->Option (List D):=λΓ=>(j Γ).bind λds=>if ds.length<=Fv then uX t cond el (y8 ms Γ) ds else none
structure Blk (X:Cx) (scope:Gp) (N:List Fp) (tg:Fu) (ifs:List Fu) (elt:Fu) (is:List Nat) (t:D->G->Option G) (cond:G->Option Bool) (el:G->Option B):Prop where
 go:∀cl C s H ex,GN (yH X scope cl C N s H ex) tg is t/\EF (yH X scope cl C N s H ex) ifs cond/\EE (yH X scope cl C N s H ex) elt el
def UP{Z:G->Option (List D)}{ms:List (Option Nat)}{is:List Nat}{t:D->G->Option G}{cond:G->Option Bool}{el:G->Option B}{K:Fs}{σ:St}{H:Hp}{Q:VK} 
  (nd:∀(i k j:Nat),ms[i]?=some (some j)->ms[k]?=some (some j)->i=k) (fr:∀j∈is,∀k,ms[j]?≠some (some k)):dL K (yE Z ms t cond el) σ H Q->iL (dIc K Z) (dGs K is t) (dT K cond) (dE K el) ms σ H Q:=λ⟨F0,H0,F,Γ,ys,En,e,q⟩=>by
 obtain⟨ds,hd,e⟩:=bind_some e
 by_cases hz:ds.length<=Fv
 ·rw[if_pos hz]at e
  refine⟨F0,H0,F,Γ,ds,En,hd,λJ F1 H1 e1 ac=>?_⟩
  refine⟨λi m vs H2=>m=ds.length-i/\i<=ds.length/\vs.length<=i/\∃F2 dn rest,Ext F1 H1 F2 H2/\Are K F2 dn vs/\uX t cond el (y8 ms Γ) (ds.drop i)=some rest/\ys=dn++rest,⟨ds.length,by simp,GI _,FA _,F1,[],ys,.refl e1.fh,.nil,by simpa using e,rfl⟩,?_⟩
  rintro i m vs H2 ⟨rfl,hi,ad,F2,dn,rest,U,r2,h2,rfl⟩
  obtain⟨go,aa⟩:=ac i F2 H2 U
  refine⟨Ge ad (Ge hi hz),?_⟩
  by_cases O:i<ds.length
  ·obtain⟨g1,g2⟩:=go ds[i] (by simp[O])
   rw[KS O]at h2
   obtain⟨Y,h3,h2⟩:=bind_some h2
   obtain⟨b,h4,h2⟩:=bind_some h2
   refine .inr ⟨g1,λx H' y=>?_⟩
   obtain⟨F3,ex,hx⟩:=g2 x H' y
   have E3:EnvIs K F0 H0 F3 H' (L2.blk ms σ) (y8 ms Γ):=(((En.grow e1).grow U).grow ex).blk nd
   refine⟨F0,H0,F3,y8 ms Γ,ds[i],Y,E3,hx,h3,λσ4 E4 bs=>⟨⟨bs.1,λj v hj=>?_⟩,F0,H0,F3,Y,b,E4,h4,λF5 H5 e5=>?_⟩⟩
   ·rw[bs.2 j λhm=>?_]
    ·exact hj
    ·obtain⟨k,hk,_⟩:=fF hj
     exact fr j hm k hk
   ·have ab:=(U.trans ex).trans e5
    cases b with
    | false=>exact⟨ds.length-(i+1),by omega,rfl,O,by omega,F5,dn,rest,ab,r2.mono (ex.ff.trans e5.ff),h2,rfl⟩
    | true=>
     obtain⟨yb,h6,h2⟩:=bind_some h2
     obtain⟨z,h7,h2⟩:=bind_some h2
     obtain⟨zs,h8,rfl⟩:=map_some h2
     have:=xI h7;subst this
     refine⟨F0,H0,F5,Y,_,E4.grow e5,h6,λv F6 H6 e6 r6=>⟨by omega,ds.length-(i+1),by omega,rfl,O,by rw[Gb,GA];omega,F6,dn++[z],zs,ab.trans e6,?_,h8,by rw[ME];rfl⟩⟩
     exact(r2.mono ((ex.ff.trans e5.ff).trans e6.ff)).append (.cons r6 .nil)
  ·have:i=ds.length:=by omega
   subst this
   rw[MR]at h2
   cases h2
   refine .inl ⟨aa (FA _),λp hp=>q p vs F2 _ ((e1.trans U).trans (.own U.fh hp _)) ((e1.hh.trans U.hh).free hp) (U.fh.free hp) zj ?_⟩
   rw[Iw];exact r2
 ·rw[if_neg hz]at e;cases e
def we{ifs:List Fu}{scope:Gp}{N:List Fp}{src:G->Option (List D)}{ms:List (Option Nat)}{is:List Nat}{t:D->G->Option G}{cond:G->Option Bool}{el:G->Option B} 
 (hc:X.calm=true) (ok:CompOk X.env.scope X.N scope N ms) (hi:EC X tg iter src) (hb:Blk X scope N tg ifs elt is t cond el) (nd:∀(i k j:Nat),ms[i]?=some (some j)->ms[k]?=some (some j)->i=k) (fr:∀j∈is,∀k,ms[j]?≠some (some k))
 (hs:∀x,Ir iter X.env x=pure x:=by intro _;rfl):EL X (.ListComp elt [⟨tg,iter,ifs,0⟩] scope pos) (yE src ms t cond el):=yx (fG (g:=dGs X.K is t) (tf:=dT X.K cond) (te:=dE X.K el) hc ok hi hb.go hs) λσ H Q q=>UP nd fr q
def Ar{ifs:List Fu}{scope:Gp}{N:List Fp}{src:G->Option (List D)}{ms:List (Option Nat)}{is:List Nat}{t:D->G->Option G}{cond:G->Option Bool}{el:G->Option B}{i:Nat}{y:Fp}{py spos:FG} 
  (hc:X.calm=true) (ok:CompOk X.env.scope X.N scope N ms) (hi:EC X tg iter src) (hb:Blk X scope N tg ifs elt is t cond el) (nd:∀(i k j:Nat),ms[i]?=some (some j)->ms[k]?=some (some j)->i=k) (fr:∀j∈is,∀k,ms[j]?≠some (some k))
  (hN:X.N.Nodup) (hy:X.N[i]?=some y) (hx:Loc X.env.scope y) (hsw:GP (.ListComp elt [⟨tg,iter,ifs,0⟩] scope pos) (some (.Name y py)) spos.line X.env=pure true)
  (hf:X.fn y=true\/X.env.scope.names.lookup y=some .local:=by first|exact .inl rfl|exact .inr rfl|assumption)
  (hs:∀x,Ir iter X.env x=pure x:=by intro _;rfl):SD X (.Assign [.Name y py] (.ListComp elt [⟨tg,iter,ifs,0⟩] scope pos) spos) (vu i (yE src ms t cond el)) :=
 yV (Wf (g:=dGs X.K is t) (tf:=dT X.K cond) (te:=dE X.K el) hc ok hi hb.go hN hy hx hsw hf hs) λE σ H q=>by
  have q':=fM (X:=X) q
  exact UP nd fr q'
end
end DD
namespace DD
open PySem PySem.Spec L2
open PyProof.Rows hiding St
open PySem.SeqAt (shaped compareEq_shaped compareNe_shaped canLay_of_shaped room_of_shaped eqAt_reads)
section
variable {X:Cx} {pins:List (Fo×FD)} {σ:St} {F H:Hp} {s:Fq}
def oh:Fp:=⟨#[2000000]⟩
def fN:Hn oh=false:=by decide+kernel
mutual
def toP:D->Hw
 | .non=>.none
 | .bl b=>.bool b
 | .int i=>.int i
 | .str x=>.str x
 | .scr ns=>.list (ns.map PyData.int)
 | .tup xs=>.tuple (toPs xs)
 | .lst xs=>.list (toPs xs)
 | .dK _ _=>.str oh
 | .dT _ _=>.str oh
def toPs:List D->List Hw
 | []=>[]
 | x::xs=>toP x::toPs xs
end
theorem YX:∀xs:List D,toPs xs=xs.map toP
 | []=>rfl
 | x::xs=>by rw[toPs,YX xs,FY]
theorem VL{h:Fz}:∀{ns:List Int} {us:List Fl},zC (ns.map V.int) us->∃as,Km h us (ns.map PyData.int) as
 | [],_,.nil=>⟨_,.nil⟩
 | n::r,_,.cons ⟨t,e⟩ q=>by
  subst e
  obtain⟨as,j⟩:=VL q
  exact⟨_,.cons (.int n t) j⟩
mutual
theorem UQ(I:Inv X pins σ H s)(j:zm F H):∀(d:D) {v:V} {u:Fl},Is X.K F d v->zI v u->(toP d).canLay0=true->∃as,Kn s.heap u (toP d) as
 | .non,_,_,h,r,_=>by simp only[Is]at h;subst h;cases r;exact⟨_,.none⟩
 | .bl b,_,_,h,r,_=>by simp only[Is]at h;subst h;cases r;exact⟨_,.bool b⟩
 | .int i,_,_,h,r,_=>by simp only[Is]at h;subst h;obtain⟨t,rfl⟩:=r;exact⟨_,.int i t⟩
 | .str i,_,_,h,r,_=>by simp only[Is]at h;subst h;obtain⟨t,rfl⟩:=r;exact⟨_,.str i t⟩
 | .scr ns,_,_,h,r,_=>by
  simp only[Is]at h
  obtain⟨a,rfl,hs⟩:=h
  cases r
  obtain⟨its,z,⟨o,n,e,J,_,O⟩,_⟩:=I.list (j.seq hs)
  obtain⟨as,U⟩:=VL (h:=s.heap) z
  exact⟨_,.list e J O (by simpa using U)⟩
 | .tup ds,_,_,h,r,c=>by
  simp only[Is]at h
  obtain⟨a,vs,rfl,Y,Z⟩:=h
  cases r
  obtain⟨its,z,⟨o,e,J,n,O⟩,_⟩:=I.tuple (SqT.of (K:=X.K) (j _ _ Y))
  obtain⟨as,U⟩:=reads_Ds I j ds Z z (by simpa[toP,Ho]using c)
  exact⟨_,.tuple e J O (by simpa using U)⟩
 | .dK _ _,_,_,_,_,c=>by rw[toP,Ho,fN]at c;cases c
 | .dT _ _,_,_,_,_,c=>by rw[toP,Ho,fN]at c;cases c
 | .lst ds,_,_,h,r,c=>by
  simp only[Is]at h
  obtain⟨a,vs,rfl,Y,Z⟩:=h
  cases r
  obtain⟨its,z,⟨o,n,e,J,_,O⟩,_⟩:=I.list (SqL.of (K:=X.K) (j _ _ Y))
  obtain⟨as,U⟩:=reads_Ds I j ds Z z (by simpa[toP,Ho]using c)
  exact⟨_,.list e J O (by simpa using U)⟩
theorem reads_Ds(I:Inv X pins σ H s)(j:zm F H):∀(ds:List D) {vs:List V} {us:List Fl},Are X.K F ds vs->zC vs us->Im (toPs ds)=true->∃as,Km s.heap us (toPs ds) as
 | [],_,_,h,r,_=>by rw[h.inv0]at r;cases r;exact⟨_,.nil⟩
 | d::ds,_,_,h,r,c=>by
  have z:(toP d).canLay0=true/\Im (toPs ds)=true:=by simpa[toPs,Im]using c
  obtain⟨v,vs,rfl,h1,h2⟩:=h.inv
  cases r with
  | cons r1 r2=>
   obtain⟨as,J⟩:=UQ I j d h1 r1 z.1
   obtain⟨bs,O⟩:=reads_Ds I j ds h2 r2 z.2
   exact⟨_,.cons J O⟩
end
def Z2:B->Option Hw
 | .d d=>some (toP d)
 | .l ds=>some (.list (toPs ds))
 | .c ds=>some (.tuple (toPs ds))
 | _=>none
def ui(I:Inv X pins σ H s)(j:zm F H)(e:Z2 b=some p)(h:BIs X.K F H b v)(r:zI v u)(c:p.canLay0=true):∃as,Kn s.heap u p as:=by
 cases b with
 | d d=>cases e;exact UQ I j d h r c
 | l ds=>
  cases e
  obtain⟨a,vs,rfl,z,J⟩:=h
  cases r
  obtain⟨its,O,⟨o,n,e,U,_,Y⟩,_⟩:=I.list (SqL.of (K:=X.K) z)
  obtain⟨as,Z⟩:=reads_Ds I j ds J O (by simpa[Ho]using c)
  exact⟨_,.list e U Y (by simpa using Z)⟩
 | c ds=>
  cases e
  obtain⟨a,vs,rfl,z,J⟩:=h
  cases r
  obtain⟨its,O,⟨o,e,U,n,Y⟩,_⟩:=I.tuple z
  obtain⟨as,Z⟩:=reads_Ds I j ds J O (by simpa[Ho]using c)
  exact⟨_,.tuple e U Y (by simpa using Z)⟩
 | _=>cases e
theorem UR:∀{ps:List Hw},(∀p∈ps,Gm p=true)->Im ps=true
 | [],_=>rfl
 | p::r,h=>by
  have h1:=Hi (h p F9)
  have h2:=UR λq j=>h q (Gc _ j)
  simp[Im,h1,h2]
def RP(K:Fs)(H:Hp)(v:V)(p:Hw):Prop:=∃F b,zm F H/\Z2 b=some p/\BIs K F H b v
def oi(K:Fs)(j:Bool):R2:=λx y H Q=>∃p q,RP K H x p/\RP K H y q/\Gm p=true/\Gm q=true/\Q (.bl (if j then !PyData.eqv p q else F8 p q)) H
def v4(J:X.A.units+64<Gi):OpR X (Gz .Eq) (oi X.K false):=by
 rintro pins s σ H x y v u Q I O U ⟨p,q,⟨F,b,Y,e,h⟩,⟨F',b',j,Z,h'⟩,sp,z,hq⟩
 obtain⟨as,ra⟩:=ui I Y e h O (Hi sp)
 obtain⟨bs,rb⟩:=ui I j Z h' U (Hi z)
 exact compareEq_shaped ra rb sp z J ⟨.bl _,H,I,rfl,hq⟩
def v5(J:X.A.units+64<Gi):OpR X (Gz .NotEq) (oi X.K true):=by
 rintro pins s σ H x y v u Q I O U ⟨p,q,⟨F,b,Y,e,h⟩,⟨F',b',j,Z,h'⟩,sp,z,hq⟩
 obtain⟨as,ra⟩:=ui I Y e h O (Hi sp)
 obtain⟨bs,rb⟩:=ui I j Z h' U (Hi z)
 exact compareNe_shaped ra rb sp z J ⟨.bl _,H,I,rfl,hq⟩
def mEq(j:Bool):B->B->Option D:=λx y=>(Z2 x).bind λp=>(Z2 y).bind λq=>if Gm p=true/\Gm q=true then some (.bl (if j then !PyData.eqv p q else F8 p q))else none
def wA{K:Fs}{j:Bool}:OpB K (oi K j) (mEq j):=λF H x y v u d Q J Y Z e q=>by
 obtain⟨p,hp,e⟩:=bind_some e
 obtain⟨U,O,e⟩:=bind_some e
 by_cases z:Gm p=true/\Gm U=true
 ·rw[if_pos z]at e;cases e
  exact⟨p,U,⟨F,x,J,hp,Y⟩,⟨F,y,J,O,Z⟩,z.1,z.2,q _ F H (.refl J) vZ⟩
 ·rw[if_neg z]at e;cases e
open Classical in
noncomputable def eqR (h:Fz) (q:Hw) (u:Fl):Bool:=if z:∃p,(∃as,Kn h u p as)/\p.canLay0=true then F8 z.choose q else false
def aH(r:Kn h u p as)(c:p.canLay0=true):eqR h q u=F8 p q:=by
 have z:∃p,(∃as,Kn h u p as)/\p.canLay0=true:=⟨p,⟨as,r⟩,c⟩
 unfold eqR
 rw[dif_pos z]
 obtain⟨⟨bs,r2⟩,j⟩:=z.choose_spec
 rw[Rg _ _ _ _ _ j r2 r]
def Yj:∀{ps:List Hw} {us:List Fl} {as:List Fo},Km h us ps as->(∀p∈ps,Gm p=true)->us.any (eqR h q)=ps.any λp=>F8 p q:=λ{ps}=>by
 induction ps with
 | nil=>intro us as r _;cases r;rfl
 | cons p ps j=>
  intro us as r c
  cases r with
  | cons r t=>rw[HW,HW,aH r (Hi (c p F9)),j t λz J=>c z (Gc _ J)]
def Yk(z:Kn s.heap v q bs)(J:Gm q=true)(O:A.units+64<Gi):∀{ps:List Hw} {us:List Fl} {as:List Fo},Km s.heap us ps as->(∀p∈ps,Gm p=true)->∀u∈us,SeqAt.EqAt A s u v (eqR s.heap q u):=λ{ps}=>by
 induction ps with
 | nil=>intro us as r _ u j;cases r;exact nomatch j
 | cons p ps U=>
  intro us as r c u j
  cases r with
  | cons r t=>
   rcases FL.mp j with rfl|j
   ·have sp:=c p F9
    rw[aH r (Hi sp)]
    exact eqAt_reads _ _ _ _ _ _ _ _ r z (Hi sp) (Hi J) (room_of_shaped sp O)
   ·exact U t (λY Z=>c Y (Gc _ Z)) u j
def RPs(K:Fs)(H:Hp)(a:Fo)(ps:List Hw):Prop:=∃F ds vs,zm F H/\(SqL K H a vs\/SqT K H a vs)/\Are K F ds vs/\ps=toPs ds
def oj(K:Fs)(j:Bool):R2:=λx y H Q=>∃q a ps,RP K H x q/\y=.ref a/\RPs K H a ps/\Gm q=true/\(∀p∈ps,Gm p=true)/\Q (.bl (if j then !ps.any (λp=>F8 p q)else ps.any λp=>F8 p q)) H
def aI(hu:X.A.units+128<Gi):OpR X (Gz .In) (oj X.K false):=by
 rintro pins s σ H x y v u Q I rx ry ⟨q,a,ps,⟨F,b,sm,e,h⟩,ey,⟨F',ds,vs,sm',hs,ra,eps⟩,sq,sp,hq⟩
 subst ey
 subst eps
 cases ry
 have hu1:X.A.in1.units+64<Gi:=by show X.A.units+1+64<Gi;omega
 obtain⟨bs,rb⟩:=ui I sm e h rx (Hi sq)
 rcases hs with hs|hs
 ·obtain⟨its,rv,pl,hz⟩:=I.list hs
  obtain⟨as,rs⟩:=reads_Ds I sm' ds ra rv (UR sp)
  refine SeqAt.in_listAt (eqR s.heap q) pl.isList (λw hw=>Yk rb sq hu1 rs sp w (by simpa using hw)) ⟨.bl _,H,I,rfl,?_⟩
  rw[show its.toArray.any (eqR s.heap q)=its.any (eqR s.heap q) by simp,Yj rs sp]
  exact hq
 ·obtain⟨its,rv,pl,hz⟩:=I.tuple hs
  obtain⟨as,rs⟩:=reads_Ds I sm' ds ra rv (UR sp)
  refine Of (eqR s.heap q) pl (λw hw=>Yk rb sq hu1 rs sp w (by simpa using hw)) ⟨.bl _,H,I,rfl,?_⟩
  rw[show its.toArray.any (eqR s.heap q)=its.any (eqR s.heap q) by simp,Yj rs sp]
  exact hq
def rS(hu:X.A.units+128<Gi):OpR X (Gz .NotIn) (oj X.K true):=by
 rintro pins s σ H x y v u Q I rx ry ⟨q,a,ps,⟨F,b,sm,e,h⟩,ey,⟨F',ds,vs,sm',hs,ra,eps⟩,sq,sp,hq⟩
 subst ey
 subst eps
 cases ry
 have hu1:X.A.in1.units+64<Gi:=by show X.A.units+1+64<Gi;omega
 obtain⟨bs,rb⟩:=ui I sm e h rx (Hi sq)
 rcases hs with hs|hs
 ·obtain⟨its,rv,pl,hz⟩:=I.list hs
  obtain⟨as,rs⟩:=reads_Ds I sm' ds ra rv (UR sp)
  refine SeqAt.notIn_listAt (eqR s.heap q) pl.isList (λw hw=>Yk rb sq hu1 rs sp w (by simpa using hw)) ⟨.bl _,H,I,rfl,?_⟩
  rw[show its.toArray.any (eqR s.heap q)=its.any (eqR s.heap q) by simp,Yj rs sp]
  exact hq
 ·obtain⟨its,rv,pl,hz⟩:=I.tuple hs
  obtain⟨as,rs⟩:=reads_Ds I sm' ds ra rv (UR sp)
  refine SeqAt.notIn_tupleAt (eqR s.heap q) pl (λw hw=>Yk rb sq hu1 rs sp w (by simpa using hw)) ⟨.bl _,H,I,rfl,?_⟩
  rw[show its.toArray.any (eqR s.heap q)=its.any (eqR s.heap q) by simp,Yj rs sp]
  exact hq
def mIn(j:Bool):B->B->Option D:=λx y=>(Z2 x).bind λq=>y.seq.bind λds=>if Gm q=true/\(toPs ds).all Gm=true then some (.bl (if j then !(toPs ds).any (λp=>F8 p q)else(toPs ds).any λp=>F8 p q))else none
def JL{K:Fs}{j:Bool}:OpB K (oj K j) (mIn j):=λF H x y v u d Q z U Y e q=>by
 obtain⟨p,O,e⟩:=bind_some e
 obtain⟨ds,Z,e⟩:=bind_some e
 by_cases J:Gm p=true/\(toPs ds).all Gm=true
 ·rw[if_pos J]at e;cases e
  obtain⟨a,vs,rfl,hs,ra⟩:=aE z Z Y
  exact⟨p,a,toPs ds,⟨F,x,z,O,U⟩,rfl,⟨F,ds,vs,z,hs,ra,rfl⟩,J.1,λp O=>GR.mp J.2 p O,q _ F H (.refl z) vZ⟩
 ·rw[if_neg J]at e;cases e
def vF(Y:X.calm=true):vI X (.builtin "all") (λxs H Q=>∃p bs,xs=[.ref p]/\SqL X.K H p ((bs:List Bool).map V.bl)/\Q (.bl (bs.all id)) H):=by
 intro pins s σ H xs us Q I r h
 obtain⟨p,bs,rfl,Z,q⟩:=h
 obtain⟨u,rfl,rx⟩:=Wd r
 cases rx
 obtain⟨its,O,pl,hz⟩:=I.list Z
 have U:its.length=bs.length:=by rw[<-O.length,FF]
 have get:∀(i:Nat) (b:Bool),bs[i]?=some b->its[i]?=some (.bool b):=λi b e=>by
  obtain⟨u,h1,h2⟩:=O.get (i:=i) (x:=.bl b) (by rw[FP,e];rfl)
  cases h2
  exact h1
 have hp:p<s.heap.objs.size:=by obtain⟨o,n,e,_⟩:=pl;exact FV e
 refine call_all_walk (Ky pl.isList ?_)
 refine⟨s.heap.objs.size,_,_,its.toArray.size,_,_,λi=>bs.getD i true,rfl,Walks.list (A:=X.A.in1) (I.ok.hd Y) s.heap.objs.size p (Gd hp) its.toArray,⟨⟨_,Gr _ rfl,rfl,rfl⟩,pl.isList.push _⟩,λi v s' Q' E' hP hQ=>?_,λh' tk hk=>?_⟩
 ·have j:its[i]?=some v:=by simpa using hP
  have J:i<bs.length:=by rw[<-U];exact(FO.mp j).1
  have:=get i bs[i] (by simp[J])
  rw[j]at this;cases this
  have e:bs.getD i true=bs[i]:=by simp[HX,J]
  refine IM ?_
  rw[<-e];exact hQ
 ·have I':Inv X pins σ H {s with heap:=h',toks:=tk}:=I.kept λb o e=>hk b o (by simpa using Gd (FV e)) (FQ _ e)
  have e:(Fy its.toArray.size).all (λi=>bs.getD i true)=bs.all id:=by
   rw[Go,U,Iv]
   simp only[GR,Gh,id]
   constructor
   ·intro z b hb
    obtain⟨i,hi,rfl⟩:=GE.mp hb
    have:=z i hi
    simpa[HX,hi]using this
   ·intro z i hi
    have:=z bs[i] (GF hi)
    simpa[HX,hi]using this
  rw[e]
  exact⟨.bl _,H,I',rfl,q⟩
def v6:List D->Option (List Bool)
 | []=>some []
 | .bl b::r=>(v6 r).map λbs=>b::bs
 | _::_=>none
theorem QP{K:Fs}{F:Hp}:∀{ds:List D} {bs:List Bool} {vs:List V},v6 ds=some bs->Are K F ds vs->vs=bs.map V.bl
 | [],_,_,e,h=>by cases e;rw[h.inv0];rfl
 | d::r,_,_,e,h=>by
  obtain⟨v,vs,rfl,h1,h2⟩:=h.inv
  cases d with
  | bl b=>
   obtain⟨bs,j,rfl⟩:=map_some (show(v6 r).map _=some _ from e)
   simp only[Is]at h1
   rw[h1,QP j h2];rfl
  | _=>cases e
def W3:List B->Option D
 | [b]=>b.lst.bind λds=>(v6 ds).map λbs=>.bl (bs.all id)
 | _=>none
def XD{K:Fs}:ZL K (λxs H Q=>∃p bs,xs=[.ref p]/\SqL K H p ((bs:List Bool).map V.bl)/\Q (.bl (bs.all id)) H) W3:=λF H bs vs d Q z h e q=>by
 match bs,e,h with
 | [b],e,h=>
  obtain⟨v,rfl,J⟩:=uB h
  obtain⟨ds,O,e⟩:=bind_some e
  obtain⟨bs,j,rfl⟩:=map_some e
  obtain⟨a,ys,rfl,U,r⟩:=uF z O J
  have:=QP j r
  subst this
  exact⟨a,bs,rfl,SqL.of U,q _ F H (.refl z) vZ⟩
end
end DD
namespace DD
open PySem PySem.Spec L2
open PyProof.Rows hiding St
section
variable {X:Cx} {pins:List (Fo×FD)} {σ:St} {F H:Hp} {s:Fq} {a b c e tg iter elt:Fu} {f g h:G->Option B} {pos:FG} {es:List Fu} {fs:G->Option (List B)} {tf:G->Option Bool}
def isi(t c:Ty):Bool:=decide (t=c) || (decide (t=.bl) && decide (c=.int))
def rT(K:Fs)(t c:Ty):NH K (.type t.name) (.type c.name)=some (isi t c):=by
 cases t <;>cases c <;>rfl
def D.tyOf:D->Option Ty
 | .non=>some .non
 | .bl _=>some .bl
 | .int _=>some .int
 | .str _=>some .str
 | .tup _=>some .tup
 | .lst _=>some .lst
 | .scr _=>none
 | .dK _ _=>none
 | .dT _ _=>none
def rV{K:Fs}{d:D}{t:Ty}{v:V}(z:zm F H)(e:d.tyOf=some t)(h:Is K F d v):TyOf K H v (.type t.name):=by
 cases d with
 | non=>cases e;simp only[Is]at h;subst h;exact .non
 | bl b=>cases e;simp only[Is]at h;subst h;exact .bl b
 | int b=>cases e;simp only[Is]at h;subst h;exact .int b
 | str b=>cases e;simp only[Is]at h;subst h;exact .str b
 | scr ns=>cases e
 | dK _ _=>cases e
 | dT _ _=>cases e
 | tup ds=>cases e;simp only[Is]at h;obtain⟨p,vs,rfl,j,_⟩:=h;exact .tup (z _ _ j)
 | lst ds=>cases e;simp only[Is]at h;obtain⟨p,vs,rfl,j,_⟩:=h;exact .lst (z _ _ j)
def x4:vI X (.builtin "isinstance") (λxs H Q=>∃x t c,xs=[x,.ty (Ty.name c)]/\TyOf X.K H x (.type (Ty.name t))/\Q (.bl (isi t c)) H):=by
 intro pins s σ H xs us Q I r h
 obtain⟨x,t,c,rfl,ty,q⟩:=h
 cases r with
 | cons r1 r2=>
  cases r2 with
  | cons r2 j=>
   cases j
   cases r2
   exact lQ I r1 ty (rT _ _ _) λtk=>⟨.bl _,H,I.tok tk,rfl,q⟩
def vw:List B->Option D
 | [.d x,.ty c]=>x.tyOf.map λt=>.bl (isi t c)
 | [.l _,.ty c]=>some (.bl (isi .lst c))
 | _=>none
def wS{K:Fs}:ZL K (λxs H Q=>∃x t c,xs=[x,.ty (Ty.name c)]/\TyOf K H x (.type (Ty.name t))/\Q (.bl (isi t c)) H) vw:=λF H bs vs d Q j h e q=>by
 match bs,e,h with
 | [.d x,.ty c],e,h=>
  obtain⟨t,J,rfl⟩:=map_some e
  cases h with
  | cons h1 h2=>
   cases h2 with
   | cons h2 z=>
    cases z
    cases h2
    exact⟨_,t,c,rfl,rV j J h1,q _ F H (.refl j) vZ⟩
 | [.l ds,.ty c],e,h=>
  cases e
  cases h with
  | cons h1 h2=>
   cases h2 with
   | cons h2 z=>
    cases z
    cases h2
    obtain⟨p,ws,rfl,O,_⟩:=h1
    exact⟨_,.lst,c,rfl,.lst O,q _ F H (.refl j) vZ⟩
def xTy(c:Ty):G->Option B:=λ_=>some (.ty c)
def uM(c:Ty)(j:Gl X x)(J:X.mg x=none)(O:HZ x=some (.type c.name))(hn:x≠"__name__":=by decide)(U:(x==("__debug__":Fp))=false:=by decide):EE X (.Name x p) (xTy c) :=
 yx (rG (v:=.ty c.name) j J O rfl hn U) λσ H Q ⟨F0,H0,F,Γ,z,E,e,q⟩=>by cases e;exact q _ F H (.refl E.fh) rfl
def EnvIs.change{K:Fs}{F0 H0 F H:Hp}{σ:St}{Γ:G}{i:Nat}{s1 s0:S}{p:Fo}{o:HO}(E:EnvIs K F0 H0 F H σ Γ)(hi:Γ[i]?=some s1)(ho:s1.own=true)(hs:σ[i]?=some (some (.ref p)))(h0:H0 p=none)(hf:F p=none) 
  (h:SIs K H0 F (upd H p o) s0 (some (.ref p))):EnvIs K F0 H0 F (upd H p o) σ (Γ.set i s0):=by
 have aa:i<Γ.length:=(FO.mp hi).1
 have Z:∀(j:Nat) s,Γ[j]?=some s->s.own=true->∃q,σ[j]?=some (some (.ref q)):=λj s e so=>by
  obtain⟨o',h1,h2⟩:=E.val j s e
  cases s with
  | un=>cases so
  | v d=>cases so
  | ol ds=>obtain⟨q,_,rfl,_⟩:=h2;exact⟨q,h1⟩
  | ot ds=>obtain⟨q,_,rfl,_⟩:=h2;exact⟨q,h1⟩
  | ok ds=>obtain⟨q,_,rfl,_⟩:=h2;exact⟨q,h1⟩
 refine⟨E.ext.turn h0 hf o,by simpa using E.len,λj s e=>?_,λj k s t b ab e1 e2 o1 o2 r1 r2=>?_⟩
 ·by_cases hj:j=i
  ·subst hj
   rw[Hs aa]at e
   cases e
   exact⟨_,hs,h⟩
  ·rw[GZ (FH hj)]at e
   obtain⟨o',h1,h2⟩:=E.val j s e
   refine⟨o',h1,?_⟩
   have ne:∀q,s.own=true->σ[j]?=some (some (.ref q))->q≠p:=λq so sq z=>by
    subst z
    exact E.sep j i s s1 q hj e hi so ho sq hs
   cases s with
   | un=>trivial
   | v d=>exact h2
   | ol ds=>obtain⟨q,vs,rfl,J,p2,O,U⟩:=h2;exact⟨q,vs,rfl,by rw[zd (ne q rfl h1)];exact J,p2,O,U⟩
   | ot ds=>obtain⟨q,vs,rfl,J,p2,O,U⟩:=h2;exact⟨q,vs,rfl,by rw[zd (ne q rfl h1)];exact J,p2,O,U⟩
   | ok ds=>obtain⟨q,vs,rfl,J,p2,O,U⟩:=h2;exact⟨q,vs,rfl,by rw[zd (ne q rfl h1)];exact J,p2,O,U⟩
 ·have Y:∀(k:Nat) (t:S),(Γ.set i s0)[k]?=some t->t.own=true->∃t',Γ[k]?=some t'/\t'.own=true:=λk t e o=>by
   by_cases z:k=i
   ·subst z;exact⟨s1,hi,ho⟩
   ·rw[GZ (FH z)]at e;exact⟨t,e,o⟩
  obtain⟨s',ac,ad⟩:=Y j s e1 o1
  obtain⟨t',ae,af⟩:=Y k t e2 o2
  exact E.sep j k s' t' b ab ac ae ad af r1 r2
def vx(Γ:G)(i:Nat):Option (List D):=match Γ[i]? with
 | some (.ol ds)=>some ds
 | _=>none
def XE(e:vx Γ i=some ds):Γ[i]?=some (.ol ds):=by
 unfold vx at e
 split at e
 ·rename_i q;cases e;exact q
 ·cases e
def Zs(i:Nat)(f:G->Option B):G->Option Out:=λΓ=>(vx Γ i).bind λds=>(f Γ).bind λb=>b.asD.bind λd=>if ds.length<Fv then some (.nx (Γ.set i (.ol (ds++[d]))))else none
def ZM{i:Nat}{x:Fp}{px apos cpos:FG} 
  (hsw:GP (.Call (.Attribute (.Name x px) "append" apos) [e] [] cpos) none pos.line X.env=pure false:=by rfl)
  (h1:PE X (.Call (.Attribute (.Name x px) "append" apos) [e] [] cpos) (tBM X.K "list" fC (vK i) (uz (dE X.K f) YS))) :
  SD X (.Expr (.Call (.Attribute (.Name x px) "append" apos) [e] [] cpos) pos) (Zs i f):=yV (yL h1 hsw) λE σ H ⟨F0,H0,F,Γ,o,En,e,q⟩=>by
 obtain⟨ds,hd,e⟩:=bind_some e
 obtain⟨b,hb,e⟩:=bind_some e
 obtain⟨d,hd2,e3⟩:=bind_some e
 have:=xI hd2;subst this
 have hi:=XE hd
 by_cases hz:ds.length<Fv
 ·rw[if_pos hz]at e3;cases e3
  obtain⟨o,h1,p,vs,rfl,h2,h3,h4,h5⟩:=En.val i _ hi
  refine⟨.ref p,h1,.inl ⟨rfl,vs,SqL.of h2⟩,F0,H0,F,Γ,_,En,hb,λv F1 H1 e1 r1=>⟨p,vs,v,rfl,rfl,e1.hh _ _ h2,by rw[h3.length];exact hz,?_⟩⟩
  have hf1:F1 p=none:=e1.freed h4 (by rw[h2];simp)
  refine q σ F1 _ ((En.grow e1).change (s1:=.ol ds) hi rfl h1 h5 hf1 ⟨p,vs++[v],rfl,zj,(h3.mono e1.ff).append (.cons r1 .nil),hf1,h5⟩) e1.ff
 ·rw[if_neg hz]at e3;cases e3
def aJ(i:Nat)(f:G->Option B):G->Option Out:=λΓ=>(vx Γ i).bind λds=>(f Γ).bind λb=>b.lst.bind λes=>if ds.length+es.length<=Fv then some (.nx (Γ.set i (.ol (ds++es))))else none
def qW{i:Nat}{x:Fp}{px apos cpos:FG} 
  (hsw:GP (.Call (.Attribute (.Name x px) "extend" apos) [e] [] cpos) none pos.line X.env=pure false:=by rfl)
  (h1:PE X (.Call (.Attribute (.Name x px) "extend" apos) [e] [] cpos) (tBM X.K "list" fD (vK i) (uz (dE X.K f) YS))) :
  SD X (.Expr (.Call (.Attribute (.Name x px) "extend" apos) [e] [] cpos) pos) (aJ i f):=yV (yL h1 hsw) λE σ H ⟨F0,H0,F,Γ,o,En,e,q⟩=>by
 obtain⟨ds,hd,e⟩:=bind_some e
 obtain⟨b,hb,e⟩:=bind_some e
 obtain⟨es,he,e⟩:=bind_some e
 have hi:=XE hd
 by_cases hz:ds.length+es.length<=Fv
 ·rw[if_pos hz]at e;cases e
  obtain⟨o,h1,p,vs,rfl,h2,h3,h4,h5⟩:=En.val i _ hi
  refine⟨.ref p,h1,.inl ⟨rfl,vs,SqL.of h2⟩,F0,H0,F,Γ,_,En,hb,λv F1 H1 e1 r1=>?_⟩
  obtain⟨l,us,rfl,hl,ru⟩:=uF e1.fh he r1
  refine⟨p,l,vs,us,rfl,rfl,e1.hh _ _ h2,hl,by rw[h3.length,ru.length];exact hz,?_⟩
  have hf1:F1 p=none:=e1.freed h4 (by rw[h2];simp)
  refine q σ F1 _ ((En.grow e1).change (s1:=.ol ds) hi rfl h1 h5 hf1 ⟨p,vs++us,rfl,zj,(h3.mono e1.ff).append ru,hf1,h5⟩) e1.ff
 ·rw[if_neg hz]at e;cases e
def zB(n:Nat)(ds:List D):G:=ds.map S.v++F7 (n-ds.length) S.un
noncomputable def mir (j n:Nat) (f:G->Option Out):List D->Option D:=λds=>if ds.length=j then match f (zB n ds)with
 | some (.rt d)=>some d
 | some (.nx _)=>some .non
 | _=>none else none
def aK{K:Fs}{F H:Hp}{N:List Fp}{ds:List D}{vs:List V}(sm:zm F H)(r:Are K F ds vs):EnvIs K F H F H (L2.start N vs) (zB N.length ds):=by
 have hl:=r.length
 refine⟨.refl sm,by simp[L2.start,zB,hl],λi s e=>?_,λi j s t p hij e1 e2 o1 o2 _ _=>?_⟩
 ·unfold zB at e
  unfold L2.start
  by_cases hi:i<ds.length
  ·rw[GK (by simpa using hi),FP]at e
   rw[GK (by simpa[hl]using hi),FP]
   obtain⟨d,hd,rfl⟩:=map_some e
   obtain⟨v,hv,hq⟩:=r.get hd
   exact⟨some v,by rw[hv];rfl,v,rfl,hq⟩
  ·rw[Ii (by simpa using hi),Lo]at e
   rw[Ii (by simpa[hl]using hi),Lo]
   simp only[FF]at e ⊢
   split at e
   ·rename_i hlt
    cases e
    exact⟨none,by rw[if_pos (by rw[hl];exact hlt)],trivial⟩
   ·cases e
 ·have no:∀(k:Nat) (t:S),(zB N.length ds)[k]?=some t->t.own=false:=λk t e=>by
   have hm:=Gj e
   unfold zB at hm
   rcases Gk.mp hm with hm|hm
   ·obtain⟨d,_,rfl⟩:=FX.mp hm;rfl
   ·rw[(List.mem_replicate.mp hm).2];rfl
  rw[no i s e1]at o1;cases o1
structure Callee (P:FI) (w:FB) (K:Fs) (mg:Fp->Option Fl) (base:Fz) (k:Nat) (x:Fp) (m:List D->Option D):Prop where
 ex:∃fa fd ps,FnOk P w K mg base CX0 k fa fd ps (spD K m)/\mg x=some (.ref fa)/\Ig K (.ref fa)=true/\yD K fd ps []
def zE{P:FI}{w:FB}{K:Fs}{mg:Fp->Option Fl}{base:Fz}{k:Nat}{x:Fp}{st:FC}{fa:Fo}{fd:Ga}{N ps:List Fp}{f:G->Option Out}(O:Fun K x x st fa fd)(Y:mg x=some (.ref fa))(S:FnScope N ps (zl st))(Z:yD K fd ps []) 
  (j:∀(cdv:Fl) (A:FW) (outer:List Gn) (s:Fq) (H:Hp) (E:XK),Room k (A.deeper (HJ x (zl st) s.heap.objs.size fa cdv))->SDs (Xz CX0 P w K mg base N x (zl st) fa cdv A outer s H E).nox (vR st) f) :
  Callee P w K mg base (k+1) x (mir ps.length N.length f):=by
 refine⟨fa,fd,ps,O.ok S (λvs H Q E ⟨F,ds,d,U,r,e,q⟩=>?_) (λcdv A outer s H vs Q E hr ⟨F,ds,d,U,r,e,q⟩=>⟨_,j cdv A outer s H E hr,?_⟩),Y,O.kp,Z⟩
 ·unfold mir at e
  split at e
  ·rename_i h;rw[r.length];exact h
  ·cases e
 ·unfold mir at e
  split at e
  ·cases J:f (zB N.length ds)with
   | none=>rw[J]at e;cases e
   | some o=>
    rw[J]at e
    refine⟨F,H,F,zB N.length ds,o,aK U r,J,?_⟩
    cases o with
    | rt d'=>cases e;exact λv F' H' ex hv=>q v F' H' ex hv
    | nx g=>cases e;exact λσ' F' H' En z=>q _ F' H' En.ext (by simp[Is])
    | bk g=>cases e
    | ct g=>cases e
  ·cases e
def zq{k O:Nat}{x:Fp}{p:FG}{m:List D->Option D}(C:Callee X.prog X.w X.K X.mg X.base k x m)(U:Room O X.A)(Y:k<=O)(Z:Gl X x) 
  (ha:EA X (e::es) fs) (j:(x==("__debug__":Fp))=false:=by decide) (he:FK (e::es) X.env=(false,FJ e X.env)::FK es X.env:=by rfl) (z:(GJ pos (FK es X.env)).any (·.1)=false:=by rfl) :
  EE X (.Call (.Name x p) (e::es) [] pos) (xFn m fs):=by
 obtain⟨fa,fd,ps,Fn,hm,J,hb⟩:=C.ex
 exact An Fn (U.mono Y) Z hm J hb ha j he z
def zP(ds:List D):List D:=(Fy ds.length).map λ(k:Nat)=>D.tup [.int (k:Int),ds.getD k .non]
def xEn(fs:G->Option (List B)):G->Option (List D):=λΓ=>(fs Γ).bind λbs=>match bs with
 | [.d (.tup ds)]=>some (zP ds)
 | _=>none
def US{p tp:FG}{z:List Fu}{k:Nat}(hg:Gl X "enumerate")(hm:X.mg "enumerate"=none)(ha:EA X [a] fs)(hs:FK [a] X.env=[(false,FJ a X.env)]:=by rfl):
  EI X (.Tuple z k tp) (.Call (.Name "enumerate" p) [a] [] pos) (xEn fs):=Za (aC hg hm ha hs) λσ H R ⟨F0,H0,F,Γ,ds,En,e,q⟩=>by
 obtain⟨bs,hb,e⟩:=bind_some e
 refine⟨F0,H0,F,Γ,bs,En,hb,λvs F1 H1 Z r1=>?_⟩
 match bs,e,r1 with
 | [.d (.tup ds)],e,r1=>
  cases e
  obtain⟨v,rfl,hv⟩:=uB r1
  have J:Is X.K F1 (.tup ds) v:=hv
  simp only[Is]at J
  obtain⟨l,us,rfl,hf,ra⟩:=J
  refine⟨l,rfl,⟨us,SqT.of (Z.fh _ _ hf)⟩,q _ F1 H1 Z λi F2 H2 s1 s2=>?_⟩
  have O:SqT X.K H2 l us:=SqT.of (s2 _ _ (s1 _ _ hf))
  refine⟨λd U=>?_,λhl=>⟨us,O,by rw[ra.length];simpa[zP]using hl⟩⟩
  have j:i<ds.length:=by
   have:=(FO.mp U).1
   simpa[zP]using this
  obtain⟨u,hu,hi⟩:=ra.get (i:=i) (d:=ds[i]) (by simp[j])
  have Y:d=.tup [.int (i:Int),ds[i]]:=by
   have:(zP ds)[i]?=some (.tup [.int (i:Int),ds[i]]):=by
    simp[zP,FP,Hv j,HX,j]
   rw[this]at U;cases U;rfl
  subst Y
  refine⟨⟨us,u,O,hu⟩,λx H' y=>?_⟩
  obtain⟨T,v,hT,rfl,rfl,y⟩:=y
  have:=y us O
  rw[hu]at this;cases this
  refine⟨upd F2 T (.tup [.int i,u]),.fix s2 hT _,?_⟩
  simp only[Is]
  exact⟨T,_,rfl,zj,.cons vd (.cons (hi.mono (s1.trans (zz (s2.free hT) _))) .nil)⟩
end
section
variable {X:Cx} {pins:List (Fo×FD)} {σ:St} {F H:Hp} {s:Fq} {a b c e tg iter elt:Fu} {f g h:G->Option B} {pos:FG} {es:List Fu} {fs:G->Option (List B)} {tf:G->Option Bool}
def As{K:Fs}{fl:G->Option (List D)}{σ:St}{H:Hp}{Q:VK}:dE K (xL fl) σ H Q->dL K fl σ H Q:=λj=>by
 obtain⟨F0,H0,F,Γ,z,E,e,q⟩:=j
 unfold xL at e
 cases J:fl Γ with
 | none=>rw[J]at e;cases e
 | some ds=>
  rw[J]at e;cases e
  refine⟨F0,H0,F,Γ,ds,E,J,λa vs F1 H1 U hn O Y r1=>q _ (upd F1 a (.lst vs)) H1 ?_ ?_⟩
  ·exact(Ext.freeze U hn O Y)
  ·show Is _ _ (.lst ds) _
   simp only[Is]
   exact⟨a,vs,rfl,zj,r1.mono (zz O _)⟩
def XF{ifs:List Fu}{scope:Gp}{N:List Fp}{src:G->Option (List D)}{ms:List (Option Nat)}{is:List Nat}{t:D->G->Option G}{cond:G->Option Bool}{el:G->Option B}{i:Nat}{y:Fp}{py spos:FG} 
  (hc:X.calm=true) (ok:CompOk X.env.scope X.N scope N ms) (hi:EC X tg iter src) (hb:Blk X scope N tg ifs elt is t cond el) (nd:∀(i k j:Nat),ms[i]?=some (some j)->ms[k]?=some (some j)->i=k) (fr:∀j∈is,∀k,ms[j]?≠some (some k))
  (hN:X.N.Nodup) (hy:X.N[i]?=some y) (hx:Loc X.env.scope y) (hsw:GP (.ListComp elt [⟨tg,iter,ifs,0⟩] scope pos) (some (.Name y py)) spos.line X.env=pure true:=by rfl)
  (hf:X.fn y=true\/X.env.scope.names.lookup y=some .local:=by first|exact .inl rfl|exact .inr rfl|assumption)
  (hs:∀x,Ir iter X.env x=pure x:=by intro _;rfl):SD X (.Assign [.Name y py] (.ListComp elt [⟨tg,iter,ifs,0⟩] scope pos) spos) (yf i (xL (yE src ms t cond el))) :=
 yV (Wf (g:=dGs X.K is t) (tf:=dT X.K cond) (te:=dE X.K el) hc ok hi hb.go hN hy hx hsw hf hs) λE σ H q=>by
  have q':=fL (X:=X) q
  exact UP nd fr (As q')
def B4(ms:List (Option Nat)):Bool:=(Fy ms.length).all λi=>(Fy ms.length).all λk=>decide (i=k) || decide (ms[i]?=some none) || decide (ms[i]?≠ms[k]?)
def xA(h:B4 ms=true)(i k j:Nat)(z:ms[i]?=some (some j))(J:ms[k]?=some (some j)):i=k:=by
 have l1:=(FO.mp z).1
 have l2:=(FO.mp J).1
 have q:=GR.mp (GR.mp h i (Gh.mpr l1)) k (Gh.mpr l2)
 simp only[MM,decide_eq_true_eq]at q
 rcases q with(q|q)|q
 ·exact q
 ·rw[z]at q;cases q
 ·exact absurd (z.trans J.symm) q
def B5(z:List Nat)(ms:List (Option Nat)):Bool:=z.all λj=>decide (ms[j]?=some none)
def xB(h:B5 z ms=true)(j:Nat)(J:j∈z)(k:Nat):ms[j]?≠some (some k):=λe=>by
 have q:=of_decide_eq_true (GR.mp h j J)
 rw[e]at q;cases q
def At{P:FI}{w:FB}{K:Fs}{mg:Fp->Option Fl}{base:Fz}{k:Nat}{x:Fp}{st:FC}{fa:Fo}{fd:Ga}{N ps:List Fp}{f:G->Option Out}(U:Fun K x x st fa fd)(S:FnScope N ps (zl st)) 
  (j:∀(cdv:Fl) (A:FW) (outer:List Gn) (s:Fq) (H:Hp) (E:XK),Room k (A.deeper (HJ x (zl st) s.heap.objs.size fa cdv))->SDs (Xz CX0 P w K mg base N x (zl st) fa cdv A outer s H E).nox (vR st) f) :
  FnOk P w K mg base CX0 (k+1) fa fd ps (spD K (mir ps.length N.length f)):=by
 refine U.ok S (λvs H Q E ⟨F,ds,d,O,r,e,q⟩=>?_) (λcdv A outer s H vs Q E Y ⟨F,ds,d,O,r,e,q⟩=>⟨_,j cdv A outer s H E Y,?_⟩)
 ·unfold mir at e
  split at e
  ·rename_i h;rw[r.length];exact h
  ·cases e
 ·unfold mir at e
  split at e
  ·cases J:f (zB N.length ds)with
   | none=>rw[J]at e;cases e
   | some o=>
    rw[J]at e
    refine⟨F,H,F,zB N.length ds,o,aK O r,J,?_⟩
    cases o with
    | rt d'=>cases e;exact λv F' H' ex Z=>q v F' H' ex Z
    | nx g=>cases e;exact λσ' F' H' En z=>q _ F' H' En.ext (by simp[Is])
    | bk g=>cases e
    | ct g=>cases e
  ·cases e
def Au{K:Fs}{m:List D->Option D}{H:Hp}{p:Fo}{ns:List Int}(j:SqL K H p (ns.map V.int))(h:m [.scr ns]=some (.bl true)):spD K m [.ref p] H (λv _=>v=.bl true) λ_ _ _=>False :=
 ⟨H,[.scr ns],.bl true,zm.refl _,.cons (by simp only[Is];exact⟨p,rfl,j⟩) .nil,h,λv F' H' _ r=>by simpa[Is]using r⟩
structure GlobT (K:Fs) (mg:Fp->Option Fl) (x:Fp) (ds:List D):Prop where
 ex:∃p vs,mg x=some (.ref p)/\(∀H,SqT K H p vs)/\∀F,Are K F ds vs
def VM{K:Fs}{mg:Fp->Option Fl}{x:Fp}{p:Fo}{z:Option Fo}{its:Array Fl}{n:Nat}{J:Array (Option Fl)}(xs:List Fp)(O:mg x=some (.ref p))(U:K.lookup p=some ⟨.type "tuple",z,.seq its n,J⟩)(Y:its.size<=Fv)(Z:zC (xs.map V.str) its.toList):GlobT K mg x (xs.map D.str) :=
 ⟨p,xs.map V.str,O,λH=>.inr ⟨_,its,n,U,rfl,rfl,Y,Z⟩,λF=>by
  induction xs with
  | nil=>exact .nil
  | cons y r ih=>exact .cons (by simp[Is]) (by
   have:∀zs:List Fp,Are K F (zs.map D.str) (zs.map V.str):=λzs=>by
    induction zs with
    | nil=>exact .nil
    | cons a b j=>exact .cons (by simp[Is]) j
   exact this r)⟩
def xG(ds:List D):G->Option B:=λ_=>some (.c ds)
def fO(T:GlobT X.K X.mg x ds)(j:Gl X x)(J:(x==("__debug__":Fp))=false:=by decide):EE X (.Name x p) (xG ds):=by
 obtain⟨q,vs,O,h1,h2⟩:=T.ex
 exact yx (u7 (v:=.ref q) j O rfl J) λσ H Q ⟨F0,H0,F,Γ,z,E,e,k⟩=>by cases e;exact k _ F H (.refl E.fh) ⟨q,vs,rfl,h1 H,h2 F⟩
def uj(r:Room k A):A.units+128<Gi:=by have:=r.un;omega
def XG(f:G->Option B):G->Option B:=λΓ=>(f Γ).bind λb=>b.int.map λi=>.d (.int (-i))
def Wl(J:EE X a f):EE X (.UnaryOp .USub a pos) (XG f):=yx (BP Ac J) λσ H Q j=>by
 obtain⟨F0,H0,F,Γ,z,E,e,q⟩:=j
 obtain⟨x,O,e⟩:=bind_some e
 obtain⟨i,hi,rfl⟩:=map_some e
 exact⟨F0,H0,F,Γ,x,E,O,λv F1 H1 U r1=>⟨i,vD hi r1,q _ F1 H1 U (vd (K:=X.K) (F:=F1))⟩⟩
def om:OpR X (GW .Add) (λx y H Q=>∃p q ys,x=.ref p/\y=.ref q/\SqT X.K H p []/\SqT X.K H q ys/\Q (.ref q) H):=by
 intro pins s σ H x y v u Q I rx ry h
 obtain⟨p,q,ys,rfl,rfl,hp,hq,k⟩:=h
 cases rx
 cases ry
 obtain⟨its,r1,p1,_⟩:=I.tuple hp
 obtain⟨j,r2,p2,_⟩:=I.tuple hq
 cases r1
 obtain⟨⟨cls,dd,data,sl⟩,Z,hc,n,hd⟩:=id p1
 obtain⟨⟨aa,U,data2,Y⟩,z,J,n2,O⟩:=id p2
 simp only at hc hd J O
 subst hc hd J O
 exact Mw ⟨_,Z,rfl⟩ ⟨_,z,rfl⟩ Mx My Mz MA (MB _ _)
  (tuple_addW0 p q #[] j.toArray n n2 dd U sl Y rfl) ⟨Z,z,⟨.ref q,H,I,rfl,k⟩⟩
def VN(K:Fs):R2:=λx y H Q=>qQ K x y H Q\/(∃p q ys,x=.ref p/\y=.ref q/\SqT K H p []/\SqT K H q ys/\Q (.ref q) H)
def on:OpR X (GW .Add) (VN X.K):=rN.or om
def rW{K:Fs}:OpB K (VN K) Wi:=λF H x y v u d Q j hx hy e q=>by
 have key:∃a b,x=.d (.tup a)/\y=.d (.tup b):=by
  cases x with
  | d w=>
   cases w with
   | tup a=>
    cases y with
    | d w=>cases w with
     | tup b=>exact⟨a,b,rfl,rfl⟩
     | _=>cases e
    | _=>cases e
   | _=>cases e
  | _=>cases e
 obtain⟨a,b,rfl,rfl⟩:=key
 ·unfold Wi at e
  simp only at e
  by_cases Y:a.length+b.length<=Fv
  ·rw[if_pos Y]at e;cases e
   have J:Is K F (.tup a) v:=hx
   have O:Is K F (.tup b) u:=hy
   have Z:=J
   have aa:=O
   simp only[Is]at J O
   obtain⟨p,vs,rfl,hp,r1⟩:=J
   obtain⟨p2,us,rfl,U,r2⟩:=O
   by_cases ha:a=[]
   ·subst ha
    have:=r1.inv0;subst this
    exact .inr ⟨p,p2,us,rfl,rfl,SqT.of (j _ _ hp),SqT.of (j _ _ U),q _ F H (.refl j) aa⟩
   ·have hv:vs≠[]:=λz=>ha (by have:=r1.length;rw[z]at this;exact HL.mp this.symm)
    refine .inl ⟨p,p2,vs,us,rfl,rfl,SqT.of (j _ _ hp),SqT.of (j _ _ U),hv,by rw[r1.length,r2.length];exact Y,λz=>?_,λz l hl=>q _ (upd F l (.tup (vs++us))) _ (.fix j hl _) ?_⟩
    ·subst z
     have hb:b=[]:=HL.mp (by rw[<-r2.length];rfl)
     subst hb
     rw[Iw]at q
     exact q _ F H (.refl j) Z
    ·simp only[Is]
     exact⟨l,_,rfl,zj,(r1.append r2).mono (zz (j.free hl) _)⟩
  ·rw[if_neg Y]at e;cases e
def yI:=mOr VH (mOr Wi VJ)
def zS:OpR X (GW .Add) (λx y H Q=>rI0 (λi j=>.int (i+j)) x y H Q\/(VN X.K x y H Q\/iH x y H Q)):=lL.or (on.or Aj)
def zT{K:Fs}:OpB K (λx y H Q=>rI0 (λi j=>.int (i+j)) x y H Q\/(VN K x y H Q\/iH x y H Q)) yI:=rQ.or (rW.or rR)
end
end DD
namespace L2
open PySem PySem.Spec PyProof.Rows
section
variable {κ:Type} [DecidableEq κ]
def xu(kvs:List (κ×V))(k:κ):Option V:=(kvs.find? λj=>decide (j.1=k)).map (·.2)
def x6(kvs:List (κ×V))(k:κ)(v:V):List (κ×V) :=
 if(kvs.any λj=>decide (j.1=k))=true then kvs.map (λj=>if j.1=k then(j.1,v)else j)else kvs++[(k,v)]
def vm(kvs:List (κ×V))(k:κ):List (κ×V):=kvs.filter λj=>decide (j.1≠k)
def vN{p:κ×V}{r:List (κ×V)}{k:κ}(e:p.1=k):xu (p::r) k=some p.2:=by simp[xu,Hj,e]
def vf{p:κ×V}{r:List (κ×V)}{k:κ}(e:¬p.1=k):xu (p::r) k=xu r k:=by simp[xu,Hj,e]
theorem W4(k:κ):∀kvs:List (κ×V),(kvs.any λj=>decide (j.1=k))=(xu kvs k).isSome
 | []=>rfl
 | p::r=>by
  rw[HW]
  by_cases e:p.1=k
  ·simp only[vN e,decide_eq_true e,Bool.true_or,Option.isSome_some]
  ·rw[vf e,decide_eq_false e,Bool.false_or];exact W4 k r
def Z3(kvs:List (κ×V))(k:κ)(v:V):(x6 kvs k v).length<=kvs.length+1:=by
 unfold x6
 split
 ·rw[FF];omega
 ·rw[Gb,Gu,KA];omega
def W5{kvs:List (κ×V)}{k:κ}(v:V)(h:xu kvs k=none):x6 kvs k v=kvs++[(k,v)]:=by
 unfold x6
 rw[W4,h]
 exact if_neg (by decide)
def vb.isSome_eq(r:vb o u):o.isSome=u.isSome:=by
 cases o with
 | none=>cases u with
  | none=>rfl
  | some _=>exact(show False from r).elim
 | some _=>cases u with
  | none=>exact(show False from r).elim
  | some _=>rfl
def KV.val{kvs:List (κ×V)}{vs:List (κ×Fl)}(r:KV kvs vs)(k:κ):vb (xu kvs k) (IE vs k):=by
 unfold KV at r
 induction r with
 | nil=>exact True.intro
 | @cons p q ps j h t O=>
  obtain⟨h1,h2⟩:=h
  by_cases e:p.1=k
  ·have J:q.1=k:=h1.symm.trans e
   have b:IE (q::j) k=some q.2:=by simp[IE,Hj,J]
   rw[vN e,b];exact h2
  ·have J:¬q.1=k:=λz=>e (h1.trans z)
   have b:IE (q::j) k=IE j k:=by simp[IE,Hj,J]
   rw[vf e,b];exact O
def KV.any(r:KV kvs vs)(k:κ):(kvs.any λj=>decide (j.1=k))=vs.any λj=>decide (j.1=k):=by
 unfold KV at r
 induction r with
 | nil=>rfl
 | cons h t z=>rw[HW,HW,z,h.1]
def KV.repl(r:KV kvs vs)(k:κ)(J:zI y u):
  KV (kvs.map λj=>if j.1=k then(j.1,y)else j) (vs.map λj=>if j.1=k then(j.1,u)else j):=by
 unfold KV at r ⊢
 induction r with
 | nil=>exact .nil
 | @cons p q ps U h t O=>
  rw[FY,FY]
  refine .cons ?_ O
  obtain⟨h1,h2⟩:=h
  by_cases e:p.1=k
  ·rw[if_pos e,if_pos (h1.symm.trans e)];exact⟨h1,J⟩
  ·rw[if_neg e,if_neg (λz=>e (h1.trans z))];exact⟨h1,h2⟩
def KV.put(r:KV kvs vs)(k:κ)(j:zI y u):KV (x6 kvs k y) (LD vs k u):=by
 unfold x6 LD
 rw[r.any k]
 by_cases e:(vs.any λz=>decide (z.1=k))=true
 ·rw[if_pos e,if_pos e];exact r.repl k j
 ·rw[if_neg e,if_neg e];exact Paired.snoc r ⟨rfl,j⟩
def KV.drop(r:KV kvs vs)(k:κ):KV (vm kvs k) (without vs k):=by
 unfold KV at r ⊢
 unfold vm without
 induction r with
 | nil=>exact .nil
 | @cons p q ps O h t j=>
  obtain⟨h1,h2⟩:=h
  rw[Ko,Ko]
  by_cases e:p.1=k
  ·have a:¬decide (p.1≠k)=true:=by simp[e]
   have b:¬decide (q.1≠k)=true:=by simp[h1.symm.trans e]
   rw[if_neg a,if_neg b];exact j
  ·have J:¬q.1=k:=λz=>e (h1.trans z)
   have a:decide (p.1≠k)=true:=by simp[e]
   have b:decide (q.1≠k)=true:=by simp[J]
   rw[if_pos a,if_pos b];exact .cons ⟨h1,h2⟩ j
def KV.length(r:KV kvs vs):kvs.length=vs.length:=Paired.length r
def oo(kvs:List (κ×V))(k:κ):(vm kvs k).length<=kvs.length:=LF _ _
end
def YY(r:zI (kV k) u):(yc P w).is k u=true:=by
 cases k with
 | inl i=>obtain⟨t,e⟩:=(show ∃t,u=Value.int i t from r);subst e;exact eC P w i t
 | inr x=>obtain⟨t,e⟩:=(show ∃t,u=Value.str x t from r);subst e;exact eD P w x t
theorem QQ:∀{ks:List Key} {us:List Fl},zC (ks.map kV) us->ItemsAre (yc P w) ks us
 | [],_,r=>by rw[MJ]at r;cases r;exact .nil
 | k::ks,_,r=>by
  rw[FY]at r
  cases r with
  | cons h t=>exact .cons (YY h) (QQ t)
abbrev KT(H:Hp):List (List Key×V)->List (List Key×Fo×Fl)->Prop:=Paired λp q=>p.1=q.1/\H q.2.1=some (.tup (p.1.map kV))/\zI p.2 q.2.2
def KT.val{H:Hp}{kvs:List (List Key×V)}{xs:List (List Key×Fo×Fl)}(r:KT H kvs xs)(k:List Key):vb (xu kvs k) ((Io xs k).map (·.2)):=by
 induction r with
 | nil=>exact True.intro
 | @cons p q ps j h t O=>
  obtain⟨h1,_,h2⟩:=h
  by_cases e:p.1=k
  ·have J:q.1=k:=h1.symm.trans e
   have b:Io (q::j) k=some q.2:=by simp[Io,Hj,J]
   rw[vN e,b];exact h2
  ·have J:¬q.1=k:=λz=>e (h1.trans z)
   have b:Io (q::j) k=Io j k:=by simp[Io,Hj,J]
   rw[vf e,b];exact O
def KT.repl(r:KT H kvs xs)(k:List Key)(J:zI y u):
  KT H (kvs.map λj=>if j.1=k then(j.1,y)else j) (xs.map (putAt k u)):=by
 induction r with
 | nil=>exact .nil
 | @cons p q ps Y h t O=>
  rw[FY,FY]
  refine .cons ?_ O
  obtain⟨h1,h2,U⟩:=h
  unfold putAt
  by_cases e:p.1=k
  ·rw[if_pos e,if_pos (h1.symm.trans e)];exact⟨h1,h2,J⟩
  ·rw[if_neg e,if_neg (λz=>e (h1.trans z))];exact⟨h1,h2,U⟩
def KT.put(r:KT H kvs xs)(k:List Key)(z:H b=some (.tup (k.map kV)))(j:zI y u):
  KT H (x6 kvs k y) (storedH xs k b u):=by
 have e:(kvs.any λJ=>decide (J.1=k))=(Io xs k).isSome:=by
  rw[W4,(r.val k).isSome_eq,Og]
 unfold x6 storedH
 rw[e]
 by_cases q:(Io xs k).isSome=true
 ·rw[if_pos q,if_pos q];exact r.repl k j
 ·rw[if_neg q,if_neg q];exact Paired.snoc r ⟨rfl,z,j⟩
def KT.keeps(r:KT H kvs xs)(j:∀b ys,H b=some (.tup ys)->H' b=some (.tup ys)):KT H' kvs xs :=
 Paired.mapP r λ_ _ z=>⟨z.1,j _ _ z.2.1,z.2.2⟩
section
variable {P:FI} {w:FB} {H:Hp} {h:Fz} {a:Fo}
def qX(ok:HOk P w H h)(e:Rd H a u):yB P w H h a u:=e.ok ok
def Wm(ok:HOk P w H h)(e:Rd H a (.dK kvs)):kvs.length<=Fv/\(a==HB)=false/\∃vs,KV kvs vs/\h.DictOf (yc P w) a vs :=
 show yB P w H h a (.dK kvs)from qX ok e
def VO(ok:HOk P w H h)(e:H a=some (.dK kvs)):kvs.length<=Fv/\(a==HB)=false/\∃vs,KV kvs vs/\h.DictOf (yc P w) a vs:=Wm ok (.inl e)
def XH(ok:HOk P w H h)(e:H a=some (.tup (ks.map kV))):(I0 (yc P w)).is h ks a:=by
 obtain⟨_,its,r,o,h1,h2,n,j⟩:=(show yB P w H h a (.tup (ks.map kV))from ok a _ e)
 exact⟨o,its.toArray,n,h1,h2,j,by simpa using QQ r⟩
def VP(ok:HOk P w H h)(e:Rd H a (.dT kvs)):kvs.length<=Fv/\(a==HB)=false/\
  ∃xs,KT H kvs xs/\h.DictOfH (I0 (yc P w)) a xs:=by
 obtain⟨z,y,xs,r,o,es,ep,h1,h2,J,O,U⟩:=(show yB P w H h a (.dT kvs)from qX ok e)
 refine⟨z,y,xs,r,o,es,ep,h1,h2,J,O,λx hx=>?_,U⟩
 have all:∀{l:List (List Key×V)} {m:List (List Key×Fo×Fl)},KT H l m->∀x∈m,(I0 (yc P w)).is h x.1 x.2.1:=by
  intro l m q
  induction q with
  | nil=>intro x hx;exact nomatch hx
  | @cons p q ps Z j t Y=>
   intro x hx
   rcases FL.mp hx with e|hx
   ·subst e
    exact XH ok (by rw[<-j.1];exact j.2.1)
   ·exact Y x hx
 exact all r x hx
def qY(ok:HOk P w H h)(e:H a=some (.dT kvs)):kvs.length<=Fv/\(a==HB)=false/\
 ∃xs,KT H kvs xs/\h.DictOfH (I0 (yc P w)) a xs:=VP ok (.inl e)
end
def x9(H:Hp)(a:Fo)(y:V)(r:Option V):Prop :=
 (∃kvs k,Rd H a (.dK kvs)/\y=kV k/\r=xu kvs k)\/∃kvs k b,Rd H a (.dT kvs)/\y=.ref b/\H b=some (.tup (k.map kV))/\r=xu kvs k
def uN(H:Hp)(a:Fo)(y v:V)(H':Hp):Prop :=
 (∃kvs k,H a=some (.dK kvs)/\y=kV k/\kvs.length<Fv/\H'=upd H a (.dK (x6 kvs k v)))\/
 ∃kvs k b,H a=some (.dT kvs)/\y=.ref b/\H b=some (.tup (k.map kV))/\kvs.length<Fv/\H'=upd H a (.dT (x6 kvs k v))
def x9.k{H:Hp}{a:Fo}{kvs:List (Key×V)}{k:Key}(e:H a=some (.dK kvs)):x9 H a (kV k) (xu kvs k):=.inl ⟨kvs,k,.inl e,rfl,rfl⟩
def x9.t{H:Hp}{a b:Fo}{kvs:List (List Key×V)}{k:List Key}(e:H a=some (.dT kvs))(j:H b=some (.tup (k.map kV))):x9 H a (.ref b) (xu kvs k):=.inr ⟨kvs,k,b,.inl e,rfl,j,rfl⟩
def uN.k{H:Hp}{a:Fo}{kvs:List (Key×V)}{k:Key}{v:V}(e:H a=some (.dK kvs))(j:kvs.length<Fv):uN H a (kV k) v (upd H a (.dK (x6 kvs k v))):=.inl ⟨kvs,k,e,rfl,j,rfl⟩
def uN.t{H:Hp}{a b:Fo}{kvs:List (List Key×V)}{k:List Key}{v:V}(e:H a=some (.dT kvs))(j:H b=some (.tup (k.map kV)))(z:kvs.length<Fv):
 uN H a (.ref b) v (upd H a (.dT (x6 kvs k v))):=.inr ⟨kvs,k,b,e,rfl,j,z,rfl⟩
section
variable {X:Cx} {pins:List (Fo×FD)} {σ:St} {H:Hp} {s:Fq} {a:Fo} {y v:V} {u r:Fl} {o:Option V} {A:FW} {E:Fl->Fq->Prop}
def Inv.big(I:Inv X pins σ H s):HB<s.heap.objs.size:=by
 have h:Gv<s.heap.objs.size:=(I.mod.glob.keeps I.bk).lt
 exact GT (by decide) h
def QR{Q:Fl->Fq->Prop}(hu:A.units+1<Gi)(I:Inv X pins σ H s)(g:x9 H a y (some v))(ry:zI y u)(h:∀O s',Inv X pins σ H s'->zI v O->Q O s'):
  wpAny (Fx X.prog X.w) A (KH (.ref a) u) Q E s:=by
 rcases g with⟨kvs,k,e,U,l⟩|⟨kvs,k,b,e,U,eb,l⟩
 ·subst U
  obtain⟨z,hd,vs,j,Y⟩:=Wm I.hok e
  obtain⟨O,Z,J⟩:=vb.some_of (v:=v) (o:=IE vs k) (by rw[l];exact j.val k)
  exact wpAny_getItem_of (YY ry) Y.mapOf Z (h O _ (I.tok _) J)
 ·subst U
  cases (show u=Value.ref b from ry)
  obtain⟨z,hd,xs,j,Y⟩:=VP I.hok e
  obtain⟨O,Z,J⟩:=vb.some_of (v:=v) (o:=(Io xs k).map (·.2)) (by rw[l];exact j.val k)
  obtain⟨p,hp,aa⟩:=Hx.mp Z
  refine wpAny_getItem_heap (MS hu) (XH I.hok eb) Y hp ?_
  rw[aa]
  exact h O _ (I.tok _) J
def fP{Q:Fl->Fq->Prop}(Z:A.units+1<Gi)(I:Inv X pins σ H s)(g:x9 H a y o)(Y:zI y u)(h:∀s',Inv X pins σ H s'->Q (.bool (!o.isSome)) s'):
  wpAny (Fx X.prog X.w) A (Gz .NotIn u (.ref a)) Q E s:=by
 rcases g with⟨kvs,k,e,J,l⟩|⟨kvs,k,b,e,J,eb,l⟩
 ·subst J
  obtain⟨z,O,vs,j,U⟩:=Wm I.hok e
  refine wpAny_notIn_of (YY Y) O U.mapOf ?_
  rw[<-(j.val k).isSome_eq,<-l]
  exact h _ (I.tok _)
 ·subst J
  cases (show u=Value.ref b from Y)
  obtain⟨z,O,xs,j,U⟩:=VP I.hok e
  refine wpAny_notIn_heap (MS Z) (XH I.hok eb) O U ?_
  have q:=(j.val k).isSome_eq
  rw[Og]at q
  rw[<-q,<-l]
  exact h _ (I.tok _)
def Yl{h':Fz}{t':Nat}{j:HO}(I:Inv X pins σ H s)(J:Mut (H a))(O:Ka a s.heap h')(U:∃q,h'.get? a=some q)(new:yB X.prog X.w (upd H a j) h' a j):
  Inv X pins σ (upd H a j) {s with heap:=h',toks:=t'} :=
 I.write (x:=a) (e:=a) J (.inl rfl) (λb q Y z=>(O.2 b Y).trans z) U new
def VQ{P:FI}{w:FB}{H':Hp}{h':Fz}{kvs:List (Key×V)}{vs:List (Key×Fl)}(z:kvs.length<=Fv)(J:(a==HB)=false)(j:KV kvs vs)(O:h'.DictOf (yc P w) a vs):
 yB P w H' h' a (.dK kvs):=⟨z,J,vs,j,O⟩
def l5{Q:Unit->Fq->Prop}(hu:A.units+1<Gi)(I:Inv X pins σ H s)(g:uN H a y v H')(ry:zI y u)(rv:zI v r)(h:∀s',Inv X pins σ H' s'->Q () s'):
  wpAny (Fx X.prog X.w) A (La (.ref a) u r) Q E s:=by
 rcases g with⟨kvs,k,e,U,l,Y⟩|⟨kvs,k,b,e,U,eb,l,Y⟩
 ·subst U Y
  obtain⟨z,Z,vs,j,dd⟩:=VO I.hok e
  have hz:vs.length<=Fv:=by rw[<-j.length];exact z
  have hl:(x6 kvs k v).length<=Fv:=by have:=Z3 kvs k v;omega
  refine wpAny_setItem_pairs (hsz:=hz) (YY ry) dd λh' J hs=>h _ ?_
  have he:∃q,h'.get? a=some q:=(by obtain⟨q,_,_,O,_⟩:=J;exact⟨q,O⟩)
  exact Yl I (by rw[e];exact True.intro) hs he (VQ hl Z (j.put k rv) J)
 ·subst U Y
  cases (show u=Value.ref b from ry)
  obtain⟨z,Z,xs,j,dd⟩:=qY I.hok e
  have hz:xs.length<=Fv:=by rw[<-Paired.length j];exact z
  have hl:(x6 kvs k v).length<=Fv:=by have:=Z3 kvs k v;omega
  refine wpAny_setItem_heap (hsz:=hz) (MS hu) (XH I.hok eb) dd λh' J hs=>h _ ?_
  obtain⟨q,es,ep,O,h2,h3,h4,_,h5⟩:=J
  refine Yl I (by rw[e];exact True.intro) hs ⟨q,O⟩ ⟨hl,Z,_,(j.put k eb rv).keeps λc ys ec=>?_,q,es,ep,O,h2,h3,h4,h5⟩
  rw[zd (vX ec e (λz=>nomatch z))]
  exact ec
end
section
variable {X:Cx} {pins:List (Fo×FD)} {σ:St} {H:Hp} {s:Fq} {a:Fo} {kvs:List (Key×V)} {k:Key} {u:Fl} {A:FW} {E:Fl->Fq->Prop}
def B6{v:V}{j:List Fl}{Q:Fl->Fq->Prop}(I:Inv X pins σ H s)(e:H a=some (.dK kvs))(Y:zI (kV k) u)(l:xu kvs k=some v)(hm:j=[]\/∃x,j=[x]) 
  (h:∀O s',Inv X pins σ (upd H a (.dK (vm kvs k))) s'->zI v O->Q O s'):wpAny (Fx X.prog X.w) A (call (.builtin "dict.pop") (.ref a::u::j)) Q E s:=by
 obtain⟨z,hd,vs,J,dd⟩:=VO I.hok e
 obtain⟨O,hw,Z⟩:=vb.some_of (v:=v) (o:=IE vs k) (by rw[<-l];exact J.val k)
 have hp:(keyPart u).isSome=true:=by
  cases k with
  | inl i=>obtain⟨t,q⟩:=(show ∃t,u=Value.int i t from Y);subst q;rfl
  | inr x=>obtain⟨t,q⟩:=(show ∃t,u=Value.str x t from Y);subst q;rfl
 have ha:argsOk "dict.pop" ⟨.ref a::u::j,[]⟩:=by
  rcases hm with q|⟨x,q⟩
  ·subst q;exact PySem.F.args_dict_pop_2 _ _
  ·subst q;exact PySem.F.args_dict_pop_3 _ _ _
 refine call_meetsIn Oh dd.typeIs PySem.F.entry_dict_pop ha (meets_dict_pop_there (yc X.prog X.w) a (YY Y) j hm hp)
  ⟨vs,O,dd,by rw[<-J.length];exact z,hw,λh' U hs=>h O _ ?_ Z⟩
 have he:∃q,h'.get? a=some q:=(by obtain⟨q,_,_,hq,_⟩:=U;exact⟨q,hq⟩)
 exact Yl I (by rw[e];exact True.intro) hs he (VQ (Ge (oo kvs k) z) hd (J.drop k) U)
def B7{Q:Fl->Fq->Prop}(I:Inv X pins σ H s)(e:Rd H a (.dK kvs))(h:∀t s',Inv X pins σ H s'->Q (.int kvs.length t) s'):wpAny (Fx X.prog X.w) A (call (.builtin "len") [.ref a]) Q E s:=by
 obtain⟨z,J,vs,j,O⟩:=Wm I.hok e
 refine call_len_dict J O (by rw[<-j.length];rw[HG]at z;omega) ?_
 rw[<-j.length]
 exact h _ _ (I.tok _)
end
def oq(i:Fu):Prop:=∀j z,KG i false j z=operate [j,z] (KH j z)
def rX{prog:FI}{w:FB}{A:FW}{E:Fl->Fq->Prop}{s:Fq}{env:Gn}{value slice:Fu}{pos:FG}{T id:String}{Q:Fl->Fq->Prop} 
  (hl:Kp (.type T) "__getitem__"=pure (some (.builtin id))) (hs:oq slice)
  (h:wpAny (Fx prog w) A (FJ value env) (λo s₁=>wpAny (Fx prog w) A (FJ slice env) (λi s₂=>s₂.TypeIs o T/\wpAny (Fx prog w) A (KH o i) Q E s₂) E s₁) E s) :
  wpAny (Fx prog w) A (FJ (.Subscript value slice pos) env) Q E s:=by
 refine Subscript_ (Hf h (λo s₁ h₁=>Hf h₁ (λi s₂ h₂=>?_) λ_ _ x=>x) λ_ _ x=>x)
 obtain⟨hT,h₂⟩:=h₂
 unfold MD
 refine Ft ?_
 rw[Oi hT.not_modules]
 refine Ft (KU hT hl ?_)
 have fin:wpAny (Fx prog w) A (KG slice false o i) (λr s₃=>wpAny (Fx prog w) A (Oj value o r>>=λ_=>pure r) Q E s₃) E s₂:=by
  rw[hs o i]
  exact Ol (Hf h₂ (λr s₃ h₃=>Ft (Om (FS h₃))) λ_ _ x=>x)
 first
  | exact FS (Ft fin)
  | exact Ft (FS (Ft fin))
  | exact Ft fin
def WR(I:Inv X pins σ H s)(g:x9 H a y o):s.TypeIs (.ref a) "dict":=by
 rcases g with⟨kvs,k,e,_,_⟩|⟨kvs,k,b,e,_,_,_⟩
 ·obtain⟨_,_,vs,_,j⟩:=Wm I.hok e
  exact j.typeIs
 ·obtain⟨_,_,xs,_,j⟩:=VP I.hok e
  exact j.typeIs
def B8(td ty:TE):TE:=λσ H Q=>td σ H λx H1=>ty σ H1 λy H2=>∃a v,x=.ref a/\x9 H2 a y (some v)/\Q v H2
def rY(ty td:TE):TE:=λσ H Q=>ty σ H λy H1=>td σ H1 λx H2=>∃a o,x=.ref a/\x9 H2 a y o/\Q (.bl (!o.isSome)) H2
def B9(td ty tv:TE):TS:=λD σ H=>tv σ H λv H1=>td σ H1 λx H2=>ty σ H2 λy z=>∃a j,x=.ref a/\uN z a y v j/\D.nx σ j
section
variable {X:Cx} {o i e value:Fu} {pos pos' tpos:FG} {td ty tv:TE}
def UT(J:X.A.units+1<Gi)(O:PE X o td)(hi:PE X i ty)(U:oq i):PE X (.Subscript o i pos) (B8 td ty):=by
 intro pins s σ H Q I h
 refine rX On.lookup U (thn (O pins s σ H _ I h) λu s1 ⟨x,H1,Y,Z,q1⟩=>thn (hi pins s1 σ H1 _ Y q1) λiv s2 ⟨y,H2,z,ry,a,v,ex,g,q2⟩=>?_)
 subst ex
 obtain rfl:u=Value.ref a:=Z
 exact⟨WR z g,QR J z g ry λw' s3 I3 j=>⟨v,H2,I3,j,q2⟩⟩
def QS(j:X.A.units+1<Gi)(hi:PE X i ty)(z:PE X o td):PC X .NotIn i o (rY ty td):=by
 intro pins s σ H Q I h
 refine thn (hi pins s σ H _ I h) λiv s1 ⟨y,H1,J,O,q1⟩=>thn (z pins s1 σ H1 _ J q1) λu s2 ⟨x,H2,U,Y,a,ov,ex,g,q2⟩=>?_
 subst ex
 obtain rfl:u=Value.ref a:=Y
 exact fP j U g O λs3 Z=>⟨.bl (!ov.isSome),H2,Z,rfl,q2⟩
def Ym(hu:X.A.units+1<Gi)(ho:PE X o td)(hi:PE X i ty)(hv:PE X value tv)(hs:GP value (some (.Subscript o i pos')) pos.line X.env=pure false):
  PS X (.Assign [.Subscript o i pos'] value pos) (B9 td ty tv):=by
 intro pins s σ H D I h
 refine wpAny_Assign_Subscript (thn (hv pins s σ H _ I h) λr s1 ⟨v,H1,I1,rv,q1⟩=>thn (ho pins s1 σ H1 _ I1 q1) λu s2 ⟨x,H2,I2,rx,q2⟩=>thn (hi pins s2 σ H2 _ I2 q2) λiv s3 ⟨y,H3,I3,ry,a,H4,ex,g,q3⟩=>?_) hs
 subst ex
 obtain rfl:u=Value.ref a:=rx
 exact l5 hu I3 g ry rv λs4 I4=>⟨σ,H4,I4,q3⟩
end
def aL(h:Fz)(j:HB<h.objs.size):yB P w H (h.push {cls:=.type "dict",data:=.dict #[]}) h.objs.size (.dK []) :=
 ⟨GI _,beq_eq_false_iff_ne.mpr (FH (Gd j)),[],.nil,Oo h⟩
def ou(h:Fz)(j:HB<h.objs.size):yB P w H (h.push {cls:=.type "dict",data:=.dict #[]}) h.objs.size (.dT []) :=
 ⟨GI _,beq_eq_false_iff_ne.mpr (FH (Gd j)),[],.nil,_,#[],0,Gr _ rfl,⟨rfl,rfl,rfl⟩,rfl,rfl,MT⟩
def Av:TE:=λ_ H Q=>∀p,H p=none->Q (.ref p) (upd H p (.dK []))
section
variable {X:Cx} {pos:FG}
def uk:PE X (.Dict [] [] pos) Av:=λpins s σ H Q I h=>
 wpAny_Dict_empty ⟨.ref s.heap.objs.size,_,I.laid (a:=s.heap.objs.size) (o:=.dK []) (t':=s.toks) (λ_ _ q=>FQ _ q) (FA _) (aL s.heap I.big),rfl,h _ (I.hok.fresh (FA _))⟩
end
def VR:List (TE×TE)->St->Hp->(List (V×V)->Hp->Prop)->Prop
 | [],_,H,Q=>Q [] H
 | (tk,tv)::r,σ,H,Q=>tk σ H λx H1=>tv σ H1 λy H2=>VR r σ H2 λps j=>Q ((x,y)::ps) j
abbrev VV:List (V×V)->List (Fl×Fl)->Prop:=Paired λp q=>zI p.1 q.1/\zI p.2 q.2
def PPs(X:Cx)(pos:FG)(keys:List (Option Fu))(j:List Fu)(trs:List (TE×TE)):Prop :=
 ∀(pins:List (Fo×FD)) (s:Fq) (σ:St) (H:Hp) (Q:List (V×V)->Hp->Prop),Inv X pins σ H s->VR trs σ H Q->
  wpAny (Fx X.prog X.w) X.A (evalPairs (pairTrees keys j X.env pos)) (λvs s'=>∃ps H',Inv X pins σ H' s'/\VV ps vs/\Q ps H') X.xe s
def fQ:PPs X pos [] [] []:=λpins s σ H Q I h=>pairTrees_nil_walk ⟨[],H,I,.nil,h⟩
def aM(J:PE X k tk)(O:PE X v tv)(U:PPs X pos ks vs trs):
  PPs X pos (some k::ks) (v::vs) ((tk,tv)::trs):=λpins s σ H Q I h=>
 pairTrees_cons_walk (thn (J pins s σ H _ I h) λu s1 ⟨x,H1,Y,Z,q1⟩=>thn (O pins s1 σ H1 _ Y q1) λw2 s2 ⟨y,H2,I2,ry,q2⟩=>
  thn (U pins s2 σ H2 _ I2 q2) λws s3 j=>(by obtain⟨ps,H3,I3,z,q3⟩:=j;exact⟨(x,y)::ps,H3,I3,.cons ⟨Z,ry⟩ z,q3⟩))
def vg(kvs j:List (Key×V)):List (Key×V):=j.foldl (λacc z=>x6 acc z.1 z.2) kvs
def KV.merge:∀{j:List (Key×V)} {rs:List (Key×Fl)} {kvs:List (Key×V)} {vs:List (Key×Fl)},KV j rs->KV kvs vs->KV (vg kvs j) (merged vs rs):=by
 intro j rs kvs vs r
 unfold KV at r
 induction r generalizing kvs vs with
 | nil=>intro q;exact q
 | @cons p q ps O h t z=>
  intro J
  have e:KV (x6 kvs p.1 p.2) (LD vs q.1 q.2):=by
   have:=J.put p.1 h.2
   rw[<-h.1];exact this
  exact z e
theorem uO:∀(j kvs:List (Key×V)),(vg kvs j).length<=kvs.length+j.length
 | [],kvs=>by show kvs.length<=kvs.length+0;omega
 | p::r,kvs=>by
  have h1:=uO r (x6 kvs p.1 p.2)
  have h2:=Z3 kvs p.1 p.2
  show(vg (x6 kvs p.1 p.2) r).length<=_
  rw[Gu];omega
theorem VS:∀{kvs:List (Key×V)} {ws:List (Fl×Fl)},VV (kvs.map λj=>(kV j.1,j.2)) ws->∃rs,Carries (yc P w) ws rs/\KV kvs rs
 | [],_,r=>by rw[MJ]at r;cases r;exact⟨[],True.intro,.nil⟩
 | p::kvs,_,r=>by
  rw[FY]at r
  cases r with
  | @cons a b as bs h t=>
   obtain⟨rs,c,q⟩:=VS (P:=P) (w:=w) t
   obtain⟨J,z⟩:=b
   exact⟨(p.1,z)::rs,⟨YY h.1,rfl,c⟩,.cons ⟨rfl,h.2⟩ q⟩
def Ca(trs:List (TE×TE)):TE:=λσ H Q=>∀p,H p=none->VR trs σ (upd H p (.dK [])) λps H2=>H2 p=some (.dK [])/\∃kvs:List (Key×V),ps=kvs.map (λj=>(kV j.1,j.2))/\kvs.length<=15/\Q (.ref p) (upd H2 p (.dK (vg [] kvs)))
def rZ(h:PPs X pos keys j trs)(J:keys.all (·.isSome)=true)(hl:keys.length=j.length)(h0:keys≠[]) 
  (U:keys.length<=15):PE X (.Dict keys j pos) (Ca trs):=by
 intro pins s σ H Q I q
 have hn:=I.hok.fresh (FA s.heap.objs.size)
 have I1:=I.laid (a:=s.heap.objs.size) (o:=.dK []) (h':=s.heap.push {cls:=.type "dict",data:=.dict #[]}) (t':=s.toks) (λ_ _ q=>FQ _ q) (FA _) (aL s.heap I.big)
 refine wpAny_Dict_walk (knd:=yc X.prog X.w) J hl h0 U (thn (h pins _ σ _ _ I1 (q _ hn)) λws s2 ⟨ps,H2,Z,Y,e,kvs,ep,lk,q2⟩=>?_)
 subst ep
 obtain⟨rs,c,rk⟩:=VS (P:=X.prog) (w:=X.w) Y
 obtain⟨z,hd,aa,r0,dd⟩:=VO Z.hok e
 cases r0
 refine⟨rs,c,dd,λh' O hs=>⟨.ref s.heap.objs.size,_,?_,rfl,q2⟩⟩
 have hz:(vg [] kvs).length<=Fv:=by
  have h1:=uO kvs []
  rw[KA]at h1
  rw[HG];omega
 have he:∃q,h'.get? s.heap.objs.size=some q:=(by obtain⟨q,_,_,hq,_⟩:=O;exact⟨q,hq⟩)
 exact Yl Z (by rw[e];exact True.intro) hs he (VQ hz hd (rk.merge .nil) O)
structure M1 (X:Cx) (o:Fu) (m:Fp) (apos:FG) (e:Fu) (cpos:FG):Prop where
 base:Kg o m X.env (FJ o X.env)=FJ o X.env
 few:((GJ cpos (FK [e] X.env)).all (λx=>!x.1) && (Lm cpos (Ln [] X.env)).all (λx=>x.1.isSome)
  && decide (([e]:List Fu).length+([]:List KD).length+(if([]:List KD).isEmpty then 0 else 1)<30))=true
 line:(apos.endLine==cpos.line)=true
 trees:GJ cpos (FK [e] X.env)=[(false,FJ e X.env)]
def IsD(H:Hp)(a:Fo):Prop:=(∃kvs,Rd H a (.dK kvs))\/∃kvs,Rd H a (.dT kvs)
def Aw(I:Inv X pins σ H s)(d:IsD H a):
  s.TypeIs (.ref a) "dict"/\(∀b,Value.ref a=.ref b->∃j,s.heap.get? b=some j/\j.dict=none)/\(a==HB)=false:=by
 rcases d with⟨kvs,e⟩|⟨kvs,e⟩
 ·obtain⟨_,J,vs,_,z⟩:=Wm I.hok e
  refine⟨z.typeIs,λb q=>?_,J⟩
  cases q
  obtain⟨j,_,_,h1,h2,_⟩:=z
  exact⟨j,h1,h2.2.1⟩
 ·obtain⟨_,J,xs,_,z⟩:=VP I.hok e
  refine⟨z.typeIs,λb q=>?_,J⟩
  cases q
  obtain⟨j,_,_,h1,h2,_⟩:=z
  exact⟨j,h1,h2.2.1⟩
section
variable {X:Cx} {pins:List (Fo×FD)} {σ:St} {H:Hp} {s:Fq} {a:Fo} {y d:V} {u r:Fl} {o:Option V} {A:FW} {E:Fl->Fq->Prop}
end
def Ax(td ty:TE):TE:=λσ H Q=>td σ H λx H1=>∃a,x=.ref a/\IsD H1 a/\ty σ H1 λy H2=>∃kvs k v,H2 a=some (.dK kvs)/\y=kV k/\xu kvs k=some v/\Q v (upd H2 a (.dK (vm kvs k)))
section
variable {X:Cx} {o e f:Fu} {apos cpos:FG} {td ty tx:TE}
def ox(ho:PE X o td)(he:PE X e ty)(m:M1 X o "pop" apos e cpos):PE X (.Call (.Attribute o "pop" apos) [e] [] cpos) (Ax td ty):=by
 intro pins s σ H Q I h
 refine wpAny_Call_method m.base m.few m.line Op Oh PySem.F.type_dict_pop (thn (ho pins s σ H _ I h) λu s1 ⟨x,H1,I1,rx,a,ex,d,q1⟩=>?_)
 subst ex
 obtain rfl:u=Value.ref a:=rx
 obtain⟨t1,t2,_⟩:=Aw I1 d
 refine⟨t1,t2,?_⟩
 rw[m.trees]
 refine Lr rfl (NV (Mp (thn (he pins s1 σ H1 _ I1 q1) λiv s2 ⟨y,H2,I2,ry,kvs,k,v,ea,ey,l,q2⟩=>Mo ?_)))
 subst ey
 exact B6 I2 ea ry l (.inl rfl) λw' s3 I3 rw'=>⟨v,_,I3,rw',q2⟩
end
section
variable {X:Cx} {pins:List (Fo×FD)} {σ:St} {H:Hp} {s:Fq} {a:Fo} {kvs:List (Key×V)} {A:FW} {E:Fl->Fq->Prop}
end
section
variable {X:Cx} {pins:List (Fo×FD)} {σ:St} {H:Hp} {s:Fq} {a:Fo} {y:V} {u:Fl} {A:FW} {E:Fl->Fq->Prop}
end
end L2
namespace L2
open PySem PySem.Spec PyProof.Rows
section
variable {X:Cx}
def QT:vI X (.builtin "len") (λxs H Q=>∃a kvs,xs=[V.ref a]/\H a=some (.dK kvs)/\Q (.int kvs.length) H):=by
 intro pins s σ H xs us Q I r h
 obtain⟨a,kvs,rfl,j,q⟩:=h
 obtain⟨u,rfl,z⟩:=Wd r
 cases z
 exact B7 I (.inl j) λt s' J=>⟨.int kvs.length,H,J,⟨t,rfl⟩,q⟩
end
section
variable {κ:Type} [DecidableEq κ]
def l6{p:κ×V}{r:List (κ×V)}{k:κ}(e:p.1=k):vm (p::r) k=vm r k:=by
 unfold vm
 rw[Ko,if_neg (by simp[e])]
def l7{p:κ×V}{r:List (κ×V)}{k:κ}(e:¬p.1=k):vm (p::r) k=p::vm r k:=by
 unfold vm
 rw[Ko,if_pos (by simp[e])]
end
end L2
namespace DD
open PySem PySem.Spec L2
open PyProof.Rows hiding St
noncomputable def XI:D->Option Key
 | .int i=>some (.inl i)
 | .str x=>some (.inr x)
 | _=>none
def wj:List D->Option (List Key)
 | []=>some []
 | d::r=>(XI d).bind λk=>(wj r).map λks=>k::ks
noncomputable def Zt:D->Option (List Key)
 | .tup ds=>wj ds
 | _=>none
noncomputable def yg {κ:Type} [DecidableEq κ] (kvs:List (κ×D)) (k:κ):Option D:=(kvs.find? λj=>decide (j.1=k)).map (·.2)
noncomputable def wk {κ:Type} [DecidableEq κ] (kvs:List (κ×D)) (k:κ) (v:D):List (κ×D) :=
 if(kvs.any λj=>decide (j.1=k))=true then kvs.map (λj=>if j.1=k then(j.1,v)else j)else kvs++[(k,v)]
def B.dget:B->D->Option (Option D)
 | .t kvs,z=>(Zt z).map λq=>yg kvs q
 | .k kvs,z=>(XI z).map λq=>yg kvs q
 | .d (.dK ks vs),z=>(XI z).map λq=>yg (ks.zip vs) q
 | .d (.dT ks vs),z=>(Zt z).map λq=>yg (ks.zip vs) q
 | _,_=>none
def Z4(j:Bool):B->B->Option D:=λx y=>x.asD.bind λd=>(y.dget d).map λo=>.bl (if j then !o.isSome else o.isSome)
def v7:B->B->Option D:=λx y=>y.asD.bind λd=>(x.dget d).bind id
def VT(i:Nat):G->Option Out:=λΓ=>some (.nx (Γ.set i (.ok [])))
def XJ:S->D->D->Option S
 | .ot kvs,k,v=>(Zt k).bind λk=>if kvs.length<Fv then some (.ot (wk kvs k v))else none
 | .ok kvs,k,v=>(XI k).bind λk=>if kvs.length<Fv then some (.ok (wk kvs k v))else none
 | _,_,_=>none
def Zu(i:Nat)(j z:G->Option B):G->Option Out:=λΓ=>(z Γ).bind λJ=>J.asD.bind λv=>(j Γ).bind λbk=>bk.asD.bind λk=>(Γ[i]?).bind λs=>(XJ s k v).map λs'=>.nx (Γ.set i s')
section
variable {K:Fs} {F H:Hp}
def Yn(e:XI d=some k)(h:Is K F d v):v=kV k:=by
 cases d with
 | int i=>cases e;show v=V.int i;simpa[Is]using h
 | str x=>cases e;show v=V.str x;simpa[Is]using h
 | _=>cases e
theorem aN:∀{ds:List D} {ks:List Key} {vs:List V},wj ds=some ks->Are K F ds vs->vs=ks.map kV
 | [],_,_,e,h=>by cases e;rw[h.inv0];rfl
 | d::r,_,_,e,h=>by
  obtain⟨k,z,e⟩:=bind_some e
  obtain⟨ks,j,rfl⟩:=map_some e
  obtain⟨v,vs,rfl,h1,h2⟩:=h.inv
  rw[Yn z h1,aN j h2];rfl
theorem Wn{κ:Type} [DecidableEq κ] {k:κ}:∀{kvs:List (κ×D)} {ws:List (κ×V)},xZ K F kvs ws->match yg kvs k with
  | none=>xu ws k=none
  | some d=>∃v,xu ws k=some v/\Is K F d v:=λh=>by
 induction h with
 | nil=>exact rfl
 | @cons p q ps O h r J=>
  obtain⟨e,h⟩:=h
  by_cases z:p.1=k
  ·have j:yg (p::ps) k=some p.2:=by simp[yg,Hj,z]
   rw[j]
   exact⟨q.2,vN (by rw[<-e];exact z),h⟩
  ·have j:yg (p::ps) k=yg ps k:=by simp[yg,Hj,z]
   rw[j,vf (by rw[<-e];exact z)]
   exact J
theorem aO{κ:Type} [DecidableEq κ] {k:κ}:∀{kvs:List (κ×D)} {ws:List (κ×V)},xZ K F kvs ws->(kvs.any λj=>decide (j.1=k))=ws.any λj=>decide (j.1=k)
 | _,_,.nil=>rfl
 | _,_,.cons ⟨e,_⟩ r=>by rw[HW,HW,e,aO r]
theorem aP{κ:Type} [DecidableEq κ] {k:κ} {d:D} {v:V} (J:Is K F d v):∀{kvs:List (κ×D)} {ws:List (κ×V)},xZ K F kvs ws->xZ K F (kvs.map λj=>if j.1=k then(j.1,d)else j) (ws.map λj=>if j.1=k then(j.1,v)else j)
 | _,_,.nil=>.nil
 | _,_,@Paired.cons _ _ _ p q ps O ⟨e,h⟩ r=>by
  rw[FY,FY]
  refine .cons ?_ (aP J r)
  by_cases z:p.1=k
  ·rw[if_pos z,if_pos (by rw[<-e];exact z)];exact⟨e,J⟩
  ·rw[if_neg z,if_neg (by rw[<-e];exact z)];exact⟨e,h⟩
def l8{κ:Type}{p:κ×D}{q:κ×V}(j:p.1=q.1/\Is K F p.2 q.2):∀{kvs:List (κ×D)} {ws:List (κ×V)},xZ K F kvs ws->xZ K F (kvs++[p]) (ws++[q]):=λh=>by
 induction h with
 | nil=>exact .cons j .nil
 | cons h r z=>exact .cons h z
def UU{κ:Type} [DecidableEq κ] {k:κ} {d:D} {v:V} {kvs:List (κ×D)} {ws:List (κ×V)} (h:xZ K F kvs ws) (j:Is K F d v):xZ K F (wk kvs k d) (x6 ws k v):=by
 unfold wk x6
 rw[aO h]
 split
 ·exact aP j h
 ·exact l8 ⟨rfl,j⟩ h
def W6{κ:Type}{kvs:List (κ×D)}{ws:List (κ×V)}(h:xZ K F kvs ws):ws.length=kvs.length:=(Paired.length h).symm
def Wo(j:zm F H)(e:Zt d=some ks)(h:Is K F d v):∃b,v=.ref b/\H b=some (.tup (ks.map kV)):=by
 cases d with
 | tup ds=>
  have h':=h
  simp only[Is]at h'
  obtain⟨b,vs,rfl,z,J⟩:=h'
  have:=aN e J
  subst this
  exact⟨b,rfl,j _ _ z⟩
 | _=>cases e
def OIs(K:Fs)(F:Hp)(o:Option D)(r:Option V):Prop:=match o with
 | none=>r=none
 | some z=>∃v,r=some v/\Is K F z v
theorem W7{κ:Type}:∀{ws:List (κ×V)} {ds:List D},Are K F ds (ws.map HV)->xZ K F ((ws.map Gq).zip ds) ws
 | [],ds,h=>by
  cases ds with
  | nil=>exact .nil
  | cons d r=>obtain⟨_,_,e,_⟩:=h.inv;cases e
 | w::ws,ds,h=>by
  cases ds with
  | nil=>have:=h.inv0;cases this
  | cons d r=>
   obtain⟨v,q,e,h1,h2⟩:=h.inv
   rw[FY]at e
   cases e
   exact .cons ⟨rfl,h1⟩ (W7 h2)
def UV{b:B}{d:D}{o:Option D}{x y:V}(Y:zm F H)(J:BIs K F H b x)(Z:Is K F d y)(e:b.dget d=some o):∃a r,x=.ref a/\x9 H a y r/\OIs K F o r:=by
 cases b with
 | t kvs=>
  obtain⟨ks,O,rfl⟩:=map_some e
  obtain⟨a,ws,rfl,U,hp⟩:=J
  obtain⟨b,rfl,J⟩:=Wo Y O Z
  refine⟨a,xu ws ks,rfl,x9.t U J,?_⟩
  have:=Wn (k:=ks) hp
  cases q:yg kvs ks with
  | none=>rw[q]at this;exact this
  | some z=>rw[q]at this;exact this
 | k kvs=>
  obtain⟨ks,O,rfl⟩:=map_some e
  obtain⟨a,ws,rfl,U,hp⟩:=J
  have:=Yn O Z
  subst this
  refine⟨a,xu ws ks,rfl,x9.k U,?_⟩
  have:=Wn (k:=ks) hp
  cases q:yg kvs ks with
  | none=>rw[q]at this;exact this
  | some z=>rw[q]at this;exact this
 | d b=>
  cases b with
  | dK ks ds=>
   obtain⟨k,O,rfl⟩:=map_some e
   have j:Is K F (.dK ks ds) x:=J
   simp only[Is]at j
   obtain⟨a,ws,rfl,U,rfl,hr⟩:=j
   have:=Yn O Z
   subst this
   refine⟨a,xu ws k,rfl,x9.k (Y _ _ U),?_⟩
   have:=Wn (k:=k) (W7 hr)
   cases q:yg ((ws.map Gq).zip ds) k with
   | none=>rw[q]at this;exact this
   | some z=>rw[q]at this;exact this
  | dT ks ds=>
   obtain⟨k,O,rfl⟩:=map_some e
   have j:Is K F (.dT ks ds) x:=J
   simp only[Is]at j
   obtain⟨a,ws,rfl,U,rfl,hr⟩:=j
   obtain⟨b,rfl,J⟩:=Wo Y O Z
   refine⟨a,xu ws k,rfl,x9.t (Y _ _ U) J,?_⟩
   have:=Wn (k:=k) (W7 hr)
   cases q:yg ((ws.map Gq).zip ds) k with
   | none=>rw[q]at this;exact this
   | some z=>rw[q]at this;exact this
  | _=>cases e
 | _=>cases e
end
section
variable {X:Cx} {a b c e:Fu} {f g h:G->Option B} {pos:FG} {es:List Fu} {fs:G->Option (List B)}
def Ay(j:Bool):R2:=λx y H Q=>∃a o,y=.ref a/\x9 H a x o/\Q (.bl (if j then !o.isSome else o.isSome)) H
def YZ(j:X.A.units+1<Gi):OpR X (Gz .NotIn) (Ay true):=by
 rintro pins s σ H x y v u Q I z J ⟨a,o,O,g,q⟩
 subst O
 cases J
 exact fP j I g z λs' U=>⟨.bl _,H,U,rfl,q⟩
def VU{K:Fs}{j:Bool}:OpB K (Ay j) (Z4 j):=λF H x y v u d Q J U Y e q=>by
 obtain⟨z,Z,e⟩:=bind_some e
 obtain⟨o,ho,rfl⟩:=map_some e
 have:=xI Z;subst this
 obtain⟨a,r,rfl,g,O⟩:=UV J Y U ho
 refine⟨a,r,rfl,g,?_⟩
 have:r.isSome=o.isSome:=by
  cases o with
  | none=>rw[O];rfl
  | some z=>obtain⟨v,rfl,_⟩:=O;rfl
 rw[this]
 exact q _ F H (.refl J) vZ
def VW(hu:X.A.units+1<Gi)(ha:EE X a f)(hb:EE X b g)(hs:oq b):EE X (.Subscript a b pos) (x2 v7 f g) :=
 yx (UT hu ha hb hs) λσ H Q j=>by
  obtain⟨F0,H0,F,Γ,z,E,e,q⟩:=j
  obtain⟨x,y,d,hx,hy,hd,rfl⟩:=ug e
  refine⟨F0,H0,F,Γ,x,E,hx,λv F1 H1 Z r1=>⟨F0,H0,F1,Γ,y,E.grow Z,hy,λu F2 H2 J r2=>?_⟩⟩
  obtain⟨k,hk,O⟩:=bind_some hd
  obtain⟨o,ho,U⟩:=bind_some O
  have:=xI hk;subst this
  have Y:o=some d:=U
  subst Y
  obtain⟨a,r,rfl,g,w,rfl,hw⟩:=UV J.fh (r1.ext J) r2 ho
  exact⟨a,w,rfl,g,q w F2 H2 (Z.trans J) hw⟩
def QU(Z:∀F H a,zm F H->H a=some o->F a=none->∀H0,H0 a=none->SIs X.K H0 F H s0 (some (.ref a))):dS X.K (λΓ=>some (.nx (Γ.set i s0))) E σ H->UJ (λ_ H Q=>∀p,H p=none->Q (.ref p) (upd H p o)) (vl i) E σ H:=λJ=>by
 obtain⟨F0,H0,F,Γ,z,U,e,q⟩:=J
 cases e
 intro p O
 have ex:Ext F H F (upd H p o):=.own U.fh O o
 refine q _ F _ ((U.grow ex).putOwn (Z F _ p ex.fh zj (U.fh.free O) H0 (U.ext.hh.free O)) λj s hj Z ho z=>?_) ex.ff
 obtain⟨o',h1,h2⟩:=U.val j s Z
 rw[z]at h1;cases h1
 cases s with
 | un=>cases ho
 | v d=>cases ho
 | ol ds=>obtain⟨a',vs,Y,q1,_⟩:=h2;cases Y;rw[O]at q1;cases q1
 | ot kvs=>obtain⟨a',vs,Y,q1,_⟩:=h2;cases Y;rw[O]at q1;cases q1
 | ok kvs=>obtain⟨a',vs,Y,q1,_⟩:=h2;cases Y;rw[O]at q1;cases q1
def l9{i:Nat}{x:Fp}{p dp:FG}(hN:X.N.Nodup)(hi:X.N[i]?=some x)(hx:Loc X.env.scope x)(hs:GP (.Dict [] [] dp) (some (.Name x p)) pos.line X.env=pure false:=by rfl)(hf:X.fn x=true\/X.env.scope.names.lookup x=some .local:=by first|exact .inl rfl|exact .inr rfl|assumption):
 SD X (.Assign [.Name x p] (.Dict [] [] dp) pos) (VT i):=yV (yZ hN hi hx uk hs hf) λE σ H q=>QU (o:=.dK []) (s0:=.ok []) (λF H a _ h1 h2 H0 h3=>⟨a,[],rfl,h1,.nil,h2,h3⟩) q
def VX{i:Nat}{x:Fp}{key value:Fu}{fk fv:G->Option B}{px ppos:FG}(hu:X.A.units+1<Gi)(ho:PE X (.Name x px) (vK i))(hk:EE X key fk)(hv:EE X value fv)(hs:GP value (some (.Subscript (.Name x px) key ppos)) pos.line X.env=pure false:=by rfl):
  SD X (.Assign [.Subscript (.Name x px) key ppos] value pos) (Zu i fk fv):=yV (Ym hu ho hk hv hs) λE σ H ⟨F0,H0,F,Γ,z,En,e,q⟩=>by
 obtain⟨bv,hbv,e⟩:=bind_some e
 obtain⟨v,hv,e⟩:=bind_some e
 obtain⟨bk,hbk,e⟩:=bind_some e
 obtain⟨k,hk,e⟩:=bind_some e
 obtain⟨s,hs,e⟩:=bind_some e
 obtain⟨s',hs',rfl⟩:=map_some e
 have:=xI hv;subst this
 have:=xI hk;subst this
 refine⟨F0,H0,F,Γ,_,En,hbv,λvv F1 H1 e1 r1=>?_⟩
 have E1:=En.grow e1
 obtain⟨o,ho,hso⟩:=E1.val i s hs
 cases s with
 | ot kvs=>
  obtain⟨ks,hks,hs'⟩:=bind_some hs'
  by_cases hz:kvs.length<Fv
  ·rw[if_pos hz]at hs';cases hs'
   obtain⟨a,ws,rfl,ha,hp,hfa,h0a⟩:=hso
   refine⟨.ref a,ho,F0,H0,F1,Γ,_,E1,hbk,λkk F2 H2 e2 r2=>?_⟩
   have ha2:=e2.hh _ _ ha
   have hf2:F2 a=none:=e2.freed hfa (by rw[ha];simp)
   obtain⟨b,rfl,hb⟩:=Wo e2.fh hks r2
   have hp2:=hp.mono e2.ff
   refine⟨a,_,rfl,uN.t (v:=vv) ha2 hb (by rw[W6 hp2];exact hz),?_⟩
   exact q σ F2 _ ((E1.grow e2).change (s1:=.ot kvs) hs rfl ho h0a hf2 ⟨a,_,rfl,zj,UU hp2 (r1.mono e2.ff),hf2,h0a⟩) (e1.ff.trans e2.ff)
  ·rw[if_neg hz]at hs';cases hs'
 | ok kvs=>
  obtain⟨ks,hks,hs'⟩:=bind_some hs'
  by_cases hz:kvs.length<Fv
  ·rw[if_pos hz]at hs';cases hs'
   obtain⟨a,ws,rfl,ha,hp,hfa,h0a⟩:=hso
   refine⟨.ref a,ho,F0,H0,F1,Γ,_,E1,hbk,λkk F2 H2 e2 r2=>?_⟩
   have ha2:=e2.hh _ _ ha
   have hf2:F2 a=none:=e2.freed hfa (by rw[ha];simp)
   have:=Yn hks r2
   subst this
   have hp2:=hp.mono e2.ff
   refine⟨a,_,rfl,uN.k (v:=vv) ha2 (by rw[W6 hp2];exact hz),?_⟩
   exact q σ F2 _ ((E1.grow e2).change (s1:=.ok kvs) hs rfl ho h0a hf2 ⟨a,_,rfl,zj,UU hp2 (r1.mono e2.ff),hf2,h0a⟩) (e1.ff.trans e2.ff)
  ·rw[if_neg hz]at hs';cases hs'
 | _=>cases hs'
end
end DD
namespace DD
open PySem PySem.Spec L2
open PyProof.Rows hiding St
open PySem.SeqAt (shaped compareEq_shaped compareNe_shaped canLay_of_shaped room_of_shaped eqAt_reads)
section
variable {X:Cx} {a b c e:Fu} {f g h:G->Option B} {pos:FG} {es:List Fu} {fs:G->Option (List B)}
def Yo:B->B->Option D:=λx y=>x.lst.bind λds=>(Z2 y).bind λq=>if Gm q=true/\(toPs ds).all Gm=true then((toPs ds).findIdx? λp=>F8 p q).map λ(j:Nat)=>.int (j:Int)else none
def ma(K:Fs):V->List V->Hp->VK->Prop:=λx vs H Q=>∃F l ds ws y q j,x=.ref l/\vs=[y]/\zm F H/\H l=some (.lst ws)/\Are K F ds ws/\RP K H y q/\Gm q=true/\(∀p∈toPs ds,Gm p=true)/\(toPs ds).findIdx? (λp=>F8 p q)=some j/\Q (.int (j:Nat)) H
theorem fR{h:Fz}{q:Hw}:∀{ps:List Hw} {us:List Fl} {as:List Fo},Km h us ps as->(∀p∈ps,Gm p=true)->us.length=ps.length/\∀(i:Nat) (h1:i<us.length) (h2:i<ps.length),eqR h q us[i]=F8 ps[i] q
 | [],_,_,.nil,_=>⟨rfl,λi h1=>absurd h1 (by simp)⟩
 | p::ps,_,_,.cons r t,c=>by
  obtain⟨h1,h2⟩:=fR (q:=q) t λj z=>c j (Gc _ z)
  refine⟨by simp[h1],λi a b=>?_⟩
  cases i with
  | zero=>exact aH r (Hi (c p F9))
  | succ i=>exact h2 i (by simpa using a) (by simpa using b)
def aQ(hu:X.A.units+128<Gi):MtM X "list.index" (ma X.K):=by
 rintro pins s σ H x vs v us Q I rx rv ⟨F,l,ds,ws,y,q,j,ex,ey,sm,hl,ra,⟨F',b,sm',e,hb⟩,sq,sp,hj,hq⟩
 subst ex
 subst ey
 cases rx
 obtain⟨u,rfl,ru⟩:=rv.one
 have hu1:X.A.in1.units+64<Gi:=by show X.A.units+1+64<Gi;omega
 obtain⟨z,its,n,r,hlen,eo⟩:=I.lstM hl
 obtain⟨bs,rb⟩:=ui I sm' e hb ru (Hi sq)
 obtain⟨as,rs⟩:=reads_Ds I sm ds ra r (UR sp)
 obtain⟨g1,g2⟩:=fR (q:=q) rs sp
 obtain⟨hjlt,hjt,hjn⟩:=Oq.mp hj
 have hjl:j<its.length:=by omega
 rw[HG]at z
 refine Ij MU ⟨_,eo,rfl⟩ PySem.F.entry_list_index (PySem.F.args_list_index_2 _ _)
  (SeqAt.list_indexAt l its.toArray n none #[] u (eqR s.heap q) j (by simpa using hjl) (by omega) (by simp;rw[g2 j hjl hjlt];exact hjt) (λm hm hlt=>by
   have hm':m<its.length:=by simpa using hm
   simp
   rw[g2 m hm' (by omega)]
   have:=hjn m hlt
   simpa using this)) ⟨eo,λy hy=>?_,?_⟩
 ·exact Yk rb sq hu1 rs sp y (by simpa using hy)
 ·exact⟨.int j,H,I.tok _,⟨_,rfl⟩,hq⟩
def fS(h1:PE X (.Call (.Attribute a "index" apos) [e] [] cpos) (tBM X.K "list" (ma X.K) (dE X.K f) (uz (dE X.K g) YS))):EE X (.Call (.Attribute a "index" apos) [e] [] cpos) (x2 Yo f g) :=
 yx h1 λσ H Q O=>by
  obtain⟨F0,H0,F,Γ,z,E,e,q⟩:=O
  obtain⟨x,y,d,hx,hy,hd,rfl⟩:=ug e
  obtain⟨ds,Z,aa⟩:=bind_some hd
  obtain⟨p,hp,J⟩:=bind_some aa
  by_cases Y:Gm p=true/\(toPs ds).all Gm=true
  ·rw[if_pos Y]at J
   obtain⟨j,hj,rfl⟩:=map_some J
   refine⟨F0,H0,F,Γ,x,E,hx,λv F1 H1 e1 r1=>?_⟩
   obtain⟨l,ws,rfl,hl,ra⟩:=uF e1.fh Z r1
   refine⟨.inl ⟨rfl,ws,SqL.of hl⟩,F0,H0,F1,Γ,y,E.grow e1,hy,λu F2 H2 U r2=>?_⟩
   exact⟨F2,l,ds,ws,u,p,j,rfl,rfl,U.fh,U.hh _ _ hl,ra.mono U.ff,⟨F2,y,U.fh,hp,r2⟩,Y.1,λp hp=>GR.mp Y.2 p hp,hj,q _ F2 H2 (e1.trans U) (vd (K:=X.K) (F:=F2))⟩
  ·rw[if_neg Y]at J;cases J
end
end DD
namespace HT
open PySem PyProof.Rows
open PySem.SeqAt
open PySem.AutoSeq1 (wpAny_loadPart')
open PySem.MeetsSeq PySem.MeetsSeq2 PySem.MeetsSeq3
def JN(j:Kc)(m n:Nat):Bool:=match j with
 | .LtE=>decide (m<=n)
 | .Gt=>decide (n<m)
 | _=>false
inductive OrdL (A:FW) (s:Fq) (op:Kc):List Fl->List Fl->Bool->Prop where
 | fin {r:Bool} (vs ws:List Fl) (h:vs=[]\/ws=[]) (hr:r=JN op vs.length ws.length):OrdL A s op vs ws r
 | eq {vs ws:List Fl} {r:Bool} (v u:Fl) (h:EqAt A s v u true) (t:OrdL A s op vs ws r):OrdL A s op (v::vs) (u::ws) r
 | ne {vs ws:List Fl} {r:Bool} (v u:Fl) (h:EqAt A s v u false) (hc:∀(prog:FI) (w:FB) (E:Fl->Fq->Prop) (Q:Fl->Fq->Prop),Q (.bool r) s->wpAny (Fx prog w) A (richCompare op v u) Q E s):OrdL A s op (v::vs) (u::ws) r
def Az(l b:Fo)(items items2:Array Fl)(n n2:Nat)(dd dd2:Option Fo)(sl sl2:Array (Option Fl))(r:Bool):
  Kl (HU.«tuple.__le__» ⟨[.ref l,.ref b],[]⟩)
   (λA R s=>s.heap.get? l=some {cls:=.type "tuple",dict:=dd,data:=.seq items n,slots:=sl}/\s.heap.get? b=some {cls:=.type "tuple",dict:=dd2,data:=.seq items2 n2,slots:=sl2}/\
    OrdL A.in1 s .LtE items.toList items2.toList r/\R (.ok (.ret (.bool r))) s) :=
 .of_wp λprog w A R s h=>by
  obtain⟨hp,g,d,tk,os⟩:=s;obtain⟨hl,hb,ho,h⟩:=h
  have f2:=AutoSeq1.sub_tuple_tuple
  wp_walk using wpAny_loadPart' hl,wpAny_loadPart' hb,wpAny_forIn_list _ (λrest b s'=>b.1=none/\s'=⟨hp,g,d,tk,os⟩/\∃(vs ws:List Fl),rest=vs.zip ws/\
   OrdL A.in1 ⟨hp,g,d,tk,os⟩ .LtE vs ws r/\vs.length+items2.size=ws.length+items.size) _
  case turn=>
   rintro⟨y,x⟩ rest b s' ⟨hb',rfl,vs,ws,hz,ho',hlen⟩
   cases ho' with
   | fin vs ws he hr=>
    rcases he with rfl|rfl
    ·rw[List.zip_nil_left]at hz;cases hz
    ·rw[List.zip_nil_right]at hz;cases hz
   | eq v u he hrest'=>
    rw[LG]at hz
    injection hz with hyx hrest
    injection hyx with hy hx
    subst hy hx
    refine Ft (he prog w _ _ ?_)
    simp only[Gu]at hlen
    wp_walk
    exact⟨rfl,rfl,_,_,hrest,hrest',by omega⟩
   | ne v u he hc=>
    rw[LG]at hz
    injection hz with hyx hrest
    injection hyx with hy hx
    subst hy hx
    refine Ft (he prog w _ _ ?_)
    have hc':=hc prog w
    wp_walk using hc'
    exact⟨_,rfl,by simpa using h⟩
  case fin=>
   rintro⟨b1,b2⟩ s' ⟨hb',rfl,vs,ws,hz,ho',hlen⟩
   simp only at hb'
   subst hb'
   cases ho' with
   | fin vs ws he hr=>
    have hv:r=JN .LtE items.size items2.size:=by
     rw[hr]
     unfold JN
     simp only
     rw[Iv]
     simp only[decide_eq_true_eq]
     omega
    rw[hv]at h
    wp_walk
    exact⟨_,rfl,by simpa[Rh,JN]using h⟩
   | eq v u he hrest'=>rw[LG]at hz;cases hz
   | ne v u he hc=>rw[LG]at hz;cases hz
  case h=>
   exact⟨rfl,rfl,items.toList,items2.toList,rfl,ho,by simp[MI]⟩
end HT
namespace L2
open PySem PySem.Spec PyProof.Rows
def iR{P:FI}{w:FB}{K:Fs}{elts:List Fu}{k:Nat}{tp:FG}(a it e:Fo)(hei:e≠it):
  Turn P w K (.Tuple elts k tp) (Ite λH xs=>SqL K H a xs) [e,it] e (λi h=>(∃old,LA h e it i old)/\h.IsListIter it a i) where
 mem:=by simp
 obj:=λi h st b hb=>by
  obtain⟨⟨old,he⟩,o,e1,c,d⟩:=st
  rcases FL.mp hb with q|hb
  ·subst q
   exact⟨_,he,λv z=>by
    have z':Data.fields _=Data.cell v:=z
    cases z'⟩
  ·rw[Gf.mp hb]
   exact⟨o,e1,λv z=>by rw[d]at z;cases z⟩
 keep:=λi h h' st k=>⟨let ⟨old,he⟩:=st.1;⟨old,k e (by simp) _ he⟩,st.2.at λo q=>k it (by simp) o q⟩
 item:=by
  intro X hP hw hK hc i pins s σ H E I hf st hg
  subst hP hw hK
  obtain⟨xs,x,hq,hx⟩:=hg
  obtain⟨its,rv,p,hz⟩:=I.list hq
  obtain⟨u,hu,ru⟩:=rv.get hx
  obtain⟨⟨old,he⟩,hit⟩:=st
  have fe:=hf e (by simp)
  have fi:=hf it (by simp)
  have hai:a≠it:=λz=>by
   obtain⟨o,e1,c,_⟩:=p.isList
   obtain⟨o2,e2,c2,_⟩:=hit
   rw[z,e2]at e1;cases e1;rw[c2]at c;exact absurd c (by simp)
  have hae:e∉ [it,a]:=λhm=>by
   rcases FL.mp hm with q|hm
   ·exact hei q
   ·have q:=Gf.mp hm
    obtain⟨o,e1,c,_⟩:=p.isList
    rw[<-q,he]at e1
    cases e1;simp at c
  refine N9 (Draws.list (A:=X.A.in1) (I.ok.hd hc) it a hai its.toArray) he ⟨hit,p.isList⟩ (by rw[Go];exact(FO.mp hu).1) hei hae λx' h' tk hP ho hs' hT hsz hk=>?_
  have hx':x'=u:=by
   have hP':its[i]?=some x':=by simpa using hP
   rw[hu]at hP';cases hP';rfl
  subst hx'
  refine⟨_,rfl,Oa ho λh2 he2 hs2=>?_⟩
  have hk2:∀b o,b≠e->b≠it->s.heap.get? b=some o->h2.get? b=some o:=λb o n1 n2 q=>(hs2.2 b n1).trans (hk b o n1 n2 q)
  have hel:e≠s.heap.objs.size:=Gd (FV he)
  have hit2:h2.IsListIter it a (i+1):=hs'.1.at λo q=>(hs2.2 it (FH hei)).trans q
  have I2:=QO (tk':=tk+1) (i:=i) (tk:=tk) (h':=h2) I fe fi ru ((hs2.2 _ (FH hel)).trans hT) hk2 (λb o q=>by
   by_cases n1:b=e
   ·subst n1;exact⟨_,he2⟩
   ·by_cases n2:b=it
    ·subst n2;obtain⟨o',q',_⟩:=hit2;exact⟨o',q'⟩
    ·exact⟨o,hk2 b o n1 n2 q⟩)
  refine⟨.ref s.heap.objs.size,_,I2,rfl,⟨_,x,I.hok.fresh (FA _),rfl,rfl,λys hy=>by rw[I.list_inj hy hq];exact hx⟩,⟨⟨x',by simpa using he2⟩,hit2⟩,λb hb=>?_⟩
  have hb':wF X pins H b:=hf b hb
  rw[zd (λz=>?_)]
  ·exact hb'.1
  ·rcases FL.mp hb with q|hb
   ·exact hel (q.symm.trans z)
   ·have q:=Gf.mp hb
    obtain⟨o,e1,_⟩:=hit
    exact Gd (FV e1) (q.symm.trans z)
 done:=by
  intro X hP hw hK hc i pins s σ H E I hf st hg
  subst hP hw hK
  obtain⟨xs,hq,hx⟩:=hg
  obtain⟨its,rv,p,hz⟩:=I.list hq
  obtain⟨⟨old,he⟩,hit⟩:=st
  obtain⟨f0,f1,f2,f3,f4,f5⟩:=hf it (by simp)
  have hl:=rv.length
  have hai:a≠it:=λz=>by
   obtain⟨o,e1,c,_⟩:=p.isList
   obtain⟨o2,e2,c2,_⟩:=hit
   rw[z,e2]at e1;cases e1;rw[c2]at c;exact absurd c (by simp)
  have hT:s.TypeIs (.ref e) "enumerate":=⟨_,he,rfl⟩
  unfold Hu
  refine Ft (KQ (Kj (name:=HQ "__next__") hT LB
   (Kk LB hT Ob ?_ (Oc _))))
  show wpAny _ _ (HR (.ref e) 2>>=_) _ _ _
  refine Ft (Hh he rfl (x:=.ref it) rfl ?_)
  refine Ft (wpAny_nextOf_list_end (A:=X.A.in1) (I.ok.hd hc) hit p.isList (by simp;omega) λh' ex hx' ⟨o,ho,hcl⟩=>?_)
  refine Ft (KR (T:="StopIteration") (b:=true) ⟨o,ho,hcl⟩ MQ ?_)
  exact FS ⟨rfl,I.turned (t':=s.toks) (λb o hb q=>hx' b o hb q) f0 f1 f3 f4 f5⟩
 self:=λ_ _ _ _ _ st h=>let ⟨_,he⟩:=st.1;LC he h
section
variable {X:Cx}
def DJ(K:Fs)(ta:TA):TI:=λσ H R=>ta σ H λvs H1=>∃a,vs=[.ref a]/\(∃xs,SqL K H1 a xs)/\R (Ite λH xs=>SqL K H a xs) H1
def aR{a:Fu}{ta:TA}{p pos tp:FG}{j:List Fu}{k:Nat}(hg:Gl X "enumerate")(hm:X.mg "enumerate"=none)(ha:PA X [a] ta)(hs:FK [a] X.env=[(false,FJ a X.env)]:=by rfl):
  PI X (.Tuple j k tp) (.Call (.Name "enumerate" p) [a] [] pos) (DJ X.K ta):=by
 intro pins s σ H R I h
 refine Ke (vY I hg hm Od (IQ (thn (ha pos pins s σ H _ I h) λus s1 ⟨vs,H1,O,r1,q1⟩=>?_) hs rfl))
 obtain⟨l,e,⟨xs,hq⟩,q⟩:=q1
 subst e
 cases r1 with
 | cons r rr=>
  cases rr
  cases r
  obtain⟨its,rv,pt,hz⟩:=O.list hq
  refine call_enumerate_list (items:=its.toArray) pt.isList λh' Z U hsz hk=>?_
  refine LC Z ?_
  have I2:Inv X pins σ H1 {s1 with heap:=h'}:=O.kept (t':=s1.toks) hk
  refine⟨s1.heap.objs.size+1,[s1.heap.objs.size+1,s1.heap.objs.size],_,_,H1,rfl,I2,iR l s1.heap.objs.size (s1.heap.objs.size+1) (Oe _),⟨⟨_,Z⟩,U⟩,λb Y=>?_,q⟩
  have J:s1.heap.objs.size<=b:=by
   rcases FL.mp Y with z|Y
   ·rw[z];exact KC _
   ·rw[Gf.mp Y];exact FA _
  exact O.fpOk J (O.hok.fresh J)
end
end L2
namespace DD
open PySem PySem.Spec L2
open PyProof.Rows hiding St
open PySem.SeqAt (shaped compareEq_shaped compareNe_shaped canLay_of_shaped room_of_shaped eqAt_reads)
section
variable {X:Cx} {pins:List (Fo×FD)} {σ:St} {F H:Hp} {s:Fq}
end
def aS:List D->Option (List Int)
 | []=>some []
 | .int i::r=>(aS r).map λns=>i::ns
 | _::_=>none
def ED(res:Int->Int->List Int->List Int->Bool):B->B->Option D
 | .d (.tup [.int i,.tup as]),.d (.tup [.int j,.tup bs])=>(aS as).bind λns=>(aS bs).map λms=>.bl (res i j ns ms)
 | _,_=>none
section
variable {X:Cx} {a b c e f':Fu} {f g h:G->Option B} {pos:FG} {es:List Fu} {fs:G->Option (List B)}
def Z5(fs:G->Option (List B)):G->Option (List D):=λΓ=>(fs Γ).bind λbs=>match bs with
 | [.d (.lst ds)]=>some (zP ds)
 | _=>none
def Yp{p tp:FG}{z:List Fu}{k:Nat}(hg:Gl X "enumerate")(hm:X.mg "enumerate"=none)(ha:EA X [a] fs)(hs:FK [a] X.env=[(false,FJ a X.env)]:=by rfl):
  EI X (.Tuple z k tp) (.Call (.Name "enumerate" p) [a] [] pos) (Z5 fs):=Za (aR hg hm ha hs) λσ H R ⟨F0,H0,F,Γ,ds,En,e,q⟩=>by
 obtain⟨bs,hb,e⟩:=bind_some e
 refine⟨F0,H0,F,Γ,bs,En,hb,λvs F1 H1 Z r1=>?_⟩
 match bs,e,r1 with
 | [.d (.lst ds)],e,r1=>
  cases e
  obtain⟨v,rfl,hv⟩:=uB r1
  have J:Is X.K F1 (.lst ds) v:=hv
  simp only[Is]at J
  obtain⟨l,us,rfl,hf,ra⟩:=J
  refine⟨l,rfl,⟨us,SqL.of (Z.fh _ _ hf)⟩,q _ F1 H1 Z λi F2 H2 s1 s2=>?_⟩
  have O:SqL X.K H2 l us:=SqL.of (s2 _ _ (s1 _ _ hf))
  refine⟨λd U=>?_,λhl=>⟨us,O,by rw[ra.length];simpa[zP]using hl⟩⟩
  have j:i<ds.length:=by
   have:=(FO.mp U).1
   simpa[zP]using this
  obtain⟨u,hu,hi⟩:=ra.get (i:=i) (d:=ds[i]) (by simp[j])
  have Y:d=.tup [.int (i:Int),ds[i]]:=by
   have:(zP ds)[i]?=some (.tup [.int (i:Int),ds[i]]):=by
    simp[zP,FP,Hv j,HX,j]
   rw[this]at U;cases U;rfl
  subst Y
  refine⟨⟨us,u,O,hu⟩,λx H' y=>?_⟩
  obtain⟨T,v,hT,rfl,rfl,y⟩:=y
  have:=y us O
  rw[hu]at this;cases this
  refine⟨upd F2 T (.tup [.int i,u]),.fix s2 hT _,?_⟩
  simp only[Is]
  exact⟨T,_,rfl,zj,.cons vd (.cons (hi.mono (s1.trans (zz (s2.free hT) _))) .nil)⟩
def AA(tk tv:TE):TE:=λσ H Q=>∀p,H p=none->VR [(tk,tv)] σ (upd H p (.dT [])) λps H2=>∃(x y:V) (ks:List Key) (b:Fo),ps=[(x,y)]/\x=.ref b/\H2 b=some (.tup (ks.map kV))/\H2 p=some (.dT [])/\Q (.ref p) (upd H2 p (.dT [(ks,y)]))
def oy(hu:X.A.units+1<Gi)(hk:PE X a tk)(hv:PE X b tv):PE X (.Dict [some a] [b] pos) (AA tk tv):=by
 intro pins s σ H Q I q
 have hn:=I.hok.fresh (FA s.heap.objs.size)
 have I1:=I.laid (a:=s.heap.objs.size) (o:=.dT []) (h':=s.heap.push {cls:=.type "dict",data:=.dict #[]}) (t':=s.toks) (λ_ _ q=>FQ _ q) (FA _) (ou s.heap I.big)
 refine wpAny_Dict_any rfl rfl (by simp) (by simp) (thn ((aM hk hv fQ:PPs X pos _ _ _) pins _ σ _ _ I1 (q _ hn)) λws s2 ⟨ps,H2,O,j,x,y,ks,U,e1,ex,hb,Y,hq⟩=>?_)
 ·subst e1 ex
  cases j with
  | @cons pq uv _ _ r1 r2=>
   cases r2
   obtain⟨u,r⟩:=uv
   obtain⟨ru,rr⟩:=r1
   cases (show u=Value.ref U from ru)
   obtain⟨z,hd,xs,j,dd⟩:=qY O.hok Y
   have Z:xs=[]:=by cases j;rfl
   subst Z
   show wpAny _ _ (storeAll _ [(Value.ref U,r)]) _ _ _
   unfold storeAll
   simp only[KN,MV]
   refine Ft (Ft (wpAny_dictSet_heap (hsz:=by simp) (show(I0 (yc X.prog X.w)).room X.A from Nat.lt_of_succ_lt hu) (XH O.hok hb) dd λh' aa hs=>FS (FS ?_)))
   obtain⟨qo,es,ep,J,h2,h3,h4,_,h5⟩:=aa
   refine⟨.ref s.heap.objs.size,_,?_,rfl,hq⟩
   have hl:([(ks,y)]:List (List Key×V)).length<=Fv:=by show 1<=Fv;decide
   refine Yl O (by rw[Y];exact True.intro) hs ⟨qo,J⟩ ⟨hl,hd,_,?_,qo,es,ep,J,h2,h3,h4,h5⟩
   have kt:KT H2 [(ks,y)] (storedH [] ks U r):=KT.put (kvs:=[]) (xs:=[]) .nil ks hb rr
   exact kt.keeps λc ys ec=>by
    rw[zd (vX ec Y (λz=>nomatch z))]
    exact ec
def VY(i:Nat)(j z:G->Option B):G->Option Out:=λΓ=>(j Γ).bind λbk=>bk.asD.bind λk=>(z Γ).bind λJ=>J.asD.bind λv=>(Zt k).map λks=>.nx (Γ.set i (.ot [(ks,v)]))
def r8{i:Nat}{x:Fp}{p dp:FG}{key value:Fu}{fk fv:G->Option B}(hu:X.A.units+1<Gi)(hN:X.N.Nodup)(hi:X.N[i]?=some x)(hx:Loc X.env.scope x)(hk:EE X key fk)(hv:EE X value fv)(hs:GP (.Dict [some key] [value] dp) (some (.Name x p)) pos.line X.env=pure false:=by rfl)(hf:X.fn x=true\/X.env.scope.names.lookup x=some .local:=by first|exact .inl rfl|exact .inr rfl|assumption):
  SD X (.Assign [.Name x p] (.Dict [some key] [value] dp) pos) (VY i fk fv):=yV (yZ hN hi hx (oy hu hk hv) hs hf) λE σ H ⟨F0,H0,F,Γ,z,En,e,q⟩=>by
 obtain⟨bk,hbk,e⟩:=bind_some e
 obtain⟨k,hk,e⟩:=bind_some e
 obtain⟨bv,hbv,e⟩:=bind_some e
 obtain⟨v,hv,e⟩:=bind_some e
 obtain⟨ks,hks,rfl⟩:=map_some e
 have:=xI hk;subst this
 have:=xI hv;subst this
 intro p hp
 have ex:Ext F H F (upd H p (.dT [])):=.own En.fh hp _
 have E0:=En.grow ex
 refine⟨F0,H0,F,Γ,_,E0,hbk,λkk F1 H1 e1 r1=>⟨F0,H0,F1,Γ,_,E0.grow e1,hbv,λvv F2 H2 e2 r2=>?_⟩⟩
 obtain⟨b,rfl,hb⟩:=Wo e2.fh hks (r1.mono e2.ff)
 have hp2:H2 p=some (.dT []):=e2.hh _ _ (e1.hh _ _ zj)
 refine⟨_,vv,ks,b,rfl,rfl,hb,hp2,?_⟩
 have hfp:F p=none:=En.fh.free hp
 have hf1:F1 p=none:=e1.freed hfp (by rw[zj];simp)
 have hf2:F2 p=none:=e2.freed hf1 (by rw[e1.hh _ _ zj];simp)
 have h0p:H0 p=none:=En.ext.hh.free hp
 have E2:=(E0.grow e1).grow e2
 have ext2:Ext F0 H0 F2 (upd H2 p (.dT [(ks,vv)])):=E2.ext.turn h0p hf2 _
 refine q _ F2 _ ?_ ((e1.ff).trans e2.ff)
 have keepE:EnvIs X.K F0 H0 F2 (upd H2 p (.dT [(ks,vv)])) σ Γ:=by
  refine⟨ext2,E2.len,λj s hs=>?_,E2.sep⟩
  obtain⟨o,h1,h2⟩:=E2.val j s hs
  refine⟨o,h1,?_⟩
  have ne:∀c,s.own=true->σ[j]?=some (some (.ref c))->c≠p:=λc so sc z=>by
   subst z
   obtain⟨o',h1',h2'⟩:=En.val j s hs
   rw[sc]at h1';cases h1'
   cases s with
   | un=>cases so
   | v d=>cases so
   | ol ds=>obtain⟨a',vs,e',q1,_⟩:=h2';cases e';rw[hp]at q1;cases q1
   | ot kvs=>obtain⟨a',vs,e',q1,_⟩:=h2';cases e';rw[hp]at q1;cases q1
   | ok kvs=>obtain⟨a',vs,e',q1,_⟩:=h2';cases e';rw[hp]at q1;cases q1
  cases s with
  | un=>trivial
  | v d=>exact h2
  | ol ds=>obtain⟨c,vs,rfl,p1,p2,p3,p4⟩:=h2;exact⟨c,vs,rfl,by rw[zd (ne c rfl h1)];exact p1,p2,p3,p4⟩
  | ot ds=>obtain⟨c,vs,rfl,p1,p2,p3,p4⟩:=h2;exact⟨c,vs,rfl,by rw[zd (ne c rfl h1)];exact p1,p2,p3,p4⟩
  | ok ds=>obtain⟨c,vs,rfl,p1,p2,p3,p4⟩:=h2;exact⟨c,vs,rfl,by rw[zd (ne c rfl h1)];exact p1,p2,p3,p4⟩
 refine keepE.putOwn ⟨p,[(ks,vv)],rfl,zj,.cons ⟨rfl,r2⟩ .nil,hf2,h0p⟩ λj s hj hs ho z=>?_
 obtain⟨o',h1,h2⟩:=En.val j s hs
 rw[z]at h1;cases h1
 cases s with
 | un=>cases ho
 | v d=>cases ho
 | ol ds=>obtain⟨a',vs,e',q1,_⟩:=h2;cases e';rw[hp]at q1;cases q1
 | ot kvs=>obtain⟨a',vs,e',q1,_⟩:=h2;cases e';rw[hp]at q1;cases q1
 | ok kvs=>obtain⟨a',vs,e',q1,_⟩:=h2;cases e';rw[hp]at q1;cases q1
end
end DD
namespace L2
open PySem PySem.Spec PyProof.Rows
section
variable {P:FI} {w:FB} {K:Fs} {mg:Fp->Option Fl} {base:Fz} {N:List Fp} {qual:Fp} {scope:Gp} {f C:Fo} {cdv:Fl} {A:FW} {outer:List Gn} {s₀:Fq} {H₀:Hp} {E:XK}
end
section
variable {X:Cx} {pins:List (Fo×FD)} {σ:St} {H:Hp} {s s':Fq} {C a:Fo} {e:Fl} {H':Hp} {B h:Fz} {a0:Fl}
end
end L2
namespace L2
open PySem PySem.Spec PyProof.Rows
section
variable {P:FI} {w:FB} {K:Fs} {mg:Fp->Option Fl} {base:Fz} {N:List Fp} {qual:Fp} {scope:Gp} {f C:Fo} {cdv:Fl} {A:FW} {outer:List Gn} {s₀:Fq} {H₀:Hp} {E:XK}
end
section
variable {X:Cx} {pins:List (Fo×FD)} {σ:St} {H:Hp} {s:Fq}
end
end L2
namespace DD
open PySem PySem.Spec L2
open PyProof.Rows hiding St
section
variable {X:Cx}
end
end DD
namespace L2
open PySem PySem.Spec PyProof.Rows PySem.W
section
variable {prog:FI} {w:FB} {A:FW} {E:Fl->Fq->Prop} {K:Fs} {h:Fz} {g:Array Kw} {d:Drawn} {t:Nat} {os:OsState} {a C:Fo} {oe:FD}
end
section
variable {X:Cx}
end
end L2
namespace L2
open PySem PySem.Spec PyProof.Rows
def iS(l:Fo)(items:Array Fl)(n:Nat)(dd:Option Fo)(sl:Array (Option Fl))(x:Int)(u:G8)(h1:¬items.isEmpty=true)(h2:2<=x)(h3:x<2^63)(h4:items.size*x.toNat<=Fv):
  Kl (HU.«tuple.__mul__» ⟨[.ref l,.int x u],[]⟩) (λ_ R s=>s.heap.get? l=some {cls:=.type "tuple",dict:=dd,data:=.seq items n,slots:=sl}/\R (.ok (.ret (Value.ref s.heap.objs.size))) {s with heap:=s.heap.push {cls:=Value.type "tuple",data:=Data.seq (Lv (λx1 x2=>x1++x2) #[] (F7 x.toNat items))},toks:=s.toks}) :=
 .of_wp λprog w A R s h=>by
  obtain⟨hp,g,d,tk,os⟩:=s;obtain⟨hl,h⟩:=h
  have f1:=Os
  have c1:(decide (x< -(2^63)) || decide (x>=2^63))=false:=by simp;omega
  have c2:(items.isEmpty|| x==1)=false:=by
   have:(x==1)=false:=by simp;omega
   rw[this];simpa using h1
  have c3:(decide (x<=0) || items.isEmpty)=false:=by
   have:decide (x<=0)=false:=by simp;omega
   rw[this];simpa using h1
  have hx:((items.size:Int)*x)=((items.size*x.toNat:Nat):Int):=by
   rw[Int.natCast_mul,LH (by omega)]
  have hle:(Fv:Nat)<=(2^63-1)/8:=by decide
  have c4:¬((items.size:Int)*x>(2^63-1)/8):=by rw[hx];omega
  wp_walk using wpAny_loadPart' hl
  rw[if_neg (by rw[c1];exact Gx)]
  wp_walk using wpAny_loadPart' hl
  rw[if_neg (by rw[c2];exact Gx)]
  wp_walk using wpAny_loadPart' hl
  rw[if_neg (by rw[c3];exact Gx)]
  wp_walk using wpAny_loadPart' hl
  rw[if_neg c4]
  have c5:Ot (items.size*x)=false:=by
   unfold Ot
   rw[hx]
   exact decide_eq_false (by omega)
  have hsz:(Lv (λx1 x2=>x1++x2) #[] (F7 x.toNat items)).size<=Fv:=by
   rw[AutoListH.size_joined,IF];simpa using h4
  wp_walk using wpAny_loadPart' hl
  rw[if_neg (by rw[c5];exact Gx)]
  wp_walk using wpAny_loadPart' hl
  exact⟨_,rfl,h⟩
def Zv:fillsNumberSlot (.type "tuple") "mul"=pure false :=
 PySem.fillsNumberSlot_seq (id:="tuple.__mul__") (r:=some (.builtin "tuple.__rmul__")) LI.lookup (by decide+kernel) Ou.lookup (by decide+kernel)
def XL:seqRepeat? (.type "tuple")=pure (some (.builtin "tuple.__mul__")):=by
 unfold seqRepeat?
 rw[Ov (T:="tuple") (name:="__mul__") (id:="tuple.__mul__") LI.lookup (by decide+kernel),Ov (T:="tuple") (name:="__rmul__") (id:="tuple.__rmul__") Ou.lookup (by decide+kernel)]
 rfl
def Yq(a:Int)(t:G8)(l:Fo)(items:Array Fl)(n:Nat)(dd:Option Fo)(sl:Array (Option Fl)):
  Kl (HU.«int.__rmul__» ⟨[.int a t,.ref l],[]⟩) (λ_ R s=>s.heap.get? l=some {cls:=.type "tuple",dict:=dd,data:=.seq items n,slots:=sl}/\R (.ok (.ret Value.notImplemented)) s) :=
 .of_wp λprog w A R s h=>by obtain⟨hp,g,d,tk,os⟩:=s;obtain⟨hl,h⟩:=h;wp_walk using wpAny_loadPart' hl;exact⟨_,rfl,h⟩
section
variable {X:Cx}
def JO(K:Fs):R2:=λx y H Q=>∃l k xs,x=.ref l/\y=.int k/\SqT K H l xs/\xs≠[]/\2<=k/\k<2^63/\xs.length*k.toNat<=Fv/\
 ∀p,H p=none->Q (.ref p) (upd H p (.tup (F7 k.toNat xs).flatten))
def se:OpR X (GW .Mult) (JO X.K):=by
 intro pins s σ H x y v u Q I rx ry h
 obtain⟨l,k,xs,rfl,rfl,hH,Y,h1,h2,hz,q⟩:=h
 cases rx
 obtain⟨t,rfl⟩:=ry
 obtain⟨its,r,p1,_⟩:=I.tuple hH
 have j:=r.length
 obtain⟨⟨cls,dd,data,sl⟩,e,hc,n,hd⟩:=id p1
 simp only at hc hd
 subst hc hd
 have J:¬its.toArray.isEmpty=true:=λz=>Y (by
  have:its=[]:=by simpa using z
  rw[this]at j;exact HL.mp j)
 have Z:its.toArray.size*k.toNat<=Fv:=by rw[Go,<-j];exact hz
 have O:Lv (λx1 x2=>x1++x2) #[] (F7 k.toNat its.toArray)=(F7 k.toNat its).flatten.toArray:=by
  have:=QL its k.toNat []
  rw[List.nil_append]at this
  exact this
 refine Ow (T:="tuple") (U:="int") (by decide) ⟨_,e,rfl⟩ (λs'=>KL s' k t) Zv Ox LJ XL Oy.lookup
  (Ij LJ (KL s k t) Oz (OA _ _) (Yq k t l its.toArray n dd sl)
   ⟨e,rfl,⟨_,e,rfl⟩,Ij LI ⟨_,e,rfl⟩ OB (OC _ _) (iS l its.toArray n dd sl k t J h1 h2 Z) ⟨e,?_⟩⟩)
 rw[O]
 have aa:(F7 k.toNat xs).flatten.length<=Fv:=by rw[rO,IF];exact hz
 have I2:Inv X pins σ (upd H s.heap.objs.size (.tup (F7 k.toNat xs).flatten)) {s with heap:=s.heap.push {cls:=.type "tuple",data:=.seq (F7 k.toNat its).flatten.toArray}} :=
  I.laid (t':=s.toks) (λb o e=>FQ _ e) (FA _) (show yB X.prog X.w _ _ _ (.tup _)from⟨aa,_,r.rep k.toNat,Lq _ _⟩)
 exact⟨.ref s.heap.objs.size,_,I2,rfl,q _ (I.hok.fresh (FA _))⟩
end
end L2
namespace DD
open PySem PySem.Spec L2
open PyProof.Rows hiding St
section
variable {K:Fs} {F H:Hp} {X:Cx}
theorem fU(r:Are K F ds vs):∀n:Nat,Are K F (F7 n ds).flatten (F7 n vs).flatten
 | 0=>.nil
 | n+1=>by
  rw[Iz,IT,Iz,IT]
  exact r.append (fU r n)
def JP:B->B->Option D
 | .d (.tup ds),.d (.int k)=>if ds≠[]/\2<=k/\k<2^62/\ds.length*k.toNat<=Fv then some (.tup (F7 k.toNat ds).flatten)else none
 | _,_=>none
def sf:OpB K (JO K) JP:=λF H x y v u d Q O U Y e q=>by
 match x,y,e,U,Y with
 | .d (.tup a),.d (.int k),e,U,Y=>
  unfold JP at e
  simp only at e
  by_cases Z:a≠[]/\2<=k/\k<2^62/\a.length*k.toNat<=Fv
  ·rw[if_pos Z]at e;cases e
   obtain⟨h1,h2,h3,h4⟩:=Z
   have j:Is K F (.tup a) v:=U
   have J:Is K F (.int k) u:=Y
   simp only[Is]at j J
   obtain⟨p,vs,rfl,hp,r1⟩:=j
   subst J
   refine⟨p,k,vs,rfl,rfl,SqT.of (O _ _ hp),λz=>h1 ?_,h2,by omega,by rw[r1.length];exact h4,λl hl=>q _ (upd F l (.tup (F7 k.toNat vs).flatten)) _ (.fix O hl _) ?_⟩
   ·have:=r1.length;rw[z]at this;exact HL.mp this.symm
   ·simp only[Is]
    exact⟨l,_,rfl,zj,(fU r1 _).mono (zz (O.free hl) _)⟩
  ·rw[if_neg Z]at e;cases e
end
end DD
namespace DD
open PySem PySem.Spec L2
open PyProof.Rows hiding St
section
variable {X:Cx}
end
end DD
namespace L2
open PySem PySem.Spec PyProof.Rows
section
variable {X:Cx}
end
end L2
namespace DD
open PySem PySem.Spec L2
open PyProof.Rows hiding St
section
variable {X:Cx} {K:Fs} {a e:Fu} {f g:G->Option B}
def qZ:List D->Option (List Fp)
 | []=>some []
 | .str x::r=>(qZ r).map (x::·)
 | _=>none
def AB(j:Fp)(xs:List Fp):Bool:=decide (j.length<=16) && decide ((xs.map (·.length)).sum+xs.length<=1048576)
def wP:B->B->Option D
 | .d (.str sep),b=>b.seq.bind λds=>(qZ ds).bind λxs=>if AB sep xs=true then some (.str (Txt.join sep xs))else none
 | _,_=>none
end
end DD
namespace L2
open PySem PySem.Spec PyProof.Rows
section
variable {X:Cx}
end
end L2
namespace DD
open PySem PySem.Spec L2
open PyProof.Rows hiding St
section
variable {X:Cx} {K:Fs} {a e:Fu} {f g:G->Option B}
end
end DD
namespace L2
open PySem PySem.Spec PyProof.Rows
def eG(l:Fo)(items:Array Fl)(n:Nat)(dd:Option Fo)(sl:Array (Option Fl))(u:G8):
  Kl (HU.«tuple.__mul__» ⟨[.ref l,.int 1 u],[]⟩) (λ_ R s=>s.heap.get? l=some {cls:=.type "tuple",dict:=dd,data:=.seq items n,slots:=sl}/\R (.ok (.ret (Value.ref l))) s) :=
 .of_wp λprog w A R s h=>by
  obtain⟨hp,g,d,tk,os⟩:=s;obtain⟨hl,h⟩:=h
  have f1:=Os
  have c1:(decide ((1:Int)< -(2^63)) || decide ((1:Int)>=2^63))=false:=by decide
  have c2:(items.isEmpty|| (1:Int)==1)=true:=by simp
  wp_walk using wpAny_loadPart' hl
  first
   | rw[if_neg (by rw[c1];exact Gx)]
   | skip
  wp_walk using wpAny_loadPart' hl
  first
   | rw[if_pos c2]
   | skip
  wp_walk using wpAny_loadPart' hl
  exact⟨_,rfl,h⟩
section
variable {X:Cx}
def VZ(K:Fs):R2:=λx y H Q=>∃l xs,x=.ref l/\y=.int 1/\SqT K H l xs/\Q (.ref l) H
def oz:OpR X (GW .Mult) (VZ X.K):=by
 intro pins s σ H x y v u Q I Y Z h
 obtain⟨l,xs,rfl,rfl,hH,q⟩:=h
 cases Y
 obtain⟨t,rfl⟩:=Z
 obtain⟨its,r,p1,_⟩:=I.tuple hH
 obtain⟨⟨cls,j,data,z⟩,e,J,n,O⟩:=id p1
 simp only at J O
 subst J O
 refine Ow (T:="tuple") (U:="int") (by decide) ⟨_,e,rfl⟩ (λs'=>KL s' 1 t) Zv Ox LJ XL Oy.lookup
  (Ij LJ (KL s 1 t) Oz (OA _ _) (Yq 1 t l its.toArray n j z)
   ⟨e,rfl,⟨_,e,rfl⟩,Ij LI ⟨_,e,rfl⟩ OB (OC _ _) (eG l its.toArray n j z t) ⟨e,?_⟩⟩)
 exact⟨.ref l,H,I,rfl,q⟩
end
end L2
namespace DD
open PySem PySem.Spec L2
open PyProof.Rows hiding St
section
variable {K:Fs} {F H:Hp} {X:Cx}
def Yr:B->B->Option D
 | .d (.tup ds),.d (.int k)=>if k=1 then some (.tup ds)else none
 | _,_=>none
def oA:OpB K (VZ K) Yr:=λF H x y v u d Q Z J O e q=>by
 match x,y,e,J,O with
 | .d (.tup a),.d (.int k),e,J,O=>
  unfold Yr at e
  simp only at e
  by_cases U:k=1
  ·rw[if_pos U]at e;cases e
   have j:Is K F (.tup a) v:=J
   have Y:=j
   have z:Is K F (.int k) u:=O
   simp only[Is]at j z
   obtain⟨p,vs,rfl,hp,r1⟩:=j
   subst z U
   exact⟨p,vs,rfl,rfl,SqT.of (Z _ _ hp),q _ F H (.refl Z) Y⟩
  ·rw[if_neg U]at e;cases e
def Wp:=mOr Yr JP
def si:OpR X (GW .Mult) (λx y H Q=>VZ X.K x y H Q\/JO X.K x y H Q):=oz.or se
def sj:OpB K (λx y H Q=>VZ K x y H Q\/JO K x y H Q) Wp:=oA.or sf
end
end DD
namespace DD
open PySem PySem.Spec L2
open PyProof.Rows hiding St
section
variable {X:Cx} {a b tg:Fu} {fs:G->Option (List B)} {pos:FG}
def Cb{K:Fs}{F H:Hp}{x y:B}{vs:List V}(h:aD K F H [x,y] vs):∃u v,vs=[u,v]/\BIs K F H x u/\BIs K F H y v:=by
 cases h with
 | cons p q=>
  cases q with
  | cons p2 q2=>cases q2;exact⟨_,_,rfl,p,p2⟩
end
end DD
namespace L2
open PySem PySem.Spec PyProof.Rows
def Itz(r1 r2:Hp->List V->Prop):It :=
 ⟨λi H=>∃xs ys x y,r1 H xs/\r2 H ys/\xs[i]?=some x/\ys[i]?=some y,λi H x H'=>∃T u v,H T=none/\H'=upd H T (.tup [u,v])/\x=.ref T/\(∀xs,r1 H xs->xs[i]?=some u)/\∀ys,r2 H ys->ys[i]?=some v,
  λi H=>∃xs ys,r1 H xs/\r2 H ys/\(xs.length<=i\/ys.length<=i)⟩
section
variable {X:Cx} {pins:List (Fo×FD)} {σ:St} {H:Hp} {s:Fq}
def QV{cs:List Fo}{u v:V}{x y:Fl}{tk':Nat}{h':Fz}(I:Inv X pins σ H s)(j:∀b∈cs,wF X pins H b)(Y:zI u x)(Z:zI v y) 
  (hT:h'.get? s.heap.objs.size=some {cls:=.type "tuple",data:=.seq #[x,y]}) (U:∀b o,b∉cs->s.heap.get? b=some o->h'.get? b=some o) :
  Inv X pins σ (upd H s.heap.objs.size (.tup [u,v])) {s with heap:=h',toks:=tk'}:=by
 have hn:H s.heap.objs.size=none:=I.hok.fresh (FA _)
 have fT:wF X pins H s.heap.objs.size:=I.fpOk (FA _) hn
 have ch:∀b∈s.heap.objs.size::cs,wF X pins H b:=λb J=>by
  rcases FL.mp J with q|J
  ·rw[q];exact fT
  ·exact j b J
 have ne:∀b,b∉s.heap.objs.size::cs->b∉cs:=λb J z=>J (Gc _ z)
 have neT:∀b o,s.heap.get? b=some o->b≠s.heap.objs.size:=λb o q=>Gd (FV q)
 refine I.step (g':=s.gens) (d':=s.drawn) (ch:=s.heap.objs.size::cs) (λb J=>let ⟨_,q1,_,q2,q3,q4⟩:=ch b J;⟨q2,q1,q3,q4⟩)
  (λb o _ _ O q _=>U b o (ne b O) q) (λb o _ _ O q _=>⟨o.slots,U b o (ne b O) q⟩) (λb o O q n=>by rw[zd (neT b o q)];exact n) (λb o O q=>⟨o,U b o (ne b O) q⟩)
  (λb xs q=>by rw[zd (zn q hn)];exact q) (λb o u q=>by rw[zd (zn q hn)];exact q) (λb ps q=>⟨#[],by rw[zd (zn q hn),q];simp⟩) (λm hm=>?_) ?_ I.bare
 ·obtain⟨o,es,ep,ho,r⟩:=hm
  exact⟨o,es,ep,U _ o (λz=>(j _ z).2.1 rfl) ho,r⟩
 ·refine HOk.track I.hok hn (λb u nb q=>U b u (λz=>nb (j b z).1) q) ?_
  exact⟨by show 2<=Fv;decide,[x,y],.cons Y (.cons Z .nil),⟨_,hT,rfl,_,rfl⟩⟩
def V0{cs:List Fo}{tk':Nat}{h':Fz}(I:Inv X pins σ H s)(J:∀b∈cs,wF X pins H b)(O:∀b o,b∉cs->s.heap.get? b=some o->h'.get? b=some o):
  Inv X pins σ H {s with heap:=h',toks:=tk'}:=by
 refine I.step (g':=s.gens) (d':=s.drawn) (ch:=cs) (λb U=>let ⟨_,q1,_,q2,Y,Z⟩:=J b U;⟨q2,q1,Y,Z⟩)
  (λb o _ _ j q _=>O b o j q) (λb o _ _ j q _=>⟨o.slots,O b o j q⟩) (λ_ _ _ _ n=>n) (λb o j q=>⟨o,O b o j q⟩)
  (λ_ _ q=>q) (λ_ _ _ q=>q) (λb ps q=>⟨#[],by rw[q];simp⟩) (λm hm=>?_) (λb u q=>?_) I.bare
 ·obtain⟨o,es,ep,ho,r⟩:=hm
  exact⟨o,es,ep,O _ o (λz=>(J _ z).2.1 rfl) ho,r⟩
 ·refine(I.hok b u q).stay (λc v j e=>O c v (λz=>?_) e) (λ_ q=>q) λ_ _ q=>q
  have:=(J c z).1
  rcases j with rfl|j
  ·rw[q]at this;cases this
  ·rw[j]at this;cases this
end
structure ZipDiff (z TI TO i1 i2:Fo):Prop where
 TIz:TI≠z
 TOz:TO≠z
 i1z:i1≠z
 i2z:i2≠z
 TITO:TI≠TO
 TIi1:TI≠i1
 TIi2:TI≠i2
 TOi1:TO≠i1
 TOi2:TO≠i2
 i12:i1≠i2
def oB(n:Nat):ZipDiff (n+4) (n+2) (n+3) n (n+1):=⟨λ(q:(n+2:Nat)=n+4)=>by omega,λ(q:(n+3:Nat)=n+4)=>by omega,λ(q:(n:Nat)=n+4)=>by omega,λ(q:(n+1:Nat)=n+4)=>by omega,λ(q:(n+2:Nat)=n+3)=>by omega,λ(q:(n+2:Nat)=n)=>by omega,λ(q:(n+2:Nat)=n+1)=>by omega,λ(q:(n+3:Nat)=n)=>by omega,λ(q:(n+3:Nat)=n+1)=>by omega,λ(q:(n:Nat)=n+1)=>by omega⟩
section
variable {X:Cx}
end
end L2
namespace DD
open PySem PySem.Spec L2
open PyProof.Rows hiding St
section
variable {X:Cx} {a b:Fu} {fs:G->Option (List B)} {pos:FG}
def XM(xs ys:List D):List D:=List.zipWith (λu v=>D.tup [u,v]) xs ys
end
end DD
namespace DN
open PySem PySem.Spec L2
open PyProof.Rows hiding St
def V1:entryFor table "dict.update.loop"=some HU.«dict.update.loop»:=entryFor_of_tree (by kernel_rfl)
def uY:plainId "dict.update.loop"=true:=by decide+kernel
def sk:Kp (.type "list") "keys"=pure none:=by rw[MW,MX];kernel_rfl
section
variable {prog:FI} {w:FB} {A:FW} {E:Fl->Fq->Prop} {s:Fq}
def sn{a:Fo}{xs:Array Fl}{k:Nat}{sl:Array (Option Fl)}{name:Fp}{u:G8}{Q:Fl->Fq->Prop} 
  (hx:s.heap.get? a=some {cls:=.type "list",dict:=none,data:=.seq xs k,slots:=sl}) (hmiss:Kp (.type "list") name=pure none)
  (hname:(["__module__","__name__","__qualname__","__doc__","__annotations__"]:List Fp).contains name=false) (hA:A.handled=none)
  (h:∀h' tk e,Heap.NewExcOf s.heap h' e "AttributeError"->E (.ref e) {s with heap:=h',toks:=tk}) (hsz:name.length+100<=Fv:=by size_fits) :
  wpAny (Fx prog w) A (getAttrBy (.ref a) (.str name u) false) Q E s:=by
 obtain⟨hp,g,d,tk,os⟩:=s
 have hT:∀tk',(⟨hp,g,d,tk',os⟩:Fq).TypeIs (.ref a) "list":=λ_=>⟨_,hx,rfl⟩
 have f1:=OD
 have f3:=MY.lookup
 have f4:=MY.bind (.ref a)
 have f5:=am_list_getattr_none
 unfold getAttrBy
 repeat (any_goals (first|assumption|exact hT _|((with_reducible show wpAny _ _ (call (Value.builtin "list.__getattribute__") _ _) _ _ _);refine Ij MY (hT _) am_entry_list_getattribute (F.args_list_getattribute_2 _ _) (meets_getattribute_miss_list a xs k sl name _ hmiss hname hsz) ⟨hx,hA,λh' tk' e hx'=>?_⟩)|wp_step))
 obtain⟨t',u',he⟩:=hx'.there
 show wpAny _ _ (OE _ _ _ _ _ _ _) _ _ _
 unfold OE
 repeat (any_goals (first|assumption|wp_step))
 exact h _ _ _ hx'.of
def md{a:Fo}{xs:Array Fl}{k:Nat}{sl:Array (Option Fl)}{name:Fp}{Q:Option Fl->Fq->Prop} 
  (hx:s.heap.get? a=some {cls:=.type "list",dict:=none,data:=.seq xs k,slots:=sl}) (hmiss:Kp (.type "list") name=pure none)
  (hname:(["__module__","__name__","__qualname__","__doc__","__annotations__"]:List Fp).contains name=false) (hA:A.handled=none)
  (h:∀h' tk,(∀b o,s.heap.get? b=some o->h'.get? b=some o)->Q none {s with heap:=h',toks:=tk}) (hsz:name.length+100<=Fv:=by size_fits) :
  wpAny (Fx prog w) A (getAttr? (.ref a) name) Q E s:=by
 unfold getAttr? getAttrBy?
 refine Ft (wpAny_mkText ?_)
 refine Ft (KQ (sn (s:={s with toks:=s.toks+1}) hx hmiss hname hA (λh' tk e hx'=>?_) hsz))
 obtain⟨ob,vs,he,hc,_⟩:=hx'.there
 refine Ft (KR (T:="AttributeError") ⟨ob,he,hc⟩ OD ?_)
 exact FS (h _ _ hx'.keeps)
def loop{d I l:Fo}{its:Array Fl}(hA:A.handled=none)(hdI:d≠I)(hdl:d≠l)(hlI:l≠I)(kvs:List (Key×Fl))(hn:its.size=kvs.length)(hsz:kvs.length<=100000){R:Li->Fq->Prop}:
  ∀(n i:Nat) (s:Fq) (acc:List (Key×Fl)),kvs.length-i=n->i<=kvs.length->acc.length<=i->s.heap.IsListIter I l i->s.heap.IsList l its->s.heap.DictOf (yc prog w) d acc->
   (∀j (hj:j<kvs.length),∃b key,its[j]?=some (.ref b)/\b≠d/\b≠I/\Ip s.heap b #[key,(kvs[j]'hj).2]/\(yc prog w).is (kvs[j]'hj).1 key=true)->
   (∀h' tk,h'.DictOf (yc prog w) d (merged acc (kvs.drop i))->(∀b o,b≠d->b≠I->s.heap.get? b=some o->h'.get? b=some o)->R (.ok (.ret .none)) {s with heap:=h',toks:=tk})->
   codeAny (Fx prog w) A (.builtin "dict.update.loop" ⟨[.ref d,.ref I,.int i 0,.none],[]⟩) R s:=by
 have hA1:A.in1.handled=none:=by simp[hA]
 intro n
 induction n with
 | zero=>
  intro i s acc hk hi hac hit hl hd hT hR
  have hin:i=kvs.length:=by omega
  subst hin
  refine KY V1 ?_
  rw[KZ uY _]
  show wpAny _ A.in1 (Hu (.ref I)>>=_) _ _ s
  refine Ft (Mh hA1 hit hl (by simp[hn]) λh' he=>?_)
  refine FS ?_
  rw[MR]at hR
  exact hR h' s.toks ((by obtain⟨o,es,ep,ho,r⟩:=hd;exact⟨o,es,ep,he d o hdI ho,r⟩)) λb o h1 h2 e=>he b o h2 e
 | succ n ih=>
  intro i s acc hk hi hac hit hl hd hT hR
  have hlt:i<kvs.length:=by omega
  obtain⟨b,key,hb,hbd,hbI,ht,hkey⟩:=hT i hlt
  refine KY V1 ?_
  rw[KZ uY _]
  show wpAny _ A.in1 (Hu (.ref I)>>=_) _ _ s
  refine Ft (Mg hit hl hb λh1 hit1 hs1=>?_)
  have k1:∀b o,b≠I->s.heap.get? b=some o->h1.get? b=some o:=λb o hb e=>hs1.extBut b o hb e
  have ht1:Ip h1 b #[key,(kvs[i]'hlt).2]:=(by obtain⟨o,ho,r⟩:=ht;exact⟨o,k1 b o hbI ho,r⟩)
  have hd1:h1.DictOf (yc prog w) d acc:=(by obtain⟨o,es,ep,ho,r⟩:=hd;exact⟨o,es,ep,k1 d o hdI ho,r⟩)
  refine Ft (HF ?_)
  refine Ft (wpAny_tryCatch ?_)
  obtain⟨o,ho,hc,m,hdat⟩:=ht1
  unfold Ri
  refine Ft (LK (T:="tuple") ⟨o,ho,hc⟩ ?_)
  rw[if_pos (by decide)]
  refine Ft (Ik ho hdat (FS ?_))
  show wpAny _ _ (HE [key,(kvs[i]'hlt).2] (dictSet d key (kvs[i]'hlt).2)) _ _ _
  refine HF ?_
  refine wpAny_dictSet_pairs (s:={s with heap:=h1}) (knd:=yc prog w) hkey hd1 (λh2 hd2 hs2=>?_) (by rw[HG];omega)
  have k2:∀b o,b≠d->b≠I->s.heap.get? b=some o->h2.get? b=some o:=λb o h3 h4 e=>hs2.extBut b o h3 (k1 b o h4 e)
  refine FS ⟨K0 uY _,?_⟩
  show codeAny (Fx prog w) A (.builtin "dict.update.loop" ⟨[.ref d,.ref I,.int ((i:Int)+1) 0,.none],[]⟩) R _
  have ei:((i:Int)+1)=((i+1:Nat):Int):=by omega
  rw[ei]
  refine ih (i+1) _ (LD acc (kvs[i]'hlt).1 (kvs[i]'hlt).2) (by omega) (by omega) (by have:=stored_length_le acc (kvs[i]'hlt).1 (kvs[i]'hlt).2;omega) ?_ ?_ hd2 ?_ ?_
  ·obtain⟨o,ho,r⟩:=hit1
   exact⟨o,hs2.extBut I o (FH hdI) ho,r⟩
  ·obtain⟨o,ho,r⟩:=hl
   exact⟨o,k2 l o (FH hdl) hlI ho,r⟩
  ·intro j hj
   obtain⟨b,key,q1,q2,q3,⟨o,ho,r⟩,q5⟩:=hT j hj
   exact⟨b,key,q1,q2,q3,⟨o,k2 b o q2 q3 ho,r⟩,q5⟩
  ·intro h' tk hd' hk'
   refine hR h' tk ?_ λb o h3 h4 e=>hk' b o h3 h4 (k2 b o h3 h4 e)
   rw[KS hlt]
   exact hd'
def iT{l:Fo}{its:Array Fl}{n:Nat}{sl:Array (Option Fl)}{kvs:List (Key×Fl)}{Q:Fl->Fq->Prop}(hA:A.handled=none) 
  (hl:s.heap.get? l=some {cls:=.type "list",dict:=none,data:=.seq its n,slots:=sl}) (hn:its.size=kvs.length) (hsz:kvs.length<=100000)
  (hp:∀j (hj:j<kvs.length),∃b key,its[j]?=some (.ref b)/\Ip s.heap b #[key,(kvs[j]'hj).2]/\(yc prog w).is (kvs[j]'hj).1 key=true)
  (h:∀h' tk,h'.DictOf (yc prog w) s.heap.objs.size (merged [] kvs)->(∀b o,s.heap.get? b=some o->h'.get? b=some o)->Q (.ref s.heap.objs.size) {s with heap:=h',toks:=tk}) :
  wpAny (Fx prog w) A (call (.type "dict") [.ref l]) Q E s:=by
 refine OF (Q₁:=λobj s₁=>obj=.ref s.heap.objs.size/\s₁={s with heap:=s.heap.push {cls:=.type "dict",data:=.dict #[]}}) F.kt_called_dict (F.kt_typeCall_dict_1 _) F.entry_dict_init (kt_code_dict_new _ ⟨rfl,rfl⟩) ?_
 rintro obj s₁ ⟨rfl,rfl⟩
 have hnew:(s.heap.push {cls:=.type "dict",data:=.dict #[]}).DictOf (yc prog w) s.heap.objs.size []:=Oo s.heap
 have hl':(s.heap.push {cls:=.type "dict",data:=.dict #[]}).get? l=some {cls:=.type "list",dict:=none,data:=.seq its n,slots:=sl}:=FQ _ hl
 have hA2:A.in1.in1.handled=none:=by simp[hA]
 refine⟨hnew.typeIs,F.args_dict_init_2 _ _,?_⟩
 unfold HU.«dict.__init__»
 refine Ft ?_
 unfold Rj
 refine Ft (wpAny_notOrdered_dict hnew.typeIs ?_)
 show wpAny _ _ (pure (s.heap.objs.size,[Value.ref l])) _ _ _
 refine FS ?_
 show wpAny _ _ (OG "dict.__init__" s.heap.objs.size (.ref l) [] .none) _ _ _
 unfold OG
 refine Ft (LK (T:="list") ⟨_,hl',rfl⟩ ?_)
 rw[if_pos (by decide)]
 refine Ft (md hl' sk (by decide+kernel) hA2 λh1 tk1 k1=>?_)
 rw[if_pos (show(Option.none:Option Fl).isNone=true from rfl)]
 refine Ft (Lz ?_)
 have hl1:h1.IsList l its:=⟨_,k1 _ _ hl',rfl,n,rfl⟩
 refine Ft (Ky hl1 ?_)
 have hdl:s.heap.objs.size<h1.objs.size:=FV (k1 s.heap.objs.size _ (Gr _ rfl))
 have hll:l<s.heap.objs.size:=FV hl
 refine FS ⟨K0 uY _,?_⟩
 have k0:∀b o,s.heap.get? b=some o->(h1.push {cls:=.type "list_iterator",data:=.fields #[.ref l,.int 0 0]}).get? b=some o:=λb o e=>FQ _ (k1 b o (FQ _ e))
 refine loop (by simp[hA]) (d:=s.heap.objs.size) (I:=h1.objs.size) (l:=l) (its:=its) (Gd hdl) (Kx hll) (Gd (GT hll hdl)) kvs hn hsz kvs.length 0 _ [] (by omega) (by omega) (by simp) ?_ ?_ ?_ ?_ ?_
 ·exact⟨_,Gr _ rfl,rfl,rfl⟩
 ·exact⟨_,k0 _ _ hl,rfl,n,rfl⟩
 ·obtain⟨o,es,ep,ho,r⟩:=hnew
  exact⟨o,es,ep,FQ _ (k1 _ _ ho),r⟩
 ·intro j hj
  obtain⟨b,key,q1,⟨o,ho,r⟩,q3⟩:=hp j hj
  have hb:b<s.heap.objs.size:=FV ho
  exact⟨b,key,q1,Gd hb,Gd (GT hb hdl),⟨o,k0 b o ho,r⟩,q3⟩
 ·intro h' tk hd' hk'
  refine⟨rfl,h h' tk hd' λb o e=>hk' b o ?_ ?_ (k0 b o e)⟩
  ·exact Gd (FV e)
  ·exact Gd (GT (FV e) hdl)
end
end DN
namespace L2
open PySem PySem.Spec PyProof.Rows
section
variable {X:Cx}
def W8(H:Hp):List V->List (Key×V)->Prop:=Paired λv j=>∃b,v=.ref b/\H b=some (.tup [kV j.1,j.2])
def AC:List V->Hp->VK->Prop:=λxs H Q=>∃a ps kvs,xs=[.ref a]/\H a=some (.lst ps)/\W8 H ps kvs/\kvs.length<=100000/\∀p,H p=none->Q (.ref p) (upd H p (.dK (vg [] kvs)))
theorem aT{P:FI}{w:FB}{H:Hp}{h:Fz}(ok:HOk P w H h):∀{ps:List V} {kvs:List (Key×V)} {its:List Fl},W8 H ps kvs->zC ps its->∃rs:List (Key×Fl),KV kvs rs/\rs.length=its.length/\
  ∀j (hj:j<rs.length),∃b key,its[j]?=some (.ref b)/\Ip h b #[key,(rs[j]'hj).2]/\(yc P w).is (rs[j]'hj).1 key=true
 | _,_,its,.nil,r=>by
  cases r
  exact⟨[],.nil,rfl,λj hj=>absurd hj (by simp)⟩
 | _,_,its,@Paired.cons _ _ _ v kv vs kvs ⟨b,e,hb⟩ t,r=>by
  cases r with
  | @cons _ u _ us r1 r2=>
   obtain⟨rs,h1,h2,h3⟩:=aT ok t r2
   subst e
   cases r1
   obtain⟨_,ts,rt,hT⟩:=(show yB P w H h b (.tup _)from ok b _ hb)
   obtain⟨key,val,rfl,rk,rv⟩:∃key val,ts=[key,val]/\zI (kV kv.1) key/\zI kv.2 val:=by
    cases rt with
    | cons q1 q2=>
     cases q2 with
     | cons q3 q4=>cases q4;exact⟨_,_,rfl,q1,q3⟩
   refine⟨(kv.1,val)::rs,.cons ⟨rfl,rv⟩ h1,by simp[h2],λj hj=>?_⟩
   cases j with
   | zero=>exact⟨b,key,rfl,hT,YY rk⟩
   | succ j=>exact h3 j (by simpa using hj)
def iU(hc:X.calm=true):vI X (.type "dict") AC:=by
 rintro pins s σ H xs us Q I r ⟨a,ps,kvs,e,ha,hp,hz,q⟩
 subst e
 obtain⟨u,rfl,ru⟩:=Wd r
 cases ru
 obtain⟨_,its,n,rv,e⟩:=(show yB X.prog X.w H s.heap a (.lst ps)from I.hok a _ ha)
 obtain⟨rs,hkv,hl,hj⟩:=aT I.hok hp rv
 have hlen:rs.length=kvs.length:=(Paired.length hkv).symm
 refine DN.iT (kvs:=rs) (I.ok.hd hc) e (by simp[hl]) (by omega) (λj h=>by simpa using hj j h) λh' tk hd hk=>?_
 have hz2:(vg [] kvs).length<=Fv:=by
  have h1:=uO kvs []
  rw[KA]at h1
  rw[HG];omega
 exact⟨.ref s.heap.objs.size,_,I.laid (a:=s.heap.objs.size) (o:=.dK (vg [] kvs)) (t':=tk) hk (FA _) (VQ hz2 (by
  have:=I.big
  simp;exact Kx this) (hkv.merge .nil) hd),rfl,q _ (I.hok.fresh (FA _))⟩
end
end L2
namespace DD
open PySem PySem.Spec L2
open PyProof.Rows hiding St
section
variable {X:Cx} {e:Fu} {fs:G->Option (List B)} {pos:FG}
def Zw:List D->Option (List (Key×D))
 | []=>some []
 | .tup [k,v]::r=>(XI k).bind λk=>(Zw r).map λt=>(k,v)::t
 | _=>none
def uH(kvs j:List (Key×D)):List (Key×D):=j.foldl (λacc z=>wk acc z.1 z.2) kvs
def V2(i:Nat)(fs:G->Option (List B)):G->Option Out:=λΓ=>(fs Γ).bind λbs=>match bs with
 | [.d (.lst ds)]=>(Zw ds).bind λkvs=>if kvs.length<=100000 then some (.nx (Γ.set i (.ok (uH [] kvs))))else none
 | _=>none
theorem QW{K:Fs}{F:Hp}:∀{ds:List D} {kvs:List (Key×D)} {vs:List V},Zw ds=some kvs->Are K F ds vs->∃ws,W8 F vs ws/\xZ K F kvs ws
 | [],kvs,vs,e,r=>by
  cases e
  rw[r.inv0]
  exact⟨[],.nil,.nil⟩
 | d::ds,kvs,vs,e,r=>by
  match d,e,r with
  | .tup [k,v],e,r=>
   obtain⟨z,J,e⟩:=bind_some e
   obtain⟨t,O,rfl⟩:=map_some e
   obtain⟨x,xs,rfl,h1,h2⟩:=r.inv
   obtain⟨ws,q1,q2⟩:=QW O h2
   simp only[Is]at h1
   obtain⟨b,us,rfl,U,j⟩:=h1
   obtain⟨Z,r1,rfl,i1,j⟩:=j.inv
   obtain⟨Y,r2,rfl,i2,j⟩:=j.inv
   have:=j.inv0;subst this
   have:=Yn J i1;subst this
   exact⟨(z,Y)::ws,.cons ⟨b,rfl,U⟩ q1,.cons ⟨rfl,i2⟩ q2⟩
def mf{K:Fs}{F:Hp}:∀{j:List (Key×D)} {ws:List (Key×V)} {kvs:List (Key×D)} {vs:List (Key×V)},xZ K F j ws->xZ K F kvs vs->xZ K F (uH kvs j) (vg vs ws):=λ{j ws kvs vs} h=>by
 induction h generalizing kvs vs with
 | nil=>exact λr=>r
 | @cons p q ps J h t z=>
  intro r
  obtain⟨e,h⟩:=h
  exact z (kvs:=wk kvs p.1 p.2) (vs:=x6 vs q.1 q.2) (by rw[<-e];exact UU r h)
def W8.mono(s:zm F H)(h:W8 F vs ws):W8 H vs ws:=Paired.mapP h λ_ _ j=>by obtain⟨b,e,z⟩:=j;exact⟨b,e,s _ _ z⟩
def sr{i:Nat}{x:Fp}{p p2 p3:FG}(hc:X.calm=true)(hN:X.N.Nodup)(hi:X.N[i]?=some x)(hx:Loc X.env.scope x)(hg:Gl X "dict")(hm:X.mg "dict"=none)(ha:EA X [e] fs) 
  (he:FK [e] X.env=[(false,FJ e X.env)]:=by rfl) (hs:GP (.Call (.Name "dict" p2) [e] [] p3) (some (.Name x p)) pos.line X.env=pure false:=by rfl)
  (hf:X.fn x=true\/X.env.scope.names.lookup x=some .local:=by first|exact .inl rfl|exact .inr rfl|assumption) :
  SD X (.Assign [.Name x p] (.Call (.Name "dict" p2) [e] [] p3) pos) (V2 i fs) :=
 yV (yZ hN hi hx (ZK (iU hc) hg hm boot_dict ha (by decide) (by decide) he (by rfl)) hs hf) λE σ H hh63'=>by
  obtain⟨F0,H0,F,Γ,z,En,e,q⟩:=hh63'
  obtain⟨bs,hb,e⟩:=bind_some e
  refine⟨F0,H0,F,Γ,bs,En,hb,λvs F1 H1 e1 r1=>?_⟩
  match bs,e,r1 with
  | [.d (.lst ds)],e,r1=>
   obtain⟨kvs,hk,e⟩:=bind_some e
   by_cases hz:kvs.length<=100000
   ·rw[if_pos hz]at e;cases e
    obtain⟨v,rfl,hv⟩:=uB r1
    have hv':Is X.K F1 (.lst ds) v:=hv
    simp only[Is]at hv'
    obtain⟨a,us,rfl,hfa,ra⟩:=hv'
    obtain⟨ws,q1,q2⟩:=QW hk ra
    refine⟨a,us,ws,rfl,e1.fh _ _ hfa,W8.mono e1.fh q1,by rw[W6 q2];exact hz,λpp hp=>?_⟩
    have E1:=En.grow e1
    have ex:Ext F1 H1 F1 (upd H1 pp (.dK (vg [] ws))):=.own e1.fh hp _
    refine q _ F1 _ ((E1.grow ex).putOwn ⟨pp,vg [] ws,rfl,zj,mf q2 .nil,e1.fh.free hp,E1.ext.hh.free hp⟩ λj s hj hs ho z=>?_) (e1.trans ex).ff
    obtain⟨o',h1,h2⟩:=E1.val j s hs
    rw[z]at h1;cases h1
    cases s with
    | un=>cases ho
    | v d=>cases ho
    | ol ds=>obtain⟨a',vs,e',q1,_⟩:=h2;cases e';rw[hp]at q1;cases q1
    | ot kvs=>obtain⟨a',vs,e',q1,_⟩:=h2;cases e';rw[hp]at q1;cases q1
    | ok kvs=>obtain⟨a',vs,e',q1,_⟩:=h2;cases e';rw[hp]at q1;cases q1
   ·rw[if_neg hz]at e;cases e
end
end DD
namespace DD
open PySem PySem.Spec L2
open PyProof.Rows hiding St
section
variable {X:Cx} {a b c e:Fu} {f g h:G->Option B} {pos:FG} {es:List Fu} {fs:G->Option (List B)}
def JQ(i:Nat)(z J:G->Option B):G->Option Out:=λΓ=>(vx Γ i).bind λds=>(J Γ).bind λO=>O.asD.bind λv=>(z Γ).bind λU=>U.int.bind λk=>(ixN ds.length k).map λj=>.nx (Γ.set i (.ol (ds.set j v)))
def AD{i:Nat}{x:Fp}{ix value:Fu}{fi fv:G->Option B}{px ppos:FG}(ho:PE X (.Name x px) (vK i))(hi:EE X ix fi)(hv:EE X value fv) 
  (ha:∀v,Ht (.Subscript (.Name x px) ix ppos) X.env v=(do
   let ov <-HE [v] (FJ (.Name x px) X.env)
   let iv <-HE [v,ov] (FJ ix X.env)
   Kd ppos
   HE [v,ov,iv] (La ov iv v)
   release [v,ov,iv] []):=by intro _;rfl)
  (hs:Md [.Subscript (.Name x px) ix ppos] value pos.line X.env=pure false:=by rfl) (hw:Me [.Subscript (.Name x px) ix ppos] value X.env=pure none:=by rfl)
  (h1:(GQ [.Subscript (.Name x px) ix ppos] X.env).map (·.2)=[Ht (.Subscript (.Name x px) ix ppos) X.env]:=by rfl) :
  SD X (.Assign [.Subscript (.Name x px) ix ppos] value pos) (JQ i fi fv):=yV (Xv hv (Vt ho hi YT ha) hs hw h1) λE σ H ⟨F0,H0,F,Γ,o,En,e,q⟩=>by
 obtain⟨ds,hd,e⟩:=bind_some e
 obtain⟨bv,hbv,e⟩:=bind_some e
 obtain⟨v,hv,e⟩:=bind_some e
 obtain⟨bi,hbi,e⟩:=bind_some e
 obtain⟨k,hk,e⟩:=bind_some e
 obtain⟨j,hj,rfl⟩:=map_some e
 have:=xI hv;subst this
 have hi:=XE hd
 refine⟨F0,H0,F,Γ,_,En,hbv,λw F1 H1 e1 r1=>?_⟩
 obtain⟨o,h1,p,vs,rfl,h2,h3,h4,h5⟩:=En.val i _ hi
 refine⟨_,h1,F0,H0,F1,Γ,_,En.grow e1,hbi,λu F2 H2 e2 r2=>?_⟩
 have hf1:F1 p=none:=e1.freed h4 (by rw[h2];simp)
 have h21:=e1.hh _ _ h2
 have hf2:F2 p=none:=e2.freed hf1 (by rw[h21];simp)
 have hu:=vD hk r2
 subst hu
 refine⟨p,vs,k,j,rfl,rfl,e2.hh _ _ h21,by rw[h3.length];exact hj,?_⟩
 exact q σ F2 _ (((En.grow e1).grow e2).change (s1:=.ol ds) hi rfl h1 h5 hf2 ⟨p,vs.set j w,rfl,zj,((h3.mono e1.ff).mono e2.ff).set (Is.mono e2.ff _ r1) j,hf2,h5⟩) (e1.ff.trans e2.ff)
def AE(i:Nat)(f:G->Option B):G->Option Out:=λΓ=>(zc i Γ).bind λx=>x.int.bind λk=>(f Γ).bind λy=>y.int.map λj=>.nx (Γ.set i (.v (.int (k+j))))
def Cc{i:Nat}{x:Fp}{p:FG}(hN:X.N.Nodup)(hi:X.N[i]?=some x)(Y:Loc X.env.scope x)(he:EE X e f)(hf:X.fn x=true\/X.env.scope.names.lookup x=some .local:=by first|exact .inl rfl|exact .inr rfl|assumption):
  SD X (.AugAssign (.Name x p) .Add e pos) (AE i f):=yV (tY hN hi Y he tZ hf) λE σ H ⟨F0,H0,F,Γ,o,Z,e,q⟩=>by
 obtain⟨bx,O,e⟩:=bind_some e
 obtain⟨k,U,e⟩:=bind_some e
 obtain⟨y,hy,e⟩:=bind_some e
 obtain⟨j,hj,rfl⟩:=map_some e
 have Y:∃v,σ[i]?=some (some v)/\v=.int k:=by
  unfold zc at O
  cases z:Γ[i]? with
  | none=>rw[z]at O;cases O
  | some s=>
   rw[z]at O
   have J:s.look=some bx:=O
   obtain⟨o',h1,h2⟩:=Z.val i s z
   cases s with
   | v d=>cases J;obtain⟨v,rfl,r⟩:=h2;exact⟨v,h1,vD (F:=F) (H:=H) U r⟩
   | un=>cases J
   | ol ds=>cases J;cases U
   | ot ds=>cases J;cases U
   | ok ds=>cases J;cases U
 obtain⟨v,hv,rfl⟩:=Y
 refine⟨_,hv,F0,H0,F,Γ,_,Z,hy,λu F1 H1 e1 r1=>?_⟩
 have hu:=vD hj r1
 subst hu
 exact⟨k,j,rfl,rfl,q _ F1 H1 ((Z.grow e1).put (by simp[Is])) e1.ff⟩
def mh(i:Nat)(k:Int)(v:Bool):G->Option Out:=λΓ=>some (.nx (Γ.set i (.ok [(Sum.inl k,.bl v)])))
def ss{i:Nat}{x:Fp}{p dp kp vp:FG}{kk vv:Nat}{k:Int}{v:Bool}(hN:X.N.Nodup)(hi:X.N[i]?=some x)(hx:Loc X.env.scope x)(hs:GP (.Dict [some (.Constant (.int k) kk kp)] [.Constant (.bool v) vv vp] dp) (some (.Name x p)) pos.line X.env=pure false:=by rfl)(hf:X.fn x=true\/X.env.scope.names.lookup x=some .local:=by first|exact .inl rfl|exact .inr rfl|assumption):
  SD X (.Assign [.Name x p] (.Dict [some (.Constant (.int k) kk kp)] [.Constant (.bool v) vv vp] dp) pos) (mh i k v) :=
 yV (yZ hN hi hx (rZ (trs:=[(tC (.int k),tC (.bl v))]) (aM wd uU fQ) rfl rfl (by simp) (by show 1<=15;decide)) hs hf) λE σ H q=>by
  have:=QU (X:=X) (o:=.dK [(Sum.inl k,.bl v)]) (s0:=.ok [(Sum.inl k,.bl v)]) (λF H a _ h1 h2 H0 h3=>⟨a,[(Sum.inl k,.bl v)],rfl,h1,.cons ⟨rfl,by simp[Is]⟩ .nil,h2,h3⟩) q
  intro p hp
  refine⟨zj,[(Sum.inl k,.bl v)],rfl,by simp,?_⟩
  rw[rE]
  exact this p hp
def su(hu:X.A.units+1<Gi):IxR X (λx y H Q=>∃a v,x=.ref a/\x9 H a y (some v)/\Q v H):=by
 intro value slice pins s σ H x y v u Q I rx ry h hs
 obtain⟨a,z,rfl,g,q⟩:=h
 cases rx
 have hT:=WR I g
 unfold MD
 refine Ft ?_
 rw[Oi hT.not_modules]
 refine Ft (KU hT On.lookup ?_)
 have fin:wpAny (Fx X.prog X.w) X.A (KG slice false (.ref a) u) (λr s₃=>wpAny (Fx X.prog X.w) X.A (Oj value (.ref a) r>>=λ_=>pure r) (EP X pins σ Q) X.xe s₃) X.xe s:=by
  rw[hs]
  exact Ol (Hf (QR hu I g ry λw' s3 I3 rw'=>(⟨z,H,I3,rw',q⟩:EP X pins σ Q w' s3)) (λr s₃ h₃=>Ft (Om (FS h₃))) λ_ _ x=>x)
 first
  | exact FS (Ft fin)
  | exact Ft (FS (Ft fin))
  | exact Ft fin
def oC{K:Fs}:OpB K (λx y H Q=>∃a v,x=.ref a/\x9 H a y (some v)/\Q v H) v7:=λF H x y v u d Q O U Y Z q=>by
 obtain⟨k,hk,j⟩:=bind_some Z
 obtain⟨o,ho,z⟩:=bind_some j
 have:=xI hk;subst this
 have J:o=some d:=z
 subst J
 obtain⟨a,r,rfl,g,w,rfl,hw⟩:=UV O U Y ho
 exact⟨a,w,rfl,g,q _ F H (.refl O) hw⟩
def aU:=mOr mIx v7
def Cd(U:X.A.units+1<Gi)(Y:EE X a f)(Z:EE X b g)(hs:UM b):EE X (.Subscript a b pos) (x2 aU f g) :=
 yx (xo ((xQ.or wR).or (su U)) Y Z hs) λσ H Q j=>by
  obtain⟨F0,H0,F,Γ,z,E,e,q⟩:=j
  obtain⟨x,y,d,hx,hy,hd,rfl⟩:=ug e
  exact⟨F0,H0,F,Γ,x,E,hx,λv F1 H1 O r1=>⟨F0,H0,F1,Γ,y,E.grow O,hy,λu F2 H2 J r2=>(qT.or oC) F2 H2 x y v u d Q J.fh (r1.ext J) r2 hd λw F' H' e3 r3=>q w F' H' ((O.trans J).trans e3) r3⟩⟩
end
def ins(x:Int):List Int->List Int
 | []=>[x]
 | y::r=>if x<=y then x::y::r else y::ins x r
section
variable {K:Fs} {F H:Hp}
end
section
variable {X:Cx} {a b c e:Fu} {f g h:G->Option B} {pos:FG} {es:List Fu} {fs:G->Option (List B)}
end
end DD
namespace L2
open PySem PySem.Spec PyProof.Rows
def q0(h:(yc P w).is k u=true):zI (kV k) u:=by
 rcases xq h with⟨i,t,rfl,rfl⟩|⟨x,t,rfl,rfl⟩
 ·exact⟨t,rfl⟩
 ·exact⟨t,rfl⟩
def Itd(o:FD)(d:Fo)(kvs:List (Key×V)):It :=
 ⟨λi H=>H d=some (.frz o (.dK kvs))/\i<kvs.length,λi H x H'=>∃T k v,H T=none/\x=.ref T/\kvs[i]?=some (k,v)/\H'=upd H T (.tup [kV k,v]),λi H=>H d=some (.frz o (.dK kvs))/\kvs.length<=i⟩
def KV.get{kvs:List (Key×V)}{vs:List (Key×Fl)}(r:KV kvs vs){i:Nat}{k:Key}{v:V}(h:kvs[i]?=some (k,v)):∃u,vs[i]?=some (k,u)/\zI v u:=by
 induction r generalizing i with
 | nil=>simp at h
 | cons a t J=>
  cases i with
  | zero=>
   simp at h
   subst h
   obtain⟨a1,a2⟩:=a
   rename_i q _ _
   obtain⟨q1,q2⟩:=q
   have z:k=q1:=a1
   subst z
   exact⟨q2,rfl,a2⟩
  | succ j=>exact J (by simpa using h)
def iV{P:FI}{w:FB}{K:Fs}{elts:List Fu}{k:Nat}{tp:FG}{d it:Fo}{o:FD}{kvs:List (Key×V)}{vs:List (Key×Fl)}{ep:Nat}(hdi:d≠it)(rel:KV kvs vs) 
  (hD:∀h:Fz,h.get? d=some o->h.DictAt (yc P w) d vs ep) :
  Turn P w K (.Tuple elts k tp) (Itd o d kvs) [it] it (λi h=>∃ok ov,IsItemIter h it d i vs.length ep ok ov) where
 mem:=by simp
 obj:=λi h st b hb=>by
  have e:b=it:=by simpa using hb
  subst e
  obtain⟨ok,ov,e⟩:=st
  exact⟨_,e,λv z=>by
   have z':Data.fields _=Data.cell v:=z
   cases z'⟩
 keep:=λi h h' st k=>let ⟨ok,ov,e⟩:=st;⟨ok,ov,k it (by simp) _ e⟩
 item:=by
  intro X hP hw hK hc i pins s σ H E I hf st hg
  subst hP hw hK
  obtain⟨hd,hi⟩:=hg
  obtain⟨ok,ov,hit⟩:=st
  have hdo:s.heap.get? d=some o:=(I.hok d _ hd).1
  have hm:=hD _ hdo
  have hx:kvs[i]?=some (kvs[i].1,kvs[i].2):=by simp[hi]
  obtain⟨u,hu,ru⟩:=rel.get hx
  have fi:=hf it (by simp)
  refine wpAny_pyNext_items_item hit hm hu λkey h' hkey ho hT hsz hk=>?_
  refine⟨_,rfl,wpAny_letOwnedTupleGo_items ho λh2 he2 hs2=>?_⟩
  have lt:it≠s.heap.objs.size:=Gd (FV hit)
  have hk2:∀b o,b∉ [it]->s.heap.get? b=some o->h2.get? b=some o:=λb o nb q=>by
   have nb':b≠it:=λz=>nb (by simp[z])
   exact(hs2.2 b nb').trans (hk b o nb' q)
  have I2:=QV (tk':=s.toks) (cs:=[it]) (h':=h2) I (λb hb=>hf b hb) (q0 hkey) ru ((hs2.2 _ (FH lt)).trans hT) hk2
  refine⟨.ref s.heap.objs.size,_,I2,rfl,⟨_,kvs[i].1,kvs[i].2,I.hok.fresh (FA _),rfl,hx,rfl⟩,⟨_,_,he2⟩,λb hb=>?_⟩
  have e:b=it:=by simpa using hb
  subst e
  rw[zd lt]
  exact fi.1
 done:=by
  intro X hP hw hK hc i pins s σ H E I hf st hg
  subst hP hw hK
  obtain⟨hd,hi⟩:=hg
  obtain⟨ok,ov,hit⟩:=st
  have hdo:s.heap.get? d=some o:=(I.hok d _ hd).1
  have hm:=hD _ hdo
  have hl:=rel.length
  refine wpAny_pyNext_items_end (I.ok.hd hc) hit hm (by simp;omega) λh' hk=>⟨rfl,V0 (cs:=[it]) I (λb hb=>hf b hb) λb o nb q=>?_⟩
  exact hk b o (λz=>nb (by simp[z])) q
 self:=λ_ _ _ _ _ hh65' h=>by obtain⟨ok,ov,e⟩:=hh65';exact PySem.W.kcp_self e h
section
variable {X:Cx}
def AF(td:TE):TI:=λσ H R=>td σ H λx H1=>∃d kvs,x=.ref d/\H1 d=some (.dK kvs)/\∀o,R (Itd o d kvs) (upd H1 d (.frz o (.dK kvs)))
def oE{o:Fu}{td:TE}{apos cpos tp:FG}{elts:List Fu}{k:Nat}(ho:PE X o td) 
  (hbase:Kg o "items" X.env (FJ o X.env)=FJ o X.env:=by rfl) (hline:(apos.endLine==cpos.line)=true:=by rfl) :
  PI X (.Tuple elts k tp) (.Call (.Attribute o "items" apos) [] [] cpos) (AF td):=by
 intro pins s σ H R I h
 refine NT hbase hline (thn (ho pins s σ H _ I h) λv s1 ⟨x,H1,I1,r1,q1⟩=>?_)
 obtain⟨d,kvs,e,hd,q⟩:=q1
 subst e
 cases (show v=Value.ref d from r1)
 obtain⟨z,hsys,vs,rel,dd⟩:=VO I1.hok hd
 obtain⟨ep,da⟩:=dd.dictAt
 obtain⟨ob,es,hob,hrest⟩:=id da
 refine⟨"dict","dict.items",Op,OH,F.type_dict_items,dd.typeIs,dd.mapOf.noDict,Lr rfl (NU ?_)⟩
 refine call_meetsIn OH dd.typeIs PySem.F.entry_dict_items (PySem.F.args_dict_items_1 _) (meets_dict_items (yc X.prog X.w) d hsys) ⟨⟨vs,dd⟩,?_⟩
 refine wpAny_pyIter_items (knd:=yc X.prog X.w) (d:=d) (kvs:=vs) (ep:=ep) ⟨_,Gr _ rfl,rfl,rfl⟩ (da.push _) ?_
 have I2:=I1.write (x:=d) (e:=d) (o:=.frz ob (.dK kvs)) (h':=s1.heap) (t':=s1.toks) (by rw[hd];exact True.intro) (.inl rfl) (λ_ _ _ q=>q) ⟨ob,hob⟩ ⟨hob,z,hsys,vs,rel,dd⟩
 have I3:=I2.kept (h':=(s1.heap.push {cls:=.type "dict_items",data:=.fields #[.ref d]}).push {cls:=.type "dict_itemiterator",data:=.fields #[.none,.bool false,.ref d,.int 0 0,.int vs.length 0,.int ep 0,.none,.none]}) (t':=s1.toks)
  λb u q=>FQ _ (FQ _ q)
 have hsz:(s1.heap.push {cls:=.type "dict_items",data:=.fields #[.ref d]}).objs.size=s1.heap.objs.size+1:=HH ..
 have hdl:d<s1.heap.objs.size:=FV hob
 have hdi:d≠(s1.heap.push {cls:=.type "dict_items",data:=.fields #[.ref d]}).objs.size:=by rw[hsz];exact Gd (KO hdl)
 refine⟨_,[_],_,_,_,rfl,I3,iV (vs:=vs) (ep:=ep) hdi rel (λh q=>⟨ob,es,q,hrest⟩),⟨.none,.none,Gr _ rfl⟩,λb hb=>?_,q ob⟩
 have e:b=(s1.heap.push {cls:=.type "dict_items",data:=.fields #[.ref d]}).objs.size:=by simpa using hb
 have hb':s1.heap.objs.size<=b:=by rw[e,hsz];exact KC _
 exact I2.fpOk (H':=upd H1 d (.frz ob (.dK kvs))) hb' (by rw[e,zd (FH hdi),<-e];exact I1.hok.fresh hb')
end
section
variable {X:Cx}
theorem QX:∀{kvs:List (Key×V)} {vs:List (Key×Fl)} (us:List Fl),KV kvs vs->us.length=vs.length->(∀(j:Nat) (v:Fl),us[j]?=some v->∃k x,vs[j]?=some (k,x)/\(yc P w).is k v=true)->zC (kvs.map λJ=>kV J.1) us
 | _,_,us,.nil,z,_=>by
  cases us with
  | nil=>exact .nil
  | cons a b=>simp at z
 | _,_,us,.cons a t,z,h=>by
  cases us with
  | nil=>simp at z
  | cons u r=>
   obtain⟨k,x,e,O⟩:=h 0 u rfl
   simp at e
   subst e
   have a1:=a.1
   refine .cons ?_ (QX r t (by simpa using z) λj v U=>by simpa using h (j+1) v (by simpa using U))
   show zI (kV _) u
   rw[a1]
   exact q0 O
def iW(Z:X.calm=true):vI X (.type "list") (λxs H Q=>∃a kvs,xs=[V.ref a]/\H a=some (.dK kvs)/\∀l,H l=none->Q (.ref l) (upd H l (.lst (kvs.map λO=>kV O.1)))):=by
 intro pins s σ H xs us Q I r h
 obtain⟨a,kvs,rfl,ha,q⟩:=h
 obtain⟨u,rfl,ru⟩:=Wd r
 cases ru
 obtain⟨z,U,vs,Y,dd⟩:=VO I.hok ha
 obtain⟨ep,da⟩:=dd.dictAt
 have hl:=Y.length
 refine PySem.W.kdl_call (PySem.W.kdl_dict (knd:=yc X.prog X.w) (kvs:=vs) (ep:=ep) U) (I.ok.hd Z) da (by rw[<-hl];exact z) λh' tk acc c hk hS J=>?_
 have hv:zC (kvs.map λO=>kV O.1) acc.toList:=QX acc.toList Y (by rw[K8];exact J.1) λj v e=>J.2 j v (by rw[<-MH];exact e)
 have I2:=I.laid (a:=s.heap.objs.size) (o:=.lst (kvs.map λO=>kV O.1)) (h':=h') (t':=tk) hk (FA _) ⟨by rw[FF];exact z,acc.toList,c,hv,hS⟩
 exact⟨.ref s.heap.objs.size,_,I2,rfl,q _ (I.hok.fresh (FA _))⟩
end
end L2
namespace Hop
structure HS where
 partOf:List Nat
 parts:List (List Nat)
 waiting:List Nat
 waits:List Bool
noncomputable def xh:List (Nat×List Nat)->Nat->Nat->List (Nat×List Nat)
 | [],p,s=>[(p,[s])]
 | (q,l)::r,p,s=>if q=p then(q,l++[s])::r else(q,l)::xh r p s
def v8(z:List Nat)(back:List (List Nat))(partOf:List Nat):List (Nat×List Nat) :=
 z.foldl (λj g=>(back.getD g []).foldl (λj s=>xh j (partOf.getD s 0) s) j) []
def xO(j:List Nat)(l:List Nat)(v:Nat):List Nat:=l.foldl (λj s=>j.set s v) j
def yy(st:HS)(part:Nat)(stands:List Nat):HS :=
 if stands.length=(st.parts.getD part []).length then st
 else
  let rest:=(st.parts.getD part []).filter λs=>!stands.contains s
  let fresh:=st.parts.length
  let w:=if(st.waits++[false]).getD part false=true\/stands.length<=rest.length then fresh else part
  ⟨xO st.partOf stands fresh,st.parts.set part rest++[stands],st.waiting++[w],(st.waits++[false]).set w true⟩
def wT(st:HS)(j:List (Nat×List Nat)):HS:=j.foldl (λst f=>yy st f.1 f.2) st
def wm(j:List Nat)(st:HS)(back:List (List Nat)):HS:=wT st (v8 j back st.partOf)
def take(st:HS)(p:Nat):HS:=⟨st.partOf,st.parts,st.waiting.dropLast,st.waits.set p false⟩
def turn(j:List (List (List Nat)))(st:HS):HS:=match st.waiting.getLast? with
 | none=>st
 | some p=>j.foldl (wm (st.parts.getD p [])) (take st p)
def start(good:List Bool):HS:=⟨good.map λb=>if b then 1 else 0,[(Fy good.length).filter λs=>!good.getD s false,(Fy good.length).filter λs=>good.getD s false],[0,1],[true,true]⟩
structure Ok (n:Nat) (st:HS):Prop where
 len:st.partOf.length=n
 lt:∀s,s<n->st.partOf.getD s 0<st.parts.length
 nd:∀p,(st.parts.getD p []).Nodup
 mem:∀p s,s∈st.parts.getD p []↔s<n/\st.partOf.getD s 0=p/\p<st.parts.length
 wl:st.waits.length=st.parts.length
 ww:∀p,p<st.parts.length->(st.waits.getD p false=true↔p∈st.waiting)
 wlt:∀p∈st.waiting,p<st.parts.length
 wnd:st.waiting.Nodup
def wQ{α:Type}{l:List α}{i j:Nat}{v d:α}:(l.set i v).getD j d=if i=j/\i<l.length then v else l.getD j d:=by
 simp only[FM,MZ]
 by_cases h:i=j
 ·subst h
  by_cases h2:i<l.length <;>simp[h2]
 ·simp[h]
theorem Y0:∀(l:List Nat) (j:List Nat) (v:Nat),(xO j l v).length=j.length
 | [],_,_=>rfl
 | s::r,j,v=>by
  show(xO (j.set s v) r v).length=_
  rw[Y0 r,GD]
theorem V3:∀(l:List Nat) (j:List Nat) (v s:Nat),(∀x∈l,x<j.length)->(xO j l v).getD s 0=if s∈l then v else j.getD s 0
 | [],j,v,s,_=>by simp[xO]
 | x::r,j,v,s,h=>by
  show(xO (j.set x v) r v).getD s 0=_
  rw[V3 r _ _ _ (λy J=>by rw[GD];exact h y (Gc _ J)),wQ]
  have O:=h x F9
  by_cases h1:s∈r
  ·simp[h1]
  ·by_cases h2:x=s
   ·subst h2;simp[h1,O]
   ·have:¬s=x:=λz=>h2 z.symm
    simp[h1,h2,this]
structure Cut (n:Nat) (st:HS) (part:Nat) (stands:List Nat):Prop where
 lt:part<st.parts.length
 nd:stands.Nodup
 sub:∀s∈stands,s∈st.parts.getD part []
theorem yF:∀{l m:List Nat},l.Nodup->(∀x∈l,x∈m)->l.length<=m.length
 | [],_,_,_=>GI _
 | x::r,m,j,h=>by
  rw[GX]at j
  have J:=h x F9
  have U:=yF (l:=r) (m:=m.erase x) j.2 λy O=>by
   have z:y≠x:=λe=>j.1 (e▸O)
   exact(OI z).mpr (h y (Gc _ O))
  rw[OJ J]at U
  have:0<m.length:=OK J
  simp only[Gu]
  omega
def mi{l m:List Nat}(J:l.Nodup)(h:∀x∈l,x∈m)(e:l.length=m.length):∀x∈m,x∈l:=λx O=>by
 by_cases j:x∈l
 ·exact j
 ·have:=yF (l:=x::l) (m:=m) (GX.mpr ⟨j,J⟩) λy z=>by
   rcases FL.mp z with rfl|z
   ·exact O
   ·exact h y z
  simp only[Gu]at this
  omega
def xl{α:Type}{l:List α}{x d:α}{i:Nat}:(l++[x]).getD i d=if i<l.length then l.getD i d else if i=l.length then x else d:=by
 simp only[FM]
 by_cases h:i<l.length
 ·rw[GK h];simp[h]
 ·rw[Ii (by omega)]
  by_cases h2:i=l.length
  ·simp[h2]
  ·have:i-l.length≠0:=by omega
   have j:([x]:List α)[i-l.length]?=none:=M0 (by simp;omega)
   simp[h,h2,j]
def UW{α:Type}{l:List α}{d:α}{i:Nat}(h:l.length<=i):l.getD i d=d:=by
 rw[FM,M0 h];rfl
section
variable {n:Nat} {st:HS} {part:Nat} {stands:List Nat}
def V4(h:stands.length=(st.parts.getD part []).length):yy st part stands=st:=if_pos h
structure Off (n:Nat) (st:HS) (part:Nat) (stands:List Nat) (st':HS):Prop where
 ok:Ok n st'
 pl:st'.parts.length=st.parts.length+1
 po:∀s,st'.partOf.getD s 0=if s∈stands then st.parts.length else st.partOf.getD s 0
 wt:∀p,p∈st.waiting->p∈st'.waiting
 one:st.parts.length∈st'.waiting\/part∈st'.waiting
 both:part∈st.waiting->st.parts.length∈st'.waiting
 wlen:st'.waiting.length=st.waiting.length+1
 only:∀p∈st'.waiting,p∈st.waiting\/p=st.parts.length\/p=part
def aV(ok:Ok n st)(c:Cut n st part stands)(h:stands.length≠(st.parts.getD part []).length):Off n st part stands (yy st part stands):=by
 have ab:∀s∈stands,s<n:=λs Y=>((ok.mem part s).mp (c.sub s Y)).1
 have ad:∀s∈stands,st.partOf.getD s 0=part:=λs Y=>((ok.mem part s).mp (c.sub s Y)).2.1
 generalize J:((st.parts.getD part []).filter λs=>!stands.contains s)=rest
 generalize Z:(if(st.waits++[false]).getD part false=true\/stands.length<=rest.length then st.parts.length else part)=w
 have ae:yy st part stands=⟨xO st.partOf stands st.parts.length,st.parts.set part rest++[stands],st.waiting++[w],(st.waits++[false]).set w true⟩:=by
  unfold yy
  rw[if_neg h]
  simp only[J,Z]
 rw[ae]
 have aa:w=st.parts.length\/w=part:=by
  rw[<-Z];split
  ·exact .inl rfl
  ·exact .inr rfl
 have ac:w<st.parts.length+1:=by
  rcases aa with e|e
  ·omega
  ·have:=c.lt;omega
 have get:∀s,(xO st.partOf stands st.parts.length).getD s 0=if s∈stands then st.parts.length else st.partOf.getD s 0:=λs=>V3 stands st.partOf _ s λx hx=>by rw[ok.len];exact ab x hx
 have af:∀s,s∈rest↔s∈st.parts.getD part []/\s∉stands:=λs=>by
  rw[<-J,HC]
  simp
 have gp:∀p,(st.parts.set part rest++[stands]).getD p []=if p=st.parts.length then stands else if p=part then rest else st.parts.getD p []:=λp=>by
  rw[xl,GD,wQ]
  by_cases h1:p<st.parts.length
  ·have h2:¬p=st.parts.length:=by omega
   by_cases h3:part=p
   ·subst h3;simp[h1,h2]
   ·have j:¬p=part:=λz=>h3 z.symm
    simp[h1,h2,h3,j]
  ·by_cases h2:p=st.parts.length
   ·simp[h2]
   ·have j:¬p=part:=by have:=c.lt;omega
    simp only[h1,h2,j,if_false]
    exact(UW (by omega)).symm
 refine⟨⟨?_,?_,?_,?_,?_,?_,?_,?_⟩,?_,get,?_,?_,?_,?_,?_⟩
 ·show(xO _ _ _).length=n
  rw[Y0];exact ok.len
 ·intro s Y
  show(xO _ _ _).getD s 0<(st.parts.set part rest++[stands]).length
  rw[get,Gb,GD,GA]
  have:=ok.lt s Y
  split <;>omega
 ·intro p
  show((st.parts.set part rest++[stands]).getD p []).Nodup
  rw[gp]
  split
  ·exact c.nd
  ·split
   ·rw[<-J];exact(ok.nd part).filter _
   ·exact ok.nd p
 ·intro p s
  show s∈(st.parts.set part rest++[stands]).getD p []↔s<n/\(xO _ _ _).getD s 0=p/\p<(st.parts.set part rest++[stands]).length
  rw[gp,get,Gb,GD,GA]
  by_cases h1:p=st.parts.length
  ·rw[if_pos h1]
   constructor
   ·intro Y
    exact⟨ab s Y,by rw[if_pos Y,h1],by omega⟩
   ·rintro⟨h2,h3,_⟩
    by_cases j:s∈stands
    ·exact j
    ·rw[if_neg j]at h3
     have:=ok.lt s h2
     omega
  ·rw[if_neg h1]
   by_cases h2:p=part
   ·rw[if_pos h2,af,ok.mem]
    subst h2
    constructor
    ·rintro⟨⟨a,b,_⟩,d⟩
     exact⟨a,by rw[if_neg d];exact b,by have:=c.lt;omega⟩
    ·rintro⟨a,b,_⟩
     by_cases j:s∈stands
     ·rw[if_pos j]at b;omega
     ·rw[if_neg j]at b
      exact⟨⟨a,b,c.lt⟩,j⟩
   ·rw[if_neg h2,ok.mem]
    constructor
    ·rintro⟨a,b,d⟩
     refine⟨a,?_,by omega⟩
     by_cases j:s∈stands
     ·exact absurd ((ad s j).symm.trans b) (λz=>h2 z.symm)
     ·rw[if_neg j];exact b
    ·rintro⟨a,b,d⟩
     by_cases j:s∈stands
     ·rw[if_pos j]at b;omega
     ·rw[if_neg j]at b
      exact⟨a,b,by omega⟩
 ·show((st.waits++[false]).set w true).length=_
  rw[GD,Gb,GA,ok.wl,Gb,GD,GA]
 ·intro p U
  have O:p<st.parts.length+1:=by
   have:p<(st.parts.set part rest++[stands]).length:=U
   rw[Gb,GD,GA]at this
   exact this
  show((st.waits++[false]).set w true).getD p false=true↔p∈st.waiting++[w]
  rw[wQ,Gb,GA,ok.wl,Gk,Gf]
  by_cases h1:w=p
  ·subst h1
   rw[if_pos ⟨rfl,O⟩]
   simp
  ·rw[if_neg λz=>h1 z.1,xl,ok.wl]
   by_cases h2:p<st.parts.length
   ·rw[if_pos h2,ok.ww p h2]
    exact⟨.inl,λz=>z.elim id λz=>absurd z.symm h1⟩
   ·have h3:p=st.parts.length:=by omega
    rw[if_neg h2,if_pos h3]
    constructor
    ·intro z;cases z
    ·rintro(z|z)
     ·have:=ok.wlt p z;omega
     ·exact absurd z.symm h1
 ·intro p U
  show p<(st.parts.set part rest++[stands]).length
  rw[Gb,GD,GA]
  have O:p∈st.waiting++[w]:=U
  rcases Gk.mp O with z|z
  ·have:=ok.wlt p z;omega
  ·rw[Gf.mp z];exact ac
 ·show(st.waiting++[w]).Nodup
  rw[G3]
  refine⟨ok.wnd,by simp,λa ha b hb e=>?_⟩
  rw[Gf]at hb
  subst hb;subst e
  by_cases h1:(st.waits++[false]).getD part false=true\/stands.length<=rest.length
  ·rw[if_pos h1]at Z
   have:=ok.wlt _ ha
   omega
  ·rw[if_neg h1]at Z
   subst Z
   have:=(ok.ww part c.lt).mpr ha
   exact h1 (.inl (by rw[xl,ok.wl,if_pos c.lt];exact this))
 ·show(st.parts.set part rest++[stands]).length=_
  rw[Gb,GD,GA]
 ·intro p U
  exact He _ U
 ·show st.parts.length∈st.waiting++[w]\/part∈st.waiting++[w]
  rcases aa with e|e
  ·exact .inl (by rw[e];simp)
  ·exact .inr (by rw[e];simp)
 ·intro U
  show st.parts.length∈st.waiting++[w]
  have:(st.waits++[false]).getD part false=true:=by
   rw[xl,ok.wl,if_pos c.lt]
   exact(ok.ww part c.lt).mpr U
  rw[if_pos (.inl this)]at Z
  rw[<-Z];simp
 ·show(st.waiting++[w]).length=_
  simp
 ·intro p U
  have O:p∈st.waiting++[w]:=U
  rcases Gk.mp O with z|z
  ·exact .inl z
  ·rw[Gf.mp z]
   exact .inr aa
end
structure Fnd (f:Nat->Nat) (xs:List Nat) (found:List (Nat×List Nat)):Prop where
 nd:(found.map Gq).Nodup
 ls:∀p l,(p,l)∈found->l.Nodup/\l≠[]/\∀s,s∈l↔s∈xs/\f s=p
 all:∀s∈xs,∃l,(f s,l)∈found
theorem V5:∀(j:List (Nat×List Nat)) (p s:Nat),(xh j p s).map Gq=if p∈j.map Gq then j.map Gq else j.map Gq++[p]
 | [],p,s=>by simp[xh]
 | (q,l)::r,p,s=>by
  unfold xh
  by_cases h:q=p
  ·subst h;simp
  ·rw[if_neg h,FY,V5 r p s]
   have h':¬p=q:=λz=>h z.symm
   by_cases h2:p∈r.map Gq
   ·simp only[FY,FL,h',h2,if_true,or_true]
   ·simp only[FY,FL,h',h2,if_false,or_false,OL]
theorem vS:∀(j:List (Nat×List Nat)) (p s q:Nat) (l:List Nat),(j.map Gq).Nodup->((q,l)∈xh j p s↔(q≠p/\(q,l)∈j)\/(q=p/\((∃J,(p,J)∈j/\l=J++[s])\/(p∉j.map Gq/\l=[s]))))
 | [],p,s,q,l,_=>by
  simp only[xh,Gf,OM]
  constructor
  ·rintro⟨rfl,rfl⟩;exact .inr ⟨rfl,.inr ⟨by simp,rfl⟩⟩
  ·rintro(⟨_,h⟩|⟨rfl,h|⟨_,rfl⟩⟩)
   ·cases h
   ·obtain⟨_,h,_⟩:=h;cases h
   ·exact⟨rfl,rfl⟩
 | (a,b)::r,p,s,q,l,O=>by
  rw[FY,GX]at O
  unfold xh
  by_cases h:a=p
  ·subst h
   rw[if_pos rfl,FL,FL]
   constructor
   ·rintro(e|e)
    ·cases e;exact .inr ⟨rfl,.inl ⟨b,F9,rfl⟩⟩
    ·have:q≠a:=λz=>O.1 (FX.mpr ⟨(q,l),e,z⟩)
     exact .inl ⟨this,.inr e⟩
   ·rintro(⟨h1,e|e⟩|⟨rfl,⟨J,e,rfl⟩|⟨hn,_⟩⟩)
    ·cases e;exact absurd rfl h1
    ·exact .inr e
    ·rcases FL.mp e with e|e
     ·cases e;exact .inl rfl
     ·exact absurd (FX.mpr ⟨_,e,rfl⟩) O.1
    ·exact absurd (by simp) hn
  ·rw[if_neg h,FL,vS r p s q l O.2,FL]
   have h':¬p=a:=λz=>h z.symm
   constructor
   ·rintro(e|⟨h1,e⟩|⟨rfl,⟨J,e,rfl⟩|⟨hn,rfl⟩⟩)
    ·cases e;exact .inl ⟨h,.inl rfl⟩
    ·exact .inl ⟨h1,.inr e⟩
    ·exact .inr ⟨rfl,.inl ⟨J,Gc _ e,rfl⟩⟩
    ·exact .inr ⟨rfl,.inr ⟨by rw[FY,FL];exact λz=>z.elim h' hn,rfl⟩⟩
   ·rintro(⟨h1,e|e⟩|⟨rfl,⟨J,e,rfl⟩|⟨hn,rfl⟩⟩)
    ·exact .inl e
    ·exact .inr (.inl ⟨h1,e⟩)
    ·rcases FL.mp e with e|e
     ·cases e;exact absurd rfl h
     ·exact .inr (.inr ⟨rfl,.inl ⟨J,e,rfl⟩⟩)
    ·rw[FY,FL]at hn
     exact .inr (.inr ⟨rfl,.inr ⟨λz=>hn (.inr z),rfl⟩⟩)
def oF(h:Fnd f xs j)(Y:s∉xs):Fnd f (xs++[s]) (xh j (f s) s):=by
 refine⟨?_,λp l Z=>?_,λt O=>?_⟩
 ·rw[V5]
  split
  ·exact h.nd
  ·rename_i hn
   rw[G3]
   refine⟨h.nd,by simp,λa ha b hb z=>hn ?_⟩
   rw[<-Gf.mp hb,<-z];exact ha
 ·rcases(vS j (f s) s p l h.nd).mp Z with⟨U,e⟩|⟨rfl,⟨l0,e,rfl⟩|⟨hn,rfl⟩⟩
  ·obtain⟨a,b,c⟩:=h.ls p l e
   refine⟨a,b,λt=>?_⟩
   rw[c t,Gk,Gf]
   constructor
   ·rintro⟨x,y⟩;exact⟨.inl x,y⟩
   ·rintro⟨x|rfl,y⟩
    ·exact⟨x,y⟩
    ·exact absurd y.symm U
  ·obtain⟨a,b,c⟩:=h.ls _ l0 e
   refine⟨?_,by simp,λt=>?_⟩
   ·rw[G3]
    refine⟨a,by simp,λx hx y hy z=>Y ?_⟩
    rw[<-Gf.mp hy,<-z];exact((c x).mp hx).1
   ·rw[Gk,Gk,Gf,c t]
    constructor
    ·rintro(⟨x,y⟩|rfl)
     ·exact⟨.inl x,y⟩
     ·exact⟨.inr rfl,rfl⟩
    ·rintro⟨x|x,y⟩
     ·exact .inl ⟨x,y⟩
     ·exact .inr x
  ·refine⟨by simp,by simp,λt=>?_⟩
   rw[Gf,Gk,Gf]
   constructor
   ·rintro rfl;exact⟨.inr rfl,rfl⟩
   ·rintro⟨x|x,y⟩
    ·obtain⟨l,J⟩:=h.all t x
     exact absurd (FX.mpr ⟨_,J,y⟩) hn
    ·exact x
 ·rcases Gk.mp O with O|O
  ·obtain⟨l,J⟩:=h.all t O
   by_cases e:f t=f s
   ·exact⟨l++[s],(vS j (f s) s (f t) _ h.nd).mpr (.inr ⟨e,.inl ⟨l,by rw[<-e];exact J,rfl⟩⟩)⟩
   ·exact⟨l,(vS j (f s) s (f t) _ h.nd).mpr (.inl ⟨e,J⟩)⟩
  ·have:t=s:=by simpa using O
   subst this
   by_cases e:f t∈j.map Gq
   ·obtain⟨⟨q,l⟩,J,rfl⟩:=FX.mp e
    exact⟨l++[t],(vS j _ t _ _ h.nd).mpr (.inr ⟨rfl,.inl ⟨l,J,rfl⟩⟩)⟩
   ·exact⟨[t],(vS j _ t _ _ h.nd).mpr (.inr ⟨rfl,.inr ⟨e,rfl⟩⟩)⟩
theorem fV:∀(ys xs:List Nat) (j:List (Nat×List Nat)),Fnd f xs j->(xs++ys).Nodup->Fnd f (xs++ys) (ys.foldl (λj s=>xh j (f s) s) j)
 | [],xs,j,h,_=>by rw[Iw];exact h
 | y::r,xs,j,h,J=>by
  have e:xs++y::r=(xs++[y])++r:=by simp
  rw[e]at J ⊢
  have O:y∉xs:=λz=>by
   rw[G3]at J
   have:=J.1
   rw[G3]at this
   exact this.2.2 y z y (by simp) rfl
  exact fV r (xs++[y]) _ (oF h O) J
def QY(j:List Nat)(back:List (List Nat))(partOf:List Nat):v8 j back partOf=(j.flatMap λg=>back.getD g []).foldl (λz s=>xh z (partOf.getD s 0) s) []:=by
 unfold v8
 generalize ([]:List (Nat×List Nat))=J
 induction j generalizing J with
 | nil=>rfl
 | cons g r O=>rw[NW,ON,IV,O]
structure Back (n:Nat) (d:Nat->Nat) (back:List (List Nat)):Prop where
 nd:∀g,(back.getD g []).Nodup
 mem:∀g s,s∈back.getD g []↔s<n/\d s=g
theorem Y1(b:Back n d back):∀{goals:List Nat},goals.Nodup->(goals.flatMap λg=>back.getD g []).Nodup
 | [],_=>by simp
 | g::r,h=>by
  rw[GX]at h
  rw[ON,G3]
  refine⟨b.nd g,Y1 b h.2,λx O y U z=>h.1 ?_⟩
  subst z
  obtain⟨g',j,J⟩:=LL.mp U
  have Y:=((b.mem g x).mp O).2
  have Z:=((b.mem g' x).mp J).2
  rw[<-Y,Z];exact j
def fW(b:Back n d back)(j:goals.Nodup):Fnd (λs=>partOf.getD s 0) (goals.flatMap λg=>back.getD g []) (v8 goals back partOf):=by
 rw[QY]
 have:=fV (f:=λs=>partOf.getD s 0) (goals.flatMap λg=>back.getD g []) [] [] ⟨by simp,by simp,by simp⟩ (by simpa using Y1 b j)
 simpa using this
def ul{n:Nat}{d:Nat->Nat}{back:List (List Nat)}{j:List Nat}(b:Back n d back)(s:Nat):s∈(j.flatMap λg=>back.getD g [])↔s<n/\d s∈j:=by
 rw[LL]
 constructor
 ·rintro⟨g,z,J⟩
  obtain⟨h1,h2⟩:=(b.mem g s).mp J
  exact⟨h1,by rw[h2];exact z⟩
 ·rintro⟨h1,h2⟩
  exact⟨d s,h2,(b.mem _ s).mpr ⟨h1,rfl⟩⟩
section
variable {n A:Nat} {δ:Nat->Nat->Nat} {Df:Nat->Nat->Prop}
def iX(n A:Nat)(δ:Nat->Nat->Nat)(st:HS)(j:Nat->Nat->Nat->Prop):Prop:=∀a,a<A->∀s t,s<n->t<n->st.partOf.getD s 0=st.partOf.getD t 0->st.partOf.getD (δ a s) 0≠st.partOf.getD (δ a t) 0->
 st.partOf.getD (δ a s) 0∈st.waiting\/st.partOf.getD (δ a t) 0∈st.waiting\/j a (δ a s) (δ a t)
def oG(n:Nat)(Df:Nat->Nat->Prop)(st:HS):Prop:=∀s t,s<n->t<n->st.partOf.getD s 0≠st.partOf.getD t 0->Df s t
def aW(st:HS):Prop:=∀p,2<=p->p<st.parts.length->st.parts.getD p []≠[]
structure Res (n A:Nat) (δ:Nat->Nat->Nat) (Df:Nat->Nat->Prop) (st st':HS):Prop where
 ok:Ok n st'
 fine:∀s t,s<n->t<n->st'.partOf.getD s 0=st'.partOf.getD t 0->st.partOf.getD s 0=st.partOf.getD t 0
 cnt:st'.waiting.length+st.parts.length=st.waiting.length+st'.parts.length
 stab:∀pend,iX n A δ st pend->iX n A δ st' pend
 dist:oG n Df st->oG n Df st'
 full:aW st->aW st'
 two:st.parts.length<=st'.parts.length
def Res.refl(ok:Ok n st):Res n A δ Df st st:=⟨ok,λ_ _ _ _ h=>h,rfl,λ_ h=>h,λh=>h,λh=>h,FA _⟩
def Res.trans(x:Res n A δ Df a b)(y:Res n A δ Df b c):Res n A δ Df a c :=
 ⟨y.ok,λs t j z h=>x.fine s t j z (y.fine s t j z h),by have:=x.cnt;have:=y.cnt;omega,λp h=>y.stab p (x.stab p h),λh=>y.dist (x.dist h),λh=>y.full (x.full h),Ge x.two y.two⟩
def fX(hδ:∀a s,a<A->s<n->δ a s<n)(ok:Ok n st)(c:Cut n st part stands)(ae:stands≠[])(hD:∀s t,s∈stands->t<n->st.partOf.getD t 0=part->t∉stands->Df s t/\Df t s):
  Res n A δ Df st (yy st part stands)/\∀s t,s<n->t<n->(yy st part stands).partOf.getD s 0=(yy st part stands).partOf.getD t 0->(s∈stands↔t∈stands):=by
 by_cases h:stands.length=(st.parts.getD part []).length
 ·rw[V4 h]
  refine⟨.refl ok,λs t O Z e=>?_⟩
  have all:=mi c.nd c.sub h
  have key:∀s t,t<n->st.partOf.getD s 0=st.partOf.getD t 0->s∈stands->t∈stands:=λs t Z e O=>by
   have:=((ok.mem part s).mp (c.sub s O)).2.1
   exact all t ((ok.mem part t).mpr ⟨Z,by rw[<-e];exact this,c.lt⟩)
  exact⟨key s t Z e,key t s O e.symm⟩
 ·have o:=aV ok c h
  have J:∀s∈stands,st.partOf.getD s 0=part:=λs O=>((ok.mem part s).mp (c.sub s O)).2.1
  have sp:∀s t,s<n->t<n->(yy st part stands).partOf.getD s 0=(yy st part stands).partOf.getD t 0->(s∈stands↔t∈stands):=λs t O Z e=>by
   rw[o.po,o.po]at e
   have h1:=ok.lt s O
   have h2:=ok.lt t Z
   by_cases a:s∈stands <;>by_cases b:t∈stands
   ·exact⟨λ_=>b,λ_=>a⟩
   ·rw[if_pos a,if_neg b]at e;omega
   ·rw[if_neg a,if_pos b]at e;omega
   ·exact⟨λz=>absurd z a,λz=>absurd z b⟩
  refine⟨⟨o.ok,λs t O Z e=>?_,by rw[o.wlen,o.pl];omega,λah af a ha s t O Z e U=>?_,λhd s t O Z e=>?_,λhf p h2 hp=>?_,by rw[o.pl];omega⟩,sp⟩
  ·have q:=sp s t O Z e
   rw[o.po,o.po]at e
   by_cases a:s∈stands
   ·rw[J s a,J t (q.mp a)]
   ·have b:t∉stands:=λz=>a (q.mpr z)
    rw[if_neg a,if_neg b]at e
    exact e
  ·have q:=sp s t O Z e
   have e0:st.partOf.getD s 0=st.partOf.getD t 0:=by
    rw[o.po,o.po]at e
    by_cases b:s∈stands
    ·rw[J s b,J t (q.mp b)]
    ·have b':t∉stands:=λz=>b (q.mpr z)
     rw[if_neg b,if_neg b']at e
     exact e
   have up:∀x,st.partOf.getD x 0∈st.waiting->(yy st part stands).partOf.getD x 0∈(yy st part stands).waiting:=λx Y=>by
    rw[o.po]
    by_cases b:x∈stands
    ·rw[if_pos b]
     exact o.both (by rw[<-J x b];exact Y)
    ·rw[if_neg b]
     exact o.wt _ Y
   by_cases Y:st.partOf.getD (δ a s) 0=st.partOf.getD (δ a t) 0
   ·rw[o.po,o.po]at U ⊢
    by_cases b:δ a s∈stands <;>by_cases b':δ a t∈stands
    ·rw[if_pos b,if_pos b']at U;exact absurd rfl U
    ·rw[if_pos b,if_neg b',<-Y,J _ b]
     rcases o.one with z|z
     ·exact .inl z
     ·exact .inr (.inl z)
    ·rw[if_neg b,if_pos b',Y,J _ b']
     rcases o.one with z|z
     ·exact .inr (.inl z)
     ·exact .inl z
    ·rw[if_neg b,if_neg b']at U;exact absurd Y U
   ·rcases af a ha s t O Z e0 Y with z|z|z
    ·exact .inl (up _ z)
    ·exact .inr (.inl (up _ z))
    ·exact .inr (.inr z)
  ·by_cases e0:st.partOf.getD s 0=st.partOf.getD t 0
   ·rw[o.po,o.po]at e
    by_cases a:s∈stands <;>by_cases b:t∈stands
    ·rw[if_pos a,if_pos b]at e;exact absurd rfl e
    ·exact(hD s t a Z (by rw[<-e0];exact J s a) b).1
    ·exact(hD t s b O (by rw[e0];exact J t b) a).2
    ·rw[if_neg a,if_neg b]at e;exact absurd e0 e
   ·exact hd s t O Z e0
  ·intro ac
   have ai:p<st.parts.length+1:=by rw[<-o.pl];exact hp
   have j:∀s,s<n->(yy st part stands).partOf.getD s 0≠p:=λs O z=>by
    have:s∈(yy st part stands).parts.getD p []:=(o.ok.mem p s).mpr ⟨O,z,hp⟩
    rw[ac]at this;cases this
   by_cases h3:p=st.parts.length
   ·cases stands with
    | nil=>exact ae rfl
    | cons x r=>
     have Y:x<n:=((ok.mem part x).mp (c.sub x F9)).1
     exact j x Y (by rw[o.po,if_pos F9,h3])
   ·have ag:p<st.parts.length:=by omega
    by_cases h4:p=part
    ·have:∃x,x∈st.parts.getD part []/\x∉stands:=by
      by_cases z:∃x,x∈st.parts.getD part []/\x∉stands
      ·exact z
      ·exfalso
       have ad:∀x∈st.parts.getD part [],x∈stands:=λx Y=>by
        by_cases y:x∈stands
        ·exact y
        ·exact absurd ⟨x,Y,y⟩ z
       have l1:=yF c.nd c.sub
       have l2:=yF (ok.nd part) ad
       omega
     obtain⟨x,Y,aa⟩:=this
     obtain⟨q1,q2,_⟩:=(ok.mem part x).mp Y
     exact j x q1 (by rw[o.po,if_neg aa,q2,h4])
    ·have ab:=hf p h2 ag
     cases hl:st.parts.getD p []with
     | nil=>exact ab hl
     | cons x r=>
      have Y:x∈st.parts.getD p []:=by rw[hl];exact F9
      obtain⟨q1,q2,_⟩:=(ok.mem p x).mp Y
      have aa:x∉stands:=λz=>h4 (by rw[<-q2,J x z])
      exact j x q1 (by rw[o.po,if_neg aa,q2])
structure Prec (n:Nat) (G:Nat->Prop) (st:HS) (fs:List (Nat×List Nat)):Prop where
 nd:(fs.map Gq).Nodup
 ls:∀p l,(p,l)∈fs->p<st.parts.length/\l.Nodup/\l≠[]/\∀s,s∈l↔s<n/\G s/\st.partOf.getD s 0=p
theorem V6(U:∀a s,a<A->s<n->δ a s<n){G:Nat->Prop}(hG:∀s t,s<n->t<n->G s->¬G t->Df s t/\Df t s):∀(fs:List (Nat×List Nat)) (st:HS),Ok n st->Prec n G st fs->
  Res n A δ Df st (wT st fs)/\∀p l,(p,l)∈fs->∀s t,s<n->t<n->(wT st fs).partOf.getD s 0=(wT st fs).partOf.getD t 0->(s∈l↔t∈l)
 | [],st,ok,_=>⟨.refl ok,λ_ _ h=>by cases h⟩
 | (p,l)::r,st,ok,pr=>by
  obtain⟨hp,aa,ab,Y⟩:=pr.ls p l F9
  have c:Cut n st p l:=⟨hp,aa,λs j=>by
   obtain⟨h1,_,h3⟩:=(Y s).mp j
   exact(ok.mem p s).mpr ⟨h1,h3,hp⟩⟩
  have hD:∀s t,s∈l->t<n->st.partOf.getD t 0=p->t∉l->Df s t/\Df t s:=λs t j O e hn=>by
   obtain⟨h1,h2,_⟩:=(Y s).mp j
   exact hG s t h1 O h2 λz=>hn ((Y t).mpr ⟨O,z,e⟩)
  obtain⟨r1,a1⟩:=fX (Df:=Df) U ok c ab hD
  have J:=pr.nd
  rw[FY,GX]at J
  have ac:Prec n G (yy st p l) r:=⟨J.2,λq m Z=>by
   obtain⟨g1,g2,g3,g4⟩:=pr.ls q m (Gc _ Z)
   have ad:q≠p:=λz=>J.1 (FX.mpr ⟨_,Z,z⟩)
   refine⟨Gs g1 r1.two,g2,g3,λs=>?_⟩
   rw[g4 s]
   by_cases h:l.length=(st.parts.getD p []).length
   ·rw[V4 h]
   ·have o:=aV ok c h
    rw[o.po]
    constructor
    ·rintro⟨x,y,z⟩
     have:s∉l:=λw=>ad (by rw[<-z,((Y s).mp w).2.2])
     exact⟨x,y,by rw[if_neg this];exact z⟩
    ·rintro⟨x,y,z⟩
     by_cases w:s∈l
     ·rw[if_pos w]at z;omega
     ·rw[if_neg w]at z;exact⟨x,y,z⟩⟩
  obtain⟨r2,a2⟩:=V6 U hG r (yy st p l) r1.ok ac
  refine⟨r1.trans r2,λq m Z s t j O e=>?_⟩
  rcases FL.mp Z with h|h
  ·cases h
   exact a1 s t j O (r2.fine s t j O e)
  ·exact a2 q m h s t j O e
def mj(O:∀a s,a<A->s<n->δ a s<n)(b:Back n d back)(hg:goals.Nodup)(ok:Ok n st)(hG:∀s t,s<n->t<n->d s∈goals->d t∉goals->Df s t/\Df t s):
  Res n A δ Df st (wm goals st back)/\∀s t,s<n->t<n->(wm goals st back).partOf.getD s 0=(wm goals st back).partOf.getD t 0->(d s∈goals↔d t∈goals):=by
 have f:=fW (partOf:=st.partOf) b hg
 have pr:Prec n (λs=>d s∈goals) st (v8 goals back st.partOf):=⟨f.nd,λp l hp=>by
  obtain⟨h1,h2,z⟩:=f.ls p l hp
  have Z:∀s,s∈l↔s<n/\d s∈goals/\st.partOf.getD s 0=p:=λs=>by
   rw[z s,ul b s,and_assoc]
  refine⟨?_,h1,h2,Z⟩
  cases l with
  | nil=>exact absurd rfl h2
  | cons x r=>
   obtain⟨q1,_,q3⟩:=(Z x).mp F9
   rw[<-q3];exact ok.lt x q1⟩
 obtain⟨r,a⟩:=V6 (Df:=Df) O (G:=λs=>d s∈goals) hG _ st ok pr
 have key:∀s t,s<n->t<n->(wm goals st back).partOf.getD s 0=(wm goals st back).partOf.getD t 0->d s∈goals->d t∈goals:=λs t j J e h=>by
  obtain⟨l,hl⟩:=f.all s ((ul b s).mpr ⟨j,h⟩)
  obtain⟨_,_,z⟩:=f.ls _ l hl
  have U:s∈l:=(z s).mpr ⟨(ul b s).mpr ⟨j,h⟩,rfl⟩
  have Y:=(a _ l hl s t j J e).mp U
  exact((ul b t).mp ((z t).mp Y).1).2
 exact⟨r,λs t j J e=>⟨key s t j J e,key t s J j e.symm⟩⟩
end
section
variable {n A:Nat} {δ:Nat->Nat->Nat} {Df:Nat->Nat->Prop}
def Cf(j:List Nat)(_ x y:Nat):Prop:=(x∈j/\y∉j)\/(x∉j/\y∈j)
theorem aX(z:∀a s,a<A->s<n->δ a s<n)(Y:goals.Nodup)(Z:∀a,a<A->∀s t,s<n->t<n->δ a s∈goals->δ a t∉goals->Df s t/\Df t s):
  ∀(bs:List (List (List Nat))) (k:Nat) (st:HS),Ok n st->k+bs.length=A->(∀i,i<bs.length->Back n (δ (k+i)) (bs.getD i []))->
  Res n A δ Df st (bs.foldl (wm goals) st)/\∀i,i<bs.length->∀s t,s<n->t<n->(bs.foldl (wm goals) st).partOf.getD s 0=(bs.foldl (wm goals) st).partOf.getD t 0->(δ (k+i) s∈goals↔δ (k+i) t∈goals)
 | [],k,st,ok,_,_=>⟨.refl ok,λi h=>absurd h (LM _)⟩
 | b::r,k,st,ok,hk,hb=>by
  have J:k<A:=by rw[<-hk,Gu];omega
  have b0:Back n (δ k) b:=by simpa using hb 0 (by simp)
  obtain⟨r1,a1⟩:=mj (Df:=Df) z b0 Y ok (Z k J)
  obtain⟨r2,a2⟩:=aX z Y Z r (k+1) (wm goals st b) r1.ok (by rw[<-hk,Gu];omega) λi hi=>by
   have:=hb (i+1) (by rw[Gu];omega)
   rw[show k+(i+1)=k+1+i by omega]at this
   simpa using this
  refine⟨r1.trans r2,λi hi s t O U e=>?_⟩
  cases i with
  | zero=>exact a1 s t O U (r2.fine s t O U e)
  | succ j=>
   have:=a2 j (by rw[Gu]at hi;omega) s t O U e
   rw[show k+(j+1)=k+1+j by omega]
   exact this
structure Inv (n A:Nat) (δ:Nat->Nat->Nat) (Df:Nat->Nat->Prop) (st:HS):Prop where
 ok:Ok n st
 stab:iX n A δ st λ_ _ _=>False
 dist:oG n Df st
 full:aW st
def UX(ok:Ok n st)(h:st.waiting.getLast?=some p):Ok n (take st p)/\st.waiting=st.waiting.dropLast++[p]:=by
 have j:st.waiting=st.waiting.dropLast++[p]:=by
  have J:st.waiting≠[]:=λz=>by rw[z]at h;cases h
  have e:=LN J
  rw[M2 J]at h
  injection h with h
  rw[h]at e
  exact e.symm
 refine⟨?_,j⟩
 have O:=ok.wnd
 rw[j,G3]at O
 have hn:p∉st.waiting.dropLast:=λz=>O.2.2 p z p (by simp) rfl
 refine⟨ok.len,ok.lt,ok.nd,ok.mem,?_,λq U=>?_,λq U=>?_,O.1⟩
 ·show(st.waits.set p false).length=_
  rw[GD];exact ok.wl
 ·show(st.waits.set p false).getD q false=true↔q∈st.waiting.dropLast
  have Y:p<st.parts.length:=ok.wlt p (by rw[j];simp)
  rw[wQ,ok.wl]
  by_cases e:p=q
  ·subst e
   rw[if_pos ⟨rfl,Y⟩]
   exact⟨λz=>Bool.noConfusion z,λz=>absurd z hn⟩
  ·rw[if_neg λz=>e z.1,ok.ww q U]
   constructor
   ·intro z
    rw[j,Gk,Gf]at z
    exact z.elim id λz=>absurd z.symm e
   ·intro z
    rw[j];exact He _ z
 ·exact ok.wlt q (by rw[j];exact He _ U)
def aY(j:∀a s,a<A->s<n->δ a s<n)(aa:∀a s t,a<A->s<n->t<n->Df (δ a s) (δ a t)->Df s t)(hA:bs.length=A)(hb:∀i,i<A->Back n (δ i) (bs.getD i []))(Z:Inv n A δ Df st)(h:st.waiting.getLast?=some p):
  Inv n A δ Df (turn bs st)/\(turn bs st).waiting.length+st.parts.length+1=st.waiting.length+(turn bs st).parts.length/\∀s t,s<n->t<n->(turn bs st).partOf.getD s 0=(turn bs st).partOf.getD t 0->st.partOf.getD s 0=st.partOf.getD t 0:=by
 have e:turn bs st=bs.foldl (wm (st.parts.getD p [])) (take st p):=by unfold turn;rw[h]
 obtain⟨tok,hd⟩:=UX Z.ok h
 have ad:p<st.parts.length:=Z.ok.wlt p (by rw[hd];simp)
 have O:∀s,s<n->(s∈st.parts.getD p []↔st.partOf.getD s 0=p):=λs U=>by
  rw[Z.ok.mem]
  exact⟨λz=>z.2.1,λz=>⟨U,z,ad⟩⟩
 have hG:∀a,a<A->∀s t,s<n->t<n->δ a s∈st.parts.getD p []->δ a t∉st.parts.getD p []->Df s t/\Df t s:=λa J s t U Y x y=>by
  have x1:=(O _ (j a s J U)).mp x
  have y1:st.partOf.getD (δ a t) 0≠p:=λz=>y ((O _ (j a t J Y)).mpr z)
  have ne:st.partOf.getD (δ a s) 0≠st.partOf.getD (δ a t) 0:=λz=>y1 (by rw[<-z];exact x1)
  exact⟨aa a s t J U Y (Z.dist _ _ (j a s J U) (j a t J Y) ne),aa a t s J Y U (Z.dist _ _ (j a t J Y) (j a s J U) λz=>ne z.symm)⟩
 obtain⟨r,al⟩:=aX (Df:=Df) (A:=A) j (Z.ok.nd p) hG bs 0 (take st p) tok (by omega) λi hi=>by
  rw[G4];exact hb i (by omega)
 rw[<-e]at r al
 have ae:iX n A δ (take st p) (Cf (st.parts.getD p [])):=λa J s t U Y es ne=>by
  have hx:=j a s J U
  have hy:=j a t J Y
  have ab:∀q,q∈st.waiting->q∈st.waiting.dropLast\/q=p:=λq hq=>by
   rw[hd,Gk,Gf]at hq
   exact hq
  have ac:st.partOf.getD (δ a s) 0≠st.partOf.getD (δ a t) 0:=ne
  rcases Z.stab a J s t U Y es ne with z|z|z
  ·rcases ab _ z with z|z
   ·exact .inl z
   ·exact .inr (.inr (.inl ⟨(O _ hx).mpr z,λw=>ac (by rw[z,(O _ hy).mp w])⟩))
  ·rcases ab _ z with z|z
   ·exact .inr (.inl z)
   ·exact .inr (.inr (.inr ⟨λw=>ac (by rw[z,(O _ hx).mp w]),(O _ hy).mpr z⟩))
  ·exact absurd z id
 refine⟨⟨r.ok,λa J s t U Y es ne=>?_,r.dist Z.dist,r.full Z.full⟩,?_,r.fine⟩
 ·rcases r.stab _ ae a J s t U Y es ne with z|z|z
  ·exact .inl z
  ·exact .inr (.inl z)
  ·exfalso
   have:=al a (by omega) s t U Y es
   rw[G4]at this
   rcases z with⟨z1,z2⟩|⟨z1,z2⟩
   ·exact z2 (this.mp z1)
   ·exact z1 (this.mpr z2)
 ·have c:=r.cnt
  have l1:st.waiting.length=(take st p).waiting.length+1:=by
   show st.waiting.length=st.waiting.dropLast.length+1
   have:=congrArg Mt hd
   rw[Gb,GA]at this
   exact this
  have l2:(take st p).parts.length=st.parts.length:=rfl
  omega
def aZ(ok:Ok n st)(Y:aW st):st.parts.length<=n+2:=by
 have key:∀k,k+2<=st.parts.length->∃l:List Nat,l.length=k/\l.Nodup/\(∀x∈l,x<n/\st.partOf.getD x 0<k+2):=by
  intro k
  induction k with
  | zero=>exact λ_=>⟨[],rfl,by simp,by simp⟩
  | succ k Z=>
   intro hk
   obtain⟨l,h1,h2,j⟩:=Z (by omega)
   have J:=Y (k+2) (by omega) (by omega)
   obtain⟨x,O⟩:=List.exists_mem_of_ne_nil _ J
   obtain⟨q1,q2,_⟩:=(ok.mem _ x).mp O
   refine⟨x::l,by simp[h1],GX.mpr ⟨λz=>?_,h2⟩,λy U=>?_⟩
   ·have:=(j x z).2;omega
   ·rcases FL.mp U with rfl|U
    ·exact⟨q1,by omega⟩
    ·have:=j y U;exact⟨this.1,by omega⟩
 by_cases h:st.parts.length<=2
 ·omega
 ·obtain⟨l,h1,h2,j⟩:=key (st.parts.length-2) (by omega)
  have:=yF (m:=Fy n) h2 λx O=>Gh.mpr (j x O).1
  rw[GS]at this
  omega
def run(bs:List (List (List Nat))):Nat->HS->HS
 | 0,st=>st
 | k+1,st=>if st.waiting=[]then st else run bs k (turn bs st)
theorem fY(z:∀a s,a<A->s<n->δ a s<n)(J:∀a s t,a<A->s<n->t<n->Df (δ a s) (δ a t)->Df s t)(O:bs.length=A)(U:∀i,i<A->Back n (δ i) (bs.getD i [])):
  ∀(k:Nat) (st:HS),Inv n A δ Df st->n+2+st.waiting.length<=k+st.parts.length->Inv n A δ Df (run bs k st)/\(run bs k st).waiting=[]/\∀s t,s<n->t<n->(run bs k st).partOf.getD s 0=(run bs k st).partOf.getD t 0->st.partOf.getD s 0=st.partOf.getD t 0
 | 0,st,j,hk=>by
  have:=aZ j.ok j.full
  refine⟨j,?_,λ_ _ _ _ h=>h⟩
  show st.waiting=[]
  exact HL.mp (by omega)
 | k+1,st,j,hk=>by
  unfold run
  by_cases h:st.waiting=[]
  ·rw[if_pos h];exact⟨j,h,λ_ _ _ _ h=>h⟩
  ·rw[if_neg h]
   obtain⟨i1,c1,f1⟩:=aY z J O U j (M2 h)
   obtain⟨i2,w2,f2⟩:=fY z J O U k (turn bs st) i1 (by omega)
   exact⟨i2,w2,λs t Y Z e=>f1 s t Y Z (f2 s t Y Z e)⟩
end
end Hop
namespace Pt
open PySem PySem.Spec L2 DD
open PyProof.Rows hiding St
open Hop (HS)
abbrev zF(l:List Nat):List V:=l.map λ(n:Nat)=>V.int (n:Int)
abbrev wj(l:List Nat):List (Key×V):=l.map λ(s:Nat)=>((Sum.inl (s:Int):Key),V.bl true)
structure Ads where
 dx:Fo
 po:Fo
 pl:Fo
 wg:Fo
 ws:Fo
 ds:List Fo
abbrev Z6(g:Ads):List (Fp×V):=[("part_of",.ref g.po),("parts",.ref g.pl),("waiting",.ref g.wg),("waits",.ref g.ws)]
structure Rep (C:Fo) (H0 H:Hp) (x:Fo) (st:HS) (g:Ads):Prop where
 sm:zm H0 H
 ins:H x=some (.ins C g.dx (Z6 g))
 po:H g.po=some (.lst (zF st.partOf))
 pl:H g.pl=some (.lst (g.ds.map V.ref))
 wg:H g.wg=some (.lst (zF st.waiting))
 ws:H g.ws=some (.lst (st.waits.map V.bl))
 len:g.ds.length=st.parts.length
 ds:∀(i:Nat) d,g.ds[i]?=some d->H d=some (.dK (wj (st.parts.getD i [])))
 nd:g.ds.Nodup
 n1:g.po≠g.pl
 n2:g.po≠g.wg
 n3:g.po≠g.ws
 n4:g.pl≠g.wg
 n5:g.pl≠g.ws
 n6:g.wg≠g.ws
 f0:H0 x=none
 f1:H0 g.po=none
 f2:H0 g.pl=none
 f3:H0 g.wg=none
 f4:H0 g.ws=none
 f5:∀d∈g.ds,H0 d=none
section
variable {C:Fo} {H0 H:Hp} {x:Fo} {st:HS} {g:Ads}
def yw(s:zm H0 H)(j:H0 p=none)(o:HO):zm H0 (upd H p o):=λb u q=>by rw[zd (zn q j)];exact s b u q
def Rep.nx(r:Rep C H0 H x st g)(h:H p=some (.lst xs)):x≠p:=vX r.ins h (λz=>nomatch z)
def Rep.nd'(r:Rep C H0 H x st g)(h:H p=some (.lst xs)):∀d∈g.ds,d≠p:=λd j=>by
 obtain⟨i,hi⟩:=Hy j
 exact vX (r.ds i d hi) h (λz=>nomatch z)
def Rep.ndx(r:Rep C H0 H x st g):∀d∈g.ds,d≠x:=λd j=>by
 obtain⟨i,hi⟩:=Hy j
 exact vX (r.ds i d hi) r.ins (λz=>nomatch z)
def Rep.setWaits(r:Rep C H0 H x st g)(l:List Bool):Rep C H0 (upd H g.ws (.lst (l.map V.bl))) x {st with waits:=l} g where
 sm:=yw r.sm r.f4 _
 ins:=by rw[zd (r.nx r.ws)];exact r.ins
 po:=by rw[zd r.n3];exact r.po
 pl:=by rw[zd r.n5];exact r.pl
 wg:=by rw[zd r.n6];exact r.wg
 ws:=zj
 len:=r.len
 ds:=λi d h=>by rw[zd (r.nd' r.ws d (Gj h))];exact r.ds i d h
 nd:=r.nd
 n1:=r.n1
 n2:=r.n2
 n3:=r.n3
 n4:=r.n4
 n5:=r.n5
 n6:=r.n6
 f0:=r.f0
 f1:=r.f1
 f2:=r.f2
 f3:=r.f3
 f4:=r.f4
 f5:=r.f5
def Rep.setWaiting(r:Rep C H0 H x st g)(l:List Nat):Rep C H0 (upd H g.wg (.lst (zF l))) x {st with waiting:=l} g where
 sm:=yw r.sm r.f3 _
 ins:=by rw[zd (r.nx r.wg)];exact r.ins
 po:=by rw[zd r.n2];exact r.po
 pl:=by rw[zd r.n4];exact r.pl
 wg:=zj
 ws:=by rw[zd (FH r.n6)];exact r.ws
 len:=r.len
 ds:=λi d h=>by rw[zd (r.nd' r.wg d (Gj h))];exact r.ds i d h
 nd:=r.nd
 n1:=r.n1
 n2:=r.n2
 n3:=r.n3
 n4:=r.n4
 n5:=r.n5
 n6:=r.n6
 f0:=r.f0
 f1:=r.f1
 f2:=r.f2
 f3:=r.f3
 f4:=r.f4
 f5:=r.f5
def Rep.setPartOf(r:Rep C H0 H x st g)(l:List Nat):Rep C H0 (upd H g.po (.lst (zF l))) x {st with partOf:=l} g where
 sm:=yw r.sm r.f1 _
 ins:=by rw[zd (r.nx r.po)];exact r.ins
 po:=zj
 pl:=by rw[zd (FH r.n1)];exact r.pl
 wg:=by rw[zd (FH r.n2)];exact r.wg
 ws:=by rw[zd (FH r.n3)];exact r.ws
 len:=r.len
 ds:=λi d h=>by rw[zd (r.nd' r.po d (Gj h))];exact r.ds i d h
 nd:=r.nd
 n1:=r.n1
 n2:=r.n2
 n3:=r.n3
 n4:=r.n4
 n5:=r.n5
 n6:=r.n6
 f0:=r.f0
 f1:=r.f1
 f2:=r.f2
 f3:=r.f3
 f4:=r.f4
 f5:=r.f5
def getD_some{α:Type}{l:List α}{i:Nat}{d:α}(h:i<l.length):l[i]?=some (l.getD i d):=by
 simp[HX,h]
def Rep.setPart(r:Rep C H0 H x st g){i:Nat}{d:Fo}(hi:g.ds[i]?=some d)(l:List Nat):Rep C H0 (upd H d (.dK (wj l))) x {st with parts:=st.parts.set i l} g where
 sm:=yw r.sm (r.f5 d (Gj hi)) _
 ins:=by rw[zd (FH (r.ndx d (Gj hi)))];exact r.ins
 po:=by rw[zd (FH (r.nd' r.po d (Gj hi)))];exact r.po
 pl:=by rw[zd (FH (r.nd' r.pl d (Gj hi)))];exact r.pl
 wg:=by rw[zd (FH (r.nd' r.wg d (Gj hi)))];exact r.wg
 ws:=by rw[zd (FH (r.nd' r.ws d (Gj hi)))];exact r.ws
 len:=by show _=(st.parts.set i l).length;rw[GD];exact r.len
 ds:=λj e hj=>by
  show _=some (HO.dK (wj ((st.parts.set i l).getD j [])))
  rw[Hop.wQ]
  have hil:i<st.parts.length:=by rw[<-r.len];exact(FO.mp hi).1
  by_cases h:i=j
  ·subst h
   rw[hi]at hj;cases hj
   rw[zj,if_pos ⟨rfl,hil⟩]
  ·have:e≠d:=λz=>by
    subst z
    obtain⟨a1,a2⟩:=FO.mp hi
    obtain⟨b1,b2⟩:=FO.mp hj
    exact h ((IJ r.nd).mp (a2.trans b2.symm))
   rw[zd this,if_neg λz=>h z.1]
   exact r.ds j e hj
 nd:=r.nd
 n1:=r.n1
 n2:=r.n2
 n3:=r.n3
 n4:=r.n4
 n5:=r.n5
 n6:=r.n6
 f0:=r.f0
 f1:=r.f1
 f2:=r.f2
 f3:=r.f3
 f4:=r.f4
 f5:=r.f5
def Rep.addPart(r:Rep C H0 H x st g){d:Fo}(hd:H d=none):Rep C H0 (upd (upd H d (.dK [])) g.pl (.lst ((g.ds++[d]).map V.ref))) x {st with parts:=st.parts++[[]]} {g with ds:=g.ds++[d]}:=by
 have ne:∀{b:Fo} {o:HO},H b=some o->b≠d:=λh=>zn h hd
 have np:d≠g.pl:=λz=>ne r.pl z.symm
 refine⟨yw (λb u q=>?_) r.f2 _,?_,?_,zj,?_,?_,?_,λi e h=>?_,?_,r.n1,r.n2,r.n3,r.n4,r.n5,r.n6,r.f0,r.f1,r.f2,r.f3,r.f4,λe he=>?_⟩
 ·have:=r.sm b u q;rw[zd (ne this)];exact this
 ·rw[zd (r.nx r.pl),zd (ne r.ins)];exact r.ins
 ·show upd _ _ _ g.po=_
  rw[zd r.n1,zd (ne r.po)];exact r.po
 ·show upd _ _ _ g.wg=_
  rw[zd (FH r.n4),zd (ne r.wg)];exact r.wg
 ·show upd _ _ _ g.ws=_
  rw[zd (FH r.n5),zd (ne r.ws)];exact r.ws
 ·show(g.ds++[d]).length=(st.parts++[[]]).length
  rw[Gb,Gb,r.len];rfl
 ·show _=some (HO.dK (wj ((st.parts++[[]]).getD i [])))
  have h':(g.ds++[d])[i]?=some e:=h
  rw[Hop.xl]
  by_cases hi:i<g.ds.length
  ·rw[GK hi]at h'
   have hm:=Gj h'
   rw[zd (r.nd' r.pl e hm),zd (ne (r.ds i e h')),if_pos (by rw[<-r.len];exact hi)]
   exact r.ds i e h'
  ·rw[Ii (by omega)]at h'
   have:i-g.ds.length=0:=by
    have:=(FO.mp h').1
    simp at this;omega
   rw[this]at h'
   simp at h'
   subst h'
   rw[zd np,zj,if_neg (by rw[<-r.len];exact hi),if_pos (by rw[<-r.len];omega)]
   rfl
 ·show(g.ds++[d]).Nodup
  rw[G3]
  refine⟨r.nd,by simp,λa ha b hb z=>?_⟩
  have hb':b=d:=by simpa using hb
  subst hb';subst z
  obtain⟨i,hi⟩:=Hy ha
  rw[r.ds i _ hi]at hd;cases hd
 ·rcases Gk.mp he with h|h
  ·exact r.f5 e h
  ·have:e=d:=by simpa using h
   subst this
   exact r.sm.free hd
end
structure PC (K:Fs) (C:Fo):Prop where
 cl:Cls K C
 n1:xr K C "part_of"
 n2:xr K C "parts"
 n3:xr K C "waiting"
 n4:xr K C "waits"
def UY{n p:Nat}(h:p<n):ixN n (p:Int)=some p:=by
 unfold ixN
 rw[if_pos (by omega),if_pos (by omega)];simp
def Ys{a b:Nat}:((Sum.inl (a:Int):Key)=Sum.inl (b:Int))↔a=b:=by
 constructor
 ·intro h;injection h with h;omega
 ·rintro rfl;rfl
theorem XN(s:Nat):∀l:List Nat,xu (wj l) (Sum.inl (s:Int))=if s∈l then some (.bl true)else none
 | []=>rfl
 | a::r=>by
  show xu (((Sum.inl (a:Int):Key),V.bl true)::wj r) _=_
  by_cases h:a=s
  ·subst h;rw[vN rfl];simp
  ·rw[vf (λz=>h (Ys.mp z)),XN s r]
   have:¬s=a:=λz=>h z.symm
   simp[this]
theorem Y2(s:Nat):∀l:List Nat,vm (wj l) (Sum.inl (s:Int))=wj (l.filter λt=>decide (t≠s))
 | []=>rfl
 | a::r=>by
  show vm (((Sum.inl (a:Int):Key),V.bl true)::wj r) _=_
  by_cases h:a=s
  ·subst h;rw[l6 rfl,Y2 a r];simp
  ·rw[l7 (λz=>h (Ys.mp z)),Y2 s r]
   simp[h]
def QZ{s:Nat}{l:List Nat}(h:s∉l):x6 (wj l) (Sum.inl (s:Int)) (V.bl true)=wj (l++[s]):=by
 rw[W5 _ (by rw[XN,if_neg h])]
 simp
def eI(po l:List Nat)(s v:Nat):Hop.xO po (l++[s]) v=(Hop.xO po l v).set s v:=by
 unfold Hop.xO
 rw[IV];rfl
def eJ(l d:List Nat)(s:Nat):(l.filter λt=>!d.contains t).filter (λt=>decide (t≠s))=l.filter λt=>!(d++[s]).contains t:=by
 rw[List.filter_filter]
 congr 1
 funext t
 simp only[List.contains_eq_mem,Gk,Gf]
 by_cases h:t=s <;>by_cases h2:t∈d <;>simp[h,h2]
def XO{l:List Nat}{i s:Nat}(h:l[i]?=some s):l.take (i+1)=l.take i++[s]:=by
 rw[LO,h];rfl
section
variable {C:Fo} {H0 H:Hp} {x:Fo} {st:HS} {g:Ads}
def Rep.ext(r:Rep C H0 H x st g)(z:H l=none)(o:HO):Rep C (upd H0 l o) (upd H l o) x st g:=by
 have ne:∀{b:Fo} {u:HO},H b=some u->b≠l:=λh=>zn h z
 have nm:∀d∈g.ds,d≠l:=λd j=>by
  obtain⟨i,hi⟩:=Hy j
  exact ne (r.ds i d hi)
 refine⟨XA r.sm o,?_,?_,?_,?_,?_,r.len,λi d h=>?_,r.nd,r.n1,r.n2,r.n3,r.n4,r.n5,r.n6,?_,?_,?_,?_,?_,λd j=>?_⟩
 ·rw[zd (ne r.ins)];exact r.ins
 ·rw[zd (ne r.po)];exact r.po
 ·rw[zd (ne r.pl)];exact r.pl
 ·rw[zd (ne r.wg)];exact r.wg
 ·rw[zd (ne r.ws)];exact r.ws
 ·rw[zd (ne (r.ds i d h))];exact r.ds i d h
 ·rw[zd (ne r.ins)];exact r.f0
 ·rw[zd (ne r.po)];exact r.f1
 ·rw[zd (ne r.pl)];exact r.f2
 ·rw[zd (ne r.wg)];exact r.f3
 ·rw[zd (ne r.ws)];exact r.f4
 ·rw[zd (nm d j)];exact r.f5 d j
def mid(st:HS)(part:Nat)(stands:List Nat)(i:Nat):HS :=
 ⟨Hop.xO st.partOf (stands.take i) st.parts.length,st.parts.set part ((st.parts.getD part []).filter λs=>!(stands.take i).contains s)++[stands.take i],st.waiting,st.waits++[false]⟩
def oH(part:Nat)(stands:List Nat)(hp:part<st.parts.length):mid st part stands 0={st with parts:=st.parts++[[]],waits:=st.waits++[false]}:=by
 unfold mid
 simp only[OO,List.contains_nil,Bool.not_false,Hop.xO,List.foldl_nil]
 rw[show(st.parts.getD part []).filter (λ_=>true)=st.parts.getD part []from List.filter_eq_self.mpr λ_ _=>rfl]
 rw[show st.parts.set part (st.parts.getD part [])=st.parts from ?_]
 apply OP ;intro j
 rw[MZ]
 by_cases h:part=j
 ·subst h;simp[hp]
 ·simp[h]
def oI{part:Nat}{stands:List Nat}{i s:Nat}(hp:part<st.parts.length)(h:stands[i]?=some s):
  mid st part stands (i+1)={mid st part stands i with
   partOf:=(mid st part stands i).partOf.set s st.parts.length
   parts:=((mid st part stands i).parts.set part (((mid st part stands i).parts.getD part []).filter λt=>decide (t≠s))).set st.parts.length ((mid st part stands i).parts.getD st.parts.length []++[s])}:=by
 have hg:(mid st part stands i).parts.getD part []=(st.parts.getD part []).filter λs=>!(stands.take i).contains s:=by
  show(st.parts.set part _++[stands.take i]).getD part []=_
  rw[Hop.xl,GD,if_pos hp,Hop.wQ,if_pos ⟨rfl,hp⟩]
 have hf:(mid st part stands i).parts.getD st.parts.length []=stands.take i:=by
  show(st.parts.set part _++[stands.take i]).getD _ []=_
  rw[Hop.xl,GD,if_neg (Gy _),if_pos rfl]
 rw[hg,hf,eJ]
 unfold mid
 rw[XO h,eI]
 congr 1
 show _=((st.parts.set part _++[stands.take i]).set part _).set st.parts.length _
 rw[List.set_append_left _ _ (by rw[GD];exact hp),List.set_set,List.set_append_right _ _ (by rw[GD];exact FA _),GD,OQ]
 rfl
def bA{part:Nat}{stands:List Nat}{i:Nat}(hp:part<st.parts.length):(mid st part stands i).parts.getD part []=(st.parts.getD part []).filter λs=>!(stands.take i).contains s:=by
 show(st.parts.set part _++[stands.take i]).getD part []=_
 rw[Hop.xl,GD,if_pos hp,Hop.wQ,if_pos ⟨rfl,hp⟩]
def Q0{part:Nat}{stands:List Nat}{i:Nat}:(mid st part stands i).parts.getD st.parts.length []=stands.take i:=by
 show(st.parts.set part _++[stands.take i]).getD _ []=_
 rw[Hop.xl,GD,if_neg (Gy _),if_pos rfl]
def sv{part:Nat}{stands:List Nat}(hp:part<st.parts.length)(h:stands.length≠(st.parts.getD part []).length){w:Nat} 
  (hw:w=if(st.waits++[false]).getD part false=true\/stands.length<=((mid st part stands stands.length).parts.getD part []).length then st.parts.length else part) :
  {mid st part stands stands.length with waits:=(st.waits++[false]).set w true,waiting:=st.waiting++[w]}=Hop.yy st part stands:=by
 rw[bA hp,HY]at hw
 unfold Hop.yy
 rw[if_neg h]
 simp only
 rw[<-hw]
 unfold mid
 rw[HY]
def sw{a b:Nat}(h:decide (V.int (a:Int)=V.int (b:Int))=true):a=b:=by
 have:=of_decide_eq_true h
 injection this with this
 omega
def sx{a b:Nat}(h:¬decide (V.int (a:Int)=V.int (b:Int))=true):a≠b:=λz=>h (by rw[z];simp)
end
def bB{J:It}{n:Nat}{g:TG}{tb:TS}{D:Ends}{σ:St}{H:Hp}(j:Nat->St->Hp->Prop)(h0:j 0 σ H)(Z:∀i σ H,i<n->j i σ H->J.go i H)(z:∀σ H,j n σ H->J.stop n H) 
  (hs:∀i x σ H H',i<n->j i σ H->J.yld i H x H'->g x σ H' λO H2=>tb {D with nx:=j (i+1),ct:=j (i+1),bk:=D.nx} O H2) (hd:∀σ H,j n σ H->D.nx σ H) :
  ∃W:Nat->Nat->St->Hp->Prop,(∃m,W 0 m σ H)/\∀i m σ H,W i m σ H->
   (J.stop i H/\D.nx σ H)\/(J.go i H/\∃N:St->Hp->Prop,(∀U H',N U H'->∃m',m'<m/\W (i+1) m' U H')/\∀x H',J.yld i H x H'->g x σ H' λO H2=>tb {D with nx:=N,ct:=N,bk:=D.nx} O H2):=by
 refine⟨λi m σ H=>m=n-i/\i<=n/\j i σ H,⟨n,by simp,GI _,h0⟩,?_⟩
 rintro i m σ H ⟨rfl,hi,p⟩
 by_cases Y:i<n
 ·exact .inr ⟨Z i σ H Y p,j (i+1),λU H' p'=>⟨n-(i+1),by omega,rfl,Y,p'⟩,λx H' y=>hs i x σ H H' Y p y⟩
 ·have e:i=n:=by omega
  subst e
  exact .inl ⟨z σ H p,hd σ H p⟩
section
variable {C:Fo} {H0 H1 H:Hp} {x:Fo} {st:HS} {g:Ads}
def Rep.weak(r:Rep C H1 H x st g)(s:zm H0 H1):Rep C H0 H x st g :=
 ⟨λb u q=>r.sm b u (s b u q),r.ins,r.po,r.pl,r.wg,r.ws,r.len,r.ds,r.nd,r.n1,r.n2,r.n3,r.n4,r.n5,r.n6,s.free r.f0,s.free r.f1,s.free r.f2,s.free r.f3,s.free r.f4,λd j=>s.free (r.f5 d j)⟩
def ya(h:upd H a o b=none):b≠a/\H b=none:=by
 unfold upd at h
 by_cases e:b=a
 ·rw[if_pos e]at h;cases h
 ·rw[if_neg e]at h;exact⟨e,h⟩
def st0:HS:=⟨[],[[],[]],[0,1],[true,true]⟩
def Rep.begin{Z j J pl wg ws dx:Fo}{o o1 o2 o3:HO}(Y:zm H0 H)(hx:H x=some o)(h0:H0 x=none){Ha Hb Hc Hd:Hp}(O:H Z=none)(ea:Ha=upd (upd H Z (.lst [])) x o1)(ae:Ha j=none)(af:upd Ha j (.dK []) J=none) 
  (ag:upd (upd Ha j (.dK [])) J (.dK []) pl=none) (eb:Hb=upd (upd (upd (upd Ha j (.dK [])) J (.dK [])) pl (.lst [.ref j,.ref J])) x o2) (ah:Hb wg=none)
  (ec:Hc=upd (upd Hb wg (.lst [.int 0,.int 1])) x o3) (ai:Hc ws=none)
  (ed:Hd=upd (upd Hc ws (.lst [.bl true,.bl true])) x (.ins C dx (Z6 ⟨dx,Z,pl,wg,ws,[j,J]⟩))):Rep C H0 Hd x st0 ⟨dx,Z,pl,wg,ws,[j,J]⟩:=by
 have U:Z≠x:=λz=>by rw[z,hx]at O;cases O
 subst ea
 obtain⟨a1,a2⟩:=ya ae
 obtain⟨a3,a4⟩:=ya a2
 obtain⟨b1,b2⟩:=ya af
 obtain⟨b3,b4⟩:=ya b2
 obtain⟨b5,b6⟩:=ya b4
 obtain⟨c1,c2⟩:=ya ag
 obtain⟨c3,c4⟩:=ya c2
 obtain⟨c5,c6⟩:=ya c4
 obtain⟨c7,c8⟩:=ya c6
 subst eb
 obtain⟨e1,e2⟩:=ya ah
 obtain⟨e3,e4⟩:=ya e2
 obtain⟨e5,e6⟩:=ya e4
 obtain⟨e7,e8⟩:=ya e6
 obtain⟨e9,aj⟩:=ya e8
 obtain⟨aa,ab⟩:=ya aj
 subst ec
 obtain⟨f1,f2⟩:=ya ai
 obtain⟨f3,f4⟩:=ya f2
 obtain⟨f5,f6⟩:=ya f4
 obtain⟨f7,f8⟩:=ya f6
 obtain⟨f9,ak⟩:=ya f8
 obtain⟨al,am⟩:=ya ak
 obtain⟨ap,an⟩:=ya am
 obtain⟨ac,ad⟩:=ya an
 subst ed
 refine⟨λb u q=>?_,zj,?_,?_,?_,?_,rfl,λi d h=>?_,?_,?_,?_,?_,?_,?_,?_,h0,Y.free O,Y.free c8,Y.free ab,Y.free ad,λd hd=>?_⟩
 ·have hb:=Y b u q
  have n0:b≠x:=λz=>by rw[z,h0]at q;cases q
  have nn:∀c,H c=none->b≠c:=λc hc=>zn hb hc
  simp only[zd n0,zd (nn _ O),zd (nn _ a4),zd (nn _ b6),zd (nn _ c8),zd (nn _ ab),zd (nn _ ad)]
  exact hb
 ·show upd _ _ _ Z=_
  rw[zd U,zd (FH ac),zd U,zd (FH aa),zd U,zd (FH c7),zd (FH b5),zd (FH a3),zd U,zj];rfl
 ·show upd _ _ _ pl=_
  rw[zd c5,zd (FH f7),zd c5,zd (FH e3),zd c5,zj];rfl
 ·show upd _ _ _ wg=_
  rw[zd e1,zd (FH f3),zd e1,zj];rfl
 ·show upd _ _ _ ws=_
  rw[zd f1,zj];rfl
 ·match i,h with
  | 0,h=>
   have:j=d:=by simpa using h
   subst this
   show upd _ _ _ j=_
   rw[zd a1,zd (FH al),zd a1,zd (FH e7),zd a1,zd (FH c3),zd (FH b1),zj];rfl
  | 1,h=>
   have:J=d:=by simpa using h
   subst this
   show upd _ _ _ J=_
   rw[zd b3,zd (FH f9),zd b3,zd (FH e5),zd b3,zd (FH c1),zj];rfl
  | i+2,h=>simp at h
 ·show [j,J].Nodup
  simp[FH b1]
 ·exact FH c7
 ·exact FH aa
 ·exact FH ac
 ·exact FH e3
 ·exact FH f7
 ·exact FH f3
 ·have ao:d=j\/d=J:=by simpa using hd
  rcases ao with rfl|rfl
  ·exact Y.free a4
  ·exact Y.free b6
def pOf(b:Bool):Nat:=if b then 1 else 0
def ini(good:List Bool)(i:Nat):HS:=⟨(good.take i).map pOf,[(Fy i).filter λs=>!good.getD s false,(Fy i).filter λs=>good.getD s false],[0,1],[true,true]⟩
def oJ(good:List Bool):ini good good.length=Hop.start good:=by
 unfold ini Hop.start
 rw[HY];rfl
def oK(h:good[i]?=some b):ini good (i+1)={ini good i with partOf:=(ini good i).partOf++[pOf b],parts:=(ini good i).parts.set (pOf b) ((ini good i).parts.getD (pOf b) []++[i])}:=by
 have j:good.getD i false=b:=by simp[HX,h]
 unfold ini
 rw[LO,h,M3,M4,M4]
 cases b with
 | true=>simp[pOf,h]
 | false=>simp[pOf,h]
def mq:i∉(ini good i).parts.getD p []:=λz=>by
 match p,z with
 | 0,z=>
  have j:i∈(Fy i).filter λs=>!good.getD s false:=z
  have:=Gh.mp (HC.mp j).1
  omega
 | 1,z=>
  have j:i∈(Fy i).filter λs=>good.getD s false:=z
  have:=Gh.mp (HC.mp j).1
  omega
 | p+2,z=>simp[ini]at z
def mu:((ini good i).parts.getD p []).length<=i:=by
 have key:∀f:Nat->Bool,((Fy i).filter f).length<=i:=λf=>by
  have:=LF f (Fy i)
  rw[GS]at this
  exact this
 match p with
 | 0=>exact key _
 | 1=>exact key _
 | p+2=>simp[ini]
end
abbrev FE:=(Nat×List Nat)×Fo
abbrev kvF(fl:List FE):List (Key×V):=fl.map λe=>((Sum.inl (e.1.1:Int):Key),V.ref e.2)
structure FR (H0 H:Hp) (d:Fo) (fl:List FE):Prop where
 sm:zm H0 H
 dd:H d=some (.dK (kvF fl))
 d0:H0 d=none
 ls:∀e∈fl,H e.2=some (.lst (zF e.1.2))/\H0 e.2=none
 nd:(fl.map (·.2)).Nodup
 kn:(fl.map (·.1.1)).Nodup
def bC{fl:List FE}(j:(fl.map (·.1.1)).Nodup){e:FE}(h:e∈fl):xu (kvF fl) (Sum.inl (e.1.1:Int))=some (.ref e.2):=by
 induction fl with
 | nil=>cases h
 | cons a r J=>
  rw[FY,GX]at j
  show xu (((Sum.inl (a.1.1:Int):Key),V.ref a.2)::kvF r) _=_
  rcases FL.mp h with rfl|h
  ·exact vN rfl
  ·rw[vf λz=>j.1 (by rw[Ys.mp z];exact FX.mpr ⟨e,h,rfl⟩)]
   exact J j.2 h
def fZ{fl:List FE}{p:Nat}(h:p∉fl.map (·.1.1)):xu (kvF fl) (Sum.inl (p:Int))=none:=by
 induction fl with
 | nil=>rfl
 | cons a r j=>
  rw[FY,FL,not_or]at h
  show xu (((Sum.inl (a.1.1:Int):Key),V.ref a.2)::kvF r) _=_
  rw[vf λz=>h.1 (Ys.mp z).symm]
  exact j h.2
def uP(fl:List FE)(p s:Nat):List FE:=fl.map λe=>if e.1.1=p then((e.1.1,e.1.2++[s]),e.2)else e
def AG(fl:List FE)(p s:Nat):(uP fl p s).map (·.2)=fl.map (·.2):=by
 unfold uP
 rw[Hq]
 apply G5
 intro e _
 show(if e.1.1=p then _ else e).2=_
 split <;>rfl
def AH(fl:List FE)(p s:Nat):(uP fl p s).map (·.1.1)=fl.map (·.1.1):=by
 unfold uP
 rw[Hq]
 apply G5
 intro e _
 show(if e.1.1=p then _ else e).1.1=_
 split <;>rfl
def sy(fl:List FE)(p s:Nat):kvF (uP fl p s)=kvF fl:=by
 unfold uP kvF
 rw[Hq]
 apply G5
 intro e _
 by_cases h:e.1.1=p
 ·simp[h]
 ·simp[h]
section
variable {H0 H:Hp} {d a:Fo} {fl:List FE} {p s:Nat}
def FR.new(h:H d=none):FR H (upd H d (.dK [])) d []:=⟨zz h _,zj,h,λe h=>absurd h (by simp),by simp,by simp⟩
def FR.add(r:FR H0 H d fl)(hp:p∉fl.map (·.1.1))(J:H a=none):FR H0 (upd (upd H a (.lst [])) d (.dK (x6 (kvF fl) (Sum.inl (p:Int)) (V.ref a)))) d (fl++[((p,[]),a)]):=by
 have ne:∀{b o},H b=some o->b≠a:=λh=>zn h J
 have O:a≠d:=λz=>ne r.dd z.symm
 refine⟨λb u q=>?_,?_,r.d0,λe U=>?_,?_,?_⟩
 ·rw[zd (zn q r.d0),zd (ne (r.sm b u q))];exact r.sm b u q
 ·rw[zj,W5 _ (fZ hp)];simp
 ·rcases Gk.mp U with h|h
  ·obtain⟨h1,h2⟩:=r.ls e h
   rw[zd (vX h1 r.dd (λz=>nomatch z)),zd (ne h1)]
   exact⟨h1,h2⟩
  ·have:e=((p,[]),a):=by simpa using h
   subst this
   refine⟨?_,r.sm.free J⟩
   show upd _ _ _ a=_
   rw[zd O,zj];rfl
 ·rw[GO,G3]
  refine⟨r.nd,by simp,λb Y c Z z=>?_⟩
  have j:c=a:=by simpa using Z
  subst j;subst z
  obtain⟨e,U,rfl⟩:=FX.mp Y
  rw[(r.ls e U).1]at J;cases J
 ·rw[GO,G3]
  refine⟨r.kn,by simp,λb Y c Z z=>?_⟩
  have j:c=p:=by simpa using Z
  subst j;subst z
  exact hp Y
def FR.app(r:FR H0 H d fl)(Z:e∈fl)(ep:e.1.1=p):FR H0 (upd H e.2 (.lst (zF (e.1.2++[s])))) d (uP fl p s):=by
 refine⟨yw r.sm (r.ls e Z).2 _,?_,r.d0,λf hf=>?_,by rw[AG];exact r.nd,by rw[AH];exact r.kn⟩
 ·rw[zd (vX r.dd (r.ls e Z).1 (λz=>nomatch z)),sy];exact r.dd
 ·unfold uP at hf
  obtain⟨Y,h0,rfl⟩:=FX.mp hf
  by_cases h:Y.1.1=p
  ·have e1:Y=e:=by
    obtain⟨i,hi⟩:=Hy h0
    obtain⟨j,J⟩:=Hy Z
    have O:(fl.map (·.1.1))[i]?=some p:=by rw[FP,hi];simp[h]
    have U:(fl.map (·.1.1))[j]?=some p:=by rw[FP,J];simp[ep]
    obtain⟨a1,a2⟩:=FO.mp O
    obtain⟨b1,b2⟩:=FO.mp U
    have:=(IJ r.kn).mp (a2.trans b2.symm)
    subst this
    rw[hi]at J;exact GG J
   subst e1
   rw[if_pos h]
   exact⟨zj,(r.ls Y h0).2⟩
  ·rw[if_neg h]
   have ne:Y.2≠e.2:=λz=>h (by
    obtain⟨i,hi⟩:=Hy h0
    obtain⟨j,J⟩:=Hy Z
    have O:(fl.map (·.2))[i]?=some e.2:=by rw[FP,hi];simp[z]
    have U:(fl.map (·.2))[j]?=some e.2:=by rw[FP,J];rfl
    obtain⟨a1,a2⟩:=FO.mp O
    obtain⟨b1,b2⟩:=FO.mp U
    have:=(IJ r.nd).mp (a2.trans b2.symm)
    subst this
    rw[hi]at J
    rw[GG J];exact ep)
   rw[zd ne]
   exact r.ls Y h0
theorem bD:∀{found:List (Nat×List Nat)},(found.map Gq).Nodup->p∈found.map Gq->Hop.xh found p s=found.map λe=>if e.1=p then(e.1,e.2++[s])else e
 | [],_,h=>by cases h
 | (q,l)::r,nd,h=>by
  rw[FY,GX]at nd
  unfold Hop.xh
  rw[FY]
  by_cases e:q=p
  ·subst e
   rw[if_pos rfl,if_pos rfl]
   congr 1
   symm
   rw[G5 (g:=id)]
   ·simp
   ·intro f hf
    rw[if_neg λz=>nd.1 (FX.mpr ⟨f,hf,z⟩)];rfl
  ·rw[if_neg e,if_neg (show ¬(q,l).1=p from e)]
   have h':p∈r.map Gq:=by
    rcases FL.mp h with z|z
    ·exact absurd z.symm e
    ·exact z
   rw[bD nd.2 h']
theorem Q5:∀{found:List (Nat×List Nat)},p∉found.map Gq->Hop.xh found p s=found++[(p,[s])]
 | [],_=>rfl
 | (q,l)::r,h=>by
  rw[FY,FL,not_or]at h
  unfold Hop.xh
  rw[if_neg λz=>h.1 z.symm,Q5 h.2];rfl
def iY(kn:(fl.map (·.1.1)).Nodup)(h:p∈fl.map (·.1.1)):(uP fl p s).map (·.1)=Hop.xh (fl.map (·.1)) p s:=by
 rw[bD (by rw[Hq];exact kn) (by rw[Hq];exact h)]
 unfold uP
 rw[Hq,Hq]
 apply G5
 intro e _
 show(if e.1.1=p then _ else e).1=if e.1.1=p then _ else e.1
 split <;>rfl
def oM(h:p∉fl.map (·.1.1)):(uP (fl++[((p,[]),a)]) p s).map (·.1)=Hop.xh (fl.map (·.1)) p s:=by
 rw[Q5 (by rw[Hq];exact h)]
 unfold uP
 rw[GO,GO]
 congr 1
 ·rw[Hq]
  apply G5
  intro e he
  show(if e.1.1=p then _ else e).1=_
  rw[if_neg λz=>h (FX.mpr ⟨e,he,z⟩)]
 ·simp
end
structure BkR (H:Hp) (b:Fo) (back:List (List Nat)) (as:List Fo):Prop where
 b:H b=some (.lst (as.map V.ref))
 len:as.length=back.length
 ls:∀(i:Nat) a,as[i]?=some a->H a=some (.lst (zF (back.getD i [])))
def BkR.mono{H H':Hp}{b:Fo}{back:List (List Nat)}{as:List Fo}(r:BkR H b back as)(s:zm H H'):BkR H' b back as:=⟨s _ _ r.b,r.len,λi a h=>s _ _ (r.ls i a h)⟩
def uQ(f:Nat->Nat)(xs:List Nat):List (Nat×List Nat):=xs.foldl (λfound s=>Hop.xh found (f s) s) []
def Q6(f:Nat->Nat)(xs:List Nat)(s:Nat):uQ f (xs++[s])=Hop.xh (uQ f xs) (f s) s:=by
 unfold uQ
 rw[IV];rfl
theorem Q8(p s:Nat):∀found:List (Nat×List Nat),(Hop.xh found p s).length<=found.length+1
 | []=>FA _
 | (q,l)::r=>by
  unfold Hop.xh
  split
  ·simp
  ·rw[Gu,Gu]
   exact M5 (Q8 p s r)
theorem V7(p s n:Nat):∀found:List (Nat×List Nat),(∀e∈found,e.2.length<=n)->∀e∈Hop.xh found p s,e.2.length<=n+1
 | [],_,e,he=>by
  have:e=(p,[s]):=by simpa[Hop.xh]using he
  subst this
  show 1<=n+1
  omega
 | (q,l)::r,h,e,he=>by
  unfold Hop.xh at he
  split at he
  ·rcases FL.mp he with rfl|he
   ·have:=h (q,l) F9
    show(l++[s]).length<=n+1
    rw[Gb]
    simp at this ⊢;exact this
   ·have:=h e (Gc _ he);omega
  ·rcases FL.mp he with rfl|he
   ·have:=h (q,l) F9;omega
   ·exact V7 p s n r (λe he=>h e (Gc _ he)) e he
def iZ(f:Nat->Nat)(xs:List Nat):(uQ f xs).length<=xs.length/\∀e∈uQ f xs,e.2.length<=xs.length:=by
 have key:∀n,∀xs:List Nat,xs.length=n->(uQ f xs).length<=xs.length/\∀e∈uQ f xs,e.2.length<=xs.length:=by
  intro n
  induction n with
  | zero=>
   intro xs h
   have:xs=[]:=HL.mp h
   subst this
   exact⟨FA _,λe he=>absurd he (by simp[uQ])⟩
  | succ n ih=>
   intro xs h
   have hne:xs≠[]:=λz=>by rw[z]at h;cases h
   have e:=LN hne
   have hl:xs.dropLast.length=n:=by rw[NY,h];rfl
   obtain⟨a,b⟩:=ih _ hl
   rw[hl]at a b
   rw[h,<-e,Q6]
   exact⟨Ge (Q8 _ _ _) (by omega),V7 _ _ n _ b⟩
 exact key _ xs rfl
def mx(goals:List Nat)(back:List (List Nat))(partOf:List Nat):Hop.v8 goals back partOf=uQ (λs=>partOf.getD s 0) (goals.flatMap λg=>back.getD g []):=Hop.QY goals back partOf
def Q9{j:List Nat}{i g:Nat}(back:List (List Nat))(h:j[i]?=some g):(j.take (i+1)).flatMap (λg=>back.getD g [])=(j.take i).flatMap (λg=>back.getD g [])++back.getD g []:=by
 rw[XO h,OR];simp
def sA{z:List Nat}{i g:Nat}(back:List (List Nat))(h:z[i]?=some g)(j:Nat):((z.take i).flatMap (λg=>back.getD g [])++(back.getD g []).take j).length<=(z.flatMap λg=>back.getD g []).length:=by
 have e:z=z.take (i+1)++z.drop (i+1):=(OS _ _).symm
 have:(z.flatMap λg=>back.getD g []).length=((z.take (i+1)).flatMap λg=>back.getD g []).length+((z.drop (i+1)).flatMap λg=>back.getD g []).length:=by
  rw[<-Gb,<-OR,<-e]
 rw[this,Q9 back h,Gb,Gb,HP]
 omega
structure LS (H0 H:Hp) (as:List Fo) (back:List (List Nat)):Prop where
 sm:zm H0 H
 len:as.length=back.length
 ls:∀(i:Nat) a,as[i]?=some a->H a=some (.lst (zF (back.getD i [])))/\H0 a=none
 nd:as.Nodup
structure BO (H0 H:Hp) (b:Fo) (as:List Fo) (back:List (List Nat)):Prop where
 l:LS H0 H as back
 bb:H b=some (.lst (as.map V.ref))
 b0:H0 b=none
 nb:b∉as
section
variable {H0 H H':Hp} {b a:Fo} {as:List Fo} {back:List (List Nat)}
def LS.grow(r:LS H0 H as back)(s:zm H H'):LS H0 H' as back:=⟨r.sm.trans s,r.len,λi a h=>⟨s _ _ (r.ls i a h).1,(r.ls i a h).2⟩,r.nd⟩
def BO.grow(r:BO H0 H b as back)(s:zm H H'):BO H0 H' b as back:=⟨r.l.grow s,s _ _ r.bb,r.b0,r.nb⟩
def LS.nil:LS H H [] []:=⟨zm.refl _,rfl,λi a h=>by simp at h,by simp⟩
def LS.snoc(r:LS H0 H as back)(ha:H a=none):LS H0 (upd H a (.lst [])) (as++[a]) (back++[[]]):=by
 have ne:∀{c o},H c=some o->c≠a:=λh=>zn h ha
 refine⟨r.sm.trans (zz ha _),by rw[Gb,Gb,r.len];rfl,λi c h=>?_,?_⟩
 ·rw[Hop.xl]
  by_cases hi:i<as.length
  ·rw[GK hi]at h
   obtain⟨h1,h2⟩:=r.ls i c h
   rw[zd (ne h1),if_pos (by rw[<-r.len];exact hi)]
   exact⟨h1,h2⟩
  ·rw[Ii (by omega)]at h
   have e:i-as.length=0:=by
    have:=(FO.mp h).1
    simp at this;omega
   rw[e]at h
   have:a=c:=by simpa using h
   subst this
   rw[zj,if_neg (by rw[<-r.len];exact hi),if_pos (by rw[<-r.len];omega)]
   exact⟨rfl,r.sm.free ha⟩
 ·rw[G3]
  refine⟨r.nd,by simp,λc hc e he z=>?_⟩
  have he':e=a:=by simpa using he
  subst he';subst z
  obtain⟨i,hi⟩:=Hy hc
  rw[(r.ls i _ hi).1]at ha;cases ha
def LS.close(r:LS H0 H as back)(j:H b=none):BO H0 (upd H b (.lst (as.map V.ref))) b as back :=
 ⟨r.grow (zz j _),zj,r.sm.free j,λz=>by
  obtain⟨i,hi⟩:=Hy z
  rw[(r.ls i _ hi).1]at j;cases j⟩
def BO.put(r:BO H0 H b as back){i:Nat}(h:as[i]?=some a)(l:List Nat):BO H0 (upd H a (.lst (zF l))) b as (back.set i l):=by
 obtain⟨h1,h2⟩:=r.l.ls i a h
 have hib:i<back.length:=by rw[<-r.l.len];exact(FO.mp h).1
 have nba:b≠a:=λz=>r.nb (by rw[z];exact Gj h)
 refine⟨⟨yw r.l.sm h2 _,by rw[GD];exact r.l.len,λj c hc=>?_,r.l.nd⟩,by rw[zd nba];exact r.bb,r.b0,r.nb⟩
 rw[Hop.wQ]
 by_cases e:i=j
 ·subst e
  rw[h]at hc;cases hc
  rw[zj,if_pos ⟨rfl,hib⟩]
  exact⟨rfl,h2⟩
 ·have ne:c≠a:=λz=>by
   subst z
   obtain⟨a1,a2⟩:=FO.mp h
   obtain⟨b1,b2⟩:=FO.mp hc
   exact e ((IJ r.l.nd).mp (a2.trans b2.symm))
  rw[zd ne,if_neg λz=>e z.1]
  exact r.l.ls j c hc
def BO.bk(r:BO H0 H b as back):BkR H b back as:=⟨r.bb,r.l.len,λi a h=>(r.l.ls i a h).1⟩
def oO{K:Fs}{O:Fo}{rs:List V}{Fin:List V->Hp->Prop}(Y:H O=some (.tup rs))(hz:rs.length<=Fv)(h:∀as H',LS H H' as (F7 rs.length [])->Fin (as.map V.ref) H'):
  VB (Itt K O) (vl 0) Yh (Ae YS) [none] H Fin:=by
 refine⟨λi m ys H1=>m=rs.length-i/\i<=rs.length/\∃as,ys=as.map V.ref/\LS H H1 as (F7 i []),⟨rs.length,by simp,GI _,[],rfl,LS.nil⟩,?_⟩
 rintro i m ys H1 ⟨rfl,hi,as,rfl,l⟩
 have hl:as.length=i:=by rw[l.len,NP]
 refine⟨by rw[FF];omega,?_⟩
 have U:SqT K H1 O rs:=SqT.of (l.sm _ _ Y)
 by_cases z:i<rs.length
 ·refine .inr ⟨⟨rs,rs[i],U,by simp[z]⟩,λx H' y=>?_⟩
  obtain⟨rfl,y⟩:=y
  refine⟨⟨rfl,λj v J=>?_⟩,(show _/\_ from⟨by decide,λp Z=>⟨by rw[FF];omega,rs.length-(i+1),by omega,rfl,z,as++[p],by simp,?_⟩⟩)⟩
  ·match j,J with
   | 0,J=>simp at J
   | j+1,J=>simp at J
  ·have:=l.snoc Z
   rw[show F7 i ([]:List Nat)++[[]]=F7 (i+1) []from(List.replicate_succ').symm]at this
   exact this
 ·have e:i=rs.length:=by omega
  subst e
  exact .inl ⟨⟨rs,U,FA _⟩,h as H1 l⟩
end
def bk(rows:List (List Nat))(a i:Nat):List (List Nat):=(Fy rows.length).map λg=>(Fy i).filter λs=>decide ((rows.getD s []).getD a 0=g)
def sB(rows:List (List Nat))(a:Nat):bk rows a 0=F7 rows.length []:=by
 unfold bk
 rw[show(λg=>(Fy 0).filter λs=>decide ((rows.getD s []).getD a 0=g))=λ(_:Nat)=>([]:List Nat)from rfl,OT,GS]
def V8(j:g<rows.length):(bk rows a i).getD g []=(Fy i).filter λs=>decide ((rows.getD s []).getD a 0=g):=by
 unfold bk
 rw[FM,FP,Hv j];rfl
def sC(O:(rows.getD i []).getD a 0<rows.length):bk rows a (i+1)=(bk rows a i).set ((rows.getD i []).getD a 0) ((bk rows a i).getD ((rows.getD i []).getD a 0) []++[i]):=by
 rw[V8 O]
 apply OP
 intro j
 rw[MZ]
 unfold bk
 rw[FP,FP,FF,GS]
 by_cases J:j<rows.length
 ·rw[Hv J,HK,M3,M4]
  by_cases e:(rows.getD i []).getD a 0=j
  ·subst e
   rw[if_pos rfl,if_pos O]
   congr 2
   simp
  ·rw[if_neg e,HK]
   congr 1
   have:(List.filter (λs=>decide ((rows.getD s []).getD a 0=j)) [i])=[]:=by
    rw[List.filter_cons_of_neg (by simpa using e)];rfl
   rw[this,Iw]
 ·rw[M0 (by simpa using J)]
  rw[if_neg λz=>J (by omega)];rfl
def sD(h:∀s,s<rows.length->(rows.getD s []).getD a 0<rows.length):Hop.Back rows.length (λs=>(rows.getD s []).getD a 0) (bk rows a rows.length):=by
 refine⟨λg=>?_,λg s=>?_⟩
 ·by_cases j:g<rows.length
  ·rw[V8 j]
   exact LP.filter _
  ·rw[Hop.UW (by unfold bk;simp;omega)];simp
 ·by_cases j:g<rows.length
  ·rw[V8 j,HC,Gh]
   simp
  ·rw[Hop.UW (by unfold bk;simp;omega)]
   constructor
   ·intro z;cases z
   ·rintro⟨h1,h2⟩
    have:=h s h1
    have J:(rows.getD s []).getD a 0=g:=h2
    omega
end Pt
namespace Hop
section
variable {n A:Nat} {δ:Nat->Nat->Nat} {Df:Nat->Nat->Prop}
structure Good (n:Nat) (st:HS):Prop where
 ok:Ok n st
 full:aW st
def Good.parts(g:Good n st):st.parts.length<=n+2:=aZ g.ok g.full
def Good.wait(g:Good n st):st.waiting.length<=n+2:=by
 have:=yF (m:=Fy st.parts.length) g.ok.wnd λp j=>Gh.mpr (g.ok.wlt p j)
 rw[GS]at this
 have:=g.parts
 omega
def bE{G:Nat->Prop}(ok:Ok n st)(O:Prec n G st ((p,l)::r)):Cut n st p l/\l≠[]:=by
 obtain⟨J,j,z,U⟩:=O.ls p l F9
 exact⟨⟨J,j,λs Y=>by
  obtain⟨h1,_,Z⟩:=(U s).mp Y
  exact(ok.mem p s).mpr ⟨h1,Z,J⟩⟩,z⟩
def my{G:Nat->Prop}(g:Good n st)(J:Prec n G st ((p,l)::r)):Good n (yy st p l)/\Prec n G (yy st p l) r:=by
 obtain⟨c,O⟩:=bE g.ok J
 obtain⟨_,_,_,Z⟩:=J.ls p l F9
 obtain⟨r1,_⟩:=fX (A:=0) (δ:=λ_ s=>s) (Df:=λ_ _=>True) (λa s h=>absurd h (LM _)) g.ok c O λ_ _ _ _ _ _=>⟨trivial,trivial⟩
 have j:=J.nd
 rw[FY,GX]at j
 refine⟨⟨r1.ok,r1.full g.full⟩,j.2,λq m Y=>?_⟩
 obtain⟨g1,g2,g3,g4⟩:=J.ls q m (Gc _ Y)
 have U:q≠p:=λz=>j.1 (FX.mpr ⟨_,Y,z⟩)
 refine⟨Gs g1 r1.two,g2,g3,λs=>?_⟩
 rw[g4 s]
 by_cases h:l.length=(st.parts.getD p []).length
 ·rw[V4 h]
 ·have o:=aV g.ok c h
  rw[o.po]
  constructor
  ·rintro⟨x,y,z⟩
   have:s∉l:=λw=>U (by rw[<-z,((Z s).mp w).2.2])
   exact⟨x,y,by rw[if_neg this];exact z⟩
  ·rintro⟨x,y,z⟩
   by_cases w:s∈l
   ·rw[if_pos w]at z;omega
   ·rw[if_neg w]at z;exact⟨x,y,z⟩
theorem oP{G:Nat->Prop}:∀(fs:List (Nat×List Nat)) (st:HS),Good n st->Prec n G st fs->(∀(j p:Nat) (l:List Nat),fs[j]?=some (p,l)->Good n (wT st (fs.take j))/\Cut n (wT st (fs.take j)) p l)/\Good n (wT st fs)
 | [],st,g,_=>⟨λj p l h=>by simp at h,g⟩
 | (q,m)::r,st,g,z=>by
  obtain⟨g1,J⟩:=my g z
  obtain⟨a,b⟩:=oP r (yy st q m) g1 J
  refine⟨λj p l h=>?_,b⟩
  cases j with
  | zero=>
   have:(q,m)=(p,l):=by simpa using h
   cases this
   exact⟨g,(bE g.ok z).1⟩
  | succ j=>exact a j p l (by simpa using h)
def eK(st:HS){fs:List (Nat×List Nat)}{j:Nat}{e:Nat×List Nat}(h:fs[j]?=some e):wT st (fs.take (j+1))=yy (wT st (fs.take j)) e.1 e.2:=by
 rw[LO,h]
 unfold wT
 rw[IV];rfl
def Ja(b:Back n d back)(z:goals.Nodup)(ok:Ok n st):Prec n (λs=>d s∈goals) st (v8 goals back st.partOf):=by
 have f:=fW (partOf:=st.partOf) b z
 refine⟨f.nd,λp l J=>?_⟩
 obtain⟨h1,h2,O⟩:=f.ls p l J
 have j:∀s,s∈l↔s<n/\d s∈goals/\st.partOf.getD s 0=p:=λs=>by
  rw[O s,ul b s,and_assoc]
 refine⟨?_,h1,h2,j⟩
 cases l with
 | nil=>exact absurd rfl h2
 | cons x r=>
  obtain⟨q1,_,U⟩:=(j x).mp F9
  rw[<-U];exact ok.lt x q1
def jA(b:Back n d back)(j:goals.Nodup)(g:Good n st):Good n (wm goals st back):=(oP _ st g (Ja b j g.ok)).2
theorem Jb{δ:Nat->Nat->Nat}{goals:List Nat}(j:goals.Nodup):∀(bs:List (List (List Nat))) (st:HS),(∀b∈bs,∃d,Back n d b)->Good n st->∀i,Good n ((bs.take i).foldl (wm goals) st)
 | [],st,_,g,i=>by rw[List.take_nil];exact g
 | b::r,st,h,g,0=>g
 | b::r,st,h,g,i+1=>by
  obtain⟨d,z⟩:=h b F9
  exact Jb (δ:=δ) j r _ (λc J=>h c (Gc _ J)) (jA z j g) i
def mz(j:List Nat)(st:HS){bs:List (List (List Nat))}{i:Nat}{b:List (List Nat)}(h:bs[i]?=some b):(bs.take (i+1)).foldl (wm j) st=wm j ((bs.take i).foldl (wm j) st) b:=by
 rw[LO,h,IV];rfl
def mB(g:Good n st)(h:st.waiting.getLast?=some p):Good n (take st p):=⟨(UX g.ok h).1,g.full⟩
def bF(good:List Bool):Ok good.length (start good):=by
 have j:∀s,s<good.length->(start good).partOf.getD s 0=if good.getD s false then 1 else 0:=λs J=>by
  show(good.map λb=>if b then 1 else 0).getD s 0=_
  simp[HX,J]
 refine⟨by simp[start],λs J=>?_,λp=>?_,λp s=>?_,rfl,λp z=>?_,λp z=>?_,?_⟩
 ·rw[j s J]
  show _<2
  split <;>omega
 ·match p with
  | 0=>exact LP.filter _
  | 1=>exact LP.filter _
  | p+2=>simp[start]
 ·have Y:(start good).parts.length=2:=rfl
  rw[Y]
  match p with
  | 0=>
   show s∈(Fy good.length).filter (λs=>!good.getD s false)↔_
   rw[HC,Gh]
   constructor
   ·rintro⟨h1,h2⟩
    have O:good.getD s false=false:=by simpa using h2
    exact⟨h1,by rw[j s h1,O];rfl,by omega⟩
   ·rintro⟨h1,h2,_⟩
    rw[j s h1]at h2
    refine⟨h1,?_⟩
    cases e:good.getD s false with
    | true=>rw[e]at h2;simp at h2
    | false=>rfl
  | 1=>
   show s∈(Fy good.length).filter (λs=>good.getD s false)↔_
   rw[HC,Gh]
   constructor
   ·rintro⟨h1,h2⟩
    exact⟨h1,by rw[j s h1,h2];rfl,by omega⟩
   ·rintro⟨h1,h2,_⟩
    rw[j s h1]at h2
    refine⟨h1,?_⟩
    cases e:good.getD s false with
    | true=>rfl
    | false=>rw[e]at h2;simp at h2
  | p+2=>
   constructor
   ·intro h;simp[start]at h
   ·rintro⟨_,_,h⟩;omega
 ·match p,z with
  | 0,_=>simp[start]
  | 1,_=>simp[start]
  | p+2,z=>exact absurd z (by show ¬p+2<2;omega)
 ·have U:p∈[0,1]:=z
  show p<2
  simp at U
  omega
 ·show [0,1].Nodup
  simp
def jB(good:List Bool):Good good.length (start good):=⟨bF good,λp h2 j=>absurd j (by show ¬p<2;omega)⟩
def Jc(J:∀a s,a<A->s<good.length->δ a s<good.length)(Y:∀s t,s<good.length->t<good.length->good.getD s false≠good.getD t false->Df s t):Inv good.length A δ Df (start good):=by
 have O:∀s,s<good.length->(start good).partOf.getD s 0=if good.getD s false then 1 else 0:=λs j=>by
  show(good.map λb=>if b then 1 else 0).getD s 0=_
  simp[HX,j]
 refine⟨bF good,λa Z s t j U _ _=>.inl ?_,λs t j U ne=>Y s t j U λz=>ne ?_,(jB good).full⟩
 ·rw[O _ (J a s Z j)]
  show _∈[0,1]
  split <;>simp
 ·rw[O s j,O t U,z]
def walk(δ:Nat->Nat->Nat)(s:Nat)(w:List Nat):Nat:=w.foldl (λs a=>δ a s) s
def jC(A:Nat)(δ:Nat->Nat->Nat)(good:List Bool)(s t:Nat):Prop:=∃w:List Nat,(∀a∈w,a<A)/\good.getD (walk δ s w) false≠good.getD (walk δ t w) false
def xg(bs:List (List (List Nat)))(good:List Bool):List Nat:=(run bs (good.length+2) (start good)).partOf
def XQ(J:∀a s,a<A->s<good.length->δ a s<good.length)(hA:bs.length=A)(U:∀i,i<A->Back good.length (δ i) (bs.getD i [])):
  (xg bs good).length=good.length/\∀s t,s<good.length->t<good.length->((xg bs good).getD s 0=(xg bs good).getD t 0↔¬jC A δ good s t):=by
 have iv:=Jc (A:=A) (δ:=δ) (Df:=jC A δ good) J λs t _ _ h=>⟨[],by simp,h⟩
 obtain⟨i1,w1,f1⟩:=fY (Df:=jC A δ good) J (λa s t Z _ _ ⟨w,Y,h⟩=>⟨a::w,λb U=>by
  rcases FL.mp U with rfl|U
  ·exact Z
  ·exact Y b U,h⟩) hA U (good.length+2) (start good) iv (by show _+2<=_+2;omega)
 refine⟨i1.ok.len,λs t j O=>⟨λe=>?_,λh=>M6 λz=>h (i1.dist s t j O z)⟩⟩
 rintro⟨w,Y,h⟩
 have key:∀(w:List Nat) (s t:Nat),(∀a∈w,a<A)->s<good.length->t<good.length->(xg bs good).getD s 0=(xg bs good).getD t 0->good.getD (walk δ s w) false=good.getD (walk δ t w) false:=by
  intro w
  induction w with
  | nil=>
   intro s t _ j O e
   have:=f1 s t j O e
   have pg:∀s,s<good.length->(start good).partOf.getD s 0=if good.getD s false then 1 else 0:=λs j=>by
    show(good.map λb=>if b then 1 else 0).getD s 0=_
    simp[HX,j]
   rw[pg s j,pg t O]at this
   show good.getD s false=good.getD t false
   cases e1:good.getD s false <;>cases e2:good.getD t false <;>rw[e1,e2]at this <;>simp at this <;>rfl
  | cons a w ih=>
   intro s t Y j O e
   have Z:=Y a F9
   refine ih (δ a s) (δ a t) (λb U=>Y b (Gc _ U)) (J a s Z j) (J a t Z O) ?_
   by_cases z:(xg bs good).getD (δ a s) 0=(xg bs good).getD (δ a t) 0
   ·exact z
   ·rcases i1.stab a Z s t j O e z with y|y|y
    ·rw[w1]at y;cases y
    ·rw[w1]at y;cases y
    ·exact absurd y id
 exact h (key w s t Y j O e)
end
end Hop
namespace Pt
open PySem PySem.Spec L2 DD
open PyProof.Rows hiding St
open Hop (HS)
section
variable {C:Fo} {H0 H H':Hp} {x:Fo} {st:HS} {g:Ads}
def Rep.grow(r:Rep C H0 H x st g)(s:zm H H'):∃H1,zm H0 H1/\Rep C H1 H' x st g/\∀b u,H b=none->H' b=some u->H1 b=some u:=by
 classical
 refine⟨λb=>if H b=none then H' b else H0 b,λb u q=>?_,?_,λb u h1 h2=>by show(if H b=none then H' b else H0 b)=some u;rw[if_pos h1];exact h2⟩
 ·show(if H b=none then H' b else H0 b)=some u
  rw[if_neg (by rw[r.sm b u q];simp)];exact q
 have fr:∀{b:Fo} {o:HO},H b=some o->H0 b=none->(if H b=none then H' b else H0 b)=none:=λh1 h2=>by rw[if_neg (by rw[h1];simp)];exact h2
 refine⟨λb u q=>?_,s _ _ r.ins,s _ _ r.po,s _ _ r.pl,s _ _ r.wg,s _ _ r.ws,r.len,λi d h=>s _ _ (r.ds i d h),r.nd,r.n1,r.n2,r.n3,r.n4,r.n5,r.n6,fr r.ins r.f0,fr r.po r.f1,fr r.pl r.f2,fr r.wg r.f3,fr r.ws r.f4,λd hd=>?_⟩
 ·have q':(if H b=none then H' b else H0 b)=some u:=q
  by_cases h:H b=none
  ·rw[if_pos h]at q';exact q'
  ·rw[if_neg h]at q';exact s _ _ (r.sm b u q')
 ·obtain⟨i,hi⟩:=Hy hd
  exact fr (r.ds i d hi) (r.f5 d hd)
def Rep.over(r:Rep C H0 H x st g)(J:H0 d=some O)(o:HO):Rep C (upd H0 d o) (upd H d o) x st g:=by
 have ne:∀{b:Fo},H0 b=none->b≠d:=λh z=>by rw[z,J]at h;cases h
 refine⟨XA r.sm o,?_,?_,?_,?_,?_,r.len,λi e h=>?_,r.nd,r.n1,r.n2,r.n3,r.n4,r.n5,r.n6,?_,?_,?_,?_,?_,λe j=>?_⟩
 ·rw[zd (ne r.f0)];exact r.ins
 ·rw[zd (ne r.f1)];exact r.po
 ·rw[zd (ne r.f2)];exact r.pl
 ·rw[zd (ne r.f3)];exact r.wg
 ·rw[zd (ne r.f4)];exact r.ws
 ·rw[zd (ne (r.f5 e (Gj h)))];exact r.ds i e h
 ·rw[zd (ne r.f0)];exact r.f0
 ·rw[zd (ne r.f1)];exact r.f1
 ·rw[zd (ne r.f2)];exact r.f2
 ·rw[zd (ne r.f3)];exact r.f3
 ·rw[zd (ne r.f4)];exact r.f4
 ·rw[zd (ne (r.f5 e j))];exact r.f5 e j
end
def bks(rows:List (List Nat))(A:Nat):List (List (List Nat)):=(Fy A).map λa=>bk rows a rows.length
def UZ(h:i<A):(bks rows A)[i]?=some (bk rows i rows.length):=by
 unfold bks
 rw[FP,Hv h];rfl
def U0(rows:List (List Nat))(A:Nat):(bks rows A).length=A:=by unfold bks;simp
structure BsR (H:Hp) (rows:List (List Nat)) (bs:List Fo):Prop where
 ls:∀(i:Nat) b,bs[i]?=some b->∃as,BkR H b (bk rows i rows.length) as
def BsR.mono(r:BsR H rows bs)(s:zm H H'):BsR H' rows bs:=⟨λi b h=>let ⟨as,q⟩:=r.ls i b h;⟨as,q.mono s⟩⟩
def BsR.snoc(r:BsR H rows bs)(q:BkR H b (bk rows bs.length rows.length) as):BsR H rows (bs++[b]):=⟨λi c h=>by
 by_cases hi:i<bs.length
 ·rw[GK hi]at h;exact r.ls i c h
 ·rw[Ii (by omega)]at h
  have e:i-bs.length=0:=by
   have:=(FO.mp h).1
   simp at this;omega
  rw[e]at h
  have:b=c:=by simpa using h
  subst this
  have:i=bs.length:=by omega
  subst this
  exact⟨as,q⟩⟩
structure Rows (rows:List (List Nat)) (A:Nat):Prop where
 len:∀s,s<rows.length->A<=(rows.getD s []).length
 lt:∀s a,s<rows.length->a<A->(rows.getD s []).getD a 0<rows.length
def Rows.back(r:Rows rows A)(h:a<A):Hop.Back rows.length (λs=>(rows.getD s []).getD a 0) (bk rows a rows.length):=sD λs j=>r.lt s a j h
def v9:List D->Option (List Nat)
 | []=>some []
 | .int i::r=>if 0<=i then(v9 r).map λl=>i.toNat::l else none
 | _::_=>none
def xP:List D->Option (List (List Nat))
 | []=>some []
 | .tup xs::r=>(v9 xs).bind λl=>(xP r).map λm=>l::m
 | _::_=>none
def yp:List D->Option (List Bool)
 | []=>some []
 | .bl b::r=>(yp r).map λl=>b::l
 | _::_=>none
def Zb(rows:List (List Nat))(A:Nat):Bool:=rows.all λr=>decide (A<=r.length) && (r.take A).all λg=>decide (g<rows.length)
def jD(h:Zb rows A=true):Rows rows A:=by
 unfold Zb at h
 rw[GR]at h
 have key:∀s,s<rows.length->A<=(rows.getD s []).length/\∀g∈(rows.getD s []).take A,g<rows.length:=λs j=>by
  have z:rows.getD s []∈rows:=Gj (getD_some j)
  have:=h _ z
  rw[G0,decide_eq_true_eq,GR]at this
  exact⟨this.1,λg J=>by simpa using this.2 g J⟩
 refine⟨λs j=>(key s j).1,λs a j O=>?_⟩
 obtain⟨h1,h2⟩:=key s j
 refine h2 _ (Gj (i:=a) ?_)
 rw[OU,if_pos O]
 exact getD_some (by omega)
def Yt:List D->Option D:=λds=>match ds with
 | [.int a,.tup r,.lst g]=>(xP r).bind λrows=>(yp g).bind λgood=>
  if 0<=a/\Zb rows a.toNat=true/\good.length=rows.length/\rows.length+3<Fv/\a.toNat<Fv then some (.lst ((Hop.xg (bks rows a.toNat) good).map λ(n:Nat)=>D.int (n:Int)))else none
 | _=>none
section
variable {K:Fs} {F H H':Hp}
theorem gA:∀{xs:List D} {l:List Nat} {us:List V},v9 xs=some l->Are K F xs us->us=zF l
 | [],l,us,h,a=>by cases h;exact a.inv0
 | d::r,l,us,h,a=>by
  obtain⟨v,q,rfl,h1,h2⟩:=a.inv
  cases d with
  | int i=>
   unfold v9 at h
   by_cases hi:0<=i
   ·rw[if_pos hi]at h
    obtain⟨m,j,rfl⟩:=Hx.mp h
    simp only[Is]at h1
    rw[gA j h2,h1]
    show _=V.int ((i.toNat:Nat):Int)::zF m
    rw[LH hi]
   ·rw[if_neg hi]at h;cases h
  | _=>cases h
theorem Yu:∀{xs:List D} {rows:List (List Nat)} {us:List V},xP xs=some rows->Are K F xs us->∃rs:List Fo,us=rs.map V.ref/\rs.length=rows.length/\∀(i:Nat) a,rs[i]?=some a->F a=some (.tup (zF (rows.getD i [])))
 | [],l,us,h,a=>by cases h;exact⟨[],a.inv0,rfl,λi a h=>by simp at h⟩
 | d::r,l,us,h,a=>by
  obtain⟨v,q,rfl,h1,h2⟩:=a.inv
  cases d with
  | tup xs=>
   unfold xP at h
   obtain⟨l0,J,h⟩:=G6.mp h
   obtain⟨m,O,rfl⟩:=Hx.mp h
   simp only[Is]at h1
   obtain⟨b,ws,rfl,j,U⟩:=h1
   obtain⟨rs,rfl,Y,Z⟩:=Yu O h2
   refine⟨b::rs,rfl,by simp[Y],λi c z=>?_⟩
   cases i with
   | zero=>
    have:b=c:=by simpa using z
    subst this
    rw[gA J U]at j
    exact j
   | succ i=>exact Z i c (by simpa using z)
  | _=>cases h
theorem Zx:∀{xs:List D} {l:List Bool} {us:List V},yp xs=some l->Are K F xs us->us=l.map V.bl
 | [],l,us,h,a=>by cases h;exact a.inv0
 | d::r,l,us,h,a=>by
  obtain⟨v,q,rfl,h1,h2⟩:=a.inv
  cases d with
  | bl b=>
   unfold yp at h
   obtain⟨m,j,rfl⟩:=Hx.mp h
   simp only[Is]at h1
   rw[Zx j h2,h1];rfl
  | _=>cases h
theorem W9:∀l:List Nat,Are K F (l.map λ(n:Nat)=>D.int (n:Int)) (zF l)
 | []=>.nil
 | a::r=>.cons (by simp[Is]) (W9 r)
def sE(O:zm F H)(s:zm H H')(U:H j=none)(J:H' j=some o):Ext F H (upd F j o) H' :=
 ⟨zz (O.free U) o,s,λb u q=>by
  by_cases z:b=j
  ·subst z;rw[zj]at q;rw[J,q]
  ·rw[zd z]at q;exact s _ _ (O _ _ q),λb h1 h2=>by
  by_cases z:b=j
  ·subst z;exact U
  ·rw[zd z]at h2;exact absurd h1 h2⟩
end
end Pt
namespace DD
open PySem PySem.Spec L2
open PyProof.Rows hiding St
section
variable {X:Cx} {a b c:Fu} {f g h:G->Option B} {pos:FG}
end
end DD
namespace L2
open PySem PySem.Spec PyProof.Rows
section
variable {X:Cx}
end
end L2
namespace DD
open PySem PySem.Spec L2
open PyProof.Rows hiding St
section
variable {X:Cx} {K:Fs} {e a b tg iter:Fu} {f g:G->Option B} {pos:FG}
end
end DD
namespace DD
open PySem L2
open PySem.SeqAt (shaped)
section
variable {Γ:G}
@[simp] theorem Zy {i}:zc i Γ=Γ[i]?.bind S.look:=id rfl
@[simp] theorem DK {d}:S.look (.v d)=some (.d d):=id rfl
@[simp] theorem XR {d}:S.look (.ol d)=some (.l d):=id rfl
@[simp] theorem C' {d}:S.look (.ot d)=some (.t d):=id rfl
@[simp] theorem Da {d}:S.look (.ok d)=some (.k d):=id rfl
@[simp] theorem jE {d}:xC d Γ=some (.d d):=id rfl
noncomputable def ap2 (m:B->B->Option D):Option B->Option B->Option B
 | some x,some y=>(m x y).map B.d
 | _,_=>none
@[simp] theorem wG {m x y}:ap2 m (some x) (some y)=(m x y).map B.d:=id rfl
@[simp] theorem Zz {m f g}:x2 m f g Γ=ap2 m (f Γ) (g Γ):=by unfold x2 ap2;cases f Γ <;>cases g Γ <;>rfl
@[simp] theorem EG {b}:B.tst (.d (.bl b))=some b:=id rfl
noncomputable def bG:Option B->Option Bool:=λo=>o.bind B.tst
@[simp] theorem Db {b}:bG (some (.d (.bl b)))=some b:=id rfl
@[simp] theorem AI {f}:xT f Γ=bG (f Γ):=id rfl
noncomputable def oQ (o:Option Bool) (g:G->Option Bool) (Γ:G):Option Bool:=o.bind λx=>if x=true then g Γ else some false
@[simp] theorem D8 {g}:oQ (some true) g Γ=g Γ:=id rfl
@[simp] theorem D9 {g}:oQ (some false) g Γ=some false:=id rfl
@[simp] theorem Ea {f g}:iN f g Γ=oQ (f Γ) g Γ:=id rfl
noncomputable def orO (o:Option Bool) (g:G->Option Bool) (Γ:G):Option Bool:=o.bind λx=>if x=true then some true else g Γ
@[simp] theorem EH {g}:orO (some false) g Γ=g Γ:=id rfl
@[simp] theorem EJ {f g}:xOr f g Γ=orO (f Γ) g Γ:=id rfl
@[simp] theorem Eb {f}:wX f Γ=(f Γ).map (!·):=id rfl
noncomputable def AJ (o:Option Bool) (g:G->Option B) (Γ:G):Option B:=o.bind λx=>if x=true then g Γ else some (.d (.bl false))
@[simp] theorem Ec {g}:AJ (some true) g Γ=g Γ:=id rfl
@[simp] theorem D1 {f g}:YU f g Γ=AJ (bG (f Γ)) g Γ:=id rfl
@[simp] theorem D2 {f}:JJ f Γ=(bG (f Γ)).map λx=>.d (.bl (!x)):=id rfl
noncomputable def ifV (o:Option Bool) (f g:G->Option B) (Γ:G):Option B:=o.bind λx=>if x=true then f Γ else g Γ
@[simp] theorem EK {f g}:ifV (some true) f g Γ=f Γ:=id rfl
@[simp] theorem EM {f g}:ifV (some false) f g Γ=g Γ:=id rfl
@[simp] theorem EN {t f g}:xIf t f g Γ=ifV (t Γ) f g Γ:=id rfl
noncomputable def ch3 (m j:B->B->Option D) (h:G->Option B) (Γ:G):Option B->Option B->Option B
 | some x,some y=>((m x y).bind λz=>B.tst (.d z)).bind λk=>if k=true then ap2 j (some y) (h Γ)else some (.d (.bl false))
 | _,_=>none
@[simp] theorem Ff {m j f g h}:x3 m j f g h Γ=ch3 m j h Γ (f Γ) (g Γ):=by
 unfold x3 ch3
 cases f Γ with
 | none=>rfl
 | some x=>
  cases g Γ with
  | none=>rfl
  | some y=>
   simp only[FZ]
   congr 1;funext k
   cases h Γ <;>rfl
@[simp] theorem V9:zf Γ=some []:=id rfl
noncomputable def w6:Option B->Option (List B)->Option (List B)
 | some x,some xs=>some (x::xs)
 | _,_=>none
@[simp] theorem Ua {x xs}:w6 (some x) (some xs)=some (x::xs):=id rfl
@[simp] theorem xw {f fs}:za f fs Γ=w6 (f Γ) (fs Γ):=by unfold za w6;cases f Γ <;>cases fs Γ <;>rfl
@[simp] theorem JR {d}:B.asD (.d d)=some d:=id rfl
@[simp] theorem sG:Zm []=some []:=id rfl
@[simp] theorem AK {d r}:Zm (.d d::r)=(Zm r).map (d::·):=id rfl
noncomputable def oR (o:Option (List D)):Option B:=o.bind λds=>if ds.length<=Fv then some (.d (.tup ds))else none
@[simp] theorem Dc {ds}:oR (some ds)=if ds.length<=Fv then some (.d (.tup ds))else none:=id rfl
noncomputable def dsO (o:Option (List B)):Option (List D):=o.bind Zm
@[simp] theorem oS {bs}:dsO (some bs)=Zm bs:=id rfl
@[simp] theorem AL {fs}:y7 fs Γ=oR (dsO (fs Γ)):=id rfl
@[simp] theorem XS {f}:xL f Γ=(f Γ).map λds=>.d (.lst ds):=id rfl
noncomputable def AM (o:Option (List D)):Option (List D):=o.bind λds=>if ds.length<=Fv then some ds else none
@[simp] theorem Dd {ds}:AM (some ds)=if ds.length<=Fv then some ds else none:=id rfl
@[simp] theorem Ed {fs}:wv fs Γ=AM (dsO (fs Γ)):=id rfl
noncomputable def jF (m:List B->Option D) (o:Option (List B)):Option B:=o.bind λbs=>(m bs).map B.d
@[simp] theorem Cg {m bs}:jF m (some bs)=(m bs).map B.d:=id rfl
@[simp] theorem Wq {m fs}:zN m fs Γ=jF m (fs Γ):=id rfl
noncomputable def fnO (m:List D->Option D) (o:Option (List D)):Option B:=o.bind λbs=>(m bs).map B.d
@[simp] theorem vO {m ds}:fnO m (some ds)=(m ds).map B.d:=id rfl
@[simp] theorem Y3 {m fs}:xFn m fs Γ=fnO m (dsO (fs Γ)):=id rfl
@[simp] theorem EO {c}:xTy c Γ=some (.ty c):=id rfl
@[simp] theorem Fg {c}:xG c Γ=some (.c c):=id rfl
noncomputable def AN (o:Option B):Option B:=o.bind λb=>b.int.map λi=>.d (.int (-i))
@[simp] theorem XT {i}:AN (some (.d (.int i)))=some (.d (.int (-i))):=id rfl
@[simp] theorem bH {f}:XG f Γ=AN (f Γ):=id rfl
@[simp] theorem Ch {i}:B.int (.d (.int i))=some i:=id rfl
noncomputable def oT (o:Option B):Option (List D):=o.bind B.fix
@[simp] theorem oU {ds}:oT (some (.d (.tup ds)))=some ds:=id rfl
@[simp] theorem DL {ds}:oT (some (.d (.lst ds)))=some ds:=id rfl
@[simp] theorem mC {f}:wx f Γ=oT (f Γ):=id rfl
@[simp] theorem D3:yj Γ=some (.nx Γ):=id rfl
noncomputable def Wr (o:Option Out) (g:G->Option Out):Option Out:=o.bind λo=>match o with
 | .nx j=>g j
 | o=>some o
@[simp] theorem yv {g j}:Wr (some (.nx j)) g=g j:=id rfl
@[simp] theorem DM {g d}:Wr (some (.rt d)) g=some (.rt d):=id rfl
@[simp] theorem yz {f g}:zt f g Γ=Wr (f Γ) g:=id rfl
noncomputable def U1 (o:Option B):Option Out:=o.bind λb=>b.asD.map Out.rt
@[simp] theorem mD {d}:U1 (some (.d d))=some (.rt d):=id rfl
@[simp] theorem XU {f}:zO f Γ=U1 (f Γ):=id rfl
noncomputable def ifO (o:Option Bool) (f g:G->Option Out) (Γ:G):Option Out:=o.bind λx=>if x=true then f Γ else g Γ
@[simp] theorem EQ {f g}:ifO (some true) f g Γ=f Γ:=id rfl
@[simp] theorem ER {f g}:ifO (some false) f g Γ=g Γ:=id rfl
@[simp] theorem Ci {t f g}:sIf t f g Γ=ifO (t Γ) f g Γ:=id rfl
noncomputable def q9 (o:Option B) (Γ:G):Option Out:=o.map λ_=>.nx Γ
@[simp] theorem Cj {b}:q9 (some b) Γ=some (.nx Γ):=id rfl
@[simp] theorem D4 {f}:YV f Γ=q9 (f Γ) Γ:=id rfl
noncomputable def U2 (i:Nat) (o:Option B) (Γ:G):Option Out:=o.bind λb=>b.asD.map λd=>.nx (Γ.set i (.v d))
@[simp] theorem Jd {i d}:U2 i (some (.d d)) Γ=some (.nx (Γ.set i (.v d))):=id rfl
@[simp] theorem ZA {i f}:yf i f Γ=U2 i (f Γ) Γ:=id rfl
noncomputable def AO (i:Nat) (o:Option (List D)) (Γ:G):Option Out:=o.map λds=>.nx (Γ.set i (.ol ds))
@[simp] theorem De {i ds}:AO i (some ds) Γ=some (.nx (Γ.set i (.ol ds))):=id rfl
@[simp] theorem Ee {i f}:vu i f Γ=AO i (f Γ) Γ:=id rfl
@[simp] theorem Ef {i d}:zr i d Γ=some (Γ.set i (.v d)):=id rfl
noncomputable def Va (i:Nat):Option (List D)->Option B->G->Option Out
 | some ds,some (.d d),Γ=>if ds.length<Fv then some (.nx (Γ.set i (.ol (ds++[d]))))else none
 | _,_,_=>none
@[simp] theorem Dg {i ds d}:Va i (some ds) (some (.d d)) Γ=if ds.length<Fv then some (.nx (Γ.set i (.ol (ds++[d]))))else none:=id rfl
@[simp] theorem Eg {i f}:Zs i f Γ=Va i (vx Γ i) (f Γ) Γ:=by
 unfold Zs Va
 cases vx Γ i with
 | none=>rfl
 | some ds=>
  cases f Γ with
  | none=>rfl
  | some b=>cases b <;>rfl
noncomputable def oV (i:Nat):Option (List D)->Option (List D)->G->Option Out
 | some ds,some es,Γ=>if ds.length+es.length<=Fv then some (.nx (Γ.set i (.ol (ds++es))))else none
 | _,_,_=>none
@[simp] theorem Dh {i ds es}:oV i (some ds) (some es) Γ=if ds.length+es.length<=Fv then some (.nx (Γ.set i (.ol (ds++es))))else none:=id rfl
noncomputable def lsO (o:Option B):Option (List D):=o.bind B.lst
@[simp] theorem ES {ds}:lsO (some (.d (.lst ds)))=some ds:=id rfl
@[simp] theorem Eh {i f}:aJ i f Γ=oV i (vx Γ i) (lsO (f Γ)) Γ:=by
 unfold aJ oV lsO
 cases vx Γ i with
 | none=>rfl
 | some ds=>
  cases f Γ with
  | none=>rfl
  | some b=>
   simp only[FZ]
   cases b.lst <;>rfl
@[simp] theorem EU {ds}:B.lst (.d (.lst ds))=some ds:=id rfl
@[simp] theorem AQ {ds}:B.lst (.l ds)=some ds:=id rfl
noncomputable def AR (o:Option (List D)) (t:D->G->Option G) (fb:G->Option Out) (Γ:G):Option Out:=o.bind λds=>x0 t fb ds Γ
@[simp] theorem XV {ds t fb}:AR (some ds) t fb Γ=x0 t fb ds Γ:=id rfl
@[simp] theorem bI {j t fb}:uh j t fb Γ=AR (j Γ) t fb Γ:=id rfl
noncomputable def xV (o:Option (List D)) (ms:List (Option Nat)) (t:D->G->Option G) (cond:G->Option Bool) (el:G->Option B) (Γ:G):Option (List D):=o.bind λds=>if ds.length<=Fv then uX t cond el (y8 ms Γ) ds else none
@[simp] theorem vT {j ms t cond el}:yE j ms t cond el Γ=xV (j Γ) ms t cond el Γ:=id rfl
@[simp] theorem szv:Fv=16777216:=id rfl
@[simp] theorem EV {i j}:yI (.d (.int i)) (.d (.int j))=some (.int (i+j)):=id rfl
@[simp] theorem Ei:yI (.d (.tup a)) (.d (.tup b))=if a.length+b.length<=Fv then some (.tup (a++b))else none:=by
 unfold yI mOr VH mI Wi VJ
 by_cases h:a.length+b.length<=Fv <;>simp[h,B.int,B.lst]
@[simp] theorem Ej:yI (.d (.lst a)) (.d (.lst b))=if a.length+b.length<=Fv then some (.lst (a++b))else none:=by
 unfold yI mOr VH mI Wi VJ
 by_cases h:a.length+b.length<=Fv <;>simp[h,B.int,B.lst]
@[simp] theorem D5:yI (.l a) (.d (.lst b))=if a.length+b.length<=Fv then some (.lst (a++b))else none:=by
 unfold yI mOr VH mI Wi VJ
 by_cases h:a.length+b.length<=Fv <;>simp[h,B.int,B.lst]
@[simp] theorem EX {i j}:W0 (.d (.int i)) (.d (.int j))=some (.int (i-j)):=id rfl
def ZN{i j}(h:xS i=true\/xS j=true):Z0 (.d (.int i)) (.d (.int j))=some (.int (i*j)):=by
 unfold Z0 mI
 simp[h]
def ZO{i j:Int}(h:0<j):Z1 (.d (.int i)) (.d (.int j))=some (.int (i%j)):=by
 unfold Z1 mI
 simp[h]
def rc{i j:Int}(h:0<j)(h2:j<1073741824):aF (.d (.int i)) (.d (.int j))=some (.int (i/j)):=by
 unfold aF mI
 simp[h,h2]
@[simp] theorem Fh {i j}:mLt (.d (.int i)) (.d (.int j))=some (.bl (decide (i<j))):=id rfl
@[simp] theorem Fi {i j}:mLe (.d (.int i)) (.d (.int j))=some (.bl (decide (i<=j))):=id rfl
@[simp] theorem Fj {i j}:mGt (.d (.int i)) (.d (.int j))=some (.bl (decide (j<i))):=id rfl
@[simp] theorem EY {n:Bool} {i j:Int}:mEq n (.d (.int i)) (.d (.int j))=some (.bl (if n then !decide (i=j)else decide (i=j))):=by
 have h:∀i:Int,Gm (.int i)=true:=λi=>by simp[Gm,Ho,IW]
 unfold mEq
 simp[Z2,toP,h,F8,OV]
@[simp] theorem Ek {ds}:B.seq (.d (.tup ds))=some ds:=id rfl
@[simp] theorem mE {ds}:B.seq (.d (.lst ds))=some ds:=id rfl
@[simp] theorem El {ns}:B.seq (.d (.scr ns))=some (ns.map D.int):=id rfl
@[simp] theorem Ub {ds}:B.seq (.l ds)=some ds:=id rfl
@[simp] theorem XW {x:B} {i:Int}:mIx x (.d (.int i))=x.seq.bind λds=>atI ds i:=id rfl
def xD{α:Type}{xs:List α}{k:Nat}:atI xs (k:Int)=xs[k]?:=by
 unfold atI ixN
 by_cases h:k<xs.length
 ·simp[h]
 ·simp[h]
def Vb{α:Type}{xs:List α}{k:Nat}:atI xs ((k:Int)+1)=xs[k+1]?:=xD (k:=k+1)
@[simp] theorem EZ {α:Type} {xs:List α}:atI xs 0=xs[0]?:=xD (k:=0)
@[simp] theorem E5 {α:Type} {xs:List α}:atI xs 1=xs[1]?:=xD (k:=1)
@[simp] theorem E6 {α:Type} {xs:List α}:atI xs 2=xs[2]?:=xD (k:=2)
def oW{α:Type}{xs:List α}{x:α}:atI (xs++[x]) (-1)=some x:=by
 unfold atI ixN
 rw[if_neg (by omega),Gb,GA,if_pos (by omega),FZ,show(-1+((xs.length+1:Nat):Int)).toNat=xs.length by omega]
 simp
@[simp] theorem E7 {b}:wh [b]=b.seq.map λds=>.int ds.length:=id rfl
@[simp] theorem Em {ds}:Zq [.d (.lst ds)]=some (.tup ds):=id rfl
@[simp] theorem Eo {ds}:Zq [.l ds]=some (.tup ds):=id rfl
@[simp] theorem E8 {x c}:vw [.d x,.ty c]=x.tyOf.map λt=>.bl (isi t c):=id rfl
@[simp] theorem Ep {b}:D.tyOf (.int b)=some .int:=id rfl
@[simp] theorem Er {b}:D.tyOf (.str b)=some .str:=id rfl
@[simp] theorem Es {b}:D.tyOf (.tup b)=some .tup:=id rfl
@[simp] theorem E9 {b}:W3 [b]=b.lst.bind λds=>(v6 ds).map λbs=>.bl (bs.all id):=id rfl
noncomputable def enO (o:Option (List B)):Option (List D):=o.bind λbs=>match bs with
 | [.d (.tup ds)]=>some (zP ds)
 | _=>none
@[simp] theorem DO {ds}:enO (some [.d (.tup ds)])=some (zP ds):=id rfl
@[simp] theorem Ck {fs}:xEn fs Γ=enO (fs Γ):=id rfl
noncomputable def oX (o:Option (List B)):Option (List D):=o.bind λbs=>match bs with
 | [.d (.lst ds)]=>some (zP ds)
 | _=>none
@[simp] theorem Di {ds}:oX (some [.d (.lst ds)])=some (zP ds):=id rfl
noncomputable def jG (i:Nat):Option B->Option B->G->Option Out
 | some (.d k),some (.d v),Γ=>(Zt k).map λks=>.nx (Γ.set i (.ot [(ks,v)]))
 | _,_,_=>none
@[simp] theorem Cn {i k v}:jG i (some (.d k)) (some (.d v)) Γ=(Zt k).map λks=>.nx (Γ.set i (.ot [(ks,v)])):=id rfl
@[simp] theorem bJ {i f}:Zr i f Γ=f (YW i Γ):=id rfl
@[simp] theorem AS {fs}:Z5 fs Γ=oX (fs Γ):=id rfl
@[simp] theorem DP {i j z}:VY i j z Γ=jG i (j Γ) (z Γ) Γ:=by
 unfold VY jG
 cases j Γ with
 | none=>rfl
 | some bk=>
  cases bk with
  | d k=>
   cases z Γ with
   | none=>rfl
   | some J=>cases J <;>rfl
  | _=>rfl
noncomputable def AT (t:D->G->Option G) (o:Option B) (Γ:G):Option Out:=o.bind λb=>b.asD.bind λd=>(t d Γ).map .nx
@[simp] theorem Dj {t d}:AT t (some (.d d)) Γ=(t d Γ).map .nx:=id rfl
@[simp] theorem bK {t f}:iQ t f Γ=AT t (f Γ) Γ:=id rfl
@[simp] theorem Et {j d kvs}:Z4 j (.d d) (.t kvs)=(Zt d).map λk=>.bl (if j then !(yg kvs k).isSome else(yg kvs k).isSome):=by
 unfold Z4 B.dget
 simp only[JR,FZ,Option.map_map]
 rfl
@[simp] theorem D6 {d kvs}:v7 (.t kvs) (.d d)=(Zt d).bind λk=>yg kvs k:=by
 unfold v7 B.dget
 simp only[JR,FZ]
 cases Zt d <;>rfl
noncomputable def oY (i:Nat):Option B->Option B->Option S->G->Option Out
 | some (.d v),some (.d k),some s,Γ=>(XJ s k v).map λs'=>.nx (Γ.set i s')
 | _,_,_,_=>none
@[simp] theorem Dk {i v k s}:oY i (some (.d v)) (some (.d k)) (some s) Γ=(XJ s k v).map λs'=>.nx (Γ.set i s'):=id rfl
@[simp] theorem DQ {i j z}:Zu i j z Γ=oY i (z Γ) (j Γ) Γ[i]? Γ:=by
 unfold Zu oY
 cases z Γ with
 | none=>rfl
 | some J=>
  cases J with
  | d v=>
   cases j Γ with
   | none=>rfl
   | some bk=>
    cases bk with
    | d k=>cases Γ[i]? <;>rfl
    | _=>rfl
  | _=>rfl
@[simp] theorem Eu {n u ds}:yQ n u (.tup ds) Γ=if ds.length=n then u ds Γ else none:=id rfl
@[simp] theorem D7:yK [] Γ=some Γ:=id rfl
@[simp] theorem DR {f g d r}:zA f g (d::r) Γ=(f d Γ).bind λj=>g r j:=id rfl
noncomputable def jH (j:Int):Bool:=decide (-(2^62)<=j) && decide (j<2^62)
noncomputable def r1I (j:Int):Option (List D):=if jH j=true then some (xk 0 j.toNat)else none
noncomputable def r1O (o:Option (List B)):Option (List D):=o.bind λbs=>match bs with
 | [b]=>b.int.bind r1I
 | _=>none
@[simp] theorem DS {j}:r1O (some [.d (.int j)])=r1I j:=id rfl
def AU(j:Int):(if-(2^62)<=j/\j<2^62 then some (xk 0 j.toNat)else none)=r1I j:=by
 unfold r1I jH
 by_cases h:-(2^62)<=j/\j<2^62
 ·rw[if_pos h,if_pos (by rw[decide_eq_true h.1,decide_eq_true h.2];rfl)]
 ·rw[if_neg h,if_neg λz=>h (by rw[G0,decide_eq_true_eq,decide_eq_true_eq]at z;exact z)]
@[simp] theorem Fe {fs}:xR1 fs Γ=r1O (fs Γ):=by
 unfold xR1 r1O
 cases fs Γ with
 | none=>rfl
 | some bs=>
  rw[FZ,FZ]
  match bs with
  | []=>rfl
  | [b]=>exact congrArg b.int.bind (funext AU)
  | _::_::_=>rfl
def vU{n:Nat}(h:n<1000000):r1I (n:Int)=some (xk 0 n):=by
 have j:-(2^62)<=(n:Int):=by omega
 have z:(n:Int)<2^62:=by omega
 have e:jH (n:Int)=true:=by unfold jH;rw[decide_eq_true j,decide_eq_true z];rfl
 unfold r1I
 rw[if_pos e,Il]
def Uc{h:G->Option B}{i j k:Int}(z:h Γ=some (.d (.int k))):ch3 mLe mLe h Γ (some (.d (.int i))) (some (.d (.int j)))=some (.d (.bl (decide (i<=j/\j<=k)))):=by
 unfold ch3
 rw[z]
 by_cases h1:i<=j <;>by_cases h2:j<=k <;>simp[h1,h2]
theorem uZ:∀(xs:List D),(∀x∈xs,x=.bl true)->(v6 xs).map (λbs=>D.bl (bs.all id))=some (.bl true)
 | [],_=>rfl
 | x::r,h=>by
  have j:=h x F9
  subst j
  have:=uZ r λy z=>h y (Gc _ z)
  show((v6 r).map _).map _=_
  cases e:v6 r with
  | none=>rw[e]at this;cases this
  | some bs=>rw[e]at this;simpa using this
def zV(h:ds.length=j)(e:f (zB n ds)=some (.rt d)):mir j n f ds=some d:=by unfold mir;rw[if_pos h,e]
end
structure OkD (n:Nat) (d:D):Prop where
 lay:(toP d).canLay0=true
 dep:(toP d).depth<=n
structure OkDs (n:Nat) (ds:List D):Prop where
 lay:Im (toPs ds)=true
 dep:LQ (toPs ds)<=n
theorem U3:∀{ds:List D},(∀d∈ds,OkD n d)->OkDs n ds
 | [],_=>⟨rfl,GI _⟩
 | d::r,h=>by
  have h1:=h d F9
  have h2:=U3 λx j=>h x (Gc _ j)
  refine⟨?_,?_⟩
  ·rw[toPs,Im,h1.lay,h2.lay];rfl
  ·rw[toPs,LQ];exact Nat.max_le.mpr ⟨h1.dep,h2.dep⟩
def OkD.int{n:Nat}{i:Int}:OkD n (.int i):=⟨by simp[toP,Ho],by simp[toP,IW]⟩
def OkD.str(h:Hn x=true):OkD n (.str x):=⟨by simp[toP,Ho,h],by simp[toP,IW]⟩
def OkD.tup(h:∀d∈ds,OkD n d):OkD (n+1) (.tup ds):=by
 have:=U3 h
 exact⟨by rw[toP,Ho];exact this.lay,by rw[toP,IW];exact M5 this.dep⟩
def OkD.lst(h:∀d∈ds,OkD n d):OkD (n+1) (.lst ds):=by
 have:=U3 h
 exact⟨by rw[toP,Ho];exact this.lay,by rw[toP,IW];exact M5 this.dep⟩
def OkD.scr{n:Nat}{ns:List Int}:OkD (n+1) (.scr ns):=by
 have h:∀ns:List Int,Im (ns.map PyData.int)=true/\LQ (ns.map PyData.int)=0:=λns=>by
  induction ns with
  | nil=>exact⟨rfl,rfl⟩
  | cons a r j=>simp[Im,LQ,Ho,IW,j]
 exact⟨by rw[toP,Ho];exact(h ns).1,by rw[toP,IW,(h ns).2];omega⟩
def OkD.mono(h:OkD n d)(k:n<=m):OkD m d:=⟨h.lay,Ge h.dep k⟩
def OkD.shp(h:OkD n d)(k:n<=64:=by decide):Gm (toP d)=true:=by
 unfold Gm
 rw[h.lay,decide_eq_true (Ge h.dep k)];rfl
mutual
theorem Y4:∀d:D,F8 (toP d) (toP d)=true
 | .non=>by simp[toP,F8]
 | .bl b=>by simp[toP,F8]
 | .int i=>by simp[toP,F8]
 | .str x=>by simp[toP,F8]
 | .scr ns=>by
  rw[toP,F8]
  induction ns with
  | nil=>rfl
  | cons a r j=>simp[Kq,F8,j]
 | .tup ds=>by rw[toP,F8];exact eqvAll_refl ds
 | .lst ds=>by rw[toP,F8];exact eqvAll_refl ds
 | .dK _ _=>by simp[toP,F8]
 | .dT _ _=>by simp[toP,F8]
theorem eqvAll_refl:∀ds:List D,Kq (toPs ds) (toPs ds)=true
 | []=>rfl
 | d::r=>by rw[toPs,Kq,Y4 d,eqvAll_refl r];rfl
end
def JS(z:OkD n x)(J:OkD n y)(k:n<=64:=by decide):mEq j (.d x) (.d y)=some (.bl (if j then !PyData.eqv (toP x) (toP y)else F8 (toP x) (toP y))):=by
 unfold mEq
 simp[Z2,z.shp k,J.shp k]
def um(j:OkD n x)(k:n<=64:=by decide):mEq true (.d x) (.d x)=some (.bl false):=by
 rw[JS j j k,Y4];rfl
def gC{ns:List Int}:mEq false (.d (.scr ns)) (.d (.lst []))=some (.bl (decide (ns=[]))):=by
 rw[JS (n:=1) OkD.scr (OkD.lst (by simp))]
 cases ns <;>simp[toP,toPs,F8,Kq]
def jI(J:OkD n x)(O:b.seq=some ds)(U:∀d∈ds,OkD n d)(k:n<=64:=by decide):mIn j (.d x) b=some (.bl (if j then !(ds.any λd=>F8 (toP d) (toP x))else ds.any λd=>F8 (toP d) (toP x))):=by
 have h1:(toPs ds).all Gm=true:=by
  rw[YX,GR]
  intro p Y
  obtain⟨d,z,rfl⟩:=FX.mp Y
  exact(U d z).shp k
 have h2:∀q,(toPs ds).any (λp=>F8 p q)=ds.any λd=>F8 (toP d) q:=λq=>by
  rw[YX,OW];rfl
 unfold mIn
 simp only[Z2,FZ,O,J.shp k,h1,h2,and_self,if_true]
def mF{a b c d:Int}:F8 (toP (.tup [.int a,.int b])) (toP (.tup [.int c,.int d]))=decide (a=c/\b=d):=by
 simp[toP,toPs,F8,Kq,OV]
theorem uo:∀(ds:List D) (I:Nat->G->Prop) (Γ:G),I 0 Γ->(∀k Γ (h:k<ds.length),I k Γ->∃g1 g2,t ds[k] Γ=some g1/\fb g1=some (.nx g2)/\I (k+1) g2)->∃g,x0 t fb ds Γ=some (.nx g)/\I ds.length g
 | [],I,Γ,j,_=>⟨Γ,rfl,j⟩
 | d::r,I,Γ,j,z=>by
  obtain⟨g1,g2,h1,h2,J⟩:=z 0 Γ (by simp) j
  obtain⟨g,O,U⟩:=uo (t:=t) (fb:=fb) r (λk=>I (k+1)) g2 J λk Γ h hi=>z (k+1) Γ (by simpa using h) hi
  refine⟨g,?_,U⟩
  unfold x0
  rw[show t d Γ=some g1 from h1,FZ,h2]
  exact O
theorem bL{z:Type}(j:z->D){t:D->G->Option G}{cond:G->Option Bool}{el:G->Option B}{Γ:G}:∀(ds:List D) (R:Nat->z->Prop),(∀k (h:k<ds.length),∃g y,t ds[k] Γ=some g/\cond g=some true/\el g=some (.d (j y))/\R k y)->
  ∃ys:List z,uX t cond el Γ ds=some (ys.map j)/\ys.length=ds.length/\∀k (h:k<ys.length),R k ys[k]
 | [],R,_=>⟨[],rfl,rfl,λk h=>absurd h (by simp)⟩
 | d::r,R,J=>by
  obtain⟨g,y,h1,h2,O,U⟩:=J 0 (by simp)
  obtain⟨ys,e,Y,Z⟩:=bL j (t:=t) (cond:=cond) (el:=el) (Γ:=Γ) r (λk=>R (k+1)) λk h=>J (k+1) (by simpa using h)
  refine⟨y::ys,?_,by simp[Y],λk h=>?_⟩
  ·unfold uX
   rw[show t d Γ=some g from h1,FZ,h2,FZ,if_pos rfl,O,FZ,JR,FZ,e]
   rfl
  ·cases k with
   | zero=>exact U
   | succ k=>exact Z k (by simpa using h)
def Y5{z:Type}(j:z->D){t:D->G->Option G}{cond:G->Option Bool}{el:G->Option B}{Γ:G}{ms:List (Option Nat)}{ds:List D}(R:Nat->z->Prop)(J:ds.length<=16777216)(O:∀k (h:k<ds.length),∃g y,t ds[k] (y8 ms Γ)=some g/\cond g=some true/\el g=some (.d (j y))/\R k y):
  ∃ys:List z,xV (some ds) ms t cond el Γ=some (ys.map j)/\ys.length=ds.length/\∀k (h:k<ys.length),R k ys[k]:=by
 obtain⟨ys,e,h⟩:=bL j ds R O
 exact⟨ys,by unfold xV;rw[FZ,if_pos (show ds.length<=Fv from J),e],h⟩
@[simp] theorem jJ {lo:Int} {n:Nat}:(xk lo n).length=n:=by simp[xk]
@[simp] theorem Co {lo:Int} {n k:Nat} {h:k<(xk lo n).length}:(xk lo n)[k]=.int (lo+k):=by simp[xk]
@[simp] theorem uI:(zP ds).length=ds.length:=by simp[zP]
@[simp] theorem ZP {ds:List D} {k:Nat} {h:k<(zP ds).length}:(zP ds)[k]=.tup [.int k,ds[k]'(by simpa using h)]:=by
 have:k<ds.length:=by simpa using h
 simp[zP,FM,this]
def xa{J:Type}(j:J->D){t:D->G->Option G}{cond:G->Option Bool}{el:G->Option B}{Γ:G}{ms:List (Option Nat)}{ds:List D}(zs:List J)(z:zs.length=ds.length)(O:ds.length<=16777216)(U:∀k (h:k<ds.length),∃g,t ds[k] (y8 ms Γ)=some g/\cond g=some true/\el g=some (.d (j (zs[k]'(by rw[z];exact h))))):
  xV (some ds) ms t cond el Γ=some (zs.map j):=by
 obtain⟨ys,h1,h2,Y⟩:=Y5 j (t:=t) (cond:=cond) (el:=el) (Γ:=Γ) (ms:=ms) (ds:=ds) (λk y=>∃h:k<zs.length,y=zs[k]) O λk h=>by
  obtain⟨g,a,b,c⟩:=U k h
  exact⟨g,_,a,b,c,by rw[z];exact h,rfl⟩
 have:ys=zs:=IG (by rw[h2,z]) λk a b=>(Y k a).2
 rw[h1,this]
theorem Je(I:Nat->G->Prop)(Fin:G->Prop)(N:Nat)(step:∀k Γ,I k Γ->k<=N/\((t Γ=some false/\Fin Γ)\/(t Γ=some true/\∃j,b Γ=some (.nx j)/\I (k+1) j))):∀(z k:Nat) (Γ:G),N<z+k->I k Γ->∃j,xt t b z Γ=some (.nx j)/\Fin j
 | 0,k,Γ,hn,hi=>by have:=(step k Γ hi).1;omega
 | z+1,k,Γ,hn,hi=>by
  unfold xt
  rcases(step k Γ hi).2 with⟨J,O⟩|⟨J,j,Y,U⟩
  ·exact⟨Γ,by rw[J];rfl,O⟩
  ·obtain⟨g,Z,O⟩:=Je I Fin N step z (k+1) j (by omega) U
   refine⟨g,?_,O⟩
   rw[J,FZ,if_pos rfl,Y]
   exact Z
end DD
namespace Pu
section
variable {α:Type} (f:α->Option α)
noncomputable def go:Nat->α->Option α
 | 0,a=>some a
 | k+1,a=>(f a).bind (go k)
def bM(k:Nat)(a:α):go f (k+1) a=(go f k a).bind f:=by
 induction k generalizing a with
 | zero=>simp[go]
 | succ k j=>
  show(f a).bind (go f (k+1))=((f a).bind (go f k)).bind f
  cases f a with
  | none=>rfl
  | some b=>exact j b
def XX(j k:Nat)(a:α):go f (j+k) a=(go f j a).bind (go f k):=by
 induction j generalizing a with
 | zero=>simp[go]
 | succ j z=>
  rw[Nat.succ_add]
  show(f a).bind (go f (j+k))=((f a).bind (go f j)).bind (go f k)
  cases f a with
  | none=>rfl
  | some b=>exact z b
def XY(h:go f j a=none)(z:j<=k):go f k a=none:=by
 obtain⟨d,rfl⟩:=Nat.le.dest z
 rw[XX,h];rfl
def bN(J:i<j)(h1:go f i a=some b)(h2:go f j a=some b):∀k,go f k a≠none:=by
 have O:go f (j-i) b=some b:=by
  have:=XX f i (j-i) a
  rw[show i+(j-i)=j by omega,h1,h2]at this
  exact this.symm
 have all:∀n,go f (n*(j-i)) b=some b:=λn=>by
  induction n with
  | zero=>simp[go]
  | succ n U=>rw[Lw,XX,U];exact O
 intro k Y
 have z:go f (i+(k+1)*(j-i)) a=some b:=by rw[XX,h1];exact all (k+1)
 have:k<=i+(k+1)*(j-i):=by
  have:(k+1)*1<=(k+1)*(j-i):=Nat.mul_le_mul_left _ (by omega)
  omega
 rw[XY f Y this]at z
 cases z
end
theorem yF{α:Type} [DecidableEq α]:∀(xs ys:List α),xs.Nodup->(∀x∈xs,x∈ys)->xs.length<=ys.length
 | [],ys,_,_=>GI _
 | x::xs,ys,j,sub=>by
  have J:=sub x F9
  rw[GX]at j
  have:=yF xs (ys.erase x) j.2 λz O=>(OI (λe:z=x=>j.1 (by rw[<-e];exact O))).mpr (sub z (Gc _ O))
  rw[OJ J]at this
  have:0<ys.length:=OK J
  simp only[Gu]
  omega
def sI{α:Type} [DecidableEq α] (f:α->Option α) (S:List α) (a:α) (ha:a∈S) (hs:∀x∈S,∀y,f x=some y->y∈S) (h:go f S.length a≠none):∀k,go f k a≠none:=by
 have inS:∀k b,go f k a=some b->b∈S:=λk=>by
  induction k with
  | zero=>intro b e;simp[go]at e;exact e▸ha
  | succ k ih=>
   intro b e
   rw[bM]at e
   cases h2:go f k a with
   | none=>rw[h2]at e;cases e
   | some c=>rw[h2]at e;exact hs c (ih c h2) b e
 apply K1
 intro hc
 have hc:∃k,go f k a=none:=K1 λz=>hc λk hk=>z ⟨k,hk⟩
 obtain⟨k,hk⟩:=hc
 have inj:∀i j b,i<j->go f i a=some b->go f j a=some b->False:=λi j b hij h1 h2=>bN f hij h1 h2 k hk
 have all:∀i,i<=S.length->∃b,go f i a=some b:=λi hi=>by
  cases e:go f i a with
  | none=>exact absurd (XY f e hi) h
  | some b=>exact⟨b,rfl⟩
 have mk:∀n,n<=S.length+1->∃xs:List α,xs.length=n/\xs.Nodup/\∀x∈xs,∃i,i<n/\go f i a=some x:=λn=>by
  induction n with
  | zero=>exact λ_=>⟨[],rfl,MT,λx h=>nomatch h⟩
  | succ n ih=>
   intro hn
   obtain⟨xs,h1,h2,h3⟩:=ih (by omega)
   obtain⟨b,hb⟩:=all n (by omega)
   refine⟨b::xs,by simp[h1],GX.mpr ⟨λhm=>?_,h2⟩,λx hx=>?_⟩
   ·obtain⟨i,hi,e⟩:=h3 b hm
    exact inj i n b hi e hb
   ·rcases FL.mp hx with rfl|hx
    ·exact⟨n,by omega,hb⟩
    ·obtain⟨i,hi,e⟩:=h3 x hx
     exact⟨i,by omega,e⟩
 obtain⟨xs,h1,h2,h3⟩:=mk (S.length+1) (FA _)
 have:=yF xs S h2 λx hx=>by
  obtain⟨i,_,e⟩:=h3 x hx
  exact inS i x e
 omega
section
variable {α ρ:Type} (f:α->Sum ρ α)
noncomputable def nxt (a:α):Option α:=match f a with
 | .inl _=>none
 | .inr b=>some b
noncomputable def run:Nat->α->Sum ρ α
 | 0,a=>.inr a
 | k+1,a=>match f a with
  | .inl x=>.inl x
  | .inr b=>run k b
noncomputable def xW (a:α) (x:ρ):Prop:=∃k,run f k a=.inl x
def wa(h:f a=.inl x):run f (k+1) a=.inl x:=by simp[run,h]
def yT(h:f a=.inr b):run f (k+1) a=run f k b:=by simp[run,h]
def vn(h:f a=.inl y):xW f a x↔x=y:=by
 constructor
 ·rintro⟨k,e⟩
  cases k with
  | zero=>cases e
  | succ k=>rw[wa f h]at e;cases e;rfl
 ·rintro rfl;exact⟨1,wa f h⟩
def vo(h:f a=.inr b):xW f a x↔xW f b x:=by
 constructor
 ·rintro⟨k,e⟩
  cases k with
  | zero=>cases e
  | succ k=>rw[yT f h]at e;exact⟨k,e⟩
 ·rintro⟨k,e⟩;exact⟨k+1,by rw[yT f h];exact e⟩
def bO:xW f a x->xW f a y->x=y:=by
 rintro⟨k,e⟩ h
 induction k generalizing a with
 | zero=>cases e
 | succ k j=>
  cases q:f a with
  | inl z=>
   rw[wa f q]at e;cases e
   exact((vn f q).mp h).symm
  | inr b=>
   rw[yT f q]at e
   exact j e ((vo f q).mp h)
open Classical in
noncomputable def sem (rd:ρ) (a:α):ρ:=if h:∃x,xW f a x then h.choose else rd
variable {f} {rd:ρ}
def xc(h:xW f a x):sem f rd a=x:=by
 have z:∃x,xW f a x:=⟨x,h⟩
 unfold sem
 rw[dif_pos z]
 exact bO f z.choose_spec h
def xm(h:∀x,¬xW f a x):sem f rd a=rd:=by
 unfold sem
 rw[dif_neg λj=>(by obtain⟨x,z⟩:=j;exact h x z)]
def ZB(h:f a=.inl x):sem f rd a=x:=xc ((vn f h).mpr rfl)
def ZC(h:f a=.inr b):sem f rd a=sem f rd b:=by
 by_cases z:∃x,xW f b x
 ·obtain⟨x,z⟩:=z
  rw[xc z,xc ((vo f h).mpr z)]
 ·rw[xm λx q=>z ⟨x,q⟩,xm λx q=>z ⟨x,(vo f h).mp q⟩]
def mG(h:run f k a=.inl x):go (nxt f) k a=none:=by
 induction k generalizing a with
 | zero=>cases h
 | succ k j=>
  cases q:f a with
  | inl y=>simp[go,nxt,q]
  | inr b=>
   rw[yT f q]at h
   simp[go,nxt,q,j h]
def mH(h:∀k,go (nxt f) k a≠none):sem f rd a=rd:=xm λx j=>by obtain⟨k,e⟩:=j;exact h k (mG e)
noncomputable def ZQ [DecidableEq α] (f:α->Sum ρ α) (rd:ρ):Nat->List α->α->Option ρ
 | 0,_,_=>none
 | n+1,met,a=>if a∈met then some rd else match f a with
  | .inl x=>some x
  | .inr b=>ZQ f rd n (met++[a]) b
theorem Jg [DecidableEq α] (S:List α) (Y:∀x∈S,∀y,f x=.inr y->y∈S):∀(n:Nat) (met:List α) (a0 a:α),a∈S->met.Nodup->(∀x∈met,x∈S)->go (nxt f) met.length a0=some a->(∀x∈met,∃i,i<met.length/\go (nxt f) i a0=some x)->S.length<n+met.length->ZQ f rd n met a=some (sem f rd a)
 | 0,met,a0,a,J,O,sub,j,U,hn=>by
  have:=yF met S O sub
  omega
 | n+1,met,a0,a,J,O,sub,j,U,hn=>by
  unfold ZQ
  by_cases h:a∈met
  ·rw[if_pos h]
   obtain⟨i,hi,e⟩:=U a h
   have:=bN (nxt f) hi e j
   rw[mH λk z=>this (met.length+k) (by rw[XX,j];exact z)]
  ·rw[if_neg h]
   cases q:f a with
   | inl x=>rw[ZB q]
   | inr b=>
    have hb:=Y a J b q
    simp only
    rw[ZC q]
    refine Jg S Y n (met++[a]) a0 b hb ?_ ?_ ?_ ?_ ?_
    ·rw[G3]
     refine⟨O,by simp,λx hx y Z=>?_⟩
     simp at Z;subst Z
     exact λz=>h (z▸hx)
    ·intro x hx
     rcases Gk.mp hx with hx|hx
     ·exact sub x hx
     ·simp at hx;exact hx▸J
    ·rw[Gb,GA,bM,j]
     simp[nxt,q]
    ·intro x hx
     rw[Gb,GA]
     rcases Gk.mp hx with hx|hx
     ·obtain⟨i,hi,e⟩:=U x hx;exact⟨i,by omega,e⟩
     ·simp at hx;exact⟨met.length,by omega,by rw[hx];exact j⟩
    ·rw[Gb,GA];omega
def Ud [DecidableEq α] (S:List α) (j:∀x∈S,∀y,f x=.inr y->y∈S) (z:a∈S) (hn:S.length<n):ZQ f rd n [] a=some (sem f rd a) :=
 Jg S j n [] a a z MT (λ_ h=>nomatch h) rfl (λ_ h=>nomatch h) (by simpa using hn)
noncomputable def JT (f:α->Sum ρ α) (rd:ρ):Nat->α->ρ
 | 0,_=>rd
 | n+1,a=>match f a with
  | .inl x=>x
  | .inr b=>JT f rd n b
theorem XZ:∀(n:Nat) (a:α),JT f rd n a=match run f n a with
  | .inl x=>x
  | .inr _=>rd
 | 0,a=>rfl
 | n+1,a=>by
  unfold JT run
  cases q:f a with
  | inl x=>rfl
  | inr b=>exact XZ n b
def mJ [DecidableEq α] (S:List α) (J:∀x∈S,∀y,f x=.inr y->y∈S) (O:a∈S):JT f rd S.length a=sem f rd a:=by
 rw[XZ]
 cases q:run f S.length a with
 | inl x=>exact(xc ⟨_,q⟩).symm
 | inr b=>
  have U:go (nxt f) S.length a≠none:=λz=>by
   have:∀(k:Nat) (a b:α),run f k a=.inr b->go (nxt f) k a=some b:=λk=>by
    induction k with
    | zero=>intro a b e;simp[run]at e;simp[go,e]
    | succ k Y=>
     intro a b e
     cases q:f a with
     | inl y=>rw[wa f q]at e;cases e
     | inr c=>rw[yT f q]at e;simp[go,nxt,q];exact Y c b e
   rw[this _ _ _ q]at z;cases z
  exact(mH (sI (nxt f) S a O (λx Z y j=>J x Z y (by
   unfold nxt at j
   split at j
   ·cases j
   ·cases j;assumption)) U)).symm
end
inductive Mv (τ:Type) where
 | fin (s:τ)|go (r:Nat) (right:Bool)
inductive Res (τ:Type) where
 | fin (s:τ)|out (r:Nat)
 deriving DecidableEq
section
variable {τ:Type} (mv:Nat->Nat->Mv τ) (rd:τ)
noncomputable def col (w:List Nat) (p:Nat):Nat:=if p=0 then 0 else w.getD (p-1) 0+1
noncomputable def zY (w:List Nat) (c:Nat×Nat):Sum (Res τ) (Nat×Nat):=if w.length<c.2 then .inl (.out c.1)else match mv c.1 (col w c.2)with
 | .fin s=>.inl (.fin s)
 | .go r true=>.inr (r,c.2+1)
 | .go r false=>.inr (r,c.2-1)
noncomputable def wC (w:List Nat) (c:Nat×Nat):Res τ:=sem (zY mv w) (.fin rd) c
def oZ(h:p<=w.length):col (w++[a]) p=col w p:=by
 unfold col
 split
 ·rfl
 ·rw[FM,FM,GK (by omega)]
def o0:col (w++[a]) (w.length+1)=a+1:=by
 unfold col
 simp[FM]
def u0(h:c.2<=w.length):zY mv (w++[a]) c=zY mv w c:=by
 unfold zY
 rw[Gb,GA,if_neg (by omega),if_neg (by omega),oZ h]
def Z7(h:zY mv w c=.inr d):c.2<=w.length/\d.2<=c.2+1:=by
 unfold zY at h
 split at h
 ·cases h
 ·split at h
  ·cases h
  ·cases h;exact⟨by omega,FA _⟩
  ·cases h;exact⟨by omega,by show c.2-1<=c.2+1;omega⟩
def mK(h:zY mv w c=.inl (.out b)):w.length<c.2/\c.1=b:=by
 unfold zY at h
 split at h
 ·cases h;exact⟨by assumption,rfl⟩
 ·split at h <;>cases h
theorem bP{w:List Nat}{a:Nat}{s:τ}:∀{k:Nat} {c:Nat×Nat},run (zY mv w) k c=.inl (.fin s)->xW (zY mv (w++[a])) c (.fin s)
 | 0,_,h=>by cases h
 | k+1,c,h=>by
  cases q:zY mv w c with
  | inl x=>
   rw[wa _ q]at h;cases h
   have hp:c.2<=w.length:=by
    apply K1
    intro z
    unfold zY at q
    rw[if_pos (by omega)]at q;cases q
   exact(vn _ (by rw[u0 mv hp];exact q)).mpr rfl
  | inr d=>
   rw[yT _ q]at h
   exact(vo _ (by rw[u0 mv (Z7 mv q).1];exact q)).mpr (bP h)
theorem bQ{w:List Nat}{a b:Nat}:∀{k:Nat} {c:Nat×Nat},c.2<=w.length+1->run (zY mv w) k c=.inl (.out b)->
  ∃j,∀n x,(run (zY mv (w++[a])) n (b,w.length+1)=.inl x->run (zY mv (w++[a])) (j+n) c=.inl x)/\(run (zY mv (w++[a])) n c=.inl x->∃m,m<=n/\run (zY mv (w++[a])) m (b,w.length+1)=.inl x)
 | 0,_,_,h=>by cases h
 | k+1,c,U,h=>by
  cases q:zY mv w c with
  | inl x=>
   rw[wa _ q]at h;cases h
   obtain⟨h1,h2⟩:=mK mv q
   have:c=(b,w.length+1):=by
    obtain⟨c1,Y⟩:=c
    simp only at h1 h2 U
    rw[h2,show Y=w.length+1 by omega]
   subst this
   exact⟨0,λn x=>⟨λz=>by rw[G4];exact z,λz=>⟨n,FA _,z⟩⟩⟩
  | inr d=>
   rw[yT _ q]at h
   have Z:=Z7 mv q
   obtain⟨j,J⟩:=bQ (by omega) h
   have O:zY mv (w++[a]) c=.inr d:=by rw[u0 mv Z.1];exact q
   refine⟨j+1,λn x=>⟨λz=>?_,λz=>?_⟩⟩
   ·rw[show j+1+n=(j+n)+1 by omega,yT _ O];exact(J n x).1 z
   ·cases n with
    | zero=>cases z
    | succ n=>
     rw[yT _ O]at z
     obtain⟨m,hm,e⟩:=(J n x).2 z
     exact⟨m,by omega,e⟩
theorem Ue:∀{k:Nat} {c:Nat×Nat},c.2<=w.length+1->run (zY mv (w++[a])) k c=.inl x->∃y,xW (zY mv w) c y
 | 0,_,_,h=>by cases h
 | k+1,c,J,h=>by
  by_cases j:c.2<=w.length
  ·cases q:zY mv w c with
   | inl y=>exact⟨y,(vn _ q).mpr rfl⟩
   | inr d=>
    rw[yT _ (show zY mv (w++[a]) c=.inr d by rw[u0 mv j];exact q)]at h
    have:=Z7 mv q
    obtain⟨y,z⟩:=Ue (by omega) h
    exact⟨y,(vo _ q).mpr z⟩
  ·exact⟨.out c.1,(vn _ (by unfold zY;rw[if_pos (by omega)])).mpr rfl⟩
def Y6(w:List Nat)(a:Nat)(c:Nat×Nat)(U:c.2<=w.length+1):
  (∃s,wC mv rd w c=.fin s/\wC mv rd (w++[a]) c=.fin s/\∀n x,run (zY mv (w++[a])) n c=.inl x->True)\/
  (∃b,wC mv rd w c=.out b/\wC mv rd (w++[a]) c=wC mv rd (w++[a]) (b,w.length+1)/\∀n x,run (zY mv (w++[a])) n c=.inl x->∃m,m<=n/\run (zY mv (w++[a])) m (b,w.length+1)=.inl x):=by
 by_cases z:∃x,xW (zY mv w) c x
 ·obtain⟨x,z⟩:=z
  have Y:=z
  obtain⟨k,Z⟩:=z
  cases x with
  | fin s=>exact .inl ⟨s,xc Y,xc (bP mv Z),λ_ _ _=>trivial⟩
  | out b=>
   obtain⟨j,O⟩:=bQ mv (a:=a) U Z
   refine .inr ⟨b,xc Y,?_,λn x h=>(O n x).2 h⟩
   unfold wC
   by_cases y:∃x,xW (zY mv (w++[a])) (b,w.length+1) x
   ·obtain⟨x,y⟩:=y
    rw[xc y]
    obtain⟨n,hn⟩:=y
    exact xc ⟨j+n,(O n x).1 hn⟩
   ·rw[xm (λx q=>y ⟨x,q⟩:∀x,¬xW (zY mv (w++[a])) (b,w.length+1) x)]
    refine xm λx ⟨n,q⟩=>?_
    obtain⟨m,_,e⟩:=(O n x).2 q
    exact y ⟨x,m,e⟩
 ·refine .inl ⟨rd,xm λx q=>z ⟨x,q⟩,xm λx J=>(by obtain⟨k,q⟩:=J;exact z (Ue mv U q)),λ_ _ _=>trivial⟩
noncomputable def hop (j:Nat->Mv τ) (done:Nat->Res τ) (r:Nat):Sum (Res τ) Nat:=match j r with
 | .fin s=>.inl (.fin s)
 | .go z true=>.inl (.out z)
 | .go z false=>match done z with
  | .fin s=>.inl (.fin s)
  | .out b=>.inr b
noncomputable abbrev wY (w:List Nat) (a:Nat):Nat->Sum (Res τ) Nat:=hop (λr=>mv r (a+1)) (λr=>wC mv rd w (r,w.length))
theorem Uf(w:List Nat)(a r:Nat):zY mv (w++[a]) (r,w.length+1)=match mv r (a+1)with
 | .fin s=>.inl (.fin s)
 | .go j true=>.inr (j,w.length+2)
 | .go j false=>.inr (j,w.length):=by
 unfold zY
 rw[Gb,GA,if_neg (by simp),o0]
 rfl
def pb(h:wY mv rd w a r=.inl x):wC mv rd (w++[a]) (r,w.length+1)=x:=by
 have st:=Uf mv w a r
 unfold wY hop at h
 simp only at h
 split at h
 ·rename_i s e;rw[e]at st;cases h;exact ZB st
 ·rename_i j e
  rw[e]at st;cases h
  unfold wC
  rw[ZC st]
  exact ZB (by unfold zY;rw[if_pos (by simp)])
 ·rename_i j e
  rw[e]at st
  unfold wC
  rw[ZC st]
  rcases Y6 mv rd w a (j,w.length) (by simp)with⟨s,h1,h2,_⟩|⟨b,h1,h2,_⟩
  ·rw[h1]at h;cases h;exact h2
  ·rw[h1]at h;cases h
def mL(h:wY mv rd w a r=.inr b):wC mv rd (w++[a]) (r,w.length+1)=wC mv rd (w++[a]) (b,w.length+1)/\∀n x,run (zY mv (w++[a])) n (r,w.length+1)=.inl x->∃m,m<n/\run (zY mv (w++[a])) m (b,w.length+1)=.inl x:=by
 have st:=Uf mv w a r
 unfold wY hop at h
 simp only at h
 split at h
 ·cases h
 ·cases h
 ·rename_i j e
  rw[e]at st
  rcases Y6 mv rd w a (j,w.length) (by simp)with⟨s,h1,h2,_⟩|⟨O,h1,h2,J⟩
  ·rw[h1]at h;cases h
  ·rw[h1]at h;cases h
   refine⟨?_,λn x z=>?_⟩
   ·rw[<-h2];exact ZC st
   ·cases n with
    | zero=>cases z
    | succ n=>
     rw[yT _ st]at z
     obtain⟨m,U,q⟩:=J n x z
     exact⟨m,by omega,q⟩
def U4(w:List Nat)(a r:Nat):sem (wY mv rd w a) (.fin rd) r=wC mv rd (w++[a]) (r,w.length+1):=by
 by_cases z:∃x,xW (wY mv rd w a) r x
 ·obtain⟨x,z⟩:=z
  rw[xc z]
  obtain⟨k,J⟩:=z
  induction k generalizing r with
  | zero=>cases J
  | succ k O=>
   cases q:wY mv rd w a r with
   | inl y=>rw[wa _ q]at J;cases J;exact(pb mv rd q).symm
   | inr b=>rw[yT _ q]at J;rw[(mL mv rd q).1];exact O b J
 ·rw[xm λx q=>z ⟨x,q⟩]
  symm
  refine xm λx ⟨n,hn⟩=>?_
  have:∀n r,(¬∃x,xW (wY mv rd w a) r x)->run (zY mv (w++[a])) n (r,w.length+1)=.inl x->False:=λn=>by
   induction n using Kr with
   | ind n O=>
    intro r U Y
    cases q:wY mv rd w a r with
    | inl y=>exact U ⟨y,(vn _ q).mpr rfl⟩
    | inr b=>
     obtain⟨m,Z,e⟩:=(mL mv rd q).2 n x Y
     exact O m Z b (λj=>(by obtain⟨y,hy⟩:=j;exact U ⟨y,(vo _ q).mpr hy⟩)) e
  exact this n r z hn
theorem u5(w:List Nat)(a:Nat):wC mv rd (w++[a]) (0,0)=match wC mv rd w (0,0)with
 | .fin s=>.fin s
 | .out b=>wC mv rd (w++[a]) (b,w.length+1):=by
 rcases Y6 mv rd w a (0,0) (by simp)with⟨s,h1,h2,_⟩|⟨b,h1,h2,_⟩
 ·rw[h1,h2]
 ·rw[h1,h2]
end
noncomputable def U5 (n m:Nat):List (Nat×Nat):=(Fy (n*m)).map λi=>(i/m,i%m)
def uq:(r,p)∈U5 n m↔r<n/\p<m:=by
 unfold U5
 rw[FX]
 constructor
 ·rintro⟨i,hi,e⟩
  rw[Gh]at hi
  have j:0<m:=by
   apply OX
   rintro rfl
   simp at hi
  cases e
  exact⟨OY (by rw[IF];exact hi),LR _ j⟩
 ·rintro⟨h1,h2⟩
  refine⟨r*m+p,Gh.mpr ?_,?_⟩
  ·calc r*m+p<r*m+m:=by omega
    _=(r+1)*m:=by rw[Lw]
    _<=n*m:=K2 _ h1
  ·have j:0<m:=by omega
   rw[IF,OZ j,O0 h2,O1,O2 h2];rfl
@[simp] theorem bR:(U5 n m).length=n*m:=by simp[U5]
noncomputable def vJ {α ρ j:Type} [DecidableEq α] (f:α->Sum ρ α) (onMet:List α->α->j) (onEnd:List α->ρ->j):Nat->List α->α->Option j
 | 0,_,_=>none
 | n+1,met,a=>if a∈met then some (onMet met a)else match f a with
  | .inl x=>some (onEnd met x)
  | .inr b=>vJ f onMet onEnd n (met++[a]) b
theorem Ug{α ρ j:Type} [DecidableEq α] {f:α->Sum ρ α} {onMet:List α->α->j} {onEnd:List α->ρ->j} {rd:ρ}:∀{n:Nat} {met:List α} {a:α} {x:ρ},ZQ f rd n met a=some x->∃y,vJ f onMet onEnd n met a=some y
 | 0,_,_,_,h=>by cases h
 | n+1,met,a,x,h=>by
  unfold ZQ at h
  unfold vJ
  by_cases z:a∈met
  ·rw[if_pos z];exact⟨_,rfl⟩
  ·rw[if_neg z]at h ⊢
   cases q:f a with
   | inl y=>exact⟨_,rfl⟩
   | inr b=>
    rw[q]at h
    exact Ug h
end Pu
namespace Hop
def yr(A:Nat)(δ1 δ2:Nat->Nat->Nat)(g1 g2:Nat->Bool)(s t:Nat):Prop:=∀w:List Nat,(∀a∈w,a<A)->g1 (walk δ1 s w)=g2 (walk δ2 t w)
structure Canon (A m:Nat) (δ:Nat->Nat->Nat) (g:Nat->Bool):Prop where
 pos:0<m
 lt:∀a s,a<A->s<m->δ a s<m
 ap:∀s t,s<m->t<m->yr A δ δ g g s t->s=t
 met:∀k,0<k->k<m->∃j a,j<k/\a<A/\δ a j=k/\∀j' a',a'<A->(j'<j\/(j'=j/\a'<a))->δ a' j'<k
section
variable {A m1 m2:Nat} {δ1 δ2 δ3:Nat->Nat->Nat} {g1 g2 g3:Nat->Bool}
def yr.symm(h:yr A δ1 δ2 g1 g2 s t):yr A δ2 δ1 g2 g1 t s:=λw j=>(h w j).symm
def yr.trans(h:yr A δ1 δ2 g1 g2 s t)(h':yr A δ2 δ3 g2 g3 t u):yr A δ1 δ3 g1 g3 s u:=λw j=>(h w j).trans (h' w j)
def yr.step(h:yr A δ1 δ2 g1 g2 s t)(z:a<A):yr A δ1 δ2 g1 g2 (δ1 a s) (δ2 a t):=λw J=>h (a::w) λb j=>by
 rcases FL.mp j with rfl|j
 ·exact z
 ·exact J b j
def mM{j i c a:Nat}(q:¬(j<i\/(j=i/\c<a)))(z:j<i\/(j=i/\c<a+1)):j=i/\c=a:=by omega
def mN{j i c a:Nat}(z:j<i\/(j=i/\c<a)):j<i\/(j=i/\c<a+1):=z.imp id λh=>⟨h.1,KO h.2⟩
def bS{j i n:Nat}{p:Prop}(z:j<i\/(j=i/\p))(h:i<n):j<n:=z.elim (λq=>GT q h) λq=>q.1▸h
def sJ{j i c a:Nat}(q:¬(j<i\/(j=i/\c<a)))(r:¬(i<j\/(i=j/\a<c))):j=i/\c=a:=by omega
def bT(c1:Canon A m1 δ1 g1)(c2:Canon A m2 δ2 g2)(h:yr A δ1 δ2 g1 g2 0 0):∀k,k<m1->k<m2/\yr A δ1 δ2 g1 g2 k k:=by
 intro k
 induction k using Kr with
 | ind k ih=>
  intro z
  by_cases h0:k=0
  ·subst h0;exact⟨c2.pos,h⟩
  have hp:=OX h0
  obtain⟨j,a,hj,ha,e,mn⟩:=c1.met k hp z
  obtain⟨aa,aj⟩:=ih j hj (GT hj z)
  have st:=aj.step ha
  rw[e]at st
  have ht:=c2.lt a j ha aa
  have key:δ2 a j=k:=by
   rcases LU (δ2 a j) k with q|q|q
   ·obtain⟨_,ai⟩:=ih _ q (GT q z)
    exact(c1.ap k _ z (GT q z) (st.trans ai.symm)).symm
   ·exact q
   ·exfalso
    obtain⟨J,a2,O,U,e2,ab⟩:=c2.met k hp (GT q ht)
    obtain⟨ae,ac⟩:=ih J O (GT O z)
    by_cases Y:j<J\/(j=J/\a<a2)
    ·exact O3 q (ab j a ha Y)
    by_cases Z:J<j\/(J=j/\a2<a)
    ·have hi:=mn J a2 U Z
     obtain⟨ad,ai⟩:=ih _ hi (GT hi z)
     have s2:=ac.step U
     rw[e2]at s2
     have:=c2.ap _ k ad (GT q ht) (ai.symm.trans s2)
     rw[this]at hi
     exact Gy _ hi
    ·obtain⟨ej,ea⟩:=sJ Y Z
     subst ej;subst ea
     rw[e2]at q
     exact Gy _ q
  rw[key]at st ht
  exact⟨ht,st⟩
def pd(z:Canon A m1 δ1 g1)(j:Canon A m2 δ2 g2)(h:yr A δ1 δ2 g1 g2 0 0):m1=m2/\(∀a s,a<A->s<m1->δ1 a s=δ2 a s)/\∀s,s<m1->g1 s=g2 s:=by
 have J:=bT z j h
 have U:=bT j z h.symm
 refine⟨?_,λa s Y O=>?_,λs O=>(J s O).2 [] (by simp)⟩
 ·have p1:=z.pos
  have p2:=j.pos
  have q1:=(J (m1-1) (by omega)).1
  have q2:=(U (m2-1) (by omega)).1
  omega
 ·obtain⟨Z,as⟩:=J s O
  have st:=as.step Y
  have hi:=z.lt a s Y O
  obtain⟨aa,ai⟩:=J _ hi
  exact j.ap _ _ aa (j.lt a s Y Z) (ai.symm.trans st)
end
structure Kept (n:Nat) (part:Nat->Nat) (kept:List Nat) (num:Nat->Nat):Prop where
 lt:∀i,i<kept.length->kept.getD i 0<n
 up:∀i j,i<j->j<kept.length->kept.getD i 0<kept.getD j 0
 nlt:∀s,s<n->num s<kept.length
 at_:∀s,s<n->part (kept.getD (num s) 0)=part s
 le:∀s,s<n->kept.getD (num s) 0<=s
 one:∀s t,s<n->t<n->part s=part t->num s=num t
 self:∀i,i<kept.length->num (kept.getD i 0)=i
section
variable {n A:Nat} {δ:Nat->Nat->Nat} {g:Nat->Bool} {part:Nat->Nat} {kept:List Nat} {num:Nat->Nat}
def Met(A m:Nat)(δ:Nat->Nat->Nat):Prop:=∀k,0<k->k<m->∃j a,j<k/\a<A/\δ a j=k/\∀z J,J<A->(z<j\/(z=j/\J<a))->δ J z<k
def Jh(hn:0<n)(K:Kept n part kept num):num 0=0/\0<kept.length/\kept.getD 0 0=0:=by
 have h1:=K.nlt 0 hn
 have h2:=K.le 0 hn
 have J:0<kept.length:=by omega
 have j:num 0=0:=by
  by_cases z:num 0=0
  ·exact z
  ·have:=K.up 0 (num 0) (by omega) h1
   omega
 rw[j]at h2
 exact⟨j,J,by omega⟩
def AV(K:Kept n part kept num)(j:s<n)(z:k<kept.length)(h:s<kept.getD k 0):num s<k:=by
 have h1:=K.le s j
 rcases LU (num s) k with q|q|q
 ·exact q
 ·rw[q]at h1;omega
 ·have:=K.up k (num s) q (K.nlt s j);omega
def eL(P:Nat->Nat->Prop) [∀i j,Decidable (P i j)] (A:Nat):∀m,(∃j a,j<m/\a<A/\P j a)->∃j a,j<m/\a<A/\P j a/\∀Y J,J<A->(Y<j\/(Y=j/\J<a))->¬P Y J:=by
 have O:∀j b,(∃a,a<b/\P j a)->∃a,a<b/\P j a/\∀J,J<a->¬P j J:=by
  intro j b
  induction b with
  | zero=>rintro⟨a,h,_⟩;omega
  | succ b ih=>
   rintro⟨a,h,hp⟩
   by_cases q:∃a,a<b/\P j a
   ·obtain⟨a,h1,h2,h3⟩:=ih q
    exact⟨a,by omega,h2,h3⟩
   ·have:a=b:=by
     rcases IH a b with z|z
     ·exact absurd ⟨a,z,hp⟩ q
     ·omega
    subst this
    exact⟨a,by omega,hp,λJ U z=>q ⟨J,U,z⟩⟩
 intro m
 induction m with
 | zero=>rintro⟨j,a,h,_⟩;omega
 | succ m ih=>
  rintro⟨j,a,h1,h2,h3⟩
  by_cases q:∃j a,j<m/\a<A/\P j a
  ·obtain⟨j,a,q1,q2,q3,q4⟩:=ih q
   exact⟨j,a,by omega,q2,q3,q4⟩
  ·have hj:j=m:=by
    rcases IH j m with z|z
    ·exact absurd ⟨j,a,z,h2,h3⟩ q
    ·omega
   subst hj
   obtain⟨a,a1,a2,a3⟩:=O j A ⟨a,h2,h3⟩
   refine⟨j,a,by omega,a1,a2,λY J U Z z=>?_⟩
   rcases Z with Z|⟨rfl,Z⟩
   ·exact q ⟨Y,J,Z,U,z⟩
   ·exact a3 J Z z
def Uh(z:∀a s,a<A->s<n->δ a s<n)(U:∀s t,s<n->t<n->(part s=part t↔yr A δ δ g g s t))(K:Kept n part kept num):
  ∀s,s<n->yr A (λa i=>num (δ a (kept.getD i 0))) δ (λi=>g (kept.getD i 0)) g (num s) s:=by
 have key:∀(w:List Nat) (s:Nat),s<n->(∀a∈w,a<A)->g (kept.getD (walk (λa i=>num (δ a (kept.getD i 0))) (num s) w) 0)=g (walk δ s w):=by
  intro w
  induction w with
  | nil=>
   intro s j _
   exact(U _ s (K.lt _ (K.nlt s j)) j).mp (K.at_ s j) [] (by simp)
  | cons a w Z=>
   intro s j O
   have J:=O a F9
   have Y:=K.lt _ (K.nlt s j)
   have al:=(U _ s Y j).mp (K.at_ s j)
   have e:num (δ a (kept.getD (num s) 0))=num (δ a s):=K.one _ _ (z a _ J Y) (z a s J j) ((U _ _ (z a _ J Y) (z a s J j)).mpr (al.step J))
   show g (kept.getD (walk _ (num (δ a (kept.getD (num s) 0))) w) 0)=g (walk δ (δ a s) w)
   rw[e]
   exact Z (δ a s) (z a s J j) λb hb=>O b (Gc _ hb)
 exact λs j w O=>key w s j O
def jK(hn:0<n)(Y:∀a s,a<A->s<n->δ a s<n)(hp:∀s t,s<n->t<n->(part s=part t↔yr A δ δ g g s t))(hm:Met A n δ)(K:Kept n part kept num):
  Canon A kept.length (λa i=>num (δ a (kept.getD i 0))) (λi=>g (kept.getD i 0)):=by
 obtain⟨z1,z2,z3⟩:=Jh hn K
 have al:=Uh Y hp K
 refine⟨z2,λa s ha hs=>K.nlt _ (Y a _ ha (K.lt s hs)),λs t hs ht h=>?_,λk af hk=>?_⟩
 ·have a1:=al _ (K.lt s hs)
  have a2:=al _ (K.lt t ht)
  rw[K.self s hs]at a1
  rw[K.self t ht]at a2
  have:=(hp _ _ (K.lt s hs) (K.lt t ht)).mpr (a1.symm.trans (h.trans a2))
  have e:=K.one _ _ (K.lt s hs) (K.lt t ht) this
  rw[K.self s hs,K.self t ht]at e
  exact e
 ·have ae:=K.lt k hk
  have ag:0<kept.getD k 0:=IA (GI _) (K.up 0 k af hk)
  obtain⟨j,a0,hj,U,e,mn⟩:=hm _ ag ae
  have O:j<n:=GT hj ae
  have ah:num j<k:=AV K O hk hj
  have ac:num (δ a0 (kept.getD (num j) 0))=k:=by
   have ad:=K.lt _ (K.nlt j O)
   have st:=((hp _ j ad O).mp (K.at_ j O)).step U
   have:=K.one _ _ (Y a0 _ U ad) (Y a0 j U O) ((hp _ _ (Y a0 _ U ad) (Y a0 j U O)).mpr st)
   rw[this,e,K.self k hk]
  obtain⟨J,a,hJ,ha,hP,aa⟩:=eL (λJ a=>k<=num (δ a (kept.getD J 0))) A k ⟨num j,a0,ah,U,HN ac.symm⟩
  refine⟨J,a,hJ,ha,?_,λj' a' ai hl=>Nat.lt_of_not_le (aa j' a' ai hl)⟩
  show num (δ a (kept.getD J 0))=k
  rcases IH k (num (δ a (kept.getD J 0)))with q|q
  ·exfalso
   have aj:J<kept.length:=GT hJ hk
   have ak:=K.lt J aj
   have hd:=Y a _ ha ak
   have ab:kept.getD k 0<δ a (kept.getD J 0):=by
    have h1:=K.up k _ q (K.nlt _ hd)
    have h2:=K.le _ hd
    exact Gs h1 h2
   have Z:¬(kept.getD J 0<j\/(kept.getD J 0=j/\a<a0)):=λz=>O3 ab (mn _ a ha z)
   have ne:¬(kept.getD J 0=j/\a=a0):=λz=>by
    rw[z.1,z.2,e]at ab;exact Gy _ ab
   have am:num j<=J:=by
    rcases IH J (num j)with y|y
    ·have h1:=K.up J (num j) y (K.nlt j O)
     have h2:=K.le j O
     exact absurd (.inl (Gs h1 h2)) Z
    ·exact y
   rcases IH (num j) J with y|y
   ·exact aa (num j) a0 U (.inl y) (HN ac.symm)
   ·have ej:num j=J:=O4 am y
    have h2:=K.le j O
    rw[ej]at h2
    have an:kept.getD J 0=j/\a0<a:=by
     rcases LU (kept.getD J 0) j with x|x|x
     ·exact absurd (.inl x) Z
     ·refine⟨x,?_⟩
      rcases LU a a0 with u|u|u
      ·exact absurd (.inr ⟨x,u⟩) Z
      ·exact absurd ⟨x,u⟩ ne
      ·exact u
     ·omega
    exact aa J a0 U (.inr ⟨rfl,an.2⟩) (by rw[<-ej];omega)
  ·omega
end
def yW(part:Nat->Nat):Nat->List Nat
 | 0=>[]
 | i+1=>if part i∈(yW part i).map part then yW part i else yW part i++[i]
def vP(part:Nat->Nat)(kept:List Nat)(s:Nat):Nat:=(kept.map part).idxOf (part s)
structure KI (part:Nat->Nat) (i:Nat) (kept:List Nat):Prop where
 lt:∀s∈kept,s<i
 up:kept.Pairwise (· < ·)
 nd:(kept.map part).Nodup
 has:∀s,s<i->∃t,t∈kept/\part t=part s/\t<=s
theorem Vc(part:Nat->Nat):∀i,KI part i (yW part i)
 | 0=>⟨by simp[yW],by simp[yW],by simp[yW],λs h=>absurd h (LM _)⟩
 | i+1=>by
  have j:=Vc part i
  unfold yW
  by_cases h:part i∈(yW part i).map part
  ·rw[if_pos h]
   refine⟨λs J=>KO (j.lt s J),j.up,j.nd,λs J=>?_⟩
   rcases IH s i with q|q
   ·exact j.has s q
   ·have e:s=i:=by omega
    subst e
    obtain⟨t,Y,Z⟩:=FX.mp h
    exact⟨t,Y,Z,G9 (j.lt t Y)⟩
  ·rw[if_neg h]
   refine⟨λs J=>?_,?_,?_,λs J=>?_⟩
   ·rcases Gk.mp J with q|q
    ·exact KO (j.lt s q)
    ·have:s=i:=by simpa using q
     omega
   ·rw[List.pairwise_append]
    refine⟨j.up,by simp,λa O b U=>?_⟩
    have:b=i:=by simpa using U
    subst this
    exact j.lt a O
   ·rw[GO,G3]
    refine⟨j.nd,by simp,λa O b U z=>?_⟩
    have:b=part i:=by simpa using U
    subst this;subst z
    exact h O
   ·rcases IH s i with q|q
    ·obtain⟨t,a,b,c⟩:=j.has s q
     exact⟨t,He _ a,b,c⟩
    ·have e:s=i:=by omega
     subst e
     exact⟨s,by simp,rfl,FA _⟩
def Ui{l:List Nat}(part:Nat->Nat){p:Nat}(h:p∈l.map part):(l.map part).idxOf p<l.length/\part (l.getD ((l.map part).idxOf p) 0)=p:=by
 have h1:=O5 h
 have h2:=O6 h1
 rw[FF]at h1
 refine⟨h1,?_⟩
 rw[Hr]at h2
 simp only[FM,FU h1,Hz]
 exact h2
def gD(part:Nat->Nat)(n:Nat):Kept n part (yW part n) (vP part (yW part n)):=by
 have Y:=Vc part n
 generalize yW part n=kept at Y
 have z:∀i,i<kept.length->kept.getD i 0∈kept:=λi hi=>by
  simp only[FM,FU hi,Hz]
  exact GF hi
 have up:∀i j,i<j->j<kept.length->kept.getD i 0<kept.getD j 0:=λi j aa J=>by
  have hi:i<kept.length:=by omega
  simp only[FM,FU hi,FU J,Hz]
  exact LV.mp Y.up i j hi J aa
 have U:∀s,s<n->part s∈kept.map part:=λs O=>by
  obtain⟨t,a,b,_⟩:=Y.has s O
  exact FX.mpr ⟨t,a,b⟩
 have inj:∀i j,i<kept.length->j<kept.length->part (kept.getD i 0)=part (kept.getD j 0)->i=j:=λi j hi J e=>by
  have ab:i<(kept.map part).length:=by rw[FF];exact hi
  have ac:j<(kept.map part).length:=by rw[FF];exact J
  refine(IJ (h₀:=ab) (h₁:=ac) Y.nd).mp ?_
  rw[Hr,Hr]
  simpa only[FM,FU hi,FU J,Hz]using e
 refine⟨λi hi=>Y.lt _ (z i hi),up,λs O=>(Ui part (U s O)).1,λs O=>(Ui part (U s O)).2,λs O=>?_,λs t _ _ e=>by unfold vP;rw[e],λi hi=>?_⟩
 ·obtain⟨t,a,b,c⟩:=Y.has s O
  obtain⟨q1,q2⟩:=Ui part (U s O)
  obtain⟨j,J,ej⟩:=GE.mp a
  have Z:kept.getD j 0=t:=by
   simp only[FM,FU J,Hz];exact ej
  have:(kept.map part).idxOf (part s)=j:=inj _ _ q1 J (by rw[q2,Z,b])
  show kept.getD ((kept.map part).idxOf (part s)) 0<=s
  rw[this,Z];exact c
 ·obtain⟨q1,q2⟩:=Ui part (FX.mpr ⟨_,z i hi,rfl⟩)
  exact inj _ _ q1 hi q2
def zQ(o:List Nat)(g:Nat):List Nat:=if g∈o then o else o++[g]
structure BI (n A:Nat) (δ:Nat->Nat->Nat) (i a:Nat) (o:List Nat):Prop where
 nd:o.Nodup
 lt:∀s∈o,s<n
 hd:o.getD 0 0=0
 le:i<=o.length
 pos:0<o.length
 cl:∀j b,b<A->(j<i\/(j=i/\b<a))->δ b (o.getD j 0)∈o
 met:∀k,0<k->k<o.length->∃j b,j<k/\(j<i\/(j=i/\b<a))/\b<A/\δ b (o.getD j 0)=o.getD k 0/\∀j' b',b'<A->(j'<j\/(j'=j/\b'<b))->δ b' (o.getD j' 0)∈o.take k
section
variable {n A:Nat} {δ:Nat->Nat->Nat} {i a:Nat} {o:List Nat}
def wb{l:List Nat}{i:Nat}(h:i<l.length):l.getD i 0∈l:=by
 simp only[FM,FU h,Hz]
 exact GF h
def Y7(hn:0<n):BI n A δ 0 0 [0]:=⟨by simp,by simpa using hn,rfl,by simp,by simp,λj b _ h=>by omega,λk J z=>by simp at z;omega⟩
def sK(aa:∀a s,a<A->s<n->δ a s<n)(ha:a<A)(hi:i<o.length)(b:BI n A δ i a o):BI n A δ i (a+1) (zQ o (δ a (o.getD i 0))):=by
 unfold zQ
 by_cases h:δ a (o.getD i 0)∈o
 ·rw[if_pos h]
  refine⟨b.nd,b.lt,b.hd,b.le,b.pos,λj c hc Z=>?_,λk h0 hk=>?_⟩
  ·by_cases q:j<i\/(j=i/\c<a)
   ·exact b.cl j c hc q
   ·obtain⟨e,e2⟩:=mM q Z
    subst e;subst e2;exact h
  ·obtain⟨j,c,q1,q2,q3⟩:=b.met k h0 hk
   exact⟨j,c,q1,mN q2,q3⟩
 ·rw[if_neg h]
  have O:∀j,j<o.length->(o++[δ a (o.getD i 0)]).getD j 0=o.getD j 0:=λj hj=>by rw[xl,if_pos hj]
  have ge:(o++[δ a (o.getD i 0)]).getD o.length 0=δ a (o.getD i 0):=by rw[xl,if_neg (Gy _),if_pos rfl]
  refine⟨?_,λs hs=>?_,by rw[O 0 b.pos];exact b.hd,by rw[Gb];exact Ge b.le (K3 _ _),by simp,λj c hc Z=>?_,λk h0 hk=>?_⟩
  ·rw[G3]
   refine⟨b.nd,by simp,λx hx y hy z=>?_⟩
   have:y=δ a (o.getD i 0):=by simpa using hy
   subst this;subst z;exact h hx
  ·rcases Gk.mp hs with q|q
   ·exact b.lt s q
   ·have:s=δ a (o.getD i 0):=by simpa using q
    rw[this];exact aa a _ ha (b.lt _ (wb hi))
  ·rw[O j (bS Z hi)]
   by_cases q:j<i\/(j=i/\c<a)
   ·exact He _ (b.cl j c hc q)
   ·obtain⟨e,e2⟩:=mM q Z
    subst e;subst e2
    exact GV _ (by simp)
  ·rw[Gb,GA]at hk
   rcases IH k o.length with q|q
   ·obtain⟨j,c,q1,q2,q3,q4,q5⟩:=b.met k h0 q
    refine⟨j,c,q1,mN q2,q3,by rw[O j (GT q1 q),O k q];exact q4,λY b' U J=>?_⟩
    rw[O Y (bS J (GT q1 q)),LW (G9 q)]
    exact q5 Y b' U J
   ·have e:k=o.length:=O4 (Nat.le_of_lt_succ hk) q
    subst e
    refine⟨i,a,hi,.inr ⟨rfl,IR a⟩,ha,by rw[O i hi,ge],λY b' U J=>?_⟩
    rw[O Y (bS J hi),LW (FA _),HY]
    exact b.cl Y b' U J
def jL(o:List Nat)(x:Nat):∀j,j<o.length->(zQ o x).getD j 0=o.getD j 0/\o.length<=(zQ o x).length:=λj z=>by
 unfold zQ
 split
 ·exact⟨rfl,FA _⟩
 ·exact⟨by rw[xl,if_pos z],by simp⟩
theorem Uj(j:∀a s,a<A->s<n->δ a s<n):∀(z:List Nat) (a:Nat) (o:List Nat),a+z.length=A->i<o.length->(∀b,b<z.length->z.getD b 0=δ (a+b) (o.getD i 0))->BI n A δ i a o->BI n A δ i A (z.foldl zQ o)/\o.length<=(z.foldl zQ o).length
 | [],a,o,h,hi,J,b=>by
  have e:a=A:=by simpa using h
  subst e
  exact⟨b,FA _⟩
 | x::r,a,o,h,hi,J,b=>by
  rw[Gu]at h
  have ex:x=δ a (o.getD i 0):=by simpa using J 0 (by simp)
  have s:=sK j (by omega) hi b
  rw[<-ex]at s
  obtain⟨O,p2⟩:=jL o x i hi
  obtain⟨q1,q2⟩:=Uj j r (a+1) (zQ o x) (by omega) (by omega) (λc U=>by
   have:=J (c+1) (by simp;omega)
   rw[O,show a+1+c=a+(c+1) by omega,<-this];simp) s
  exact⟨q1,Ge p2 q2⟩
def U6(hi:i<o.length)(b:BI n A δ i A o):BI n A δ (i+1) 0 o :=
 ⟨b.nd,b.lt,b.hd,hi,b.pos,λj c z Y=>b.cl j c z (by omega),λk J O=>by
  obtain⟨j,c,q1,q2,U⟩:=b.met k J O
  exact⟨j,c,q1,by omega,U⟩⟩
def wo(rows:List (List Nat))(o:List Nat)(i:Nat):List Nat:=(rows.getD (o.getD i 0) []).foldl zQ o
def bfs(rows:List (List Nat)):Nat->Nat->List Nat->List Nat
 | 0,_,o=>o
 | f+1,i,o=>if i<o.length then bfs rows f (i+1) (wo rows o i)else o
theorem U7{rows:List (List Nat)}(j:∀a s,a<A->s<rows.length->(rows.getD s []).getD a 0<rows.length)(O:∀s,s<rows.length->(rows.getD s []).length=A):
  ∀(f i:Nat) (o:List Nat),BI rows.length A (λa s=>(rows.getD s []).getD a 0) i 0 o->rows.length<=f+i->BI rows.length A (λa s=>(rows.getD s []).getD a 0) (bfs rows f i o).length 0 (bfs rows f i o)
 | f,i,o,b,U=>by
  have z:o.length<=rows.length:=by
   have:=yF (m:=Fy rows.length) b.nd λs J=>Gh.mpr (b.lt s J)
   rwa [GS]at this
  cases f with
  | zero=>
   have e:i=o.length:=by have:=b.le;omega
   show BI _ _ _ o.length 0 o
   rw[<-e];exact b
  | succ f=>
   unfold bfs
   by_cases hi:i<o.length
   ·rw[if_pos hi]
    have J:=b.lt _ (wb hi)
    obtain⟨q1,q2⟩:=Uj j (rows.getD (o.getD i 0) []) 0 o (by rw[O _ J];omega) hi (λc _=>by rw[G4]) b
    exact U7 j O f (i+1) _ (U6 (show i<((rows.getD (o.getD i 0) []).foldl zQ o).length by omega) q1) (by omega)
   ·rw[if_neg hi]
    have e:i=o.length:=by have:=b.le;omega
    rw[<-e];exact b
def Vd(b:BI n A δ o.length 0 o):Met A o.length λa k=>o.idxOf (δ a (o.getD k 0)):=λk h0 J=>by
 obtain⟨j,c,q1,q2,q3,q4,q5⟩:=b.met k h0 J
 have z:o.idxOf (o.getD k 0)=k:=by
  simp only[FM,FU J,Hz]
  exact O7 b.nd k J
 refine⟨j,c,q1,q3,by show o.idxOf (δ c (o.getD j 0))=k;rw[q4,z],λY Z O U=>?_⟩
 have hm:=q5 Y Z O U
 obtain⟨t,ht,et⟩:=GE.mp hm
 rw[HP]at ht
 rw[LX]at et
 show o.idxOf (δ Z (o.getD Y 0))<k
 rw[<-et,O7 b.nd t (by omega)]
 omega
def Wt(b:BI n A δ o.length 0 o):∀a s,a<A->s<o.length->o.idxOf (δ a (o.getD s 0))<o.length:=λa s j z=>O5 (b.cl s a j (.inl z))
def Uk(b:BI n A δ o.length 0 o):∀s,s<o.length->yr A (λa k=>o.idxOf (δ a (o.getD k 0))) δ (λk=>g (o.getD k 0)) g s (o.getD s 0):=by
 have key:∀(w:List Nat) (s:Nat),s<o.length->(∀a∈w,a<A)->g (o.getD (walk (λa k=>o.idxOf (δ a (o.getD k 0))) s w) 0)=g (walk δ (o.getD s 0) w):=by
  intro w
  induction w with
  | nil=>intro s _ _;rfl
  | cons a w O=>
   intro s J j
   have U:=j a F9
   have z:=Wt b a s U J
   have e:o.getD (o.idxOf (δ a (o.getD s 0))) 0=δ a (o.getD s 0):=by
    generalize δ a (o.getD s 0)=y at z
    rw[FM,FU z,Hz]
    exact O6 z
   have:=O (o.idxOf (δ a (o.getD s 0))) z λc Y=>j c (Gc _ Y)
   rw[e]at this
   exact this
 exact λs J w j=>key w s J j
end
theorem xX(j:∀a s,a<A->s<n->δ a s<n):∀(w:List Nat) (s:Nat),(∀a∈w,a<A)->s<n->walk δ s w<n
 | [],s,_,z=>z
 | a::w,s,J,z=>xX j w (δ a s) (λb O=>J b (Gc _ O)) (j a s (J a F9) z)
def jM{A:Nat}{rows:List (List Nat)}{good:Nat->Bool}(hn:0<rows.length)(aa:∀a s,a<A->s<rows.length->(rows.getD s []).getD a 0<rows.length)(hA:∀s,s<rows.length->(rows.getD s []).length=A) 
  {o:List Nat} (ho:o=bfs rows rows.length 0 [0]) {bs:List (List (List Nat))} (ab:bs.length=A) (ac:∀i,i<A->Back o.length (λk=>o.idxOf ((rows.getD (o.getD k 0) []).getD i 0)) (bs.getD i []))
  {part:Nat->Nat} (U:part=λs=>(xg bs (o.map good)).getD s 0) {kept:List Nat} (hk:kept=yW part o.length) :
  Canon A kept.length (λa i=>vP part kept (o.idxOf ((rows.getD (o.getD (kept.getD i 0) 0) []).getD a 0))) (λi=>good (o.getD (kept.getD i 0) 0))/\
  yr A (λa i=>vP part kept (o.idxOf ((rows.getD (o.getD (kept.getD i 0) 0) []).getD a 0))) (λa s=>(rows.getD s []).getD a 0) (λi=>good (o.getD (kept.getD i 0) 0)) good 0 0:=by
 have b:BI rows.length A (λa s=>(rows.getD s []).getD a 0) o.length 0 o:=by
  have:=U7 aa hA rows.length 0 [0] (Y7 hn) (by omega)
  rw[<-ho]at this;exact this
 have j:=Wt b
 have J:(o.map good).length=o.length:=FF _
 have hg:∀s,s<o.length->(o.map good).getD s false=good (o.getD s 0):=λs O=>by
  simp only[FM,FP,FU O,HK,Hz]
 have Z:∀a s,a<A->s<(o.map good).length->(λa k=>o.idxOf ((rows.getD (o.getD k 0) []).getD a 0)) a s<(o.map good).length:=λa s ha O=>by
  rw[J]at O ⊢;exact j a s ha O
 obtain⟨_,ps⟩:=XQ (A:=A) (δ:=λa k=>o.idxOf ((rows.getD (o.getD k 0) []).getD a 0)) (good:=o.map good) Z ab (λi hi=>by rw[J];exact ac i hi)
 have hp:∀s t,s<o.length->t<o.length->(part s=part t↔yr A (λa k=>o.idxOf ((rows.getD (o.getD k 0) []).getD a 0)) (λa k=>o.idxOf ((rows.getD (o.getD k 0) []).getD a 0)) (λk=>good (o.getD k 0)) (λk=>good (o.getD k 0)) s t):=λs t O ht=>by
  have e:=ps s t (by rw[J];exact O) (by rw[J];exact ht)
  rw[U]
  show(xg bs (o.map good)).getD s 0=(xg bs (o.map good)).getD t 0↔_
  rw[e]
  constructor
  ·intro h w Y
   refine M6 λz=>h ⟨w,Y,?_⟩
   rw[hg _ (xX j w s Y O),hg _ (xX j w t Y ht)]
   exact z
  ·rintro h ⟨w,Y,z⟩
   rw[hg _ (xX j w s Y O),hg _ (xX j w t Y ht)]at z
   exact z (h w Y)
 have K:=gD part o.length
 rw[<-hk]at K
 obtain⟨z1,z2,z3⟩:=Jh b.pos K
 refine⟨jK b.pos j hp (Vd b) K,?_⟩
 have a1:=Uh j hp K 0 b.pos
 rw[z1]at a1
 have a2:=Uk (g:=good) b 0 b.pos
 rw[b.hd]at a2
 exact a1.trans a2
abbrev dl(rows:List (List Nat)):Nat->Nat->Nat:=λa s=>(rows.getD s []).getD a 0
structure OkR (A:Nat) (rows:List (List Nat)):Prop where
 pos:0<rows.length
 len:∀s,s<rows.length->(rows.getD s []).length=A
 lt:∀a s,a<A->s<rows.length->dl rows a s<rows.length
structure Lst (A:Nat) (rows:List (List Nat)) (g:Nat->Bool) (rows':List (List Nat)) (g':Nat->Bool):Prop where
 ok:OkR A rows'
 le:rows'.length<=rows.length
 can:Canon A rows'.length (dl rows') g'
 al:yr A (dl rows') (dl rows) g' g 0 0
theorem Y8(z:∀a s,a<A->s<n->δ a s<n)(O:∀a s,a<A->s<n->δ a s=j a s):∀(w:List Nat) (s:Nat),(∀a∈w,a<A)->s<n->walk δ s w=walk j s w
 | [],s,_,J=>rfl
 | a::w,s,U,J=>by
  have Y:=U a F9
  show walk δ (δ a s) w=walk j (j a s) w
  rw[<-O a s Y J]
  exact Y8 z O w (δ a s) (λb Z=>U b (Gc _ Z)) (z a s Y J)
def yr.congr(j:∀a s,a<A->s<n->δ a s<n)(U:∀a s,a<A->s<n->δ a s=z a s)(Y:∀s,s<n->g s=g' s)(O:s<n)(h:yr A δ δ2 g g2 s t):yr A z δ2 g' g2 s t:=λw J=>by
 rw[<-Y8 j U w s J O,<-Y _ (xX j w s J O)]
 exact h w J
def Canon.congr(c:Canon A m δ g)(he:∀a s,a<A->s<m->δ a s=O a s)(hg:∀s,s<m->g s=g' s):Canon A m O g':=by
 have z:∀a s,a<A->s<m->O a s<m:=λa s ha J=>by rw[<-he a s ha J];exact c.lt a s ha J
 refine⟨c.pos,z,λs t J ht h=>?_,λk h0 hk=>?_⟩
 ·have U:∀a s,a<A->s<m->O a s=δ a s:=λa s ha J=>(he a s ha J).symm
  have Y:∀s,s<m->g' s=g s:=λs J=>(hg s J).symm
  have h1:=yr.congr z U Y J h
  have h2:=yr.congr z U Y ht h1.symm
  exact c.ap s t J ht h2.symm
 ·obtain⟨j,a,q1,q2,q3,q4⟩:=c.met k h0 hk
  refine⟨j,a,q1,q2,by rw[<-he a j q2 (by omega)];exact q3,λj' a' Z hl=>?_⟩
  rw[<-he a' j' Z (by omega)]
  exact q4 j' a' Z hl
def vh{α:Type}{l:List Nat}{f:Nat->α}{d:α}{i:Nat}(h:i<l.length):(l.map f).getD i d=f (l.getD i 0):=by
 simp only[FM,FP,FU h,HK,Hz]
def yN{l:List Nat}{i:Nat}(h:i<l.length):l.getD i 0=l[i]:=by
 rw[FM,FU h];rfl
section
variable {A:Nat} {rows near rows':List (List Nat)} {good g':Nat->Bool} {o kept:List Nat} {bs:List (List (List Nat))} {part:Nat->Nat}
def vG(ok:OkR A rows)(j:o=bfs rows rows.length 0 [0]):BI rows.length A (dl rows) o.length 0 o:=by
 have:=U7 ok.lt ok.len rows.length 0 [0] (Y7 ok.pos) (by omega)
 rw[<-j]at this;exact this
def Y9(b:BI rows.length A (dl rows) o.length 0 o):o.length<=rows.length:=by
 have:=yF (m:=Fy rows.length) b.nd λs j=>Gh.mpr (b.lt s j)
 rwa [GS]at this
def bU(j:near=o.map λs=>(rows.getD s []).map λg=>o.idxOf g)(z:k<o.length):near.getD k []=(rows.getD (o.getD k 0) []).map λg=>o.idxOf g:=by
 rw[j];exact vh z
def ur(ok:OkR A rows)(b:BI rows.length A (dl rows) o.length 0 o)(j:near=o.map λs=>(rows.getD s []).map λg=>o.idxOf g)(J:a<A)(z:k<o.length):dl near a k=o.idxOf (dl rows a (o.getD k 0)):=by
 show(near.getD k []).getD a 0=_
 rw[bU j z]
 exact vh (by rw[ok.len _ (b.lt _ (wb z))];exact J)
def U8(ok:OkR A rows)(b:BI rows.length A (dl rows) o.length 0 o)(j:near=o.map λs=>(rows.getD s []).map λg=>o.idxOf g):OkR A near/\near.length=o.length:=by
 have J:near.length=o.length:=by rw[j,FF]
 refine⟨⟨by rw[J];exact b.pos,λs z=>?_,λa s O z=>?_⟩,J⟩
 ·rw[J]at z
  rw[bU j z,FF]
  exact ok.len _ (b.lt _ (wb z))
 ·rw[J]at z ⊢
  rw[ur ok b j O z]
  exact Wt b a s O z
def jN(ok:OkR A rows)(ho:o=bfs rows rows.length 0 [0])(j:near=o.map λs=>(rows.getD s []).map λg=>o.idxOf g)(Z:bs.length=A)(ad:∀i,i<A->Back near.length (λs=>(near.getD s []).getD i 0) (bs.getD i [])) 
  (O:part=λs=>(xg bs (o.map good)).getD s 0) (hk:kept=yW part o.length) (hr:rows'=kept.map λs=>(near.getD s []).map (vP part kept)) (hg:g'=λi=>good (o.getD (kept.getD i 0) 0)) :
  Lst A rows good rows' g'/\(xg bs (o.map good)).length=o.length/\(∀s∈kept,s<o.length)/\(∀s,s<o.length->part s∈kept.map part):=by
 have b:=vG ok ho
 obtain⟨aa,nl⟩:=U8 ok b j
 have J:∀i,i<A->Back o.length (λk=>o.idxOf ((rows.getD (o.getD k 0) []).getD i 0)) (bs.getD i []):=λi hi=>by
  have q:=ad i hi
  rw[nl]at q
  refine⟨q.nd,λt s=>?_⟩
  rw[q.mem t s]
  constructor
  ·rintro⟨x,y⟩;exact⟨x,by rw[<-y];exact(ur ok b j hi x).symm⟩
  ·rintro⟨x,y⟩;exact⟨x,by rw[<-y];exact ur ok b j hi x⟩
 obtain⟨c,al⟩:=jM ok.pos ok.lt ok.len ho Z J O hk
 have K:=gD part o.length
 rw[<-hk]at K
 have ki:=Vc part o.length
 rw[<-hk]at ki
 have hl:rows'.length=kept.length:=by rw[hr,FF]
 have he:∀a s,a<A->s<kept.length->vP part kept (o.idxOf ((rows.getD (o.getD (kept.getD s 0) 0) []).getD a 0))=dl rows' a s:=λa s Y z=>by
  have h1:rows'.getD s []=(near.getD (kept.getD s 0) []).map (vP part kept):=by rw[hr];exact vh z
  show _=(rows'.getD s []).getD a 0
  have ab:kept.getD s 0<o.length:=K.lt s z
  rw[h1,vh (by rw[aa.len _ (by rw[nl];exact ab)];exact Y)]
  exact congrArg _ (ur ok b j Y ab).symm
 have ac:∀s,s<kept.length->(λi=>good (o.getD (kept.getD i 0) 0)) s=g' s:=λs _=>by rw[hg]
 have c':=c.congr he ac
 have ae:=yr.congr c.lt he ac c.pos al
 refine⟨⟨⟨by rw[hl];exact c.pos,λs z=>?_,λa s Y z=>?_⟩,?_,by rw[hl];exact c',ae⟩,?_,ki.lt,λs z=>?_⟩
 ·rw[hl]at z
  have h1:rows'.getD s []=(near.getD (kept.getD s 0) []).map (vP part kept):=by rw[hr];exact vh z
  rw[h1,FF]
  exact aa.len _ (by rw[nl];exact K.lt s z)
 ·rw[hl]at z ⊢
  exact c'.lt a s Y z
 ·have h2:kept.length<=o.length:=by
   have:=yF (l:=kept) (m:=Fy o.length) (ki.up.imp λh=>by omega) λs z=>Gh.mpr (ki.lt s z)
   rwa [GS]at this
  have:=Y9 b
  omega
 ·have U:(o.map good).length=o.length:=FF _
  exact(XQ (A:=A) (δ:=λa k=>o.idxOf ((rows.getD (o.getD k 0) []).getD a 0)) (good:=o.map good) (λa s Y z=>by rw[U]at z ⊢;exact Wt b a s Y z) Z (λi hi=>by rw[U];exact J i hi)).1.trans U
 ·obtain⟨t,ht,e,_⟩:=ki.has s z
  exact e▸FX.mpr ⟨t,ht,rfl⟩
def Lst.one{r1 r2 q1 q2:List (List Nat)}{g1 g2 h1 h2:Nat->Bool}(l1:Lst A r1 g1 q1 h1)(l2:Lst A r2 g2 q2 h2)(z:yr A (dl r1) (dl r2) g1 g2 0 0):q1=q2/\∀s,s<q1.length->h1 s=h2 s:=by
 obtain⟨J,O,U⟩:=pd l1.can l2.can ((l1.al.trans z).trans l2.al.symm)
 refine⟨?_,U⟩
 refine IG J λs a b=>?_
 have g1:q1.getD s []=q1[s]:=by simp[FM,a]
 have g2:q2.getD s []=q2[s]:=by simp[FM,b]
 rw[<-g1,<-g2]
 refine IG (by rw[l1.ok.len s a,l2.ok.len s b]) λi x y=>?_
 have:=O i s (by rw[<-l1.ok.len s a];exact x) a
 show(q1.getD s [])[i]=(q2.getD s [])[i]
 have j:(q1.getD s []).getD i 0=(q2.getD s []).getD i 0:=this
 rw[yN x,yN y]at j
 exact j
end
def wy(n2:Nat)(x y:List Nat):List Nat:=(x.zip y).map λp=>p.1*n2+p.2
def prR(r1 r2:List (List Nat)):List (List Nat):=(Fy (r1.length*r2.length)).map λp=>wy r2.length (r1.getD (p/r2.length) []) (r2.getD (p%r2.length) [])
section
variable {A:Nat} {r1 r2:List (List Nat)}
def Zc:(prR r1 r2).length=r1.length*r2.length:=by simp[prR]
def U9(h:p<r1.length*r2.length):(prR r1 r2).getD p []=wy r2.length (r1.getD (p/r2.length) []) (r2.getD (p%r2.length) []):=by
 unfold prR
 rw[FM,FP,Hv h];rfl
def Xa(j:OkR A r2)(h:p<r1.length*r2.length):p/r2.length<r1.length/\p%r2.length<r2.length :=
 ⟨OY (by rw[IF];exact h),LR _ j.pos⟩
def re(j:s<r1.length)(z:o<r2.length):s*r2.length+o<r1.length*r2.length:=by
 have:(s+1)*r2.length<=r1.length*r2.length:=K2 _ j
 rw[M7]at this
 omega
def Yv{s o n2:Nat}(j:o<n2):(s*n2+o)/n2=s/\(s*n2+o)%n2=o:=by
 have z:0<n2:=by omega
 constructor
 ·rw[IF,OZ z,O0 j];rfl
 ·rw[IF,O1,O2 j]
def bV(h1:x.length=A)(h2:y.length=A):(wy n2 x y).length=A:=by simp[wy,h1,h2]
def bW(h1:x.length=A)(h2:y.length=A)(J:a<A):(wy n2 x y).getD a 0=x.getD a 0*n2+y.getD a 0:=by
 unfold wy
 have j:x[a]?=some x[a]:=FU (by omega)
 have z:y[a]?=some y[a]:=FU (by omega)
 rw[FM,FP,FU (by simp;omega),O8,FM,FM,j,z]
 rfl
def mO(z:OkR A r1)(j:OkR A r2)(J:a<A)(h:p<r1.length*r2.length):dl (prR r1 r2) a p=dl r1 a (p/r2.length)*r2.length+dl r2 a (p%r2.length):=by
 obtain⟨h1,h2⟩:=Xa j h
 show((prR r1 r2).getD p []).getD a 0=_
 rw[U9 h]
 exact bW (z.len _ h1) (j.len _ h2) J
def uJ(z:OkR A r1)(j:OkR A r2):OkR A (prR r1 r2):=by
 refine⟨by rw[Zc];exact O9 z.pos j.pos,λs J=>?_,λa s O J=>?_⟩
 ·rw[Zc]at J
  obtain⟨h1,h2⟩:=Xa j J
  rw[U9 J]
  exact bV (z.len _ h1) (j.len _ h2)
 ·rw[Zc]at J ⊢
  obtain⟨h1,h2⟩:=Xa j J
  rw[mO z j O J]
  exact re (z.lt a _ O h1) (j.lt a _ O h2)
theorem bX(j:OkR A r1)(z:OkR A r2):∀(w:List Nat) (s o:Nat),(∀a∈w,a<A)->s<r1.length->o<r2.length->walk (dl (prR r1 r2)) (s*r2.length+o) w=walk (dl r1) s w*r2.length+walk (dl r2) o w
 | [],s,o,_,_,_=>rfl
 | a::w,s,o,U,Y,J=>by
  have O:=U a F9
  show walk (dl (prR r1 r2)) (dl (prR r1 r2) a (s*r2.length+o)) w=walk (dl r1) (dl r1 a s) w*r2.length+walk (dl r2) (dl r2 a o) w
  rw[mO j z O (re Y J),(Yv J).1,(Yv J).2]
  exact bX j z w _ _ (λb Z=>U b (Gc _ Z)) (j.lt a s O Y) (z.lt a o O J)
def Yw{o o':List Nat}{x:Nat}(h:o<+: o')(j:x∈o):o'.idxOf x=o.idxOf x:=by
 obtain⟨r,rfl⟩:=h
 rw[List.idxOf_append,if_pos j]
def Xr:o<+: zQ o x:=by
 unfold zQ;split
 ·exact Ks _
 ·exact M8 _ _
def jO:x∈zQ o x:=by
 unfold zQ;split
 ·assumption
 ·simp
theorem wV:∀(j:List Nat) (o:List Nat),o<+: j.foldl zQ o
 | [],o=>Ks _
 | g::r,o=>Xr.trans (wV r (zQ o g))
theorem bY:∀(j:List Nat) (o:List Nat),x∈j->x∈j.foldl zQ o
 | g::r,o,h=>by
  rcases FL.mp h with rfl|h
  ·exact(wV r (zQ o x)).subset jO
  ·exact bY r _ h
def xE(j:List (List Nat))(o:List Nat)(k:Nat):List (List Nat):=(o.take k).map λp=>(j.getD p []).map o.idxOf
def X0(h:k<=o.length):(xE j o k).length=k:=by simp[xE];omega
def bZ(h:o<+: o')(j:k<=o.length):o'.take k=o.take k:=by
 obtain⟨r,rfl⟩:=h
 exact LW j
def jP{z:List (List Nat)}{o:List Nat}{k:Nat}(ok:OkR A z)(b:BI z.length A (dl z) k 0 o)(J:k<o.length):xE z o k++[(z.getD (o.getD k 0) []).map (wo z o k).idxOf]=xE z (wo z o k) (k+1):=by
 have p:o<+: wo z o k:=wV _ _
 have Y:k<(wo z o k).length:=Gs J p.length_le
 have ek:(wo z o k)[k]=o.getD k 0:=by
  obtain⟨r,hr⟩:=p
  have:(wo z o k)[k]?=some (o.getD k 0):=by
   rw[<-hr,GK J,FU J,FM,FU J];rfl
  exact(FO.mp this).2
 unfold xE
 rw[Kt Y,GO,ek,bZ p (G9 J)]
 congr 1
 refine G5 λq hq=>?_
 obtain⟨j,hj,ej⟩:=GE.mp hq
 have Z:j<k:=by simp at hj;omega
 have O:j<o.length:=by omega
 have U:o.getD j 0=q:=by rw[LX]at ej;rw[yN O];exact ej
 have aa:q<z.length:=by rw[<-U];exact b.lt _ (wb O)
 refine G5 λx hx=>(Yw p ?_).symm
 obtain⟨a,ha,ea⟩:=GE.mp hx
 have ab:a<A:=by rw[ok.len q aa]at ha;exact ha
 have:=b.cl j a ab (.inl Z)
 rw[U]at this
 have e2:dl z a q=x:=by show(z.getD q []).getD a 0=x;rw[yN ha];exact ea
 rw[e2]at this
 exact this
def pe(ok:OkR A j)(b:BI j.length A (dl j) k 0 o)(z:k<o.length):BI j.length A (dl j) (k+1) 0 (wo j o k):=by
 obtain⟨q1,q2⟩:=Uj (i:=k) ok.lt (j.getD (o.getD k 0) []) 0 o (by rw[ok.len _ (b.lt _ (wb z))];omega) z (λc _=>by rw[G4]) b
 exact U6 (show k<(wo j o k).length from Gs z q2) q1
def Ve(b:BI j.length A (dl j) k 0 o):o.length<=j.length:=by
 have:=yF (m:=Fy j.length) b.nd λs z=>Gh.mpr (b.lt s z)
 rwa [GS]at this
def cA(z:k<o.length)(J:o.length<=j.length):bfs j (j.length-k) k o=bfs j (j.length-(k+1)) (k+1) (wo j o k):=by
 rw[show j.length-k=(j.length-(k+1))+1 by omega]
 show(if k<o.length then _ else _)=_
 rw[if_pos z]
def cB(j:¬k<o.length):bfs z f k o=o:=by
 cases f with
 | zero=>rfl
 | succ f=>unfold bfs;rw[if_neg j]
def zZ(r1 r2:List (List Nat)):List Nat:=bfs (prR r1 r2) (prR r1 r2).length 0 [0]
def Yx(j:OkR A r1)(z:OkR A r2):BI (prR r1 r2).length A (dl (prR r1 r2)) (zZ r1 r2).length 0 (zZ r1 r2):=vG (uJ j z) rfl
def ZR:xE j o o.length=o.map λs=>(j.getD s []).map λg=>o.idxOf g:=by
 unfold xE;rw[HY]
def yR(r1 r2:List (List Nat)):List (List Nat):=xE (prR r1 r2) (zZ r1 r2) (zZ r1 r2).length
def ZD(j:OkR A r1)(z:OkR A r2):OkR A (yR r1 r2)/\(yR r1 r2).length=(zZ r1 r2).length:=U8 (uJ j z) (Yx j z) ZR
def Xb(z:OkR A r1)(j:OkR A r2)(h:Nat->Nat->Bool)(w:List Nat)(J:∀a∈w,a<A):
  (λk=>h ((zZ r1 r2).getD k 0/r2.length) ((zZ r1 r2).getD k 0%r2.length)) (walk (dl (yR r1 r2)) 0 w)=h (walk (dl r1) 0 w) (walk (dl r2) 0 w):=by
 have b:=Yx z j
 have ok:=uJ z j
 have O:=ZD z j
 have al:=Uk (g:=λp=>h (p/r2.length) (p%r2.length)) b 0 b.pos w J
 have e:walk (dl (yR r1 r2)) 0 w=walk (λa k=>(zZ r1 r2).idxOf (dl (prR r1 r2) a ((zZ r1 r2).getD k 0))) 0 w :=
  Y8 (n:=(yR r1 r2).length) O.1.lt (λa s ha Y=>by rw[O.2]at Y;exact ur ok b ZR ha Y) w 0 J O.1.pos
 have hd:(zZ r1 r2).getD 0 0=0:=b.hd
 rw[e]
 have U:h ((zZ r1 r2).getD (walk (λa k=>(zZ r1 r2).idxOf (dl (prR r1 r2) a ((zZ r1 r2).getD k 0))) 0 w) 0/r2.length) ((zZ r1 r2).getD (walk (λa k=>(zZ r1 r2).idxOf (dl (prR r1 r2) a ((zZ r1 r2).getD k 0))) 0 w) 0%r2.length)=h (walk (dl (prR r1 r2)) ((zZ r1 r2).getD 0 0) w/r2.length) (walk (dl (prR r1 r2)) ((zZ r1 r2).getD 0 0) w%r2.length):=al
 show h _ _=_
 rw[U,hd]
 have Z:=bX z j w 0 0 J z.pos j.pos
 rw[Nat.zero_mul,G4]at Z
 have h2:=xX j.lt w 0 J j.pos
 rw[Z,(Yv h2).1,(Yv h2).2]
end
end Hop
namespace L2
open PySem PySem.Spec PyProof.Rows
section
variable {prog:FI} {w:FB} {A:FW} {E:Fl->Fq->Prop} {s:Fq}
structure TSide (h:Fz) (i l:Fo) (k:Nat) (xs:Array Fl):Prop where
 it:h.IsTupleIter i l k
 tp:h.IsTuple l xs
def TSide.but(x:TSide h i l k xs)(j:MN b h h')(h1:i≠b)(h2:l≠b):TSide h' i l k xs :=
 ⟨x.it.extBut j h1,by obtain⟨o,z,r⟩:=x.tp;exact⟨o,j _ _ h2 z,r⟩⟩
def Qa{z TI TO i1 i2 l1 l2:Fo}{k1 k2:Nat}{xs ys:Array Fl}{x y a b:Fl}{Q:Fl->Fq->Prop}(D:K4 z TI TO i1 i2 l1 l2) 
  (U:GY s.heap z TI TO .none) (ab:GB s.heap TI (.ref i1) (.ref i2)) (ac:GB s.heap TO a b)
  (h1:TSide s.heap i1 l1 k1 xs) (h2:TSide s.heap i2 l2 k2 ys) (hx:xs[k1]?=some x) (hy:ys[k2]?=some y)
  (hQ:∀h',GY h' z TI TO (Ib s.heap.objs.size)->GB h' TO x y->h'.IsTupleIter i1 l1 (k1+1)->h'.IsTupleIter i2 l2 (k2+1)->GB h' s.heap.objs.size x y->h'.objs.size=s.heap.objs.size+1->
   (∀c o,c≠z->c≠TO->c≠i1->c≠i2->s.heap.get? c=some o->h'.get? c=some o)->Q (.ref s.heap.objs.size) {s with heap:=h'}) :
  wpAny (Fx prog w) A (HU.«zip.__next__» ⟨[.ref z],[]⟩) (λfin s'=>∃v,fin=.done (.ret v)/\Q v s') E s:=by
 show wpAny _ _ (HR (.ref z) 2>>=_) _ _ _
 refine Ft (Hh U rfl (x:=.bool false) rfl ?_)
 show wpAny _ _ (HR (.ref z) 3>>=_) _ _ _
 refine Ft (Hh U rfl (x:=.ref TI) rfl (Ft (Ik ab rfl ?_)))
 show wpAny _ _ (LY (.ref z)>>=_) _ _ _
 refine Ft ?_
 unfold LY
 refine Ft (Hh U rfl (x:=.none) rfl (FS ?_))
 simp only[if_true]
 refine Ft (Lz (Ft (Hh U rfl (x:=.ref TO) rfl (Ft (Ku U (by simp) λg1 J Y=>Ft ?_)))))
 replace J:GY g1 z TI TO .ellipsis:=J
 simp only[Pa,Pb,KN,MV]
 have s1:=h1.but Y.extBut D.i1z D.l1z
 refine Ft (Ft (LZ ?_))
 show wpAny _ _ (IC (.ref i1)>>=_) _ _ _
 refine Ft (wK s1.it s1.tp hx λg2 n1 Z=>FS ?_)
 have t2:GB g2 TO a b:=Z.extBut _ _ D.TOi1 (Y.extBut _ _ D.TOz ac)
 refine Ft (Ik t2 rfl (Ft (M9 t2 λg3 t3 b3=>Ft (Na (FS ?_)))))
 replace t3:GB g3 TO x b:=t3
 have s2:=((h2.but Y.extBut D.i2z D.l2z).but Z.extBut D.i12.symm D.l2i1).but b3.extBut D.TOi2.symm D.l2TO
 refine Ft (Ft (LZ ?_))
 show wpAny _ _ (IC (.ref i2)>>=_) _ _ _
 refine Ft (wK s2.it s2.tp hy λg4 n2 b4=>FS ?_)
 have t4:GB g4 TO x b:=b4.extBut _ _ D.TOi2 t3
 refine Ft (Ik t4 rfl (Ft (M9 t4 λg5 t5 b5=>Ft (Na (FS (FS ?_))))))
 replace t5:GB g5 TO x y:=t5
 refine Ft (Ik t5 rfl (Ft (wpAny_newTuple ?_)))
 have hsz:g5.objs.size=s.heap.objs.size:=by rw[b5.1,b4.1,b3.1,Z.1,Y.1]
 have z5:GY g5 z TI TO .ellipsis:=b5.extBut _ _ D.TOz.symm (b4.extBut _ _ D.i2z.symm (b3.extBut _ _ D.TOz.symm (Z.extBut _ _ D.i1z.symm J)))
 have k5:∀c o,c≠z->c≠TO->c≠i1->c≠i2->s.heap.get? c=some o->g5.get? c=some o:=λc o O c2 c3 c4 e=>
  b5.extBut _ _ c2 (b4.extBut _ _ c4 (b3.extBut _ _ c2 (Z.extBut _ _ c3 (Y.extBut _ _ O e))))
 have m1:g5.IsTupleIter i1 l1 (k1+1):=((n1.extBut b3.extBut D.TOi1.symm).extBut b4.extBut D.i12).extBut b5.extBut D.TOi1.symm
 have m2:g5.IsTupleIter i2 l2 (k2+1):=n2.extBut b5.extBut D.TOi2.symm
 have j:z<g5.objs.size:=FV z5
 show wpAny _ _ (Pc (.ref z) (.ref g5.objs.size)>>=_) _ _ _
 refine Ft ?_
 unfold Pc
 have z6:GY (g5.push {cls:=.type "tuple",data:=.seq #[x,y]}) z TI TO .ellipsis:=FQ _ z5
 refine Ft (Ku z6 (by simp) λg7 z7 b7=>?_)
 replace z7:GY g7 z TI TO (Ib g5.objs.size):=z7
 refine Ku z7 (by simp) λg8 z8 b8=>?_
 replace z8:GY g8 z TI TO (Ib g5.objs.size):=z8
 have up:∀c o,c≠z->g5.get? c=some o->g8.get? c=some o:=λc o O e=>b8.extBut _ _ O (b7.extBut _ _ O (FQ _ e))
 have aa:GB g8 g5.objs.size x y:=b8.extBut _ _ (Kx j) (b7.extBut _ _ (Kx j) (Gr _ rfl))
 have e8:g8.objs.size=g5.objs.size+1:=by rw[b8.1,b7.1,HH]
 rw[hsz]at z8 aa e8
 refine FS ⟨_,rfl,?_⟩
 show Q (.ref g5.objs.size) _
 rw[hsz]
 exact hQ g8 z8 (up _ _ D.TOz t5) (m1.at λo e=>up _ o D.i1z e) (m2.at λo e=>up _ o D.i2z e) aa e8 λc o O c2 c3 c4 e=>up c o O (k5 c o O c2 c3 c4 e)
def JD{z TI TO i1 i2 l1 l2:Fo}{k1 k2:Nat}{xs ys:Array Fl}{a b:Fl}{Q:Fin->Fq->Prop}(hh:A.handled=none)(D:K4 z TI TO i1 i2 l1 l2) 
  (hz:GY s.heap z TI TO .none) (ab:GB s.heap TI (.ref i1) (.ref i2)) (ac:GB s.heap TO a b)
  (h1:TSide s.heap i1 l1 k1 xs) (h2:TSide s.heap i2 l2 k2 ys) (aa:xs[k1]?=none\/ys[k2]?=none)
  (hE:∀h' e,(∀c o,c≠z->c≠TO->c≠i1->c≠i2->s.heap.get? c=some o->h'.get? c=some o)->(∃o,h'.get? e=some o/\o.cls=.type "StopIteration")->E (.ref e) {s with heap:=h'}) :
  wpAny (Fx prog w) A (HU.«zip.__next__» ⟨[.ref z],[]⟩) Q E s:=by
 show wpAny _ _ (HR (.ref z) 2>>=_) _ _ _
 refine Ft (Hh hz rfl (x:=.bool false) rfl ?_)
 show wpAny _ _ (HR (.ref z) 3>>=_) _ _ _
 refine Ft (Hh hz rfl (x:=.ref TI) rfl (Ft (Ik ab rfl ?_)))
 show wpAny _ _ (LY (.ref z)>>=_) _ _ _
 refine Ft ?_
 unfold LY
 refine Ft (Hh hz rfl (x:=.none) rfl (FS ?_))
 simp only[if_true]
 refine Ft (Lz (Ft (Hh hz rfl (x:=.ref TO) rfl (Ft (Ku hz (by simp) λg1 O b1=>Ft ?_)))))
 replace O:GY g1 z TI TO .ellipsis:=O
 simp only[Pa,Pb,KN,MV]
 have s1:=h1.but b1.extBut D.i1z D.l1z
 refine Ft (Ft (LZ ?_))
 show wpAny _ _ (IC (.ref i1)>>=_) _ _ _
 cases hx:xs[k1]? with
 | none=>
  refine Ft (wO hh s1.it s1.tp hx λg2 e U ⟨oe,j,J⟩=>?_)
  have z2:GY g2 z TI TO .ellipsis:=U _ _ D.i1z.symm O
  have Y:e≠z:=λq=>by subst q;rw[z2]at j;cases j;simp at J
  exact Ku z2 (by simp) λg3 _ Z=>hE g3 e (λc o c1 _ c3 _ q=>Z.extBut _ _ c1 (U _ _ c3 (b1.extBut _ _ c1 q))) ⟨oe,Z.extBut _ _ Y j,J⟩
 | some x=>
  have hy:ys[k2]?=none:=aa.resolve_left (by rw[hx];simp)
  refine Ft (wK s1.it s1.tp hx λg2 n1 U=>FS ?_)
  have t2:GB g2 TO a b:=U.extBut _ _ D.TOi1 (b1.extBut _ _ D.TOz ac)
  refine Ft (Ik t2 rfl (Ft (M9 t2 λg3 t3 Z=>Ft (Na (FS ?_)))))
  have s2:=((h2.but b1.extBut D.i2z D.l2z).but U.extBut D.i12.symm D.l2i1).but Z.extBut D.TOi2.symm D.l2TO
  refine Ft (Ft (LZ ?_))
  show wpAny _ _ (IC (.ref i2)>>=_) _ _ _
  refine Ft (wO hh s2.it s2.tp hy λg4 e b4 ⟨oe,j,J⟩=>?_)
  have z4:GY g4 z TI TO .ellipsis:=b4 _ _ D.i2z.symm (Z.extBut _ _ D.TOz.symm (U.extBut _ _ D.i1z.symm O))
  have Y:e≠z:=λq=>by subst q;rw[z4]at j;cases j;simp at J
  exact Ku z4 (by simp) λg5 _ b5=>hE g5 e (λc o c1 c2 c3 c4 q=>b5.extBut _ _ c1 (b4 _ _ c4 (Z.extBut _ _ c2 (U.extBut _ _ c3 (b1.extBut _ _ c1 q))))) ⟨oe,b5.extBut _ _ Y j,J⟩
def Vf{z TI TO i1 i2 l1 l2:Fo}{j J:Nat}{xs ys:Array Fl}{x y a b:Fl}{Q:Option Fl->Fq->Prop}(D:K4 z TI TO i1 i2 l1 l2) 
  (Y:GY s.heap z TI TO .none) (O:GB s.heap TI (.ref i1) (.ref i2)) (U:GB s.heap TO a b)
  (h1:TSide s.heap i1 l1 j xs) (h2:TSide s.heap i2 l2 J ys) (hx:xs[j]?=some x) (hy:ys[J]?=some y)
  (hQ:∀h',GY h' z TI TO (Ib s.heap.objs.size)->GB h' TO x y->h'.IsTupleIter i1 l1 (j+1)->h'.IsTupleIter i2 l2 (J+1)->GB h' s.heap.objs.size x y->h'.objs.size=s.heap.objs.size+1->
   (∀c o,c≠z->c≠TO->c≠i1->c≠i2->s.heap.get? c=some o->h'.get? c=some o)->Q (some (.ref s.heap.objs.size)) {s with heap:=h'}) :
  wpAny (Fx prog w) A (Hu (.ref z)) Q E s:=by
 have Z:s.TypeIs (.ref z) "zip":=⟨_,Y,rfl⟩
 unfold Hu
 exact Ft (KQ (Kj (name:=HQ "__next__") Z L0
  (Kk L0 Z Pd
   (Qa D Y O U h1 h2 hx hy λh' a1 a2 a3 a4 a5 a6 a7=>FS (hQ h' a1 a2 a3 a4 a5 a6 a7)) (Pe _))))
def Ul{z TI TO i1 i2 l1 l2:Fo}{U Y:Nat}{xs ys:Array Fl}{a b:Fl}{Q:Option Fl->Fq->Prop}(hh:A.handled=none)(D:K4 z TI TO i1 i2 l1 l2) 
  (Z:GY s.heap z TI TO .none) (J:GB s.heap TI (.ref i1) (.ref i2)) (O:GB s.heap TO a b)
  (h1:TSide s.heap i1 l1 U xs) (h2:TSide s.heap i2 l2 Y ys) (j:xs[U]?=none\/ys[Y]?=none)
  (hQ:∀h',(∀c o,c≠z->c≠TO->c≠i1->c≠i2->s.heap.get? c=some o->h'.get? c=some o)->Q none {s with heap:=h'}):wpAny (Fx prog w) A (Hu (.ref z)) Q E s:=by
 have hT:s.TypeIs (.ref z) "zip":=⟨_,Z,rfl⟩
 unfold Hu
 refine Ft (KQ (Kj (name:=HQ "__next__") hT L0
  (Kk L0 hT Pd (JD hh D Z J O h1 h2 j λh' e hk ⟨o,ho,hc⟩=>?_) (Pe _))))
 exact Ft (KR (T:="StopIteration") (b:=true) ⟨o,ho,hc⟩ MQ (FS (hQ _ hk)))
abbrev tIt(l:Fo):FD:={cls:=.type "tuple_iterator",data:=.fields #[.ref l,.int 0 0]}
def Qb(l1 l2:Fo)(xs ys:Array Fl):
  Kl (HU.«zip.__new__» ⟨[.type "zip",.ref l1,.ref l2],[]⟩) (λ_ R s=>s.heap.IsTuple l1 xs/\s.heap.IsTuple l2 ys/\
   ∀a b c d h',a=s.heap.objs.size->b=a+1->c=a+2->d=a+3->h'=((((s.heap.push (tIt l1)).push (tIt l2)).push {cls:=.type "tuple",data:=.seq #[.ref a,.ref b]}).push {cls:=.type "tuple",data:=.seq #[.none,.none]}).push {cls:=.type "zip",data:=.fields #[.none,.bool false,.bool false,.ref c,.ref d]}->R (.ok (.ret (.ref (a+4)))) {s with heap:=h'}) :=
 .of_wp λprog w A R s h=>by
  obtain⟨hp,g,d,tk,os⟩:=s;obtain⟨hl1,hl2,h⟩:=h
  have hsub:=sub_zip
  have hL1:MO (MP ⟨hp,g,d,tk,os⟩) l1 xs:=hl1
  have hL2:MO (MP ⟨hp.push {cls:=.type "tuple_iterator",data:=.fields #[.ref l1,.int 0 0]},g,d,tk,os⟩) l2 ys:=hl2.push _
  wp_walk using IP hL1,IP hL2
  have e1:∀(h:Fz) (o:FD),(h.push o).objs.size=h.objs.size+1:=λh o=>HH ..
  refine⟨_,rfl,?_⟩
  have:=h hp.objs.size (hp.objs.size+1) (hp.objs.size+2) (hp.objs.size+3) _ rfl rfl rfl rfl rfl
  simp only[e1]at this ⊢
  exact this
end
end L2
namespace L2
open PySem PySem.Spec PyProof.Rows
section
variable {prog:FI} {w:FB} {A:FW} {E:Fl->Fq->Prop} {s:Fq}
def eM{l1 l2:Fo}{xs ys:Array Fl}{Q:Fl->Fq->Prop}(J:s.heap.IsTuple l1 xs)(O:s.heap.IsTuple l2 ys) 
  (h:∀h',GY h' (s.heap.objs.size+4) (s.heap.objs.size+2) (s.heap.objs.size+3) .none->GB h' (s.heap.objs.size+2) (.ref s.heap.objs.size) (.ref (s.heap.objs.size+1))->
   GB h' (s.heap.objs.size+3) .none .none->h'.IsTupleIter s.heap.objs.size l1 0->h'.IsTupleIter (s.heap.objs.size+1) l2 0->
   (∀c o,s.heap.get? c=some o->h'.get? c=some o)->Q (.ref (s.heap.objs.size+4)) {s with heap:=h'}) :
  wpAny (Fx prog w) A (call (.type "zip") [.ref l1,.ref l2]) Q E s:=by
 refine callType_new F.called_zip (by decide) (F.typeCall_zip_2 _ _) (F.newCall_zip_2 _ _) (λU=>F.args_object_init_3 U _ _) F.entry_zip_new
  (Qb l1 l2 xs ys) ⟨J,O,?_⟩
 intro a b c d h' Z eb ec ed eh
 have z:∀(h:Fz) (o:FD),(h.push o).objs.size=h.objs.size+1:=λh o=>HH ..
 have j:∀(h:Fz) (o:FD) (n:Fo),n=h.objs.size->o.isFreed=false->(h.push o).get? n=some o:=λh o n e q=>by rw[e];exact Gr _ q
 subst Z eb ec ed eh
 have Y:(((((s.heap.push (tIt l1)).push (tIt l2)).push {cls:=.type "tuple",data:=.seq #[.ref s.heap.objs.size,.ref (s.heap.objs.size+1)]}).push {cls:=.type "tuple",data:=.seq #[.none,.none]}).push {cls:=.type "zip",data:=.fields #[.none,.bool false,.bool false,.ref (s.heap.objs.size+2),.ref (s.heap.objs.size+3)]}).get? (s.heap.objs.size+4)=some _:=j _ _ _ (by simp only[z]) rfl
 have g4:(((((s.heap.push (tIt l1)).push (tIt l2)).push {cls:=.type "tuple",data:=.seq #[.ref s.heap.objs.size,.ref (s.heap.objs.size+1)]}).push {cls:=.type "tuple",data:=.seq #[.none,.none]}).push {cls:=.type "zip",data:=.fields #[.none,.bool false,.bool false,.ref (s.heap.objs.size+2),.ref (s.heap.objs.size+3)]}).get? (s.heap.objs.size+3)=some _:=FQ _ (j _ _ _ (by simp only[z]) rfl)
 have g3:(((((s.heap.push (tIt l1)).push (tIt l2)).push {cls:=.type "tuple",data:=.seq #[.ref s.heap.objs.size,.ref (s.heap.objs.size+1)]}).push {cls:=.type "tuple",data:=.seq #[.none,.none]}).push {cls:=.type "zip",data:=.fields #[.none,.bool false,.bool false,.ref (s.heap.objs.size+2),.ref (s.heap.objs.size+3)]}).get? (s.heap.objs.size+2)=some _:=FQ _ (FQ _ (j _ _ _ (by simp only[z]) rfl))
 have g2:(((((s.heap.push (tIt l1)).push (tIt l2)).push {cls:=.type "tuple",data:=.seq #[.ref s.heap.objs.size,.ref (s.heap.objs.size+1)]}).push {cls:=.type "tuple",data:=.seq #[.none,.none]}).push {cls:=.type "zip",data:=.fields #[.none,.bool false,.bool false,.ref (s.heap.objs.size+2),.ref (s.heap.objs.size+3)]}).get? (s.heap.objs.size+1)=some _:=FQ _ (FQ _ (FQ _ (j _ _ _ (by simp only[z]) rfl)))
 have g1:(((((s.heap.push (tIt l1)).push (tIt l2)).push {cls:=.type "tuple",data:=.seq #[.ref s.heap.objs.size,.ref (s.heap.objs.size+1)]}).push {cls:=.type "tuple",data:=.seq #[.none,.none]}).push {cls:=.type "zip",data:=.fields #[.none,.bool false,.bool false,.ref (s.heap.objs.size+2),.ref (s.heap.objs.size+3)]}).get? s.heap.objs.size=some _:=FQ _ (FQ _ (FQ _ (FQ _ (j _ _ _ rfl rfl))))
 exact⟨⟨_,Y,rfl⟩,h _ Y g3 g4 ⟨_,g1,rfl,rfl⟩ ⟨_,g2,rfl,rfl⟩ λc o q=>
  FQ _ (FQ _ (FQ _ (FQ _ (FQ _ q))))⟩
end
end L2
namespace L2
open PySem PySem.Spec PyProof.Rows
structure ZipRecT (z TI TO i1 i2 l1 l2:Fo) (i:Nat) (h:Fz):Prop where
 hz:GY h z TI TO .none
 hTI:GB h TI (.ref i1) (.ref i2)
 hTO:∃a b,GB h TO a b
 h1:h.IsTupleIter i1 l1 i
 h2:h.IsTupleIter i2 l2 i
 d1:l1≠z/\l1≠TO/\l1≠i1/\l1≠i2
 d2:l2≠z/\l2≠TO/\l2≠i1/\l2≠i2
def ZipRecT.apart{z TI TO i1 i2 l1 l2:Fo}{i:Nat}{h:Fz}(R:ZipRecT z TI TO i1 i2 l1 l2 i h)(D:ZipDiff z TI TO i1 i2):K4 z TI TO i1 i2 l1 l2 :=
 ⟨D.TIz,D.TOz,D.i1z,D.i2z,D.TITO,D.TIi1,D.TIi2,D.TOi1,D.TOi2,D.i12,R.d1.1,R.d1.2.1,R.d1.2.2.1,R.d1.2.2.2,R.d2.1,R.d2.2.1,R.d2.2.2.1,R.d2.2.2.2⟩
def mP{P:FI}{w:FB}{K:Fs}{elts:List Fu}{k:Nat}{tp:FG}{z TI TO i1 i2 l1 l2:Fo}(D:ZipDiff z TI TO i1 i2):
  Turn P w K (.Tuple elts k tp) (Itz (λH xs=>SqT K H l1 xs) λH ys=>SqT K H l2 ys) [z,TI,TO,i1,i2] z (ZipRecT z TI TO i1 i2 l1 l2) where
 mem:=by simp
 obj:=λi h R b hb=>by
  obtain⟨a,b',hTO⟩:=R.hTO
  obtain⟨o1,e1,c1,d1⟩:=R.h1
  obtain⟨o2,e2,c2,d2⟩:=R.h2
  simp only[FL,IX,or_false]at hb
  rcases hb with q|q|q|q|q
  ·rw[q];exact⟨_,R.hz,λv z=>by
    have z':Data.fields _=Data.cell v:=z
    cases z'⟩
  ·rw[q];exact⟨_,R.hTI,λv z=>by
    have z':Data.seq _ _=Data.cell v:=z
    cases z'⟩
  ·rw[q];exact⟨_,hTO,λv z=>by
    have z':Data.seq _ _=Data.cell v:=z
    cases z'⟩
  ·rw[q];exact⟨_,e1,λv z=>by rw[d1]at z;cases z⟩
  ·rw[q];exact⟨_,e2,λv z=>by rw[d2]at z;cases z⟩
 keep:=λi h h' R k=>⟨k z (by simp) _ R.hz,k TI (by simp) _ R.hTI,(by obtain⟨a,b,q⟩:=R.hTO;exact⟨a,b,k TO (by simp) _ q⟩),R.h1.at λo q=>k i1 (by simp) o q,R.h2.at λo q=>k i2 (by simp) o q,R.d1,R.d2⟩
 item:=by
  intro X hP hw hK hc i pins s σ H E I hf R hg
  subst hP hw hK
  obtain⟨xs,ys,x,y,hq1,hq2,hx,hy⟩:=hg
  obtain⟨its,rv1,p1,hz1⟩:=I.tuple hq1
  obtain⟨jts,rv2,p2,hz2⟩:=I.tuple hq2
  obtain⟨u,hu,ru⟩:=rv1.get hx
  obtain⟨v,hv,rv⟩:=rv2.get hy
  have D':=R.apart D
  obtain⟨a,b,hTO⟩:=R.hTO
  refine Vf D' R.hz R.hTI hTO ⟨R.h1,p1⟩ ⟨R.h2,p2⟩ (x:=u) (y:=v) (by simpa using hu) (by simpa using hv) λh' a1 a2 a3 a4 a5 a6 hk=>?_
  refine⟨_,rfl,wpAny_letOwnedTupleGo_zip a1 λh2 hz2' hs2=>?_⟩
  have lt:∀{c o},s.heap.get? c=some o->c≠s.heap.objs.size:=λe=>Gd (FV e)
  have hk2:∀b o,b∉ [z,TI,TO,i1,i2]->s.heap.get? b=some o->h2.get? b=some o:=λb o nb q=>by
   simp only[FL,IX,or_false,not_or]at nb
   exact(hs2.2 b nb.1).trans (hk b o nb.1 nb.2.2.1 nb.2.2.2.1 nb.2.2.2.2 q)
  have I2:=QV (tk':=s.toks) (cs:=[z,TI,TO,i1,i2]) (h':=h2) I (λb hb=>hf b hb) ru rv ((hs2.2 _ (FH (lt R.hz))).trans a5) hk2
  refine⟨.ref s.heap.objs.size,_,I2,rfl,⟨_,x,y,I.hok.fresh (FA _),rfl,rfl,λzs hz=>by rw[I.tuple_inj hz hq1];exact hx,λzs hz=>by rw[I.tuple_inj hz hq2];exact hy⟩,⟨hz2',(hs2.2 _ D.TIz).trans (hk _ _ D.TIz D.TITO D.TIi1 D.TIi2 R.hTI),⟨_,_,(hs2.2 _ D.TOz).trans a2⟩,a3.at λo q=>(hs2.2 _ D.i1z).trans q,a4.at λo q=>(hs2.2 _ D.i2z).trans q,R.d1,R.d2⟩,λb hb=>?_⟩
  have hb':wF X pins H b:=hf b hb
  obtain⟨o1,e1,_⟩:=R.h1
  obtain⟨o2,e2,_⟩:=R.h2
  rw[zd (λq=>?_)]
  ·exact hb'.1
  ·simp only[FL,IX,or_false]at hb
   rcases hb with q'|q'|q'|q'|q'
   ·exact lt R.hz (q'.symm.trans q)
   ·exact lt R.hTI (q'.symm.trans q)
   ·exact lt hTO (q'.symm.trans q)
   ·exact lt e1 (q'.symm.trans q)
   ·exact lt e2 (q'.symm.trans q)
 done:=by
  intro X hP hw hK hc i pins s σ H E I hf R hg
  subst hP hw hK
  obtain⟨xs,ys,hq1,hq2,hx⟩:=hg
  obtain⟨its,rv1,p1,hz1⟩:=I.tuple hq1
  obtain⟨jts,rv2,p2,hz2⟩:=I.tuple hq2
  have D':=R.apart D
  obtain⟨a,b,hTO⟩:=R.hTO
  have n1:=rv1.length
  have n2:=rv2.length
  refine Ul (I.ok.hd hc) D' R.hz R.hTI hTO ⟨R.h1,p1⟩ ⟨R.h2,p2⟩ (by
   rcases hx with hx|hx
   ·exact .inl (by simp;omega)
   ·exact .inr (by simp;omega)) λh' hk=>⟨rfl,V0 (cs:=[z,TI,TO,i1,i2]) I (λb hb=>hf b hb) λb o nb q=>?_⟩
  simp only[FL,IX,or_false,not_or]at nb
  exact hk b o nb.1 nb.2.2.1 nb.2.2.2.1 nb.2.2.2.2 q
 self:=λ_ _ _ _ _ R h=>Pg R.hz h
section
variable {X:Cx}
def Cp(K:Fs)(ta:TA):TI:=λσ H R=>ta σ H λvs H1=>∃a b,vs=[.ref a,.ref b]/\(∃xs,SqT K H1 a xs)/\(∃ys,SqT K H1 b ys)/\R (Itz (λH xs=>SqT K H a xs) λH ys=>SqT K H b ys) H1
def gE{a b:Fu}{ta:TA}{p pos tp:FG}{J:List Fu}{k:Nat}(hg:Gl X "zip")(hm:X.mg "zip"=none)(ha:PA X [a,b] ta)(hs:FK [a,b] X.env=[(false,FJ a X.env),(false,FJ b X.env)]:=by rfl)(O:FK [b] X.env=[(false,FJ b X.env)]:=by rfl):
  PI X (.Tuple J k tp) (.Call (.Name "zip" p) [a,b] [] pos) (Cp X.K ta):=by
 intro pins s σ H R I h
 refine Ke (vY I hg hm boot_zip (IQ (thn (ha pos pins s σ H _ I h) λus s1 ⟨vs,H1,U,r1,q1⟩=>?_) (by rw[hs,O]) (by rw[O];rfl)))
 obtain⟨l,l',e,⟨xs,hq⟩,⟨ys,ac⟩,q⟩:=q1
 subst e
 cases r1 with
 | cons r rr=>
  cases rr with
  | cons r' rr=>
   cases rr
   cases r
   cases r'
   obtain⟨its,rv,pt,hz⟩:=U.tuple hq
   obtain⟨ad,ae,Y,af⟩:=U.tuple ac
   have Z:l<s1.heap.objs.size:=by obtain⟨o,e,_⟩:=pt;exact FV e
   have aa:l'<s1.heap.objs.size:=by obtain⟨o,e,_⟩:=Y;exact FV e
   refine eM (xs:=its.toArray) (ys:=ad.toArray) pt Y λh' e1 e2 e3 e4 e5 hk=>?_
   refine Pg e1 ?_
   have I2:Inv X pins σ H1 {s1 with heap:=h'}:=U.kept (t':=s1.toks) hk
   generalize hn:s1.heap.objs.size=n at e1 e2 e3 e4 e5 Z aa
   have ap:∀{b:Fo},b<n->b≠n+4/\b≠n+3/\b≠n/\b≠n+1:=λ{b} j=>⟨λq=>by rw[q]at j;exact absurd j (by show ¬(n+4:Nat)<n;omega),λq=>by rw[q]at j;exact absurd j (by show ¬(n+3:Nat)<n;omega),λq=>by rw[q]at j;exact Gy _ j,λq=>by rw[q]at j;exact absurd j (by show ¬(n+1:Nat)<n;omega)⟩
   refine⟨n+4,[n+4,n+2,n+3,n,n+1],_,_,H1,rfl,I2,mP (z:=n+4) (TI:=n+2) (TO:=n+3) (i1:=n) (i2:=n+1) (l1:=l) (l2:=l') (oB n),⟨e1,e2,⟨_,_,e3⟩,e4,e5,ap Z,ap aa⟩,λb j=>?_,q⟩
   have ab:s1.heap.objs.size<=b:=by
    simp only[FL,IX,or_false]at j
    show(s1.heap.objs.size:Nat)<=(b:Nat)
    rw[hn]
    rcases j with z|z|z|z|z <;>rw[z]
    ·exact K3 n 4
    ·exact K3 n 2
    ·exact K3 n 3
    ·exact FA n
    ·exact K3 n 1
   exact U.fpOk ab (U.hok.fresh ab)
end
end L2
namespace Pq
open PySem PySem.Spec L2 DD
open PyProof.Rows hiding St
open Pt (zF getD_some yw ya Ys)
open Hop (zQ)
structure Ads where
 dx:Fo
 r1:Fo
 m1:Fo
 r2:Fo
 m2:Fo
 wn:Fo
 nu:Fo
 me:Fo
 mr:Fo
 ro:Fo
abbrev Z6(g:Ads):List (Fp×V):=[("one_rows",.ref g.r1),("one_marks",.ref g.m1),("other_rows",.ref g.r2),("other_marks",.ref g.m2),("wanted",.ref g.wn),("numbers",.ref g.nu),("met",.ref g.me),("marks",.ref g.mr),("rows",.ref g.ro)]
structure Par where
 r1:List (List Nat)
 b1:List Bool
 r2:List (List Nat)
 b2:List Bool
 wt:List (Bool×Bool)
def xn(p:Par)(s t:Nat):Bool:=p.wt.any λq=>q==(p.b1.getD s false,p.b2.getD t false)
structure PSt where
 nu:List Nat
 me:List Nat
 mr:List Bool
 rs:List Fo
 rows:List (List Nat)
def ut:Nat->List Nat->List (Key×V)
 | _,[]=>[]
 | k,p::r=>(Sum.inl (p:Int),V.int (k:Int))::ut (k+1) r
theorem cC:∀(o:List Nat) (k:Nat),(ut k o).length=o.length
 | [],_=>rfl
 | _::r,k=>by show(ut (k+1) r).length+1=_;rw[cC r];rfl
theorem uu(s:Nat):∀(l:List Nat) (k:Nat),xu (ut k l) (Sum.inl (s:Int))=if s∈l then some (.int ((k+l.idxOf s:Nat):Int))else none
 | [],_=>rfl
 | a::r,k=>by
  show xu (((Sum.inl (a:Int):Key),V.int (k:Int))::ut (k+1) r) _=_
  by_cases h:a=s
  ·subst h;rw[vN rfl];simp
  ·rw[vf (λz=>h (Ys.mp z)),uu s r]
   have:¬s=a:=λz=>h z.symm
   have j:(a==s)=false:=by simpa using h
   simp only[FL,this,false_or,Nb,j,cond_false]
   rw[show k+1+r.idxOf s=k+(r.idxOf s+1) by omega]
theorem Ji(p:Nat):∀(l:List Nat) (k:Nat),ut k (l++[p])=ut k l++[(Sum.inl (p:Int),V.int ((k+l.length:Nat):Int))]
 | [],k=>rfl
 | a::r,k=>by
  show _::ut (k+1) (r++[p])=_::(ut (k+1) r++_)
  rw[Ji p r,Gu,show k+1+r.length=k+(r.length+1) by omega]
def pf{p:Nat}{l:List Nat}(h:p∉l):x6 (ut 0 l) (Sum.inl (p:Int)) (V.int (l.length:Int))=ut 0 (l++[p]):=by
 rw[W5 _ (by rw[uu,if_neg h]),Ji,G4]
def Rw(F:Hp)(j:Fo)(rows:List (List Nat)):Prop:=∃rs:List Fo,F j=some (.tup (rs.map V.ref))/\rs.length=rows.length/\∀(i:Nat) a,rs[i]?=some a->F a=some (.tup (zF (rows.getD i [])))
def Rw.mono(h:Rw F j rows)(s:zm F F'):Rw F' j rows:=by
 obtain⟨rs,h1,h2,z⟩:=h
 exact⟨rs,s _ _ h1,h2,λi a e=>s _ _ (z i a e)⟩
abbrev wDs(wt:List (Bool×Bool)):List D:=wt.map λp=>D.tup [.bl p.1,.bl p.2]
inductive KPr (K:Fs):List Fo->List (Bool×Bool)->Prop where
 | nil:KPr K [] []
 | cons {b:Fo} {p:Bool×Bool} {as:List Fo} {wt:List (Bool×Bool)} (h:∀H,SqT K H b [.bl p.1,.bl p.2]) (t:KPr K as wt):KPr K (b::as) (p::wt)
structure KW (K:Fs) (a:Fo) (wt:List (Bool×Bool)):Prop where
 ex:∃as:List Fo,(∀H,SqT K H a (as.map V.ref))/\KPr K as wt
def ph(I:Inv X pins σ H s):∀{as:List Fo} {wt:List (Bool×Bool)} {us:List Fl},KPr X.K as wt->zC (as.map V.ref) us->∃bs,Km s.heap us (toPs (wDs wt)) bs:=by
 intro as wt us h
 induction h generalizing us with
 | nil=>intro r;cases r;exact⟨_,.nil⟩
 | cons h1 _ j=>
  intro r
  cases r with
  | cons r1 r2=>
   cases r1
   obtain⟨bs,z⟩:=j r2
   obtain⟨its,J,⟨o,e,O,n,U⟩,_⟩:=I.tuple (h1 H)
   cases J with
   | cons q1 q2=>
    cases q2 with
    | cons q2 Y=>
     cases Y
     cases q1
     cases q2
     exact⟨_,.cons (.tuple e O U (by simpa[toPs,toP]using ReadsAll.cons (.bool _) (.cons (.bool _) .nil))) z⟩
def Vg:Gm (toP (.tup [.bl a,.bl b]))=true:=by cases a <;>cases b <;>decide
theorem cD:∀(wt:List (Bool×Bool)) (q:Hw),q∈toPs (wDs wt)->Gm q=true
 | [],_,h=>by cases h
 | (c,d)::r,q,h=>by
  rw[wDs,FY,toPs]at h
  rcases FL.mp h with rfl|h
  ·exact Vg
  ·exact cD r q h
theorem mQ:∀wt:List (Bool×Bool),(toPs (wDs wt)).any (λq=>F8 q (toP (.tup [.bl a,.bl b])))=wt.any λq=>q==(a,b)
 | []=>rfl
 | (c,d)::r=>by
  rw[wDs,FY,toPs,HW,HW,mQ r]
  congr 1
  cases a <;>cases b <;>cases c <;>cases d <;>decide
def DT(K:Fs):R2:=λx y H Q=>∃t a wt c d,x=.ref t/\H t=some (.tup [.bl c,.bl d])/\y=.ref a/\KW K a wt/\Q (.bl (wt.any λq=>q==(c,d))) H
def AW(hu:X.A.units+128<Gi):OpR X (Gz .In) (DT X.K):=by
 rintro pins s σ H x y v u Q I z J ⟨t,a,wt,c,d,ex,O,U,⟨as,h1,h2⟩,Y⟩
 subst ex U
 cases z
 cases J
 have j:X.A.in1.units+64<Gi:=by show X.A.units+1+64<Gi;omega
 have Z:Is X.K H (.tup [.bl c,.bl d]) (.ref t):=by
  simp only[Is]
  exact⟨t,_,rfl,O,.cons (by simp[Is]) (.cons (by simp[Is]) .nil)⟩
 obtain⟨bs,rb⟩:=UQ I (zm.refl H) _ Z rfl (Hi Vg)
 obtain⟨its,rv,pl,hz⟩:=I.tuple (h1 H)
 obtain⟨cs,rs⟩:=ph I h2 rv
 refine Of (eqR s.heap (toP (.tup [.bl c,.bl d]))) pl (λw hw=>Yk rb Vg j rs (cD wt) w (by simpa using hw)) ⟨.bl _,H,I,rfl,?_⟩
 rw[show its.toArray.any (eqR s.heap (toP (.tup [.bl c,.bl d])))=its.any (eqR s.heap (toP (.tup [.bl c,.bl d]))) by simp,Yj rs (cD wt),mQ]
 exact Y
structure Rep (K:Fs) (C:Fo) (p:Par) (B F H:Hp) (x:Fo) (st:PSt) (g:Ads):Prop where
 bs:zm B F
 sm:zm F H
 ins:H x=some (.ins C g.dx (Z6 g))
 w1:Rw F g.r1 p.r1
 w2:Rw F g.r2 p.r2
 b1:F g.m1=some (.lst (p.b1.map V.bl))
 b2:F g.m2=some (.lst (p.b2.map V.bl))
 wn:KW K g.wn p.wt
 nu:H g.nu=some (.dK (ut 0 st.nu))
 me:H g.me=some (.lst (zF st.me))
 mr:H g.mr=some (.lst (st.mr.map V.bl))
 ro:H g.ro=some (.lst (st.rs.map V.ref))
 rl:st.rs.length=st.rows.length
 rr:∀(i:Nat) a,st.rs[i]?=some a->F a=some (.tup (zF (st.rows.getD i [])))
 rb:∀a∈st.rs,B a=none
 n1:g.me≠g.mr
 n2:g.me≠g.ro
 n3:g.mr≠g.ro
 f0:F x=none
 f1:F g.nu=none
 f2:F g.me=none
 f3:F g.mr=none
 f4:F g.ro=none
section
variable {K:Fs} {C:Fo} {p:Par} {B F H:Hp} {x:Fo} {st:PSt} {g:Ads}
def Rep.nx(r:Rep K C p B F H x st g)(h:H q=some (.lst xs)):x≠q:=vX r.ins h (λz=>nomatch z)
def Rep.nxd(r:Rep K C p B F H x st g):x≠g.nu:=vX r.ins r.nu (λz=>nomatch z)
def Rep.nn(r:Rep K C p B F H x st g)(h:H q=some (.lst xs)):g.nu≠q:=vX r.nu h (λz=>nomatch z)
def Rep.setNu(r:Rep K C p B F H x st g)(l:List Nat):Rep K C p B F (upd H g.nu (.dK (ut 0 l))) x {st with nu:=l} g :=
 {r with
  sm:=yw r.sm r.f1 _
  ins:=by rw[zd r.nxd];exact r.ins
  nu:=zj
  me:=by rw[zd (FH (r.nn r.me))];exact r.me
  mr:=by rw[zd (FH (r.nn r.mr))];exact r.mr
  ro:=by rw[zd (FH (r.nn r.ro))];exact r.ro}
def Rep.setMe(r:Rep K C p B F H x st g)(l:List Nat):Rep K C p B F (upd H g.me (.lst (zF l))) x {st with me:=l} g :=
 {r with
  sm:=yw r.sm r.f2 _
  ins:=by rw[zd (r.nx r.me)];exact r.ins
  nu:=by rw[zd (r.nn r.me)];exact r.nu
  me:=zj
  mr:=by rw[zd (FH r.n1)];exact r.mr
  ro:=by rw[zd (FH r.n2)];exact r.ro}
def Rep.setMk(r:Rep K C p B F H x st g)(l:List Bool):Rep K C p B F (upd H g.mr (.lst (l.map V.bl))) x {st with mr:=l} g :=
 {r with
  sm:=yw r.sm r.f3 _
  ins:=by rw[zd (r.nx r.mr)];exact r.ins
  nu:=by rw[zd (r.nn r.mr)];exact r.nu
  me:=by rw[zd r.n1];exact r.me
  mr:=zj
  ro:=by rw[zd (FH r.n3)];exact r.ro}
def Rep.setRo(r:Rep K C p B F H x st g){t:Fo}{row:List Nat}(ht:F t=some (.tup (zF row)))(hb:B t=none):Rep K C p B F (upd H g.ro (.lst ((st.rs++[t]).map V.ref))) x {st with rs:=st.rs++[t],rows:=st.rows++[row]} g :=
 {r with
  sm:=yw r.sm r.f4 _
  ins:=by rw[zd (r.nx r.ro)];exact r.ins
  nu:=by rw[zd (r.nn r.ro)];exact r.nu
  me:=by rw[zd r.n2];exact r.me
  mr:=by rw[zd r.n3];exact r.mr
  ro:=zj
  rl:=by simp[r.rl]
  rb:=λa ha=>by
   rcases Gk.mp ha with q|q
   ·exact r.rb a q
   ·rw[Gf.mp q];exact hb
  rr:=λi a h=>by
   show F a=some (.tup (zF ((st.rows++[row]).getD i [])))
   rw[FM]
   by_cases hi:i<st.rs.length
   ·rw[GK hi]at h
    rw[GK (by rw[<-r.rl];exact hi),<-FM]
    exact r.rr i a h
   ·have hl:=(FO.mp h).1
    simp at hl
    have e:i=st.rs.length:=by omega
    subst e
    rw[r.rl]
    have:a=t:=by simpa using h.symm
    subst this
    simpa using ht}
def Rep.ext(r:Rep K C p B F H x st g)(z:H t=none)(o:HO):Rep K C p B (upd F t o) (upd H t o) x st g:=by
 have s:zm F (upd F t o):=zz (r.sm.free z) _
 have j:∀{q:Fo} {u:HO},H q=some u->q≠t:=λh=>zn h z
 refine⟨r.bs.trans s,λb u q=>?_,by rw[zd (j r.ins)];exact r.ins,r.w1.mono s,r.w2.mono s,s _ _ r.b1,s _ _ r.b2,r.wn,by rw[zd (j r.nu)];exact r.nu,by rw[zd (j r.me)];exact r.me,by rw[zd (j r.mr)];exact r.mr,by rw[zd (j r.ro)];exact r.ro,r.rl,λi a h=>s _ _ (r.rr i a h),r.rb,r.n1,r.n2,r.n3,by rw[zd (j r.ins)];exact r.f0,by rw[zd (j r.nu)];exact r.f1,by rw[zd (j r.me)];exact r.f2,by rw[zd (j r.mr)];exact r.f3,by rw[zd (j r.ro)];exact r.f4⟩
 by_cases e:b=t
 ·subst e;rw[zj]at q ⊢;exact q
 ·rw[zd e]at q ⊢;exact r.sm b u q
end
structure PCl (K:Fs) (C:Fo):Prop where
 cl:Cls K C
 n1:xr K C "one_rows"
 n2:xr K C "one_marks"
 n3:xr K C "other_rows"
 n4:xr K C "other_marks"
 n5:xr K C "wanted"
 n6:xr K C "numbers"
 n7:xr K C "met"
 n8:xr K C "marks"
 n9:xr K C "rows"
end Pq
namespace Pq
open PySem PySem.Spec L2 DD
open PyProof.Rows hiding St
open Pt (zF getD_some xP yp v9)
open Hop (OkR)
noncomputable def Qc (A:Nat) (rows:List (List Nat)):Bool:=decide (0<rows.length) && rows.all λr=>decide (r.length=A) && r.all λg=>decide (g<rows.length)
def gF{A:Nat}{rows:List (List Nat)}(h:Qc A rows=true):OkR A rows:=by
 unfold Qc at h
 rw[G0,decide_eq_true_eq,GR]at h
 obtain⟨h0,h1⟩:=h
 have row:∀s,s<rows.length->(rows.getD s []).length=A/\∀g∈rows.getD s [],g<rows.length:=λs hs=>by
  have e:rows.getD s []=rows[s]:=by rw[FM,FU hs];rfl
  rw[e]
  have:=h1 _ (GF hs)
  rw[G0,decide_eq_true_eq,GR]at this
  exact⟨this.1,λg hg=>of_decide_eq_true (this.2 g hg)⟩
 exact⟨h0,λs hs=>(row s hs).1,λa s ha hs=>(row s hs).2 _ (Hop.wb (by rw[(row s hs).1];exact ha))⟩
def mR{A:Nat}{rows:List (List Nat)}(h:OkR A rows):Qc A rows=true:=by
 unfold Qc
 rw[G0,decide_eq_true_eq,GR]
 refine⟨h.pos,λr hr=>?_⟩
 obtain⟨s,hs,rfl⟩:=GE.mp hr
 have e:rows.getD s []=rows[s]:=by rw[FM,FU hs];rfl
 have hl:=h.len s hs
 rw[e]at hl
 rw[G0,decide_eq_true_eq,GR]
 refine⟨hl,λg hg=>?_⟩
 obtain⟨a,ha,rfl⟩:=GE.mp hg
 have:=h.lt a s (by omega) hs
 have e2:Hop.dl rows a s=rows[s][a]:=by
  show(rows.getD s []).getD a 0=_
  rw[e,Hop.yN ha]
 rw[e2]at this
 exact decide_eq_true this
noncomputable def Um:D->Option Int
 | .tup (.int a::_)=>some a
 | _=>none
noncomputable def cE:D->Option (Int×List (List Nat))
 | .tup [.int a,.tup R,_]=>(xP R).map λr=>(a,r)
 | _=>none
noncomputable def cF:D->Option (List Bool)
 | .lst B=>yp B
 | _=>none
noncomputable def cG (a b:Int) (j p2:Int×List (List Nat)) (z J:List Bool):Bool:=decide (a=b/\j.1=a/\p2.1=a/\0<=a/\a<2^22/\z.length=j.2.length/\J.length=p2.2.length/\j.2.length*p2.2.length<2^22) && (Qc a.toNat j.2 && Qc a.toNat p2.2)
noncomputable abbrev xK (rows:List (List Nat)):List D:=rows.map λr=>D.tup (r.map λ(n:Nat)=>D.int (n:Int))
noncomputable abbrev ua (p:Par):List D:=((Hop.zZ p.r1 p.r2).map λq=>xn p (q/p.r2.length) (q%p.r2.length)).map D.bl
noncomputable def wP (wt:List (Bool×Bool)) (ck ls mm lr:List D->Option D):List D->Option D:=λds=>match ds with
 | [one,oth]=>(Um one).bind λa=>(Um oth).bind λb=>(ck [one]).bind λ_=>(ck [oth]).bind λ_=>(ls [one]).bind λl1=>(ls [oth]).bind λl2=>(cE l1).bind λp1=>(cE l2).bind λp2=>(mm [l1]).bind λB1=>(mm [l2]).bind λB2=>(cF B1).bind λb1=>(cF B2).bind λb2=>
  if cG a b p1 p2 b1 b2=true then lr [.int a,.lst (xK (Hop.yR p1.2 p2.2)),.lst (ua ⟨p1.2,b1,p2.2,b2,wt⟩)]else none
 | _=>none
structure JOk (ck ls mm:List D->Option D) (one oth:D) (p:Par) (A:Nat):Prop where
 ex:∃t1 t2 c1 c2 R1 R2 G1 G2 B1 B2,one=.tup (.int (A:Int)::t1)/\oth=.tup (.int (A:Int)::t2)/\ck [one]=some c1/\ck [oth]=some c2/\ls [one]=some (.tup [.int (A:Int),.tup R1,G1])/\ls [oth]=some (.tup [.int (A:Int),.tup R2,G2])/\
  xP R1=some p.r1/\xP R2=some p.r2/\mm [.tup [.int (A:Int),.tup R1,G1]]=some (.lst B1)/\mm [.tup [.int (A:Int),.tup R2,G2]]=some (.lst B2)/\yp B1=some p.b1/\yp B2=some p.b2
 ok1:OkR A p.r1
 ok2:OkR A p.r2
 l1:p.b1.length=p.r1.length
 l2:p.b2.length=p.r2.length
 sz:p.r1.length*p.r2.length<2^22
 az:A<2^22
def cH{d:D}{a:Int}(h:Um d=some a):∃t,d=.tup (.int a::t):=by
 unfold Um at h
 split at h
 ·cases h;exact⟨_,rfl⟩
 ·cases h
def gG{d:D}{q:Int×List (List Nat)}(h:cE d=some q):∃R G,d=.tup [.int q.1,.tup R,G]/\xP R=some q.2:=by
 unfold cE at h
 split at h
 ·obtain⟨r,j,rfl⟩:=Hx.mp h
  exact⟨_,_,rfl,j⟩
 ·cases h
def gH(h:cF d=some b):∃B,d=.lst B/\yp B=some b:=by
 unfold cF at h
 split at h
 ·exact⟨_,rfl,h⟩
 ·cases h
def wH{wt:List (Bool×Bool)}{ck ls mm lr:List D->Option D}{ds:List D}{d:D}(h:wP wt ck ls mm lr ds=some d):∃one oth p A,ds=[one,oth]/\p.wt=wt/\JOk ck ls mm one oth p A/\lr [.int (A:Int),.lst (xK (Hop.yR p.r1 p.r2)),.lst (ua p)]=some d:=by
 unfold wP at h
 split at h
 ·rename_i one oth
  obtain⟨a,ha,h⟩:=G6.mp h
  obtain⟨b,hb,h⟩:=G6.mp h
  obtain⟨c1,hc1,h⟩:=G6.mp h
  obtain⟨c2,hc2,h⟩:=G6.mp h
  obtain⟨l1,hl1,h⟩:=G6.mp h
  obtain⟨l2,hl2,h⟩:=G6.mp h
  obtain⟨p1,hp1,h⟩:=G6.mp h
  obtain⟨p2,hp2,h⟩:=G6.mp h
  obtain⟨B1,hB1,h⟩:=G6.mp h
  obtain⟨B2,hB2,h⟩:=G6.mp h
  obtain⟨b1,hb1,h⟩:=G6.mp h
  obtain⟨b2,hb2,h⟩:=G6.mp h
  by_cases hc:cG a b p1 p2 b1 b2=true
  ·rw[if_pos hc]at h
   have hfin:=h
   unfold cG at hc
   rw[G0,G0,decide_eq_true_eq]at hc
   obtain⟨⟨e1,e2,e3,a0,a1,q1,q2,q3⟩,o1,o2⟩:=hc
   obtain⟨t1,rfl⟩:=cH ha
   obtain⟨t2,rfl⟩:=cH hb
   obtain⟨R1,G1,rfl,hR1⟩:=gG hp1
   obtain⟨R2,G2,rfl,hR2⟩:=gG hp2
   obtain⟨B1',rfl,hB1'⟩:=gH hb1
   obtain⟨B2',rfl,hB2'⟩:=gH hb2
   have ea:((a.toNat:Nat):Int)=a:=LH a0
   rw[e2]at hl1 hB1
   rw[e3]at hl2 hB2
   rw[<-e1]at hc2 hl2
   refine⟨_,_,⟨p1.2,b1,p2.2,b2,wt⟩,a.toNat,rfl,rfl,⟨⟨t1,t2,c1,c2,R1,R2,G1,G2,B1',B2',?_⟩,gF o1,gF o2,q1,q2,q3,by omega⟩,?_⟩
   ·rw[ea,<-e1];exact⟨rfl,rfl,hc1,hc2,hl1,hl2,hR1,hR2,hB1,hB2,hB1',hB2'⟩
   ·rw[ea];exact hfin
  ·rw[if_neg hc]at h;cases h
 ·cases h
def cI{wt:List (Bool×Bool)}{ck ls mm lr:List D->Option D}{one oth:D}{p:Par}{A:Nat}(hw:p.wt=wt)(J:JOk ck ls mm one oth p A):wP wt ck ls mm lr [one,oth]=lr [.int (A:Int),.lst (xK (Hop.yR p.r1 p.r2)),.lst (ua p)]:=by
 obtain⟨t1,t2,c1,c2,R1,R2,G1,G2,B1,B2,rfl,rfl,h1,h2,h3,h4,h5,h6,h7,h8,h9,h10⟩:=J.ex
 have hc:cG (A:Int) (A:Int) ((A:Int),p.r1) ((A:Int),p.r2) p.b1 p.b2=true:=by
  unfold cG
  rw[G0,G0,decide_eq_true_eq]
  have:=J.az
  exact⟨⟨rfl,rfl,rfl,by omega,by omega,J.l1,J.l2,J.sz⟩,mR J.ok1,mR J.ok2⟩
 unfold wP
 simp only[Um,FZ,h1,h2,h3,h4,cE,h5,h6,HK,h7,h8,cF,h9,h10,hc,if_true]
 rw[<-hw]
end Pq
namespace Pu
section
variable {α ρ ρ':Type} {f:α->Sum ρ α} {g:α->Sum ρ' α} {φ:ρ->ρ'} {S:α->Prop}
theorem Qd (j:∀x,S x->∀y,f x=.inr y->S y) (z:∀x,S x->g x=match f x with
  | .inl r=>.inl (φ r)
  | .inr y=>.inr y):∀(k:Nat) (a:α),S a->run g k a=match run f k a with
  | .inl r=>.inl (φ r)
  | .inr y=>.inr y
 | 0,a,_=>rfl
 | k+1,a,J=>by
  have:=z a J
  cases q:f a with
  | inl r=>rw[q]at this;rw[wa _ q,wa _ this]
  | inr b=>rw[q]at this;rw[yT _ q,yT _ this];exact Qd j z k b (j a J b q)
def gI {rd:ρ} (J:∀x,S x->∀y,f x=.inr y->S y) (O:∀x,S x->g x=match f x with
  | .inl r=>.inl (φ r)
  | .inr y=>.inr y) {a:α} (U:S a):sem g (φ rd) a=φ (sem f rd a):=by
 by_cases z:∃x,xW f a x
 ·obtain⟨x,z⟩:=z
  rw[xc z]
  obtain⟨k,j⟩:=z
  refine xc ⟨k,?_⟩
  rw[Qd J O k a U,j]
 ·rw[xm (f:=f) λx q=>z ⟨x,q⟩]
  refine xm λx ⟨k,j⟩=>?_
  rw[Qd J O k a U]at j
  cases q:run f k a with
  | inl r=>exact z ⟨r,k,q⟩
  | inr y=>rw[q]at j;cases j
end
def mS{α ρ:Type}{f g:α->Sum ρ α}{S:α->Prop}{rd:ρ}(j:∀x,S x->∀y,f x=.inr y->S y)(z:∀x,S x->g x=f x){a:α}(J:S a):sem g rd a=sem f rd a :=
 gI (φ:=id) (S:=S) j (λx O=>by rw[z x O];cases f x <;>rfl) J
def wp:List Nat->List Nat->Bool
 | [],[]=>false
 | [],_::_=>true
 | _::_,[]=>false
 | x::xs,y::ys=>if x=y then wp xs ys else decide (x<y)
theorem WS:∀xs ys,wp xs ys=true->wp ys xs=false
 | [],[],h=>by cases h
 | [],_::_,_=>rfl
 | _::_,[],h=>by cases h
 | x::xs,y::ys,h=>by
  unfold wp at h ⊢
  by_cases e:x=y
  ·rw[if_pos e]at h;rw[if_pos e.symm];exact WS xs ys h
  ·rw[if_neg e]at h;rw[if_neg (FH e)];simp at h ⊢;omega
theorem WT:∀xs ys zs,wp xs ys=true->wp ys zs=true->wp xs zs=true
 | [],[],_,h,_=>by cases h
 | [],_::_,[],_,h=>by cases h
 | [],_::_,_::_,_,_=>rfl
 | _::_,[],_,h,_=>by cases h
 | _::_,_::_,[],_,h=>by cases h
 | x::xs,y::ys,z::zs,h,h'=>by
  unfold wp at h h' ⊢
  by_cases e:x=y
  ·rw[if_pos e]at h
   by_cases j:y=z
   ·rw[if_pos j]at h';rw[if_pos (e.trans j)];exact WT xs ys zs h h'
   ·rw[if_neg j]at h';rw[if_neg (by omega)];simp at h' ⊢;omega
  ·rw[if_neg e]at h
   by_cases j:y=z
   ·rw[if_pos j]at h';rw[if_neg (by omega)];simp at h ⊢;omega
   ·rw[if_neg j]at h';simp at h h';rw[if_neg (by omega)];simp;omega
theorem Uo:∀xs ys,xs.length=ys.length->wp xs ys=true->wp (xs++[a]) (ys++[b])=true
 | [],[],_,h=>by cases h
 | [],_::_,h,_=>by simp at h
 | _::_,[],h,_=>by simp at h
 | x::xs,y::ys,j,h=>by
  unfold wp at h
  show wp (x::(xs++[a])) (y::(ys++[b]))=true
  unfold wp
  by_cases e:x=y
  ·rw[if_pos e]at h ⊢;exact Uo xs ys (by simpa using j) h
  ·rw[if_neg e]at h ⊢;exact h
theorem Up(h:a<b):∀xs,wp (xs++[a]) (xs++[b])=true
 | []=>by show wp [a] [b]=true;unfold wp;rw[if_neg (by omega)];simpa using h
 | x::xs=>by show wp (x::(xs++[a])) (x::(xs++[b]))=true;unfold wp;rw[if_pos rfl];exact Up h xs
def slt(u v:List Nat):Prop:=u.length<v.length\/(u.length=v.length/\wp u v=true)
def sle(u v:List Nat):Prop:=u=v\/slt u v
def mT(h:slt u v)(h':slt v w):slt u w:=by
 rcases h with h|⟨h1,h2⟩ <;>rcases h' with h'|⟨j,z⟩
 ·exact .inl (by omega)
 ·exact .inl (by omega)
 ·exact .inl (by omega)
 ·exact .inr ⟨h1.trans j,WT u v w h2 z⟩
def X1(h:sle u v)(h':sle v w):sle u w:=by
 rcases h with rfl|h
 ·exact h'
 ·rcases h' with rfl|h'
  ·exact .inr h
  ·exact .inr (mT h h')
def uw(h:slt u v):slt (u++[a]) (v++[b]):=by
 rcases h with h|⟨h1,h2⟩
 ·exact .inl (by simp;omega)
 ·exact .inr ⟨by simp[h1],Uo u v h1 h2⟩
def ZE(h:a<b):slt (u++[a]) (u++[b]):=.inr ⟨by simp,Up h u⟩
def pi(h:sle u v):sle (u++[a]) (v++[a]):=by
 rcases h with rfl|h
 ·exact .inl rfl
 ·exact .inr (uw h)
def Yy:slt [] (u++[a]):=.inl (by simp)
section
variable {δ:Type} [DecidableEq δ] (done:List Nat->δ) (L:Nat)
def Xc(i b k a:Nat):Prop:=i<k\/(i=k/\b<a)
structure Bfs (ws:List (List Nat)) (k a:Nat):Prop where
 one:ws[0]?=some []
 nd:(ws.map done).Nodup
 sorted:∀(i j:Nat) (u v:List Nat),i<j->ws[i]?=some u->ws[j]?=some v->slt u v
 from_:∀(j:Nat) (x:List Nat),ws[j]?=some x->x=[]\/∃i b u,Xc i b k a/\ws[i]?=some u/\x=u++[b]
 good:∀x∈ws,∀y∈x,y<L
 closed:∀(i b:Nat) (u:List Nat),Xc i b k a->b<L->ws[i]?=some u->∃x∈ws,done x=done (u++[b])/\sle x (u++[b])
variable {done L}
def Bfs.start:Bfs done L [[]] 0 0 where
 one:=rfl
 nd:=by simp
 sorted:=λi j u v h h1 h2=>by
  have:=(FO.mp h2).1
  simp at this;omega
 from_:=λj x h=>by
  have:=Gj h
  simp at this;exact .inl this
 good:=λx hx y hy=>by simp at hx;rw[hx]at hy;exact nomatch hy
 closed:=λi b u h=>by rcases h with h|h <;>omega
def Uq(h:Xc i b k (a+1)):Xc i b k a\/(i=k/\b=a):=by
 rcases h with h|⟨h1,h2⟩
 ·exact .inl (.inl h)
 ·by_cases e:b=a
  ·exact .inr ⟨h1,e⟩
  ·exact .inl (.inr ⟨h1,by omega⟩)
def Ur(h:Xc i b k a):Xc i b k (a+1):=by
 rcases h with h|⟨h1,h2⟩
 ·exact .inl h
 ·exact .inr ⟨h1,by omega⟩
def Bfs.known{ws:List (List Nat)}{k a:Nat}{w:List Nat}(B:Bfs done L ws k a)(hw:ws[k]?=some w)(h:done (w++[a])∈ws.map done):Bfs done L ws k (a+1) where
 one:=B.one
 nd:=B.nd
 sorted:=B.sorted
 from_:=λj x hx=>by
  rcases B.from_ j x hx with h|⟨i,b,u,h1,h2⟩
  ·exact .inl h
  ·exact .inr ⟨i,b,u,Ur h1,h2⟩
 good:=B.good
 closed:=λi b u hb hL hu=>by
  rcases Uq hb with hb|⟨rfl,rfl⟩
  ·exact B.closed i b u hb hL hu
  ·rw[hw]at hu;cases hu
   obtain⟨x,hx,e⟩:=FX.mp h
   refine⟨x,hx,e,?_⟩
   obtain⟨j,hj⟩:=IY.mp hx
   rcases B.from_ j x hj with rfl|⟨i',b',u',h1,h2,rfl⟩
   ·exact .inr Yy
   ·rcases h1 with h1|⟨rfl,h1⟩
    ·exact .inr (uw (B.sorted i' i u' w h1 h2 hw))
    ·rw[hw]at h2;cases h2
     exact .inr (ZE h1)
def Bfs.fresh(B:Bfs done L ws k a)(ha:a<L)(O:ws[k]?=some w)(h:done (w++[a])∉ws.map done):Bfs done L (ws++[w++[a]]) k (a+1):=by
 have U:∀(j:Nat) (x:List Nat),ws[j]?=some x->(ws++[w++[a]])[j]?=some x:=λj x hx=>by
  rw[GK (FO.mp hx).1];exact hx
 have all:∀(j:Nat) (x:List Nat),(ws++[w++[a]])[j]?=some x->ws[j]?=some x\/(j=ws.length/\x=w++[a]):=λj x hx=>by
  by_cases hj:j<ws.length
  ·rw[GK hj]at hx;exact .inl hx
  ·rw[Ii (by omega)]at hx
   have:=(FO.mp hx).1
   simp at this
   have e:j=ws.length:=by omega
   subst e
   simp at hx
   exact .inr ⟨rfl,hx.symm⟩
 have aa:∀(j:Nat) (x:List Nat),ws[j]?=some x->slt x (w++[a]):=λj x hx=>by
  rcases B.from_ j x hx with rfl|⟨i',b',u',h1,h2,rfl⟩
  ·exact Yy
  ·rcases h1 with h1|⟨rfl,h1⟩
   ·exact uw (B.sorted i' k u' w h1 h2 O)
   ·rw[O]at h2;cases h2
    exact ZE h1
 refine⟨U 0 _ B.one,?_,λi j u v ab h1 h2=>?_,λj x hx=>?_,λx hx y J=>?_,λi b u Z hL Y=>?_⟩
 ·rw[GO,G3]
  refine⟨B.nd,by simp,λx hx y J=>?_⟩
  simp at J
  subst J
  exact λz=>h (z▸hx)
 ·rcases all j v h2 with h2|⟨rfl,rfl⟩
  ·have ac:=(FO.mp h2).1
   rcases all i u h1 with h1|⟨rfl,_⟩
   ·exact B.sorted i j u v ab h1 h2
   ·omega
  ·rcases all i u h1 with h1|⟨rfl,_⟩
   ·exact aa i u h1
   ·omega
 ·rcases all j x hx with hx|⟨rfl,rfl⟩
  ·rcases B.from_ j x hx with h|⟨i,b,u,h1,h2,h3⟩
   ·exact .inl h
   ·exact .inr ⟨i,b,u,Ur h1,U i u h2,h3⟩
  ·exact .inr ⟨k,a,w,.inr ⟨rfl,by omega⟩,U k w O,rfl⟩
 ·rcases Gk.mp hx with hx|hx
  ·exact B.good x hx y J
  ·simp at hx;subst hx
   rcases Gk.mp J with J|J
   ·exact B.good w (Gj O) y J
   ·simp at J;omega
 ·rcases Uq Z with Z|⟨rfl,rfl⟩
  ·rcases all i u Y with Y|⟨rfl,rfl⟩
   ·obtain⟨x,hx,e,l⟩:=B.closed i b u Z hL Y
    exact⟨x,He _ hx,e,l⟩
   ·have:=(FO.mp O).1
    rcases Z with Z|⟨Z,_⟩ <;>omega
  ·rcases all i u Y with Y|⟨rfl,_⟩
   ·rw[O]at Y;cases Y
    exact⟨w++[b],by simp,rfl,.inl rfl⟩
   ·have:=(FO.mp O).1
    omega
def Bfs.next{ws:List (List Nat)}{k:Nat}(B:Bfs done L ws k L):Bfs done L ws (k+1) 0 where
 one:=B.one
 nd:=B.nd
 sorted:=B.sorted
 from_:=λj x hx=>by
  rcases B.from_ j x hx with h|⟨i,b,u,h1,h2⟩
  ·exact .inl h
  ·exact .inr ⟨i,b,u,by rcases h1 with h1|⟨h1,_⟩ <;>exact .inl (by omega),h2⟩
 good:=B.good
 closed:=λi b u hb hL hu=>B.closed i b u (by
  rcases hb with hb|⟨_,hb⟩
  ·by_cases e:i=k
   ·exact .inr ⟨e,hL⟩
   ·exact .inl (by omega)
  ·omega) hL hu
theorem Bfs.first(B:Bfs done L ws ws.length 0)(j:∀u v a,a<L->(∀x∈u,x<L)->(∀x∈v,x<L)->done u=done v->done (u++[a])=done (v++[a])):∀(n:Nat) (u:List Nat),u.length=n->(∀x∈u,x<L)->∃x∈ws,done x=done u/\sle x u
 | 0,u,hn,_=>by
  have:u=[]:=HL.mp hn
  subst this
  exact⟨[],Gj B.one,rfl,.inl rfl⟩
 | n+1,u,hn,U=>by
  have J:u≠[]:=λz=>by rw[z]at hn;cases hn
  obtain⟨v,a,rfl⟩:∃v a,u=v++[a]:=⟨u.dropLast,u.getLast J,(LN J).symm⟩
  have Y:∀x∈v,x<L:=λx O=>U x (He _ O)
  have Z:a<L:=U a (by simp)
  obtain⟨x,O,e,l⟩:=Bfs.first B j n v (by simp at hn;exact hn) Y
  obtain⟨i,hi⟩:=IY.mp O
  obtain⟨y,hy,e2,l2⟩:=B.closed i a x (.inl (FO.mp hi).1) Z hi
  exact⟨y,hy,e2.trans (j x v a Z (B.good x O) Y e),X1 l2 (pi l)⟩
end
def Z8{α:Type}(A:List α):Nat->List (List α)
 | 0=>[[]]
 | n+1=>A.flatMap λx=>(Z8 A n).map λr=>x::r
theorem Vh{α:Type}{A:List α}:∀{n:Nat} {xs:List α},xs.length=n->(∀x∈xs,x∈A)->xs∈Z8 A n
 | 0,xs,h,_=>by
  have:xs=[]:=HL.mp h
  subst this;simp[Z8]
 | n+1,[],h,_=>by cases h
 | n+1,x::xs,h,j=>by
  unfold Z8
  rw[LL]
  exact⟨x,j x F9,FX.mpr ⟨xs,Vh (by simpa using h) λy z=>j y (Gc _ z),rfl⟩⟩
theorem cJ{α:Type}{A:List α}:∀n:Nat,(Z8 A n).length=A.length^n
 | 0=>rfl
 | n+1=>by
  unfold Z8
  rw[List.length_flatMap]
  have:∀B:List α,(B.map λx=>((Z8 A n).map λr=>x::r).length).sum=B.length*A.length^n:=λB=>by
   induction B with
   | nil=>simp
   | cons b r j=>rw[FY,List.sum_cons,j,FF,cJ n,Gu,Lw,MI]
  rw[this,Nat.pow_succ,IF]
end Pu
namespace Hop
open Pu (Bfs slt sle uw ZE Yy X1 Xc)
theorem Us:∀(f k:Nat) (o:List Nat),o<+: bfs j f k o
 | 0,_,o=>Ks _
 | f+1,k,o=>by
  unfold bfs
  split
  ·exact(wV _ _).trans (Us f (k+1) (wo j o k))
  ·exact Ks _
section
variable {A:Nat}
def mU(ok:OkR A z)(b:BI z.length A (dl z) k 0 o)(p:o<+: o'):xE z o' k=xE z o k:=by
 unfold xE
 rw[bZ p b.le]
 refine G5 λq hq=>?_
 obtain⟨j,hj,ej⟩:=GE.mp hq
 have U:j<k:=by simp at hj;omega
 have J:j<o.length:=by have:=b.le;omega
 have O:o.getD j 0=q:=by rw[LX]at ej;rw[yN J];exact ej
 have Y:q<z.length:=by rw[<-O];exact b.lt _ (wb J)
 refine G5 λx hx=>Yw p ?_
 obtain⟨a,Z,ea⟩:=GE.mp hx
 have aa:a<A:=by rw[ok.len q Y]at Z;exact Z
 have:=b.cl j a aa (.inl U)
 rw[O]at this
 have e2:dl z a q=x:=by show(z.getD q []).getD a 0=x;rw[yN Z];exact ea
 rw[e2]at this
 exact this
def jQ(j:k<=o.length):(xE z o o.length).take k=xE z o k:=by
 unfold xE
 rw[<-Ph,List.take_take,Pi j]
structure First (near:List (List Nat)) (A g j b:Nat):Prop where
 lb:b<A
 is:dl near b j=g
 fst:∀j' b',b'<A->(j'<j\/(j'=j/\b'<b))->dl near b' j'<g
structure Ws (near:List (List Nat)) (A:Nat) (ws:List (List Nat)):Prop where
 len:ws.length=near.length
 one:ws[0]?=some []
 by_:∀k,0<k->k<near.length->∃j b u,j<k/\First near A k j b/\ws[j]?=some u/\ws[k]?=some (u++[b])
def jR(pos:0<near.length)(met:Met A near.length (dl near)):∃ws,Ws near A ws:=by
 have mk:∀n,n<=near.length->∃ws:List (List Nat),ws.length=n/\(0<n->ws[0]?=some [])/\∀k,0<k->k<n->∃j b u,j<k/\First near A k j b/\ws[j]?=some u/\ws[k]?=some (u++[b]):=λn=>by
  induction n with
  | zero=>exact λ_=>⟨[],rfl,λh=>absurd h (Gy _),λk O h=>absurd h (LM _)⟩
  | succ n Y=>
   intro hn
   obtain⟨ws,J,O,Z⟩:=Y (by omega)
   have z:∀{x:List Nat} (j:Nat) (y:List Nat),ws[j]?=some y->(ws++[x])[j]?=some y:=λj y h=>by
    rw[GK (FO.mp h).1];exact h
   by_cases hz:n=0
   ·subst hz
    have:ws=[]:=HL.mp J
    subst this
    exact⟨[[]],rfl,λ_=>rfl,λk h1 h2=>by omega⟩
   ·obtain⟨j,b,q1,q2,q3,q4⟩:=met n (by omega) (by omega)
    have hj:j<ws.length:=by omega
    refine⟨ws++[ws[j]++[b]],by simp[J],λ_=>z 0 _ (O (by omega)),λk h1 h2=>?_⟩
    by_cases hk:k<n
    ·obtain⟨U,b',u,r1,r2,r3,r4⟩:=Z k h1 hk
     exact⟨U,b',u,r1,r2,z U u r3,z k _ r4⟩
    ·have e:k=n:=by omega
     subst e
     exact⟨j,b,ws[j],q1,⟨q2,q3,q4⟩,z j _ (FU hj),by rw[Ii (by omega),J,OQ];rfl⟩
 obtain⟨ws,h1,h2,h3⟩:=mk near.length (FA _)
 exact⟨ws,h1,h2 pos,h3⟩
theorem Xd:∀(w:List Nat) (s:Nat),walk δ s (w++[a])=δ a (walk δ s w)
 | [],_=>rfl
 | b::w,s=>Xd w (δ b s)
def Ws.walk(W:Ws near A ws):∀(k:Nat) (w:List Nat),ws[k]?=some w->walk (dl near) 0 w=k:=by
 intro k
 induction k using Kr with
 | ind k J=>
  intro w z
  have O:=(FO.mp z).1
  by_cases U:k=0
  ·subst U;rw[W.one]at z;cases z;rfl
  ·obtain⟨j,b,u,q1,q2,Y,Z⟩:=W.by_ k (by omega) (by rw[<-W.len];exact O)
   rw[Z]at z;cases z
   rw[Xd,J j q1 u Y];exact q2.is
def Ws.good(W:Ws near A ws):∀(k:Nat) (w:List Nat),ws[k]?=some w->∀x∈w,x<A:=by
 intro k
 induction k using Kr with
 | ind k J=>
  intro w z x hx
  have O:=(FO.mp z).1
  by_cases U:k=0
  ·subst U;rw[W.one]at z;cases z;cases hx
  ·obtain⟨j,b,u,q1,q2,Y,Z⟩:=W.by_ k (by omega) (by rw[<-W.len];exact O)
   rw[Z]at z;cases z
   rcases Gk.mp hx with hx|hx
   ·exact J j q1 u Y x hx
   ·have:x=b:=by simpa using hx
    rw[this];exact q2.lb
def mV(h:First near A g j b)(h':First near A g' z J)(U:g<g'):j<z\/(j=z/\b<J):=by
 by_cases e:z<j\/(z=j/\J<b)
 ·have:=h.fst z J h'.lb e
  rw[h'.is]at this;omega
 ·by_cases O:j=z/\b=J
  ·obtain⟨rfl,rfl⟩:=O
   have:=h.is.symm.trans h'.is
   omega
  ·omega
def Ws.sorted(W:Ws near A ws):∀(j i:Nat) (u v:List Nat),i<j->ws[i]?=some u->ws[j]?=some v->slt u v:=by
 intro j
 induction j using Kr with
 | ind j ih=>
  intro i u v J z O
  have Y:=(FO.mp O).1
  rw[W.len]at Y
  obtain⟨j2,b2,u2,q1,q2,U,q4⟩:=W.by_ j (by omega) Y
  rw[q4]at O;cases O
  by_cases h0:i=0
  ·subst h0;rw[W.one]at z;cases z;exact Yy
  ·obtain⟨j1,b1,u1,p1,p2,Z,p4⟩:=W.by_ i (by omega) (by omega)
   rw[p4]at z;cases z
   rcases mV p2 q2 J with h|⟨rfl,h⟩
   ·exact uw (ih j2 q1 j1 u1 u2 h Z U)
   ·rw[Z]at U;cases U
    exact ZE h
def Ws.bfs{near:List (List Nat)}{ws:List (List Nat)}(ok:OkR A near)(W:Ws near A ws):Bfs (Hop.walk (dl near) 0) A ws ws.length 0 where
 one:=W.one
 nd:=by
  have e:ws.map (Hop.walk (dl near) 0)=Fy ws.length:=by
   refine IG (by simp) λk h1 h2=>?_
   have hk:k<ws.length:=by simpa using h1
   rw[Hr,Kv]
   exact W.walk k _ (FU hk)
  rw[e];exact LP
 sorted:=λi j u v hij hu hv=>W.sorted j i u v hij hu hv
 from_:=λj x hx=>by
  by_cases h0:j=0
  ·subst h0;rw[W.one]at hx;cases hx;exact .inl rfl
  ·have hj:=(FO.mp hx).1
   obtain⟨i,b,u,q1,q2,q3,q4⟩:=W.by_ j (by omega) (by rw[<-W.len];exact hj)
   rw[q4]at hx;cases hx
   exact .inr ⟨i,b,u,.inl (by omega),q3,rfl⟩
 good:=λx hx y hy=>by
  obtain⟨k,hk⟩:=IY.mp hx
  exact W.good k x hk y hy
 closed:=λi b u hb hA hu=>by
  have hi:i<near.length:=by
   rw[<-W.len];rcases hb with h|⟨_,h⟩
   ·exact h
   ·omega
  have ht:=ok.lt b i hA hi
  have ew:Hop.walk (dl near) 0 (u++[b])=dl near b i:=by rw[Xd,W.walk i u hu]
  obtain⟨x,hx⟩:∃x,ws[dl near b i]?=some x:=⟨_,FU (by rw[W.len];exact ht)⟩
  refine⟨_,Gj hx,(W.walk _ _ hx).trans ew.symm,?_⟩
  by_cases h0:dl near b i=0
  ·rw[h0,W.one]at hx
   have:=GG hx
   rw[<-this];exact .inr Yy
  ·obtain⟨j2,b2,u2,q1,q2,q3,q4⟩:=W.by_ _ (by omega) ht
   rw[q4]at hx
   have:=GG hx
   rw[<-this]
   have nl:¬(i<j2\/(i=j2/\b<b2)):=λz=>by have:=q2.fst i b hA z;omega
   by_cases e:j2<i
   ·exact .inr (uw (W.sorted i j2 u2 u e q3 hu))
   ·have e2:j2=i:=by omega
    subst e2
    rw[q3]at hu;cases hu
    by_cases e3:b2=b
    ·subst e3;exact .inl rfl
    ·exact .inr (ZE (by omega))
end
end Hop
namespace Pq
open PySem PySem.Spec L2 DD
open PyProof.Rows hiding St
open Pt (zF getD_some xP yp v9)
open Hop (OkR)
def Qe(fw:List D->Option D):List D->Option D:=λds=>match ds with
 | [_,.lst rows,.lst marks]=>(yp marks).bind λbs=>match bs.findIdx? id with
  | some i=>fw [.int (i:Int),.lst (rows.take i)]
  | none=>some .non
 | _=>none
def vH(wt:List (Bool×Bool))(j z J fw:List D->Option D):List D->Option D:=wP wt j z J (Qe fw)
theorem vq:∀bs:List Bool,yp (bs.map D.bl)=some bs
 | []=>rfl
 | b::r=>by
  rw[FY]
  unfold yp
  rw[vq r];rfl
abbrev wf(p:Par):List Bool:=(Hop.zZ p.r1 p.r2).map λq=>xn p (q/p.r2.length) (q%p.r2.length)
def X2{fw:List D->Option D}{p:Par}{A:Int}{i:Nat}(h:(wf p).findIdx? id=some i):Qe fw [.int A,.lst (xK (Hop.yR p.r1 p.r2)),.lst (ua p)]=fw [.int (i:Int),.lst (xK ((Hop.yR p.r1 p.r2).take i))]:=by
 show((yp ((wf p).map D.bl)).bind λbs=>_)=_
 rw[vq,FZ,h,show xK ((Hop.yR p.r1 p.r2).take i)=(xK (Hop.yR p.r1 p.r2)).take i from Ph]
def X3{fw:List D->Option D}{p:Par}{A:Int}(h:(wf p).findIdx? id=none):Qe fw [.int A,.lst (xK (Hop.yR p.r1 p.r2)),.lst (ua p)]=some .non:=by
 show((yp ((wf p).map D.bl)).bind λbs=>_)=_
 rw[vq,FZ,h]
end Pq
namespace DD
open PySem PySem.Spec L2
open PyProof.Rows hiding St
section
variable {X:Cx} {a b c e:Fu} {f g h:G->Option B} {pos:FG} {es:List Fu} {fs:G->Option (List B)}
end
end DD
namespace L2
open PySem PySem.Spec PyProof.Rows
def mW:Kp (.type "list_reverseiterator") "__len__"=pure none:=by rw[MW,MX];kernel_rfl
def pj:Kp (.type "list_reverseiterator") "__length_hint__"=pure (some (.builtin "list_reverseiterator.__length_hint__")):=by rw[MW,MX];kernel_rfl
section
variable {prog:FI} {w:FB} {A:FW} {E:Fl->Fq->Prop} {s:Fq} {I:Fo} {fp wr:List Fo} {G:Array Kw->Array Kw->Prop} {n:Nat} {P:Nat->Fl->Prop} {St:Nat->Fq->Prop}
def eN{Q:List Fl->Fq->Prop}(W:WalksS prog w A.in1 I fp wr G n P St)(hT:∀i s,St i s->s.TypeIs (.ref I) "list_reverseiterator")(hst:St 0 s)(hfp:∀b∈fp,b<s.heap.objs.size)(hI:I∈fp) 
  (hQ:∀s' acc,Moved wr G s s'->ItemsOf P acc n->Q acc.toList s') (hn:n<=Fv):wpAny (Fx prog w) A (collect (.ref I)) Q E s:=by
 have hnew:s.heap.objs.size∉fp:=λhm=>Gy _ (hfp _ hm)
 have hne:s.heap.objs.size≠I:=λe=>hnew (e▸hI)
 unfold collect
 refine Ft (wpAny_runValue (KY F.entry_proto_collect ?_))
 rw[KZ F.plain_proto_collect _]
 show wpAny _ A.in1 (newList []>>=λl=>Kz (.builtin "list.__iadd__" ⟨[l,.ref I],[]⟩)) _ _ s
 refine Ft (KP (FS ⟨K0 Pj _,KY F.entry_list_iadd ?_⟩))
 rw[KZ Pj _]
 have st1:=W.frame 0 s (s.heap.push {cls:=.type "list",data:=.seq ([]:List Fl).toArray}) s.toks hst (FA _) λb _ o e=>FQ _ e
 have at1:(s.heap.push {cls:=.type "list",data:=.seq ([]:List Fl).toArray}).get? s.heap.objs.size=some {cls:=.type "list",data:=.seq ([]:List Fl).toArray}:=Gr _ rfl
 have notsame:Pk (.ref s.heap.objs.size) (.ref I)=false:=by simp[Pk,hne]
 show wpAny _ A.in1 (Pl (.ref s.heap.objs.size) (.ref I) (.ref s.heap.objs.size)) _ _ _
 unfold Pl
 refine Ft (LK (hT 0 _ st1) ?_)
 rw[if_neg (by rw[notsame];decide)]
 refine Ft (W.self 0 _ _ _ st1 (Ft (HF ?_)))
 unfold Rk
 refine Ft (KU (hT 0 _ st1) mW ?_)
 show wpAny _ A.in1 (specialOf (Value.ref I) (HQ "__length_hint__")>>=_) _ _ _
 refine Ft (KU (hT 0 _ st1) pj ?_)
 generalize hid:("list_reverseiterator.__length_hint__":String)=id0
 wp_delta
 rw[show splitId id0=some ("list_reverseiterator","__length_hint__")from by subst hid;decide+kernel]
 subst hid
 refine Ft (KR (b:=true) (hT 0 _ st1) (by rw[isSubtype_type];kernel_rfl) (FS ?_))
 rw[if_neg (by decide)]
 refine FS ⟨K0 F.plain_extend_loop _,codeAny_extend_loopS W hn _ hnew _ n 0 _ _ _ rfl (GI _) st1 at1 (ItemsOf.nil P) λs' acc' c' hm hS' hacc=>?_⟩
 show wpAny _ A (load s.heap.objs.size>>=_) _ _ s'
 exact Ft (wpAny_load hS' (FS (hQ s' acc' (Moved.drop_new (o:={cls:=.type "list",data:=.seq ([]:List Fl).toArray}) (tk:=s.toks) hm (FA _)) hacc)))
def Qf{Q₁:Fl->Fq->Prop}(W:WalksS prog w A.in1.in1 I fp wr G n P St)(hT:∀i s,St i s->s.TypeIs (.ref I) "list_reverseiterator")(hst:St 0 s)(hfp:∀b∈fp,b<s.heap.objs.size)(hI:I∈fp) 
  (h:∀s' acc,Moved wr G s s'->ItemsOf P acc n->Q₁ (.ref s'.heap.objs.size) {s' with heap:=s'.heap.push {cls:=.type "tuple",data:=.seq acc}}) (hsz:n<=Fv) :
  codeAny (Fx prog w) A (.call (.builtin "tuple.__new__") ⟨[.type "tuple",.ref I],[]⟩) (wants Q₁ E) s:=by
 refine codeAny_of_tree ?_
 show wpAny _ A.in1 (do checkBuiltinCall "tuple.__new__" ⟨[.type "tuple",.ref I],[]⟩;Kz (.builtin "tuple.__new__" ⟨[.type "tuple",.ref I],[]⟩)) _ _ s
 refine Ft (wpAny_of_eq (F.newCall_tuple_1 _) (FS ⟨K0 Pm _,KY F.entry_tuple_new ?_⟩))
 rw[KZ Pm _]
 have hsub:=sub_tuple_self
 have hinit:=init_tuple_lookup
 have hmh:=madeHere_tuple
 have hTI:=hT 0 s hst
 wp_walk using LK hTI,eN (hn:=hsz) W hT hst hfp hI
 intro s' acc hm hacc
 show wpAny _ _ (Pn acc.toList.toArray>>=λv=>ret v) _ _ _
 unfold Pn
 refine Ft (KP (FS ?_) (by show acc.toList.toArray.size<=Fv;simp only[Array.toArray_toList];rw[hacc.1];exact hsz))
 rw[show acc.toList.toArray=acc by simp]
 exact h s' acc hm hacc
def Qg{Q:Fl->Fq->Prop}(W:WalksS prog w A.in1.in1.in1 I fp wr G n P St)(U:∀i s,St i s->s.TypeIs (.ref I) "list_reverseiterator")(J:St 0 s)(O:∀b∈fp,b<s.heap.objs.size)(Y:I∈fp) 
  (Z:∀s' acc,Moved wr G s s'->ItemsOf P acc n->Q (.ref s'.heap.objs.size) {s' with heap:=s'.heap.push {cls:=.type "tuple",data:=.seq acc}}) (hsz:n<=Fv) :
  wpAny (Fx prog w) A (call (.type "tuple") [.ref I]) Q E s:=by
 refine OF (Q₁:=λj s₁=>s₁.TypeIs j "tuple"/\Q j s₁) Nc (F.typeCall_tuple_1 _) F.entry_object_init
  (Qf (hsz:=hsz) W U J O Y λs' acc hm z=>⟨⟨_,Gr _ rfl,rfl⟩,Z s' acc hm z⟩) λj s₁ h₁=>?_
 exact⟨h₁.1,N8 j _,object_init_meets Nc.init.lookup Nc.made (by decide) prog w A.in1 _ s₁ ⟨h₁.1,rfl,h₁.2⟩⟩
end
end L2
namespace L2
open PySem PySem.Spec PyProof.Rows
section
variable {X:Cx}
def sL(K:Fs)(ta:TA):TE:=λσ H Q=>ta σ H λvs H1=>∃a xs,vs=[.ref a]/\SqL K H1 a xs/\∀l,H1 l=none->Q (.ref l) (upd H1 l (.tup xs.reverse))
def mX{x:Fu}{ta:TA}{p p2 pos pos2:FG}(hc:X.calm=true)(hg:Gl X "tuple")(hm:X.mg "tuple"=none)(hg2:Gl X "reversed")(hm2:X.mg "reversed"=none)(ha:PA X [x] ta) 
  (hs:FK [x] X.env=[(false,FJ x X.env)]:=by rfl) (hs2:FK [.Call (.Name "reversed" p2) [x] [] pos2] X.env=[(false,FJ (.Call (.Name "reversed" p2) [x] [] pos2) X.env)]:=by rfl) :
  PE X (.Call (.Name "tuple" p) [.Call (.Name "reversed" p2) [x] [] pos2] [] pos) (sL X.K ta):=by
 intro pins s σ H Q I h
 refine Ke (vY I hg hm HM (IQ ?_ hs2 rfl))
 rw[hs2]
 refine Mp (Ke (vY I hg2 hm2 boot_reversed (IQ (thn (ha pos2 pins s σ H _ I h) λus s1 ⟨vs,H1,I1,r1,q1⟩=>?_) hs rfl)))
 obtain⟨l,xs,e,hq,q⟩:=q1
 subst e
 cases r1 with
 | cons r rr=>
  cases rr
  cases r
  obtain⟨its,rv,pl,hz⟩:=I1.list hq
  have hl:l<s1.heap.objs.size:=by obtain⟨o,n,e,_⟩:=pl;exact FV e
  refine call_reversed_list pl.isList ?_
  have I2:Inv X pins σ H1 {s1 with heap:=s1.heap.push (revObj l ((its.toArray.size:Int)-1))}:=I1.kept (t':=s1.toks) λb o e=>FQ _ e
  show wpAny _ _ (spliced []) _ _ _
  refine Mo ?_
  have hlen:=rv.length
  refine Qg (I:=s1.heap.objs.size) ((Walks.listRev (prog:=X.prog) (w:=X.w) (A:=X.A.in1.in1.in1) (show X.A.in1.in1.in1.handled=none from I.ok.hd hc) s1.heap.objs.size l (Gd hl) its.toArray).toS) (λi s2 h2=>h2.2.1.typeIs) ⟨GI _,?_,pl.isList.push _⟩ (λb hb=>?_) (by simp) (λs2 acc hm hacc=>?_) ?_
  ·have e:((its.toArray.size:Nat):Int)-1-((0:Nat):Int)=((its.toArray.size:Nat):Int)-1:=by omega
   rw[e]
   exact⟨_,Gr _ rfl,rfl,rfl⟩
  ·rcases FL.mp hb with rfl|hb
   ·exact FV (Gr _ rfl)
   ·obtain rfl:=Gf.mp hb
    exact Gs hl (by rw[HH];exact KC _)
  ·obtain⟨h',g',d',tk',os'⟩:=s2
   have e1:g'=s1.gens:=hm.gens
   have e2:d'=s1.drawn:=hm.drawn
   have e3:os'=s1.os:=hm.os
   subst e1 e2 e3
   have I':Inv X pins σ H1 {s1 with heap:=h',toks:=tk'}:=I1.kept λb o e=>hm.heap b o (λhb=>absurd (FV e) ((Gf.mp hb)▸Gy _)) (FQ _ e)
   have hv:zC xs.reverse acc.toList:=by
    have e:acc.toList=its.reverse:=by
     refine IG (by rw[Nd,K8,hacc.1,Go]) λj h1 h2=>?_
     have hj:j<its.length:=by rwa [Nd]at h2
     have hp:its.toArray[its.toArray.size-1-j]?=some acc.toList[j]:=hacc.2 j acc.toList[j] (by rw[<-MH];exact FU h1)
     rw[List.getElem?_toArray,Go,FU (by omega)]at hp
     rw[List.getElem_reverse]
     exact(GG hp).symm
    rw[e];exact rv.reverse
   refine⟨.ref h'.objs.size,_,I'.laid (t':=tk') (o:=.tup xs.reverse) (λb ob q=>FQ _ q) (FA _) ?_,rfl,q _ (I'.hok.fresh (FA _))⟩
   exact⟨by rw[Nd];omega,_,hv,by simpa using Lq _ _⟩
  ·show its.toArray.size<=Fv
   rw[Go,<-hlen];exact hz
end
end L2
namespace DD
open PySem PySem.Spec L2
open PyProof.Rows hiding St
section
variable {X:Cx} {x:Fu} {f:G->Option (List B)} {p p2 pos pos2:FG}
def jS:List B->Option D:=λbs=>match bs with
 | [b]=>b.lst.map λds=>.tup ds.reverse
 | _=>none
def pu{K:Fs}{F:Hp}:∀{ds:List D} {vs:List V},Are K F ds vs->Are K F ds.reverse vs.reverse:=λ{ds}=>by
 induction ds with
 | nil=>intro vs r;rw[r.inv0];exact .nil
 | cons d ds j=>
  intro vs r
  obtain⟨v,z,e,a,r2⟩:=r.inv
  subst e
  rw[Lu,Lu]
  exact(j r2).append (.cons a .nil)
def sM{K:Fs}:ZL K (λvs H Q=>∃a xs,vs=[.ref a]/\SqL K H a xs/\∀l,H l=none->Q (.ref l) (upd H l (.tup xs.reverse))) jS:=λF H bs vs d Q s h e q=>by
 rcases bs with _|⟨b,_|⟨_,_⟩⟩
 ·cases e
 ·obtain⟨v,rfl,z⟩:=uB h
  obtain⟨ds,J,rfl⟩:=map_some e
  obtain⟨l,us,rfl,O,U⟩:=uF s J z
  refine⟨l,us,rfl,SqL.of O,λt j=>q _ (upd F t (.tup us.reverse)) _ (.fix s j _) ?_⟩
  simp only[Is]
  exact⟨t,_,rfl,zj,(pu U).mono (zz (s.free j) _)⟩
 ·cases e
def pw(O:X.calm=true)(U:Gl X "tuple")(Y:X.mg "tuple"=none)(j:Gl X "reversed")(z:X.mg "reversed"=none)(Z:EA X [x] f) 
  (hs:FK [x] X.env=[(false,FJ x X.env)]:=by rfl) (J:FK [.Call (.Name "reversed" p2) [x] [] pos2] X.env=[(false,FJ (.Call (.Name "reversed" p2) [x] [] pos2) X.env)]:=by rfl):EE X (.Call (.Name "tuple" p) [.Call (.Name "reversed" p2) [x] [] pos2] [] pos) (zN jS f) :=
 yx (mX O U Y j z Z hs J) λσ H Q q=>W1 sM q
end
end DD
namespace L2
open PySem PySem.Spec DD
open PyProof.Rows hiding St
def Xe:B->B->Option D
 | .d .non,.d .non=>some (.bl false)
 | .d (.tup _),.d .non=>some (.bl true)
 | _,_=>none
def Qh{K:Fs}:OpB K (λx y H Q=>y=.non/\Q (.bl (!decide (x=.non))) H) Xe:=λF H x y v u d Q J O U e q=>by
 unfold Xe at e
 split at e
 ·cases e
  have j:Is K F .non v:=O
  have z:Is K F .non u:=U
  simp only[Is]at j z
  subst j z
  exact⟨rfl,q _ F H (.refl J) (by simp[Is])⟩
 ·cases e
  have j:Is K F (.tup _) v:=O
  have z:Is K F .non u:=U
  simp only[Is]at j z
  obtain⟨p,vs,rfl,_⟩:=j
  subst z
  exact⟨rfl,q _ F H (.refl J) (by simp[Is])⟩
 ·cases e
end L2
namespace DD
open PySem PySem.Spec L2
open PyProof.Rows hiding St
section
variable {X:Cx} {a b tg iter:Fu} {fs:G->Option (List B)} {pos:FG}
def jT(f g:G->Option (List D)):G->Option (List D):=λΓ=>match f Γ with
 | some d=>some d
 | none=>g Γ
def DU(h1:EI X tg iter f)(h2:EI X tg iter g):EI X tg iter (jT f g):=λpins s σ H R I j=>by
 obtain⟨F0,H0,F,Γ,ds,J,e,q⟩:=j
 unfold jT at e
 cases z:f Γ with
 | some d=>rw[z]at e;exact h1 pins s σ H R I ⟨F0,H0,F,Γ,ds,J,z.trans e,q⟩
 | none=>rw[z]at e;exact h2 pins s σ H R I ⟨F0,H0,F,Γ,ds,J,e,q⟩
def jU(fs:G->Option (List B)):G->Option (List D):=λΓ=>(fs Γ).bind λbs=>match bs with
 | [.d (.tup xs),.d (.tup ys)]=>some (XM xs ys)
 | _=>none
def AX{p tp:FG}{elts:List Fu}{k:Nat}(hg:Gl X "zip")(hm:X.mg "zip"=none)(ha:EA X [a,b] fs)(hs:FK [a,b] X.env=[(false,FJ a X.env),(false,FJ b X.env)]:=by rfl)(hs2:FK [b] X.env=[(false,FJ b X.env)]:=by rfl):
  EI X (.Tuple elts k tp) (.Call (.Name "zip" p) [a,b] [] pos) (jU fs):=Za (gE hg hm ha hs hs2) λσ H R ⟨F0,H0,F,Γ,ds,En,e,q⟩=>by
 obtain⟨bs,hb,e⟩:=bind_some e
 refine⟨F0,H0,F,Γ,bs,En,hb,λvs F1 H1 e1 r1=>?_⟩
 match bs,e,r1 with
 | [.d (.tup xs),.d (.tup ys)],e,r1=>
  cases e
  obtain⟨u,v,rfl,hu,hv⟩:=Cb r1
  have hu':Is X.K F1 (.tup xs) u:=hu
  have hv':Is X.K F1 (.tup ys) v:=hv
  simp only[Is]at hu' hv'
  obtain⟨l,us,rfl,hf,ra⟩:=hu'
  obtain⟨l',ws,rfl,hf',ra'⟩:=hv'
  refine⟨l,l',rfl,⟨us,SqT.of (e1.fh _ _ hf)⟩,⟨ws,SqT.of (e1.fh _ _ hf')⟩,q _ F1 H1 e1 λi F2 H2 s1 s2=>?_⟩
  have hq:SqT X.K H2 l us:=SqT.of (s2 _ _ (s1 _ _ hf))
  have hq':SqT X.K H2 l' ws:=SqT.of (s2 _ _ (s1 _ _ hf'))
  have n1:=ra.length
  have n2:=ra'.length
  refine⟨λd hd=>?_,λhl=>⟨us,ws,hq,hq',?_⟩⟩
  ·have hlt:i<xs.length/\i<ys.length:=by
    have:=(FO.mp hd).1
    simp[XM]at this
    omega
   obtain⟨x,hx,hix⟩:=ra.get (i:=i) (d:=xs[i]'hlt.1) (by simp[hlt.1])
   obtain⟨y,hy,hiy⟩:=ra'.get (i:=i) (d:=ys[i]'hlt.2) (by simp[hlt.2])
   have hd':d=.tup [xs[i]'hlt.1,ys[i]'hlt.2]:=by
    have:(XM xs ys)[i]?=some (.tup [xs[i]'hlt.1,ys[i]'hlt.2]):=by simp[XM,List.getElem?_zipWith,hlt.1,hlt.2]
    rw[this]at hd;cases hd;rfl
   subst hd'
   refine⟨⟨us,ws,x,y,hq,hq',hx,hy⟩,λx0 H' h0=>?_⟩
   obtain⟨T,x',y',hT,rfl,rfl,g1,g2⟩:=h0
   have:=g1 us hq
   rw[hx]at this;cases this
   have:=g2 ws hq'
   rw[hy]at this;cases this
   refine⟨upd F2 T (.tup [x,y]),.fix s2 hT _,?_⟩
   simp only[Is]
   exact⟨T,_,rfl,zj,.cons (hix.mono (s1.trans (zz (s2.free hT) _))) (.cons (hiy.mono (s1.trans (zz (s2.free hT) _))) .nil)⟩
  ·simp[XM]at hl
   omega
end
end DD
namespace L2
open PySem PySem.Spec PyProof.Rows
section
variable {prog:FI} {w:FB} {A:FW} {E:Fl->Fq->Prop} {s:Fq}
def pz(z:l≠j)(n:Nat):∀(i:Nat) (s:Fq) (Q:List Fl->Fq->Prop),s.heap.IsListIter j l i->s.heap.IsList l xs->i+n<=xs.size->
  (∀h',h'.IsListIter j l (i+n)->Ka j s.heap h'->Q ((xs.toList.drop i).take n) {s with heap:=h'})->wpAny (Fx prog w) A (draw (.ref j) n) Q E s:=by
 induction n with
 | zero=>exact λi s Q hi _ _ q=>FS (by simpa using q s.heap hi (Rl ..))
 | succ n O=>
  intro i s Q hi J U q
  have lt:i<xs.size:=by omega
  show wpAny _ _ (Hu (.ref j)>>=_) Q E s
  refine Ft (Mg hi J (x:=xs[i]) (by simp[lt]) λg1 i1 s1=>?_)
  refine Ft (HF (O (i+1) _ _ i1 (J.extBut s1.extBut z) (by omega) λg2 i2 s2=>FS ?_))
  have Y:xs.toList.drop i=xs[i]::xs.toList.drop (i+1):=by simp[KS,lt]
  have:=q g2 (by rw[show i+(n+1)=i+1+n by omega];exact i2) (s1.trans s2)
  rw[Y,List.take_succ_cons]at this
  exact this
def eP{l:Fo}{xs:Array Fl}{Q:List Fl->Fq->Prop}(J:A.handled=none)(j:s.heap.IsList l xs) 
  (q:∀h',MN s.heap.objs.size s.heap h'->Q xs.toList {s with heap:=h'}):wpAny (Fx prog w) A (unpackItems (.ref l) xs.size none) Q E s:=by
 have ne:l≠s.heap.objs.size:=by obtain⟨o,O,_⟩:=j;exact Gd (FV O)
 unfold unpackItems
 refine Ft ?_
 unfold notIterableAtAll
 refine Ft (KU j.typeIs slot_list_iter.lookup (FS ?_))
 simp only[Po,if_false]
 refine Ft (HF (Ky j ?_))
 refine Ft (HF (pz ne xs.size 0 _ _ ⟨_,Gr _ rfl,rfl,rfl⟩ (j.push _) (by omega) λg1 i1 s1=>?_))
 have U:List.take xs.size (List.drop 0 xs.toList)=xs.toList:=by rw[List.drop_zero];exact K5 (by simp)
 rw[U,if_neg (by simp)]
 refine Ft (HF (Mh J i1 ((j.push _).extBut s1.extBut ne) (by simp) λg2 Y=>?_))
 simp only[Option.isSome_none,Po,if_false]
 exact FS (q g2 λb o z e=>Y b o z (s1.extBut b o z (FQ _ e)))
end
section
variable {X:Cx} {pos:FG}
def DV(K:Fs)(n:Nat)(t:TGs):TG:=λv σ H Q=>∃a xs,v=.ref a/\SqL K H a xs/\xs.length=n/\t xs σ H Q
def AY{es:List Fu}{k:Nat}{t:TGs}{n:Nat}(O:X.calm=true)(h:PGs X es t) 
  (hn:(GQ es X.env).length=n:=by rfl) (j:(GQ es X.env).findIdx? (·.1)=none:=by rfl):PG X (.Tuple es k pos) (DV X.K n t):=by
 intro pins s σ H v u Q I r z
 obtain⟨a,xs,rfl,U,Y,z⟩:=z
 cases r
 obtain⟨its,J,⟨o,m,e,c,_,d⟩,hz⟩:=I.list U
 rw[assign_Tuple]
 refine Ft (Lb ?_)
 unfold unpack
 rw[j,show(GQ es X.env).length=its.toArray.size by simp[hn,<-Y,J.length]]
 refine Ft (HF (eP (I.ok.hd O) ⟨o,e,c,m,d⟩ λh' Z=>?_))
 have I1:Inv X pins σ H {s with heap:=h'}:=I.kept (t':=s.toks) λb o e=>Z b o (Gd (FV e)) e
 exact h pins _ σ H xs _ Q I1 (by simpa using J) z
end
end L2
namespace DD
open PySem PySem.Spec L2
open PyProof.Rows hiding St
section
variable {X:Cx} {es:List Fu} {pos:FG}
def JU(n:Nat)(u:List D->G->Option G):D->G->Option G:=λd Γ=>match d with
 | .lst ds=>if ds.length=n then u ds Γ else none
 | _=>none
def Cq(Z:X.calm=true)(h:GL X es is u)(hn:(GQ es X.env).length=n:=by rfl)(z:(GQ es X.env).findIdx? (·.1)=none:=by rfl):GN X (.Tuple es k pos) is (JU n u) :=
 UO (AY Z h hn z) λv σ H Q j=>by
  obtain⟨F0,H0,F,Γ,d,g,O,r,e,q⟩:=j
  cases d with
  | lst ds=>
   have U:=r
   simp only[Is]at U
   obtain⟨a,vs,rfl,hf,Y⟩:=U
   unfold JU at e
   by_cases J:ds.length=n
   ·simp only[J,if_true]at e
    exact⟨a,vs,rfl,SqL.of (O.fh _ _ hf),by rw[Y.length];exact J,F0,H0,F,Γ,ds,g,O,Y,e,q⟩
   ·simp only[J,if_false]at e;cases e
  | _=>cases e
end
end DD
namespace Py
open PySem PySem.Spec L2 DD
open PyProof.Rows hiding St
def WF:Nat:=1000000
abbrev pA:List D->Option D:=Pt.Yt
def jV:G->Option Out:=(zt (sIf (xOr (xT (zN vw (za (zc 0) (za (xTy .bl) zf)))) (wX (xT (zN vw (za (zc 0) (za (xTy .int) zf)))))) (zO (xC (.bl false))) yj) (zO (x3 mLe mLe (zc 1) (zc 0) (zc 2))))
def uR:List D->Option D:=mir 3 3 jV
def JV:G->Option Out:=(zO (YU (zN vw (za (zc 0) (za (xTy .tup) zf))) (x3 mLe mLe (zc 1) (zN wh (za (zc 0) zf)) (zc 2))))
def vr:List D->Option D:=mir 3 3 JV
def Ut:G->Option Out:=(zt (sIf (xT (x2 (mEq false) (zc 0) (xC (.int 0)))) (zO (y7 (za (xC (.int 1)) zf))) yj) (zt (sIf (xT (x2 (mEq false) (zc 0) (x2 yI (zc 1) (xC (.int 1))))) (zO (y7 (za (XG (xC (.int 1))) zf))) yj) (zO (y7 (za (xC (.int 1)) (za (XG (xC (.int 1))) zf))))))
def JW:List D->Option D:=mir 2 2 Ut
def JX:G->Option Out:=(zt (sIf (xT (zN vw (za (zc 0) (za (xTy .str) zf)))) (zO (x2 (mIn false) (zc 0) (xG [(.str "yes"),(.str "no")]))) yj) (zt (sIf (xOr (wX (xT (xFn vr (za (zc 0) (za (xC (.int 2)) (za (xC (.int 2)) zf)))))) (wX (xT (xFn uR (za (x2 mIx (zc 0) (xC (.int 0))) (za (xC (.int 0)) (za (x2 W0 (zc 1) (xC (.int 1))) zf))))))) (zO (xC (.bl false))) yj) (zO (YU (xFn uR (za (x2 mIx (zc 0) (xC (.int 1))) (za (XG (xC (.int 1))) (za (xC (.int 1)) zf)))) (x2 (mIn false) (x2 mIx (zc 0) (xC (.int 1))) (zc 2))))))
def JY:List D->Option D:=mir 3 3 JX
def Vi:G->Option B:=(xFn JY (za (zc 1) (za (zc 2) (za (xFn JW (za (zc 0) (za (zc 3) zf))) zf))))
def jW:G->Option Out:=(zt (sIf (wX (xT (xFn vr (za (zc 0) (za (x2 yI (zc 2) (xC (.int 2))) (za (x2 yI (zc 2) (xC (.int 2))) zf)))))) (zO (xC (.bl false))) yj) (zO (zN W3 (za (xL (yE (xEn (za (zc 0) zf)) [none,none,some 1,some 2] (yQ 2 (zA (zr 0) (zA (zr 1) yK))) zX Vi)) zf))))
def JZ:List D->Option D:=mir 3 3 jW
def Qi:G->Option B:=(xFn JZ (za (zc 0) (za (zN wh (za (zc 1) zf)) (za (x2 mIx (zc 2) (xC (.int 0))) zf))))
def pB:G->Option Out:=(zt (sIf (xOr (wX (xT (xFn vr (za (zc 0) (za (xC (.int 2)) (za (xC (.int 2)) zf)))))) (wX (xT (xFn uR (za (x2 mIx (zc 0) (xC (.int 0))) (za (xC (.int 1)) (za (xC (.int 3)) zf))))))) (zO (xC (.bl false))) yj) (zt (yf 1 (x2 mIx (zc 0) (xC (.int 1)))) (zt (sIf (wX (xT (xFn vr (za (zc 1) (za (xC (.int 1)) (za (xC (.int 12)) zf)))))) (zO (xC (.bl false))) yj) (zO (zN W3 (za (xL (yE (wx (zc 1)) [none,some 1,some 0] (zr 0) zX Qi)) zf))))))
def jX:List D->Option D:=mir 1 2 pB
def jY:G->Option Out:=(zt (sIf (wX (xT (xFn jX (za (zc 0) zf)))) sNo yj) (zO (zc 0)))
def Uu:List D->Option D:=mir 1 1 jY
def Qj:G->Option B:=(x2 mIx (zc 0) (zc 1))
def pC:G->Option Out:=(zO (xL (yE (wx (x2 mIx (zc 0) (xC (.int 1)))) [none,some 1] (zr 0) zX Qj)))
def ZF:List D->Option D:=mir 2 2 pC
def jZ:G->Option Out:=(zO (zN Zq (za (x2 yI (xL (wv (za (zc 1) zf))) (zc 0)) zf)))
def Xf:List D->Option D:=mir 2 2 jZ
def Wu:G->Option B:=(xIf (xT (zN vw (za (zc 0) (za (xTy .str) zf)))) (zc 0) (x2 mIx (zc 0) (xC (.int 0))))
def pD:G->Option Out:=(zt (yf 1 (xL (yE (wx (xFn ZF (za (zc 0) (za (xC (.int 0)) zf)))) [none] (zr 0) zX Wu))) (zO (xFn Xf (za (zc 1) (za (x2 mIx (zc 1) (xC (.int 0))) zf)))))
def kA:List D->Option D:=mir 1 2 pD
def wq:G->Option Out:=(zt (yf 5 (x2 mIx (zc 1) (zc 3))) (zt (sIf (xT (zN vw (za (zc 5) (za (xTy .str) zf)))) (zO (zc 5)) yj) (zt (sIf (xT (x2 (mEq false) (x2 mIx (zc 5) (xC (.int 1))) (xC (.int 1)))) (zO (x2 mIx (zc 5) (xC (.int 0)))) yj) (zt (yf 6 (x2 mIx (zc 2) (x2 yI (x2 mIx (zc 5) (xC (.int 0))) (xC (.int 1))))) (zt (sIf (xT (zN vw (za (zc 6) (za (xTy .str) zf)))) (zO (zc 6)) yj) (yf 3 (zc 6)))))))
def kB:G->Option Out:=(zt (yf 3 (zc 0)) (zt (uh (xR1 (za (zN wh (za (zc 1) zf)) zf)) (zr 4) wq) (zO (xC (.str "round")))))
def Vj:List D->Option D:=mir 3 7 kB
def Qk:G->Option B:=(xFn Vj (za (zc 0) (za (zc 1) (za (zc 2) zf))))
def kC:G->Option Out:=(zt (yf 2 (xL (yE (xR1 (za (zN wh (za (zc 0) zf)) zf)) [none,some 0,some 1] (zr 0) zX Qk))) (zt (yf 3 (x2 mIx (zc 1) (xC (.int 0)))) (zt (sIf (xT (zN vw (za (zc 3) (za (xTy .str) zf)))) (zO (xFn Xf (za (zc 2) (za (zc 3) zf)))) yj) (zO (xFn Xf (za (zc 2) (za (x2 mIx (zc 2) (zc 3)) zf)))))))
def kD:List D->Option D:=mir 2 4 kC
def J0:G->Option Out:=(zt (sIf (xT (zN vw (za (x2 mIx (zc 1) (xC (.int 0))) (za (xTy .str) zf)))) (zO (x2 mIx (zc 1) (xC (.int 0)))) yj) (zO (xFn Vj (za (x2 mIx (zc 1) (xC (.int 0))) (za (xFn ZF (za (zc 0) (za (x2 yI (x2 mIx (zc 0) (xC (.int 0))) (xC (.int 1))) zf))) (za (zc 1) zf))))))
def Uv:List D->Option D:=mir 2 2 J0
def Ql:G->Option B:=(xFn ZF (za (zc 1) (za (x2 yI (zc 0) (xC (.int 1))) zf)))
def Zd:G->Option Out:=(zt (yf 10 (xFn kD (za (zc 9) (za (zc 6) zf)))) (zt (sIf (xT (x2 (Z4 true) (zc 10) (zc 3))) (zt (Zu 3 (zc 10) (zN wh (za (zc 2) zf))) (Zs 2 (y7 (za (x2 yI (zc 5) (y7 (za (zc 8) zf))) (za (zc 10) zf))))) yj) (Zs 7 (x2 v7 (zc 3) (zc 10)))))
def Qm:G->Option Out:=(zt (yf 5 (x2 mIx (x2 mIx (zc 2) (zN wh (za (zc 4) zf))) (xC (.int 0)))) (zt (yf 6 (x2 mIx (x2 mIx (zc 2) (zN wh (za (zc 4) zf))) (xC (.int 1)))) (zt (vu 7 (wv zf)) (zt (uh (Z5 (za (zc 1) zf)) (yQ 2 (zA (zr 8) (zA (zr 9) yK))) Zd) (Zs 4 (zN Zq (za (zc 7) zf)))))))
def Wv:G->Option Bool:=(xT (x2 mLt (zN wh (za (zc 4) zf)) (zN wh (za (zc 2) zf))))
def pE:G->Option Out:=(zt (yf 1 (xL (yE (xR1 (za (x2 mIx (zc 0) (xC (.int 0))) zf)) [none,some 0] (zr 0) zX Ql))) (zt (vu 2 (wv (za (y7 (za (y7 zf) (za (xFn kA (za (zc 0) zf)) zf))) zf))) (zt (VY 3 (x2 mIx (x2 mIx (zc 2) (xC (.int 0))) (xC (.int 1))) (xC (.int 0))) (zt (vu 4 (wv zf)) (zt (xt Wv Qm WF) (Zr 4 (Zr 2 (zO (y7 (za (zc 2) (za (zc 4) zf)))))))))))
def cK:List D->Option D:=mir 1 11 pE
def Ze:G->Option Out:=(sIf (xT (x2 (Z4 true) (zc 5) (zc 2))) (zt (Zu 2 (zc 5) (xC (.bl true))) (Zs 1 (zc 5))) yj)
def Yz:G->Option Out:=(zt (yf 4 (x2 mIx (zc 0) (x2 mIx (zc 1) (zc 3)))) (zt (uh (wx (zc 4)) (zr 5) Ze) (AE 3 (xC (.int 1)))))
def YA:G->Option Bool:=(xT (x2 mLt (zc 3) (zN wh (za (zc 1) zf))))
def pF:G->Option Out:=(zt (vu 1 (wv (za (xC (.int 0)) zf))) (zt (mh 2 0 true) (zt (yf 3 (xC (.int 0))) (zt (xt YA Yz WF) (Zr 1 (zO (zc 1)))))))
def Vk:List D->Option D:=mir 1 6 pF
def Qn:G->Option B:=(x2 aU (zc 1) (zc 0))
def Ww:G->Option B:=(zN Zq (za (xL (yE (wx (x2 mIx (zc 1) (zc 0))) [none,some 2] (zr 0) zX Qn)) zf))
def pG:G->Option Out:=(zO (zN Zq (za (xL (yE (wx (zc 1)) [none,some 0,some 2] (zr 0) zX Ww)) zf)))
def uS:List D->Option D:=mir 3 3 pG
def Wx:G->Option B:=(y7 (za (zc 1) (za (zc 0) zf)))
def Wy:G->Option B:=(x2 mIx (zc 1) (zc 0))
def YB:G->Option Out:=(sIf (xT (x2 (Z4 true) (zc 11) (zc 8))) (zt (Zu 8 (zc 11) (zN wh (za (zc 9) zf))) (Zs 9 (zc 10))) yj)
def YC:G->Option B:=(x2 v7 (zc 1) (zc 0))
def Wz:G->Option B:=(zc 0)
def YD:G->Option Bool:=(xT (x2 mIx (zc 2) (zc 1)))
def pH:G->Option Out:=(zt (yf 3 (xFn Vk (za (zc 1) zf))) (zt (V2 4 (za (xL (yE (Z5 (za (zc 3) zf)) [none,none] (yQ 2 (zA (zr 0) (zA (zr 1) yK))) zX Wx)) zf)) (Zr 4 (zt (yf 5 (xFn uS (za (zc 1) (za (zc 3) (za (zc 4) zf))))) (zt (yf 6 (xL (yE (wx (zc 3)) [none,some 2] (zr 0) zX Wy))) (zt (yf 7 (xFn pA (za (zc 0) (za (zc 5) (za (zc 6) zf))))) (zt (VT 8) (zt (vu 9 (wv zf)) (zt (uh (Z5 (za (zc 7) zf)) (yQ 2 (zA (zr 10) (zA (zr 11) yK))) YB) (Zr 8 (Zr 9 (zt (yf 12 (xFn uS (za (zc 5) (za (zc 9) (za (xL (yE (wx (zc 7)) [none,some 8] (zr 0) zX YC)) zf))))) (zO (y7 (za (zc 0) (za (zc 12) (za (zN Zq (za (xL (yE (Z5 (za (zc 9) zf)) [none,none,some 6] (yQ 2 (zA (zr 0) (zA (zr 1) yK))) YD Wz)) zf)) zf)))))))))))))))))
def wZ:List D->Option D:=mir 3 13 pH
def Qo:G->Option B:=(xFn uR (za (zc 0) (za (xC (.int 0)) (za (x2 W0 (zc 1) (xC (.int 1))) zf))))
def pI:G->Option Out:=(zO (YU (zN vw (za (zc 0) (za (xTy .tup) zf))) (zN W3 (za (xL (yE (wx (zc 0)) [none,some 1] (zr 0) zX Qo)) zf))))
def cL:List D->Option D:=mir 2 2 pI
def Qp:G->Option B:=(x2 mLt (x2 mIx (zc 1) (zc 0)) (x2 mIx (zc 1) (x2 yI (zc 0) (xC (.int 1)))))
def pJ:G->Option Out:=(zO (zN W3 (za (xL (yE (xR1 (za (x2 W0 (zN wh (za (zc 0) zf)) (xC (.int 1))) zf)) [none,some 0] (zr 0) zX Qp)) zf)))
def kE:List D->Option D:=mir 1 1 pJ
def Qq:G->Option B:=(YU (xFn cL (za (zc 0) (za (zN wh (za (zc 1) zf)) zf))) (x2 (mEq false) (zN wh (za (zc 0) zf)) (x2 mIx (zc 2) (xC (.int 0)))))
def pL:G->Option Out:=(zt (sIf (xOr (wX (xT (xFn vr (za (zc 0) (za (xC (.int 3)) (za (xC (.int 3)) zf)))))) (wX (xT (xFn uR (za (x2 mIx (zc 0) (xC (.int 0))) (za (xC (.int 1)) (za (xC (.int 3)) zf))))))) (zO (xC (.bl false))) yj) (zt (yf 1 (x2 mIx (zc 0) (xC (.int 1)))) (zt (sIf (wX (xT (xFn vr (za (zc 1) (za (xC (.int 1)) (za (xC (.int 2000)) zf)))))) (zO (xC (.bl false))) yj) (zt (sIf (wX (xT (zN W3 (za (xL (yE (wx (zc 1)) [none,some 1,some 0] (zr 0) zX Qq)) zf)))) (zO (xC (.bl false))) yj) (zO (YU (xFn cL (za (x2 mIx (zc 0) (xC (.int 2))) (za (zN wh (za (zc 1) zf)) zf))) (xFn kE (za (x2 mIx (zc 0) (xC (.int 2))) zf))))))))
def kF:List D->Option D:=mir 1 2 pL
def pM:G->Option Out:=(zt (sIf (wX (xT (xFn kF (za (zc 0) zf)))) sNo yj) (zO (zc 0)))
def vi:List D->Option D:=mir 1 1 pM
def gJ:G->Option B:=(xC (.bl false))
def gK:G->Option Out:=(JQ 1 (zc 2) (xC (.bl true)))
def pN:G->Option Out:=(zt (vu 1 (yE (wx (x2 mIx (zc 0) (xC (.int 1)))) [none] (zr 0) zX gJ)) (zt (uh (wx (x2 mIx (zc 0) (xC (.int 2)))) (zr 2) gK) (Zr 1 (zO (zc 1)))))
def vy:List D->Option D:=mir 1 3 pN
def kG:G->Option Out:=(zt (YV (xFn vi (za (zc 0) zf))) (zO (xFn wZ (za (x2 mIx (zc 0) (xC (.int 0))) (za (x2 mIx (zc 0) (xC (.int 1))) (za (xFn vy (za (zc 0) zf)) zf))))))
def va:List D->Option D:=mir 1 1 kG
def WA:G->Option B:=(x2 (mEq false) (xFn Uv (za (zc 1) (za (x2 mIx (zc 0) (xC (.int 1))) zf))) (zc 2))
def pO:G->Option Out:=(zt (YV (xFn Uu (za (zc 0) zf))) (zt (sIf (xOr (wX (xT (zN vw (za (zc 1) (za (xTy .str) zf))))) (xT (x2 (mIn true) (zc 1) (xG [(.str "yes"),(.str "no"),(.str "round")])))) sNo yj) (zt (yf 2 (xFn cK (za (zc 0) zf))) (zt (yf 3 (xL (yE (wx (x2 mIx (zc 2) (xC (.int 0)))) [none,some 0,some 1] (zr 0) zX WA))) (zO (xFn wZ (za (x2 mIx (zc 0) (xC (.int 0))) (za (x2 mIx (zc 2) (xC (.int 1))) (za (zc 3) zf)))))))))
def Qr:List D->Option D:=mir 2 4 pO
def WB:G->Option B:=(JJ (zc 0))
def pP:G->Option Out:=(zt (YV (xFn vi (za (zc 0) zf))) (zO (xFn wZ (za (x2 mIx (zc 0) (xC (.int 0))) (za (x2 mIx (zc 0) (xC (.int 1))) (za (xL (yE (wx (xFn vy (za (zc 0) zf))) [none] (zr 0) zX WB)) zf))))))
def Qs:List D->Option D:=mir 1 1 pP
def WC:G->Option Out:=(sIf (xT (x2 (Z4 true) (zc 6) (zc 2))) (Zu 2 (zc 6) (y7 (za (zc 3) (za (zc 5) zf)))) yj)
def Qt:G->Option Out:=(uh (xEn (za (zc 4) zf)) (yQ 2 (zA (zr 5) (zA (zr 6) yK))) WC)
def WD:G->Option Out:=(zt (Zs 7 (x2 mIx (x2 v7 (zc 2) (zc 8)) (xC (.int 1)))) (yf 8 (x2 mIx (x2 v7 (zc 2) (zc 8)) (xC (.int 0)))))
def Zf:G->Option Bool:=(xT (x2 (mEq true) (zc 8) (xC (.int 0))))
def pR:G->Option Out:=(zt (VT 2) (zt (uh (jT (Z5 (za (zc 1) zf)) (xEn (za (zc 1) zf))) (yQ 2 (zA (zr 3) (zA (zr 4) yK))) Qt) (zt (vu 7 (wv zf)) (zt (yf 8 (zc 0)) (zt (xt Zf WD WF) (zO (zN jS (za (zc 7) zf))))))))
def Z9:List D->Option D:=mir 2 9 pR
abbrev Uw:List D->Option D:=Pq.wP [(true,true)] vi va vy wZ
abbrev J1:List D->Option D:=Pq.wP [(true,true),(true,false),(false,true)] vi va vy wZ
abbrev rf:List D->Option D:=Pq.vH [(true,false),(false,true)] vi va vy Z9
abbrev rg:List D->Option D:=Pq.vH [(true,false)] vi va vy Z9
def kH:G->Option Out:=(zt (yf 1 (xFn va (za (zc 0) zf))) (zt (sIf (xT (x2 (mEq false) (zN wh (za (x2 mIx (zc 1) (xC (.int 2))) zf)) (xC (.int 0)))) (zO (xC .non)) yj) (zO (xFn Z9 (za (x2 mIx (x2 mIx (zc 1) (xC (.int 2))) (xC (.int 0))) (za (x2 mIx (zc 1) (xC (.int 1))) zf))))))
def kI:List D->Option D:=mir 1 2 kH
def cM:G->Option Out:=(zt (sIf (xT (x2 mLt (zc 1) (zN wh (za (zc 0) zf)))) (zO (x2 mIx (zc 0) (zc 1))) yj) (zt (sIf (xT (x2 (mEq false) (zc 0) (xL (wv zf)))) (zO (xC (.int 0))) yj) (zO (x2 yI (x2 Z0 (x2 mIx (zc 0) (x2 Z1 (zc 1) (zN wh (za (zc 0) zf)))) (xC (.int 31))) (zc 1)))))
def kJ:List D->Option D:=mir 2 2 cM
def pS:G->Option Out:=(zt (yf 3 (x2 Z1 (x2 Z0 (x2 yI (x2 yI (xFn kJ (za (zc 0) (za (zc 1) zf))) (x2 Z0 (xC (.int 7919)) (zc 1))) (xC (.int 1))) (xC (.int 48271))) (xC (.int 2147483647)))) (zO (x2 Z1 (x2 Z1 (x2 yI (x2 yI (x2 Z0 (zc 3) (zc 3)) (x2 Z0 (xC (.int 7)) (zc 3))) (zc 1)) (xC (.int 2147483629))) (zc 2))))
def Xg:List D->Option D:=mir 3 4 pS
def kK:G->Option Out:=(zt (yf 4 (xFn Xg (za (zc 0) (za (zc 1) (za (x2 Z0 (xC (.int 40)) (zc 2)) zf))))) (zt (sIf (xT (x2 mLt (x2 Z1 (zc 4) (xC (.int 20))) (xC (.int 4)))) (zO (x2 mIx (xL (wv (za (xC (.str "yes")) (za (xC (.str "no")) zf)))) (x2 Z1 (zc 4) (xC (.int 2))))) yj) (zO (y7 (za (x2 aF (zc 4) (xC (.int 40))) (za (x2 mIx (zc 3) (x2 Z1 (x2 aF (zc 4) (xC (.int 20))) (zN wh (za (zc 3) zf)))) zf))))))
def Qu:List D->Option D:=mir 4 5 kK
def Qv:G->Option B:=(xFn Qu (za (zc 1) (za (x2 yI (x2 yI (zc 2) (xC (.int 1))) (zc 0)) (za (zc 3) (za (xL (wv (za (xC (.int 1)) (za (XG (xC (.int 1))) zf)))) zf)))))
def WE:G->Option Out:=(zt (yf 7 (x2 yI (x2 yI (zc 1) (xC (.int 1))) (x2 Z0 (xC (.int 5)) (zc 6)))) (zt (vu 8 (wv (za (xFn Qu (za (zc 0) (za (zc 7) (za (zc 4) (za (xL (wv (za (xC (.int 1)) zf))) zf))))) zf))) (zt (aJ 8 (xL (yE (xR1 (za (zc 2) zf)) [none,some 0,some 7,some 4] (zr 0) zX Qv))) (Zs 5 (zN Zq (za (x2 yI (zc 8) (xL (wv (za (xFn Qu (za (zc 0) (za (x2 yI (zc 7) (xC (.int 4))) (za (zc 4) (za (xL (wv (za (XG (xC (.int 1))) zf))) zf))))) zf)))) zf))))))
def pT:G->Option Out:=(zt (yf 4 (x2 yI (xC (.int 1)) (xFn Xg (za (zc 0) (za (zc 1) (za (zc 3) zf)))))) (zt (vu 5 (wv zf)) (zt (uh (xR1 (za (zc 4) zf)) (zr 6) WE) (zO (y7 (za (zc 2) (za (zN Zq (za (zc 5) zf)) zf)))))))
def cN:List D->Option D:=mir 4 9 pT
def sN:G->Option B:=(x2 yI (zc 1) (y7 (za (zc 0) zf)))
def sO:G->Option Out:=(aJ 5 (xL (yE (xR1 (za (zc 0) zf)) [none,some 6] (zr 0) zX sN)))
def sP:G->Option Out:=(zt (vu 5 (wv zf)) (zt (uh (wx (zc 3)) (zr 6) sO) (Zr 5 (zt (yf 3 (zc 5)) (yf 2 (x2 yI (zc 2) (zc 3)))))))
def AZ:G->Option Out:=(zt (yf 2 (xL (wv (za (y7 zf) zf)))) (zt (yf 3 (xL (wv (za (y7 zf) zf)))) (zt (uh (xR1 (za (zc 1) zf)) (zr 4) sP) (zO (zc 2)))))
def kL:List D->Option D:=mir 2 7 AZ
def cO:G->Option Out:=(zt (sIf (xT (x2 (mEq false) (zc 2) (xC (.int 0)))) (zO (xC (.int 0))) yj) (zt (sIf (xT (x2 mGt (zc 2) (zN wh (za (zc 1) zf)))) (zO (x2 yI (x2 mIx (zc 0) (xC (.int 0))) (xC (.int 1)))) yj) (zO (x2 yI (xC (.int 1)) (x2 mIx (zc 1) (x2 W0 (zc 2) (xC (.int 1))))))))
def kM:List D->Option D:=mir 3 3 cO
def wI:G->Option Out:=(zt (iQ (yQ 2 (zA (zr 3) (zA (zr 4) yK))) (x2 mIx (zc 2) (XG (xC (.int 1))))) (zt (yf 5 (x2 mIx (x2 mIx (x2 mIx (zc 0) (xC (.int 1))) (zc 3)) (xFn kM (za (zc 0) (za (zc 1) (za (zc 4) zf)))))) (zt (sIf (xT (zN vw (za (zc 5) (za (xTy .str) zf)))) (zO (y7 (za (zc 5) (za (zN wh (za (zc 2) zf)) zf)))) yj) (zt (yf 6 (y7 (za (x2 mIx (zc 5) (xC (.int 0))) (za (x2 yI (zc 4) (x2 mIx (zc 5) (xC (.int 1)))) zf)))) (zt (sIf (xT (x2 (mIn false) (zc 6) (zc 2))) (zO (y7 (za (xC (.str "round")) (za (x2 Yo (zc 2) (zc 6)) (za (x2 W0 (zN wh (za (zc 2) zf)) (x2 Yo (zc 2) (zc 6))) zf))))) yj) (Zs 2 (zc 6)))))))
def Xh:G->Option Bool:=(xT (xC (.bl true)))
def kO:G->Option Out:=(zt (vu 2 (wv (za (y7 (za (xC (.int 0)) (za (xC (.int 0)) zf))) zf))) (xt Xh wI WF))
def Xi:List D->Option D:=mir 2 7 kO
def ZG:G->Option B:=(xFn Qr (za (zc 1) (za (zc 0) zf)))
def cP:G->Option B:=(zc 0)
def Vl:G->Option Bool:=(xT (x2 (mEq false) (x2 mIx (xFn Xi (za (zc 1) (za (zc 0) zf))) (xC (.int 0))) (zc 2)))
def wJ:G->Option Out:=(zt (yf 10 (xFn kI (za (zc 9) zf))) (zt (yf 11 (xL (yE (wx (xFn kL (za (zc 1) (za (xC (.int 4)) zf)))) [none,some 2,some 8] (zr 0) Vl cP))) (sIf (xOr (iN (xT (x2 (mEq true) (zc 11) (xL (wv zf)))) (xT (x2 (mEq true) (zc 10) (x2 mIx (zc 11) (xC (.int 0)))))) (iN (xT (x2 Xe (zc 10) (xC .non))) (xT (x2 (mEq true) (x2 mIx (xFn Xi (za (zc 2) (za (zc 10) zf))) (xC (.int 0))) (zc 8))))) (zO (xC (.bl false))) yj)))
def kP:G->Option Out:=(zt (yf 1 (x2 yI (xC (.int 1)) (xFn Xg (za (zc 0) (za (xC (.int 0)) (za (xC (.int 2)) zf)))))) (zt (yf 2 (xFn cN (za (zc 0) (za (xC (.int 1)) (za (zc 1) (za (xC (.int 3)) zf)))))) (zt (iQ (JU 3 (zA (zr 3) (zA (zr 4) (zA (zr 5) yK)))) (xL (yE (wx (y7 (za (xC (.str "yes")) (za (xC (.str "no")) (za (xC (.str "round")) zf))))) [none,some 2] (zr 0) zX ZG))) (zt (yf 6 (y7 (za (zc 1) (za (y7 (za (x2 Wp (y7 (za (xC (.int 0)) zf)) (zc 1)) zf)) (za (y7 zf) zf))))) (zt (sIf (xOr (xT (x2 (mEq true) (xFn Uw (za (zc 3) (za (zc 4) zf))) (zc 6))) (xOr (xT (x2 (mEq true) (xFn Uw (za (zc 3) (za (zc 5) zf))) (zc 6))) (xT (x2 (mEq true) (xFn Uw (za (zc 4) (za (zc 5) zf))) (zc 6))))) (zO (xC (.bl false))) yj) (zt (yf 7 (xFn J1 (za (zc 4) (za (zc 5) zf)))) (zt (sIf (xOr (xT (x2 (mEq true) (xFn J1 (za (zc 3) (za (zc 7) zf))) (y7 (za (zc 1) (za (x2 mIx (zc 6) (xC (.int 1))) (za (y7 (za (xC (.int 0)) zf)) zf)))))) (xT (x2 (mEq true) (xFn Qs (za (zc 3) zf)) (zc 7)))) (zO (xC (.bl false))) yj) (zt (sIf (xOr (xT (x2 Xe (xFn rg (za (zc 3) (za (xFn J1 (za (zc 3) (za (zc 4) zf))) zf))) (xC .non))) (xT (x2 Xe (xFn rf (za (zc 7) (za (xFn Qs (za (zc 3) zf)) zf))) (xC .non)))) (zO (xC (.bl false))) yj) (zt (uh (jU (za (y7 (za (xC (.str "yes")) (za (xC (.str "no")) (za (xC (.str "round")) zf)))) (za (y7 (za (zc 3) (za (zc 4) (za (zc 5) zf)))) zf))) (yQ 2 (zA (zr 8) (zA (zr 9) yK))) wJ) (zO (xC (.bl true))))))))))))
def WG:List D->Option D:=mir 1 12 kP
end Py
namespace Py
open PySem L2 DD Pu
def mY{i:Int}(h:-(2^64)<i/\i<2^64):xS i=true:=by unfold xS;simp only[h.1,h.2,decide_true,Bool.and_self]
def A1{ns:List Int}{k:Nat}:∃v:Int,kJ [.scr ns,.int k]=some (.int v):=by
 by_cases h:k<ns.length
 ·refine⟨ns[k],zV rfl ?_⟩
  simp[cM,zB,xD,h]
 ·by_cases h2:ns=[]
  ·subst h2
   refine⟨0,zV rfl ?_⟩
   have e:¬((k:Int)<0):=by omega
   simp[cM,zB,gC,e]
  ·have z:0<ns.length:=List.length_pos_iff.mpr h2
   have J:(k:Int)%(ns.length:Int)=((k%ns.length:Nat):Int):=by simp
   have j:k%ns.length<ns.length:=LR _ z
   refine⟨ns[k%ns.length]*31+k,zV rfl ?_⟩
   have e:¬((k:Int)<(ns.length:Int)):=by omega
   have O:(0:Int)<(ns.length:Int):=by omega
   simp[cM,zB,gC,h2,e,ZO O]
   rw[J,xD]
   simp[j,ZN (.inr (show xS 31=true by decide))]
def Qw{ns:List Int}{k many:Nat}(U:0<many):∃v:Nat,v<many/\Xg [.scr ns,.int k,.int many]=some (.int v):=by
 obtain⟨c,J⟩:=A1 (ns:=ns) (k:=k)
 have j:(0:Int)<many:=by omega
 generalize z:(c+7919*(k:Int)+1)*48271%2147483647=d
 have Y:0<=d:=by rw[<-z];exact Ng _ (by decide)
 have Z:d<2147483647:=by rw[<-z];exact Pp _ (by decide)
 refine⟨((d*d+7*d+k)%2147483629%many).toNat,?_,zV rfl ?_⟩
 ·have h1:=Ng ((d*d+7*d+k)%2147483629) (b:=(many:Int)) (by omega)
  have h2:=Pp ((d*d+7*d+k)%2147483629) j
  omega
 ·have h1:=Ng ((d*d+7*d+k)%2147483629) (b:=(many:Int)) (by omega)
  have O:xS d=true:=mY ⟨by omega,by omega⟩
  have s1:xS 7919=true:=by decide
  have s2:xS 48271=true:=by decide
  have s3:xS 7=true:=by decide
  simp[pS,zB,J,ZN (.inl s1),ZN (.inr s2),ZO (show(0:Int)<2147483647 by decide),z,ZN (.inl s3),ZN (.inl O),ZO (show(0:Int)<2147483629 by decide),ZO j]
  omega
abbrev wc:Fp:=HQ "yes"
abbrev xy:Fp:=HQ "no"
abbrev zW:Fp:=HQ "round"
def yu:Mv Fp->D
 | .fin s=>.str s
 | .go r b=>.tup [.int r,.int (if b then 1 else-1)]
def yX(j:List (Mv Fp)):D:=.tup (j.map yu)
def zM(L:Nat)(rooms:List (List (Mv Fp))):D:=.tup [.int L,.tup (rooms.map yX)]
def xv(w:List Nat):D:=.tup (w.map λ(a:Nat)=>D.int (a:Int))
@[simp] theorem DW:(B.d (zM L rooms)).seq=some [.int L,.tup (rooms.map yX)]:=id rfl
@[simp] theorem DY {w:List Nat}:(B.d (xv w)).seq=some (w.map λ(a:Nat)=>D.int (a:Int)):=id rfl
def pU(n L c:Nat):Mv Fp->Prop
 | .fin s=>s=wc\/s=xy
 | .go r b=>r<n/\(c=0->b=true)/\(c=L+1->b=false)
structure OkRoom (n L:Nat) (rm:List (Mv Fp)):Prop where
 len:rm.length=L+2
 mvs:∀(c:Nat) (h:c<rm.length),pU n L c rm[c]
structure OkM (L:Nat) (rooms:List (List (Mv Fp))):Prop where
 l1:1<=L
 l3:L<=3
 r1:1<=rooms.length
 r12:rooms.length<=12
 all:∀rm∈rooms,OkRoom rooms.length L rm
theorem cQ{ns:List Int}{k many:Nat}{ways:List Bool}(hm:0<many)(U:0<ways.length)(Y:ways.length<1000):∃m:Mv Fp,Qu [.scr ns,.int k,.int many,.lst (ways.map λb=>.int (if b then 1 else-1))]=some (yu m)/\match m with
  | .fin s=>s=wc\/s=xy
  | .go r b=>r<many/\b∈ways:=by
 obtain⟨v,hv,j⟩:=Qw (ns:=ns) (k:=k) (many:=40*many) (by omega)
 have s1:xS 40=true:=by decide
 have J:((40*many:Nat):Int)=40*(many:Int):=by omega
 rw[J]at j
 by_cases h:v%20<4
 ·have h':(v:Int)%20<4:=by omega
  have Z:(v:Int)%2=((v%2:Nat):Int):=by omega
  refine⟨.fin (if v%2=0 then wc else xy),zV rfl ?_,?_⟩
  ·simp[kK,zB,ZN (.inl s1),j,ZO (show(0:Int)<20 by decide),h',ZO (show(0:Int)<2 by decide)]
   rw[Z,xD]
   rcases Nat.mod_two_eq_zero_or_one v with z|z <;>simp[z,yu,wc,xy]
  ·by_cases z:v%2=0 <;>simp[z]
 ·have h':¬(v:Int)%20<4:=by omega
  have O:v/20%ways.length<ways.length:=LR _ U
  have e1:(v:Int)/20%(ways.length:Int)=((v/20%ways.length:Nat):Int):=by simp
  have hp:(0:Int)<(ways.length:Int):=by omega
  refine⟨.go (v/40) ways[v/20%ways.length],zV rfl ?_,?_,GF _⟩
  ·simp[kK,zB,ZN (.inl s1),j,ZO (show(0:Int)<20 by decide),h',rc (show(0:Int)<40 by decide) (by decide),rc (show(0:Int)<20 by decide) (by decide),ZO hp]
   rw[e1,xD]
   simp[O,yu]
  ·omega
def A2{ns:List Int}{a L n k:Nat}{most:Int}{s6 s7 s8:S}{rooms:List (List (Mv Fp))}(hL:L<=3)(hn:0<n)(hr:rooms.length<1000):∃g2 rm,WE [.v (.scr ns),.v (.int a),.v (.int L),.v (.int most),.v (.int n),.ol (rooms.map yX),.v (.int k),s7,s8]=some (.nx g2)/\OkRoom n L rm/\
  ∃s6 s7 s8,g2=[.v (.scr ns),.v (.int a),.v (.int L),.v (.int most),.v (.int n),.ol ((rooms++[rm]).map yX),s6,s7,s8]:=by
 have s5:xS 5=true:=by decide
 obtain⟨O,U,Y⟩:=cQ (ns:=ns) (k:=a+1+5*k) (many:=n) (ways:=[true]) hn (by simp) (by simp)
 obtain⟨m9,Z,aa⟩:=cQ (ns:=ns) (k:=a+1+5*k+4) (many:=n) (ways:=[false]) hn (by simp) (by simp)
 obtain⟨ms,hc,ab,ac⟩:=Y5 yu (t:=zr 0) (cond:=zX) (el:=Qv)
  (Γ:=[.v (.scr ns),.v (.int a),.v (.int L),.v (.int most),.v (.int n),.ol (rooms.map yX),.v (.int k),.v (.int (a+1+5*k)),.ol [yu O]]) (ms:=[none,some 0,some 7,some 4]) (ds:=xk 0 L)
  (λ_ m=>match m with|.fin s=>s=wc\/s=xy|.go r b=>r<n) (by simp;omega) (by
   intro j hj
   have ad:j<L:=by simpa using hj
   obtain⟨m,hm,ho⟩:=cQ (ns:=ns) (k:=a+1+5*k+1+j) (many:=n) (ways:=[true,false]) hn (by simp) (by simp)
   refine⟨_,m,rfl,rfl,?_,?_⟩
   ·have e2:((a+1+5*k+1+j:Nat):Int)=(a:Int)+1+5*k+1+j:=by omega
    rw[e2]at hm
    simp at hm
    simp[y8,Qv,hm]
   ·cases m with
    | fin s=>exact ho
    | go r b=>exact ho.1)
 have e3:((a+1+5*k:Nat):Int)=(a:Int)+1+5*k:=by omega
 have e4:((a+1+5*k+4:Nat):Int)=(a:Int)+1+5*k+4:=by omega
 rw[e3]at U
 rw[e4]at Z
 simp at U Z
 have J:ms.length=L:=by simpa using ab
 refine⟨[.v (.scr ns),.v (.int a),.v (.int L),.v (.int most),.v (.int n),.ol ((rooms++[O::ms++[m9]]).map yX),.v (.int k),.v (.int (a+1+5*k)),.ol ((O::ms).map yu)],O::ms++[m9],?_,⟨by simp[J],λc hc=>?_⟩,_,_,_,rfl⟩
 ·have c1:¬16777216<1+L:=by omega
  have c2:1+L<=16777216:=by omega
  have c3:L+1+1<=16777216:=by omega
  have c4:rooms.length<16777216:=by omega
  simp[WE,ZN (.inl s5),U,vx,vU (show L<1000000 by omega),hc,Z,J,c2,c3,c4,yX]
 ·have ae:c<L+2:=by simpa[J]using hc
  by_cases h0:c=0
  ·subst h0
   cases O with
   | fin s=>exact Y
   | go r b=>exact⟨Y.1,λ_=>by simpa using Y.2,λz=>by omega⟩
  ·by_cases h1:c=L+1
   ·subst h1
    have:(O::ms++[m9])[L+1]'hc=m9:=by simp[J]
    rw[this]
    cases m9 with
    | fin s=>exact aa
    | go r b=>exact⟨aa.1,λz=>by omega,λ_=>by simpa using aa.2⟩
   ·obtain⟨j,rfl⟩:∃j,c=j+1:=⟨c-1,by omega⟩
    have hj:j<ms.length:=by omega
    have:(O::ms++[m9])[j+1]'hc=ms[j]:=by simp[List.getElem_append_left,hj]
    rw[this]
    have:=ac j hj
    cases hq:ms[j]with
    | fin s=>rw[hq]at this;exact this
    | go r b=>rw[hq]at this;exact⟨this,λz=>by omega,λz=>by omega⟩
def mZ{ns:List Int}{a L most:Nat}(U:L<=3)(Y:0<most)(Z:most<=12):∃rooms:List (List (Mv Fp)),cN [.scr ns,.int a,.int L,.int most]=some (zM L rooms)/\1<=rooms.length/\rooms.length<=most/\∀J∈rooms,OkRoom rooms.length L J:=by
 obtain⟨v,hv,hc⟩:=Qw (ns:=ns) (k:=a) Y
 obtain⟨g,h1,s6,s7,s8,rooms,hg,O,j⟩:=uo (t:=zr 6) (fb:=WE) (xk 0 (1+v))
  (λk Γ=>∃s6 s7 s8,∃rooms:List (List (Mv Fp)),Γ=[.v (.scr ns),.v (.int a),.v (.int L),.v (.int most),.v (.int ((1+v:Nat):Int)),.ol (rooms.map yX),s6,s7,s8]/\rooms.length=k/\∀J∈rooms,OkRoom (1+v) L J)
  [.v (.scr ns),.v (.int a),.v (.int L),.v (.int most),.v (.int ((1+v:Nat):Int)),.ol [],.un,.un,.un] ⟨.un,.un,.un,[],rfl,rfl,by simp⟩ (by
   rintro k Γ hk ⟨s6,s7,s8,rooms,rfl,hl,j⟩
   have aa:k<1+v:=by simpa using hk
   obtain⟨g2,J,h2,h3,h4⟩:=A2 (ns:=ns) (a:=a) (L:=L) (n:=1+v) (k:=k) (most:=most) (s6:=s6) (s7:=s7) (s8:=s8) (rooms:=rooms) U (by omega) (by omega)
   refine⟨_,g2,?_,h2,?_⟩
   ·simp
   ·obtain⟨t6,t7,t8,rfl⟩:=h4
    refine⟨_,_,_,rooms++[J],rfl,by simp[hl],λr hr=>?_⟩
    rcases Gk.mp hr with h|h
    ·exact j r h
    ·simp at h;subst h;exact h3)
 have z:rooms.length=1+v:=by simpa using O
 refine⟨rooms,zV rfl ?_,by omega,by omega,by rw[z];exact j⟩
 have e:(1:Int)+(v:Int)=((1+v:Nat):Int):=by omega
 subst hg
 simp only[pT,zB,yz,ZA,Zz,jE,Y3,xw,Zy,V9]
 simp[hc]
 rw[e,vU (by omega),XV,h1]
 simp[zM]
@[simp] theorem Ev:isi .int .bl=false:=by decide
@[simp] theorem Ew:isi .int .int=true:=by decide
@[simp] theorem Ex:isi .int .str=false:=by decide
@[simp] theorem Ey:isi .str .str=true:=by decide
@[simp] theorem Ez:isi .tup .str=false:=by decide
@[simp] theorem EB:isi .tup .tup=true:=by decide
def cR{i lo hi:Int}:uR [.int i,.int lo,.int hi]=some (.bl (decide (lo<=i/\i<=hi))):=by
 refine zV rfl ?_
 simp[jV,zB]
 rw[Uc (k:=hi) (by simp)]
 simp
def kQ{ds:List D}{lo hi:Int}:vr [.tup ds,.int lo,.int hi]=some (.bl (decide (lo<=ds.length/\ds.length<=hi))):=by
 refine zV rfl ?_
 simp[JV,zB]
 rw[Uc (k:=hi) (by simp)]
 simp
def ways(c L:Nat):List Bool:=if c=0 then [true]else if c=L+1 then [false]else [true,false]
def Ya(b:Bool):D:=.int (if b then 1 else-1)
def A3{c L:Nat}:JW [.int c,.int L]=some (.tup ((ways c L).map Ya)):=by
 refine zV rfl ?_
 unfold ways
 by_cases z:c=0
 ·subst z
  simp[Ut,zB,Ya]
 ·by_cases h1:c=L+1
  ·subst h1
   have J:((L+1:Nat):Int)≠0:=by omega
   have j:¬((L:Int)+1=0):=by omega
   simp[Ut,zB,Ya,j]
  ·have J:¬((c:Int)=0):=by omega
   have O:¬((c:Int)=(L:Int)+1):=by omega
   simp[Ut,zB,Ya,z,h1,O]
def sQ:OkD 0 (Ya b):=OkD.int
def YE:Hn wc=true:=by decide+kernel
def YF:Hn xy=true:=by decide+kernel
def ZS:Hn zW=true:=by decide+kernel
def A4(h:pU n L c m):JY [yu m,.int n,.tup ((ways c L).map Ya)]=some (.bl true):=by
 refine zV rfl ?_
 cases m with
 | fin s=>
  have U:Hn s=true:=by rcases h with rfl|rfl <;>decide+kernel
  simp[JX,zB,yu]
  rw[jI (n:=0) (x:=.str s) (b:=.c [.str wc,.str xy]) (ds:=[.str wc,.str xy]) (OkD.str U) rfl (by
   intro d j
   simp at j
   rcases j with rfl|rfl
   ·exact OkD.str YE
   ·exact OkD.str YF)]
  rcases h with rfl|rfl <;>simp[toP,F8]
 | go r b=>
  obtain⟨h1,h2,Y⟩:=h
  have J:(0:Int)<=r/\(r:Int)<=(n:Int)-1:=by omega
  have O:(-1:Int)<=(if b then 1 else-1)/\((if b then 1 else-1:Int))<=1:=by cases b <;>simp
  have Z:b∈ways c L:=by
   unfold ways
   by_cases z:c=0
   ·rw[if_pos z,h2 z];simp
   ·rw[if_neg z]
    by_cases q1:c=L+1
    ·rw[if_pos q1,Y q1];simp
    ·rw[if_neg q1];cases b <;>simp
  simp[JX,zB,yu,kQ,cR,J.1,J.2,O.1,O.2]
  rw[jI (n:=0) (x:=.int (if b then 1 else-1)) (b:=.d (.tup ((ways c L).map Ya))) (ds:=(ways c L).map Ya) OkD.int rfl (by
   intro d j
   obtain⟨b',_,rfl⟩:=FX.mp j
   exact sQ)]
  have:((ways c L).map Ya).any (λd=>F8 (toP d) (toP (.int (if b then 1 else-1))))=true:=by
   rw[IZ]
   exact⟨Ya b,FX.mpr ⟨b,Z,rfl⟩,Y4 _⟩
  simp[this]
def A5{n L:Nat}{j:List (Mv Fp)}(hL:L<=3)(h:OkRoom n L j):JZ [yX j,.int n,.int L]=some (.bl true):=by
 refine zV rfl ?_
 obtain⟨ys,h1,h2,O⟩:=Y5 (λ(b:Bool)=>D.bl b) (t:=yQ 2 (zA (zr 0) (zA (zr 1) yK))) (cond:=zX) (el:=Vi) (Γ:=[.v (yX j),.v (.int n),.v (.int L)]) (ms:=[none,none,some 1,some 2]) (ds:=zP (j.map yu)) (λ_ b=>b=true) (by simp[h.len];omega) (by
  intro k z
  have J:k<j.length:=by simpa using z
  refine⟨[.v (.int k),.v (yu j[k]),.v (.int n),.v (.int L)],true,by simp[y8],rfl,?_,rfl⟩
  simp[Vi,A3,A4 (h.mvs k J)])
 have U:(v6 (ys.map λb=>D.bl b)).map (λbs=>D.bl (bs.all id))=some (.bl true):=uZ _ (by
  intro x Y
  obtain⟨b,Z,rfl⟩:=FX.mp Y
  obtain⟨k,z,rfl⟩:=GE.mp Z
  rw[O k z])
 simp[yX]at h1
 simp[jW,zB,yX,kQ,h.len,h1,U]
def m3(h:OkM L rooms):jX [zM L rooms]=some (.bl true):=by
 refine zV rfl ?_
 obtain⟨ys,h1,h2,U⟩:=Y5 (λ(b:Bool)=>D.bl b) (t:=zr 0) (cond:=zX) (el:=Qi) (Γ:=[.v (zM L rooms),.v (.tup (rooms.map yX))]) (ms:=[none,some 1,some 0]) (ds:=rooms.map yX) (λ_ b=>b=true) (by have:=h.r12;simp;omega) (by
  intro k j
  have z:k<rooms.length:=by simpa using j
  refine⟨_,true,rfl,rfl,?_,rfl⟩
  simp[y8,Qi,zM,A5 h.l3 (h.all _ (GF z))])
 have Y:(v6 (ys.map λb=>D.bl b)).map (λbs=>D.bl (bs.all id))=some (.bl true):=uZ _ (by
  intro x Z
  obtain⟨b,hb,rfl⟩:=FX.mp Z
  obtain⟨k,j,rfl⟩:=GE.mp hb
  rw[U k j])
 have J:(1:Int)<=L/\(L:Int)<=3:=by have:=h.l1;have:=h.l3;omega
 have O:(1:Int)<=(rooms.length:Int)/\(rooms.length:Int)<=12:=by have:=h.r1;have:=h.r12;omega
 simp[zM]at h1
 simp[pB,zB,zM,kQ,cR,J.1,J.2,O.1,O.2,h1,Y]
def m4(h:OkM L rooms):Uu [zM L rooms]=some (zM L rooms):=by
 refine zV rfl ?_
 simp[jY,zB,m3 h]
def yt(rooms:List (List (Mv Fp)))(r c:Nat):Mv Fp:=(rooms.getD r []).getD c (.fin xy)
def OkM.mv(h:OkM L rooms)(z:r<rooms.length)(O:c<L+2):pU rooms.length L c (yt rooms r c):=by
 have J:=h.all _ (GF z)
 have j:c<rooms[r].length:=by rw[J.len];exact O
 have:=J.mvs c j
 simpa[yt,FM,z,j]using this
def wz(c:Nat×Nat):D:=.tup [.int c.1,.int c.2]
def cS:F8 (toP (wz x)) (toP (wz c))=decide (x=c):=by
 unfold wz
 rw[mF,Iv,decide_eq_true_eq,decide_eq_true_eq]
 obtain⟨x1,x2⟩:=x
 obtain⟨j,z⟩:=c
 simp only[OM]
 omega
def okC:OkD 1 (wz c):=OkD.tup (n:=0) (by simp[OkD.int])
def xM(rooms:List (List (Mv Fp)))(c:Nat):List (Mv Fp):=rooms.map λj=>j.getD c (.fin xy)
def yn:Res Fp->D
 | .fin s=>.str s
 | .out r=>.int r
noncomputable def yh (rooms:List (List (Mv Fp))) (w:List Nat) (c:Nat×Nat):Res Fp:=wC (yt rooms) zW w c
noncomputable def yY (rooms:List (List (Mv Fp))) (w:List Nat):List (Res Fp):=yh rooms w (0,0)::(Fy rooms.length).map λr=>yh rooms w (r,w.length)
noncomputable def ye (rooms:List (List (Mv Fp))) (w:List Nat):D:=.tup ((yY rooms w).map yn)
def kR:yn (.fin s)=.str s:=rfl
def kS:yn (.out b)=.int b:=rfl
section
variable {L:Nat} {rooms:List (List (Mv Fp))}
def X4(h:r<(xM rooms c).length):(xM rooms c)[r]=yt rooms r c:=by
 have h':r<rooms.length:=by simpa[xM]using h
 simp[xM,yt,FM,h']
@[simp] theorem Dl:(xM rooms c).length=rooms.length:=by simp[xM]
def Xj(h:OkM L rooms)(z:c<L+2):ZF [zM L rooms,.int c]=some (.lst ((xM rooms c).map yu)):=by
 refine zV rfl ?_
 have h1:=xa yu (t:=zr 0) (cond:=zX) (el:=Qj) (Γ:=[.v (zM L rooms),.v (.int c)]) (ms:=[none,some 1]) (ds:=rooms.map yX) (xM rooms c) (by simp) (by have:=h.r12;simp;omega) (by
  intro k J
  have j:k<rooms.length:=by simpa using J
  refine⟨_,rfl,rfl,?_⟩
  have O:=(h.all _ (GF j)).len
  rw[X4]
  simp[y8,Qj,yX,xD,yt,FM,j,O,z])
 simp[zM]at h1
 simp[pC,zB,zM,h1]
def m5(z:ends.length<1000):Xf [.lst ends,first]=some (.tup (first::ends)):=by
 refine zV rfl ?_
 have j:1+ends.length<=16777216:=by omega
 simp[jZ,zB,j]
theorem sR(h:OkM L rooms)(U:∀x∈w,x<L)(J:c.1<rooms.length):
  match zY (yt rooms) w c with
  | .inl (.fin s)=>s=wc\/s=xy
  | .inl (.out b)=>b<rooms.length
  | .inr d=>d.1<rooms.length:=by
 unfold zY
 by_cases O:w.length<c.2
 ·rw[if_pos O];exact J
 ·rw[if_neg O]
  have Y:col w c.2<L+2:=by
   unfold col
   split
   ·omega
   ·have j:c.2-1<w.length:=by omega
    have:=U _ (GF j)
    simp[FM,j]
    omega
  have:=h.mv J Y
  revert this
  cases yt rooms c.1 (col w c.2)with
  | fin s=>exact λz=>z
  | go r b=>cases b <;>exact λz=>z.1
theorem m6(h:OkM L rooms)(j:∀x∈w,x<L):∀{k:Nat} {c:Nat×Nat} {x:Res Fp},c.1<rooms.length->run (zY (yt rooms) w) k c=.inl x->match x with
  | .fin s=>s=wc\/s=xy
  | .out b=>b<rooms.length
 | 0,_,_,_,e=>by cases e
 | k+1,c,x,z,e=>by
  have st:=sR h j z
  cases q:zY (yt rooms) w c with
  | inl y=>rw[q]at st;rw[wa _ q]at e;cases e;cases x <;>exact st
  | inr d=>rw[q]at st;rw[yT _ q]at e;exact m6 h j st e
theorem YG(h : OkM L rooms){w : List Nat}(hw : ∀ x ∈ w, x < L){c : Nat × Nat}(hr : c.1 < rooms.length): match yh rooms w c with
    | .fin s => s = wc ∨ s = xy ∨ s = zW
    | .out b => b < rooms.length := by
  unfold yh wC
  by_cases z : ∃ x, xW (zY (yt rooms) w) c x
  · obtain ⟨x, z⟩ := z
    rw [xc z]
    obtain ⟨k, hk⟩ := z
    have := m6 h hw hr hk
    cases x with
    | fin s => rcases this with e | e
               · exact .inl e
               · exact .inr (.inl e)
    | out b => exact this
  · rw [xm fun x q => z ⟨x, q⟩]; exact .inr (.inr rfl)
def Qx(h:OkM L rooms):kA [zM L rooms]=some (ye rooms []):=by
 refine zV rfl ?_
 have j:∀r,r<rooms.length->yh rooms [] (r,0)=match yt rooms r 0 with
   | .fin s=>.fin s
   | .go J _=>.out J:=λr Z=>by
  have z:=h.mv Z (c:=0) (by omega)
  unfold yh wC
  cases q:yt rooms r 0 with
  | fin s=>exact ZB (by simp[zY,col,q])
  | go J b=>
   rw[q]at z
   have hb:b=true:=z.2.1 rfl
   subst hb
   rw[ZC (show zY (yt rooms) [] (r,0)=.inr (J,1) by simp[zY,col,q])]
   exact ZB (by simp[zY])
 have h1:=xa yn (t:=zr 0) (cond:=zX) (el:=Wu) (Γ:=[.v (zM L rooms),.un]) (ms:=[none]) (ds:=(xM rooms 0).map yu) ((Fy rooms.length).map λr=>yh rooms [] (r,0)) (by simp) (by have:=h.r12;simp;omega) (by
  intro k z
  have O:k<rooms.length:=by simpa using z
  refine⟨_,rfl,rfl,?_⟩
  simp only[Hr,Kv,j k O,X4]
  cases yt rooms k 0 with
  | fin s=>simp[y8,Wu,yu,yn]
  | go r b=>simp[y8,Wu,yu,yn])
 have h0:0<rooms.length:=h.r1
 have c0:(Fy rooms.length).length=rooms.length:=GS
 have hm:=Xj h (c:=0) (by omega)
 have Y:=m5 (ends:=((Fy rooms.length).map λr=>yh rooms [] (r,0)).map yn) (first:=yn (yh rooms [] (0,0))) (by have:=h.r12;simp;omega)
 have U:ZF [zM L rooms,.int 0]=some (.lst ((xM rooms 0).map yu)):=hm
 simp at Y h1
 simp[pD,zB,U,h1,h0,Y,ye,yY]
def pV(j:r<rooms.length):(yY rooms w)[r+1]?=some (yh rooms w (r,w.length)):=by
 simp[yY,j]
theorem WH:wY (yt rooms) zW w a r=match yt rooms r (a+1)with
 | .fin s=>.inl (.fin s)
 | .go j true=>.inl (.out j)
 | .go j false=>match yh rooms w (j,w.length)with
  | .fin s=>.inl (.fin s)
  | .out b=>.inr b:=by
 unfold wY hop yh
 simp only
 cases yt rooms r (a+1)with
 | fin s=>rfl
 | go j b=>
  cases b with
  | true=>rfl
  | false=>simp only;cases wC (yt rooms) zW w (j,w.length) <;>rfl
noncomputable abbrev ZH (rooms:List (List (Mv Fp))) (w:List Nat) (a r at_:Nat) (s4 s5 s6:S):G:=[.v (.int r),.v (.lst ((xM rooms (a+1)).map yu)),.v (ye rooms w),.v (.int at_),s4,s5,s6]
theorem cT(h:OkM L rooms){w:List Nat}{a r J:Nat}{s4 s5 s6:S}(hw:∀x∈w,x<L)(ha:a<=L)(U:J<rooms.length):
  match wY (yt rooms) zW w a J with
  | .inl x=>wq (ZH rooms w a r J s4 s5 s6)=some (.rt (yn x))
  | .inr b=>b<rooms.length/\∃t5 t6,wq (ZH rooms w a r J s4 s5 s6)=some (.nx (ZH rooms w a r b s4 t5 t6)):=by
 have Y:=h.mv U (c:=a+1) (by omega)
 have j:(xM rooms (a+1))[J]?=some (yt rooms J (a+1)):=by
  rw[FU (by simpa using U),X4]
 rw[WH]
 cases q:yt rooms J (a+1)with
 | fin s=>
  rw[q]at j
  simp[wq,ZH,xD,j,yu,yn]
 | go O b=>
  rw[q]at j Y
  cases b with
  | true=>simp[wq,ZH,xD,j,yu,yn]
  | false=>
   have Z:O<rooms.length:=Y.1
   have hd:=pV (w:=w) Z
   have hs:=YG h hw (c:=(O,w.length)) Z
   have e1:(O:Int)+1=((O+1:Nat):Int):=by omega
   simp only
   cases z:yh rooms w (O,w.length)with
   | fin s=>
    rw[z]at hd
    simp[wq,ZH,xD,Vb,j,yu,yn,ye,hd]
   | out b=>
    rw[z]at hd hs
    refine⟨hs,.v (.tup [.int O,.int (-1)]),.v (.int b),?_⟩
    simp[wq,ZH,xD,Vb,j,yu,yn,ye,hd]
theorem cU(h:OkM L rooms){w:List Nat}{a r:Nat}(Y:∀x∈w,x<L)(Z:a<=L):∀(ds:List D) (j:Nat) (s4 s5 s6:S),j<rooms.length->
  (match run (wY (yt rooms) zW w a) ds.length j with
  | .inl x=>x0 (zr 4) wq ds (ZH rooms w a r j s4 s5 s6)=some (.rt (yn x))
  | .inr b=>∃g,x0 (zr 4) wq ds (ZH rooms w a r j s4 s5 s6)=some (.nx g))
 | [],j,s4,s5,s6,_=>⟨_,rfl⟩
 | d::ds,j,s4,s5,s6,O=>by
  have J:=cT h (r:=r) (s4:=.v d) (s5:=s5) (s6:=s6) Y Z O
  have e:x0 (zr 4) wq (d::ds) (ZH rooms w a r j s4 s5 s6)=(wq (ZH rooms w a r j (.v d) s5 s6)).bind λo=>match o with
   | .nx z=>x0 (zr 4) wq ds z
   | .ct z=>x0 (zr 4) wq ds z
   | .bk z=>some (.nx z)
   | .rt d=>some (.rt d):=rfl
  rw[e]
  show match run (wY (yt rooms) zW w a) (ds.length+1) j with|.inl x=>_|.inr b=>_
  cases q:wY (yt rooms) zW w a j with
  | inl x=>
   rw[q]at J
   rw[wa _ q]
   simp only at J ⊢
   rw[J];rfl
  | inr b=>
   rw[q]at J
   obtain⟨U,t5,t6,J⟩:=J
   rw[yT _ q,J]
   exact cU h Y Z ds b (.v d) t5 t6 U
def rh(h:OkM L rooms)(z:∀x∈w,x<L)(J:a<=L)(O:r<rooms.length):Vj [.int r,.lst ((xM rooms (a+1)).map yu),ye rooms w]=some (yn (yh rooms (w++[a]) (r,w.length+1))):=by
 have j:=cU h (r:=r) z J (xk 0 rooms.length) r .un .un .un O
 have U:=mJ (f:=wY (yt rooms) zW w a) (rd:=.fin zW) (Fy rooms.length) (by
  intro x Z y hy
  have Y:=cT h (r:=r) (s4:=.un) (s5:=.un) (s6:=.un) z J (Gh.mp Z)
  rw[hy]at Y
  exact Gh.mpr Y.1) (Gh.mpr O)
 rw[U4,XZ,GS]at U
 refine zV rfl ?_
 unfold yh
 rw[<-U]
 rw[jJ]at j
 have hn:rooms.length<1000000:=by have:=h.r12;omega
 cases q:run (wY (yt rooms) zW w a) rooms.length r with
 | inl x=>
  rw[q]at j
  simp only at j ⊢
  simp[kB,zB,vU hn,j]
 | inr b=>
  rw[q]at j
  obtain⟨g,j⟩:=j
  simp[kB,zB,vU hn,j,yn]
def eQ(h:OkM L rooms)(Y:∀x∈w,x<L)(ha:a<L):kD [.lst ((xM rooms (a+1)).map yu),ye rooms w]=some (ye rooms (w++[a])):=by
 refine zV rfl ?_
 have hn:rooms.length<1000000:=by have:=h.r12;omega
 have h1:=xa yn (t:=zr 0) (cond:=zX) (el:=Qk) (Γ:=[.v (.lst ((xM rooms (a+1)).map yu)),.v (ye rooms w),.un,.un]) (ms:=[none,some 0,some 1]) (ds:=xk 0 rooms.length) ((Fy rooms.length).map λr=>yh rooms (w++[a]) (r,w.length+1)) (by simp) (by have:=h.r12;simp;omega) (by
  intro k hk
  have U:k<rooms.length:=by simpa using hk
  refine⟨_,rfl,rfl,?_⟩
  have:=rh h Y (G9 ha) U
  simp[y8,Qk,this])
 have Z:=λfirst=>m5 (ends:=((Fy rooms.length).map λr=>yh rooms (w++[a]) (r,w.length+1)).map yn) (first:=first) (by have:=h.r12;simp;omega)
 have hf:=u5 (yt rooms) zW w a
 have J:(yY rooms w).map yn=yn (yh rooms w (0,0))::((Fy rooms.length).map λr=>yh rooms w (r,w.length)).map yn:=by simp[yY]
 have hs:=YG h Y (c:=(0,0)) h.r1
 have O:ye rooms (w++[a])=.tup (yn (yh rooms (w++[a]) (0,0))::((Fy rooms.length).map λr=>yh rooms (w++[a]) (r,w.length+1)).map yn):=by simp[ye,yY]
 cases z:yh rooms w (0,0)with
 | fin s=>
  have e:yh rooms (w++[a]) (0,0)=.fin s:=by
   unfold yh at z ⊢
   rw[hf,z]
  rw[O,e]
  have j:=Z (.str s)
  simp at j
  simp[kC,zB,vU hn,h1]
  simp[ye,J,z,yn,j]
 | out b=>
  have hb:b<rooms.length:=by rw[z]at hs;exact hs
  have e:yh rooms (w++[a]) (0,0)=yh rooms (w++[a]) (b,w.length+1):=by
   unfold yh at z ⊢
   rw[hf,z]
  rw[O,e]
  have j:=Z (yn (yh rooms (w++[a]) (b,w.length+1)))
  simp at j
  simp[kC,zB,vU hn,h1]
  simp[ye,J,z,kS,xD,hb,j]
end
section
variable {L:Nat} {rooms:List (List (Mv Fp))}
def vz(L:Nat)(w:List Nat)(p:Nat):Nat:=if p=0 then 0 else if w.length<p then L+1 else w.getD (p-1) 0+1
def xF(L:Nat)(rooms:List (List (Mv Fp)))(w:List Nat)(c:Nat×Nat):Sum Fp (Nat×Nat):=match yt rooms c.1 (vz L w c.2)with
 | .fin s=>.inl s
 | .go r true=>.inr (r,c.2+1)
 | .go r false=>.inr (r,c.2-1)
def onMet(met:List (Nat×Nat))(c:Nat×Nat):D:=.tup [.str zW,.int (met.idxOf c:Nat),.int ((met.length:Int)-(met.idxOf c:Nat))]
def onEnd(met:List (Nat×Nat))(s:Fp):D:=.tup [.str s,.int ((met.length:Int)+1)]
def Qy(z:∀x∈w,x<L):vz L w p<L+2:=by
 unfold vz
 split
 ·omega
 ·split
  ·omega
  ·have j:p-1<w.length:=by omega
   have:=z _ (GF j)
   simp[FM,j]
   omega
theorem ux(h:OkM L rooms)(J:∀x∈w,x<L)(O:c.1<rooms.length)(U:c.2<=w.length+1):
  match xF L rooms w c with
  | .inl s=>s=wc\/s=xy
  | .inr d=>d.1<rooms.length/\d.2<=w.length+1:=by
 have j:=h.mv O (Qy J (p:=c.2))
 unfold xF
 cases q:yt rooms c.1 (vz L w c.2)with
 | fin s=>rw[q]at j;exact j
 | go r b=>
  rw[q]at j
  cases b with
  | true=>
   refine⟨j.1,?_⟩
   have:vz L w c.2≠L+1:=λz=>by have:=j.2.2 z;cases this
   have:c.2≠w.length+1:=λz=>this (by unfold vz;rw[if_neg (by omega),if_pos (by omega)])
   show c.2+1<=_
   omega
  | false=>exact⟨j.1,by show c.2-1<=_;omega⟩
def kT(h:OkM L rooms){w:List Nat}(J:∀x∈w,x<L){c:Nat×Nat}{r:Nat}(O:c.1<rooms.length)(e:yt rooms c.1 (vz L w c.2)=.go r false):c.2≠0:=λz=>by
 have j:=h.mv O (Qy J (p:=c.2))
 rw[e]at j
 have:=j.2.1 (by rw[z];rfl)
 cases this
end
section
variable {L:Nat} {rooms:List (List (Mv Fp))}
def m7{w:List Nat}{p:Nat}(U:p<=w.length+1):kM [zM L rooms,xv w,.int p]=some (.int (vz L w p:Nat)):=by
 refine zV rfl ?_
 unfold vz
 by_cases j:p=0
 ·subst j
  simp[cO,zB]
 ·have Y:¬((p:Int)=0):=by omega
  by_cases h1:w.length<p
  ·have J:((w.length:Int)<p):=by omega
   simp[cO,zB,j,h1]
  ·have z:p-1<w.length:=by omega
   have J:¬((w.length:Int)<p):=by omega
   have O:(p:Int)-1=((p-1:Nat):Int):=by omega
   simp[cO,zB,j,h1]
   rw[O,xD]
   simp[z,FM]
   omega
theorem gL:∀{met:List (Nat×Nat)},c∈met->(toPs (met.map wz)).findIdx? (λp=>F8 p (toP (wz c)))=some (met.idxOf c)
 | [],h=>nomatch h
 | x::r,h=>by
  rw[FY,toPs,Pr,cS]
  by_cases e:x=c
  ·simp[e]
  ·have j:c∈r:=by
    rcases FL.mp h with h|h
    ·exact absurd h.symm e
    ·exact h
   rw[gL j,Nb]
   have:(x==c)=false:=by simpa using e
   simp[e,this]
def sS{c:Nat×Nat}{met:List (Nat×Nat)}(h:c∈met):Yo (.l (met.map wz)) (.d (wz c))=some (.int (met.idxOf c:Nat)):=by
 have h1:(toPs (met.map wz)).all Gm=true:=by
  rw[YX,GR]
  intro p j
  obtain⟨d,z,rfl⟩:=FX.mp j
  obtain⟨x,_,rfl⟩:=FX.mp z
  exact okC.shp (by decide)
 unfold Yo
 simp only[AQ,FZ,Z2]
 rw[if_pos ⟨okC.shp (by decide),h1⟩,gL h];rfl
def A6{c:Nat×Nat}{met:List (Nat×Nat)}:mIn false (.d (wz c)) (.l (met.map wz))=some (.bl (decide (c∈met))):=by
 rw[jI (n:=1) (x:=wz c) (ds:=met.map wz) okC rfl (by
  intro d hd
  obtain⟨c',_,rfl⟩:=FX.mp hd
  exact okC)]
 have:(met.map wz).any (λd=>F8 (toP d) (toP (wz c)))=decide (c∈met):=by
  rw[OW,Iv,IZ,decide_eq_true_eq]
  constructor
  ·rintro⟨x,hx,e⟩
   simp only[Ps,cS,decide_eq_true_eq]at e
   exact e▸hx
  ·intro hx
   exact⟨c,hx,Y4 _⟩
 simp[this]
abbrev lrG(L:Nat)(rooms:List (List (Mv Fp)))(w:List Nat)(row:List (Nat×Nat))(s3 s4 s5 s6:S):G:=[.v (zM L rooms),.v (xv w),.ol (row.map wz),s3,s4,s5,s6]
theorem m8(h:OkM L rooms){w:List Nat}(hw:∀x∈w,x<L){c:Nat×Nat}{met:List (Nat×Nat)}{s3 s4 s5 s6:S}(Y:c.1<rooms.length)(hp:c.2<=w.length+1)(hm:met.length<10000000):
  match xF L rooms w c with
  | .inl s=>wI (lrG L rooms w (met++[c]) s3 s4 s5 s6)=some (.rt (onEnd met s))
  | .inr d=>if d∈met++[c]then wI (lrG L rooms w (met++[c]) s3 s4 s5 s6)=some (.rt (onMet (met++[c]) d))else
    ∃t3 t4 t5 t6,wI (lrG L rooms w (met++[c]) s3 s4 s5 s6)=some (.nx (lrG L rooms w (met++[c]++[d]) t3 t4 t5 t6)):=by
 have hk:=h.all _ (GF Y)
 have z:rooms[c.1][vz L w c.2]?=some (yt rooms c.1 (vz L w c.2)):=by
  have aa:vz L w c.2<rooms[c.1].length:=by rw[hk.len];exact Qy hw
  simp[yt,FM,Y,aa]
 have hq:=m7 (L:=L) (rooms:=rooms) hp
 have j:atI ((met++[c]).map wz) (-1)=some (.tup [.int c.1,.int c.2]):=by rw[GO];exact oW
 have ab:met.length+1<16777216:=by omega
 unfold xF
 cases q:yt rooms c.1 (vz L w c.2)with
 | fin s=>
  rw[q]at z
  simp only[lrG]
  simp only[wI,yz,bK,Zz,Zy,bH,jE,Nh,Ni,FZ,XR,XT,wG,XW,Ub]
  rw[j]
  simp[hq,xD,Y,yX,z,yu,onEnd]
 | go r b=>
  rw[q]at z
  have fin:∀(d:Nat×Nat) (m1:Int),yu (.go r b)=.tup [.int d.1,.int m1]->(c.2:Int)+m1=(d.2:Int)->(if d∈met++[c]then wI (lrG L rooms w (met++[c]) s3 s4 s5 s6)=some (.rt (onMet (met++[c]) d))else
    ∃t3 t4 t5 t6,wI (lrG L rooms w (met++[c]) s3 s4 s5 s6)=some (.nx (lrG L rooms w (met++[c]++[d]) t3 t4 t5 t6))):=λd m1 he hd=>by
   have hi:=A6 (c:=d) (met:=met++[c])
   have Z:mIn false (.d (.tup [.int d.1,.int d.2])) (.l ((met++[c]).map wz))=some (.bl (decide (d∈met++[c]))):=hi
   by_cases J:d∈met++[c]
   ·rw[if_pos J]
    have hx:=sS J
    have ac:Yo (.l ((met++[c]).map wz)) (.d (.tup [.int d.1,.int d.2]))=some (.int ((met++[c]).idxOf d:Nat)):=hx
    simp only[lrG]
    simp only[wI,yz,bK,Zz,Zy,bH,jE,Nh,Ni,FZ,XR,XT,wG,XW,Ub]
    rw[j]
    generalize O:(met++[c]).map wz=row at*
    have U:row.length=met.length+1:=by rw[<-O];simp
    simp[hq,xD,Y,yX,z,he,hd,Z,J,ac,onMet,U]
   ·rw[if_neg J]
    refine⟨.v (.int c.1),.v (.int c.2),.v (yu (.go r b)),.v (wz d),?_⟩
    simp only[lrG]
    simp only[wI,yz,bK,Zz,Zy,bH,jE,Nh,Ni,FZ,XR,XT,wG,XW,Ub]
    rw[j,GO (l₁:=met++[c])]
    generalize O:(met++[c]).map wz=row at*
    have U:row.length=met.length+1:=by rw[<-O];simp
    have ad:row.length<16777216:=by omega
    simp[hq,xD,Y,yX,z,he,hd,Z,J,vx,U,ab,wz]
  cases b with
  | true=>exact fin (r,c.2+1) 1 rfl (by simp)
  | false=>
   have ae:=kT h hw Y q
   exact fin (r,c.2-1) (-1) rfl (by simp only;omega)
theorem Jj(h:OkM L rooms)(U:∀x∈w,x<L):∀(j:Nat) (c:Nat×Nat) (met:List (Nat×Nat)) (s3 s4 s5 s6:S) (y:D),c.1<rooms.length->c.2<=w.length+1->c∉met->met.length+j<=1000000->vJ (xF L rooms w) onMet onEnd j met c=some y->
  xt Xh wI j (lrG L rooms w (met++[c]) s3 s4 s5 s6)=some (.rt y)
 | 0,_,_,_,_,_,_,_,_,_,_,_,e=>by cases e
 | j+1,c,met,s3,s4,s5,s6,y,Y,Z,hc,hf,e=>by
  have ht:Xh (lrG L rooms w (met++[c]) s3 s4 s5 s6)=some true:=by simp[Xh]
  unfold vJ at e
  rw[if_neg hc]at e
  unfold xt
  rw[ht,FZ,if_pos rfl]
  have z:=m8 h U (met:=met) (s3:=s3) (s4:=s4) (s5:=s5) (s6:=s6) Y Z (by omega)
  have O:=ux h U Y Z
  cases q:xF L rooms w c with
  | inl s=>
   rw[q]at e z
   cases e
   simp only at z
   rw[z];rfl
  | inr d=>
   rw[q]at e z O
   simp only at e z
   by_cases J:d∈met++[c]
   ·rw[if_pos J]at z
    cases j with
    | zero=>cases e
    | succ j=>
     unfold vJ at e
     rw[if_pos J]at e
     cases e
     rw[z];rfl
   ·rw[if_neg J]at z
    obtain⟨t3,t4,t5,t6,z⟩:=z
    rw[z]
    exact Jj h U j d (met++[c]) t3 t4 t5 t6 y O.1 O.2 J (by rw[Gb,GA];omega) e
def Cr(h:OkM L rooms)(j:∀x∈w,x<L)(z:vJ (xF L rooms w) onMet onEnd WF [] (0,0)=some y):Xi [zM L rooms,xv w]=some y:=by
 refine zV rfl ?_
 have:=Jj h j WF (0,0) [] .un .un .un .un y h.r1 (by simp) (by simp) (by simp[WF]) z
 simp[kO,zB]
 exact this
def pW(h:OkM L rooms)(j:∀x∈w,x<L)(O:w.length<50000):∃y,vJ (xF L rooms w) onMet onEnd WF [] (0,0)=some y:=by
 refine Ug (rd:=zW) (x:=sem (xF L rooms w) zW (0,0)) (Ud (U5 rooms.length (w.length+2)) ?_ (uq.mpr ⟨h.r1,by omega⟩) ?_)
 ·rintro⟨r,p⟩ z ⟨U,Y⟩ J
  obtain⟨h1,h2⟩:=uq.mp z
  have:=ux h j (c:=(r,p)) h1 (by simp only;omega)
  rw[J]at this
  exact uq.mpr ⟨this.1,by have:=this.2;simp only at this;omega⟩
 ·have:rooms.length*(w.length+2)<=12*50002:=L3 h.r12 (by omega)
  rw[bR]
  show _<1000000
  omega
theorem cV(h:OkM L rooms)(U:∀x∈w,x<L):∀(z:Nat) (c:Nat×Nat) (met:List (Nat×Nat)) (y:D),c.1<rooms.length->c.2<=w.length+1->vJ (xF L rooms w) onMet onEnd z met c=some y->∃s i O,y=.tup (.str s::.int i::O)/\Hn s=true/\(O=[]\/∃j,O=[.int j])
 | 0,_,_,_,_,_,e=>by cases e
 | z+1,c,met,y,Z,hp,e=>by
  unfold vJ at e
  by_cases Y:c∈met
  ·rw[if_pos Y]at e;cases e
   exact⟨_,_,_,rfl,ZS,.inr ⟨_,rfl⟩⟩
  ·rw[if_neg Y]at e
   have J:=ux h U Z hp
   cases q:xF L rooms w c with
   | inl s=>
    rw[q]at e J
    cases e
    refine⟨_,_,_,rfl,?_,.inl rfl⟩
    rcases J with rfl|rfl
    ·exact YE
    ·exact YF
   | inr d=>
    rw[q]at e J
    exact cV h U z d _ y J.1 J.2 e
end
end Py
namespace DD
open PySem L2
section
variable {Γ:G}
def Fk(o:Option (List B)):Option (List D):=o.bind λbs=>match bs with
 | [.d (.lst xs),.d (.lst ys)]=>some (XM xs ys)
 | _=>none
def rj(i:Nat)(o:Option (List B))(Γ:G):Option Out:=o.bind λbs=>match bs with
 | [.d (.lst ds)]=>(Zw ds).bind λkvs=>if kvs.length<=100000 then some (.nx (Γ.set i (.ok (uH [] kvs))))else none
 | _=>none
@[simp] theorem kU {i ds}:rj i (some [.d (.lst ds)]) Γ=(Zw ds).bind λkvs=>if kvs.length<=100000 then some (.nx (Γ.set i (.ok (uH [] kvs))))else none:=id rfl
@[simp] theorem pX {i fs}:V2 i fs Γ=rj i (fs Γ) Γ:=id rfl
def A7(j:ds≠[])(h1:1<=k)(h2:ds.length*k<=Fv)(U:k<1000000):Wp (.d (.tup ds)) (.d (.int k))=some (.tup (F7 k ds).flatten):=by
 by_cases e:k=1
 ·subst e
  have:Yr (.d (.tup ds)) (.d (.int (1:Nat)))=some (.tup ds):=by unfold Yr;exact if_pos rfl
  unfold Wp mOr
  rw[this,Option.some_or]
  simp only[Iz,List.replicate_zero,IT,List.flatten_nil,Iw]
 ·have z:¬((k:Int)=1):=by omega
  have J:(2:Int)<=k:=by omega
  have O:(k:Int)<2^62:=by omega
  have q1:Yr (.d (.tup ds)) (.d (.int k))=none:=if_neg z
  have q2:JP (.d (.tup ds)) (.d (.int k))=some (.tup (F7 (k:Int).toNat ds).flatten):=if_pos ⟨j,J,O,by rw[Il];exact h2⟩
  unfold Wp mOr
  rw[q1,q2,Option.none_or,Il]
def cW{κ:Type} [DecidableEq κ] {kvs:List (κ×D)} {k:κ} {v:D} (h:∀p∈kvs,p.1≠k):wk kvs k v=kvs++[(k,v)]:=by
 unfold wk
 rw[if_neg]
 rw[IZ]
 rintro⟨p,j,e⟩
 exact h p j (by simpa using e)
end
end DD
namespace L2
open PySem PySem.Spec PyProof.Rows
section
variable {M:IK} {A:FW} {E:Fl->Fq->Prop} {s:Fq}
end
section
variable {X:Cx} {pins:List (Fo×FD)} {σ:St} {H:Hp} {s s':Fq} {C a:Fo} {e:Fl}
end
section
variable {P:FI} {w:FB} {K:Fs} {mg:Fp->Option Fl} {base:Fz} {N:List Fp} {qual:Fp} {scope:Gp} {f C:Fo} {cdv:Fl} {A:FW} {outer:List Gn} {s₀:Fq} {H₀:Hp} {E:XK}
end
section
variable {X:Cx} {C:Fo} {H0:Hp}
end
end L2
namespace DD
open PySem PySem.Spec L2
open PyProof.Rows hiding St
section
variable {X:Cx} {C:Fo} {e:Fu} {es:List Fu} {fs:G->Option (List B)} {x x1 x2:G->Bool} {f:G->Option Out} {pos:FG}
end
section
variable {P:FI} {w:FB} {K:Fs} {mg:Fp->Option Fl} {base:Fz} {N:List Fp} {qual:Fp} {scope:Gp} {f C:Fo} {cdv:Fl} {A:FW} {outer:List Gn} {s₀:Fq} {H₀:Hp} {E:XK}
end
end DD
namespace L2
open PySem PySem.Spec PyProof.Rows
section
variable {M:IK} {A:FW} {E:Fl->Fq->Prop} {s:Fq}
end
section
variable {X:Cx} {pins:List (Fo×FD)} {σ:St} {H2:Hp} {s2 s3:Fq} {Ce D C:Fo} {scope:Gp} {cl:List (Fp×Fo)} {N:List Fp} {fp:List Fo} {use:Option (Fl->GH Unit)} {Q:Fl->Fq->Prop} {acc:Fl}
end
section
variable {X:Cx} {pins:List (Fo×FD)} {σ:St} {H:Hp} {s:Fq}
end
end L2
namespace L2
open PySem PySem.Spec PyProof.Rows
end L2
namespace DD
open PySem PySem.Spec L2
open PyProof.Rows hiding St
section
variable {X:Cx} {Ce:Fo} {elt tg iter:Fu} {pos:FG}
end
end DD
namespace L2
open PySem PySem.Spec PyProof.Rows
section
variable {X:Cx} {pins:List (Fo×FD)} {σ:St} {H:Hp} {s:Fq} {M:IK} {A:FW} {E:Fl->Fq->Prop}
end
end L2
namespace DD
open PySem PySem.Spec L2
open PyProof.Rows hiding St
section
variable {X:Cx}
end
end DD
namespace DD
open PySem PySem.Spec L2
end DD
namespace DD
open PySem PySem.Spec L2
end DD
namespace DD
open PySem L2
section
variable {Γ:G}
end
end DD
namespace Py
open PySem L2 DD Pu
def Qz{δ:Type} [DecidableEq δ] {done:List Nat->δ} {L:Nat} {ws:List (List Nat)} {k a:Nat} (B:Bfs done L ws k a):∀(n j:Nat) (x:List Nat),j<=n->ws[j]?=some x->x.length<=j:=λn=>by
 induction n with
 | zero=>
  intro j x hj hx
  have:j=0:=by omega
  subst this
  rw[B.one]at hx;cases hx;exact FA _
 | succ n ih=>
  intro j x hj hx
  rcases B.from_ j x hx with rfl|⟨i,b,u,_,h2,rfl⟩
  ·exact GI _
  ·have hij:i<j:=by
    apply K1
    intro z
    by_cases e:i=j
    ·subst e
     rw[h2]at hx
     injection hx with hx
     have:=congrArg Mt hx
     simp at this
    ·have:=B.sorted j i _ u (by omega) hx h2
     rcases this with t|⟨t,_⟩ <;>simp at t <;>omega
   have:=ih i u (by omega) h2
   simp;omega
def kvG{α:Type}(key:α->List Key)(val:Nat->α->D):Nat->List α->List (List Key×D)
 | _,[]=>[]
 | k,x::r=>(key x,val k x)::kvG key val (k+1) r
section
variable {α:Type} {key:α->List Key} {val:Nat->α->D}
theorem gM:∀{k:Nat} {xs:List α},(kvG key val k xs).length=xs.length
 | _,[]=>rfl
 | k,c::r=>by simp[kvG,gM]
theorem cX:∀{k:Nat} {xs:List α} {c:α},kvG key val k (xs++[c])=kvG key val k xs++[(key c,val (k+xs.length) c)]
 | _,[],_=>by simp[kvG]
 | k,x::r,c=>by
  simp only[OL,kvG]
  rw[cX,Gu,show k+1+r.length=k+(r.length+1) by omega]
theorem Vm:∀{k:Nat} {xs:List α} {q:List Key},q∉xs.map key->yg (kvG key val k xs) q=none
 | _,[],_,_=>rfl
 | k,x::r,q,h=>by
  have j:¬key x=q:=λz=>h (by simp[z])
  have J:yg (kvG key val k (x::r)) q=yg (kvG key val (k+1) r) q:=by simp[kvG,yg,Hj,j]
  rw[J]
  exact Vm λz=>h (by rw[FY];exact Gc _ z)
def sT(J:key c∉xs.map key):wk (kvG key val 0 xs) (key c) (val xs.length c)=kvG key val 0 (xs++[c]):=by
 have:((kvG key val 0 xs).any λj=>decide (j.1=key c))=false:=by
  cases q:(kvG key val 0 xs).any λj=>decide (j.1=key c)with
  | false=>rfl
  | true=>
   have z:=Vm (val:=val) (k:=0) J
   obtain⟨p,O,e⟩:=IZ.mp q
   unfold yg at z
   rw[Nj,L4]at z
   exact absurd e (z p O)
 unfold wk
 rw[this,if_neg (by simp),cX,G4]
end
theorem Jk(z:Nat->D){t:D->G->Option G}{cond:G->Option Bool}{el:G->Option B}{Γ:G}(p:Nat->Bool):∀(ds:List D) (j:Nat),(∀k (h:k<ds.length),∃g,t ds[k] Γ=some g/\cond g=some (p (j+k))/\(p (j+k)=true->el g=some (.d (z (j+k)))))->
  uX t cond el Γ ds=some (((G7 j ds.length).filter p).map z)
 | [],j,_=>rfl
 | d::r,j,h=>by
  obtain⟨g,h1,h2,O⟩:=h 0 (by simp)
  have U:=Jk z p r (j+1) λk Y=>by
   obtain⟨g,a,b,c⟩:=h (k+1) (by simpa using Y)
   rw[show j+(k+1)=j+1+k by omega]at b c
   exact⟨g,a,b,c⟩
  rw[Nat.add_zero]at h2 O
  unfold uX
  rw[show t d Γ=some g from h1,FZ,h2,FZ,Gu,K6]
  cases J:p j with
  | true=>
   rw[if_pos rfl,O J,FZ,U,Ko,if_pos J,FY];rfl
  | false=>
   rw[if_neg (by simp),U,Ko,if_neg (by simp[J])]
def Jl(j:Nat->D){t:D->G->Option G}{cond:G->Option Bool}{el:G->Option B}{Γ:G}{ms:List (Option Nat)}{ds:List D}(p:Nat->Bool)(z:ds.length<=16777216)(J:∀k (h:k<ds.length),∃g,t ds[k] (y8 ms Γ)=some g/\cond g=some (p k)/\(p k=true->el g=some (.d (j k)))):
  xV (some ds) ms t cond el Γ=some (((Fy ds.length).filter p).map j):=by
 unfold xV
 rw[FZ,if_pos (show ds.length<=Fv from z),Jk j p ds 0 (by simpa using J),Nk]
def yo(n:Nat)(g:Nat->Bool):List Nat:=(Fy n).filter g
def vj:s∈yo n g↔s<n/\g s=true:=by simp[yo]
def WU(h:∀s,s<n->g s=g' s):yo n g=yo n g':=List.filter_congr λs j=>h s (Gh.mp j)
def cY:(yo n g).Pairwise (· < ·):=Rm _ List.pairwise_lt_range
def Jm:(yo n g).length<=n:=by
 have:=LF g (Fy n)
 rwa [GS]at this
def uK:Res Fp->Key
 | .fin s=>.inr s
 | .out r=>.inl r
def kW(h:uK x=uK y):x=y:=by
 cases x <;>cases y <;>simp[uK]at h ⊢
 ·exact h
 ·omega
theorem Jn:∀xs:List (Res Fp),wj (xs.map yn)=some (xs.map uK)
 | []=>rfl
 | x::r=>by
  rw[FY]
  unfold wj
  have:XI (yn x)=some (uK x):=by cases x <;>rfl
  rw[this,FZ,Jn r];rfl
section
variable {L:Nat} {rooms:List (List (Mv Fp))}
noncomputable def zJ (rooms:List (List (Mv Fp))) (w:List Nat):List Key:=(yY rooms w).map uK
def Jo:Zt (ye rooms w)=some (zJ rooms w):=Jn _
theorem gN{α z:Type}{f:α->z}(j:∀x y,f x=f y->x=y):∀xs ys:List α,xs.map f=ys.map f->xs=ys
 | [],[],_=>rfl
 | [],_::_,h=>by cases h
 | _::_,[],h=>by cases h
 | x::xs,y::ys,h=>by
  rw[FY,FY]at h
  injection h with h1 h2
  rw[j x y h1,gN j xs ys h2]
def Xk(h:zJ rooms u=zJ rooms v):yY rooms u=yY rooms v:=gN (λ_ _=>kW) _ _ h
def A8(h:OkM L rooms)(U:∀x∈w,x<L)(Z:a<=L)(Y:r<rooms.length)(e:wY (yt rooms) zW w a r=.inr b):b<rooms.length:=by
 rw[WH]at e
 have j:=h.mv Y (c:=a+1) (by omega)
 cases q:yt rooms r (a+1)with
 | fin s=>rw[q]at e;cases e
 | go J d=>
  rw[q]at e j
  cases d with
  | true=>cases e
  | false=>
   have O:=YG h U (c:=(J,w.length)) j.1
   simp only at e
   cases z:yh rooms w (J,w.length)with
   | fin s=>rw[z]at e;cases e
   | out b'=>rw[z]at e O;cases e;exact O
def gO(e:yY rooms u=yY rooms v):yh rooms u (0,0)=yh rooms v (0,0)/\∀r,r<rooms.length->yh rooms u (r,u.length)=yh rooms v (r,v.length):=by
 unfold yY at e
 injection e with j z
 refine⟨j,λr J=>?_⟩
 have:=congrArg (λl=>l[r]?) z
 simpa[J]using this
def cZ(h:OkM L rooms)(J:∀x∈u,x<L)(O:a<=L)(e:yY rooms u=yY rooms v)(U:r<rooms.length):yh rooms (v++[a]) (r,v.length+1)=yh rooms (u++[a]) (r,u.length+1):=by
 have h1:=U4 (yt rooms) zW u a r
 have h2:=U4 (yt rooms) zW v a r
 unfold yh
 rw[<-h1,<-h2]
 refine mS (S:=λr=>r<rooms.length) (λx z y Y=>A8 h J O z Y) (λx z=>?_) U
 rw[WH,WH]
 have j:=h.mv z (c:=a+1) (by omega)
 cases q:yt rooms x (a+1)with
 | fin s=>rfl
 | go Z d=>
  rw[q]at j
  cases d with
  | true=>rfl
  | false=>simp only;rw[(gO e).2 Z j.1]
def Ux(h:OkM L rooms)(J:∀x∈u,x<L)(U:a<=L)(e:yY rooms u=yY rooms v):yh rooms (v++[a]) (0,0)=yh rooms (u++[a]) (0,0):=by
 have h1:=u5 (yt rooms) zW u a
 have h2:=u5 (yt rooms) zW v a
 have j:=YG h J (c:=(0,0)) h.r1
 unfold yh at j ⊢
 rw[h1,h2]
 have O:=(gO e).1
 unfold yh at O
 rw[<-O]
 cases z:wC (yt rooms) zW u (0,0)with
 | fin s=>rfl
 | out b=>rw[z]at j;exact cZ h J U e j
def Jp(h:OkM L rooms)(j:∀x∈u,x<L)(z:a<L)(e:yY rooms u=yY rooms v):yY rooms (u++[a])=yY rooms (v++[a]):=by
 unfold yY
 rw[Ux h j (G9 z) e]
 congr 1
 refine G5 λr J=>?_
 have:=cZ h j (G9 z) e (Gh.mp J)
 simp only[Gb,GA]
 exact this.symm
noncomputable def yG (L:Nat) (rooms:List (List (Mv Fp))) (w:List Nat):Fp:=sem (xF L rooms w) zW (0,0)
theorem sU(h:OkM L rooms)(J:∀x∈w,x<L)(O:c.1<rooms.length)(U:c.2<=w.length+1):zY (yt rooms) (w++[L]) c=match xF L rooms w c with
  | .inl s=>.inl (.fin s)
  | .inr d=>.inr d:=by
 have z:col (w++[L]) c.2=vz L w c.2:=by
  unfold col vz
  by_cases j:c.2=0
  ·rw[if_pos j,if_pos j]
  ·rw[if_neg j,if_neg j]
   by_cases h1:w.length<c.2
   ·have e:c.2=w.length+1:=by omega
    rw[if_pos h1,e]
    simp[FM]
   ·rw[if_neg h1,FM,FM,GK (by omega)]
 unfold zY xF
 rw[Gb,GA,if_neg (by omega),z]
 cases yt rooms c.1 (vz L w c.2)with
 | fin s=>rfl
 | go r b=>cases b <;>rfl
def dB(h:OkM L rooms)(z:∀x∈w,x<L):yh rooms (w++[L]) (0,0)=.fin (yG L rooms w):=by
 unfold yh wC yG
 exact gI (φ:=Res.fin) (S:=λc=>c.1<rooms.length/\c.2<=w.length+1) (λx j y J=>by
  have:=ux h z j.1 j.2
  rw[J]at this
  exact this) (λx j=>by rw[sU h z j.1 j.2];cases xF L rooms w x <;>rfl) ⟨h.r1,by simp⟩
def Jq(h:OkM L rooms)(z:∀x∈u,x<L)(J:∀x∈v,x<L)(e:yY rooms u=yY rooms v):yG L rooms u=yG L rooms v:=by
 have h1:=dB h z
 have h2:=dB h J
 have j:=Ux h z (FA L) e
 rw[h1,h2]at j
 injection j with j
 exact j.symm
theorem Jr:∀{n:Nat} {met:List (Nat×Nat)} {c:Nat×Nat} {s:Fp} {y:D},ZQ (xF L rooms w) zW n met c=some s->vJ (xF L rooms w) onMet onEnd n met c=some y->∃r,y=.tup (.str s::r)
 | 0,_,_,_,_,h,_=>by cases h
 | n+1,met,c,s,y,h,h'=>by
  unfold ZQ at h
  unfold vJ at h'
  by_cases j:c∈met
  ·rw[if_pos j]at h h'
   cases h;cases h'
   exact⟨_,rfl⟩
  ·rw[if_neg j]at h h'
   cases q:xF L rooms w c with
   | inl z=>rw[q]at h h';cases h;cases h';exact⟨_,rfl⟩
   | inr d=>rw[q]at h h';exact Jr h h'
def Uy(h:OkM L rooms)(z:∀x∈w,x<L)(J:w.length<50000):∃r,Xi [zM L rooms,xv w]=some (.tup (.str (yG L rooms w)::r))/\Hn (yG L rooms w)=true:=by
 obtain⟨y,j⟩:=pW h z J
 have O:=Ud (f:=xF L rooms w) (rd:=zW) (U5 rooms.length (w.length+2)) (by
  rintro⟨r,p⟩ U ⟨Z,p'⟩ j
  obtain⟨h1,h2⟩:=uq.mp U
  have:=ux h z (c:=(r,p)) h1 (by simp only;omega)
  rw[j]at this
  exact uq.mpr ⟨this.1,by have:=this.2;simp only at this;omega⟩) (n:=WF) (a:=(0,0)) (uq.mpr ⟨h.r1,by omega⟩) (by
  have:rooms.length*(w.length+2)<=12*50002:=L3 h.r12 (by omega)
  rw[bR]
  show _<1000000
  omega)
 obtain⟨r,rfl⟩:=Jr O j
 obtain⟨s,i,is,e,Y,_⟩:=cV h z WF (0,0) [] _ h.r1 (by simp) j
 refine⟨r,Cr h z j,?_⟩
 injection e with e
 injection e with e _
 injection e with e
 rw[show yG L rooms w=s from e];exact Y
def uy(n:Nat):List Key:=[.inr wc,.inr xy,.inr zW]++(Fy n).map λ(r:Nat)=>Sum.inl (r:Int)
def dC(h:OkM L rooms)(z:∀x∈w,x<L):zJ rooms w∈Z8 (uy rooms.length) (rooms.length+1):=by
 have one:∀c:Nat×Nat,c.1<rooms.length->uK (yh rooms w c)∈uy rooms.length:=λc J=>by
  have:=YG h z J
  unfold uy
  cases q:yh rooms w c with
  | fin s=>
   rw[q]at this
   rcases this with rfl|rfl|rfl <;>simp[uK]
  | out b=>
   rw[q]at this
   refine GV _ (FX.mpr ⟨b,Gh.mpr this,rfl⟩)
 refine Vh (by simp[zJ,yY]) λk j=>?_
 unfold zJ yY at j
 obtain⟨x,hx,rfl⟩:=FX.mp j
 rcases FL.mp hx with rfl|hx
 ·exact one _ h.r1
 ·obtain⟨r,O,rfl⟩:=FX.mp hx
  exact one _ (Gh.mp O)
def dD(j:rooms.length<=3):(Z8 (uy rooms.length) (rooms.length+1)).length<=1296:=by
 rw[cJ]
 have:(uy rooms.length).length=rooms.length+3:=by simp[uy]
 rw[this]
 generalize rooms.length=n at j
 rcases n with _|_|_|_|n
 ·decide
 ·decide
 ·decide
 ·decide
 ·omega
def sV(h:OkM L rooms)(j:rooms.length<=3)(B:Bfs (zJ rooms) L ws k a):ws.length<=1296:=by
 have:=yF (ws.map (zJ rooms)) _ B.nd λx z=>by
  obtain⟨w,J,rfl⟩:=FX.mp z
  exact dC h (B.good w J)
 rw[FF]at this
 exact Ge this (dD j)
end
end Py
namespace Py
open PySem L2 DD
def A9{Γ:G}{i j:Nat}{k:Int}{z J:G->Option B}{ds:List D}{v:D}(h1:vx Γ i=some ds)(h2:J Γ=some (.d v))(O:z Γ=some (.d (.int k)))(U:ixN ds.length k=some j):JQ i z J Γ=some (.nx (Γ.set i (.ol (ds.set j v)))):=by
 unfold JQ
 rw[h1,FZ,h2,FZ,JR,FZ,O,FZ,Ch,FZ,U]
 rfl
end Py
namespace Py
open PySem L2 DD Pu
open Hop (walk yr Canon dl OkR)
def uL:walk δ s (w++[a])=δ a (walk δ s w):=by simp[walk]
section
variable {A n1 n2:Nat} {δ1 δ2:Nat->Nat->Nat} {s t:Nat}
end
section
variable {A m:Nat} {δ:Nat->Nat->Nat} {g:Nat->Bool}
end
end Py
namespace Py
open PySem L2 DD Pu
open Hop (walk yr Canon dl OkR Lst)
def kix{κ:Type} [DecidableEq κ] (q:κ):List κ->Nat
 | []=>0
 | x::r=>if x=q then 0 else kix q r+1
theorem na{κ:Type} [DecidableEq κ] {q:κ}:∀{l:List κ},q∈l->kix q l<l.length
 | [],h=>nomatch h
 | x::r,h=>by
  unfold kix
  split
  ·simp
  ·rename_i e
   have:=na (l:=r) ((FL.mp h).resolve_left λz=>e z.symm)
   simp;exact this
theorem gP{κ:Type} [DecidableEq κ] {q:κ}:∀{l:List κ},q∈l->l[kix q l]?=some q
 | [],h=>nomatch h
 | x::r,h=>by
  unfold kix
  split
  ·rename_i e;simp[e]
  ·rename_i e
   have:=gP (l:=r) ((FL.mp h).resolve_left λz=>e z.symm)
   simpa using this
theorem gQ{κ:Type} [DecidableEq κ] {q:κ} {m:List κ}:∀{l:List κ},q∈l->kix q (l++m)=kix q l
 | [],h=>nomatch h
 | x::r,h=>by
  show kix q (x::(r++m))=_
  unfold kix
  split
  ·rfl
  ·rename_i e
   rw[gQ ((FL.mp h).resolve_left λz=>e z.symm)]
theorem QA{α:Type}{key:α->List Key}{val:Nat->α->D}:∀{k:Nat} {xs:List α} {q:List Key},q∈xs.map key->∃y,xs[kix q (xs.map key)]?=some y/\key y=q/\yg (kvG key val k xs) q=some (val (k+kix q (xs.map key)) y)
 | _,[],_,h=>nomatch h
 | k,x::r,q,h=>by
  by_cases e:key x=q
  ·have j:kix q ((x::r).map key)=0:=by rw[FY];unfold kix;rw[if_pos e]
   refine⟨x,?_,e,?_⟩
   ·rw[j];rfl
   ·rw[j];simp[kvG,yg,Hj,e]
  ·have z:q∈r.map key:=by
    rw[FY]at h
    rcases FL.mp h with h|h
    ·exact absurd h.symm e
    ·exact h
   obtain⟨y,h1,h2,J⟩:=QA (val:=val) (k:=k+1) z
   have j:kix q ((x::r).map key)=kix q (r.map key)+1:=by
    rw[FY];show kix q (key x::r.map key)=_;unfold kix;rw[if_neg e]
    cases r <;>rfl
   refine⟨y,by rw[j];simpa using h1,h2,?_⟩
   rw[j,show k+(kix q (r.map key)+1)=k+1+kix q (r.map key) by omega,<-J]
   simp[kvG,yg,Hj,e]
section
variable {κ:Type} [DecidableEq κ] {key:List Nat->κ} {A:Nat}
def xN(key:List Nat->κ)(A:Nat)(ws:List (List Nat))(w:List Nat):List Nat:=(Fy A).map λa=>kix (key (w++[a])) (ws.map key)
def Yw{ws ws':List (List Nat)}{q:κ}(h:ws<+: ws')(j:q∈ws.map key):kix q (ws'.map key)=kix q (ws.map key):=by
 obtain⟨r,rfl⟩:=h
 rw[GO,gQ j]
def Js(h:ws<+: ws')(j:∀a,a<A->key (w++[a])∈ws.map key):xN key A ws' w=xN key A ws w :=
 G5 λa z=>Yw h (j a (Gh.mp z))
def xY(key:List Nat->κ)(A:Nat)(ws:List (List Nat)):List (List Nat):=ws.map (xN key A ws)
variable {ws:List (List Nat)}
def vV:(xY key A ws).length=ws.length:=by simp[xY]
def Jt(j:ws[i]?=some w):(xY key A ws).getD i []=xN key A ws w:=by
 unfold xY
 rw[FM,FP,j];rfl
def dF{i a:Nat}{w:List Nat}(hw:ws[i]?=some w)(ha:a<A):dl (xY key A ws) a i=kix (key (w++[a])) (ws.map key):=by
 show((xY key A ws).getD i []).getD a 0=_
 rw[Jt hw]
 unfold xN
 rw[Hop.vh (by simpa using ha)]
 rw[FM,Hv ha];rfl
def gR(B:Bfs key A ws ws.length 0){i a:Nat}{w:List Nat}(j:ws[i]?=some w)(z:a<A):key (w++[a])∈ws.map key:=by
 obtain⟨x,J,e,_⟩:=B.closed i a w (.inl (FO.mp j).1) z j
 exact e▸FX.mpr ⟨x,J,rfl⟩
def pY(B:Bfs key A ws ws.length 0):OkR A (xY key A ws):=by
 have z:0<ws.length:=(FO.mp B.one).1
 refine⟨by rw[vV];exact z,λs j=>?_,λa s J j=>?_⟩
 ·rw[vV]at j
  rw[Jt (FU j)]
  simp[xN]
 ·rw[vV]at j ⊢
  rw[dF (FU j) J]
  have:=na (gR B (FU j) J)
  rwa [FF]at this
def sW{q:κ}(h:q∈ws.map key):∃u,ws[kix q (ws.map key)]?=some u/\key u=q:=by
 have h1:=gP h
 rw[FP]at h1
 cases e:ws[kix q (ws.map key)]? with
 | none=>rw[e]at h1;cases h1
 | some u=>rw[e]at h1;exact⟨u,rfl,by simpa using h1⟩
theorem Uz(B:Bfs key A ws ws.length 0)(j:∀u v a,a<A->(∀x∈u,x<A)->(∀x∈v,x<A)->key u=key v->key (u++[a])=key (v++[a])):∀(n:Nat) (w:List Nat),w.length=n->(∀x∈w,x<A)->∃u,ws[walk (dl (xY key A ws)) 0 w]?=some u/\key u=key w
 | 0,w,hn,hw=>by
  have:w=[]:=HL.mp hn
  subst this
  exact⟨[],B.one,rfl⟩
 | n+1,u,hn,Y=>by
  have J:u≠[]:=λz=>by rw[z]at hn;cases hn
  obtain⟨v,a,rfl⟩:∃v a,u=v++[a]:=⟨u.dropLast,u.getLast J,(LN J).symm⟩
  have Z:∀x∈v,x<A:=λx O=>Y x (He _ O)
  have U:a<A:=Y a (by simp)
  obtain⟨x,O,e⟩:=Uz B j n v (by simp at hn;exact hn) Z
  rw[uL,dF O U]
  obtain⟨y,hy,e2⟩:=sW (gR B O U)
  exact⟨y,hy,e2.trans (j x v a U (B.good x (Gj O)) Z e)⟩
end
structure Tells (A:Nat) (P:List Nat->Bool) (rows:List (List Nat)) (g:Nat->Bool):Prop where
 ok:OkR A rows
 can:Canon A rows.length (dl rows) g
 is:∀w,(∀x∈w,x<A)->g (walk (dl rows) 0 w)=P w
def Tells.one(j:Tells A P r1 g1)(z:Tells A P r2 g2):r1=r2/\∀s,s<r1.length->g1 s=g2 s:=by
 have O:yr A (dl r1) (dl r2) g1 g2 0 0:=λw J=>(j.is w J).trans (z.is w J).symm
 exact Lst.one ⟨j.ok,FA _,j.can,λ_ _=>rfl⟩ ⟨z.ok,FA _,z.can,λ_ _=>rfl⟩ O
def Tells.congr(t:Tells A P r g)(h:∀w,(∀x∈w,x<A)->P w=Q w):Tells A Q r g:=⟨t.ok,t.can,λw j=>(t.is w j).trans (h w j)⟩
def Xl(l:Lst A rows g rows' g')(h:∀w,(∀x∈w,x<A)->g (walk (dl rows) 0 w)=P w):Tells A P rows' g':=⟨l.ok,l.can,λw j=>(l.al w j).trans (h w j)⟩
end Py
namespace Py
open PySem L2 DD Pu
section
variable {L:Nat} {rooms:List (List (Mv Fp))}
noncomputable def vA (rooms:List (List (Mv Fp))) (w:List Nat):D:=.tup [xv w,ye rooms w]
def Xm(L:Nat)(rooms:List (List (Mv Fp))):List D:=(Fy L).map λa=>D.lst ((xM rooms (a+1)).map yu)
noncomputable abbrev kvN (rooms:List (List (Mv Fp))) (ws:List (List Nat)):List (List Key×D):=kvG (zJ rooms) (λk _=>.int (k:Int)) 0 ws
noncomputable abbrev exG (L:Nat) (rooms:List (List (Mv Fp))) (ws:List (List Nat)) (rs:List D) (s5 s6 s7 s8 s9 s10:S):G:=[.v (zM L rooms),.v (.lst (Xm L rooms)),.ol (ws.map (vA rooms)),.ot (kvN rooms ws),.ol rs,s5,s6,s7,s8,s9,s10]
abbrev dI(l:List Nat):List D:=l.map λ(n:Nat)=>D.int (n:Int)
def nc{w:List Nat}{a:Nat}(j:w.length<10000000):yI (.d (xv w)) (.d (.tup [.int (a:Int)]))=some (xv (w++[a])):=by
 have c:w.length+1<=16777216:=by omega
 unfold xv
 simp[c]
def sX(h:OkM L rooms){N:Nat}(hN:N<=1000000-1)(few:∀ws k a,Bfs (zJ rooms) L ws k a->ws.length<=N){ws:List (List Nat)}{k a:Nat}{w:List Nat}{rs:List D}{s10:S}(B:Bfs (zJ rooms) L ws k a)(O:ws[k]?=some w)(ha:a<L):
  ∃ws' ab,Zd (exG L rooms ws rs (.v (xv w)) (.v (ye rooms w)) (.ol (dI (xN (zJ rooms) a ws w))) (.v (.int a)) (.v (.lst ((xM rooms (a+1)).map yu))) s10)=some (.nx (exG L rooms ws' rs (.v (xv w)) (.v (ye rooms w)) (.ol (dI (xN (zJ rooms) (a+1) ws' w))) (.v (.int a)) (.v (.lst ((xM rooms (a+1)).map yu))) ab))/\
   Bfs (zJ rooms) L ws' k (a+1)/\ws'[k]?=some w/\ws<+: ws':=by
 have Y:∀x∈w,x<L:=B.good w (Gj O)
 have hd:=eQ h Y ha
 have ag:=few _ _ _ B
 have ah:=Qz B k k w (FA _) O
 have ac:=(FO.mp O).1
 have ai:=h.l3
 have aj:(dI (xN (zJ rooms) a ws w)).length=a:=by simp[xN]
 have z:(dI (xN (zJ rooms) a ws w)).length<16777216:=by omega
 have J:=Jo (rooms:=rooms) (w:=w++[a])
 have succ:∀ws',xN (zJ rooms) (a+1) ws' w=xN (zJ rooms) a ws' w++[kix (zJ rooms (w++[a])) (ws'.map (zJ rooms))]:=λws'=>by simp[xN,M3]
 have aa:∀b,b<a->zJ rooms (w++[b])∈ws.map (zJ rooms):=λb hb=>by
  obtain⟨x,hx,e,_⟩:=B.closed k b w (.inr ⟨rfl,hb⟩) (by omega) O
  exact e▸FX.mpr ⟨x,hx,rfl⟩
 by_cases hm:zJ rooms (w++[a])∈ws.map (zJ rooms)
 ·obtain⟨y,hy,e1,e2⟩:=QA (val:=λk _=>.int (k:Int)) (k:=0) hm
  rw[G4]at e2
  refine⟨ws,.v (ye rooms (w++[a])),?_,B.known O hm,O,Ks _⟩
  rw[succ]
  generalize xN (zJ rooms) a ws w=Z at z ⊢
  have j:Z.length<16777216:=by simpa using z
  simp[Zd,exG,hd,J,e2,vx,j]
 ·have e2:=Vm (val:=λk _=>D.int (k:Int)) (k:=0) hm
  have U:XJ (.ot (kvN rooms ws)) (ye rooms (w++[a])) (.int (ws.length:Int))=some (.ot (kvN rooms (ws++[w++[a]]))):=by
   unfold XJ
   simp only
   rw[J,FZ,if_pos (by show _<Fv;rw[gM,szv];omega)]
   have:=sT (val:=λk _=>D.int (k:Int)) hm
   rw[this]
  have ad:zJ rooms (w++[a])∈(ws++[w++[a]]).map (zJ rooms):=by simp
  obtain⟨y,hy,e1,e3⟩:=QA (val:=λk _=>.int (k:Int)) (k:=0) ad
  rw[G4]at e3
  have ae:ws.length<16777216:=by omega
  have af:=nc (w:=w) (a:=a) (by omega)
  refine⟨ws++[w++[a]],.v (ye rooms (w++[a])),?_,B.fresh ha O hm,by rw[GK ac];exact O,M8 _ _⟩
  rw[succ,Js (ws:=ws) (ws':=ws++[w++[a]]) (M8 _ _) aa]
  generalize xN (zJ rooms) a ws w=Z at z ⊢
  have j:Z.length<16777216:=by simpa using z
  simp only[kvN]at U
  generalize ak:kix (zJ rooms (w++[a])) ((ws++[w++[a]]).map (zJ rooms))=ix at e3 ⊢
  simp[Zd,exG,hd,J,e2,U,vx,j,ae,af,e3,vA]
def A'(h:OkM L rooms){N:Nat}(hN:N<=1000000-1)(few:∀ws k a,Bfs (zJ rooms) L ws k a->ws.length<=N){ws:List (List Nat)}{k:Nat}{w:List Nat}{rs:List D}{s8 s9 s10:S}(B:Bfs (zJ rooms) L ws k 0)(hw:ws[k]?=some w):
  ∃ws' z J j,x0 (yQ 2 (zA (zr 8) (zA (zr 9) yK))) Zd (zP (Xm L rooms)) (exG L rooms ws rs (.v (xv w)) (.v (ye rooms w)) (.ol []) s8 s9 s10)=some (.nx (exG L rooms ws' rs (.v (xv w)) (.v (ye rooms w)) (.ol (dI (xN (zJ rooms) L ws' w))) z J j))/\
   Bfs (zJ rooms) L ws' k L/\ws'[k]?=some w/\ws<+: ws':=by
 have O:(Xm L rooms).length=L:=by simp[Xm]
 obtain⟨g,h1,ws',z,J,j,hg,hB,U,Y⟩:=uo (t:=yQ 2 (zA (zr 8) (zA (zr 9) yK))) (fb:=Zd) (zP (Xm L rooms))
  (λa Γ=>∃ws' z J j,Γ=exG L rooms ws' rs (.v (xv w)) (.v (ye rooms w)) (.ol (dI (xN (zJ rooms) a ws' w))) z J j/\Bfs (zJ rooms) L ws' k a/\ws'[k]?=some w/\ws<+: ws')
  (exG L rooms ws rs (.v (xv w)) (.v (ye rooms w)) (.ol []) s8 s9 s10) ⟨ws,s8,s9,s10,rfl,B,hw,Ks _⟩ (by
   rintro a Γ ha ⟨ag,z,J,j,rfl,B1,Z,aa⟩
   have ab:a<L:=by simpa[O]using ha
   obtain⟨ac,ad,e,B2,ae,af⟩:=sX h hN few (rs:=rs) (s10:=j) B1 Z ab
   refine⟨_,_,?_,e,ac,_,_,ad,rfl,B2,ae,aa.trans af⟩
   simp[exG,Xm])
 rw[uI,O]at hB hg
 exact⟨ws',z,J,j,by rw[h1,hg],hB,U,Y⟩
noncomputable def uT (L:Nat) (rooms:List (List (Mv Fp))) (ws:List (List Nat)) (k:Nat):List D:=(ws.take k).map λw=>D.tup (dI (xN (zJ rooms) L ws w))
def ng(B:Bfs (zJ rooms) L ws k 0)(J:ws'[k]?=some w)(hk:k<ws.length)(p:ws<+: ws'):uT L rooms ws k++[.tup (dI (xN (zJ rooms) L ws' w))]=uT L rooms ws' (k+1):=by
 have z:k<ws'.length:=(FO.mp J).1
 have O:ws'[k]=w:=(FO.mp J).2
 have U:ws'.take k=ws.take k:=by
  obtain⟨r,rfl⟩:=p
  rw[LW (by omega)]
 unfold uT
 rw[Kt z,GO,O,U]
 congr 1
 refine G5 λu Y=>?_
 obtain⟨i,hi⟩:=IY.mp Y
 have j:i<k:=by
  have:=(FO.mp hi).1
  simp at this;omega
 rw[Lp j]at hi
 rw[Js p λa Z=>?_]
 obtain⟨x,hx,e,_⟩:=B.closed i a u (.inl j) Z hi
 exact e▸FX.mpr ⟨x,hx,rfl⟩
def kX(h:OkM L rooms)(hN:N<=1000000-1)(few:∀ws k a,Bfs (zJ rooms) L ws k a->ws.length<=N):∃ws,cK [zM L rooms]=some (.tup [.lst (ws.map (vA rooms)),.lst ((xY (zJ rooms) L ws).map λr=>D.tup (dI r))])/\Bfs (zJ rooms) L ws ws.length 0:=by
 have hL:L<1000000:=by have:=h.l3;omega
 have h1:=xa (λ(c:Nat)=>D.lst ((xM rooms c).map yu)) (t:=zr 0) (cond:=zX) (el:=Ql) (Γ:=[.v (zM L rooms),.un,.un,.un,.un,.un,.un,.un,.un,.un,.un]) (ms:=[none,some 0]) (ds:=xk 0 L) ((Fy L).map λa=>a+1) (by simp) (by have:=h.l3;simp;omega) (by
  intro k hk
  have ad:k<L:=by simpa using hk
  refine⟨_,rfl,rfl,?_⟩
  have:=Xj h (c:=k+1) (by omega)
  simp at this
  simp[y8,Ql,this])
 have h0:=Qx h
 have J:=Jo (rooms:=rooms) (w:=[])
 obtain⟨g,h2,ws,s5,s6,s7,s8,s9,s10,hg,hB⟩:=Je (t:=Wv) (b:=Qm)
  (λk Γ=>∃ws s5 s6 s7 s8 s9 s10,Γ=exG L rooms ws (uT L rooms ws k) s5 s6 s7 s8 s9 s10/\Bfs (zJ rooms) L ws k 0/\k<=ws.length)
  (λΓ=>∃ws s5 s6 s7 s8 s9 s10,Γ=exG L rooms ws (uT L rooms ws ws.length) s5 s6 s7 s8 s9 s10/\Bfs (zJ rooms) L ws ws.length 0) N (by
   rintro k Γ ⟨ws,s5,s6,s7,s8,s9,s10,rfl,B,hk⟩
   have ac:=few _ _ _ B
   have U:(uT L rooms ws k).length=k:=by simp[uT];omega
   refine⟨by omega,?_⟩
   by_cases z:k<ws.length
   ·refine .inr ⟨by simp[Wv,exG,U];omega,?_⟩
    have hw:ws[k]?=some ws[k]:=FU z
    obtain⟨ws',t8,t9,Y,e,B',Z,O⟩:=A' h hN few (rs:=uT L rooms ws k) (s8:=s8) (s9:=s9) (s10:=s10) B hw
    have ae:=O.length_le
    refine⟨exG L rooms ws' (uT L rooms ws' (k+1)) (.v (xv ws[k])) (.v (ye rooms ws[k])) (.ol (dI (xN (zJ rooms) L ws' ws[k]))) t8 t9 Y,?_,ws',_,_,_,_,_,_,rfl,B'.next,by omega⟩
    rw[<-ng B Z z O]
    generalize uT L rooms ws k=rs at U e ⊢
    have aa:rs.length<16777216:=by omega
    simp only[exG]at e
    have j:(ws.map (vA rooms))[k]?=some (.tup [xv ws[k],ye rooms ws[k]]):=by simp[z,vA]
    generalize ab:ws.map (vA rooms)=fd at e j
    simp[Qm,exG,U,xD,ab,j]
    simp[e,vx,aa]
   ·have:k=ws.length:=by omega
    subst this
    exact .inl ⟨by simp[Wv,exG,U],ws,s5,s6,s7,s8,s9,s10,rfl,B⟩) WF 0
  (exG L rooms [[]] [] .un .un .un .un .un .un) (by unfold WF;omega) ⟨[[]],.un,.un,.un,.un,.un,.un,rfl,Bfs.start,by simp⟩
 refine⟨ws,zV rfl ?_,hB⟩
 subst hg
 simp at h1
 have ec:Xm L rooms=(Fy L).map ((λ(c:Nat)=>D.lst ((xM rooms c).map yu))∘λa=>a+1):=rfl
 have er:uT L rooms ws ws.length=(xY (zJ rooms) L ws).map λr=>D.tup (dI r):=by
  unfold uT xY
  rw[HY,Hq];rfl
 rw[er]at h2
 simp only[exG,ec]at h2
 simp[pE,zB,vU hL,h1,h0,J]
 simp[vA,xv,kvG]at h2
 simp[h2,YW]
end
end Py
namespace Py
open PySem PySem.Spec L2 DD
open PyProof.Rows hiding St
abbrev dN(l:List Nat):List D:=l.map λ(n:Nat)=>D.int (n:Int)
abbrev dKs(l:List Nat):List (Key×D):=l.map λ(s:Nat)=>((Sum.inl (s:Int):Key),D.bl true)
theorem Ju(s:Nat):∀l:List Nat,yg (dKs l) (Sum.inl (s:Int))=if s∈l then some (.bl true)else none
 | []=>rfl
 | a::r=>by
  have j:=Ju s r
  unfold yg at j ⊢
  rw[show dKs (a::r)=((Sum.inl (a:Int):Key),D.bl true)::dKs r from rfl,Hj]
  by_cases h:a=s
  ·subst h;simp
  ·have h1:¬((Sum.inl (a:Int):Key)=Sum.inl (s:Int)):=λz=>h (by injection z with z;omega)
   have h2:¬s=a:=λz=>h z.symm
   simp only[h1,decide_false]
   rw[j]
   simp[h2]
def nh{s:Nat}{l:List Nat}(h:s∉l):wk (dKs l) (Sum.inl (s:Int)) (D.bl true)=dKs (l++[s]):=by
 unfold wk
 rw[if_neg ?_]
 ·simp
 ·rw[IZ]
  rintro⟨x,z,e⟩
  obtain⟨t,J,rfl⟩:=FX.mp z
  have j:((Sum.inl (t:Int):Key))=Sum.inl (s:Int):=by simpa using e
  injection j with j
  have:t=s:=by omega
  exact h (this▸J)
def kY{a0 a3 a4:S}{o:List Nat}{g:Nat}(hz:o.length<16777216):Ze [a0,.ol (dN o),.ok (dKs o),a3,a4,.v (.int (g:Int))]=some (.nx [a0,.ol (dN (Hop.zQ o g)),.ok (dKs (Hop.zQ o g)),a3,a4,.v (.int (g:Int))]):=by
 have h1:Z4 true (.d (.int (g:Int))) (.k (dKs o))=some (.bl (!decide (g∈o))):=by
  show some (D.bl (if true=true then !(yg (dKs o) (Sum.inl (g:Int))).isSome else _))=_
  rw[if_pos rfl,Ju]
  by_cases h:g∈o <;>simp[h]
 unfold Ze Hop.zQ
 by_cases h:g∈o
 ·simp[h1,h]
 ·have hp:XJ (.ok (dKs o)) (.int (g:Int)) (.bl true)=some (.ok (dKs (o++[g]))):=by
   show(if(dKs o).length<Fv then some (S.ok (wk (dKs o) (Sum.inl (g:Int)) (.bl true)))else none)=_
   rw[if_pos (by rw[FF,HG];exact hz),nh h]
  have hl:(dN o).length<16777216:=by rw[FF];exact hz
  simp[h1,h,hp,hz]
  show Va 1 (some (dN o)) (some (.d (.int (g:Int)))) _=_
  unfold Va
  simp[hz]
def kZ(o:List Nat)(g:Nat):(Hop.zQ o g).length<=o.length+1:=by
 unfold Hop.zQ
 split
 ·omega
 ·simp
theorem WV{a0 a3 a4:S}:∀(row:List Nat) (o:List Nat) (x5:S),o.length+row.length<16777216->∃y5,x0 (zr 5) Ze (dN row) [a0,.ol (dN o),.ok (dKs o),a3,a4,x5]=some (.nx [a0,.ol (dN (row.foldl Hop.zQ o)),.ok (dKs (row.foldl Hop.zQ o)),a3,a4,y5])
 | [],o,x5,_=>⟨x5,rfl⟩
 | g::r,o,x5,hz=>by
  rw[Gu]at hz
  have hl:=kZ o g
  obtain⟨y5,h⟩:=WV r (Hop.zQ o g) (.v (.int (g:Int))) (by omega)
  refine⟨y5,?_⟩
  have e:=kY (a0:=a0) (a3:=a3) (a4:=a4) (o:=o) (g:=g) (by omega)
  show x0 (zr 5) Ze (D.int (g:Int)::dN r) _=_
  unfold x0
  rw[show zr 5 (D.int (g:Int)) [a0,.ol (dN o),.ok (dKs o),a3,a4,x5]=some [a0,.ol (dN o),.ok (dKs o),a3,a4,.v (.int (g:Int))]from rfl]
  simp only[FZ,e]
  exact h
abbrev zG(rows:List (List Nat)):List D:=rows.map λr=>D.tup (dN r)
def ni{o:List Nat}{i:Nat}(h:i<o.length):atI (dN o) (i:Int)=some (.int (o.getD i 0:Nat)):=xf (by rw[FP,FM,FU h];rfl)
def Jv{rows:List (List Nat)}{s:Nat}(h:s<rows.length):atI (zG rows) (s:Int)=some (.tup (dN (rows.getD s []))):=xf (by rw[FP,FM,FU h];rfl)
def k'{a0 a2 a4 a5:S}{o:List Nat}{i:Nat}:YA [a0,.ol (dN o),a2,.v (.int (i:Int)),a4,a5]=some (decide (i<o.length)):=by
 unfold YA
 simp
def la{R:D}{rows:List (List Nat)}{a4 a5:S}{o:List Nat}{i:Nat}(hR:B.seq (.d R)=some (zG rows))(hi:i<o.length)(hs:o.getD i 0<rows.length)(hz:o.length+(rows.getD (o.getD i 0) []).length<16777216):
  ∃y4 y5,Yz [.v R,.ol (dN o),.ok (dKs o),.v (.int (i:Int)),a4,a5]=some (.nx [.v R,.ol (dN (Hop.wo rows o i)),.ok (dKs (Hop.wo rows o i)),.v (.int ((i+1:Nat):Int)),y4,y5]):=by
 obtain⟨y5,h⟩:=WV (a0:=.v R) (a3:=.v (.int (i:Int))) (a4:=.v (.tup (dN (rows.getD (o.getD i 0) [])))) (rows.getD (o.getD i 0) []) o a5 hz
 refine⟨.v (.tup (dN (rows.getD (o.getD i 0) []))),y5,?_⟩
 have e1:=ni hi
 have e2:=Jv hs
 unfold Yz
 have hrow:(x2 mIx (zc 0) (x2 mIx (zc 1) (zc 3))) [.v R,.ol (dN o),.ok (dKs o),.v (.int (i:Int)),a4,a5]=some (.d (.tup (dN (rows.getD (o.getD i 0) [])))):=by
  rw[Zz,Zz]
  show ap2 mIx (some (.d R)) (ap2 mIx (some (.l (dN o))) (some (.d (.int (i:Int)))))=_
  rw[wG,XW,Ub,FZ,e1,HK,wG,XW,hR,FZ,e2];rfl
 rw[yz,ZA,hrow,Jd,yv,yz]
 show Wr (x0 (zr 5) Ze (dN (rows.getD (o.getD i 0) [])) [.v R,.ol (dN o),.ok (dKs o),.v (.int (i:Int)),.v (.tup (dN (rows.getD (o.getD i 0) []))),a5]) _=_
 rw[h]
 rfl
theorem Xs(Y:B.seq (.d R)=some (zG rows))(j:∀a s,a<A->s<rows.length->(rows.getD s []).getD a 0<rows.length)(J:∀s,s<rows.length->(rows.getD s []).length=A)(Z:rows.length+A<16777216):
  ∀(f F i:Nat) (o:List Nat) (a4 a5:S),Hop.BI rows.length A (λa s=>(rows.getD s []).getD a 0) i 0 o->rows.length<=f+i->f<F->∃y3 O y5,xt YA Yz F [.v R,.ol (dN o),.ok (dKs o),.v (.int (i:Int)),a4,a5]=some (.nx [.v R,.ol (dN (Hop.bfs rows f i o)),.ok (dKs (Hop.bfs rows f i o)),y3,O,y5])
 | f,0,i,o,a4,a5,b,hf,hF=>by omega
 | f,F+1,i,o,a4,a5,b,hf,hF=>by
  have U:o.length<=rows.length:=by
   have:=Hop.yF (m:=Fy rows.length) b.nd λs z=>Gh.mpr (b.lt s z)
   rwa [GS]at this
  unfold xt
  rw[k']
  by_cases hi:i<o.length
  ·have z:=b.lt _ (Hop.wb hi)
   cases f with
   | zero=>omega
   | succ f=>
    obtain⟨O,y5,h⟩:=la (a4:=a4) (a5:=a5) Y hi z (by rw[J _ z];omega)
    obtain⟨q1,q2⟩:=Hop.Uj j (rows.getD (o.getD i 0) []) 0 o (by rw[J _ z];omega) hi (λc _=>by rw[G4]) b
    obtain⟨z3,z4,z5,hh⟩:=Xs Y j J Z f F (i+1) (Hop.wo rows o i) O y5 (Hop.U6 (show i<((rows.getD (o.getD i 0) []).foldl Hop.zQ o).length by omega) q1) (by omega) (by omega)
    refine⟨z3,z4,z5,?_⟩
    rw[decide_eq_true hi]
    simp only[FZ,h]
    unfold Hop.bfs
    rw[if_pos hi]
    exact hh
  ·refine⟨.v (.int (i:Int)),a4,a5,?_⟩
   rw[decide_eq_false hi]
   have e:Hop.bfs rows f i o=o:=by
    cases f with
    | zero=>rfl
    | succ f=>unfold Hop.bfs;rw[if_neg hi]
   rw[e]
   rfl
def UA{A:Nat}{R:D}{rows:List (List Nat)}(hR:B.seq (.d R)=some (zG rows))(hn:0<rows.length)(hlt:∀a s,a<A->s<rows.length->(rows.getD s []).getD a 0<rows.length)(hA:∀s,s<rows.length->(rows.getD s []).length=A)(hz:rows.length+A<100000):
  Vk [R]=some (.lst (dN (Hop.bfs rows rows.length 0 [0]))):=by
 obtain⟨y3,y4,y5,h⟩:=Xs hR hlt hA (by omega) rows.length WF 0 [0] .un .un (Hop.Y7 hn) (by omega) (by unfold WF;omega)
 refine zV rfl ?_
 unfold pF
 show(zt (xt YA Yz WF) (Zr 1 (zO (zc 1)))) [.v R,.ol (dN [0]),.ok (dKs [0]),.v (.int ((0:Nat):Int)),.un,.un]=_
 rw[yz,h]
 rfl
def nj{A:Nat}{rows:List (List Nat)}(hn:0<rows.length)(hlt:∀a s,a<A->s<rows.length->(rows.getD s []).getD a 0<rows.length)(hA:∀s,s<rows.length->(rows.getD s []).length=A)(hz:rows.length+A<100000):Vk [.tup (zG rows)]=some (.lst (dN (Hop.bfs rows rows.length 0 [0]))):=UA rfl hn hlt hA hz
def Xt{R:D}{rows:List (List Nat)}{kept:List Nat}{numbers:D}{nm:Nat->Nat}(U:B.seq (.d R)=some (zG rows))(O:∀s∈kept,s<rows.length)(Y:kept.length<=16777216)(Z:∀s,s<rows.length->(rows.getD s []).length<=16777216) 
  (hn:∀s∈kept,∀g∈rows.getD s [],aU (.d numbers) (.d (.int (g:Int)))=some (.int (nm g:Nat))) :
  uS [R,.lst (dN kept),numbers]=some (.tup (zG (kept.map λs=>(rows.getD s []).map nm))):=by
 have j:∀s∈kept,Ww [.v (.int (s:Int)),.v R,.v numbers]=some (.d (.tup (dN ((rows.getD s []).map nm)))):=λs J=>by
  have hc:=xa (λ(x:Nat)=>D.int (x:Int)) (t:=zr 0) (cond:=zX) (el:=Qn) (Γ:=[.v (.int (s:Int)),.v R,.v numbers]) (ms:=[none,some 2]) (ds:=dN (rows.getD s [])) ((rows.getD s []).map nm) (by simp) (by rw[FF];exact Z s (O s J)) λk h=>by
   rw[FF]at h
   refine⟨[.v (.int ((rows.getD s [])[k]:Nat)),.v numbers],?_,rfl,?_⟩
   ·simp[y8]
   ·have:=hn s J _ (GF h)
    rw[Hr]
    generalize (rows.getD s [])[k]=x at this
    unfold Qn
    simp[this]
  have z:(x2 mIx (zc 1) (zc 0)) [.v (.int (s:Int)),.v R,.v numbers]=some (.d (.tup (dN (rows.getD s [])))):=by
   rw[Zz]
   show ap2 mIx (some (.d R)) (some (.d (.int (s:Int))))=_
   rw[wG,XW,U,FZ,Jv (O s J)];rfl
  unfold Ww
  rw[Wq,xw,XS,vT,mC,z,oU,hc]
  rfl
 have outer:=xa (λ(r:List Nat)=>D.tup (dN r)) (t:=zr 0) (cond:=zX) (el:=Ww) (Γ:=[.v R,.v (.lst (dN kept)),.v numbers]) (ms:=[none,some 0,some 2]) (ds:=dN kept) (kept.map λs=>(rows.getD s []).map nm) (by simp) (by rw[FF];exact Y) λk h=>by
  rw[FF]at h
  refine⟨[.v (.int (kept[k]:Nat)),.v R,.v numbers],?_,rfl,?_⟩
  ·simp[y8]
  ·rw[j _ (GF h),Hr]
 refine zV rfl ?_
 unfold pG
 show zO _ [.v R,.v (.lst (dN kept)),.v numbers]=_
 rw[XU,Wq,xw,XS,vT,show wx (zc 1) [.v R,.v (.lst (dN kept)),.v numbers]=some (dN kept)from rfl,outer]
 rfl
def X5{rows:List (List Nat)}{kept:List Nat}{numbers:D}{nm:Nat->Nat}(j:∀s∈kept,s<rows.length)(z:kept.length<=16777216)(J:∀s,s<rows.length->(rows.getD s []).length<=16777216)(hn:∀s∈kept,∀g∈rows.getD s [],aU (.d numbers) (.d (.int (g:Int)))=some (.int (nm g:Nat))):uS [.tup (zG rows),.lst (dN kept),numbers]=some (.tup (zG (kept.map λs=>(rows.getD s []).map nm))):=Xt rfl j z J hn
abbrev kN(l:List Nat):List Key:=l.map λ(s:Nat)=>(Sum.inl (s:Int):Key)
theorem Xn:∀(o:List Nat) (j g:Nat),g∈o->yg ((kN o).zip ((G7 j o.length).map λ(k:Nat)=>D.int (k:Int))) (Sum.inl (g:Int))=some (.int ((j+o.idxOf g:Nat):Int))
 | [],j,g,h=>by cases h
 | a::r,j,g,h=>by
  have J:=Xn r (j+1) g
  unfold yg at J ⊢
  rw[show(kN (a::r)).zip ((G7 j (a::r).length).map λ(k:Nat)=>D.int (k:Int))=((Sum.inl (a:Int):Key),D.int (j:Int))::(kN r).zip ((G7 (j+1) r.length).map λ(k:Nat)=>D.int (k:Int))from by simp[K6],Hj]
  by_cases e:a=g
  ·subst e;simp
  ·have h1:¬((Sum.inl (a:Int):Key)=Sum.inl (g:Int)):=λz=>e (by injection z with z;omega)
   simp only[h1,decide_false]
   have O:g∈r:=by
    rcases FL.mp h with z|z
    ·exact absurd z.symm e
    ·exact z
   rw[J O,Nb]
   have h2:(a==g)=false:=by simpa using e
   rw[h2]
   simp only[cond_false]
   congr 3
   omega
def Jw{o:List Nat}{g:Nat}(h:g∈o):aU (.d (.dK (kN o) ((Fy o.length).map λ(k:Nat)=>D.int (k:Int)))) (.d (.int (g:Int)))=some (.int ((o.idxOf g:Nat):Int)):=by
 have e:=Xn o 0 g h
 rw[G4,<-Nk]at e
 show Pv none ((some (yg _ _)).bind id)=_
 rw[e];rfl
abbrev prs(j:Nat)(o:List Nat):List (Key×D):=(kN o).zip ((G7 j o.length).map λ(k:Nat)=>D.int (k:Int))
theorem Jx:∀(kvs acc:List (Key×D)),(kvs.map Gq).Nodup->(∀k∈kvs.map Gq,k∉acc.map Gq)->uH acc kvs=acc++kvs
 | [],acc,_,_=>by simp[uH]
 | (k,v)::r,acc,J,h=>by
  rw[FY,GX]at J
  have Y:=h k (by simp)
  have e:wk acc k v=acc++[(k,v)]:=by
   unfold wk
   rw[if_neg]
   rw[IZ]
   rintro⟨x,Z,ex⟩
   exact Y (FX.mpr ⟨x,Z,by simpa using ex⟩)
  show uH (wk acc k v) r=_
  rw[e,Jx r _ J.2 λO j U=>?_]
  ·simp
  ·rw[GO,Gk]at U
   rcases U with z|z
   ·exact h O (Gc _ j) z
   ·have:O=k:=by simpa using z
    subst this
    exact J.1 j
def pZ(h:o.Nodup):(kN o).Nodup:=by
 rw[List.nodup_iff_pairwise_ne]at h ⊢
 rw[List.pairwise_map]
 exact h.imp λj z=>j (by injection z with z;omega)
def WJ(o:List Nat)(j:Nat):(prs j o).map Gq=kN o:=List.map_fst_zip (by simp)
def gS(o:List Nat)(j:Nat):(prs j o).map HV=(G7 j o.length).map λ(k:Nat)=>D.int (k:Int):=List.map_snd_zip (by simp)
def nq(h:o.Nodup):uH [] (prs 0 o)=prs 0 o:=by
 rw[Jx _ _ (by rw[WJ];exact pZ h) (by simp)];rfl
theorem UB:∀(o:List Nat) (j:Nat),Zw ((o.zip (G7 j o.length)).map λ(p:Nat×Nat)=>D.tup [.int (p.1:Int),.int (p.2:Int)])=some (prs j o)
 | [],j=>rfl
 | a::r,j=>by
  have z:=UB r (j+1)
  rw[show((a::r).zip (G7 j (a::r).length)).map (λ(p:Nat×Nat)=>D.tup [.int (p.1:Int),.int (p.2:Int)])=D.tup [.int (a:Int),.int (j:Int)]::(r.zip (G7 (j+1) r.length)).map (λ(p:Nat×Nat)=>D.tup [.int (p.1:Int),.int (p.2:Int)])from by simp[K6]]
  show((XI (.int (a:Int))).bind λk=>(Zw _).map λt=>(k,D.int (j:Int))::t)=_
  rw[z]
  show some _=some _
  simp[prs,K6]
theorem dG:∀(o:List Nat) (j g:Nat),g∉o->yg (prs j o) (Sum.inl (g:Int))=none
 | [],j,g,h=>rfl
 | a::r,j,g,h=>by
  rw[FL,not_or]at h
  have J:=dG r (j+1) g h.2
  unfold yg at J ⊢
  rw[show prs j (a::r)=((Sum.inl (a:Int):Key),D.int (j:Int))::prs (j+1) r from by simp[prs,K6],Hj]
  have h1:¬((Sum.inl (a:Int):Key)=Sum.inl (g:Int)):=λz=>h.1 (by injection z with z;omega)
  simp only[h1,decide_false]
  exact J
def sY{o:List Nat}{g:Nat}(h:g∉o):wk (prs 0 o) (Sum.inl (g:Int)) (.int (o.length:Int))=prs 0 (o++[g]):=by
 unfold wk
 rw[if_neg]
 ·simp[prs,List.range'_concat,List.zip_append]
 ·rw[IZ]
  rintro⟨x,J,ex⟩
  have O:x.1∈kN o:=by rw[<-WJ o 0];exact FX.mpr ⟨x,J,rfl⟩
  obtain⟨t,U,z⟩:=FX.mp O
  have Y:x.1=Sum.inl (g:Int):=by simpa using ex
  rw[Y]at z
  have j:(Sum.inl (t:Int):Key)=Sum.inl (g:Int):=z
  injection j with j
  have:t=g:=by omega
  exact h (this▸U)
def p0{a0 a1 a2 a3 a4 a5 a6 a7 a12:S}{ps kept:List Nat}{s p:Nat}(J:ps.length=kept.length)(z:kept.length<16777216):
  YB [a0,a1,a2,a3,a4,a5,a6,a7,.ok (prs 0 ps),.ol (dN kept),.v (.int (s:Int)),.v (.int (p:Int)),a12]=
   some (.nx [a0,a1,a2,a3,a4,a5,a6,a7,.ok (prs 0 (if p∈ps then ps else ps++[p])),.ol (dN (if p∈ps then kept else kept++[s])),.v (.int (s:Int)),.v (.int (p:Int)),a12]):=by
 have h1:Z4 true (.d (.int (p:Int))) (.k (prs 0 ps))=some (.bl (!decide (p∈ps))):=by
  show some (D.bl (if true=true then !(yg (prs 0 ps) (Sum.inl (p:Int))).isSome else _))=_
  rw[if_pos rfl]
  by_cases h:p∈ps
  ·rw[Xn ps 0 p h];simp[h]
  ·rw[dG ps 0 p h];simp[h]
 unfold YB
 by_cases h:p∈ps
 ·simp[h1,h]
 ·have j:(prs 0 ps).length=ps.length:=by simp[prs]
  have O:XJ (.ok (prs 0 ps)) (.int (p:Int)) (.int (kept.length:Int))=some (.ok (prs 0 (ps++[p]))):=by
   show(if(prs 0 ps).length<Fv then some (S.ok (wk (prs 0 ps) (Sum.inl (p:Int)) (.int (kept.length:Int))))else none)=_
   rw[if_pos (by rw[j,HG];omega),<-J,sY h]
  simp[h1,h,O,z]
  show Va 9 (some (dN kept)) (some (.d (.int (s:Int)))) _=_
  unfold Va
  simp[z]
theorem X6(part:Nat->Nat):∀i,(Hop.yW part i).length<=i
 | 0=>FA _
 | i+1=>by
  have:=X6 part i
  unfold Hop.yW
  split
  ·omega
  ·rw[Gb,GA];omega
def ZP{parts:List Nat}{k:Nat}(h:k<(zP (dN parts)).length):(zP (dN parts))[k]=.tup [.int (k:Int),.int ((parts.getD k 0:Nat):Int)]:=by
 have j:k<parts.length:=by simpa[zP]using h
 simp[zP,j]
def nr{a0 a1 a2 a3 a4 a5 a6 a7 a10 a11 a12:S}(parts:List Nat)(hz:parts.length<16777216):
  ∃y10 y11,x0 (yQ 2 (zA (zr 10) (zA (zr 11) yK))) YB (zP (dN parts)) [a0,a1,a2,a3,a4,a5,a6,a7,.ok [],.ol [],a10,a11,a12]=
   some (.nx [a0,a1,a2,a3,a4,a5,a6,a7,.ok (prs 0 ((Hop.yW (λs=>parts.getD s 0) parts.length).map λs=>parts.getD s 0)),.ol (dN (Hop.yW (λs=>parts.getD s 0) parts.length)),y10,y11,a12]):=by
 obtain⟨g,h1,y10,y11,hg⟩:=uo (t:=yQ 2 (zA (zr 10) (zA (zr 11) yK))) (fb:=YB) (zP (dN parts))
  (λk Γ=>∃y10 y11,Γ=[a0,a1,a2,a3,a4,a5,a6,a7,.ok (prs 0 ((Hop.yW (λs=>parts.getD s 0) k).map λs=>parts.getD s 0)),.ol (dN (Hop.yW (λs=>parts.getD s 0) k)),y10,y11,a12])
  [a0,a1,a2,a3,a4,a5,a6,a7,.ok [],.ol [],a10,a11,a12] ⟨a10,a11,rfl⟩ λk Γ h hh73'=>by
   obtain⟨x10,x11,e⟩:=hh73'
   subst e
   have hk:k<parts.length:=by simpa[zP]using h
   have hl:=X6 (λs=>parts.getD s 0) k
   refine⟨[a0,a1,a2,a3,a4,a5,a6,a7,.ok (prs 0 ((Hop.yW (λs=>parts.getD s 0) k).map λs=>parts.getD s 0)),.ol (dN (Hop.yW (λs=>parts.getD s 0) k)),.v (.int (k:Int)),.v (.int ((parts.getD k 0:Nat):Int)),a12],_,by rw[ZP h];rfl,p0 (by simp) (by omega),.v (.int (k:Int)),.v (.int ((parts.getD k 0:Nat):Int)),?_⟩
   have e1:Hop.yW (λs=>parts.getD s 0) (k+1)=if parts.getD k 0∈(Hop.yW (λs=>parts.getD s 0) k).map (λs=>parts.getD s 0)then Hop.yW (λs=>parts.getD s 0) k else Hop.yW (λs=>parts.getD s 0) k++[k]:=rfl
   rw[e1]
   split
   ·rfl
   ·rw[GO];rfl
 have hlen:(zP (dN parts)).length=parts.length:=by simp[zP]
 rw[hlen]at hg
 exact⟨y10,y11,by rw[h1,hg]⟩
theorem Jy:∀l:List Nat,Pt.v9 (dN l)=some l
 | []=>rfl
 | a::r=>by
  show(if(0:Int)<=(a:Int)then(Pt.v9 (dN r)).map λl=>(a:Int).toNat::l else none)=_
  rw[if_pos (by omega),Jy r];simp
theorem wM:∀rows:List (List Nat),Pt.xP (zG rows)=some rows
 | []=>rfl
 | a::r=>by
  show((Pt.v9 (dN a)).bind λl=>(Pt.xP (zG r)).map λm=>l::m)=_
  rw[Jy a,wM r];rfl
theorem vq:∀l:List Bool,Pt.yp (l.map D.bl)=some l
 | []=>rfl
 | a::r=>by
  show((Pt.yp (r.map D.bl)).map λl=>a::l)=_
  rw[vq r];rfl
def lc{rows:List (List Nat)}{A:Nat}(hlt:∀a s,a<A->s<rows.length->(rows.getD s []).getD a 0<rows.length)(hA:∀s,s<rows.length->(rows.getD s []).length=A):Pt.Zb rows A=true:=by
 unfold Pt.Zb
 rw[GR]
 intro r hr
 obtain⟨s,hs,e⟩:=GE.mp hr
 have es:rows.getD s []=r:=by rw[FM,FU hs];exact e
 have hl:=hA s hs
 rw[es]at hl
 rw[G0,decide_eq_true_eq,GR]
 refine⟨by omega,λg hg=>decide_eq_true ?_⟩
 obtain⟨a,ha,ea⟩:=GE.mp hg
 rw[HP]at ha
 rw[LX]at ea
 have:=hlt a s (by omega) hs
 rw[es,FM,FU (show a<r.length by omega),Hz,ea]at this
 exact this
def sZ{rows:List (List Nat)}{A:Nat}{marks:List Bool}(hlt:∀a s,a<A->s<rows.length->(rows.getD s []).getD a 0<rows.length)(hA:∀s,s<rows.length->(rows.getD s []).length=A)(hm:marks.length=rows.length)(hz:rows.length+A<100000):
  Pt.Yt [.int (A:Int),.tup (zG rows),.lst (marks.map D.bl)]=some (.lst (dN (Hop.xg (Pt.bks rows A) marks))):=by
 unfold Pt.Yt
 simp only
 rw[wM,vq]
 simp only[FZ]
 have hs:Fv=16777216:=HG
 rw[if_pos ⟨by omega,by rw[Il];exact lc hlt hA,hm,by omega,by rw[Il];omega⟩,Il]
def zx(A:Nat)(rows:List (List Nat))(g:Nat->Bool):D:=.tup [.int (A:Int),.tup (zG rows),.tup (dN (yo rows.length g))]
abbrev gB(n:Nat)(g:Nat->Bool):D:=.lst ((Fy n).map λ(s:Nat)=>D.bl (g s))
abbrev pK(o:List Nat):D:=.dK (kN o) ((Fy o.length).map λ(k:Nat)=>D.int (k:Int))
abbrev pQ(o:List Nat):D:=.dK (kN o) ((G7 0 o.length).map λ(k:Nat)=>D.int (k:Int))
def p5{Γ:G}{o:List Nat}(hl:o.length<=100000):xV (some (zP (dN o))) [none,none] (yQ 2 (zA (zr 0) (zA (zr 1) yK))) zX Wx Γ=some ((o.zip (G7 0 o.length)).map λ(p:Nat×Nat)=>D.tup [.int (p.1:Int),.int (p.2:Int)]):=by
 refine xa (λ(p:Nat×Nat)=>D.tup [.int (p.1:Int),.int (p.2:Int)]) _ (by simp[zP]) (by simp[zP];omega) λk h=>?_
 have hk:k<o.length:=by simpa[zP]using h
 refine⟨[.v (.int (k:Int)),.v (.int (o[k]:Nat))],?_,rfl,?_⟩
 ·rw[ZP h,Hop.yN hk];rfl
 ·simp[Wx,O8]
def Cs{g:Nat->Bool}{n s:Nat}(h:s<n):atI ((Fy n).map λ(s:Nat)=>D.bl (g s)) (s:Int)=some (.bl (g s)):=by
 rw[xD];simp[h]
def p6{a0 a1:S}{R:List S}{o:List Nat}{g:Nat->Bool}{n:Nat}(J:o.length<=100000)(j:∀s∈o,s<n):
  xV (some (dN o)) [none,some 2] (zr 0) zX Wy (a0::a1::.v (.lst ((Fy n).map λ(s:Nat)=>D.bl (g s)))::R)=some ((o.map g).map D.bl):=by
 refine xa D.bl (o.map g) (by simp) (by simp;omega) λk h=>?_
 have z:k<o.length:=by simpa using h
 refine⟨[.v (.int (o[k]:Nat)),.v (.lst ((Fy n).map λ(s:Nat)=>D.bl (g s)))],?_,rfl,?_⟩
 ·simp[y8]
 ·simp only[Wy,Zz,Zy]
  show ap2 mIx (some (.d (.lst ((Fy n).map λ(s:Nat)=>D.bl (g s))))) (some (.d (.int (o[k]:Nat))))=_
  rw[wG,XW,mE,FZ,Cs (j _ (GF z))]
  simp
def p7{Γ:G}{parts ps:List Nat}(j:Γ[8]?=some (.v (.dK (kN ps) ((G7 0 ps.length).map λ(k:Nat)=>D.int (k:Int)))))(O:parts.length<=100000)(z:∀p∈parts,p∈ps):
  xV (some (dN parts)) [none,some 8] (zr 0) zX YC Γ=some (dN (parts.map λp=>ps.idxOf p)):=by
 refine xa (λ(n:Nat)=>D.int (n:Int)) (parts.map λp=>ps.idxOf p) (by simp) (by simp;omega) λk h=>?_
 have J:k<parts.length:=by simpa using h
 refine⟨[.v (.int (parts[k]:Nat)),.v (.dK (kN ps) ((G7 0 ps.length).map λ(k:Nat)=>D.int (k:Int)))],?_,rfl,?_⟩
 ·simp[y8,j]
 ·have e:=Xn ps 0 parts[k] (z _ (GF J))
  rw[G4]at e
  simp only[YC,Zz,Zy]
  show ap2 v7 (some (.d (.dK (kN ps) ((G7 0 ps.length).map λ(k:Nat)=>D.int (k:Int))))) (some (.d (.int (parts[k]:Nat))))=_
  rw[wG]
  show((some (yg ((kN ps).zip ((G7 0 ps.length).map λ(k:Nat)=>D.int (k:Int))) (Sum.inl ((parts[k]:Nat):Int)))).bind id).map B.d=_
  rw[e]
  simp
def p8{Γ:G}{kept:List Nat}{marks:List Bool}(hΓ:Γ[6]?=some (.v (.lst (marks.map D.bl))))(hl:kept.length<=100000)(hk:∀s∈kept,s<marks.length):
  xV (some (zP (dN kept))) [none,none,some 6] (yQ 2 (zA (zr 0) (zA (zr 1) yK))) YD Wz Γ=some (dN (yo kept.length λi=>marks.getD (kept.getD i 0) false)):=by
 have:=Jl (λ(n:Nat)=>D.int (n:Int)) (t:=yQ 2 (zA (zr 0) (zA (zr 1) yK))) (cond:=YD) (el:=Wz) (Γ:=Γ) (ms:=[none,none,some 6]) (ds:=zP (dN kept)) (λi=>marks.getD (kept.getD i 0) false) (by simp[zP];omega) λk h=>by
  have hkl:k<kept.length:=by simpa[zP]using h
  have hm:kept.getD k 0<marks.length:=hk _ (Hop.wb hkl)
  refine⟨[.v (.int (k:Int)),.v (.int (kept.getD k 0:Nat)),.v (.lst (marks.map D.bl))],?_,?_,λ_=>rfl⟩
  ·rw[ZP h]
   simp[y8,hΓ,yQ,zA,yK]
  ·simp only[YD,AI,Zz,Zy]
   show bG (ap2 mIx (some (.d (.lst (marks.map D.bl)))) (some (.d (.int (kept.getD k 0:Nat)))))=_
   rw[wG,XW,mE,FZ,xD,FP,FU hm,FM (l:=marks),FU hm]
   rfl
 rw[this]
 simp[zP,yo]
section
variable {A:Nat} {rows near:List (List Nat)} {g:Nat->Bool} {o:List Nat}
def UC{R:D}(ok:Hop.OkR A rows)(aa:A<=3)(hz:rows.length<=50000)(ho:o=Hop.bfs rows rows.length 0 [0])(Y:near=o.map λs=>(rows.getD s []).map λg=>o.idxOf g) 
  (h1:Vk [R]=some (.lst (dN o))) (h2:uS [R,.lst (dN o),pK o]=some (.tup (zG near))) :
  ∃rows' g',wZ [.int (A:Int),R,gB rows.length g]=some (zx A rows' g')/\Hop.Lst A rows g rows' g':=by
 have b:=Hop.vG ok ho
 have ol:=Hop.Y9 b
 have z:o.length<=50000:=Ge ol hz
 obtain⟨J,nl⟩:=Hop.U8 ok b Y
 generalize j:Hop.xg (Pt.bks near A) (o.map g)=parts
 generalize O:Hop.yW (λs=>parts.getD s 0) o.length=kept
 have af:∀i,i<A->Hop.Back near.length (λs=>(near.getD s []).getD i 0) ((Pt.bks near A).getD i []):=λi hi=>by
  rw[FM,Pt.UZ hi]
  exact Pt.Rows.back ⟨λs U=>HN (J.len s U).symm,λs a U ha=>J.lt a s ha U⟩ hi
 obtain⟨L,pl,kl,ag⟩:=Hop.jN (good:=g) (part:=λs=>parts.getD s 0) (kept:=kept) ok ho Y (Pt.U0 near A) af (by rw[j]) O.symm rfl rfl
 rw[j]at pl
 refine⟨_,_,?_,L⟩
 have hm:=sZ (rows:=near) (A:=A) (marks:=o.map g) J.lt J.len (by simp[nl]) (by rw[nl];exact IA (Pw z aa) (by decide))
 rw[j]at hm
 obtain⟨y10,y11,Z⟩:=nr (a0:=.v (.int (A:Int))) (a1:=.v R) (a2:=.v (gB rows.length g)) (a3:=.v (.lst (dN o))) (a4:=.v (pK o)) (a5:=.v (.tup (zG near))) (a6:=.v (.lst ((o.map g).map D.bl))) (a7:=.v (.lst (dN parts))) (a10:=.un) (a11:=.un) (a12:=.un) parts (by rw[pl];exact IA z (by decide))
 rw[pl,O]at Z
 have ab:kept.length<=o.length:=by rw[<-O];exact X6 _ _
 have ah:∀p∈parts,p∈kept.map λs=>parts.getD s 0:=λp hp=>by
  obtain⟨s,U,e⟩:=GE.mp hp
  have:=ag s (pl▸U)
  rw[show parts.getD s 0=p from by rw[Hop.yN U];exact e]at this
  exact this
 have ac:=X5 (rows:=near) (kept:=kept) (numbers:=.lst (dN (parts.map λp=>(kept.map λs=>parts.getD s 0).idxOf p))) (nm:=Hop.vP (λs=>parts.getD s 0) kept) (λs U=>by rw[nl];exact kl s U) (Ge ab (Ge z (by decide))) (λs U=>by rw[J.len s U];exact Ge aa (by decide)) λs U x hx=>by
  have ad:s<near.length:=by rw[nl];exact kl s U
  obtain⟨a,ha,e⟩:=GE.mp hx
  have ae:x<parts.length:=by
   have:=J.lt a s (by rw[<-J.len s ad];exact ha) ad
   rw[show Hop.dl near a s=x from by show(near.getD s []).getD a 0=x;rw[Hop.yN ha];exact e]at this
   rw[pl,<-nl];exact this
  show Pv (atI (dN (parts.map λp=>(kept.map λs=>parts.getD s 0).idxOf p)) (x:Int)) _=_
  rw[ni (by simpa using ae),Hop.vh ae]
  rfl
 have c1:=p5 (Γ:=[.v (.int (A:Int)),.v R,.v (gB rows.length g),.v (.lst (dN o)),.un,.un,.un,.un,.un,.un,.un,.un,.un]) (o:=o) (Ge z (by decide))
 have c2:=p6 (a0:=.v (.int (A:Int))) (a1:=.v R) (R:=[.v (.lst (dN o)),.v (pK o),.v (.tup (zG near)),.un,.un,.un,.un,.un,.un,.un]) (g:=g) (Ge z (by decide)) b.lt
 have c3:=p7 (Γ:=[.v (.int (A:Int)),.v R,.v (gB rows.length g),.v (.lst (dN o)),.v (pK o),.v (.tup (zG near)),.v (.lst ((o.map g).map D.bl)),.v (.lst (dN parts)),.v (pQ (kept.map λs=>parts.getD s 0)),.v (.lst (dN kept)),y10,y11,.un]) rfl (parts:=parts) (by rw[pl];exact Ge z (by decide)) ah
 have c4:=p8 (Γ:=[.v (.int (A:Int)),.v R,.v (gB rows.length g),.v (.lst (dN o)),.v (pK o),.v (.tup (zG near)),.v (.lst ((o.map g).map D.bl)),.v (.lst (dN parts)),.v (pQ (kept.map λs=>parts.getD s 0)),.v (.lst (dN kept)),y10,y11,.v (.tup (zG (kept.map λs=>(near.getD s []).map (Hop.vP (λs=>parts.getD s 0) kept))))]) rfl (kept:=kept) (Ge ab (Ge z (by decide))) (by simpa using kl)
 have ai:yo kept.length (λi=>(o.map g).getD (kept.getD i 0) false)=yo (kept.map λs=>(near.getD s []).map (Hop.vP (λs=>parts.getD s 0) kept)).length (λi=>g (o.getD (kept.getD i 0) 0)):=by
  rw[FF]
  exact WU λi hi=>Hop.vh (kl _ (Hop.wb hi))
 refine zV rfl ?_
 unfold pH
 rw[yz,show(yf 3 (xFn Vk (za (zc 1) zf))) (zB 13 [.int (A:Int),R,gB rows.length g])=some (.nx [.v (.int (A:Int)),.v R,.v (gB rows.length g),.v (.lst (dN o)),.un,.un,.un,.un,.un,.un,.un,.un,.un])from by
  simp[zB,h1],yv,yz]
 rw[show(V2 4 (za (xL (yE (Z5 (za (zc 3) zf)) [none,none] (yQ 2 (zA (zr 0) (zA (zr 1) yK))) zX Wx)) zf)) [.v (.int (A:Int)),.v R,.v (gB rows.length g),.v (.lst (dN o)),.un,.un,.un,.un,.un,.un,.un,.un,.un]=some (.nx [.v (.int (A:Int)),.v R,.v (gB rows.length g),.v (.lst (dN o)),.ok (prs 0 o),.un,.un,.un,.un,.un,.un,.un,.un])from by
  rw[pX,xw,XS,vT,AS]
  rw[show oX ((za (zc 3) zf) [S.v (.int (A:Int)),.v R,.v (gB rows.length g),.v (.lst (dN o)),.un,.un,.un,.un,.un,.un,.un,.un,.un])=some (zP (dN o))from rfl,c1,HK,V9,Ua,kU,UB,FZ,if_pos (by rw[show(prs 0 o).length=o.length from by simp[prs]];exact Ge z (by decide)),nq b.nd]
  rfl,yv,bJ]
 rw[show YW 4 [S.v (.int (A:Int)),.v R,.v (gB rows.length g),.v (.lst (dN o)),.ok (prs 0 o),.un,.un,.un,.un,.un,.un,.un,.un]=[.v (.int (A:Int)),.v R,.v (gB rows.length g),.v (.lst (dN o)),.v (pK o),.un,.un,.un,.un,.un,.un,.un,.un]from by
  show L5 _ 4 (S.v (.dK ((prs 0 o).map Gq) ((prs 0 o).map HV)))=_
  rw[WJ,gS,<-Nk];rfl]
 rw[yz,show(yf 5 (xFn uS (za (zc 1) (za (zc 3) (za (zc 4) zf))))) [.v (.int (A:Int)),.v R,.v (gB rows.length g),.v (.lst (dN o)),.v (pK o),.un,.un,.un,.un,.un,.un,.un,.un]=some (.nx [.v (.int (A:Int)),.v R,.v (gB rows.length g),.v (.lst (dN o)),.v (pK o),.v (.tup (zG near)),.un,.un,.un,.un,.un,.un,.un])from by
  rw[ZA]
  show U2 5 (fnO uS (some [R,.lst (dN o),pK o])) _=_
  rw[vO,h2];rfl,yv]
 rw[yz,show(yf 6 (xL (yE (wx (zc 3)) [none,some 2] (zr 0) zX Wy))) [.v (.int (A:Int)),.v R,.v (gB rows.length g),.v (.lst (dN o)),.v (pK o),.v (.tup (zG near)),.un,.un,.un,.un,.un,.un,.un]=some (.nx [.v (.int (A:Int)),.v R,.v (gB rows.length g),.v (.lst (dN o)),.v (pK o),.v (.tup (zG near)),.v (.lst ((o.map g).map D.bl)),.un,.un,.un,.un,.un,.un])from by
  rw[ZA,XS,vT]
  show U2 6 ((xV (some (dN o)) _ _ _ _ _).map _) _=_
  rw[c2];rfl,yv]
 rw[yz,show(yf 7 (xFn pA (za (zc 0) (za (zc 5) (za (zc 6) zf))))) [.v (.int (A:Int)),.v R,.v (gB rows.length g),.v (.lst (dN o)),.v (pK o),.v (.tup (zG near)),.v (.lst ((o.map g).map D.bl)),.un,.un,.un,.un,.un,.un]=some (.nx [.v (.int (A:Int)),.v R,.v (gB rows.length g),.v (.lst (dN o)),.v (pK o),.v (.tup (zG near)),.v (.lst ((o.map g).map D.bl)),.v (.lst (dN parts)),.un,.un,.un,.un,.un])from by
  rw[ZA]
  show U2 7 (fnO Pt.Yt (some [.int (A:Int),.tup (zG near),.lst ((o.map g).map D.bl)])) _=_
  rw[vO,hm];rfl,yv]
 rw[yz,show VT 8 [S.v (.int (A:Int)),.v R,.v (gB rows.length g),.v (.lst (dN o)),.v (pK o),.v (.tup (zG near)),.v (.lst ((o.map g).map D.bl)),.v (.lst (dN parts)),.un,.un,.un,.un,.un]=some (.nx [.v (.int (A:Int)),.v R,.v (gB rows.length g),.v (.lst (dN o)),.v (pK o),.v (.tup (zG near)),.v (.lst ((o.map g).map D.bl)),.v (.lst (dN parts)),.ok [],.un,.un,.un,.un])from rfl,yv]
 rw[yz,show vu 9 (wv zf) [S.v (.int (A:Int)),.v R,.v (gB rows.length g),.v (.lst (dN o)),.v (pK o),.v (.tup (zG near)),.v (.lst ((o.map g).map D.bl)),.v (.lst (dN parts)),.ok [],.un,.un,.un,.un]=some (.nx [.v (.int (A:Int)),.v R,.v (gB rows.length g),.v (.lst (dN o)),.v (pK o),.v (.tup (zG near)),.v (.lst ((o.map g).map D.bl)),.v (.lst (dN parts)),.ok [],.ol [],.un,.un,.un])from rfl,yv]
 rw[yz,bI]
 rw[show(Z5 (za (zc 7) zf)) [S.v (.int (A:Int)),.v R,.v (gB rows.length g),.v (.lst (dN o)),.v (pK o),.v (.tup (zG near)),.v (.lst ((o.map g).map D.bl)),.v (.lst (dN parts)),.ok [],.ol [],.un,.un,.un]=some (zP (dN parts))from rfl,XV,Z,yv,bJ,bJ]
 rw[show YW 9 (YW 8 [S.v (.int (A:Int)),.v R,.v (gB rows.length g),.v (.lst (dN o)),.v (pK o),.v (.tup (zG near)),.v (.lst ((o.map g).map D.bl)),.v (.lst (dN parts)),.ok (prs 0 (kept.map λs=>parts.getD s 0)),.ol (dN kept),y10,y11,.un])=[.v (.int (A:Int)),.v R,.v (gB rows.length g),.v (.lst (dN o)),.v (pK o),.v (.tup (zG near)),.v (.lst ((o.map g).map D.bl)),.v (.lst (dN parts)),.v (pQ (kept.map λs=>parts.getD s 0)),.v (.lst (dN kept)),y10,y11,.un]from by
  show L5 (L5 _ 8 (S.v (.dK ((prs 0 (kept.map λs=>parts.getD s 0)).map Gq) ((prs 0 (kept.map λs=>parts.getD s 0)).map HV)))) 9 _=_
  rw[WJ,gS];rfl]
 rw[yz,ZA]
 rw[show(xFn uS (za (zc 5) (za (zc 9) (za (xL (yE (wx (zc 7)) [none,some 8] (zr 0) zX YC)) zf)))) [.v (.int (A:Int)),.v R,.v (gB rows.length g),.v (.lst (dN o)),.v (pK o),.v (.tup (zG near)),.v (.lst ((o.map g).map D.bl)),.v (.lst (dN parts)),.v (pQ (kept.map λs=>parts.getD s 0)),.v (.lst (dN kept)),y10,y11,.un]=some (.d (.tup (zG (kept.map λs=>(near.getD s []).map (Hop.vP (λs=>parts.getD s 0) kept)))))from by
  rw[Y3,xw,xw,xw,XS,vT]
  show fnO uS (dsO (w6 (some (.d (.tup (zG near)))) (w6 (some (.d (.lst (dN kept)))) (w6 ((xV (some (dN parts)) [none,some 8] (zr 0) zX YC _).map _) _))))=_
  rw[c3]
  show fnO uS (some [.tup (zG near),.lst (dN kept),.lst (dN (parts.map λp=>(kept.map λs=>parts.getD s 0).idxOf p))])=_
  rw[vO,ac];rfl]
 rw[Jd,yv]
 rw[show L5 [S.v (.int (A:Int)),.v R,.v (gB rows.length g),.v (.lst (dN o)),.v (pK o),.v (.tup (zG near)),.v (.lst ((o.map g).map D.bl)),.v (.lst (dN parts)),.v (pQ (kept.map λs=>parts.getD s 0)),.v (.lst (dN kept)),y10,y11,.un] 12 (S.v (.tup (zG (kept.map λs=>(near.getD s []).map (Hop.vP (λs=>parts.getD s 0) kept)))))=[.v (.int (A:Int)),.v R,.v (gB rows.length g),.v (.lst (dN o)),.v (pK o),.v (.tup (zG near)),.v (.lst ((o.map g).map D.bl)),.v (.lst (dN parts)),.v (pQ (kept.map λs=>parts.getD s 0)),.v (.lst (dN kept)),y10,y11,.v (.tup (zG (kept.map λs=>(near.getD s []).map (Hop.vP (λs=>parts.getD s 0) kept))))]from rfl]
 rw[XU,AL,xw,xw,xw,Wq,xw,XS,vT]
 show U1 (oR (dsO (w6 (some (.d (.int (A:Int)))) (w6 (some (.d (.tup (zG (kept.map λs=>(near.getD s []).map (Hop.vP (λs=>parts.getD s 0) kept)))))) (w6 (jF Zq (w6 ((xV (some (zP (dN kept))) [none,none,some 6] (yQ 2 (zA (zr 0) (zA (zr 1) yK))) YD Wz _).map (λds=>B.d (.lst ds))) (some []))) (some []))))))=_
 rw[c4,ai]
 rfl
def YH(ok:Hop.OkR A rows)(j:A<=3)(J:rows.length<=50000):
  ∃rows' g',wZ [.int (A:Int),.tup (zG rows),gB rows.length g]=some (zx A rows' g')/\Hop.Lst A rows g rows' g':=by
 have b:=Hop.vG ok rfl
 have ol:=Hop.Y9 b
 exact UC ok j J rfl rfl (nj ok.pos ok.lt ok.len (IA (Pw J j) (by decide))) (X5 b.lt (Ge (Ge ol J) (by decide)) (λs z=>by rw[ok.len s z];exact Ge j (by decide)) λs z x Z=>by
  have O:=b.lt s z
  obtain⟨a,U,e⟩:=GE.mp Z
  obtain⟨k,Y,ek⟩:=GE.mp z
  have:=b.cl k a (by rw[<-ok.len s O];exact U) (.inl Y)
  rw[Hop.yN Y,ek]at this
  rw[show Hop.dl rows a s=x from by show(rows.getD s []).getD a 0=x;rw[Hop.yN U];exact e]at this
  exact Jw this)
end
def dH{i lo hi:Int}:uR [.int i,.int lo,.int hi]=some (.bl (decide (lo<=i/\i<=hi))):=by
 refine zV rfl ?_
 simp[jV,zB]
 rw[Uc (k:=hi) (by simp)]
 simp
def Ct{ds:List D}{lo hi:Int}:vr [.tup ds,.int lo,.int hi]=some (.bl (decide (lo<=ds.length/\ds.length<=hi))):=by
 refine zV rfl ?_
 simp[JV,zB]
 rw[Uc (k:=hi) (by simp)]
 simp
def X7{α:Type}{xs:List α}:(v6 (xs.map λ_=>D.bl true)).map (λbs=>D.bl (bs.all id))=some (.bl true):=uZ _ λx j=>by
 obtain⟨_,_,rfl⟩:=FX.mp j;rfl
def dJ{l:List Nat}{n:Nat}(hn:0<n)(h:∀s∈l,s<n)(z:l.length<=16777216):cL [.tup (dN l),.int (n:Int)]=some (.bl true):=by
 have J:=xa (λ(_:Nat)=>D.bl true) (t:=zr 0) (cond:=zX) (el:=Qo) (Γ:=[.v (.tup (dN l)),.v (.int (n:Int))]) (ms:=[none,some 1]) (ds:=dN l) l (by simp) (by simpa using z) λk O=>by
  have j:k<l.length:=by simpa using O
  refine⟨[.v (.int (l[k]:Nat)),.v (.int (n:Int))],by simp[y8],rfl,?_⟩
  have:=h _ (GF j)
  simp[Qo,dH]
  omega
 refine zV rfl ?_
 simp[pI,zB,J,X7]
def p9(h:l.Pairwise (· < ·))(Y:l.length<=100000):kE [.tup (dN l)]=some (.bl true):=by
 have j:r1I ((l.length:Int)-1)=some (xk 0 (l.length-1)):=by
  by_cases z:l.length=0
  ·rw[z];rfl
  ·rw[show((l.length:Int)-1)=((l.length-1:Nat):Int) by omega]
   exact vU (by omega)
 have J:=xa (λ(_:Nat)=>D.bl true) (t:=zr 0) (cond:=zX) (el:=Qp) (Γ:=[.v (.tup (dN l))]) (ms:=[none,some 0]) (ds:=xk 0 (l.length-1)) (Fy (l.length-1)) (by simp) (by simp;omega) λk O=>by
  have U:k<l.length-1:=by simpa using O
  refine⟨[.v (.int (k:Int)),.v (.tup (dN l))],by simp[y8],rfl,?_⟩
  have:=LV.mp h k (k+1) (by omega) (by omega) (by omega)
  simp[Qp,xD,Vb,show k<l.length by omega,show k+1<l.length by omega]
  omega
 refine zV rfl ?_
 simp[pJ,zB,j,J,X7]
section
variable {A:Nat} {rows:List (List Nat)} {g:Nat->Bool}
def Ba(ok:Hop.OkR A rows)(z:r∈rows):r.length=A/\∀s∈r,s<rows.length:=by
 obtain⟨s,j,e⟩:=GE.mp z
 have es:rows.getD s []=r:=by rw[FM,FU j];exact e
 refine⟨by rw[<-es];exact ok.len s j,λx J=>?_⟩
 obtain⟨a,O,ex⟩:=GE.mp J
 have U:=ok.len s j
 rw[es]at U
 have:=ok.lt a s (by omega) j
 rw[show Hop.dl rows a s=x from by show(rows.getD s []).getD a 0=x;rw[es,Hop.yN O];exact ex]at this
 exact this
def eS(ok:Hop.OkR A rows)(Y:1<=A)(Z:A<=3)(hz:rows.length<=2000):kF [zx A rows g]=some (.bl true):=by
 have j:=ok.pos
 have U:=xa (λ(_:List Nat)=>D.bl true) (t:=zr 0) (cond:=zX) (el:=Qq) (Γ:=[.v (zx A rows g),.v (.tup (zG rows))]) (ms:=[none,some 1,some 0]) (ds:=zG rows) rows (by simp) (by simp;omega) λk hk=>by
  have J:k<rows.length:=by simpa using hk
  obtain⟨q1,q2⟩:=Ba ok (GF J)
  refine⟨[.v (.tup (dN rows[k])),.v (.tup (zG rows)),.v (zx A rows g)],by simp[y8],rfl,?_⟩
  have z:=dJ (l:=rows[k]) j q2 (by omega)
  simp[Qq,z,zx,q1]
 have z:=dJ (l:=yo rows.length g) j (λs hs=>(vj.mp hs).1) (by have:=Jm (n:=rows.length) (g:=g);omega)
 have O:=p9 (l:=yo rows.length g) cY (by have:=Jm (n:=rows.length) (g:=g);omega)
 refine zV rfl ?_
 simp only[zx]at U
 have i1:(1:Int)<=A:=by omega
 have i2:(A:Int)<=3:=by omega
 have i3:(1:Int)<=rows.length:=by omega
 have i4:(rows.length:Int)<=2000:=by omega
 simp[pL,zB,Ct,dH,zx,U,X7,z,O,i1,i2,i3,i4]
def vW(ok:Hop.OkR A rows)(j:1<=A)(z:A<=3)(J:rows.length<=2000):vi [zx A rows g]=some (zx A rows g):=by
 refine zV rfl ?_
 simp[pM,zB,eS ok j z J]
end
section
variable {A:Nat} {rows:List (List Nat)} {g:Nat->Bool}
def Zg(hz:rows.length<=100000):vy [zx A rows g]=some (.lst ((Fy rows.length).map λ(s:Nat)=>D.bl (g s))):=by
 have hc:=xa (λ(_:List Nat)=>D.bl false) (t:=zr 0) (cond:=zX) (el:=gJ) (Γ:=[.v (zx A rows g),.un,.un]) (ms:=[none]) (ds:=zG rows) rows (by simp) (by simp;omega) λk U=>⟨[.v (zG rows)[k]],by simp[y8],rfl,rfl⟩
 have Z:∀s∈yo rows.length g,s<rows.length:=λs J=>(vj.mp J).1
 obtain⟨g1,h1,y2,Y⟩:=uo (t:=zr 2) (fb:=gK) (dN (yo rows.length g))
  (λk Γ=>∃y2,Γ=[.v (zx A rows g),.ol ((Fy rows.length).map λ(s:Nat)=>D.bl (decide (s∈(yo rows.length g).take k))),y2])
  [.v (zx A rows g),.ol (rows.map λ_=>D.bl false),.un] ⟨.un,by simp[OT]⟩ λk Γ h j=>by
   obtain⟨y2,e⟩:=j
   subst e
   have U:k<(yo rows.length g).length:=by simpa using h
   have J:=Z _ (GF U)
   have hx:ixN ((Fy rows.length).map λ(s:Nat)=>D.bl (decide (s∈(yo rows.length g).take k))).length (((yo rows.length g)[k]:Nat):Int)=some (yo rows.length g)[k]:=by
    unfold ixN
    rw[if_pos (by omega),if_pos (by simp;exact J)]
    simp
   refine⟨[.v (zx A rows g),.ol ((Fy rows.length).map λ(s:Nat)=>D.bl (decide (s∈(yo rows.length g).take k))),.v (.int ((yo rows.length g)[k]:Nat))],[.v (zx A rows g),.ol (((Fy rows.length).map λ(s:Nat)=>D.bl (decide (s∈(yo rows.length g).take k))).set (yo rows.length g)[k] (.bl true)),.v (.int ((yo rows.length g)[k]:Nat))],?_,?_,.v (.int ((yo rows.length g)[k]:Nat)),?_⟩
   ·simp
   ·exact A9 rfl rfl rfl hx
   ·have e:((Fy rows.length).map λ(s:Nat)=>D.bl (decide (s∈(yo rows.length g).take k))).set (yo rows.length g)[k] (.bl true)=(Fy rows.length).map λ(s:Nat)=>D.bl (decide (s∈(yo rows.length g).take (k+1))):=by
     refine IG (by simp) λi a b=>?_
     rw[List.getElem_set]
     by_cases e:(yo rows.length g)[k]=i
     ·rw[if_pos e]
      subst e
      have hm:(yo rows.length g)[k]∈(yo rows.length g).take (k+1):=by
       rw[Kt U];exact GV _ (Gf.mpr rfl)
      simp[hm]
     ·rw[if_neg e]
      simp only[Hr,Kv,Kt U,Gk,Gf]
      simp[show ¬i=(yo rows.length g)[k]from λz=>e z.symm]
    rw[e]
 rw[show(dN (yo rows.length g)).length=(yo rows.length g).length from by simp,HY]at Y
 refine zV rfl ?_
 simp only[zx]at hc h1 Y
 have e:((Fy rows.length).map λ(s:Nat)=>D.bl (decide (s∈yo rows.length g)))=(Fy rows.length).map λ(s:Nat)=>D.bl (g s):=by
  refine G5 λs J=>?_
  have aa:=Gh.mp J
  congr 1
  cases O:g s with
  | true=>simp[vj,aa,O]
  | false=>simp[vj,O]
 rw[e]at Y
 simp[pN,zB,zx,hc,h1,Y,YW]
def YI(ok:Hop.OkR A rows)(z:1<=A)(j:A<=3)(J:rows.length<=2000):∃rows' g',va [zx A rows g]=some (zx A rows' g')/\Hop.Lst A rows g rows' g':=by
 obtain⟨rows',g',h,L⟩:=YH (g:=g) ok j (by omega)
 refine⟨rows',g',zV rfl ?_,L⟩
 have h1:=vW (g:=g) ok z j J
 have h2:=Zg (A:=A) (rows:=rows) (g:=g) (by omega)
 simp only[zx]at h1 h2
 simp[kG,zB,zx,h1,h2]
 rw[h]
 simp[zx]
end
def ZT{A:Nat}{rows:List (List Nat)}{g:Nat->Bool}(ok:Hop.OkR A rows)(z:A<=3)(Y:rows.length<=50000):
  ∃rows' g',wZ [.int (A:Int),.lst (zG rows),.lst ((Fy rows.length).map λ(s:Nat)=>D.bl (g s))]=some (zx A rows' g')/\Hop.Lst A rows g rows' g':=by
 have b:=Hop.vG ok rfl
 have ol:=Hop.Y9 b
 exact UC ok z Y rfl rfl (UA rfl ok.pos ok.lt ok.len (by omega)) (Xt rfl b.lt (by omega) (λs j=>by rw[ok.len s j];omega) λs j x Z=>by
  have J:=b.lt s j
  obtain⟨a,O,e⟩:=GE.mp Z
  obtain⟨k,U,ek⟩:=GE.mp j
  have:=b.cl k a (by rw[<-ok.len s J];exact O) (.inl U)
  rw[Hop.yN U,ek]at this
  rw[show Hop.dl rows a s=x from by show(rows.getD s []).getD a 0=x;rw[Hop.yN O];exact e]at this
  exact Jw this)
end Py
namespace Py
open PySem L2 DD Pu
open Hop (walk yr Canon dl OkR Lst)
section
variable {L:Nat} {rooms:List (List (Mv Fp))}
def nt(h:OkM L rooms)(Y:∀x∈w,x<L):Uv [zM L rooms,ye rooms w]=some (.str (yG L rooms w)):=by
 have hf:=u5 (yt rooms) zW w L
 have j:=dB h Y
 have hs:=YG h Y (c:=(0,0)) h.r1
 have Z:=Xj h (c:=L+1) (by omega)
 have J:ye rooms w=.tup (yn (yh rooms w (0,0))::((Fy rooms.length).map λr=>yh rooms w (r,w.length)).map yn):=by simp[ye,yY]
 refine zV rfl ?_
 unfold yh at j
 cases z:yh rooms w (0,0)with
 | fin s=>
  have O:=z
  unfold yh at O
  rw[hf,O]at j
  injection j with j
  rw[J,z,<-j]
  simp[J0,zB,yn]
 | out b=>
  rw[z]at hs
  have O:=z
  unfold yh at O
  rw[hf,O]at j
  have hk:=rh h Y (FA L) hs
  unfold yh at hk
  simp only at j
  rw[j]at hk
  have U:ZF [zM L rooms,.int ((L:Int)+1)]=some (.lst ((xM rooms (L+1)).map yu)):=by
   rw[<-Z];rfl
  have e0:(x2 mIx (zc 1) (xC (.int 0))) [.v (zM L rooms),.v (ye rooms w)]=some (.d (.int (b:Int))):=by
   rw[J,z];simp[yn]
  have e1:(x2 yI (x2 mIx (zc 0) (xC (.int 0))) (xC (.int 1))) [.v (zM L rooms),.v (ye rooms w)]=some (.d (.int ((L:Int)+1))):=by
   simp
  have aa:(sIf (xT (zN vw (za (x2 mIx (zc 1) (xC (.int 0))) (za (xTy .str) zf)))) (zO (x2 mIx (zc 1) (xC (.int 0)))) yj) [.v (zM L rooms),.v (ye rooms w)]=some (.nx [.v (zM L rooms),.v (ye rooms w)]):=by
   rw[Ci,AI,Wq,xw,e0];simp
  have eR:(xFn Vj (za (x2 mIx (zc 1) (xC (.int 0))) (za (xFn ZF (za (zc 0) (za (x2 yI (x2 mIx (zc 0) (xC (.int 0))) (xC (.int 1))) zf))) (za (zc 1) zf)))) [.v (zM L rooms),.v (ye rooms w)]=some (.d (.str (yG L rooms w))):=by
   simp only[Y3,xw,e0,e1,V9]
   rw[show(zc 0 [S.v (zM L rooms),.v (ye rooms w)])=some (.d (zM L rooms))from rfl,show(zc 1 [S.v (zM L rooms),.v (ye rooms w)])=some (.d (ye rooms w))from rfl]
   simp only[Ua,oS,AK,sG,HK,vO,U,hk,kR]
  have ab:zB 2 [zM L rooms,ye rooms w]=[.v (zM L rooms),.v (ye rooms w)]:=rfl
  rw[ab]
  unfold J0
  rw[yz,aa,yv,XU,eR,mD]
def gT:F8 (toP (.str a)) (toP (.str b))=(a==b):=by simp[toP,F8]
def Jz(h:OkM L rooms)(j:Hn f=true)(z:Hn (yG L rooms w)=true):mEq false (.d (.str (yG L rooms w))) (.d (.str f))=some (.bl (yG L rooms w==f)):=by
 rw[JS (n:=1) (OkD.str z) (OkD.str j),gT];rfl
def eT(h:OkM L rooms)(hN:N<=50000)(few:∀ws k a,Bfs (zJ rooms) L ws k a->ws.length<=N)(hf:f=wc\/f=xy\/f=zW)(Y:∀w,(∀x∈w,x<L)->w.length<=N->Hn (yG L rooms w)=true):
  ∃rows g,Qr [zM L rooms,.str f]=some (zx L rows g)/\Tells L (λw=>yG L rooms w==f) rows g/\rows.length<=N:=by
 obtain⟨ws,hx,B⟩:=kX h (by omega) few
 have ad:=few _ _ _ B
 have ok:=pY B
 have z:Hn f=true:=by
  rcases hf with rfl|rfl|rfl
  ·exact YE
  ·exact YF
  ·exact ZS
 have J:∀u v a,a<L->(∀x∈u,x<L)->(∀x∈v,x<L)->zJ rooms u=zJ rooms v->zJ rooms (u++[a])=zJ rooms (v++[a]):=λu v a ha U hv e=>by
  have:=Jp h U ha (Xk e)
  unfold zJ;rw[this]
 obtain⟨rows,g,hl,Ls⟩:=ZT (g:=λi=>yG L rooms (ws.getD i [])==f) ok h.l3 (by rw[vV];omega)
 have tl:=Xl (P:=λw=>yG L rooms w==f) Ls λw hw=>by
  obtain⟨u,U,e⟩:=Uz B J w.length w rfl hw
  show(yG L rooms (ws.getD _ [])==f)=_
  rw[FM,U,Hz,Jq h (B.good u (Gj U)) hw (Xk e)]
 refine⟨rows,g,zV rfl ?_,tl,by have:=Ls.le;rw[vV]at this;omega⟩
 have hc:xV (some (ws.map (vA rooms))) [none,some 0,some 1] (zr 0) zX WA [.v (zM L rooms),.v (.str f),.v (.tup [.lst (ws.map (vA rooms)),.lst ((xY (zJ rooms) L ws).map λr=>D.tup (dI r))]),.un]=some ((Fy (xY (zJ rooms) L ws).length).map λ(s:Nat)=>D.bl (yG L rooms (ws.getD s [])==f)):=by
  refine xa (λ(s:Nat)=>D.bl (yG L rooms (ws.getD s [])==f)) (Fy (xY (zJ rooms) L ws).length) (by simp[vV]) (by simp;omega) λk hk=>?_
  have j:k<ws.length:=by simpa using hk
  have hg:=B.good _ (GF j)
  have ae:=Qz B k k ws[k] (FA _) (FU j)
  have Z:=nt h hg
  have aa:=Jz (L:=L) (rooms:=rooms) (w:=ws[k]) h z (Y _ hg (by omega))
  refine⟨[.v (vA rooms ws[k]),.v (zM L rooms),.v (.str f)],by simp[y8],rfl,?_⟩
  have O:ws.getD k []=ws[k]:=by rw[FM,FU j];rfl
  rw[Kv,O]
  have e1:(x2 mIx (zc 0) (xC (.int 1))) [.v (vA rooms ws[k]),.v (zM L rooms),.v (.str f)]=some (.d (ye rooms ws[k])):=by simp[vA]
  unfold WA
  rw[Zz,Y3,xw,xw,e1]
  show ap2 (mEq false) ((Uv [zM L rooms,ye rooms ws[k]]).map DD.B.d) (some (.d (.str f)))=_
  rw[Z]
  show ap2 (mEq false) (some (.d (.str (yG L rooms ws[k])))) (some (.d (.str f)))=_
  rw[wG,aa];rfl
 have ab:mIn true (.d (.str f)) (.c [.str "yes",.str "no",.str "round"])=some (.bl false):=by
  rw[jI (n:=1) (OkD.str z) rfl (by
   intro d hd
   simp only[FL,IX,or_false]at hd
   rcases hd with rfl|rfl|rfl
   ·exact OkD.str YE
   ·exact OkD.str YF
   ·exact OkD.str ZS)]
  have e:([D.str "yes",.str "no",.str "round"].any λd=>F8 (toP d) (toP (.str f)))=true:=by
   simp only[HW,List.any_nil,gT]
   rcases hf with rfl|rfl|rfl <;>decide
  simp only[e]
  rfl
 have ac:=m4 h
 unfold pO
 show zt _ _ [.v (zM L rooms),.v (.str f),.un,.un]=_
 rw[yz]
 rw[show(YV (xFn Uu (za (zc 0) zf))) [.v (zM L rooms),.v (.str f),.un,.un]=some (.nx [.v (zM L rooms),.v (.str f),.un,.un])from by simp[ac],yv,yz]
 rw[show(sIf (xOr (wX (xT (zN vw (za (zc 1) (za (xTy .str) zf))))) (xT (x2 (mIn true) (zc 1) (xG [(.str "yes"),(.str "no"),(.str "round")])))) sNo yj) [.v (zM L rooms),.v (.str f),.un,.un]=some (.nx [.v (zM L rooms),.v (.str f),.un,.un])from by simp[ab],yv,yz]
 rw[show(yf 2 (xFn cK (za (zc 0) zf))) [.v (zM L rooms),.v (.str f),.un,.un]=some (.nx [.v (zM L rooms),.v (.str f),.v (.tup [.lst (ws.map (vA rooms)),.lst ((xY (zJ rooms) L ws).map λr=>D.tup (dI r))]),.un])from by simp[hx],yv,yz]
 rw[show(yf 3 (xL (yE (wx (x2 mIx (zc 2) (xC (.int 0)))) [none,some 0,some 1] (zr 0) zX WA))) [.v (zM L rooms),.v (.str f),.v (.tup [.lst (ws.map (vA rooms)),.lst ((xY (zJ rooms) L ws).map λr=>D.tup (dI r))]),.un]=some (.nx [.v (zM L rooms),.v (.str f),.v (.tup [.lst (ws.map (vA rooms)),.lst ((xY (zJ rooms) L ws).map λr=>D.tup (dI r))]),.v (.lst ((Fy (xY (zJ rooms) L ws).length).map λ(s:Nat)=>D.bl (yG L rooms (ws.getD s [])==f)))])from by
  rw[ZA,XS,vT]
  show U2 3 ((xV (some (ws.map (vA rooms))) _ _ _ _ _).map _) _=_
  rw[hc];rfl,yv]
 rw[XU,Y3]
 show U1 (fnO wZ (some [.int (L:Int),.lst ((xY (zJ rooms) L ws).map λr=>D.tup (dI r)),.lst ((Fy (xY (zJ rooms) L ws).length).map λ(s:Nat)=>D.bl (yG L rooms (ws.getD s [])==f))]))=_
 rw[vO,hl]
 rfl
end
end Py
namespace Py
open PySem L2 DD Pu
end Py
namespace Py
open PySem L2 DD Pu
open Hop (walk yr Canon dl OkR Lst)
section
variable {A:Nat} {rows:List (List Nat)} {g:Nat->Bool}
def lf(ok:OkR A rows)(z:1<=A)(j:A<=3)(J:rows.length<=2000):∃rows' g',Qs [zx A rows g]=some (zx A rows' g')/\Lst A rows (λs=>!g s) rows' g':=by
 obtain⟨rows',g',h,O⟩:=YH (g:=λs=>!g s) ok j (by omega)
 refine⟨rows',g',zV rfl ?_,O⟩
 have h1:=vW (g:=g) ok z j J
 have h2:=Zg (A:=A) (rows:=rows) (g:=g) (by omega)
 have U:xV (some ((Fy rows.length).map λ(s:Nat)=>D.bl (g s))) [none] (zr 0) zX WB [.v (zx A rows g)]=some ((Fy rows.length).map λ(s:Nat)=>D.bl (!g s)):=by
  refine xa (λ(s:Nat)=>D.bl (!g s)) (Fy rows.length) (by simp) (by simp;omega) λk Y=>?_
  have Z:k<rows.length:=by simpa using Y
  refine⟨[.v (.bl (g k))],by simp[y8],rfl,?_⟩
  simp[WB]
 unfold pP
 show zt _ _ [.v (zx A rows g)]=_
 rw[yz,show(YV (xFn vi (za (zc 0) zf))) [.v (zx A rows g)]=some (.nx [.v (zx A rows g)])from by simp[h1],yv,XU,Y3]
 simp only[xw,XS,vT,mC,Y3,V9]
 rw[show(zc 0 [S.v (zx A rows g)])=some (.d (zx A rows g))from rfl]
 rw[show dsO (w6 (some (B.d (zx A rows g))) (some []))=some [zx A rows g]from rfl,vO,h2]
 show U1 (fnO wZ (dsO (w6 (some (.d (.int (A:Int)))) (w6 (some (.d (.tup (zG rows)))) (w6 ((xV (some ((Fy rows.length).map λ(s:Nat)=>D.bl (g s))) [none] (zr 0) zX WB [.v (zx A rows g)]).map _) _)))))=_
 rw[U]
 show U1 (fnO wZ (some [.int (A:Int),.tup (zG rows),.lst ((Fy rows.length).map λ(s:Nat)=>D.bl (!g s))]))=_
 rw[vO,h]
 rfl
end
section
variable {A:Nat} {r1 r2:List (List Nat)} {g1 g2:Nat->Bool}
theorem Yb{α:Type}(f:α->Bool):∀l:List α,Pt.yp (l.map λs=>D.bl (f s))=some (l.map f)
 | []=>rfl
 | a::r=>by
  rw[FY]
  unfold Pt.yp
  rw[Yb f r];rfl
def Bb(wt:List (Bool×Bool))(ok1:OkR A r1)(ok2:OkR A r2)(hA1:1<=A)(hA3:A<=3)(hz1:r1.length<=2000)(hz2:r2.length<=2000){M:Nat}(hM:M<=50000) 
  (few:∀q1 q2 h1 h2,Lst A r1 g1 q1 h1->Lst A r2 g2 q2 h2->q1.length*q2.length<2^22/\(Hop.zZ q1 q2).length<=M) :
  ∃rows g,Pq.wP wt vi va vy wZ [zx A r1 g1,zx A r2 g2]=some (zx A rows g)/\Tells A (λw=>wt.any λq=>q==(g1 (walk (dl r1) 0 w),g2 (walk (dl r2) 0 w))) rows g/\rows.length<=M:=by
 obtain⟨q1,h1,e1,L1⟩:=YI (g:=g1) ok1 hA1 hA3 hz1
 obtain⟨q2,h2,e2,L2⟩:=YI (g:=g2) ok2 hA1 hA3 hz2
 obtain⟨f1,f2⟩:=few q1 q2 h1 h2 L1 L2
 have le1:=L1.le
 have le2:=L2.le
 have m1:=Zg (A:=A) (rows:=q1) (g:=h1) (by omega)
 have m2:=Zg (A:=A) (rows:=q2) (g:=h2) (by omega)
 have J:Pq.JOk vi va vy (zx A r1 g1) (zx A r2 g2) ⟨q1,(Fy q1.length).map h1,q2,(Fy q2.length).map h2,wt⟩ A :=
  ⟨⟨_,_,_,_,zG q1,zG q2,_,_,_,_,rfl,rfl,vW ok1 hA1 hA3 hz1,vW ok2 hA1 hA3 hz2,e1,e2,wM q1,wM q2,m1,m2,Yb h1 _,Yb h2 _⟩,L1.ok,L2.ok,by simp,by simp,f1,by omega⟩
 have nk:=Hop.ZD L1.ok L2.ok
 rw[Pq.cI rfl J]
 obtain⟨rows,g,hl,Ls⟩:=ZT (g:=λi=>Pq.xn ⟨q1,(Fy q1.length).map h1,q2,(Fy q2.length).map h2,wt⟩ ((Hop.zZ q1 q2).getD i 0/q2.length) ((Hop.zZ q1 q2).getD i 0%q2.length)) nk.1 hA3 (by rw[nk.2];omega)
 have em:Pq.ua ⟨q1,(Fy q1.length).map h1,q2,(Fy q2.length).map h2,wt⟩=(Fy (Hop.yR q1 q2).length).map λ(i:Nat)=>D.bl (Pq.xn ⟨q1,(Fy q1.length).map h1,q2,(Fy q2.length).map h2,wt⟩ ((Hop.zZ q1 q2).getD i 0/q2.length) ((Hop.zZ q1 q2).getD i 0%q2.length)):=by
  rw[nk.2]
  unfold Pq.ua
  rw[Hq]
  refine IG (by simp) λi a b=>?_
  have hi:i<(Hop.zZ q1 q2).length:=by simpa using a
  simp only[Hr,Kv,Ps]
  rw[Hop.yN hi]
 refine⟨rows,g,?_,?_,by have:=Ls.le;rw[nk.2]at this;omega⟩
 ·show wZ [.int (A:Int),.lst (Pq.xK (Hop.yR q1 q2)),.lst (Pq.ua _)]=_
  rw[em]
  exact hl
 ·refine Xl Ls λw hw=>?_
  have:=Hop.Xb L1.ok L2.ok (λs t=>Pq.xn ⟨q1,(Fy q1.length).map h1,q2,(Fy q2.length).map h2,wt⟩ s t) w hw
  refine Nl this ?_
  have lt1:=Hop.xX L1.ok.lt w 0 hw L1.ok.pos
  have lt2:=Hop.xX L2.ok.lt w 0 hw L2.ok.pos
  have b1:((Fy q1.length).map h1).getD (walk (dl q1) 0 w) false=g1 (walk (dl r1) 0 w):=by
   rw[FM,FP,Hv lt1]
   exact L1.al w hw
  have b2:((Fy q2.length).map h2).getD (walk (dl q2) 0 w) false=g2 (walk (dl r2) 0 w):=by
   rw[FM,FP,Hv lt2]
   exact L2.al w hw
  show(wt.any λq=>q==(((Fy q1.length).map h1).getD (walk (dl q1) 0 w) false,((Fy q2.length).map h2).getD (walk (dl q2) 0 w) false))=_
  rw[b1,b2]
end
end Py
namespace Py
open PySem L2 DD Pu
open Hop (walk yr Canon dl OkR Lst First Ws)
section
variable {A:Nat}
abbrev DZ(J B j b:Nat):Prop:=j<J\/(j=J/\b<B)
structure WI (near:List (List Nat)) (A J B:Nat) (kvs:List (Key×D)):Prop where
 no:∀g:Nat,yg kvs (Sum.inl (g:Int))=none->∀j b:Nat,b<A->DZ J B j b->dl near b j≠g
 yes:∀(g:Nat) (v:D),yg kvs (Sum.inl (g:Int))=some v->∃j b:Nat,v=.tup [.int (j:Int),.int (b:Int)]/\b<A/\dl near b j=g/\∀j' b':Nat,b'<A->(j'<j\/(j'=j/\b'<b))->dl near b' j'≠g
 len:kvs.length<=J*A+B
def JA{κ:Type} [DecidableEq κ] {kvs:List (κ×D)} {k:κ} {v:D} (h:yg kvs k=none) (j:κ):yg (wk kvs k v) j=if j=k then some v else yg kvs j:=by
 have hn:∀p∈kvs,p.1≠k:=λp J e=>by
  unfold yg at h
  rw[Nj,L4]at h
  exact h p J (by simpa using e)
 rw[cW hn]
 unfold yg
 rw[List.find?_append]
 by_cases e:j=k
 ·subst e
  have:kvs.find? (λO=>decide (O.1=j))=none:=L4.mpr λp J=>by simpa using hn p J
  simp[this]
 ·have U:¬k=j:=λz=>e z.symm
  simp[e,U]
def qa{κ:Type} [DecidableEq κ] {kvs:List (κ×D)} {k:κ} {v:D} (h:yg kvs k=none):(wk kvs k v).length=kvs.length+1:=by
 have hn:∀p∈kvs,p.1≠k:=λp j e=>by
  unfold yg at h
  rw[Nj,L4]at h
  exact h p j (by simpa using e)
 rw[cW hn];simp
def WI.step{near:List (List Nat)}{J B:Nat}{kvs:List (Key×D)}(w:WI near A J B kvs)(hB:B<A):WI near A J (B+1) (if(yg kvs (Sum.inl ((dl near B J:Nat):Int))).isSome=true then kvs else wk kvs (Sum.inl ((dl near B J:Nat):Int)) (.tup [.int (J:Int),.int (B:Int)])):=by
 cases Y:yg kvs (Sum.inl ((dl near B J:Nat):Int))with
 | some v=>
  rw[if_pos (show(some v).isSome=true from rfl)]
  refine⟨λg O j b Z hs z=>?_,w.yes,by have:=w.len;omega⟩
  by_cases e:j=J/\b=B
  ·obtain⟨rfl,rfl⟩:=e
   rw[z]at Y;rw[O]at Y;cases Y
  ·exact w.no g O j b Z (by omega) z
 | none=>
  rw[if_neg (by simp)]
  refine⟨λg O j b Z hs z=>?_,λg v O=>?_,by rw[qa Y];have:=w.len;omega⟩
  ·rw[JA Y]at O
   by_cases U:(Sum.inl (g:Int):Key)=Sum.inl ((dl near B J:Nat):Int)
   ·rw[if_pos U]at O;cases O
   ·rw[if_neg U]at O
    by_cases e:j=J/\b=B
    ·obtain⟨rfl,rfl⟩:=e
     exact U (by rw[z])
    ·exact w.no g O j b Z (by omega) z
  ·rw[JA Y]at O
   by_cases U:(Sum.inl (g:Int):Key)=Sum.inl ((dl near B J:Nat):Int)
   ·rw[if_pos U]at O
    cases O
    have e2:g=dl near B J:=by injection U with U;omega
    subst e2
    exact⟨J,B,rfl,hB,rfl,λj' b' aa hl z=>w.no _ Y j' b' aa hl z⟩
   ·rw[if_neg U]at O
    exact w.yes g v O
def WI.next(w:WI near A J A kvs):WI near A (J+1) 0 kvs :=
 ⟨λg O j b U Y z=>w.no g O j b U (by omega) z,w.yes,by have:=w.len;rw[M7];omega⟩
def WI.start:WI near A 0 0 []:=⟨λg z j b J O=>by omega,λg v z=>(by cases z),by simp⟩
def Bc{near:List (List Nat)}{J:Nat}{a0 a1:S}{y5 y6:S}{x7 x8:S}{kvs:List (Key×D)}{row:List Nat}(hrow:row=near.getD J [])(hl:row.length=A)(hz:(J+1)*A<1000000)(w:WI near A J 0 kvs):
  ∃kvs' z5 z6,x0 (yQ 2 (zA (zr 5) (zA (zr 6) yK))) WC (zP (dN row)) [a0,a1,.ok kvs,.v (.int (J:Int)),.v (.tup (dN row)),y5,y6,x7,x8]=some (.nx [a0,a1,.ok kvs',.v (.int (J:Int)),.v (.tup (dN row)),z5,z6,x7,x8])/\WI near A J A kvs':=by
 obtain⟨G1,h1,kvs',z5,z6,hg,hw⟩:=uo (t:=yQ 2 (zA (zr 5) (zA (zr 6) yK))) (fb:=WC) (zP (dN row))
  (λb Γ=>∃kvs' z5 z6,Γ=[a0,a1,.ok kvs',.v (.int (J:Int)),.v (.tup (dN row)),z5,z6,x7,x8]/\WI near A J b kvs')
  [a0,a1,.ok kvs,.v (.int (J:Int)),.v (.tup (dN row)),y5,y6,x7,x8] ⟨kvs,y5,y6,rfl,w⟩ (by
   rintro b Γ hb ⟨kvs1,z5,z6,rfl,w1⟩
   have hb':b<A:=by
    have:=hb
    rw[uI,FF,hl]at this
    exact this
   have hbr:b<row.length:=by omega
   have eg:dl near b J=row[b]:=by
    show(near.getD J []).getD b 0=_
    rw[<-hrow,Hop.yN hbr]
   have w2:=w1.step hb'
   rw[eg]at w2
   refine⟨[a0,a1,.ok kvs1,.v (.int (J:Int)),.v (.tup (dN row)),.v (.int (b:Int)),.v (.int ((row[b]:Nat):Int)),x7,x8],[a0,a1,.ok (if(yg kvs1 (Sum.inl ((row[b]:Nat):Int))).isSome=true then kvs1 else wk kvs1 (Sum.inl ((row[b]:Nat):Int)) (.tup [.int (J:Int),.int (b:Int)])),.v (.int (J:Int)),.v (.tup (dN row)),.v (.int (b:Int)),.v (.int ((row[b]:Nat):Int)),x7,x8],?_,?_,_,_,_,rfl,w2⟩
   ·rw[show(zP (dN row))[b]'hb=.tup [.int (b:Int),.int ((row[b]:Nat):Int)]from by simp[zP,FM,hbr]]
    rfl
   ·have hlen:=w1.len
    have hsz:kvs1.length<Fv:=by
     rw[szv]
     rw[M7]at hz
     omega
    generalize row[b]=gg
    unfold WC
    have h1:Z4 true (.d (.int (gg:Int))) (.k kvs1)=some (.bl (!(yg kvs1 (Sum.inl (gg:Int))).isSome)):=rfl
    cases hv:yg kvs1 (Sum.inl (gg:Int))with
    | some v=>
     rw[hv]at h1
     simp[h1]
    | none=>
     rw[hv]at h1
     have hp:XJ (.ok kvs1) (.int (gg:Int)) (.tup [.int (J:Int),.int (b:Int)])=some (.ok (wk kvs1 (Sum.inl (gg:Int)) (.tup [.int (J:Int),.int (b:Int)]))):=if_pos hsz
     simp[h1,hp])
 rw[uI,FF,hl]at hw
 exact⟨kvs',z5,z6,by rw[h1,hg],hw⟩
def nv{near:List (List Nat)}{g j b:Nat}{i:Nat}{kvs:List (Key×D)}(w:WI (near.take i) A i 0 kvs)(hi:i<=near.length)(F:First near A g j b)(U:j<i):yg kvs (Sum.inl (g:Int))=some (.tup [.int (j:Int),.int (b:Int)]):=by
 have ed:∀O J,J<i->dl (near.take i) O J=dl near O J:=λO J h=>by
  have e:(near.take i).getD J []=near.getD J []:=by rw[FM,Lp h,<-FM]
  show((near.take i).getD J []).getD O 0=(near.getD J []).getD O 0
  rw[e]
 cases hv:yg kvs (Sum.inl (g:Int))with
 | none=>exact absurd ((ed b j U).trans F.is) (w.no g hv j b F.lb (.inl U))
 | some v=>
  obtain⟨J,O,rfl,Y,e,hf⟩:=w.yes g v hv
  have n1:¬(j<J\/(j=J/\b<O)):=λz=>hf j b F.lb z ((ed b j U).trans F.is)
  by_cases Z:J<i
  ·have n2:¬(J<j\/(J=j/\O<b)):=λz=>by
    have h2:=F.fst J O Y z
    rw[<-ed O J Z,e]at h2
    omega
   have e1:J=j:=by omega
   have e2:O=b:=by omega
   rw[e1,e2]
  ·omega
def WW{near:List (List Nat)}{ws:List (List Nat)}{i m:Nat}{rd:D}{w:List Nat}(ac:rd=.lst (Pq.xK (near.take m))\/rd=.tup (Pq.xK (near.take m)))(an:i<=m)(ad:m<=near.length)(ok:OkR A near)(W:Ws near A ws)(ae:A<=3)(hz:near.length<=50000)(hi:i<near.length)(hw:ws[i]?=some w):Z9 [.int (i:Int),rd]=some (.tup (dN w)):=by
 obtain⟨G1,h1,kvs,U,Y,y5,y6,hg,hW⟩:=uo (t:=yQ 2 (zA (zr 3) (zA (zr 4) yK))) (fb:=Qt) (zP (Pq.xK (near.take m)))
  (λJ Γ=>∃kvs U Y y5 y6,Γ=[.v (.int (i:Int)),.v rd,.ok kvs,U,Y,y5,y6,.un,.un]/\WI (near.take m) A J 0 kvs)
  [.v (.int (i:Int)),.v rd,.ok [],.un,.un,.un,.un,.un,.un] ⟨[],.un,.un,.un,.un,rfl,WI.start⟩ (by
   rintro J Γ hJ ⟨kvs,U,Y,y5,y6,rfl,w0⟩
   have af:J<m:=by
    have:=hJ
    rw[uI,FF,HP]at this
    omega
   have aa:J<(near.take m).length:=by rw[HP];omega
   have ag:(near.take m).getD J []=near.getD J []:=by
    rw[FM,Lp af,<-FM]
   have ah:((near.take m).getD J []).length=A:=by rw[ag];exact ok.len J (by omega)
   have ai:(J+1)*A<1000000:=by
    have:(J+1)*A<=50000*3:=L3 (by omega) ae
    omega
   obtain⟨Z,z5,z6,e,w1⟩:=Bc (a0:=.v (.int (i:Int))) (a1:=.v rd) (y5:=y5) (y6:=y6) (x7:=.un) (x8:=.un) (row:=(near.take m).getD J []) rfl ah ai w0
   have aj:(zP (Pq.xK (near.take m)))[J]'hJ=.tup [.int (J:Int),.tup (dN ((near.take m).getD J []))]:=by
    have e1:(Pq.xK (near.take m)).getD J .non=.tup (dN ((near.take m).getD J [])):=by
     rw[FM,FP,FU aa,FM,FU aa];rfl
    simp only[zP,Hr,Kv,e1]
   refine⟨[.v (.int (i:Int)),.v rd,.ok kvs,.v (.int (J:Int)),.v (.tup (dN ((near.take m).getD J []))),y5,y6,.un,.un],[.v (.int (i:Int)),.v rd,.ok Z,.v (.int (J:Int)),.v (.tup (dN ((near.take m).getD J []))),z5,z6,.un,.un],by rw[aj];rfl,?_,Z,_,_,z5,z6,rfl,w1.next⟩
   unfold Qt
   rw[bI,Ck]
   exact e)
 have ak:(zP (Pq.xK (near.take m))).length=m:=by rw[uI,FF,HP];omega
 rw[ak]at hW
 have back:∀(k:Nat) (acc u:List Nat),k<=i->ws[k]?=some u->acc.length+k<=900000->∀O,k<O->∃z,xt Zf WD O [.v (.int (i:Int)),.v rd,.ok kvs,U,Y,y5,y6,.ol (dN acc),.v (.int (k:Int))]=some (.nx [.v (.int (i:Int)),.v rd,.ok kvs,U,Y,y5,y6,.ol (dN z),.v (.int 0)])/\z.reverse=u++acc.reverse:=by
  intro k
  induction k using Kr with
  | ind k ih=>
   intro acc u hk hu ao O hf
   cases O with
   | zero=>omega
   | succ O=>
    by_cases h0:k=0
    ·subst h0
     rw[W.one]at hu;cases hu
     refine⟨acc,?_,by simp⟩
     unfold xt
     have:Zf [.v (.int (i:Int)),.v rd,.ok kvs,U,Y,y5,y6,.ol (dN acc),.v (.int ((0:Nat):Int))]=some false:=by simp[Zf]
     rw[this];rfl
    ·obtain⟨j,b,u',q1,q2,q3,q4⟩:=W.by_ k (by omega) (by omega)
     rw[q4]at hu;cases hu
     have hv:=nv hW ad q2 (by omega)
     obtain⟨z,e,er⟩:=ih j q1 (acc++[b]) u' (by omega) q3 (by simp;omega) O (by omega)
     refine⟨z,?_,by rw[er];simp⟩
     unfold xt
     have ht:Zf [.v (.int (i:Int)),.v rd,.ok kvs,U,Y,y5,y6,.ol (dN acc),.v (.int (k:Int))]=some true:=by
      have:¬((k:Int)=0):=by omega
      simp[Zf,h0]
     rw[ht,FZ,if_pos rfl]
     have ab:v7 (.k kvs) (.d (.int (k:Int)))=some (.tup [.int (j:Int),.int (b:Int)]):=hv
     have hb:WD [.v (.int (i:Int)),.v rd,.ok kvs,U,Y,y5,y6,.ol (dN acc),.v (.int (k:Int))]=some (.nx [.v (.int (i:Int)),.v rd,.ok kvs,U,Y,y5,y6,.ol (dN (acc++[b])),.v (.int (j:Int))]):=by
      have cl:acc.length<16777216:=by omega
      simp[WD,ab,vx,cl]
     rw[hb]
     exact e
 have al:i<WF:=by unfold WF;omega
 obtain⟨z,e,er⟩:=back i [] w (FA _) hw (by simp;omega) WF al
 have am:z.reverse=w:=by simpa using er
 refine zV rfl ?_
 subst hg
 unfold pR
 show zt _ _ [.v (.int (i:Int)),.v rd,.un,.un,.un,.un,.un,.un,.un]=_
 rw[yz,show(VT 2) [.v (.int (i:Int)),.v rd,.un,.un,.un,.un,.un,.un,.un]=some (.nx [.v (.int (i:Int)),.v rd,.ok [],.un,.un,.un,.un,.un,.un])from rfl,yv,yz,bI]
 rw[show(jT (Z5 (za (zc 1) zf)) (xEn (za (zc 1) zf))) [.v (.int (i:Int)),.v rd,.ok [],.un,.un,.un,.un,.un,.un]=some (zP (Pq.xK (near.take m)))from by rcases ac with rfl|rfl <;>rfl]
 rw[XV,h1,yv,yz]
 show Wr (some (.nx [.v (.int (i:Int)),.v rd,.ok kvs,U,Y,y5,y6,.ol (dN []),.un])) _=_
 rw[yv,yz]
 show Wr (some (.nx [.v (.int (i:Int)),.v rd,.ok kvs,U,Y,y5,y6,.ol (dN []),.v (.int (i:Int))])) _=_
 rw[yv,yz,e,yv]
 show some (Out.rt (D.tup (dN z).reverse))=_
 rw[<-am,show dN z.reverse=(dN z).reverse from List.map_reverse]
def dM{near:List (List Nat)}{ws:List (List Nat)}{i:Nat}{w:List Nat}(ok:OkR A near)(W:Ws near A ws)(hA3:A<=3)(hz:near.length<=50000)(hi:i<near.length)(hw:ws[i]?=some w):Z9 [.int (i:Int),.lst (Pq.xK (near.take i))]=some (.tup (dN w)) :=
 WW (.inl rfl) (FA i) (G9 hi) ok W hA3 hz hi hw
end
def ZU(A:Nat)(P:List Nat->Bool):Option (List Nat)->Prop
 | none=>∀u,(∀x∈u,x<A)->P u=false
 | some w=>(∀x∈w,x<A)/\P w=true/\∀u,(∀x∈u,x<A)->P u=true->sle w u
def dO(h:sle u v)(h':sle v u):u=v:=by
 rcases h with h|h
 ·exact h
 ·rcases h' with h'|h'
  ·exact h'.symm
  ·exfalso
   rcases h with h|⟨h1,h2⟩ <;>rcases h' with h'|⟨z,j⟩
   ·omega
   ·omega
   ·omega
   ·rw[WS u v h2]at j;cases j
theorem ZU.one:∀{o o':Option (List Nat)},ZU A P o->ZU A P o'->o=o'
 | none,none,_,_=>rfl
 | none,some w,h,h'=>by have:=h w h'.1;rw[h'.2.1]at this;cases this
 | some w,none,h,h'=>by have:=h' w h.1;rw[h.2.1]at this;cases this
 | some w,some j,h,h'=>by rw[dO (h.2.2 j h'.1 h'.2.1) (h'.2.2 w h.1 h.2.1)]
def ZI:Option (List Nat)->D
 | none=>.non
 | some w=>.tup (dN w)
def dP{A:Nat}{κ:Type} [DecidableEq κ] {key:List Nat->κ} {ws:List (List Nat)} {P:List Nat->Bool} (B:Bfs key A ws ws.length 0) (z:∀u v a,a<A->(∀x∈u,x<A)->(∀x∈v,x<A)->key u=key v->key (u++[a])=key (v++[a])) (hP:∀u v,(∀x∈u,x<A)->(∀x∈v,x<A)->key u=key v->P u=P v) :
  (∀(i:Nat) (w:List Nat),ws[i]?=some w->P w=true->(∀(j:Nat) (u:List Nat),j<i->ws[j]?=some u->P u=false)->ZU A P (some w))/\((∀w∈ws,P w=false)->ZU A P none):=by
 refine⟨λi w Z hp hf=>⟨B.good w (Gj Z),hp,λu J aa=>?_⟩,λh u J=>?_⟩
 ·obtain⟨x,O,e,l⟩:=B.first z u.length u rfl J
  obtain⟨j,Y⟩:=IY.mp O
  have U:P x=true:=(hP x u (B.good x O) J e).trans aa
  by_cases ab:j<i
  ·rw[hf j x ab Y]at U;cases U
  ·by_cases e2:j=i
   ·subst e2;rw[Z]at Y;cases Y;exact l
   ·exact X1 (.inr (B.sorted i j w x (by omega) Z Y)) l
 ·obtain⟨x,O,e,_⟩:=B.first z u.length u rfl J
  rw[<-hP x u (B.good x O) J e];exact h x O
section
variable {A:Nat} {r1 r2:List (List Nat)} {g1 g2:Nat->Bool}
theorem ZJ{α:Type}(f:α->Bool):∀l:List α,Pt.yp (l.map λs=>D.bl (f s))=some (l.map f)
 | []=>rfl
 | a::r=>by
  rw[FY]
  unfold Pt.yp
  rw[ZJ f r];rfl
def tj(wt:List (Bool×Bool))(ae:OkR A r1)(af:OkR A r2)(aa:1<=A)(O:A<=3)(ag:r1.length<=2000)(ah:r2.length<=2000) 
  (few:∀q1 q2 h1 h2,Lst A r1 g1 q1 h1->Lst A r2 g2 q2 h2->q1.length*q2.length<2^22/\(Hop.zZ q1 q2).length<=50000) :
  ∃o,Pq.vH wt vi va vy Z9 [zx A r1 g1,zx A r2 g2]=some (ZI o)/\ZU A (λw=>wt.any λq=>q==(g1 (walk (dl r1) 0 w),g2 (walk (dl r2) 0 w))) o:=by
 obtain⟨q1,h1,e1,Y⟩:=YI (g:=g1) ae aa O ag
 obtain⟨q2,h2,e2,Z⟩:=YI (g:=g2) af aa O ah
 obtain⟨f1,f2⟩:=few q1 q2 h1 h2 Y Z
 have aw:=Y.le
 have ax:=Z.le
 have m1:=Zg (A:=A) (rows:=q1) (g:=h1) (by omega)
 have m2:=Zg (A:=A) (rows:=q2) (g:=h2) (by omega)
 obtain⟨p,hp⟩:∃p:Pq.Par,p=⟨q1,(Fy q1.length).map h1,q2,(Fy q2.length).map h2,wt⟩:=⟨_,rfl⟩
 have J:Pq.JOk vi va vy (zx A r1 g1) (zx A r2 g2) p A:=by
  subst hp
  exact⟨⟨_,_,_,_,zG q1,zG q2,_,_,_,_,rfl,rfl,vW ae aa O ag,vW af aa O ah,e1,e2,wM q1,wM q2,m1,m2,ZJ h1 _,ZJ h2 _⟩,Y.ok,Z.ok,by simp,by simp,f1,by omega⟩
 have nk:=Hop.ZD Y.ok Z.ok
 have ob:=Hop.Yx Y.ok Z.ok
 have met:Hop.Met A (Hop.yR q1 q2).length (dl (Hop.yR q1 q2)):=λk h0 hk=>by
  rw[nk.2]at hk
  obtain⟨j,a,w1,w2,w3,w4⟩:=Hop.Vd ob k h0 hk
  have dn:∀a' j',a'<A->j'<(Hop.zZ q1 q2).length->dl (Hop.yR q1 q2) a' j'=(Hop.zZ q1 q2).idxOf (dl (Hop.prR q1 q2) a' ((Hop.zZ q1 q2).getD j' 0)):=λa' j' ab am=>Hop.ur (Hop.uJ Y.ok Z.ok) ob Hop.ZR ab am
  exact⟨j,a,w1,w2,(dn a j w2 (by omega)).trans w3,λj' a' ab hl=>by rw[dn a' j' ab (by omega)];exact w4 j' a' ab hl⟩
 obtain⟨ws,W⟩:=Hop.jR nk.1.pos met
 have B:=W.bfs nk.1
 have z:∀w,(∀x∈w,x<A)->(Pq.wf p)[walk (dl (Hop.yR q1 q2)) 0 w]?=some (wt.any λq=>q==(g1 (walk (dl r1) 0 w),g2 (walk (dl r2) 0 w))):=λw hw=>by
  have ai:walk (dl (Hop.yR q1 q2)) 0 w<(Hop.zZ q1 q2).length:=by rw[<-nk.2];exact Hop.xX nk.1.lt w 0 hw nk.1.pos
  have:=Hop.Xb Y.ok Z.ok (λs t=>Pq.xn p s t) w hw
  subst hp
  show((Hop.zZ q1 q2).map _)[_]?=_
  rw[FP,FU ai,HK,<-Hop.yN ai]
  refine congrArg some (Nl this ?_)
  have an:=Hop.xX Y.ok.lt w 0 hw Y.ok.pos
  have ao:=Hop.xX Z.ok.lt w 0 hw Z.ok.pos
  have b1:((Fy q1.length).map h1).getD (walk (dl q1) 0 w) false=g1 (walk (dl r1) 0 w):=by
   rw[FM,FP,Hv an]
   exact Y.al w hw
  have b2:((Fy q2.length).map h2).getD (walk (dl q2) 0 w) false=g2 (walk (dl r2) 0 w):=by
   rw[FM,FP,Hv ao]
   exact Z.al w hw
  show(wt.any λq=>q==(((Fy q1.length).map h1).getD (walk (dl q1) 0 w) false,((Fy q2.length).map h2).getD (walk (dl q2) 0 w) false))=_
  rw[b1,b2]
 have lo:=dP (P:=λw=>wt.any λq=>q==(g1 (walk (dl r1) 0 w),g2 (walk (dl r2) 0 w))) B (λu v a _ _ _ e=>by rw[uL,uL,e]) (λu v hu hv e=>by
  have h1:=z u hu
  rw[e,z v hv]at h1
  exact(GG h1).symm)
 have ap:p.wt=wt:=by rw[hp]
 have aj:p.r1=q1:=by rw[hp]
 have ak:p.r2=q2:=by rw[hp]
 unfold Pq.vH
 rw[Pq.cI ap J]
 cases hf:(Pq.wf p).findIdx? id with
 | none=>
  refine⟨none,Pq.X3 hf,lo.2 λw hw=>?_⟩
  have hg:=B.good w hw
  have hm:=z w hg
  have:=No.mp hf _ (Gj hm)
  simpa using this
 | some i=>
  obtain⟨ad,aq,ar⟩:=Oq.mp hf
  have U:i<(Hop.yR q1 q2).length:=by rw[nk.2];rw[FF,aj,ak]at ad;exact ad
  have ac:ws[i]?=some (ws[i]'(by rw[W.len];exact U)):=FU _
  generalize ws[i]'(by rw[W.len];exact U)=w at ac
  have au:=dM nk.1 W O (by rw[nk.2];exact f2) U ac
  have mk:∀(j:Nat) (u:List Nat),ws[j]?=some u->(Pq.wf p)[j]?=some (wt.any λq=>q==(g1 (walk (dl r1) 0 u),g2 (walk (dl r2) 0 u))):=λj u hu=>by
   have:=z u (W.good j u hu)
   rwa [W.walk j u hu]at this
  refine⟨some w,?_,lo.1 i w ac ?_ λj u hj hu=>?_⟩
  ·rw[Pq.X2 hf,aj,ak];exact au
  ·have h3:=mk i w ac
   rw[FU ad]at h3
   rw[<-GG h3];exact aq
  ·have h3:=mk j u hu
   have av:j<(Pq.wf p).length:=by omega
   rw[FU av]at h3
   have h4:=ar j hj
   rw[<-GG h3]
   simpa using h4
end
end Py
namespace Hop
open Pu
section
variable {A:Nat} {r1 r2 rows:List (List Nat)} {g:Nat->Bool} {P:List Nat->Bool}
def tm(ok:OkR A rows)(J:Canon A rows.length (dl rows) g)(z:∀w,(∀x∈w,x<A)->g (walk (dl rows) 0 w)=P w)(O:∀x∈u,x<A)(U:∀x∈v,x<A)(e:∀x,(∀a∈x,a<A)->P (u++x)=P (v++x)):walk (dl rows) 0 u=walk (dl rows) 0 v:=by
 refine J.ap _ _ (xX ok.lt u 0 O ok.pos) (xX ok.lt v 0 U ok.pos) λx Y=>?_
 have Z:∀y:List Nat,walk (dl rows) (walk (dl rows) 0 y) x=walk (dl rows) 0 (y++x):=λy=>(IV ..).symm
 have j:∀{y:List Nat},(∀a∈y,a<A)->∀a∈y++x,a<A:=λhy a ha=>(Gk.mp ha).elim (hy a) (Y a)
 rw[Z,Z,z _ (j O),z _ (j U),e x Y]
def ny(J:OkR A r1)(O:OkR A r2):Met A (yR r1 r2).length (dl (yR r1 r2)):=λk h0 hk=>by
 have nk:=ZD J O
 have ob:=Yx J O
 rw[nk.2]at hk
 obtain⟨j,a,w1,w2,w3,w4⟩:=Vd ob k h0 hk
 have dn:∀U Y,U<A->Y<(zZ r1 r2).length->dl (yR r1 r2) U Y=(zZ r1 r2).idxOf (dl (prR r1 r2) U ((zZ r1 r2).getD Y 0)):=λU Y z Z=>ur (uJ J O) ob ZR z Z
 exact⟨j,a,w1,w2,(dn a j w2 (by omega)).trans w3,λY U z hl=>by rw[dn U Y z (by omega)];exact w4 Y U z hl⟩
def tq{κ:Type} [DecidableEq κ] (key:List Nat->κ) {al:List κ} (z:OkR A r1) (J:OkR A r2) (d1:∀u v,(∀x∈u,x<A)->(∀x∈v,x<A)->key u=key v->walk (dl r1) 0 u=walk (dl r1) 0 v) (d2:∀u v,(∀x∈u,x<A)->(∀x∈v,x<A)->key u=key v->walk (dl r2) 0 u=walk (dl r2) 0 v) (aa:∀u,(∀x∈u,x<A)->key u∈al):(zZ r1 r2).length<=al.length:=by
 have Z:=ZD z J
 have ob:=Yx z J
 obtain⟨ws,W⟩:=jR Z.1.pos (ny z J)
 have O:∀(i:Nat) (u:List Nat),ws[i]?=some u->(zZ r1 r2).getD i 0/r2.length=walk (dl r1) 0 u/\(zZ r1 r2).getD i 0%r2.length=walk (dl r2) 0 u:=λi u hu=>by
  have h:=Xb z J (λs t=>decide (s=walk (dl r1) 0 u/\t=walk (dl r2) 0 u)) u (W.good i u hu)
  rw[W.walk i u hu]at h
  simpa using h
 have nd:(ws.map key).Nodup:=by
  unfold List.Nodup
  rw[LV]
  intro i j hi hj ab e
  have U:i<ws.length:=by simpa using hi
  have Y:j<ws.length:=by simpa using hj
  rw[Hr,Hr]at e
  have qi:=FU U
  have qj:=FU Y
  have ei:=O i _ qi
  have ej:=O j _ qj
  have gi:=W.good i _ qi
  have gj:=W.good j _ qj
  have e1:=d1 _ _ gi gj e
  have e2:=d2 _ _ gi gj e
  have li:i<(zZ r1 r2).length:=by rw[<-Z.2,<-W.len];exact U
  have lj:j<(zZ r1 r2).length:=by rw[<-Z.2,<-W.len];exact Y
  have ee:(zZ r1 r2).getD i 0=(zZ r1 r2).getD j 0:=by
   rw[<-Px ((zZ r1 r2).getD i 0) r2.length,<-Px ((zZ r1 r2).getD j 0) r2.length,ei.1,ei.2,ej.1,ej.2,e1,e2]
  rw[yN li,yN lj]at ee
  exact LV.mp ob.nd i j li lj ab ee
 have:=Pu.yF _ al nd λx hx=>by
  obtain⟨u,hu,rfl⟩:=FX.mp hx
  obtain⟨i,hi⟩:=IY.mp hu
  exact aa u (W.good i u hi)
 rw[FF,W.len,Z.2]at this
 exact this
def nz:OkR A [F7 A 0]:=⟨by simp,λs j=>by
 have:s=0:=by simpa using j
 subst this;simp,λa s z j=>by
 have:s=0:=by simpa using j
 subst this
 show([F7 A 0].getD 0 []).getD a 0<1
 simp[FM,Lo,z]⟩
def tr(b:Bool):Canon A [F7 A 0].length (dl [F7 A 0]) λ_=>b:=⟨by simp,nz.lt,λs t j z _=>by
 have:s=0:=by simpa using j
 have:t=0:=by simpa using z
 omega,λk O J=>by simp at J;omega⟩
end
end Hop
namespace Pu
def wUp(L:Nat):List (List Nat):=(Fy 5).flatMap (Z8 (Fy L))
def tt(j:∀x∈u,x<L)(h:u.length<=4):u∈wUp L :=
 LL.mpr ⟨u.length,Gh.mpr (by omega),Vh rfl λx z=>Gh.mpr (j x z)⟩
instance {u v:List Nat}:Decidable (slt u v):=by unfold slt;infer_instance
def dQ(h:L=1\/L=2):∀u∈wUp L,(∀x∈u,x<L)/\u.length<=4:=by
 rcases h with rfl|rfl <;>decide
def Bd(h:L=1\/L=2):(wUp L).Pairwise slt:=by
 rcases h with rfl|rfl <;>decide
end Pu
namespace Py
open PySem L2 DD Pu
open Hop (walk yr Canon dl OkR Lst First Ws)
section
variable {L:Nat} {R:List (List (Mv Fp))}
abbrev ZV(s:Fp):Prop:=s=wc\/s=xy\/s=zW
def QB(h:OkM L R)(O:∀x∈w,x<L):ZV (yG L R w):=by
 have j:∀c:Nat×Nat,c.1<R.length->c.2<=w.length+1->∀k x,run (xF L R w) k c=.inl x->x=wc\/x=xy:=λc h1 h2 k=>by
  induction k generalizing c with
  | zero=>intro x e;cases e
  | succ k U=>
   intro x e
   have st:=ux h O h1 h2
   cases q:xF L R w c with
   | inl y=>rw[q]at st;rw[wa _ q]at e;cases e;exact st
   | inr d=>rw[q]at st;rw[yT _ q]at e;exact U d st.1 st.2 x e
 unfold yG
 by_cases z:∃x,xW (xF L R w) (0,0) x
 ·obtain⟨x,k,J⟩:=z
  rw[xc ⟨k,J⟩]
  rcases j (0,0) h.r1 (by simp) k x J with q|q
  ·exact .inl q
  ·exact .inr (.inl q)
 ·rw[xm λx Y=>z ⟨x,Y⟩]
  exact .inr (.inr rfl)
structure FT (L:Nat) (R:List (List (Mv Fp))) (F:Fp->Bool) (q:List (List Nat)) (g:Nat->Bool):Prop where
 t:Tells L (λw=>F (yG L R w)) q g
 le:q.length<=1296
def qb(h:OkM L R)(j:∀x∈u,x<L)(J:∀x∈v,x<L)(e:zJ R u=zJ R v):∀x:List Nat,(∀a∈x,a<L)->zJ R (u++x)=zJ R (v++x):=λx=>by
 induction x generalizing u v with
 | nil=>intro _;simpa using e
 | cons a r O=>
  intro hx
  have z:=hx a F9
  have U:zJ R (u++[a])=zJ R (v++[a]):=by
   have:=Jp h j z (Xk e)
   unfold zJ;rw[this]
  have g:∀{y:List Nat},(∀x∈y,x<L)->∀x∈y++[a],x<L:=λY x hx=>by
   rcases Gk.mp hx with hx|hx
   ·exact Y x hx
   ·simp at hx;rw[hx];exact z
  have:=O (g j) (g J) U λb Z=>hx b (Gc _ Z)
  simpa using this
def FT.det{F:Fp->Bool}{q:List (List Nat)}{g:Nat->Bool}(h:OkM L R)(T:Tells L (λw=>F (yG L R w)) q g)(u v:List Nat)(hu:∀x∈u,x<L)(hv:∀x∈v,x<L)(e:zJ R u=zJ R v):walk (dl q) 0 u=walk (dl q) 0 v :=
 Hop.tm T.ok T.can T.is hu hv λx hx=>by
  have b:∀{y:List Nat},(∀a∈y,a<L)->∀a∈y++x,a<L:=λhy a ha=>(Gk.mp ha).elim (hy a) (hx a)
  show F (yG L R (u++x))=F (yG L R (v++x))
  rw[Jq h (b hu) (b hv) (Xk (qb h hu hv e x hx))]
def FT.lst(T:FT L R F q g)(l:Lst L q g j g'):FT L R F j g' :=
 ⟨Xl l T.t.is,Ge l.le T.le⟩
section
variable {F F1 F2:Fp->Bool} {q q1 q2:List (List Nat)} {g g1 g2:Nat->Bool}
def FT.few(h:OkM L R)(h3:R.length<=3)(T1:FT L R F1 q1 g1)(T2:FT L R F2 q2 g2):∀p1 p2 k1 k2,Lst L q1 g1 p1 k1->Lst L q2 g2 p2 k2->p1.length*p2.length<2^22/\(Hop.zZ p1 p2).length<=1296:=λp1 p2 k1 k2 l1 l2=>by
 have a1:=T1.lst l1
 have a2:=T2.lst l2
 refine⟨IA (L3 a1.le a2.le) (by decide),Ge (Hop.tq (zJ R) a1.t.ok a2.t.ok (FT.det h a1.t) (FT.det h a2.t) λu hu=>dC h hu) (dD h3)⟩
def FT.one(h:OkM L R)(j:FT L R F1 q1 g1)(z:FT L R F2 q2 g2)(e:∀s,ZV s->F1 s=F2 s):zx L q1 g1=zx L q2 g2:=by
 obtain⟨a,b⟩:=j.t.one (z.t.congr λw J=>(e _ (QB h J)).symm)
 subst a
 unfold zx
 rw[WU b]
def FT.zero(b:Bool):FT L R (λ_=>b) [F7 L 0] λ_=>b:=⟨⟨Hop.nz,Hop.tr b,λ_ _=>rfl⟩,by simp⟩
def FT.join(wt:List (Bool×Bool))(h:OkM L R)(h3:R.length<=3)(T1:FT L R F1 q1 g1)(T2:FT L R F2 q2 g2):
  ∃rows g,Pq.wP wt vi va vy wZ [zx L q1 g1,zx L q2 g2]=some (zx L rows g)/\FT L R (λs=>wt.any λp=>p==(F1 s,F2 s)) rows g:=by
 have l1:=T1.le
 have l2:=T2.le
 obtain⟨rows,g,e,t,l⟩:=Bb (g1:=g1) (g2:=g2) wt T1.t.ok T2.t.ok h.l1 h.l3 (by omega) (by omega) (M:=1296) (by omega) (FT.few h h3 T1 T2)
 refine⟨rows,g,e,t.congr λw hw=>?_,l⟩
 rw[T1.t.is w hw,T2.t.is w hw]
def FT.first(wt:List (Bool×Bool))(h:OkM L R)(O:R.length<=3)(j:FT L R F1 q1 g1)(z:FT L R F2 q2 g2)(U:∀s,ZV s->(wt.any λp=>p==(F1 s,F2 s))=false):
  Pq.vH wt vi va vy Z9 [zx L q1 g1,zx L q2 g2]=some .non:=by
 have l1:=j.le
 have l2:=z.le
 obtain⟨o,e,lo⟩:=tj (g1:=g1) (g2:=g2) wt j.t.ok z.t.ok h.l1 h.l3 (by omega) (by omega) λY p2 Z k2 c1 c2=>by
  have:=FT.few h O j z Y p2 Z k2 c1 c2
  exact⟨this.1,by omega⟩
 have eo:o=none:=lo.one (o':=none) λu J=>by
  show(wt.any λp=>p==(g1 (walk (dl q1) 0 u),g2 (walk (dl q2) 0 u)))=false
  rw[j.t.is u J,z.t.is u J]
  exact U _ (QB h J)
 subst eo
 exact e
def FT.contrary(h:OkM L R)(T:FT L R F q g):∃rows k,Qs [zx L q g]=some (zx L rows k)/\FT L R (λs=>!F s) rows k:=by
 have l:=T.le
 obtain⟨rows,k,e,j⟩:=lf (g:=g) T.t.ok h.l1 h.l3 (by omega)
 refine⟨rows,k,e,Xl j λw z=>?_,Ge j.le l⟩
 rw[T.t.is w z]
def FT.word(h:OkM L R)(T:FT L R F q g):∃o,kI [zx L q g]=some (ZI o)/\ZU L (λw=>F (yG L R w)) o/\∀w,o=some w->w.length<2000:=by
 have l:=T.le
 obtain⟨p,k,e,ls⟩:=YI (g:=g) T.t.ok h.l1 h.l3 (by omega)
 have T':=T.lst ls
 have l':=T'.le
 obtain⟨ws,W⟩:=Hop.jR T'.t.ok.pos T'.t.can.met
 have B:=W.bfs T'.t.ok
 have tell:∀(j:Nat) (u:List Nat),ws[j]?=some u->k j=F (yG L R u):=λj u hu=>by
  have:=T'.t.is u (W.good j u hu)
  rwa [W.walk j u hu]at this
 have lo:=dP (P:=λw=>F (yG L R w)) B (λu v a _ _ _ e=>by rw[uL,uL,e]) (λu v hu hv e=>by
  show F (yG L R u)=F (yG L R v)
  rw[<-T'.t.is u hu,<-T'.t.is v hv,e])
 cases hg:yo p.length k with
 | nil=>
  refine⟨none,zV rfl ?_,lo.2 λw hw=>?_,λw e=>by cases e⟩
  ·have ep:zx L p k=.tup [.int (L:Int),.tup (zG p),.tup []]:=by unfold zx;rw[hg];rfl
   rw[ep]at e
   generalize zx L q g=Q at e ⊢
   generalize zG p=dp at e ⊢
   simp[kH,zB,e,ZI]
  ·obtain⟨j,hj⟩:=IY.mp hw
   have hjl:j<p.length:=by rw[<-W.len];exact(FO.mp hj).1
   rw[<-tell j w hj]
   cases hk:k j with
   | false=>rfl
   | true=>have:=vj.mpr ⟨hjl,hk⟩;rw[hg]at this;cases this
 | cons s r=>
  have hs:s<p.length/\k s=true:=vj.mp (by rw[hg];exact F9)
  have up:=cY (n:=p.length) (g:=k)
  rw[hg]at up
  have hws:s<ws.length:=by rw[W.len];exact hs.1
  have hw:ws[s]?=some ws[s]:=FU hws
  generalize ws[s]=w at hw
  have fw:=WW (rd:=.tup (zG p)) (m:=p.length) (.inr (by rw[HY])) (G9 hs.1) (FA _) T'.t.ok W h.l3 (by omega) hs.1 hw
  refine⟨some w,zV rfl ?_,lo.1 s w hw ?_ λj u hj hu=>?_,λw' e=>?_⟩
  ·have fw':Z9 [.int (s:Int),.tup (zG p)]=some (ZI (some w)):=fw
   have ep:zx L p k=.tup [.int (L:Int),.tup (zG p),.tup (dN (s::r))]:=by unfold zx;rw[hg]
   rw[ep]at e
   generalize ZI (some w)=ow at fw' ⊢
   generalize zx L q g=Q at e ⊢
   generalize zG p=dp at e fw' ⊢
   have i2:¬((r.length:Int)+1=0):=by omega
   simp[kH,zB,e,fw',i2]
  ·show F (yG L R w)=true
   rw[<-tell s w hw];exact hs.2
  ·rw[<-tell j u hu]
   cases hk:k j with
   | false=>rfl
   | true=>
    have:=vj.mpr ⟨GT hj hs.1,hk⟩
    rw[hg]at this
    rcases FL.mp this with q|q
    ·omega
    ·have:=Pz up q;omega
  ·cases e
   have:=Qz B s s w (FA _) hw
   have:=hs.1
   omega
end
def Cu(h:L=1\/L=2):kL [.int (L:Int),.int 4]=some (.lst ((wUp L).map xv)):=by
 rcases h with rfl|rfl
 ·rfl
 ·rfl
def nA(h:L=1\/L=2)(e:(wUp L).filter P=d::r):ZU L P (some d):=by
 have J:d∈(wUp L).filter P:=by rw[e];exact F9
 obtain⟨O,U⟩:=HC.mp J
 obtain⟨g1,g2⟩:=dQ h d O
 refine⟨g1,U,λu Y Z=>?_⟩
 by_cases hl:u.length<=4
 ·have j:u∈(wUp L).filter P:=HC.mpr ⟨tt Y hl,Z⟩
  have z:=(Bd h).filter P
  rw[e]at j z
  rcases FL.mp j with q|q
  ·exact .inl q.symm
  ·exact .inr (Pz z q)
 ·exact .inr (.inl (by omega))
def nB(us:List (List Nat)):(((Fy us.length).filter λk=>P (us.getD k [])).map λk=>us.getD k [])=us.filter P:=by
 have e:us=(Fy us.length).map λk=>us.getD k []:=IG (by simp) λi a b=>by
  simp[FM,FU a]
 have:=List.filter_map (f:=λk=>us.getD k []) (p:=P) (l:=Fy us.length)
 rw[<-e]at this
 exact this.symm
end
end Py
namespace Pt
open PySem PySem.Spec L2 DD
open PyProof.Rows hiding St
open Hop (HS)
def top(i:Nat):FC:=PySem.Challenge.pw_backhead_k13_whole_three_fates.main.body.getD i (.Pass ⟨0,0,0,0⟩)
def WK(s:FC):List FC:=match s with
 | .ClassDef _ _ _ b _ _ _ _ _ _ _=>b
 | _=>[]
def Xo(i:Nat):FC:=(WK (top 26)).getD i (.Pass ⟨0,0,0,0⟩)
abbrev X8:FC:=Xo 2
def tw:FnScope ["self","part"] ["self","part"] (zl X8):=⟨rfl,rfl,rfl,by decide+kernel,rfl,by decide+kernel,by decide+kernel⟩
def nC(C:Fo):Sp:=λvs H Q _=>∃x p H0 st g,vs=[.ref x,.int (p:Nat)]/\Rep C H0 H x st g/\p<st.waits.length/\st.waiting.length<Fv/\∀H',Rep C H0 H' x {st with waits:=st.waits.set p true,waiting:=st.waiting++[p]} g->Q .non H'
def gU{P:FI}{w:FB}{K:Fs}{mg:Fp->Option Fl}{base:Fz}{fa C:Fo}{fd:Ga}(z:Fun K "let_wait" "Parting.let_wait" X8 fa fd)(T:PC K C):FnOk P w K mg base CX0 1 fa fd ["self","part"] (nC C) :=
 z.ok (k:=0) tw (λvs H Q E ⟨x,p,H0,st,g,e,_⟩=>by rw[e];rfl) λcdv A outer s H vs Q E U j=>by
  obtain⟨x,p,H0,st,g,e,r,J,O,q⟩:=j
  subst e
  refine⟨_,zw (Xv uU (Vt (zU (pv 0) rfl) (pv 1) YT)) (zR (yL (xJ GC GM GU yA (zU (pv 0) rfl) (zi (pv 1) zu)))),?_⟩
  have r1:=r.setWaits (st.waits.set p true)
  refine⟨_,rfl,x,C,g.dx,_,_,rfl,r.ins,T.cl,T.n4,rfl,_,rfl,g.ws,_,_,p,rfl,rfl,r.ws,UY (by rw[FF];exact J),?_⟩
  rw[show(st.waits.map V.bl).set p (V.bl true)=(st.waits.set p true).map V.bl from Np.symm]
  refine⟨_,rfl,x,C,g.dx,_,_,rfl,r1.ins,T.cl,T.n3,rfl,.inl ⟨rfl,_,SqL.of r1.wg⟩,_,rfl,g.wg,_,_,rfl,rfl,r1.wg,by rw[FF];exact O,?_⟩
  have r2:=r1.setWaiting (st.waiting++[p])
  refine q _ ?_
  rw[show zF st.waiting++[V.int (p:Int)]=zF (st.waiting++[p])from by simp]
  exact r2
abbrev UD:FC:=Xo 1
def gW:FnScope ["self","part"] ["self"] (zl UD):=⟨rfl,rfl,rfl,by decide+kernel,rfl,by decide+kernel,by decide+kernel⟩
def Be(C:Fo):Sp:=λvs H Q _=>∃x p H0 st g,vs=[.ref x]/\Rep C H0 H x st g/\st.waiting.getLast?=some p/\p<st.waits.length/\p<st.parts.length/\
 ∀l H',H0 l=none->Rep C (upd H0 l (.lst (zF (st.parts.getD p [])))) H' x (Hop.take st p) g->Q (.ref l) H'
def tz{P:FI}{w:FB}{K:Fs}{mg:Fp->Option Fl}{base:Fz}{fa C:Fo}{fd:Ga}(Fn:Fun K "take_goals" "Parting.take_goals" UD fa fd)(T:PC K C)(j:mg "list"=none):FnOk P w K mg base CX0 1 fa fd ["self"] (Be C) :=
 Fn.ok (k:=0) gW (λvs H Q E ⟨x,p,H0,st,g,e,_⟩=>by rw[e];rfl) λcdv A outer s H vs Q E hr J=>by
  obtain⟨x,p,H0,st,g,e,r,Z,hp,U,q⟩:=J
  subst e
  refine⟨_,zw (yZ (i:=1) gW.nd rfl (Or.inl rfl) (Ah GC NX PySem.F.type_list_pop Ai (zU (pv 0) rfl))) (zw (Xv uU (Vt (zU (pv 0) rfl) (pv 1) YT)) (zR (wu (ZK (iW rfl) rfl j boot_list (zi (xo xQ (zU (pv 0) rfl) (pv 1) (λ_ _=>rfl)) zu))))),?_⟩
  have aa:st.waiting≠[]:=λz=>by rw[z]at Z;cases Z
  have O:(zF st.waiting)[(zF st.waiting).length-1]?=some (V.int (p:Int)):=by
   rw[FP,FF,<-List.getLast?_eq_getElem?,Z];rfl
  refine⟨_,rfl,x,C,g.dx,_,_,rfl,r.ins,T.cl,T.n3,rfl,.inl ⟨rfl,_,SqL.of r.wg⟩,g.wg,_,_,rfl,rfl,r.wg,O,?_⟩
  have r1:=r.setWaiting st.waiting.dropLast
  rw[show(zF st.waiting).dropLast=zF st.waiting.dropLast from List.map_dropLast.symm]
  refine⟨_,rfl,x,C,g.dx,_,_,rfl,r1.ins,T.cl,T.n4,rfl,_,rfl,g.ws,_,_,p,rfl,rfl,r1.ws,UY (by rw[FF];exact hp),?_⟩
  rw[show(st.waits.map V.bl).set p (V.bl false)=(st.waits.set p false).map V.bl from Np.symm]
  have r2:=r1.setWaits (st.waits.set p false)
  have hd:g.ds[p]?=some (g.ds[p]'(by rw[r.len];exact U)):=by simp[r.len,U]
  refine⟨_,rfl,x,C,g.dx,_,_,rfl,r2.ins,T.cl,T.n2,rfl,_,rfl,g.pl,_,_,_,rfl,rfl,SqL.of r2.pl,xf (by rw[FP,hd];rfl),_,_,rfl,r2.ds p _ hd,λl Y=>?_⟩
  have ek:L6 (λkv:Key×V=>kV kv.1) (wj (st.parts.getD p []))=zF (st.parts.getD p []):=by rw[Hq];rfl
  show Q (.ref l) (upd _ l (.lst (L6 (λkv:Key×V=>kV kv.1) (wj (st.parts.getD p [])))))
  rw[ek]
  exact q l _ (r2.sm.free Y) (r2.ext Y _)
abbrev J2:FC:=Xo 3
def UE:FnScope ["self","part","stands","rest","fresh","stand"] ["self","part","stands"] (zl J2):=⟨rfl,rfl,rfl,by decide+kernel,rfl,by decide+kernel,by decide+kernel⟩
def Cv(C:Fo):Sp:=λvs H Q _=>∃x part l stands H0 st g n,vs=[.ref x,.int (part:Nat),.ref l]/\Rep C H0 H x st g/\H0 l=some (.lst (zF stands))/\Hop.Ok n st/\Hop.Cut n st part stands/\n<Fv/\st.parts.length<Fv/\st.waiting.length<Fv/\
 ∀H' g',Rep C H0 H' x (Hop.yy st part stands) g'->Q .non H'
def Bf{P:FI}{w:FB}{K:Fs}{mg:Fp->Option Fl}{base:Fz}{fa fw C:Fo}{fd fdw:Ga}(Fn:Fun K "part_off" "Parting.part_off" J2 fa fd)(T:PC K C)(hlen:mg "len"=none)(Fw:Fun K "let_wait" "Parting.let_wait" X8 fw fdw)(mw:Meth K C "let_wait" fw):FnOk P w K mg base CX0 2 fa fd ["self","part","stands"] (Cv C) :=
 Fn.ok (k:=1) UE (λvs H Q E ⟨x,part,l,stands,H0,st,g,n,e,_⟩=>by rw[e];rfl) λcdv A outer s H vs Q E hr hh77'=>by
  obtain⟨x,part,l,stands,H0,st,g,n,e,r,hs,ok,c,hn,hz,hw,q⟩:=hh77'
  subst e
  have bw:yD K fdw ["self","part"] []:=Fw.binds λ_ _ _ _ _ _ us hl=>by rcases us with _|⟨_,_|⟨_,_|⟨_,_⟩⟩⟩ <;>first|rfl|cases hl|(simp at hl)
  refine⟨_,zw (yZ (i:=3) UE.nd rfl (Or.inl rfl) (xo xQ (zU (pv 0) rfl) (pv 1) (λ_ _=>rfl)))
   (zw (YN (Ye BQ (xi zy rfl hlen Gg (zi (pv 2) zu)) (xi QT rfl hlen Gg (zi (pv 3) zu)) (yk _)) (zR rJ) u8)
   (zw (yZ (i:=4) UE.nd rfl (Or.inl rfl) (xi zy rfl hlen Gg (zi (zU (pv 0) rfl) zu)))
   (zw (yL (xJ GC GM GU yA (zU (pv 0) rfl) (zi uk zu)))
   (zw (yL (xJ GC GM GU yA (zU (pv 0) rfl) (zi uU zu)))
   (zw (uD Gw rfl (Wb (pv 2)) (xH (i:=5) UE.nd rfl (Or.inl rfl)) (zw (yL (ox (pv 3) (pv 5) ⟨rfl,rfl,rfl,rfl⟩)) (zw (Ym (xz hr) (xo xQ (zU (pv 0) rfl) (pv 4) (λ_ _=>rfl)) (pv 5) uU rfl) (zR (Xv (pv 4) (Vt (zU (pv 0) rfl) (pv 5) YT))))))
   (zR (YN (PW.pt (qN (Yc (xo xQ (zU (pv 0) rfl) (pv 1) (λ_ _=>rfl))) (lJ (Ye Vv (xi zy rfl hlen Gg (zi (pv 2) zu)) (xi QT rfl hlen Gg (zi (pv 3) zu)) (yk _)))))
    (zR (yL (Yf (pv 0) T.cl mw (gU Fw T) hr bw .nil yO (zi (pv 4) zu)))) (zR (yL (Yf (pv 0) T.cl mw (gU Fw T) hr bw .nil yO (zi (pv 1) zu))))))))))),?_⟩
  have hd:g.ds[part]?=some (g.ds[part]'(by rw[r.len];exact c.lt)):=by simp[r.len,c.lt]
  generalize hdp:g.ds[part]'(by rw[r.len];exact c.lt)=dp at hd
  refine⟨_,rfl,x,C,g.dx,_,_,rfl,r.ins,T.cl,T.n2,rfl,_,rfl,g.pl,_,_,.ref dp,rfl,rfl,SqL.of r.pl,xf (by rw[FP,hd];rfl),?_⟩
  have hl:H l=some (.lst (zF stands)):=r.sm _ _ hs
  refine⟨_,rfl,l,_,rfl,.inl (SqL.of hl),_,rfl,dp,_,rfl,r.ds part dp hd,rfl,_,rfl,?_⟩
  refine ZX (λh=>?_) (λh=>?_)
  ·have h':=sw h
   rw[FF,FF]at h'
   exact q H g (by rw[Hop.V4 h'];exact r)
  have h':=sx h
  rw[FF,FF]at h'
  refine⟨_,rfl,x,C,g.dx,_,_,rfl,r.ins,T.cl,T.n2,rfl,g.pl,_,rfl,.inl (SqL.of r.pl),?_⟩
  refine⟨_,rfl,x,C,g.dx,_,_,rfl,r.ins,T.cl,T.n2,rfl,.inl ⟨rfl,_,SqL.of r.pl⟩,λd hd0=>⟨g.pl,_,_,rfl,rfl,by rw[zd (zn r.pl hd0)];exact r.pl,by rw[FF,r.len];exact hz,?_⟩⟩
  have r1:=r.addPart hd0
  rw[show g.ds.map V.ref++[V.ref d]=(g.ds++[d]).map V.ref from by simp]
  have hd1:(g.ds++[d])[part]?=some dp:=by rw[GK (by rw[r.len];exact c.lt)];exact hd
  have hdf:(g.ds++[d])[st.parts.length]?=some d:=by rw[<-r.len];simp
  have el:(g.ds.map V.ref).length=st.parts.length:=by rw[FF];exact r.len
  generalize hg1:({g with ds:=g.ds++[d]}:Ads)=g1 at r1
  have eds:g1.ds=g.ds++[d]:=by rw[<-hg1]
  rw[<-eds]at hd1 hdf
  have ews:g1.ws=g.ws:=by rw[<-hg1]
  have edx:g1.dx=g.dx:=by rw[<-hg1]
  refine⟨_,rfl,x,C,g1.dx,_,_,rfl,r1.ins,T.cl,T.n4,rfl,.inl ⟨rfl,_,SqL.of r1.ws⟩,g1.ws,_,_,rfl,rfl,r1.ws,by rw[FF,ok.wl];exact hz,?_⟩
  have r2:=r1.setWaits (st.waits++[false])
  rw[show st.waits.map V.bl++[V.bl false]=(st.waits++[false]).map V.bl from by simp]
  have r2':Rep C H0 (upd (upd (upd H d (.dK [])) g.pl (.lst ((g.ds++[d]).map V.ref))) g1.ws (.lst ((st.waits++[false]).map V.bl))) x (mid st part stands 0) g1:=by rw[oH part stands c.lt];exact r2
  have hwl:st.waits.length=st.parts.length:=ok.wl
  refine⟨_,rfl,l,rfl,⟨_,SqL.of (r2'.sm _ _ hs)⟩,YR (xs:=zF stands) (λi σ H=>(∃o,σ=[some (.ref x),some (.int (part:Int)),some (.ref l),some (.ref dp),some (.int (st.parts.length:Int)),o])/\Rep C H0 H x (mid st part stands i) g1)
   ⟨⟨none,by rw[el];rfl⟩,r2'⟩ (λi σ H _ p=>SqL.of (p.2.sm _ _ hs)) (λi v σ H hv p=>?_) (λσ H p=>?_)⟩
  ·obtain⟨⟨o,rfl⟩,r⟩:=p
   rw[FP]at hv
   obtain⟨s,hsi,rfl⟩:=Hx.mp hv
   have hmem:s∈stands:=Gj hsi
   have hnt:s∉stands.take i:=λz=>by
    obtain⟨j,hj⟩:=Hy z
    rw[OU]at hj
    split at hj
    ·rename_i hji
     obtain⟨a1,a2⟩:=FO.mp hj
     obtain⟨b1,b2⟩:=FO.mp hsi
     have:=(IJ c.nd).mp (a2.trans b2.symm)
     omega
    ·cases hj
   have hin:s∈(mid st part stands i).parts.getD part []:=by
    rw[bA c.lt,HC]
    exact⟨c.sub s hmem,by simpa using hnt⟩
   have hsn:s<n:=((ok.mem part s).mp (c.sub s hmem)).1
   refine⟨_,rfl,dp,rfl,.inl ⟨_,.inl (r.ds part dp hd1)⟩,_,rfl,_,Sum.inl (s:Int),V.bl true,r.ds part dp hd1,rfl,by rw[XN,if_pos hin],?_⟩
   rw[Y2]
   have r3:=r.setPart hd1 (((mid st part stands i).parts.getD part []).filter λt=>decide (t≠s))
   have hpf:part≠st.parts.length:=Gd c.lt
   have ef:((mid st part stands i).parts.set part (((mid st part stands i).parts.getD part []).filter λt=>decide (t≠s))).getD st.parts.length []=stands.take i:=by
    rw[Hop.wQ,if_neg λz=>hpf z.1,Q0]
   have hkd:=r3.ds st.parts.length d hdf
   rw[show({mid st part stands i with parts:=(mid st part stands i).parts.set part (((mid st part stands i).parts.getD part []).filter λt=>decide (t≠s))}:HS).parts.getD st.parts.length []=stands.take i from ef]at hkd
   refine⟨_,rfl,x,C,g1.dx,_,_,rfl,r3.ins,T.cl,T.n2,rfl,_,rfl,g1.pl,_,_,.ref d,rfl,rfl,SqL.of r3.pl,xf (by rw[FP,hdf];rfl),_,rfl,d,_,rfl,uN.k (k:=Sum.inl (s:Int)) hkd ?_,?_⟩
   ·rw[FF]
    have h1:(stands.take i).length<=stands.length:=List.length_take_le' _ _
    have h2:=Hop.yF (m:=Fy n) c.nd λy hy=>Gh.mpr ((ok.mem part y).mp (c.sub y hy)).1
    rw[GS]at h2
    omega
   rw[QZ hnt]
   have r4:=r3.setPart hdf (stands.take i++[s])
   refine⟨_,rfl,_,rfl,x,C,g1.dx,_,_,rfl,r4.ins,T.cl,T.n1,rfl,_,rfl,g1.po,_,_,s,rfl,rfl,r4.po,UY ?_,?_⟩
   ·rw[FF]
    show s<(Hop.xO st.partOf (stands.take i) st.parts.length).length
    rw[Hop.Y0,ok.len];exact hsn
   have r5:=r4.setPartOf ((mid st part stands i).partOf.set s st.parts.length)
   rw[show(zF (mid st part stands i).partOf).set s (V.int (st.parts.length:Int))=zF ((mid st part stands i).partOf.set s st.parts.length)from Np.symm]
   refine⟨⟨_,rfl⟩,?_⟩
   rw[oI c.lt hsi,Q0]
   exact r5
  ·obtain⟨⟨o,rfl⟩,r⟩:=p
   rw[FF]at r
   have hpw:part<(st.waits++[false]).length:=by rw[Gb,hwl];have:=c.lt;omega
   have hfw:st.parts.length<(st.waits++[false]).length:=by rw[Gb,hwl];simp
   have fin:∀w,(w=if(st.waits++[false]).getD part false=true\/stands.length<=((mid st part stands stands.length).parts.getD part []).length then st.parts.length else part)->w<(st.waits++[false]).length->nC C [.ref x,.int (w:Nat)] H Q E0:=λw hw1 hw2=>
    ⟨x,w,H0,_,g1,rfl,r,hw2,hw,λH' r'=>q H' g1 (by rw[<-sv c.lt h' hw1];exact r')⟩
   refine⟨_,rfl,x,C,g1.dx,_,_,rfl,r.ins,T.cl,T.n4,rfl,_,rfl,g1.ws,_,_,.bl ((st.waits++[false]).getD part false),rfl,rfl,SqL.of r.ws,xf (by rw[FP,show(mid st part stands stands.length).waits=st.waits++[false]from rfl,getD_some (d:=false) hpw];rfl),_,rfl,?_⟩
   refine ZX (λhc=>?_) (λhc=>?_)
   ·refine DF ⟨_,rfl,x,g1.dx,_,rfl,r.ins,rfl,_,rfl,fin st.parts.length (by rw[if_pos (.inl hc)]) hfw⟩
   ·refine⟨_,rfl,l,_,rfl,.inl (SqL.of (r.sm _ _ hs)),_,rfl,dp,_,rfl,r.ds part dp hd1,_,_,rfl,rfl,_,rfl,?_⟩
    refine ZX (λhc2=>?_) (λhc2=>?_)
    ·have h2:stands.length<=((mid st part stands stands.length).parts.getD part []).length:=by
      have:=of_decide_eq_true hc2
      rw[FF,FF]at this
      omega
     exact⟨_,rfl,x,g1.dx,_,rfl,r.ins,rfl,_,rfl,fin st.parts.length (by rw[if_pos (.inr h2)]) hfw⟩
    ·have h2:¬stands.length<=((mid st part stands stands.length).parts.getD part []).length:=λz=>hc2 (decide_eq_true (by
      rw[FF,FF];omega))
     exact⟨_,rfl,x,g1.dx,_,rfl,r.ins,rfl,_,rfl,fin part (by rw[if_neg λz=>z.elim hc h2]) hpw⟩
end Pt
namespace Pq
open PySem PySem.Spec L2 DD
open PyProof.Rows hiding St
open Pt (zF getD_some yw ya top WK)
open Hop (zQ)
def Xo(i:Nat):FC:=(Pt.WK (Pt.top 47)).getD i (.Pass ⟨0,0,0,0⟩)
abbrev WL:FC:=Xo 1
def nD:FnScope ["self","stand","other","pair"] ["self","stand","other"] (zl WL):=⟨rfl,rfl,rfl,by decide+kernel,rfl,by decide+kernel,by decide+kernel⟩
def wD(p:Par)(st:PSt)(s t:Nat):PSt:=if s*p.r2.length+t∈st.me then st else {st with nu:=st.nu++[s*p.r2.length+t],me:=st.me++[s*p.r2.length+t],mr:=st.mr++[xn p s t]}
def lg(K:Fs)(C:Fo):Sp:=λvs H Q _=>∃x s t p B F st g,vs=[.ref x,.int (s:Nat),.int (t:Nat)]/\Rep K C p B F H x st g/\st.nu=st.me/\s<p.b1.length/\t<p.b2.length/\p.r2.length<2^22/\st.me.length<Fv/\st.mr.length<Fv/\
 ∀H' F',zm F F'->Rep K C p B F' H' x (wD p st s t) g->Q (.int (((wD p st s t).me.idxOf (s*p.r2.length+t):Nat):Int)) H'
def nE{P:FI}{w:FB}{K:Fs}{mg:Fp->Option Fl}{base:Fz}{fa C:Fo}{fd:Ga}(Fn:Fun K "number_of" "Pairs.number_of" WL fa fd)(T:PCl K C)(hlen:mg "len"=none):FnOk P w K mg base CX0 1 fa fd ["self","stand","other"] (lg K C) :=
 Fn.ok (k:=0) nD (λvs H Q E ⟨x,s,t,p,B,F,st,g,e,_⟩=>by rw[e];rfl) λcdv A outer sh H vs Q E hr hh78'=>by
  obtain⟨x,s,t,p,B,F,st,g,e,r,hnm,hs,ht,hn2,hz,hz2,q⟩:=hh78'
  subst e
  refine⟨_,zw (yZ (i:=3) nD.nd rfl (Or.inl rfl) (iA lL (iA uE (pv 1) (xi zy rfl hlen Gg (zi (zU (pv 0) rfl) zu))) (pv 2)))
   (zw (YN (lI (QS (xz hr) (pv 3) (zU (pv 0) rfl)))
    (zw (Ym (xz hr) (zU (pv 0) rfl) (pv 3) (xi zy rfl hlen Gg (zi (zU (pv 0) rfl) zu)) rfl)
    (zw (yL (xJ GC GM GU yA (zU (pv 0) rfl) (zi (pv 3) zu)))
    (zR (yL (xJ GC GM GU yA (zU (pv 0) rfl) (zi (UL (AW (uj hr)) (lR (zi (xo xQ (zU (pv 0) rfl) (pv 1) (λ_ _=>rfl)) (zi (xo xQ (zU (pv 0) rfl) (pv 2) (λ_ _=>rfl)) zu))) (zU (pv 0) rfl) (by with_unfolding_all rfl)) zu)))))) u8)
   (zR (wu (UT (xz hr) (zU (pv 0) rfl) (pv 3) (λ_ _=>rfl))))),?_⟩
  obtain⟨rs2,hr2,hl2,_⟩:=id r.w2
  have hcm:J8 (s:Int) (p.r2.length:Int):=.inr (by constructor <;>omega)
  refine⟨_,rfl,_,rfl,x,C,g.dx,_,_,rfl,r.ins,T.cl,T.n3,rfl,g.r2,_,rfl,.inr (SqT.of (r.sm _ _ hr2)),_,(p.r2.length:Int),rfl,by rw[FF,hl2],hcm,_,rfl,_,_,rfl,rfl,?_⟩
  show vl 3 (V.int ((s*p.r2.length+t:Nat):Int)) _ H _
  generalize hpr:s*p.r2.length+t=pr at q
  refine⟨_,rfl,_,rfl,x,C,g.dx,_,_,rfl,r.ins,T.cl,T.n6,rfl,g.nu,_,rfl,x9.k (k:=Sum.inl (pr:Int)) r.nu,_,rfl,?_⟩
  refine ZX (λhc=>?_) (λhc=>?_)
  ·have hnot:pr∉st.me:=λz=>by
    rw[uu,hnm,if_pos z]at hc;cases hc
   have en:wD p st s t={st with nu:=st.nu++[pr],me:=st.me++[pr],mr:=st.mr++[xn p s t]}:=by
    unfold wD;rw[hpr,if_neg hnot]
   rw[en]at q
   refine⟨_,rfl,x,C,g.dx,_,_,rfl,r.ins,T.cl,T.n7,rfl,g.me,_,rfl,.inl (SqL.of r.me),_,rfl,x,C,g.dx,_,_,rfl,r.ins,T.cl,T.n6,rfl,_,rfl,g.nu,_,rfl,uN.k (k:=Sum.inl (pr:Int)) r.nu ?_,?_⟩
   ·rw[cC,hnm];exact hz
   have el:(zF st.me).length=st.nu.length:=by rw[FF,hnm]
   have hnot':pr∉st.nu:=by rw[hnm];exact hnot
   have r1:=r.setNu (st.nu++[pr])
   rw[el,pf hnot']
   have r2:=r1.setMe (st.me++[pr])
   refine⟨_,rfl,x,C,g.dx,_,_,rfl,r1.ins,T.cl,T.n7,rfl,.inl ⟨rfl,_,SqL.of r1.me⟩,_,rfl,g.me,_,_,rfl,rfl,r1.me,by rw[FF];exact hz,?_⟩
   rw[show zF st.me++[V.int (pr:Int)]=zF (st.me++[pr])from by simp]
   have hb1:=r2.sm _ _ r2.b1
   have hb2:=r2.sm _ _ r2.b2
   refine⟨_,rfl,x,C,g.dx,_,_,rfl,r2.ins,T.cl,T.n8,rfl,.inl ⟨rfl,_,SqL.of r2.mr⟩,_,rfl,x,C,g.dx,_,_,rfl,r2.ins,T.cl,T.n2,rfl,_,rfl,g.m1,_,_,.bl (p.b1.getD s false),rfl,rfl,SqL.of hb1,xf (by rw[FP,getD_some (d:=false) hs];rfl),_,rfl,x,C,g.dx,_,_,rfl,r2.ins,T.cl,T.n4,rfl,_,rfl,g.m2,_,_,.bl (p.b2.getD t false),rfl,rfl,SqL.of hb2,xf (by rw[FP,getD_some (d:=false) ht];rfl),?_⟩
   refine⟨by show 2<=Fv;decide,λtp htp=>?_⟩
   have r3:=r2.ext htp (.tup [.bl (p.b1.getD s false),.bl (p.b2.getD t false)])
   have r4:=r3.setMk (st.mr++[xn p s t])
   refine⟨_,rfl,x,C,g.dx,_,_,rfl,r3.ins,T.cl,T.n5,rfl,tp,g.wn,p.wt,_,_,rfl,zj,rfl,r.wn,g.mr,_,_,rfl,rfl,r3.mr,by rw[FF];exact hz2,?_⟩
   rw[show st.mr.map V.bl++[V.bl (p.wt.any λq=>q==(p.b1.getD s false,p.b2.getD t false))]=(st.mr++[xn p s t]).map V.bl from by rw[GO];rfl]
   refine⟨_,rfl,x,C,g.dx,_,_,rfl,r4.ins,T.cl,T.n6,rfl,_,rfl,g.nu,V.int (((st.me++[pr]).idxOf pr:Nat):Int),rfl,?_,q _ _ (zz (r2.sm.free htp) _) r4⟩
   have hd:=x9.k (k:=Sum.inl (pr:Int)) r4.nu
   have e2:st.nu++[pr]=st.me++[pr]:=by rw[hnm]
   rw[show(PSt.nu {nu:=st.nu++[pr],me:=st.me++[pr],mr:=st.mr++[xn p s t],rs:=st.rs,rows:=st.rows})=st.me++[pr]from e2,uu,if_pos (by simp),G4]at hd
   exact hd
  ·have hin:pr∈st.me:=by
    refine K1 λz=>hc ?_
    rw[uu,hnm,if_neg z];rfl
   have en:wD p st s t=st:=by unfold wD;rw[hpr,if_pos hin]
   rw[en]at q
   have hd:=x9.k (k:=Sum.inl (pr:Int)) r.nu
   rw[hnm,uu,if_pos hin,G4]at hd
   exact⟨_,rfl,x,C,g.dx,_,_,rfl,r.ins,T.cl,T.n6,rfl,_,rfl,g.nu,_,rfl,hd,q _ _ (zm.refl _) r⟩
end Pq
namespace Pq
open PySem PySem.Spec L2 DD
open PyProof.Rows hiding St
open Pt (zF getD_some yw ya top WK)
open Hop (zQ prR wo xE OkR BI)
abbrev UF:FC:=Xo 2
def tD:FnScope ["self"] ["self"] (zl UF):=⟨rfl,rfl,rfl,by decide+kernel,rfl,by decide+kernel,by decide+kernel⟩
def Bg(K:Fs)(C:Fo):Sp:=λvs H Q _=>∃x p B F st g,vs=[.ref x]/\Rep K C p B F H x st g/\Q (.bl (decide (st.rows.length<st.me.length))) H
def gX{P:FI}{w:FB}{K:Fs}{mg:Fp->Option Fl}{base:Fz}{fa C:Fo}{fd:Ga}(J:Fun K "has_more" "Pairs.has_more" UF fa fd)(T:PCl K C)(j:mg "len"=none):FnOk P w K mg base CX0 1 fa fd ["self"] (Bg K C) :=
 J.ok (k:=0) tD (λvs H Q E ⟨x,p,B,F,st,g,e,_⟩=>by rw[e];rfl) λcdv A outer O H vs Q E U z=>by
  obtain⟨x,p,B,F,st,g,e,r,q⟩:=z
  subst e
  refine⟨_,zR (wu (UL Wc (xi zy rfl j Gg (zi (zU (pv 0) rfl) zu)) (xi zy rfl j Gg (zi (zU (pv 0) rfl) zu)) (yk _))),?_⟩
  refine⟨_,rfl,x,C,g.dx,_,_,rfl,r.ins,T.cl,T.n9,rfl,g.ro,_,rfl,.inl (SqL.of r.ro),_,rfl,x,C,g.dx,_,_,rfl,r.ins,T.cl,T.n7,rfl,g.me,_,rfl,.inl (SqL.of r.me),_,_,rfl,rfl,?_⟩
  have e:decide (((st.rs.map V.ref).length:Int)<((zF st.me).length:Int))=decide (st.rows.length<st.me.length):=by
   rw[FF,FF,r.rl]
   exact decide_eq_decide.mpr (by omega)
  show Q (.bl (decide (((st.rs.map V.ref).length:Int)<((zF st.me).length:Int)))) H
  rw[e]
  exact q
abbrev lh:FC:=Xo 3
def J3:FnScope ["self","pair","row","other_row"] ["self"] (zl lh):=⟨rfl,rfl,rfl,by decide+kernel,rfl,by decide+kernel,by decide+kernel⟩
structure Sta (p:Par) (st:PSt) (A k:Nat):Prop where
 ok1:OkR A p.r1
 ok2:OkR A p.r2
 l1:p.b1.length=p.r1.length
 l2:p.b2.length=p.r2.length
 nm:st.nu=st.me
 bi:BI (prR p.r1 p.r2).length A (Hop.dl (prR p.r1 p.r2)) k 0 st.me
 mr:st.mr=st.me.map λq=>xn p (q/p.r2.length) (q%p.r2.length)
 rw:st.rows=xE (prR p.r1 p.r2) st.me k
 sz:p.r1.length*p.r2.length<2^22
 az:A<2^22
def D0(K:Fs)(C:Fo):Sp:=λvs H Q _=>∃x p B F st g A k,vs=[.ref x]/\Rep K C p B F H x st g/\Sta p st A k/\k<st.me.length/\
 ∀H' F' j,zm F F'->Rep K C p B F' H' x j g->Sta p j A (k+1)->j.me=wo (prR p.r1 p.r2) st.me k->Q .non H'
theorem dR:∀(j o:List Nat),(j.foldl zQ o).length<=o.length+j.length
 | [],o=>FA _
 | a::r,o=>by
  have h1:=dR r (zQ o a)
  have h2:(zQ o a).length<=o.length+1:=by unfold zQ;split <;>simp
  show(r.foldl zQ (zQ o a)).length<=_
  rw[Gu];omega
def gY{p:Par}{st:PSt}{s t:Nat}:(wD p st s t).me=zQ st.me (s*p.r2.length+t):=by
 unfold wD zQ;split <;>rfl
def tE{p:Par}{st:PSt}{s t:Nat}(h:st.nu=st.me):(wD p st s t).nu=(wD p st s t).me:=by
 unfold wD;split
 ·exact h
 ·show st.nu++_=st.me++_;rw[h]
def tF{p:Par}{st:PSt}{s t:Nat}(ht:t<p.r2.length)(h:st.mr=st.me.map λq=>xn p (q/p.r2.length) (q%p.r2.length)):(wD p st s t).mr=(wD p st s t).me.map λq=>xn p (q/p.r2.length) (q%p.r2.length):=by
 unfold wD;split
 ·exact h
 ·show st.mr++_=(st.me++_).map _
  rw[GO,h,PB,(Hop.Yv ht).1,(Hop.Yv ht).2]
def gZ{p:Par}{st:PSt}{s t:Nat}:(wD p st s t).rs=st.rs/\(wD p st s t).rows=st.rows:=by
 unfold wD;split <;>exact⟨rfl,rfl⟩
def qc{K:Fs}{C:Fo}{B F H:Hp}{x:Fo}{p:Par}{st:PSt}{g:Ads}{A:Nat}{a1 a2:Fo}{row1 row2:List Nat}(r:Rep K C p B F H x st g)(h1:F a1=some (.tup (zF row1)))(h2:F a2=some (.tup (zF row2)))(l1:row1.length=A)(l2:row2.length=A) 
  (lb1:p.b1.length=p.r1.length) (lb2:p.b2.length=p.r2.length) (lt1:∀i,i<A->row1.getD i 0<p.r1.length) (lt2:∀i,i<A->row2.getD i 0<p.r2.length) (hz:p.r2.length<2^22) (hA:A<2^22) (hm:st.me.length<=2^22)
  (nm:st.nu=st.me) (mr:st.mr=st.me.map λq=>xn p (q/p.r2.length) (q%p.r2.length)) {Fin:List V->Hp->Prop}
  (h:∀F' H' st',zm F F'->Rep K C p B F' H' x st' g->st'.me=(Hop.wy p.r2.length row1 row2).foldl zQ st.me->st'.nu=st'.me->(st'.mr=st'.me.map λq=>xn p (q/p.r2.length) (q%p.r2.length))->st'.rs=st.rs->st'.rows=st.rows->Fin (zF ((Hop.wy p.r2.length row1 row2).map st'.me.idxOf)) H') :
  VB (Itz (λH xs=>SqT K H a1 xs) λH ys=>SqT K H a2 ys) (nO K 2 (Vs (vl 0) (Vs (vl 1) nN))) Yh (JG C "number_of" (lg K C) [] E0 (vK 2) (uz (vK 0) (uz (vK 1) YS))) [none,none,some (.ref x)] H Fin:=by
 have gl:(Hop.wy p.r2.length row1 row2).length=A:=Hop.bV l1 l2
 have szl:Fv=16777216:=rfl
 refine⟨λi m ys H1=>m=A-i/\i<=A/\∃F1 st1,zm F F1/\Rep K C p B F1 H1 x st1 g/\st1.me=((Hop.wy p.r2.length row1 row2).take i).foldl zQ st.me/\st1.nu=st1.me/\(st1.mr=st1.me.map λq=>xn p (q/p.r2.length) (q%p.r2.length))/\st1.rs=st.rs/\st1.rows=st.rows/\ys=zF (((Hop.wy p.r2.length row1 row2).take i).map st1.me.idxOf),
  ⟨A,by simp,GI _,F,st,zm.refl _,r,rfl,nm,mr,rfl,rfl,rfl⟩,?_⟩
 rintro i m ys H1 ⟨rfl,hi,F1,st1,sm1,r1,me1,nm1,mr1,rs1,rw1,rfl⟩
 have hyl:(zF (((Hop.wy p.r2.length row1 row2).take i).map st1.me.idxOf)).length=i:=by simp[gl];omega
 refine⟨by rw[hyl];omega,?_⟩
 have s1:SqT K H1 a1 (zF row1):=SqT.of (r1.sm _ _ (sm1 _ _ h1))
 have s2:SqT K H1 a2 (zF row2):=SqT.of (r1.sm _ _ (sm1 _ _ h2))
 by_cases hlt:i<A
 ·have e1:(zF row1)[i]?=some (.int (row1.getD i 0:Nat)):=by rw[FP,getD_some (d:=0) (show i<row1.length by omega)];rfl
  have e2:(zF row2)[i]?=some (.int (row2.getD i 0:Nat)):=by rw[FP,getD_some (d:=0) (show i<row2.length by omega)];rfl
  refine .inr ⟨⟨_,_,_,_,s1,s2,e1,e2⟩,λy H' yl=>?_⟩
  obtain⟨T,u,v,hT,rfl,rfl,hu,hv⟩:=yl
  have eu:=(hu _ s1).symm.trans e1
  have ev:=(hv _ s2).symm.trans e2
  cases eu
  cases ev
  have r2:=r1.ext hT (.tup [.int (row1.getD i 0:Nat),.int (row2.getD i 0:Nat)])
  have smT:zm F1 (upd F1 T (.tup [.int (row1.getD i 0:Nat),.int (row2.getD i 0:Nat)])):=zz (r1.sm.free hT) _
  have ml:st1.me.length<=2^22+A:=by
   rw[me1]
   have:=dR ((Hop.wy p.r2.length row1 row2).take i) st.me
   rw[HP,gl]at this
   omega
  have hmrl:st1.mr.length=st1.me.length:=by rw[mr1,FF]
  have et:(Hop.wy p.r2.length row1 row2).take (i+1)=(Hop.wy p.r2.length row1 row2).take i++[row1.getD i 0*p.r2.length+row2.getD i 0]:=by
   rw[Kt (by omega),<-Hop.yN (by omega),Hop.bW l1 l2 hlt]
  have men:(wD p st1 (row1.getD i 0) (row2.getD i 0)).me=((Hop.wy p.r2.length row1 row2).take (i+1)).foldl zQ st.me:=by
   rw[gY,me1,et,IV];rfl
  refine⟨T,_,rfl,SqT.of zj,rfl,_,_,rfl,_,_,rfl,rfl,⟨rfl,λj v hj=>?_⟩,(show _ from ?_)⟩
  ·match j,hj with
   | 0,hj=>simp at hj
   | 1,hj=>simp at hj
   | 2,hj=>exact hj
   | j+3,hj=>simp at hj
  ·refine⟨_,rfl,x,g.dx,_,rfl,r2.ins,rfl,_,rfl,_,rfl,x,row1.getD i 0,row2.getD i 0,p,B,_,st1,g,rfl,r2,nm1,by rw[lb1];exact lt1 i hlt,by rw[lb2];exact lt2 i hlt,hz,by omega,by omega,λH3 F3 sm3 r3=>⟨by rw[hyl];omega,A-(i+1),by omega,rfl,hlt,F3,_,(sm1.trans smT).trans sm3,r3,men,tE nm1,tF (lt2 i hlt) mr1,gZ.1.trans rs1,gZ.2.trans rw1,?_⟩⟩
   have pre:st1.me<+: (wD p st1 (row1.getD i 0) (row2.getD i 0)).me:=by rw[gY];exact Hop.Xr
   rw[et,GO,PB]
   have em:((Hop.wy p.r2.length row1 row2).take i).map (wD p st1 (row1.getD i 0) (row2.getD i 0)).me.idxOf=((Hop.wy p.r2.length row1 row2).take i).map st1.me.idxOf:=G5 λq hq=>Hop.Yw pre (by rw[me1];exact Hop.bY _ _ hq)
   rw[em]
   show _=L6 _ (_++_)
   rw[GO]
   rfl
 ·have e:i=A:=by omega
  subst e
  refine .inl ⟨⟨_,_,s1,s2,.inl (by simp[zF,l1])⟩,?_⟩
  rw[K5 (by omega)]at me1 ⊢
  exact h F1 H1 st1 sm1 r1 me1 nm1 mr1 rs1 rw1
def rn{P:FI}{w:FB}{K:Fs}{mg:Fp->Option Fl}{base:Fz}{fa fn C:Fo}{fd dn:Ga}(Fn:Fun K "go_on" "Pairs.go_on" lh fa fd)(T:PCl K C)(hlen:mg "len"=none)(hdm:mg "divmod"=none)(hzip:mg "zip"=none)(htup:mg "tuple"=none) 
  (Nm:Fun K "number_of" "Pairs.number_of" WL fn dn) (mn:Meth K C "number_of" fn):FnOk P w K mg base CX0 2 fa fd ["self"] (D0 K C) :=
 Fn.ok (k:=1) J3 (λvs H Q E ⟨x,p,B,F,st,g,A,k,e,_⟩=>by rw[e];rfl) λcdv A0 outer sh H vs Q E hr hh80'=>by
  obtain⟨x,p,B,F,st,g,A,k,e,r,S,hk,q⟩:=hh80'
  subst e
  have bn:yD K dn ["self","stand","other"] []:=Nm.binds λ_ _ _ _ _ _ us hl=>match us,hl with|[_,_,_],_=>rfl
  refine⟨_,zw (yZ (i:=1) J3.nd rfl (Or.inl rfl) (xi eE rfl hdm boot_divmod (zi (xo xQ (zU (pv 0) rfl) (xi zy rfl hlen Gg (zi (zU (pv 0) rfl) zu)) (λ_ _=>rfl)) (zi (xi zy rfl hlen Gg (zi (zU (pv 0) rfl) zu)) zu))))
   (zw (yZ (i:=2) J3.nd rfl (Or.inl rfl) (xo wR (zU (pv 0) rfl) (xo wR (pv 1) wd (λ_ _=>rfl)) (λ_ _=>rfl)))
   (zw (yZ (i:=3) J3.nd rfl (Or.inl rfl) (xo wR (zU (pv 0) rfl) (xo wR (pv 1) wd (λ_ _=>rfl)) (λ_ _=>rfl)))
   (zR (yL (xJ GC GM GU yA (zU (pv 0) rfl) (zi (ZK xx rfl htup HM (zi (fG (N:=["stand","other","self"]) (ms:=[none,none,some 0]) (g:=nO K 2 (Vs (vl 0) (Vs (vl 1) nN))) (tf:=Yh) (te:=JG C "number_of" (lg K C) [] E0 (vK 2) (uz (vK 0) (uz (vK 1) YS))) rfl (CompOk.of (by rfl)) (gE rfl hzip (zi (pv 2) (zi (pv 3) zu)))
    (by
     intro cl C1 s1 H1 ex
     exact⟨Xu rfl (wN (xH (i:=0) (show(["stand","other","self"]:List Fp).Nodup by decide+kernel) rfl (Or.inl rfl)) (wN (xH (i:=1) (show(["stand","other","self"]:List Fp).Nodup by decide+kernel) rfl (Or.inl rfl)) Yd)),VA,Yf (pv 2) T.cl mn (nE Nm T hlen) hr bn .nil yO (zi (pv 0) (zi (pv 1) zu))⟩)) zu)) zu)))))),?_⟩
  obtain⟨rs1,hr1,hl1,hrow1⟩:=id r.w1
  obtain⟨rs2,hr2,hl2,hrow2⟩:=id r.w2
  have hkr:st.rows.length=k:=by rw[S.rw];exact Hop.X0 (G9 hk)
  have hlr:(st.rs.map V.ref).length=k:=by rw[FF,r.rl,hkr]
  have hpl:st.me.getD k 0<p.r1.length*p.r2.length:=by
   have:=S.bi.lt _ (Hop.wb hk)
   rwa [Hop.Zc]at this
  obtain⟨hd1,hd2⟩:=Hop.Xa S.ok2 hpl
  refine⟨_,rfl,x,C,g.dx,_,_,rfl,r.ins,T.cl,T.n7,rfl,_,rfl,x,C,g.dx,_,_,rfl,r.ins,T.cl,T.n9,rfl,g.ro,_,rfl,.inl (SqL.of r.ro),g.me,_,_,.int (st.me.getD k 0:Nat),rfl,rfl,SqL.of r.me,?_,_,rfl,x,C,g.dx,_,_,rfl,r.ins,T.cl,T.n3,rfl,g.r2,_,rfl,.inr (SqT.of (r.sm _ _ hr2)),(st.me.getD k 0:Int),(p.r2.length:Int),by rw[FF,hl2],?_,λtp htp=>?_⟩
  ·rw[hlr]
   exact xf (by rw[FP,getD_some (d:=0) hk];rfl)
  ·have h1:=S.ok1.pos
   have h2:=S.ok2.pos
   have:=S.sz
   have:1*p.r2.length<=p.r1.length*p.r2.length:=K2 _ h1
   exact⟨by omega,by omega⟩
  have r1:=r.ext htp (.tup [.int ((st.me.getD k 0/p.r2.length:Nat):Int),.int ((st.me.getD k 0%p.r2.length:Nat):Int)])
  generalize hp1:st.me.getD k 0/p.r2.length=s1 at r1 hd1
  generalize hp2:st.me.getD k 0%p.r2.length=t1 at r1 hd2
  have eH:upd H tp (HO.tup [V.int ((st.me.getD k 0:Int)/(p.r2.length:Int)),V.int ((st.me.getD k 0:Int)%(p.r2.length:Int))])=upd H tp (.tup [.int (s1:Int),.int (t1:Int)]):=by rw[<-hp1,<-hp2];rfl
  rw[eH]
  have hrs1:rs1[s1]?=some (rs1[s1]'(by rw[hl1];exact hd1)):=FU _
  have hrs2:rs2[t1]?=some (rs2[t1]'(by rw[hl2];exact hd2)):=FU _
  generalize rs1[s1]'(by rw[hl1];exact hd1)=a1 at hrs1
  generalize rs2[t1]'(by rw[hl2];exact hd2)=a2 at hrs2
  have smF:zm F (upd F tp (.tup [.int (s1:Int),.int (t1:Int)])):=zz (r.sm.free htp) _
  refine⟨_,rfl,x,C,g.dx,_,_,rfl,r1.ins,T.cl,T.n1,rfl,_,rfl,tp,_,_,.int (s1:Int),rfl,rfl,SqT.of zj,rfl,g.r1,_,_,.ref a1,rfl,rfl,SqT.of (r1.sm _ _ (smF _ _ hr1)),xf (by rw[FP,hrs1];rfl),?_⟩
  refine⟨_,rfl,x,C,g.dx,_,_,rfl,r1.ins,T.cl,T.n3,rfl,_,rfl,tp,_,_,.int (t1:Int),rfl,rfl,SqT.of zj,rfl,g.r2,_,_,.ref a2,rfl,rfl,SqT.of (r1.sm _ _ (smF _ _ hr2)),xf (by rw[FP,hrs2];rfl),?_⟩
  have hw1:=smF _ _ (hrow1 s1 a1 hrs1)
  have hw2:=smF _ _ (hrow2 t1 a2 hrs2)
  have le1:=S.ok1.len s1 hd1
  have le2:=S.ok2.len t1 hd2
  have hz2:p.r2.length<2^22:=by
   have h1:=S.ok1.pos
   have:=S.sz
   have:1*p.r2.length<=p.r1.length*p.r2.length:=K2 _ h1
   omega
  have hme:st.me.length<=2^22:=by
   have:=Hop.Ve S.bi
   rw[Hop.Zc]at this
   have:=S.sz
   omega
  have epr:(prR p.r1 p.r2).getD (st.me.getD k 0) []=Hop.wy p.r2.length (p.r1.getD s1 []) (p.r2.getD t1 []):=by rw[Hop.U9 hpl,hp1,hp2]
  refine⟨_,rfl,x,C,g.dx,_,_,rfl,r1.ins,T.cl,T.n9,rfl,.inl ⟨rfl,_,SqL.of r1.ro⟩,_,rfl,_,rfl,a1,a2,rfl,⟨_,SqT.of (r1.sm _ _ hw1)⟩,⟨_,SqT.of (r1.sm _ _ hw2)⟩,?_⟩
  refine qc r1 hw1 hw2 le1 le2 S.l1 S.l2 (λi hi=>S.ok1.lt i s1 hi hd1) (λi hi=>S.ok2.lt i t1 hi hd2) hz2 S.az hme S.nm S.mr λF2 H2 st2 sm2 r2 me2 nm2 mr2 rs2' rw2 l hl=>?_
  rw[<-epr]at me2
  have r3:=r2.ext hl (.lst (zF ((Hop.wy p.r2.length (p.r1.getD s1 []) (p.r2.getD t1 [])).map st2.me.idxOf)))
  refine⟨l,_,rfl,.inl ⟨SqL.of zj,λtu htu=>?_⟩⟩
  have r4:=r3.ext htu (.tup (zF ((Hop.wy p.r2.length (p.r1.getD s1 []) (p.r2.getD t1 [])).map st2.me.idxOf)))
  have r5:=r4.setRo (t:=tu) (row:=(Hop.wy p.r2.length (p.r1.getD s1 []) (p.r2.getD t1 [])).map st2.me.idxOf) zj (r3.bs.free (r3.sm.free htu))
  have hrl:(st2.rs.map V.ref).length<Fv:=by
   have szl:Fv=16777216:=rfl
   rw[FF,rs2',r.rl,hkr];omega
  refine⟨g.ro,_,_,rfl,rfl,r4.ro,hrl,?_⟩
  rw[show st2.rs.map V.ref++[V.ref tu]=(st2.rs++[tu]).map V.ref from by simp]
  refine q _ _ _ ?_ r5 ?_ me2
  ·have s3:zm F2 _:=zz (r2.sm.free hl) (.lst (zF ((Hop.wy p.r2.length (p.r1.getD s1 []) (p.r2.getD t1 [])).map st2.me.idxOf)))
   exact((smF.trans sm2).trans s3).trans (zz (r3.sm.free htu) _)
  ·refine⟨S.ok1,S.ok2,S.l1,S.l2,nm2,?_,mr2,?_,S.sz,S.az⟩
   ·show BI _ A _ (k+1) 0 st2.me
    rw[me2]
    exact Hop.pe (Hop.uJ S.ok1 S.ok2) S.bi hk
   ·show st2.rows++[_]=xE _ st2.me (k+1)
    have me2':st2.me=wo (prR p.r1 p.r2) st.me k:=me2
    rw[rw2,S.rw,me2',<-Hop.jP (Hop.uJ S.ok1 S.ok2) S.bi hk,epr]
end Pq
namespace Pq
open PySem PySem.Spec L2 DD
open PyProof.Rows hiding St
open Pt (zF getD_some yw ya xP yp Yu Zx)
open Hop (zQ prR wo xE OkR BI)
def dU{K:Fs}{F:Hp}{v:V}{A:Int}{R:List D}{Z:D}{rows:List (List Nat)}(h:Is K F (.tup [.int A,.tup R,Z]) v)(hr:xP R=some rows):∃z J O,v=.ref z/\F z=some (.tup [.int A,.ref J,O])/\Rw F J rows:=by
 simp only[Is]at h
 obtain⟨z,vs,rfl,hf,j⟩:=h
 obtain⟨v1,q1,rfl,i1,j⟩:=j.inv
 obtain⟨v2,q2,rfl,i2,j⟩:=j.inv
 obtain⟨O,q3,rfl,i3,j⟩:=j.inv
 cases j.inv0
 simp only[Is]at i1 i2
 obtain⟨J,ws,rfl,U,Y⟩:=i2
 obtain⟨rs,rfl,e2,e3⟩:=Yu hr Y
 subst i1
 exact⟨z,J,O,rfl,hf,rs,U,e2,e3⟩
structure Ini (C:Fo) (B F H:Hp) (x dx:Fo) (fs:List (Fp×V)):Prop where
 bs:zm B F
 sm:zm F H
 hx:H x=some (.ins C dx fs)
 f0:F x=none
section
variable {C:Fo} {B F H F' H':Hp} {x dx:Fo} {fs fs':List (Fp×V)}
def Ini.put(i:Ini C B F H x dx fs)(fs':List (Fp×V)):Ini C B F (upd H x (.ins C dx fs')) x dx fs':=⟨i.bs,yw i.sm i.f0 _,zj,i.f0⟩
def Ini.call(i:Ini C B F H x dx fs)(e:Ext F H F' H'):Ini C B F' H' x dx fs:=⟨i.bs.trans e.ff,e.fh,e.hh _ _ i.hx,by
 cases h:F' x with
 | none=>rfl
 | some o=>exact absurd (e.new x i.f0 (by rw[h];exact λz=>nomatch z)) (by rw[i.hx];exact λz=>nomatch z)⟩
def Ini.new(i:Ini C B F H x dx fs)(j:H a=none)(o:HO):Ini C B F (upd H a o) x dx fs:=⟨i.bs,λb u q=>by rw[zd (zn (i.sm _ _ q) j)];exact i.sm _ _ q,by rw[zd (zn i.hx j)];exact i.hx,i.f0⟩
def WM(i:Ini C B F H x dx fs)(j:H a=none)(o:HO)(fs':List (Fp×V)):upd (upd H a o) x (.ins C dx fs') a=some o:=(zd (FH (zn i.hx j))).trans zj
def Zh(i:Ini C B F H x dx fs)(z:H a=none)(o:HO)(fs':List (Fp×V))(j:H b=some u)(J:b≠x):upd (upd H a o) x (.ins C dx fs') b=some u:=(zd J).trans ((zd (zn j z)).trans j)
end
abbrev ub:FC:=Xo 0
def Zi:FnScope ["self","one","other","wanted"] ["self","one","other","wanted"] (zl ub):=⟨rfl,rfl,rfl,by decide+kernel,rfl,by decide+kernel,by decide+kernel⟩
def dW(K:Fs)(C:Fo)(z:List D->Option D):Sp:=λvs H Q _=>∃x dx J O U p A B F j R2 g1 g2 Y Z,vs=[.ref x,J,O,.ref U]/\Ini C B F H x dx []/\Is K F (.tup [.int (A:Nat),.tup j,g1]) J/\Is K F (.tup [.int (A:Nat),.tup R2,g2]) O/\xP j=some p.r1/\xP R2=some p.r2/\
 z [.tup [.int (A:Nat),.tup j,g1]]=some (.lst Y)/\z [.tup [.int (A:Nat),.tup R2,g2]]=some (.lst Z)/\yp Y=some p.b1/\yp Z=some p.b2/\KW K U p.wt/\OkR A p.r1/\OkR A p.r2/\p.b1.length=p.r1.length/\p.b2.length=p.r2.length/\p.r1.length*p.r2.length<2^22/\A<2^22/\
 ∀H' F' st g,Rep K C p B F' H' x st g->Sta p st A 0->st.me=[0]->Q .non H'
def JB{K:Fs}{F:Hp}{v:V}{j:List D}{b:List Bool}(h:Is K F (.lst j) v)(J:yp j=some b):∃m,v=.ref m/\F m=some (.lst (b.map V.bl)):=by
 simp only[Is]at h
 obtain⟨m,ws,rfl,z,O⟩:=h
 rw[Zx J O]at z
 exact⟨m,rfl,z⟩
def QC{P:FI}{w:FB}{K:Fs}{mg:Fp->Option Fl}{base:Fz}{fa fn C:Fo}{fd dn:Ga}{km:Nat}{mm:List D->Option D}(Fn:Fun K "__init__" "Pairs.__init__" ub fa fd)(T:PCl K C)(hlen:mg "len"=none) 
  (Nm:Fun K "number_of" "Pairs.number_of" WL fn dn) (mn:Meth K C "number_of" fn) (Cm:Callee P w K mg base km "marks_of" mm) (hkm:1<=km):FnOk P w K mg base CX0 (km+1) fa fd ["self","one","other","wanted"] (dW K C mm) :=
 Fn.ok (k:=km) Zi (λvs H Q E ⟨x,dx,v1,v2,wn,p,A,B,F,R1,R2,g1,g2,B1,B2,e,_⟩=>by rw[e];rfl) λcdv A0 outer sh H vs Q E hr hh81'=>by
  obtain⟨x,dx,v1,v2,wn,p,A,B,F,R1,R2,g1,g2,B1,B2,e,i0,d1,d2,hr1,hr2,hm1,hm2,hb1,hb2,hw,ok1,ok2,l1,l2,sz,az,q⟩:=hh81'
  subst e
  obtain⟨fm,dm,pm,Fm,gm,kpm,bm⟩:=Cm.ex
  have bn:yD K dn ["self","stand","other"] []:=Nm.binds λ_ _ _ _ _ _ us hl=>match us,hl with|[_,_,_],_=>rfl
  refine⟨_,zw (wL (pv 0) (xo wR (pv 1) wd (λ_ _=>rfl)) rfl) (zw (wL (pv 0) (xj Fm hr rfl gm kpm bm .nil yO (zi (pv 1) zu)) rfl) (zw (wL (pv 0) (xo wR (pv 2) wd (λ_ _=>rfl)) rfl) (zw (wL (pv 0) (xj Fm hr rfl gm kpm bm .nil yO (zi (pv 2) zu)) rfl)
   (zw (wL (pv 0) (pv 3) rfl) (zw (wL (pv 0) uk rfl) (zw (wL (pv 0) (vC zu) rfl) (zw (wL (pv 0) (vC zu) rfl) (zw (wL (pv 0) (vC zu) rfl)
   (zR (yL (Yf (pv 0) T.cl mn (nE Nm T hlen) (hr.mono hkm) bn .nil yO (zi wd (zi wd zu))))))))))))),?_⟩
  obtain⟨o1,ra1,w3,rfl,ho1,rw1⟩:=dU d1 hr1
  obtain⟨o2,ra2,w4,rfl,ho2,rw2⟩:=dU d2 hr2
  refine⟨_,rfl,o1,_,_,.ref ra1,rfl,rfl,SqT.of (i0.sm _ _ ho1),rfl,_,rfl,x,C,dx,_,rfl,i0.hx,T.cl,T.n1,by simp,?_⟩
  have i1:=i0.put [("one_rows",.ref ra1)]
  refine⟨_,rfl,F,_,_,i1.sm,.cons d1 .nil,hm1,λv F2 H2 e2 iv=>?_⟩
  obtain⟨m1,rfl,hm1'⟩:=JB iv hb1
  have i2:=i1.call e2
  refine⟨_,rfl,x,C,dx,_,rfl,i2.hx,T.cl,T.n2,by simp,?_⟩
  have i3:=i2.put [("one_rows",.ref ra1),("one_marks",.ref m1)]
  refine⟨_,rfl,o2,_,_,.ref ra2,rfl,rfl,SqT.of (i3.sm _ _ (e2.ff _ _ ho2)),rfl,_,rfl,x,C,dx,_,rfl,i3.hx,T.cl,T.n3,by simp,?_⟩
  have i4:=i3.put [("one_rows",.ref ra1),("one_marks",.ref m1),("other_rows",.ref ra2)]
  refine⟨_,rfl,F2,_,_,i4.sm,.cons (Is.mono e2.ff _ d2) .nil,hm2,λv F3 H3 e3 iv=>?_⟩
  obtain⟨m2,rfl,hm2'⟩:=JB iv hb2
  have i5:=i4.call e3
  refine⟨_,rfl,x,C,dx,_,rfl,i5.hx,T.cl,T.n4,by simp,?_⟩
  have i6:=i5.put [("one_rows",.ref ra1),("one_marks",.ref m1),("other_rows",.ref ra2),("other_marks",.ref m2)]
  refine⟨_,rfl,_,rfl,x,C,dx,_,rfl,i6.hx,T.cl,T.n5,by simp,?_⟩
  have i7:=i6.put [("one_rows",.ref ra1),("one_marks",.ref m1),("other_rows",.ref ra2),("other_marks",.ref m2),("wanted",.ref wn)]
  refine λnu hnu=>⟨_,rfl,x,C,dx,_,rfl,(i7.new hnu _).hx,T.cl,T.n6,by simp,?_⟩
  have i8:=(i7.new hnu (.dK [])).put [("one_rows",.ref ra1),("one_marks",.ref m1),("other_rows",.ref ra2),("other_marks",.ref m2),("wanted",.ref wn),("numbers",.ref nu)]
  have xnu:nu≠x:=FH (zn i7.hx hnu)
  refine⟨by simp,λme hme=>⟨_,rfl,x,C,dx,_,rfl,(i8.new hme _).hx,T.cl,T.n7,by simp,?_⟩⟩
  have i9:=(i8.new hme (.lst [])).put [("one_rows",.ref ra1),("one_marks",.ref m1),("other_rows",.ref ra2),("other_marks",.ref m2),("wanted",.ref wn),("numbers",.ref nu),("met",.ref me)]
  refine⟨by simp,λmr hmr=>⟨_,rfl,x,C,dx,_,rfl,(i9.new hmr _).hx,T.cl,T.n8,by simp,?_⟩⟩
  have i10:=(i9.new hmr (.lst [])).put [("one_rows",.ref ra1),("one_marks",.ref m1),("other_rows",.ref ra2),("other_marks",.ref m2),("wanted",.ref wn),("numbers",.ref nu),("met",.ref me),("marks",.ref mr)]
  refine⟨by simp,λro hro=>⟨_,rfl,x,C,dx,_,rfl,(i10.new hro _).hx,T.cl,T.n9,by simp,?_⟩⟩
  have i11:=(i10.new hro (.lst [])).put (Z6 ⟨dx,ra1,m1,ra2,m2,wn,nu,me,mr,ro⟩)
  have xme:me≠x:=FH (zn i8.hx hme)
  have xmr:mr≠x:=FH (zn i9.hx hmr)
  have xro:ro≠x:=FH (zn i10.hx hro)
  have k8:=WM i7 hnu (.dK []) [("one_rows",.ref ra1),("one_marks",.ref m1),("other_rows",.ref ra2),("other_marks",.ref m2),("wanted",.ref wn),("numbers",.ref nu)]
  have k9:=Zh i8 hme (.lst []) [("one_rows",.ref ra1),("one_marks",.ref m1),("other_rows",.ref ra2),("other_marks",.ref m2),("wanted",.ref wn),("numbers",.ref nu),("met",.ref me)] k8 xnu
  have j9:=WM i8 hme (.lst []) [("one_rows",.ref ra1),("one_marks",.ref m1),("other_rows",.ref ra2),("other_marks",.ref m2),("wanted",.ref wn),("numbers",.ref nu),("met",.ref me)]
  have k10:=Zh i9 hmr (.lst []) [("one_rows",.ref ra1),("one_marks",.ref m1),("other_rows",.ref ra2),("other_marks",.ref m2),("wanted",.ref wn),("numbers",.ref nu),("met",.ref me),("marks",.ref mr)] k9 xnu
  have j10:=Zh i9 hmr (.lst []) [("one_rows",.ref ra1),("one_marks",.ref m1),("other_rows",.ref ra2),("other_marks",.ref m2),("wanted",.ref wn),("numbers",.ref nu),("met",.ref me),("marks",.ref mr)] j9 xme
  have z10:=WM i9 hmr (.lst []) [("one_rows",.ref ra1),("one_marks",.ref m1),("other_rows",.ref ra2),("other_marks",.ref m2),("wanted",.ref wn),("numbers",.ref nu),("met",.ref me),("marks",.ref mr)]
  have k11:=Zh i10 hro (.lst []) (Z6 ⟨dx,ra1,m1,ra2,m2,wn,nu,me,mr,ro⟩) k10 xnu
  have j11:=Zh i10 hro (.lst []) (Z6 ⟨dx,ra1,m1,ra2,m2,wn,nu,me,mr,ro⟩) j10 xme
  have z11:=Zh i10 hro (.lst []) (Z6 ⟨dx,ra1,m1,ra2,m2,wn,nu,me,mr,ro⟩) z10 xmr
  have y11:=WM i10 hro (.lst []) (Z6 ⟨dx,ra1,m1,ra2,m2,wn,nu,me,mr,ro⟩)
  have rep:Rep K C p B F3 _ x ⟨[],[],[],[],[]⟩ ⟨dx,ra1,m1,ra2,m2,wn,nu,me,mr,ro⟩:=⟨i11.bs,i11.sm,i11.hx,(rw1.mono e2.ff).mono e3.ff,(rw2.mono e2.ff).mono e3.ff,e3.ff _ _ hm1',hm2',hw,k11,j11,z11,y11,rfl,λi a h=>by simp at h,λa h=>by simp at h,zn j9 hmr,zn j10 hro,zn z10 hro,i11.f0,i7.sm.free hnu,i8.sm.free hme,i9.sm.free hmr,i10.sm.free hro⟩
  refine⟨_,rfl,x,dx,_,rfl,rep.ins,rfl,x,0,0,p,B,F3,_,_,rfl,rep,rfl,by rw[l1];exact ok1.pos,by rw[l2];exact ok2.pos,?_,by decide,by decide,λH' F' sm' r'=>?_⟩
  ·have h1:=ok1.pos
   have:1*p.r2.length<=p.r1.length*p.r2.length:=K2 _ h1
   omega
  ·have e0:wD p ⟨[],[],[],[],[]⟩ 0 0=⟨[0],[0],[xn p 0 0],[],[]⟩:=by unfold wD;simp
   rw[e0]at r'
   refine q H' F' _ _ r' ⟨ok1,ok2,l1,l2,rfl,Hop.Y7 (by rw[Hop.Zc];exact O9 ok1.pos ok2.pos),?_,?_,sz,az⟩ rfl
   ·show [xn p 0 0]=L6 _ [0]
    simp
   ·show []=xE _ [0] 0
    rfl
structure JM (P:FI) (w:FB) (K:Fs) (mg:Fp->Option Fl) (base:Fz) (C fi fn fo fg:Fo) (di dn do_ dg:Ga) (k:Nat) (ck ls mm lr:List D->Option D):Prop where
 pc:PCl K C
 mgC:mg "Pairs"=some (.ref C)
 mkc:Mk K C fi
 init:Fun K "__init__" "Pairs.__init__" ub fi di
 mn:Meth K C "number_of" fn
 num:Fun K "number_of" "Pairs.number_of" WL fn dn
 mo:Meth K C "has_more" fo
 more:Fun K "has_more" "Pairs.has_more" UF fo do_
 mgo:Meth K C "go_on" fg
 go:Fun K "go_on" "Pairs.go_on" lh fg dg
 len:mg "len"=none
 dvm:mg "divmod"=none
 zip:mg "zip"=none
 tup:mg "tuple"=none
 cck:Callee P w K mg base k "checked_reader" ck
 cls:Callee P w K mg base k "least" ls
 cmm:Callee P w K mg base k "marks_of" mm
 clr:Callee P w K mg base k "least_reader" lr
 k2:2<=k
def at0{v:V}{r:List V}:L2.atI (v::r) 0=some v:=by
 have:=xf (xs:=v::r) (j:=0) (v:=v) rfl
 exact this
abbrev vt:FC:=Pt.top 48
def qd:FnScope ["one","other","wanted"] ["one","other","wanted"] (zl vt):=⟨rfl,rfl,rfl,by decide+kernel,rfl,by decide+kernel,by decide+kernel⟩
def tG(K:Fs)(C:Fo)(U Y Z:List D->Option D):Sp:=λvs H Q _=>∃z J O one j p A,vs=[z,J,.ref O]/\Is K H one z/\Is K H j J/\JOk U Y Z one j p A/\KW K O p.wt/\
 ∀x H' F' st g,Rep K C p H F' H' x st g->Sta p st A 0->st.me=[0]->Q (.ref x) H'
def dX{P:FI}{w:FB}{K:Fs}{mg:Fp->Option Fl}{base:Fz}{fa C fi fn fo fg:Fo}{fd di dn do_ dg:Ga}{k:Nat}{ck ls mm lr:List D->Option D}(Fn:Fun K "pairs_of" "pairs_of" vt fa fd)(M:JM P w K mg base C fi fn fo fg di dn do_ dg k ck ls mm lr):
  FnOk P w K mg base CX0 (k+3) fa fd ["one","other","wanted"] (tG K C ck ls mm) :=
 Fn.ok (k:=k+2) qd (λvs H Q E ⟨v1,v2,wn,one,oth,p,A,e,_⟩=>by rw[e];rfl) λcdv A0 outer sh H vs Q E hr hh82'=>by
  obtain⟨v1,v2,wn,one,oth,p,A,e,i1,i2,J,hw,q⟩:=hh82'
  subst e
  obtain⟨f1,e1,ps1,F1,g1,kp1,b1⟩:=M.cck.ex
  obtain⟨f2,e2,ps2,F2,g2,kp2,b2⟩:=M.cls.ex
  have bi:yD K di ["self","one","other","wanted"] []:=M.init.binds λ_ _ _ _ _ _ us hl=>match us,hl with|[_,_,_,_],_=>rfl
  have hrk:=hr.mono (show k<=k+2 by omega)
  refine⟨_,zw (yL (xj F1 hrk rfl g1 kp1 b1 .nil yO (zi (pv 0) zu))) (zw (yL (xj F1 hrk rfl g1 kp1 b1 .nil yO (zi (pv 1) zu)))
   (zw (YN (Ye BR (xo wR (pv 0) wd (λ_ _=>rfl)) (xo wR (pv 1) wd (λ_ _=>rfl)) (yk _)) (zR nL) u8)
   (zR (wu (eZ M.mkc (QC M.init M.pc M.len M.num M.mn M.cmm (by have:=M.k2;omega)) hr rfl M.mgC bi .nil yO (zi (xj F2 hrk rfl g2 kp2 b2 .nil yO (zi (pv 0) zu)) (zi (xj F2 hrk rfl g2 kp2 b2 .nil yO (zi (pv 1) zu)) (zi (pv 2) zu)))))))),?_⟩
  obtain⟨t1,t2,c1,c2,R1,R2,G1,G2,B1,B2,rfl,rfl,h1,h2,h3,h4,h5,h6,h7,h8,h9,h10⟩:=J.ex
  refine⟨_,rfl,H,_,_,zm.refl _,.cons i1 .nil,h1,λu1 Fa Ha ea _=>?_⟩
  refine⟨_,rfl,Fa,_,_,ea.fh,.cons (Is.mono ea.ff _ i2) .nil,h2,λu2 Fb Hb eb _=>?_⟩
  have sb:zm H Fb:=ea.ff.trans eb.ff
  have j1:=i1
  have j2:=i2
  simp only[Is]at j1 j2
  obtain⟨o1,vs1,rfl,hf1,ar1⟩:=j1
  obtain⟨o2,vs2,rfl,hf2,ar2⟩:=j2
  obtain⟨w1,q1,rfl,k1,_⟩:=ar1.inv
  obtain⟨w2,q2,rfl,k2,_⟩:=ar2.inv
  simp only[Is]at k1 k2
  subst k1 k2
  refine⟨_,rfl,o1,_,_,.int (A:Int),rfl,rfl,SqT.of (eb.fh _ _ (sb _ _ hf1)),at0,_,rfl,o2,_,_,.int (A:Int),rfl,rfl,SqT.of (eb.fh _ _ (sb _ _ hf2)),at0,?_⟩
  refine⟨rfl,_,rfl,?_⟩
  refine ZX (λhc=>?_) (λ_=>?_)
  ·simp at hc
  refine⟨_,rfl,Fb,_,_,eb.fh,.cons (Is.mono sb _ i1) .nil,h3,λu3 Fc Hc ec ic=>?_⟩
  refine⟨_,rfl,Fc,_,_,ec.fh,.cons (Is.mono (sb.trans ec.ff) _ i2) .nil,h4,λu4 Fd Hd ed id_=>?_⟩
  refine⟨_,rfl,λx dx hx hdx hne=>?_⟩
  have sd:zm H Fd:=(sb.trans ec.ff).trans ed.ff
  have s1:zm Hd (upd Hd dx (.own x)):=zz hdx _
  have hx1:(upd Hd dx (.own x)) x=none:=by rw[zd (FH hne)];exact hx
  have s2:zm (upd Hd dx (.own x)) (upd (upd Hd dx (.own x)) x (.ins C dx [])):=zz hx1 _
  exact⟨x,dx,u3,u4,wn,p,A,H,Fd,R1,R2,G1,G2,B1,B2,rfl,⟨sd,(ed.fh.trans s1).trans s2,zj,ed.fh.free hx⟩,Is.mono ed.ff _ ic,id_,h5,h6,h7,h8,h9,h10,hw,J.ok1,J.ok2,J.l1,J.l2,J.sz,J.az,λH' F' st g r S hm=>⟨rfl,q x H' F' st g r S hm⟩⟩
abbrev X9:FC:=Pt.top 49
def hU:FnScope ["one","other","wanted","pairs"] ["one","other","wanted"] (zl X9):=⟨rfl,rfl,rfl,by decide+kernel,rfl,by decide+kernel,by decide+kernel⟩
def nF(K:Fs)(wt:List (Bool×Bool))(m:List D->Option D):Sp:=λvs H Q _=>∃j z J F ds d,vs=[j,z,.ref J]/\KW K J wt/\zm F H/\Are K F ds [j,z]/\m ds=some d/\∀v F' H',Ext F H F' H'->Is K F' d v->Q v H'
theorem JC{K:Fs}{F:Hp}:∀bs:List Bool,Are K F (bs.map D.bl) (bs.map V.bl)
 | []=>.nil
 | b::r=>.cons (by simp[Is]) (JC r)
theorem Vn{K:Fs}{F:Hp}:∀(rows:List (List Nat)) (rs:List Fo),rs.length=rows.length->(∀(i:Nat) a,rs[i]?=some a->F a=some (.tup (zF (rows.getD i []))))->Are K F (xK rows) (rs.map V.ref)
 | [],[],_,_=>.nil
 | [],_::_,h,_=>by simp at h
 | _::_,[],h,_=>by simp at h
 | r::rows,a::rs,h,g=>by
  refine .cons ?_ (Vn rows rs (by simpa using h) λi b hb=>by
   have:=g (i+1) b (by simpa using hb)
   simpa using this)
  simp only[Is]
  exact⟨a,_,rfl,by have:=g 0 a rfl;simpa using this,Pt.W9 r⟩
def hV{P:FI}{w:FB}{K:Fs}{mg:Fp->Option Fl}{base:Fz}{fa C fi fn fo fg fp:Fo}{fd di dn do_ dg dp:Ga}{k:Nat}{ck ls mm lr:List D->Option D}{wt:List (Bool×Bool)}(Fn:Fun K "joined" "joined" X9 fa fd)(M:JM P w K mg base C fi fn fo fg di dn do_ dg k ck ls mm lr) 
  (hp:mg "pairs_of"=some (.ref fp)) (Pf:Fun K "pairs_of" "pairs_of" vt fp dp) :
  FnOk P w K mg base CX0 (k+4) fa fd ["one","other","wanted"] (nF K wt (wP wt ck ls mm lr)) :=
 Fn.ok (k:=k+3) hU (λvs H Q E ⟨v1,v2,wn,F,ds,d,e,_⟩=>by rw[e];rfl) λcdv A0 outer sh H vs Q E hr hh83'=>by
  obtain⟨v1,v2,wn,F,ds,d,e,hw,sm,ar,hd,q⟩:=hh83'
  subst e
  obtain⟨one,oth,p,A,rfl,rfl,J,hlr⟩:=wH hd
  obtain⟨f1,e1,ps1,F1,g1,kp1,b1⟩:=M.clr.ex
  have bp:yD K dp ["one","other","wanted"] []:=Pf.binds λ_ _ _ _ _ _ us hl=>match us,hl with|[_,_,_],_=>rfl
  have bo:yD K do_ ["self"] []:=M.more.binds λ_ _ _ _ _ _ us hl=>match us,hl with|[_],_=>rfl
  have bg:yD K dg ["self"] []:=M.go.binds λ_ _ _ _ _ _ us hl=>match us,hl with|[_],_=>rfl
  have hrk:=hr.mono (show k<=k+3 by omega)
  refine⟨_,zw (yZ (i:=3) hU.nd rfl (Or.inl rfl) (xj (dX Pf M) hr rfl hp Pf.kp bp .nil yO (zi (pv 0) (zi (pv 1) (zi (pv 2) zu)))))
   (zw (YO Gw (Yc (Zl (pv 3) M.pc.cl M.mo (gX M.more M.pc M.len) (hr.mono (by omega)) bo .nil yO)) (zR (yL (Zl (pv 3) M.pc.cl M.mgo (rn M.go M.pc M.len M.dvm M.zip M.tup M.num M.mn) (hr.mono (by omega)) bg .nil yO))))
   (zR (wu (xj F1 hrk rfl g1 kp1 b1 .nil yO (zi (xo wR (pv 0) wd (λ_ _=>rfl)) (zi (zU (pv 3) rfl) (zi (zU (pv 3) rfl) zu))))))),?_⟩
  obtain⟨w1,q1,e,i1,ar⟩:=ar.inv
  cases e
  obtain⟨w2,q2,e,i2,ar⟩:=ar.inv
  cases e
  refine⟨_,rfl,_,rfl,_,rfl,v1,v2,wn,one,oth,p,A,rfl,Is.mono sm _ i1,Is.mono sm _ i2,J,hw,λx Ha Fa st g r S hm=>?_⟩
  obtain⟨t1,t2,c1,c2,R1,R2,G1,G2,B1,B2,rfl,rfl,_⟩:=J.ex
  have j1:=i1
  simp only[Is]at j1
  obtain⟨o1,vs1,rfl,hf1,ar1⟩:=j1
  obtain⟨y1,z1,rfl,k1,_⟩:=ar1.inv
  simp only[Is]at k1
  subst k1
  have hO:Hop.zZ p.r1 p.r2=Hop.bfs (prR p.r1 p.r2) ((prR p.r1 p.r2).length-0) 0 st.me:=by rw[hm];rfl
  refine⟨λm σ H1=>σ=[some (.ref o1),some v2,some (.ref wn),some (.ref x)]/\∃F1 st1 k1,Rep K C p H F1 H1 x st1 g/\Sta p st1 A k1/\k1<=st1.me.length/\(prR p.r1 p.r2).length<=m+k1/\Hop.zZ p.r1 p.r2=Hop.bfs (prR p.r1 p.r2) ((prR p.r1 p.r2).length-k1) k1 st1.me,
   ⟨(prR p.r1 p.r2).length,rfl,Fa,st,0,r,S,GI _,FA _,hO⟩,?_⟩
  rintro m σ H1 ⟨rfl,F1',st1,k1,r1,S1,hk1,hmk,hO1⟩
  have hkr:st1.rows.length=k1:=by rw[S1.rw];exact Hop.X0 hk1
  refine⟨_,rfl,x,g.dx,_,rfl,r1.ins,rfl,x,p,H,F1',st1,g,rfl,r1,_,rfl,?_⟩
  rw[hkr]
  refine ZX (λhc=>?_) (λhc=>?_)
  ·have hlt:=of_decide_eq_true hc
   have hsm:=Hop.Ve S1.bi
   refine⟨_,λσ' H' w=>⟨m-1,by omega,w⟩,?_⟩
   refine⟨_,rfl,x,g.dx,_,rfl,r1.ins,rfl,x,p,H,F1',st1,g,A,k1,rfl,r1,S1,hlt,λH' F' st' smF r' S' hme=>?_⟩
   refine⟨rfl,F',st',k1+1,r',S',?_,by omega,?_⟩
   ·have:=(Hop.wV ((prR p.r1 p.r2).getD (st1.me.getD k1 0) []) st1.me).length_le
    rw[hme]
    exact Gs hlt this
   ·rw[hO1,Hop.cA hlt hsm,hme]
  ·have hge:¬k1<st1.me.length:=λz=>hc (decide_eq_true z)
   have eO:Hop.zZ p.r1 p.r2=st1.me:=by rw[hO1,Hop.cB hge]
   have ek:k1=st1.me.length:=by omega
   have hrows:st1.rows=Hop.yR p.r1 p.r2:=by
    show st1.rows=xE (prR p.r1 p.r2) (Hop.zZ p.r1 p.r2) (Hop.zZ p.r1 p.r2).length
    rw[S1.rw,eO,ek]
   have hmarks:st1.mr=(Hop.zZ p.r1 p.r2).map λq=>xn p (q/p.r2.length) (q%p.r2.length):=by rw[S1.mr,eO]
   obtain⟨Fc,hFc⟩:∃Fc:Hp,Fc=upd (upd (λb=>if H b=none then F1' b else F b) g.ro (.lst (st1.rs.map V.ref))) g.mr (.lst (st1.mr.map V.bl)):=⟨_,rfl⟩
   have hr0:H g.ro=none:=r1.bs.free r1.f4
   have hm0:H g.mr=none:=r1.bs.free r1.f3
   have hro:Fc g.ro=some (.lst (st1.rs.map V.ref)):=by rw[hFc,zd (FH r1.n3)];exact zj
   have hmr:Fc g.mr=some (.lst (st1.mr.map V.bl)):=by rw[hFc];exact zj
   have hel:∀b,b≠g.ro->b≠g.mr->Fc b=if H b=none then F1' b else F b:=λb h1 h2=>by rw[hFc,zd h2,zd h1]
   have sF:zm F Fc:=λb u hb=>by
    have h1:b≠g.ro:=λz=>by rw[z]at hb;rw[sm _ _ hb]at hr0;cases hr0
    have h2:b≠g.mr:=λz=>by rw[z]at hb;rw[sm _ _ hb]at hm0;cases hm0
    rw[hel b h1 h2,if_neg (by rw[sm _ _ hb];exact λz=>nomatch z)]
    exact hb
   have sH:zm Fc H1:=λb u hb=>by
    by_cases h2:b=g.mr
    ·subst h2;rw[hmr]at hb;cases hb;exact r1.mr
    ·by_cases h1:b=g.ro
     ·subst h1;rw[hro]at hb;cases hb;exact r1.ro
     ·rw[hel b h1 h2]at hb
      by_cases hn:H b=none
      ·rw[if_pos hn]at hb;exact r1.sm _ _ hb
      ·rw[if_neg hn]at hb;exact r1.sm _ _ (r1.bs _ _ (sm _ _ hb))
   have newc:∀b,F b=none->Fc b≠none->H b=none:=λb h1 h2=>by
    cases hb:H b with
    | none=>rfl
    | some o=>
     have n1:b≠g.ro:=λz=>by rw[z,hr0]at hb;cases hb
     have n2:b≠g.mr:=λz=>by rw[z,hm0]at hb;cases hb
     rw[hel b n1 n2,if_neg (by rw[hb];exact λz=>nomatch z),h1]at h2
     exact absurd rfl h2
   have rowsF:∀(i:Nat) a,st1.rs[i]?=some a->Fc a=some (.tup (zF (st1.rows.getD i []))):=λi a h=>by
    have h0:=r1.rr i a h
    have hn:=r1.rb a (Gj h)
    have n1:a≠g.ro:=λz=>by rw[z,r1.f4]at h0;cases h0
    have n2:a≠g.mr:=λz=>by rw[z,r1.f3]at h0;cases h0
    rw[hel a n1 n2,if_pos hn];exact h0
   have iro:Is K Fc (.lst (xK (Hop.yR p.r1 p.r2))) (.ref g.ro):=by
    simp only[Is]
    exact⟨g.ro,_,rfl,hro,by rw[<-hrows];exact Vn st1.rows st1.rs r1.rl rowsF⟩
   have imr:Is K Fc (.lst (ua p)) (.ref g.mr):=by
    simp only[Is]
    exact⟨g.mr,_,rfl,hmr,by rw[hmarks];exact JC _⟩
   refine⟨_,rfl,o1,_,_,.int (A:Int),rfl,rfl,SqT.of (r1.sm _ _ (r1.bs _ _ (sm _ _ hf1))),at0,_,rfl,x,C,g.dx,_,_,rfl,r1.ins,M.pc.cl,M.pc.n9,rfl,_,rfl,x,C,g.dx,_,_,rfl,r1.ins,M.pc.cl,M.pc.n8,rfl,Fc,_,d,sH,.cons (by simp[Is]) (.cons iro (.cons imr .nil)),hlr,λv F' H' ex iv=>q v F' H' ⟨sF.trans ex.ff,(r1.bs.trans r1.sm).trans ex.hh,ex.fh,λb h1 h2=>?_⟩ iv⟩
   cases hb:Fc b with
   | none=>exact r1.bs.free (r1.sm.free (ex.new b hb h2))
   | some o=>exact newc b h1 (by rw[hb];exact λz=>nomatch z)
end Pq
namespace Pq
open PySem PySem.Spec L2 DD
open PyProof.Rows hiding St
def vQ{K:Fs}{b:Fo}{c d:Bool}{j:Option Fo}{m:Nat}{z:Array (Option Fl)}{as:List Fo}{wt:List (Bool×Bool)}(h:K.lookup b=some ⟨.type "tuple",j,.seq #[.bool c,.bool d] m,z⟩)(t:KPr K as wt):KPr K (b::as) ((c,d)::wt) :=
 .cons (λH=>.inr ⟨_,_,_,h,rfl,rfl,by show 2<=Fv;decide,.cons rfl (.cons rfl .nil)⟩) t
def J4{K:Fs}{a:Fo}{j:Option Fo}{its:Array Fl}{m:Nat}{z:Array (Option Fl)}{as:List Fo}{wt:List (Bool×Bool)}(h:K.lookup a=some ⟨.type "tuple",j,.seq its m,z⟩)(J:its.size<=Fv)(O:zC (as.map V.ref) its.toList)(t:KPr K as wt):KW K a wt :=
 ⟨as,λH=>.inr ⟨_,its,m,h,rfl,rfl,J,O⟩,t⟩
def wW{P:FI}{w:FB}{K:Fs}{mg:Fp->Option Fl}{base:Fz}{j k:Nat}{x:Fp}{m:List D->Option D}(h:Callee P w K mg base j x m)(z:j<=k):Callee P w K mg base k x m:=by
 obtain⟨fa,fd,ps,F,q⟩:=h.ex
 exact⟨fa,fd,ps,F.mono z,q⟩
abbrev dY:FC:=Pt.top 50
def tH:FnScope ["one","other"] ["one","other"] (zl dY):=⟨rfl,rfl,rfl,by decide+kernel,rfl,by decide+kernel,by decide+kernel⟩
def eU{P:FI}{w:FB}{K:Fs}{mg:Fp->Option Fl}{base:Fz}{fa fj C fi fn fo fg fp aw:Fo}{fd dj di dn do_ dg dp:Ga}{k:Nat}{ck ls mm lr:List D->Option D}{wt:List (Bool×Bool)}(Fn:Fun K "both" "both" dY fa fd)(hm:mg "both"=some (.ref fa))(M:JM P w K mg base C fi fn fo fg di dn do_ dg k ck ls mm lr) 
  (hp:mg "pairs_of"=some (.ref fp)) (Pf:Fun K "pairs_of" "pairs_of" vt fp dp) (hj:mg "joined"=some (.ref fj)) (Jf:Fun K "joined" "joined" X9 fj dj) (hg:mg "IN_BOTH"=some (.ref aw)) (W:KW K aw wt):Callee P w K mg base (k+5) "both" (wP wt ck ls mm lr):=by
 have bj:yD K dj ["one","other","wanted"] []:=Jf.binds λ_ _ _ _ _ _ us hl=>match us,hl with|[_,_,_],_=>rfl
 refine⟨fa,fd,["one","other"],Fn.ok (k:=k+4) (sp:=spD K (wP wt ck ls mm lr)) tH (λvs H Q E ⟨F,ds,d,sm,ar,e,q⟩=>?_) (λcdv A0 outer sh H vs Q E hr ⟨F,ds,d,sm,ar,e,q⟩=>?_),hm,Fn.kp,Fn.binds λ_ _ _ _ _ _ us hl=>match us,hl with|[_,_],_=>rfl⟩
 ·obtain⟨one,oth,p,A,rfl,_⟩:=wH e
  rw[ar.length];rfl
 ·obtain⟨one,oth,p,A,rfl,_⟩:=wH e
  obtain⟨v1,r1,rfl,i1,ar'⟩:=ar.inv
  obtain⟨v2,r2,rfl,i2,ar'⟩:=ar'.inv
  cases ar'.inv0
  refine⟨_,zR (wu (xj (hV (wt:=wt) Jf M hp Pf) hr rfl hj Jf.kp bj .nil yO (zi (pv 0) (zi (pv 1) (zi (u7 (v:=.ref aw) rfl hg rfl) zu))))),?_⟩
  exact⟨_,rfl,_,rfl,v1,v2,aw,F,_,d,rfl,W,sm,ar,e,q⟩
abbrev Vo:FC:=Pt.top 51
def nG:FnScope ["one","other"] ["one","other"] (zl Vo):=⟨rfl,rfl,rfl,by decide+kernel,rfl,by decide+kernel,by decide+kernel⟩
def JE{P:FI}{w:FB}{K:Fs}{mg:Fp->Option Fl}{base:Fz}{fa fj C fi fn fo fg fp aw:Fo}{fd dj di dn do_ dg dp:Ga}{k:Nat}{ck ls mm lr:List D->Option D}{wt:List (Bool×Bool)}(Fn:Fun K "either" "either" Vo fa fd)(hm:mg "either"=some (.ref fa))(M:JM P w K mg base C fi fn fo fg di dn do_ dg k ck ls mm lr) 
  (hp:mg "pairs_of"=some (.ref fp)) (Pf:Fun K "pairs_of" "pairs_of" vt fp dp) (hj:mg "joined"=some (.ref fj)) (Jf:Fun K "joined" "joined" X9 fj dj) (hg:mg "IN_EITHER"=some (.ref aw)) (W:KW K aw wt):Callee P w K mg base (k+5) "either" (wP wt ck ls mm lr):=by
 have bj:yD K dj ["one","other","wanted"] []:=Jf.binds λ_ _ _ _ _ _ us hl=>match us,hl with|[_,_,_],_=>rfl
 refine⟨fa,fd,["one","other"],Fn.ok (k:=k+4) (sp:=spD K (wP wt ck ls mm lr)) nG (λvs H Q E ⟨F,ds,d,sm,ar,e,q⟩=>?_) (λcdv A0 outer sh H vs Q E hr ⟨F,ds,d,sm,ar,e,q⟩=>?_),hm,Fn.kp,Fn.binds λ_ _ _ _ _ _ us hl=>match us,hl with|[_,_],_=>rfl⟩
 ·obtain⟨one,oth,p,A,rfl,_⟩:=wH e
  rw[ar.length];rfl
 ·obtain⟨one,oth,p,A,rfl,_⟩:=wH e
  obtain⟨v1,r1,rfl,i1,ar'⟩:=ar.inv
  obtain⟨v2,r2,rfl,i2,ar'⟩:=ar'.inv
  cases ar'.inv0
  refine⟨_,zR (wu (xj (hV (wt:=wt) Jf M hp Pf) hr rfl hj Jf.kp bj .nil yO (zi (pv 0) (zi (pv 1) (zi (u7 (v:=.ref aw) rfl hg rfl) zu))))),?_⟩
  exact⟨_,rfl,_,rfl,v1,v2,aw,F,_,d,rfl,W,sm,ar,e,q⟩
end Pq
namespace Pq
open PySem PySem.Spec L2 DD
open PyProof.Rows hiding St
open Pt (zF getD_some yw ya xP yp Yu Zx)
open Hop (zQ prR wo xE OkR BI)
def tI{l:List Bool}{k:Nat}(h:l[k]?=some true)(z:∀b∈l.take k,b=false):l.findIdx? id=some k:=by
 have j:=(FO.mp h).1
 have e:l=l.take k++(true::l.drop (k+1)):=by
  rw[<-(FO.mp h).2,<-KS j,OS]
 have n:(l.take k).findIdx? id=none:=No.mpr λb J=>by rw[z b J];rfl
 rw[e,List.findIdx?_append,n]
 simp[HP,Pi (G9 j),Pr]
def nH{l:List Bool}(j:∀b∈l,b=false):l.findIdx? id=none:=No.mpr λb z=>by rw[j b z];rfl
def nI{K:Fs}{C:Fo}{p:Par}{F H F1 H1:Hp}{x:Fo}{st:PSt}{g:Ads}(r1:Rep K C p H F1 H1 x st g)(sm:zm F H):∃J,zm F J/\zm J H1/\(∀b,F b=none->J b≠none->H b=none)/\Is K J (.lst (xK st.rows)) (.ref g.ro):=by
 obtain⟨J,Y⟩:∃J:Hp,J=upd (λb=>if H b=none then F1 b else F b) g.ro (.lst (st.rs.map V.ref)):=⟨_,rfl⟩
 have U:H g.ro=none:=r1.bs.free r1.f4
 have Z:J g.ro=some (.lst (st.rs.map V.ref)):=by rw[Y];exact zj
 have O:∀b,b≠g.ro->J b=if H b=none then F1 b else F b:=λb h1=>by rw[Y,zd h1]
 refine⟨J,λb u j=>?_,λb u j=>?_,λb h1 h2=>?_,?_⟩
 ·have h1:b≠g.ro:=λz=>by rw[z]at j;rw[sm _ _ j]at U;cases U
  rw[O b h1,if_neg (by rw[sm _ _ j];exact λz=>nomatch z)]
  exact j
 ·by_cases h1:b=g.ro
  ·subst h1;rw[Z]at j;cases j;exact r1.ro
  ·rw[O b h1]at j
   by_cases hn:H b=none
   ·rw[if_pos hn]at j;exact r1.sm _ _ j
   ·rw[if_neg hn]at j;exact r1.sm _ _ (r1.bs _ _ (sm _ _ j))
 ·cases j:H b with
  | none=>rfl
  | some o=>
   have n1:b≠g.ro:=λz=>by rw[z,U]at j;cases j
   rw[O b n1,if_neg (by rw[j];exact λz=>nomatch z),h1]at h2
   exact absurd rfl h2
 ·simp only[Is]
  refine⟨g.ro,_,rfl,Z,Vn st.rows st.rs r1.rl λi a h=>?_⟩
  have h0:=r1.rr i a h
  have hn:=r1.rb a (Gj h)
  have n1:a≠g.ro:=λz=>by rw[z,r1.f4]at h0;cases h0
  rw[O a n1,if_pos hn];exact h0
abbrev YJ:FC:=Pt.top 56
def Vp:FnScope ["one","other","wanted","pairs","here"] ["one","other","wanted"] (zl YJ):=⟨rfl,rfl,rfl,by decide+kernel,rfl,by decide+kernel,by decide+kernel⟩
def dZ{P:FI}{w:FB}{K:Fs}{mg:Fp->Option Fl}{base:Fz}{fa C fi fn fo fg fp:Fo}{fd di dn do_ dg dp:Ga}{k:Nat}{ck ls mm lr fw:List D->Option D}{wt:List (Bool×Bool)}(Fn:Fun K "first_joined_word" "first_joined_word" YJ fa fd)(M:JM P w K mg base C fi fn fo fg di dn do_ dg k ck ls mm lr) 
  (hp:mg "pairs_of"=some (.ref fp)) (Pf:Fun K "pairs_of" "pairs_of" vt fp dp) (cfw:Callee P w K mg base k "first_word_to" fw) :
  FnOk P w K mg base CX0 (k+4) fa fd ["one","other","wanted"] (nF K wt (vH wt ck ls mm fw)) :=
 Fn.ok (k:=k+3) Vp (λvs H Q E ⟨v1,v2,wn,F,ds,d,e,_⟩=>by rw[e];rfl) λcdv A0 outer sh H vs Q E hr hh84'=>by
  obtain⟨v1,v2,wn,F,ds,d,e,hw,sm,ar,hd,q⟩:=hh84'
  subst e
  obtain⟨one,oth,p,A,rfl,rfl,J,hlr⟩:=wH hd
  obtain⟨f1,e1,ps1,F1,g1,kp1,b1⟩:=cfw.ex
  have bp:yD K dp ["one","other","wanted"] []:=Pf.binds λ_ _ _ _ _ _ us hl=>match us,hl with|[_,_,_],_=>rfl
  have bo:yD K do_ ["self"] []:=M.more.binds λ_ _ _ _ _ _ us hl=>match us,hl with|[_],_=>rfl
  have bg:yD K dg ["self"] []:=M.go.binds λ_ _ _ _ _ _ us hl=>match us,hl with|[_],_=>rfl
  have hrk:=hr.mono (show k<=k+3 by omega)
  refine⟨_,zw (yZ (i:=3) Vp.nd rfl (Or.inl rfl) (xj (dX Pf M) hr rfl hp Pf.kp bp .nil yO (zi (pv 0) (zi (pv 1) (zi (pv 2) zu)))))
   (zw (YO Gw (Yc (Zl (pv 3) M.pc.cl M.mo (gX M.more M.pc M.len) (hr.mono (by omega)) bo .nil yO))
    (zw (yZ (i:=4) Vp.nd rfl (Or.inl rfl) (xi zy rfl M.len Gg (zi (zU (pv 3) rfl) zu)))
    (zw (YN (Yc (xo xQ (zU (pv 3) rfl) (pv 4) (λ_ _=>rfl))) (zR (wu (xj F1 hrk rfl g1 kp1 b1 .nil yO (zi (pv 4) (zi (zU (pv 3) rfl) zu))))) u8)
    (zR (yL (Zl (pv 3) M.pc.cl M.mgo (rn M.go M.pc M.len M.dvm M.zip M.tup M.num M.mn) (hr.mono (by omega)) bg .nil yO))))))
   (zR (wu lH))),?_⟩
  obtain⟨w1,q1,e,i1,ar⟩:=ar.inv
  cases e
  obtain⟨w2,q2,e,i2,ar⟩:=ar.inv
  cases e
  refine⟨_,rfl,_,rfl,_,rfl,v1,v2,wn,one,oth,p,A,rfl,Is.mono sm _ i1,Is.mono sm _ i2,J,hw,λx Ha Fa st g r S hm=>?_⟩
  have hO:Hop.zZ p.r1 p.r2=Hop.bfs (prR p.r1 p.r2) ((prR p.r1 p.r2).length-0) 0 st.me:=by rw[hm];rfl
  refine⟨λm σ H1=>(∃o4,σ=[some v1,some v2,some (.ref wn),some (.ref x),o4])/\∃F1 st1 k1,Rep K C p H F1 H1 x st1 g/\Sta p st1 A k1/\k1<=st1.me.length/\(prR p.r1 p.r2).length<=m+k1/\Hop.zZ p.r1 p.r2=Hop.bfs (prR p.r1 p.r2) ((prR p.r1 p.r2).length-k1) k1 st1.me/\(∀b∈(wf p).take k1,b=false),
   ⟨(prR p.r1 p.r2).length,⟨none,rfl⟩,Fa,st,0,r,S,GI _,FA _,hO,by simp⟩,?_⟩
  rintro m σ H1 ⟨⟨o4,rfl⟩,F1',st1,k1,r1,S1,hk1,hmk,hO1,hfal⟩
  have hkr:st1.rows.length=k1:=by rw[S1.rw];exact Hop.X0 hk1
  have pre:st1.me<+: Hop.zZ p.r1 p.r2:=by rw[hO1];exact Hop.Us _ _ _
  refine⟨_,rfl,x,g.dx,_,rfl,r1.ins,rfl,x,p,H,F1',st1,g,rfl,r1,_,rfl,?_⟩
  rw[hkr]
  refine ZX (λhc=>?_) (λhc=>?_)
  ·have hlt:=of_decide_eq_true hc
   have hsm:=Hop.Ve S1.bi
   have hkO:k1<(Hop.zZ p.r1 p.r2).length:=Gs hlt pre.length_le
   have hmk1:st1.mr[k1]?=(wf p)[k1]?:=by
    obtain⟨rest,hrest⟩:=pre
    unfold wf
    rw[S1.mr,<-hrest,GO,GK (by rw[FF];exact hlt)]
   have hml:k1<(wf p).length:=by rw[FF];exact hkO
   have hb1:(wf p)[k1]?=some (wf p)[k1]:=FU hml
   generalize hbv:(wf p)[k1]=bv at hb1
   refine⟨_,λσ' H' w=>⟨m-1,by omega,w⟩,?_⟩
   refine⟨_,rfl,x,C,g.dx,_,_,rfl,r1.ins,M.pc.cl,M.pc.n9,rfl,g.ro,_,rfl,.inl (SqL.of r1.ro),?_⟩
   have hlr1:(st1.rs.map V.ref).length=k1:=by rw[FF,r1.rl,hkr]
   rw[hlr1]
   refine⟨_,rfl,x,C,g.dx,_,_,rfl,r1.ins,M.pc.cl,M.pc.n8,rfl,_,rfl,g.mr,_,_,.bl bv,rfl,rfl,SqL.of r1.mr,xf (by rw[FP,hmk1,hb1];rfl),_,rfl,?_⟩
   refine ZX (λhbt=>?_) (λhbf=>?_)
   ·subst hbt
    have hi:=tI hb1 hfal
    have hlr':fw [.int (k1:Int),.lst (xK ((Hop.yR p.r1 p.r2).take k1))]=some d:=(X2 hi).symm.trans hlr
    have erows:(Hop.yR p.r1 p.r2).take k1=st1.rows:=by
     rw[S1.rw]
     show(xE (prR p.r1 p.r2) (Hop.zZ p.r1 p.r2) (Hop.zZ p.r1 p.r2).length).take k1=_
     rw[Hop.jQ (G9 hkO),Hop.mU (Hop.uJ S1.ok1 S1.ok2) S1.bi pre]
    rw[erows]at hlr'
    obtain⟨Fc,c1,c2,c3,c4⟩:=nI r1 sm
    refine⟨_,rfl,_,rfl,x,C,g.dx,_,_,rfl,r1.ins,M.pc.cl,M.pc.n9,rfl,Fc,_,d,c2,.cons (by simp[Is]) (.cons c4 .nil),hlr',λv F' H' ex iv=>q v F' H' ⟨c1.trans ex.ff,(r1.bs.trans r1.sm).trans ex.hh,ex.fh,λb h1 h2=>?_⟩ iv⟩
    cases hb:Fc b with
    | none=>exact r1.bs.free (r1.sm.free (ex.new b hb h2))
    | some o=>exact c3 b h1 (by rw[hb];exact λz=>nomatch z)
   ·have hbf':bv=false:=by cases bv with|true=>exact absurd rfl hbf|false=>rfl
    refine⟨_,rfl,x,g.dx,_,rfl,r1.ins,rfl,x,p,H,F1',st1,g,A,k1,rfl,r1,S1,hlt,λH' F' st' smF r' S' hme=>?_⟩
    refine⟨⟨_,rfl⟩,F',st',k1+1,r',S',?_,by omega,?_,?_⟩
    ·have:=(Hop.wV ((prR p.r1 p.r2).getD (st1.me.getD k1 0) []) st1.me).length_le
     rw[hme]
     exact Gs hlt this
    ·rw[hO1,Hop.cA hlt hsm,hme]
    ·intro b hb
     rw[Kt hml,hbv]at hb
     rcases Gk.mp hb with h|h
     ·exact hfal b h
     ·rw[Gf.mp h];exact hbf'
  ·have hge:¬k1<st1.me.length:=λz=>hc (decide_eq_true z)
   have eO:Hop.zZ p.r1 p.r2=st1.me:=by rw[hO1,Hop.cB hge]
   have ek:k1=st1.me.length:=by omega
   have hn:(wf p).findIdx? id=none:=nH λb hb=>hfal b (by rw[K5 (by rw[FF,eO];omega)];exact hb)
   have hd':d=.non:=by
    have:=(X3 (fw:=fw) hn).symm.trans hlr
    exact(GG this).symm
   subst hd'
   exact q .non F H1 ⟨zm.refl _,r1.bs.trans r1.sm,sm.trans (r1.bs.trans r1.sm),λb h1 h2=>absurd h1 h2⟩ (by simp[Is])
abbrev QD:FC:=Pt.top 57
def qe:FnScope ["one","other"] ["one","other"] (zl QD):=⟨rfl,rfl,rfl,by decide+kernel,rfl,by decide+kernel,by decide+kernel⟩
def eA{P:FI}{w:FB}{K:Fs}{mg:Fp->Option Fl}{base:Fz}{fa fj C fi fn fo fg fp aw:Fo}{fd dj di dn do_ dg dp:Ga}{k:Nat}{ck ls mm lr fw:List D->Option D}{wt:List (Bool×Bool)}(Fn:Fun K "alike" "alike" QD fa fd)(hm:mg "alike"=some (.ref fa))(M:JM P w K mg base C fi fn fo fg di dn do_ dg k ck ls mm lr) 
  (hp:mg "pairs_of"=some (.ref fp)) (Pf:Fun K "pairs_of" "pairs_of" vt fp dp) (hj:mg "first_joined_word"=some (.ref fj)) (Jf:Fun K "first_joined_word" "first_joined_word" YJ fj dj) (cfw:Callee P w K mg base k "first_word_to" fw) (hg:mg "IN_JUST_ONE"=some (.ref aw)) (W:KW K aw wt):Callee P w K mg base (k+5) "alike" (vH wt ck ls mm fw):=by
 have bj:yD K dj ["one","other","wanted"] []:=Jf.binds λ_ _ _ _ _ _ us hl=>match us,hl with|[_,_,_],_=>rfl
 refine⟨fa,fd,["one","other"],Fn.ok (k:=k+4) (sp:=spD K (vH wt ck ls mm fw)) qe (λvs H Q E ⟨F,ds,d,sm,ar,e,q⟩=>?_) (λcdv A0 outer sh H vs Q E hr ⟨F,ds,d,sm,ar,e,q⟩=>?_),hm,Fn.kp,Fn.binds λ_ _ _ _ _ _ us hl=>match us,hl with|[_,_],_=>rfl⟩
 ·obtain⟨one,oth,p,A,rfl,_⟩:=wH e
  rw[ar.length];rfl
 ·obtain⟨one,oth,p,A,rfl,_⟩:=wH e
  obtain⟨v1,r1,rfl,i1,ar'⟩:=ar.inv
  obtain⟨v2,r2,rfl,i2,ar'⟩:=ar'.inv
  cases ar'.inv0
  refine⟨_,zR (wu (xj (dZ (wt:=wt) Jf M hp Pf cfw) hr rfl hj Jf.kp bj .nil yO (zi (pv 0) (zi (pv 1) (zi (u7 (v:=.ref aw) rfl hg rfl) zu))))),?_⟩
  exact⟨_,rfl,_,rfl,v1,v2,aw,F,_,d,rfl,W,sm,ar,e,q⟩
abbrev Vq:FC:=Pt.top 58
def nJ:FnScope ["one","other"] ["one","other"] (zl Vq):=⟨rfl,rfl,rfl,by decide+kernel,rfl,by decide+kernel,by decide+kernel⟩
def JF{P:FI}{w:FB}{K:Fs}{mg:Fp->Option Fl}{base:Fz}{fa fj C fi fn fo fg fp aw:Fo}{fd dj di dn do_ dg dp:Ga}{k:Nat}{ck ls mm lr fw:List D->Option D}{wt:List (Bool×Bool)}(Fn:Fun K "within" "within" Vq fa fd)(hm:mg "within"=some (.ref fa))(M:JM P w K mg base C fi fn fo fg di dn do_ dg k ck ls mm lr) 
  (hp:mg "pairs_of"=some (.ref fp)) (Pf:Fun K "pairs_of" "pairs_of" vt fp dp) (hj:mg "first_joined_word"=some (.ref fj)) (Jf:Fun K "first_joined_word" "first_joined_word" YJ fj dj) (cfw:Callee P w K mg base k "first_word_to" fw) (hg:mg "IN_ONE_ALONE"=some (.ref aw)) (W:KW K aw wt):Callee P w K mg base (k+5) "within" (vH wt ck ls mm fw):=by
 have bj:yD K dj ["one","other","wanted"] []:=Jf.binds λ_ _ _ _ _ _ us hl=>match us,hl with|[_,_,_],_=>rfl
 refine⟨fa,fd,["one","other"],Fn.ok (k:=k+4) (sp:=spD K (vH wt ck ls mm fw)) nJ (λvs H Q E ⟨F,ds,d,sm,ar,e,q⟩=>?_) (λcdv A0 outer sh H vs Q E hr ⟨F,ds,d,sm,ar,e,q⟩=>?_),hm,Fn.kp,Fn.binds λ_ _ _ _ _ _ us hl=>match us,hl with|[_,_],_=>rfl⟩
 ·obtain⟨one,oth,p,A,rfl,_⟩:=wH e
  rw[ar.length];rfl
 ·obtain⟨one,oth,p,A,rfl,_⟩:=wH e
  obtain⟨v1,r1,rfl,i1,ar'⟩:=ar.inv
  obtain⟨v2,r2,rfl,i2,ar'⟩:=ar'.inv
  cases ar'.inv0
  refine⟨_,zR (wu (xj (dZ (wt:=wt) Jf M hp Pf cfw) hr rfl hj Jf.kp bj .nil yO (zi (pv 0) (zi (pv 1) (zi (u7 (v:=.ref aw) rfl hg rfl) zu))))),?_⟩
  exact⟨_,rfl,_,rfl,v1,v2,aw,F,_,d,rfl,W,sm,ar,e,q⟩
end Pq
namespace Pt
open PySem PySem.Spec L2 DD
open PyProof.Rows hiding St
open Hop (HS)
abbrev ub:FC:=Xo 0
def Zi:FnScope ["self","good","stand","mark","part"] ["self","good"] (zl ub):=⟨rfl,rfl,rfl,by decide+kernel,rfl,by decide+kernel,by decide+kernel⟩
def dW(C:Fo):Sp:=λvs H Q _=>∃x gl dx good H0,vs=[.ref x,.ref gl]/\H x=some (.ins C dx [])/\zm H0 H/\H0 x=none/\H0 gl=some (.lst ((good:List Bool).map V.bl))/\good.length<Fv/\∀H' g,Rep C H0 H' x (Hop.start good) g->Q .non H'
def Cw(h:Q (.int (pOf b:Nat)) H):if b=true then tC (.int 1) σ H Q else tC (.int 0) σ H Q:=by
 cases b <;>exact h
def QC{P:FI}{w:FB}{K:Fs}{mg:Fp->Option Fl}{base:Fz}{fa C:Fo}{fd:Ga}(Fn:Fun K "__init__" "Parting.__init__" ub fa fd)(T:PC K C)(Z:mg "enumerate"=none):FnOk P w K mg base CX0 1 fa fd ["self","good"] (dW C) :=
 Fn.ok (k:=0) Zi (λvs H Q E ⟨x,gl,dx,good,H0,e,_⟩=>by rw[e];rfl) λcdv A outer s H vs Q E hr aa=>by
  obtain⟨x,gl,dx,good,H0,e,hx,sm,h0,O,hz,q⟩:=aa
  subst e
  refine⟨_,zw (wL (pv 0) (vC zu) rfl) (zw (wL (pv 0) (vC (zi uk (zi uk zu))) rfl) (zw (wL (pv 0) (vC (zi wd (zi wd zu))) rfl) (zw (wL (pv 0) (vC (zi uU (zi uU zu))) rfl)
   (zR (uD Gw rfl (aR rfl Z (zi (pv 1) zu)) (Xu rfl (wN (xH (i:=2) Zi.nd rfl (Or.inl rfl)) (wN (xH (i:=3) Zi.nd rfl (Or.inl rfl)) Yd)))
    (zw (yZ (i:=4) Zi.nd rfl (Or.inl rfl) (J7 (Yc (pv 3)) wd wd)) (zw (yL (xJ GC GM GU yA (zU (pv 0) rfl) (zi (pv 4) zu)))
     (zR (Ym (xz hr) (xo xQ (zU (pv 0) rfl) (pv 4) (λ_ _=>rfl)) (pv 2) uU rfl))))))))),?_⟩
  refine⟨by decide,λz af=>⟨_,rfl,x,C,dx,_,rfl,by rw[zd (zn hx af)];exact hx,T.cl,T.n1,by decide,?_⟩⟩
  have l1:=vB "part_of" (V.ref z) ([]:List (Fp×V))
  rw[KA]at l1
  generalize ea:upd (upd H z (HO.lst [])) x (HO.ins C dx (yC "part_of" (V.ref z) []))=Ha
  have j:Ha x=some (HO.ins C dx (yC "part_of" (V.ref z) [])):=by rw[<-ea];exact zj
  refine λd1 J d2 ab=>⟨by show 2<=Fv;decide,λpl ag=>⟨_,rfl,x,C,dx,_,rfl,by rw[zd (zn (by rw[zd (zn (by rw[zd (zn j J)];exact j) ab),zd (zn j J)];exact j) ag),zd (zn (by rw[zd (zn j J)];exact j) ab),zd (zn j J)];exact j,T.cl,T.n2,by omega,?_⟩⟩
  have l2:=vB "parts" (V.ref pl) (yC "part_of" (V.ref z) ([]:List (Fp×V)))
  generalize eb:upd (upd (upd (upd Ha d1 (HO.dK [])) d2 (HO.dK [])) pl (HO.lst [V.ref d1,V.ref d2])) x (HO.ins C dx (yC "parts" (V.ref pl) (yC "part_of" (V.ref z) [])))=Hb
  have ah:Hb x=some (HO.ins C dx (yC "parts" (V.ref pl) (yC "part_of" (V.ref z) []))):=by rw[<-eb];exact zj
  refine⟨by decide,λU ai=>⟨_,rfl,x,C,dx,_,rfl,by rw[zd (zn ah ai)];exact ah,T.cl,T.n3,by omega,?_⟩⟩
  have l3:=vB "waiting" (V.ref U) (yC "parts" (V.ref pl) (yC "part_of" (V.ref z) ([]:List (Fp×V))))
  generalize ec:upd (upd Hb U (HO.lst [V.int 0,V.int 1])) x (HO.ins C dx (yC "waiting" (V.ref U) (yC "parts" (V.ref pl) (yC "part_of" (V.ref z) []))))=Hc
  have aj:Hc x=some (HO.ins C dx (yC "waiting" (V.ref U) (yC "parts" (V.ref pl) (yC "part_of" (V.ref z) [])))):=by rw[<-ec];exact zj
  refine⟨by decide,λws ak=>⟨_,rfl,x,C,dx,_,rfl,by rw[zd (zn aj ak)];exact aj,T.cl,T.n4,by omega,?_⟩⟩
  have ef:yC "waits" (V.ref ws) (yC "waiting" (V.ref U) (yC "parts" (V.ref pl) (yC "part_of" (V.ref z) [])))=Z6 ⟨dx,z,pl,U,ws,[d1,d2]⟩:=by rfl
  generalize hH:upd (upd Hc ws (HO.lst [V.bl true,V.bl true])) x (HO.ins C dx (yC "waits" (V.ref ws) (yC "waiting" (V.ref U) (yC "parts" (V.ref pl) (yC "part_of" (V.ref z) [])))))=Hd
  have r0:=Rep.begin (C:=C) (dx:=dx) (Hd:=Hd) sm hx h0 af ea.symm J ab ag eb.symm ai ec.symm ak (ed:=by rw[<-hH,ef])
  generalize hg:(⟨dx,z,pl,U,ws,[d1,d2]⟩:Ads)=g at r0
  have al:g.ds.length=2:=by rw[<-hg];rfl
  refine⟨_,rfl,gl,rfl,⟨_,SqL.of (r0.sm _ _ O)⟩,bB (n:=good.length) (λi σ H=>(∃o2 o3 o4,σ=[some (.ref x),some (.ref gl),o2,o3,o4])/\∃H1,zm H0 H1/\Rep C H1 H x (ini good i) g)
   ⟨⟨none,none,none,rfl⟩,H0,zm.refl _,r0⟩ (λi σ H hi ac=>(by obtain⟨_,H1,s1,r⟩:=ac;exact⟨_,.bl good[i],SqL.of (r.sm _ _ (s1 _ _ O)),by simp[hi]⟩)) (λσ H ad=>(by obtain⟨_,H1,s1,r⟩:=ad;exact⟨_,SqL.of (r.sm _ _ (s1 _ _ O)),by rw[FF];exact FA _⟩)) (λi v σ H H' hi p y=>?_) (λσ H p=>?_)⟩
  ·obtain⟨⟨o2,o3,o4,rfl⟩,H1,s1,r⟩:=p
   obtain⟨t,u,hT,rfl,rfl,hv⟩:=y
   have hb:=hv _ (SqL.of (r.sm _ _ (s1 _ _ O)))
   rw[FP]at hb
   obtain⟨b,am,rfl⟩:=Hx.mp hb
   have r1:=r.ext hT (.tup [.int i,.bl b])
   have Y:pOf b<2:=by cases b <;>decide
   have ae:g.ds[pOf b]?=some (g.ds[pOf b]'(by rw[al];exact Y)):=by simp[al,Y]
   refine⟨t,_,rfl,SqT.of zj,rfl,_,_,rfl,_,_,rfl,rfl,?_⟩
   refine⟨_,rfl,b,rfl,Cw ?_⟩
   refine⟨_,rfl,x,C,g.dx,_,_,rfl,r1.ins,T.cl,T.n1,rfl,.inl ⟨rfl,_,SqL.of r1.po⟩,_,rfl,g.po,_,_,rfl,rfl,r1.po,?_,?_⟩
   ·rw[FF]
    show((good.take i).map pOf).length<_
    rw[FF,HP]
    omega
   have r2:=r1.setPartOf ((ini good i).partOf++[pOf b])
   rw[show zF (ini good i).partOf++[V.int (pOf b:Int)]=zF ((ini good i).partOf++[pOf b])from by simp]
   have hk:=r2.ds (pOf b) _ ae
   refine⟨_,rfl,x,C,g.dx,_,_,rfl,r2.ins,T.cl,T.n2,rfl,_,rfl,g.pl,_,_,_,rfl,rfl,SqL.of r2.pl,xf (by rw[FP,ae];rfl),_,rfl,_,_,rfl,uN.k (k:=Sum.inl (i:Int)) hk ?_,?_⟩
   ·rw[FF]
    exact IA (mu (good:=good) (i:=i) (p:=pOf b)) (by omega)
   have r3:=r2.setPart ae ((ini good i).parts.getD (pOf b) []++[i])
   rw[QZ (l:=((ini good i).parts.getD (pOf b) [])) mq]
   refine⟨⟨_,_,_,rfl⟩,upd H1 t (.tup [.int i,.bl b]),?_,?_⟩
   ·exact s1.trans (zz (r.sm.free hT) _)
   ·rw[oK am]
    exact r3
  ·obtain⟨_,H1,s1,r⟩:=p
   rw[oJ]at r
   exact q H g (r.weak s1)
abbrev UG:FC:=top 28
def YK:FnScope ["goals","back","part_of","found","goal","stand","part"] ["goals","back","part_of"] (zl UG):=⟨rfl,rfl,rfl,by decide+kernel,rfl,by decide+kernel,by decide+kernel⟩
def Bh:Sp:=λvs H Q _=>∃gl bl pl goals back partOf as,vs=[.ref gl,.ref bl,.ref pl]/\H gl=some (.lst (zF goals))/\BkR H bl back as/\H pl=some (.lst (zF partOf))/\(∀g∈goals,g<back.length)/\(∀g,∀s∈back.getD g [],s<partOf.length)/\
 (goals.flatMap λg=>back.getD g []).length<Fv/\∀d H' fl,FR H H' d fl->fl.map (·.1)=Hop.v8 goals back partOf->Q (.ref d) H'
def tJ{P:FI}{w:FB}{K:Fs}{mg:Fp->Option Fl}{base:Fz}{fa:Fo}{fd:Ga}(Fn:Fun K "leading_to" "leading_to" UG fa fd):FnOk P w K mg base CX0 1 fa fd ["goals","back","part_of"] Bh :=
 Fn.ok (k:=0) YK (λvs H Q E ⟨gl,bl,pl,goals,back,partOf,as,e,_⟩=>by rw[e];rfl) λcdv A outer s H vs Q E hr hh88'=>by
  obtain⟨gl,bl,pl,goals,back,partOf,as,e,hgl,hbl,hpl,hgb,hsp,hz,q⟩:=hh88'
  subst e
  refine⟨_,zw (yZ (i:=3) YK.nd rfl (Or.inl rfl) uk) (zw (uD Gw rfl (Wb (pv 0)) (xH (i:=4) YK.nd rfl (Or.inl rfl)) (zR (uD Gw rfl (Wb (xo xQ (pv 1) (pv 4) (λ_ _=>rfl))) (xH (i:=5) YK.nd rfl (Or.inl rfl))
   (zw (yZ (i:=6) YK.nd rfl (Or.inl rfl) (xo xQ (pv 2) (pv 5) (λ_ _=>rfl))) (zw (YN (lI (QS (xz hr) (pv 6) (pv 3))) (zR (Ym (xz hr) (pv 3) (pv 6) (vC zu) rfl)) u8)
    (zR (yL (xJ GC GM GU yA (UT (xz hr) (pv 3) (pv 6) (λ_ _=>rfl)) (zi (pv 5) zu))))))))) (zR (wu (pv 3)))),?_⟩
  intro d hd
  have f0:=FR.new hd
  refine⟨_,rfl,gl,rfl,⟨_,SqL.of (f0.sm _ _ hgl)⟩,YR (xs:=zF goals) (λi σ H1=>(∃o4 o5 o6,σ=[some (.ref gl),some (.ref bl),some (.ref pl),some (.ref d),o4,o5,o6])/\∃fl,FR H H1 d fl/\fl.map (·.1)=uQ (λs=>partOf.getD s 0) ((goals.take i).flatMap λg=>back.getD g []))
   ⟨⟨none,none,none,rfl⟩,[],f0,rfl⟩ (λi σ H1 _ hh89'=>(by obtain⟨_,fl,f,_⟩:=hh89';exact SqL.of (f.sm _ _ hgl))) (λi v σ H1 hv p=>?_) (λσ H1 p=>?_)⟩
  ·obtain⟨⟨o4,o5,o6,rfl⟩,fl,f,efl⟩:=p
   rw[FP]at hv
   obtain⟨g,hgi,rfl⟩:=Hx.mp hv
   have hg:=hgb g (Gj hgi)
   have hag:as[g]?=some (as[g]'(by rw[hbl.len];exact hg)):=by simp[hbl.len,hg]
   generalize as[g]'(by rw[hbl.len];exact hg)=ag at hag
   have hal:=hbl.ls g ag hag
   refine⟨_,rfl,_,rfl,bl,_,_,.ref ag,rfl,rfl,SqL.of (f.sm _ _ hbl.b),xf (by rw[FP,hag];rfl),ag,rfl,⟨_,SqL.of (f.sm _ _ hal)⟩,YR (xs:=zF (back.getD g [])) (λj σ H1=>(∃o5 o6,σ=[some (.ref gl),some (.ref bl),some (.ref pl),some (.ref d),some (.int (g:Int)),o5,o6])/\∃fl,FR H H1 d fl/\fl.map (·.1)=uQ (λs=>partOf.getD s 0) ((goals.take i).flatMap (λg=>back.getD g [])++(back.getD g []).take j))
    ⟨⟨o5,o6,rfl⟩,fl,f,by rw[OO,Iw];exact efl⟩ (λj σ H1 _ hh90'=>(by obtain⟨_,fl,f,_⟩:=hh90';exact SqL.of (f.sm _ _ hal))) (λj v σ H1 hv p=>?_) (λσ H1 p=>?_)⟩
   ·obtain⟨⟨o5,o6,rfl⟩,fl,f,efl⟩:=p
    rw[FP]at hv
    obtain⟨s,hsj,rfl⟩:=Hx.mp hv
    have hs:=hsp g s (Gj hsj)
    generalize hxs:(goals.take i).flatMap (λg=>back.getD g [])++(back.getD g []).take j=xs at efl
    have hxl:xs.length<Fv:=by rw[<-hxs];exact IA (sA back hgi j) hz
    have small:=iZ (λs=>partOf.getD s 0) xs
    rw[<-efl]at small
    have exs:(goals.take i).flatMap (λg=>back.getD g [])++(back.getD g []).take (j+1)=xs++[s]:=by rw[XO hsj,<-ME,hxs]
    have eg:uQ (λs=>partOf.getD s 0) (xs++[s])=Hop.xh (fl.map (·.1)) (partOf.getD s 0) s:=by rw[Q6,efl]
    generalize hp:partOf.getD s 0=p at eg
    refine⟨_,rfl,_,rfl,pl,_,_,.int (p:Nat),rfl,rfl,SqL.of (f.sm _ _ hpl),xf (by rw[FP,getD_some (d:=0) hs,hp];rfl),?_⟩
    refine⟨_,rfl,_,rfl,d,_,rfl,x9.k (k:=Sum.inl (p:Int)) f.dd,_,rfl,?_⟩
    refine ZX (λhc=>?_) (λhc=>?_)
    ·have hnot:p∉fl.map (·.1.1):=λz=>by
      obtain⟨e,he,ee⟩:=FX.mp z
      have:=bC f.kn he
      rw[ee]at this
      rw[this]at hc;cases hc
     refine⟨by decide,λa ha=>⟨_,rfl,_,rfl,d,_,rfl,uN.k (k:=Sum.inl (p:Int)) (by rw[zd (zn f.dd ha)];exact f.dd) ?_,?_⟩⟩
     ·rw[FF]
      have:=small.1
      rw[FF]at this
      omega
     have f1:=f.add hnot ha
     have hin:(((p,[]),a):FE)∈fl++[((p,[]),a)]:=by simp
     have dg:x9 (upd (upd H1 a (.lst [])) d (.dK (x6 (kvF fl) (Sum.inl (p:Int)) (V.ref a)))) d (.int (p:Int)) (some (.ref a)):=by
      have:=x9.k (k:=Sum.inl (p:Int)) f1.dd
      rw[bC f1.kn hin]at this
      exact this
     refine⟨_,rfl,_,rfl,d,.ref a,rfl,dg,.inl ⟨rfl,_,SqL.of (f1.ls _ hin).1⟩,_,rfl,a,_,_,rfl,rfl,(f1.ls _ hin).1,by show 0<Fv;decide,?_⟩
     have f2:=f1.app (s:=s) hin rfl
     exact⟨⟨_,_,rfl⟩,_,f2,by rw[exs,eg,oM hnot]⟩
    ·have hk:p∈fl.map (·.1.1):=M6 λz=>hc (by rw[fZ z];rfl)
     obtain⟨e,he,ee⟩:=FX.mp hk
     have dg:x9 H1 d (.int (p:Int)) (some (.ref e.2)):=by
      have:=x9.k (k:=Sum.inl (p:Int)) f.dd
      rw[<-ee,bC f.kn he,ee]at this
      exact this
     refine⟨_,rfl,_,rfl,d,.ref e.2,rfl,dg,.inl ⟨rfl,_,SqL.of (f.ls _ he).1⟩,_,rfl,e.2,_,_,rfl,rfl,(f.ls _ he).1,?_,?_⟩
     ·rw[FF]
      have:=small.2 e.1 (FX.mpr ⟨e,he,rfl⟩)
      omega
     have f2:=f.app (s:=s) he ee
     rw[show zF e.1.2++[V.int (s:Int)]=zF (e.1.2++[s])from by simp]
     exact⟨⟨_,_,rfl⟩,_,f2,by rw[exs,eg,iY f.kn hk]⟩
   ·obtain⟨⟨o5,o6,rfl⟩,fl,f,efl⟩:=p
    refine⟨⟨_,_,_,rfl⟩,fl,f,?_⟩
    rw[efl,FF,HY,Q9 back hgi]
  ·obtain⟨⟨o4,o5,o6,rfl⟩,fl,f,efl⟩:=p
   refine⟨_,rfl,q d H1 fl f ?_⟩
   rw[efl,FF,HY,mx]
abbrev J5:FC:=top 27
def UH:FnScope ["rows","letter","back","stand","row"] ["rows","letter"] (zl J5):=⟨rfl,rfl,rfl,by decide+kernel,rfl,by decide+kernel,by decide+kernel⟩
structure RwR (H:Hp) (rl:Fo) (rows:List (List Nat)) (rs:List Fo):Prop where
 r:H rl=some (.tup (rs.map V.ref))
 len:rs.length=rows.length
 ls:∀(i:Nat) a,rs[i]?=some a->H a=some (.tup (zF (rows.getD i [])))
def RwR.mono(r:RwR H j rows rs)(s:zm H H'):RwR H' j rows rs:=⟨s _ _ r.r,r.len,λi a h=>s _ _ (r.ls i a h)⟩
def rp:Sp:=λvs H Q _=>∃j a rows rs,vs=[.ref j,.int (a:Nat)]/\RwR H j rows rs/\(∀s,s<rows.length->a<(rows.getD s []).length/\(rows.getD s []).getD a 0<rows.length)/\rows.length<Fv/\∀b H' as,BO H H' b as (bk rows a rows.length)->Q (.ref b) H'
def Bj{P:FI}{w:FB}{K:Fs}{mg:Fp->Option Fl}{base:Fz}{fa:Fo}{fd:Ga}(Fn:Fun K "arrows_back" "arrows_back" J5 fa fd)(O:mg "enumerate"=none):FnOk P w K mg base CX0 1 fa fd ["rows","letter"] rp :=
 Fn.ok (k:=0) UH (λvs H Q E ⟨rl,a,rows,rs,e,_⟩=>by rw[e];rfl) λcdv A outer s H vs Q E hr U=>by
  obtain⟨rl,a,rows,rs,e,z,aa,hz,q⟩:=U
  subst e
  refine⟨_,zw (Wf (N:=["row"]) (ms:=[none]) (i:=2) rfl (CompOk.of (by rfl)) (Aa (pv 0)) (λcl C s H ex=>⟨xH (i:=0) (show(["row"]:List Fp).Nodup by decide+kernel) rfl (Or.inl rfl),VA,vC zu⟩) UH.nd rfl (Or.inl rfl) rfl)
   (zw (uD Gw rfl (aC rfl O (zi (pv 0) zu)) (Xu rfl (wN (xH (i:=3) UH.nd rfl (Or.inl rfl)) (wN (xH (i:=4) UH.nd rfl (Or.inl rfl)) Yd)))
    (zR (yL (xJ GC GM GU yA (xo xQ (pv 2) (xo wR (pv 4) (pv 1) (λ_ _=>rfl)) (λ_ _=>rfl)) (zi (pv 3) zu)))))
    (zR (wu (pv 2)))),?_⟩
  have j:(rs.map V.ref).length=rows.length:=by rw[FF];exact z.len
  refine⟨_,rfl,rl,rfl,⟨_,SqT.of z.r⟩,oO z.r (by rw[j];omega) λas H1 l b hb=>?_⟩
  rw[j,<-sB rows a]at l
  have b0:=l.close hb
  refine⟨_,rfl,rl,rfl,⟨_,SqT.of (b0.l.sm _ _ z.r)⟩,bB (n:=rows.length) (λi σ H2=>(∃o3 o4,σ=[some (.ref rl),some (.int (a:Int)),some (.ref b),o3,o4])/\BO H H2 b as (bk rows a i))
   ⟨⟨none,none,rfl⟩,b0⟩ (λi σ H2 hi Y=>(by obtain⟨_,r⟩:=Y;exact⟨_,.ref (rs[i]'(by rw[z.len];exact hi)),SqT.of (r.l.sm _ _ z.r),by simp[z.len,hi]⟩)) (λσ H2 Z=>(by obtain⟨_,r⟩:=Z;exact⟨_,SqT.of (r.l.sm _ _ z.r),by rw[j];exact FA _⟩)) (λi v σ H2 H' hi p y=>?_) (λσ H2 p=>?_)⟩
  ·obtain⟨⟨o3,o4,rfl⟩,r⟩:=p
   obtain⟨t,u,hT,rfl,rfl,hv⟩:=y
   have hu:=hv _ (SqT.of (r.l.sm _ _ z.r))
   rw[FP]at hu
   obtain⟨ra,ab,rfl⟩:=Hx.mp hu
   have r1:=r.grow (zz hT (.tup [.int i,.ref ra]))
   obtain⟨h1,h2⟩:=aa i hi
   have J:as[(rows.getD i []).getD a 0]?=some (as[(rows.getD i []).getD a 0]'(by rw[l.len];unfold bk;simpa using h2)):=by
    rw[FU]
   generalize as[(rows.getD i []).getD a 0]'(by rw[l.len];unfold bk;simpa using h2)=ag at J
   obtain⟨k1,k2⟩:=r1.l.ls _ ag J
   refine⟨t,_,rfl,SqT.of zj,rfl,_,_,rfl,_,_,rfl,rfl,?_⟩
   refine⟨_,rfl,_,rfl,_,rfl,ra,_,_,.int ((rows.getD i []).getD a 0:Nat),rfl,rfl,SqT.of (r1.l.sm _ _ (z.ls i ra ab)),xf (by rw[FP,getD_some (d:=0) h1];rfl),b,_,_,.ref ag,rfl,rfl,SqL.of r1.bb,xf (by rw[FP,J];rfl),.inl ⟨rfl,_,SqL.of k1⟩,_,rfl,ag,_,_,rfl,rfl,k1,?_,?_⟩
   ·rw[FF,V8 h2]
    have:=LF (λs=>decide ((rows.getD s []).getD a 0=(rows.getD i []).getD a 0)) (Fy i)
    rw[GS]at this
    omega
   have r2:=r1.put J ((bk rows a i).getD ((rows.getD i []).getD a 0) []++[i])
   rw[show zF ((bk rows a i).getD ((rows.getD i []).getD a 0) [])++[V.int (i:Int)]=zF ((bk rows a i).getD ((rows.getD i []).getD a 0) []++[i])from by simp]
   refine⟨⟨_,_,rfl⟩,?_⟩
   rw[sC h2]
   exact r2
  ·obtain⟨⟨o3,o4,rfl⟩,r⟩:=p
   exact⟨_,rfl,q b H2 as r⟩
abbrev WN:FC:=top 29
abbrev Bk:List Fp:=["letters","rows","good","backs","parting","goals","back","found","part","stands"]
def vk:FnScope Bk ["letters","rows","good"] (zl WN):=⟨rfl,rfl,rfl,by decide+kernel,rfl,by decide+kernel,by decide+kernel⟩
def tK:Sp:=λvs H Q _=>∃A rl gl rows rs good,vs=[.int (A:Nat),.ref rl,.ref gl]/\RwR H rl rows rs/\Rows rows A/\H gl=some (.lst ((good:List Bool).map V.bl))/\good.length=rows.length/\rows.length+3<Fv/\A<Fv/\
 ∀po H',zm H H'->H po=none->H' po=some (.lst (zF (Hop.xg (bks rows A) good)))->Q (.ref po) H'
structure PM (K:Fs) (mg:Fp->Option Fl) (C fi ft fo fw fl fr:Fo) (di dt do_ dw dl dr:Ga):Prop where
 pc:PC K C
 mgC:mg "Parting"=some (.ref C)
 mkc:Mk K C fi
 init:Fun K "__init__" "Parting.__init__" ub fi di
 mt:Meth K C "take_goals" ft
 take:Fun K "take_goals" "Parting.take_goals" UD ft dt
 mo:Meth K C "part_off" fo
 off:Fun K "part_off" "Parting.part_off" J2 fo do_
 mw:Meth K C "let_wait" fw
 wait:Fun K "let_wait" "Parting.let_wait" X8 fw dw
 ml:mg "leading_to"=some (.ref fl)
 lead:Fun K "leading_to" "leading_to" UG fl dl
 mr:mg "arrows_back"=some (.ref fr)
 arr:Fun K "arrows_back" "arrows_back" J5 fr dr
 len:mg "len"=none
 list:mg "list"=none
 range:mg "range"=none
 enum:mg "enumerate"=none
def qg{H:Hp}{O:Fo}{rows:List (List Nat)}{rs:List Fo}{A:Nat}(rr:RwR H O rows rs)(Z:Rows rows A)(hz:rows.length<Fv)(hA:A<=Fv){E:XK}{Fin:List V->Hp->Prop} 
  (h:∀bs H',zm H H'->BsR H' rows bs->bs.length=A->Fin (bs.map V.ref) H'):VB (Itr 0 A) (vl 0) Yh (qP rp [] E (uz (vK 1) (uz (vK 0) YS))) [none,some (.ref O)] H Fin:=by
 refine⟨λi m ys H1=>m=A-i/\i<=A/\∃bs,ys=bs.map V.ref/\bs.length=i/\zm H H1/\BsR H1 rows bs,⟨A,by simp,GI _,[],rfl,rfl,zm.refl _,⟨λi b h=>by simp at h⟩⟩,?_⟩
 rintro i m ys H1 ⟨rfl,hi,bs,rfl,U,Y,b⟩
 refine⟨by rw[FF];omega,?_⟩
 by_cases z:i<A
 ·refine .inr ⟨z,λx H' y=>?_⟩
  obtain⟨rfl,rfl⟩:=y
  refine⟨⟨rfl,λj v J=>?_⟩,(show _ from ?_)⟩
  ·match j,J with
   | 0,J=>simp at J
   | 1,J=>exact J
   | j+2,J=>simp at J
  ·refine⟨_,rfl,_,rfl,O,i,rows,rs,?_,rr.mono Y,λs hs=>⟨Gs z (Z.len s hs),Z.lt s i hs z⟩,hz,λc H' as o=>⟨by rw[FF];omega,A-(i+1),by omega,rfl,z,bs++[c],by simp,by simp[U],Y.trans o.l.sm,(b.mono o.l.sm).snoc (as:=as) ?_⟩⟩
   ·show [V.ref O,V.int (0+(i:Int))]=_
    rw[Int.zero_add]
   ·rw[U];exact o.bk
 ·have e:i=A:=by omega
  subst e
  exact .inl ⟨FA _,h bs H1 Y b U⟩
def qh{P:FI}{w:FB}{K:Fs}{mg:Fp->Option Fl}{base:Fz}{fa C fi ft fo fw fl fr:Fo}{fd di dt ba dw dl dr:Ga}(Fn:Fun K "parts_of_stands" "parts_of_stands" WN fa fd)(M:PM K mg C fi ft fo fw fl fr di dt ba dw dl dr):FnOk P w K mg base CX0 3 fa fd ["letters","rows","good"] tK :=
 Fn.ok (k:=2) vk (λvs H Q E ⟨A,rl,gl,rows,rs,good,e,_⟩=>by rw[e];rfl) λcdv A0 outer s H vs Q E hr ao=>by
  obtain⟨A,rl,gl,rows,rs,good,e,rr,ab,ca,bb,hz,cw,q⟩:=ao
  subst e
  have ap:=hr.mono (show 1<=2 by decide)
  have bi:yD K di ["self","good"] []:=M.init.binds λ_ _ _ _ _ _ us O=>by rcases us with _|⟨_,_|⟨_,_|⟨_,_⟩⟩⟩ <;>first|rfl|cases O|(simp at O)
  have bt:yD K dt ["self"] []:=M.take.binds λ_ _ _ _ _ _ us O=>by rcases us with _|⟨_,_|⟨_,_⟩⟩ <;>first|rfl|cases O|(simp at O)
  have bo:yD K ba ["self","part","stands"] []:=M.off.binds λ_ _ _ _ _ _ us O=>by rcases us with _|⟨_,_|⟨_,_|⟨_,_|⟨_,_⟩⟩⟩⟩ <;>first|rfl|cases O|(simp at O)
  have bl:yD K dl ["goals","back","part_of"] []:=M.lead.binds λ_ _ _ _ _ _ us O=>by rcases us with _|⟨_,_|⟨_,_|⟨_,_|⟨_,_⟩⟩⟩⟩ <;>first|rfl|cases O|(simp at O)
  have br:yD K dr ["rows","letter"] []:=M.arr.binds λ_ _ _ _ _ _ us O=>by rcases us with _|⟨_,_|⟨_,_|⟨_,_⟩⟩⟩ <;>first|rfl|cases O|(simp at O)
  refine⟨_,zw (Wf (N:=["letter","rows"]) (ms:=[none,some 1]) (i:=3) rfl (CompOk.of (by rfl)) (QG rfl M.range (zi (pv 0) zu)) (λcl C s H ex=>⟨xH (i:=0) (show(["letter","rows"]:List Fp).Nodup by decide+kernel) rfl (Or.inl rfl),VA,xj (Bj M.arr M.enum) ap rfl M.mr M.arr.kp br .nil yO (zi (pv 1) (zi (pv 0) zu))⟩) vk.nd rfl (Or.inl rfl) rfl)
   (zw (yZ (i:=4) vk.nd rfl (Or.inl rfl) (eZ M.mkc (QC M.init M.pc M.enum) hr rfl M.mgC bi .nil yO (zi (pv 2) zu)))
   (zw (YO Gw (Ye qO (xi zy rfl M.len Gg (zi (zU (pv 4) rfl) zu)) wd (yk _))
    (zw (yZ (i:=5) vk.nd rfl (Or.inl rfl) (Zl (pv 4) M.pc.cl M.mt (tz M.take M.pc M.list) ap bt .nil yO))
    (zR (uD Gw rfl (Wb (pv 3)) (xH (i:=6) vk.nd rfl (Or.inl rfl))
     (zw (yZ (i:=7) vk.nd rfl (Or.inl rfl) (xj (tJ M.lead) ap rfl M.ml M.lead.kp bl .nil yO (zi (pv 5) (zi (pv 6) (zi (zU (pv 4) rfl) zu)))))
     (zR (uD Gw rfl (oE (pv 7)) (Xu rfl (wN (xH (i:=8) vk.nd rfl (Or.inl rfl)) (wN (xH (i:=9) vk.nd rfl (Or.inl rfl)) Yd)))
      (zR (yL (Yf (pv 4) M.pc.cl M.mo (Bf M.off M.pc M.len M.wait M.mw) hr bo .nil yO (zi (pv 8) (zi (pv 9) zu))))))))))))
   (zR (wu (zU (pv 4) rfl))))),?_⟩
  refine⟨_,rfl,(A:Int),rfl,by omega,?_,?_⟩
  ·have:Fv<2^62:=by decide
   omega
  rw[Il]
  refine qg rr ab (by omega) (by omega) λbs H1 cb cc bc p hp=>?_
  have aq:zm H1 (upd H1 p (.lst (bs.map V.ref))):=zz hp _
  refine⟨_,rfl,λx dx hx bd cd=>?_⟩
  generalize ce:upd H1 p (.lst (bs.map V.ref))=H2 at aq hx bd
  have be:H2 p=some (.lst (bs.map V.ref)):=by rw[<-ce];exact zj
  have bf:zm H H2:=cb.trans aq
  have Y:zm H2 (upd H2 dx (.own x)):=zz bd _
  generalize cf:upd H2 dx (.own x)=Hb at Y
  have bg:Hb x=none:=by rw[<-cf,zd (FH cd)];exact hx
  refine⟨x,gl,dx,good,Hb,rfl,zj,zz bg _,bg,Y _ _ (bf _ _ ca),by omega,λH3 g r0=>⟨rfl,?_⟩⟩
  have bh:zm H Hb:=bf.trans Y
  have hδ:∀a s,a<A->s<rows.length->(λa s=>(rows.getD s []).getD a 0) a s<rows.length:=λa s ha hs=>ab.lt s a hs ha
  have ar:∀i,i<A->Hop.Back rows.length ((λa s=>(rows.getD s []).getD a 0) i) ((bks rows A).getD i []):=λi hi=>by
   rw[FM,UZ hi];exact ab.back hi
  have cg:Hop.Inv rows.length A (λa s=>(rows.getD s []).getD a 0) (λ_ _=>True) (Hop.start good):=by
   rw[<-bb]at hδ ⊢
   exact Hop.Jc hδ λ_ _ _ _ _=>trivial
  refine⟨λm σ H'=>(∃o5 o6 o7 o8 o9,σ=[some (.int (A:Int)),some (.ref rl),some (.ref gl),some (.ref p),some (.ref x),o5,o6,o7,o8,o9])/\∃st g H1,Rep C H1 H' x st g/\zm Hb H1/\Hop.Inv rows.length A (λa s=>(rows.getD s []).getD a 0) (λ_ _=>True) st/\rows.length+2+st.waiting.length<=m+st.parts.length/\(Hop.run (bks rows A) m st).partOf=Hop.xg (bks rows A) good,
   ⟨rows.length+2,⟨none,none,none,none,none,rfl⟩,Hop.start good,g,Hb,r0,zm.refl _,cg,by show _+2+2<=_+2+2;omega,by rw[<-bb];rfl⟩,?_⟩
  rintro m σ H4 ⟨⟨o5,o6,o7,o8,o9,rfl⟩,st,g,H5,r,Z,iv,hm,ac⟩
  have gd:Hop.Good rows.length st:=⟨iv.ok,iv.full⟩
  refine⟨_,rfl,x,C,g.dx,_,_,rfl,r.ins,M.pc.cl,M.pc.n3,rfl,g.wg,_,rfl,.inl (SqL.of r.wg),_,_,rfl,rfl,_,rfl,?_⟩
  refine ZX (λhc=>?_) (λhc=>?_)
  ·have bj:0<st.waiting.length:=by
    have:=of_decide_eq_true hc
    rw[FF]at this
    omega
   have ad:st.waiting≠[]:=λz=>by rw[z]at bj;exact absurd bj (by simp)
   have cx:=gd.parts
   obtain⟨k,rfl⟩:∃k,m=k+1:=⟨m-1,by omega⟩
   have J:=M2 ad
   generalize st.waiting.getLast ad=pt at J
   obtain⟨ci,cnt,_⟩:=Hop.aY hδ (λ_ _ _ _ _ _ _=>trivial) (U0 rows A) ar iv J
   have ae:Hop.turn (bks rows A) st=(bks rows A).foldl (Hop.wm (st.parts.getD pt [])) (Hop.take st pt):=by unfold Hop.turn;rw[J]
   have au:(Hop.run (bks rows A) k (Hop.turn (bks rows A) st)).partOf=Hop.xg (bks rows A) good:=by
    rw[<-ac]
    conv=>rhs;unfold Hop.run
    rw[if_neg ad]
   have bm:pt∈st.waiting:=by
    rw[(Hop.UX iv.ok J).2];simp
   have al:=iv.ok.wlt pt bm
   refine⟨_,λσ' H' w=>⟨k,IR k,w⟩,?_⟩
   refine⟨_,rfl,x,g.dx,_,rfl,r.ins,rfl,x,pt,H5,st,g,rfl,r,J,by rw[iv.ok.wl];exact al,al,λl H6 O r6=>?_⟩
   generalize U:st.parts.getD pt []=goals at r6 ae
   have av:goals.Nodup:=by rw[<-U];exact iv.ok.nd pt
   have bn:∀y∈goals,y<rows.length:=λy hy=>by rw[<-U]at hy;exact((iv.ok.mem pt y).mp hy).1
   have af:zm H5 (upd H5 l (.lst (zF goals))):=zz O _
   have bp:upd H5 l (.lst (zF goals)) l=some (.lst (zF goals)):=zj
   generalize upd H5 l (.lst (zF goals))=ah at r6 af bp
   have gt:=Hop.mB gd J
   have aw:∀b∈bks rows A,∃d,Hop.Back rows.length d b:=λb hb=>by
    unfold bks at hb
    obtain⟨a,ha,rfl⟩:=FX.mp hb
    exact⟨_,ab.back (Gh.mp ha)⟩
   refine⟨_,rfl,p,rfl,⟨_,SqL.of (r6.sm _ _ (af _ _ (Z _ _ (Y _ _ be))))⟩,YR (xs:=bs.map V.ref) (λi σ H'=>(∃o6 o7 o8 o9,σ=[some (.int (A:Int)),some (.ref rl),some (.ref gl),some (.ref p),some (.ref x),some (.ref l),o6,o7,o8,o9])/\∃g H1,Rep C H1 H' x (((bks rows A).take i).foldl (Hop.wm goals) (Hop.take st pt)) g/\zm ah H1)
    ⟨⟨o6,o7,o8,o9,rfl⟩,g,ah,r6,zm.refl _⟩ (λi σ H' _ ax=>(by obtain⟨_,g,H1,r,s1⟩:=ax;exact SqL.of (r.sm _ _ (s1 _ _ (af _ _ (Z _ _ (Y _ _ be))))))) (λi v σ H' hv pv=>?_) (λσ H' pv=>?_)⟩
   ·obtain⟨⟨o6,o7,o8,o9,rfl⟩,g,H7,r,s7⟩:=pv
    rw[FP]at hv
    obtain⟨b,bq,rfl⟩:=Hx.mp hv
    have bu:i<A:=by rw[<-bc];exact(FO.mp bq).1
    have ai:=Hop.Jb (δ:=λ_ s=>s) av (bks rows A) _ aw gt i
    generalize bv:((bks rows A).take i).foldl (Hop.wm goals) (Hop.take st pt)=aa at r ai
    obtain⟨as,ck⟩:=cc.ls i b bq
    have bw:BkR H' b (bk rows i rows.length) as:=((((ck.mono (aq.trans Y)).mono Z).mono af).mono s7).mono r.sm
    have aj:=ab.back bu
    have bx:(bk rows i rows.length).length=rows.length:=by unfold bk;simp
    have cm:(goals.flatMap λg=>(bk rows i rows.length).getD g []).length<=rows.length:=by
     have:=Hop.yF (m:=Fy rows.length) (Hop.Y1 aj av) λy hy=>Gh.mpr ((Hop.ul aj y).mp hy).1
     rw[GS]at this
     exact this
    refine⟨_,rfl,_,rfl,_,rfl,x,C,g.dx,_,_,rfl,r.ins,M.pc.cl,M.pc.n1,rfl,l,b,g.po,goals,bk rows i rows.length,aa.partOf,as,rfl,r.sm _ _ (s7 _ _ bp),bw,r.po,λy hy=>by rw[bx];exact bn y hy,λy z cn=>by rw[ai.ok.len];exact((aj.mem y z).mp cn).1,by omega,λd H8 fl f bz=>?_⟩
    obtain⟨H9,s9,r9,am⟩:=r.grow f.sm
    have pr:=Hop.Ja aj av ai.ok
    rw[<-bz]at pr
    obtain⟨b0,cv⟩:=Hop.oP _ aa ai pr
    refine⟨_,rfl,d,kvF fl,rfl,f.dd,λo=>?_⟩
    have co:=am d _ f.d0 f.dd
    have b1:=r9.over co (.frz o (.dK (kvF fl)))
    have cp:ah d=none:=by
     have:H7 d=none:=r.sm.free f.d0
     exact s7.free this
    have s10:zm ah (upd H9 d (.frz o (.dK (kvF fl)))):=yw (s7.trans s9) cp _
    have b2:∀e∈fl,upd H9 d (.frz o (.dK (kvF fl))) e.2=some (.lst (zF e.1.2)):=λe he=>by
     rw[zd (vX (f.ls e he).1 f.dd (λz=>nomatch z))]
     exact am _ _ (f.ls e he).2 (f.ls e he).1
    have ay:upd H9 d (.frz o (.dK (kvF fl))) d=some (.frz o (.dK (kvF fl))):=zj
    generalize upd H9 d (.frz o (.dK (kvF fl)))=b3 at b1 s10 b2 ay
    have b4:(kvF fl).length=fl.length:=FF _
    refine bB (n:=fl.length) (λj σ H'=>(∃o8 o9,σ=[some (.int (A:Int)),some (.ref rl),some (.ref gl),some (.ref p),some (.ref x),some (.ref l),some (.ref b),some (.ref d),o8,o9])/\∃g H1,Rep C H1 H' x (Hop.wT aa ((fl.map (·.1)).take j)) g/\zm b3 H1)
     ⟨⟨o8,o9,rfl⟩,g,b3,b1,zm.refl _⟩ (λj σ H' hj az=>(by obtain⟨_,g,H1,r,s1⟩:=az;exact⟨r.sm _ _ (s1 _ _ ay),by rw[b4];exact hj⟩)) (λσ H' a8=>(by obtain⟨_,g,H1,r,s1⟩:=a8;exact⟨r.sm _ _ (s1 _ _ ay),by rw[b4];exact FA _⟩)) (λj v σ H' cy hj pv y=>?_) (λσ H' pv=>?_)
    ·obtain⟨⟨o8,o9,rfl⟩,g,ag,r,ak⟩:=pv
     obtain⟨t,kk,vv,hT,rfl,b5,rfl⟩:=y
     rw[FP]at b5
     obtain⟨e,b6,ee⟩:=Hx.mp b5
     cases ee
     have he:=Gj b6
     have an:(fl.map (·.1))[j]?=some (e.1.1,e.1.2):=by rw[FP,b6];rfl
     obtain⟨gj,cj⟩:=b0 j e.1.1 e.1.2 an
     have b7:=r.ext hT (.tup [kV (Sum.inl (e.1.1:Int)),V.ref e.2])
     have b8:upd ag t (.tup [kV (Sum.inl (e.1.1:Int)),V.ref e.2]) e.2=some (.lst (zF e.1.2)):=by
      have b9:=ak _ _ (b2 e he)
      rw[zd (zn (r.sm _ _ b9) hT)];exact b9
     refine⟨t,_,rfl,SqT.of zj,rfl,_,_,rfl,_,_,rfl,rfl,?_⟩
     have cz:=gj.parts
     have c0:=gj.wait
     refine⟨_,rfl,x,g.dx,_,rfl,b7.ins,rfl,_,rfl,_,rfl,x,e.1.1,e.2,e.1.2,_,_,g,rows.length,rfl,b7,b8,gj.ok,cj,by omega,by omega,by omega,λc1 cq cr=>⟨⟨_,_,rfl⟩,cq,upd ag t (.tup [kV (Sum.inl (e.1.1:Int)),V.ref e.2]),?_,ak.trans (zz (r.sm.free hT) _)⟩⟩
     rw[Hop.eK aa an]
     exact cr
    ·obtain⟨⟨o8,o9,rfl⟩,g,ag,r,ak⟩:=pv
     refine⟨⟨_,_,_,_,rfl⟩,g,ag,?_,s10.trans ak⟩
     rw[Hop.mz goals (Hop.take st pt) (UZ bu),bv]
     show Rep C ag H' x (Hop.wT aa (Hop.v8 goals (bk rows i rows.length) aa.partOf)) g
     rw[<-bz]
     have:(fl.map (·.1)).take fl.length=fl.map (·.1):=K5 (by rw[FF];exact FA _)
     rw[this]at r
     exact r
   ·obtain⟨⟨o6,o7,o8,o9,rfl⟩,g,H7,r,s7⟩:=pv
    refine⟨⟨_,_,_,_,_,rfl⟩,Hop.turn (bks rows A) st,g,H7,?_,(Z.trans af).trans s7,ci,by omega,au⟩
    rw[ae]
    have:(bks rows A).take (bs.map V.ref).length=bks rows A:=K5 (by rw[FF,bc,U0];exact FA _)
    rw[this]at r
    exact r
  ·have cu:st.waiting=[]:=by
    have h0:¬(0<st.waiting.length):=λz=>hc (decide_eq_true (by rw[FF];omega))
    exact HL.mp (by omega)
   have er:(Hop.run (bks rows A) m st)=st:=by
    cases m with
    | zero=>rfl
    | succ k=>unfold Hop.run;rw[if_pos cu]
   rw[er]at ac
   refine⟨_,rfl,x,C,g.dx,_,_,rfl,r.ins,M.pc.cl,M.pc.n1,rfl,q g.po H4 ((bh.trans Z).trans r.sm) ((bh.trans Z).free r.f1) ?_⟩
   rw[<-ac]
   exact r.po
def eB{P:FI}{w:FB}{K:Fs}{mg:Fp->Option Fl}{base:Fz}{fa C fi ft fo fw fl fr:Fo}{fd di dt U dw dl dr:Ga}(Y:Fun K "parts_of_stands" "parts_of_stands" WN fa fd)(hm:mg "parts_of_stands"=some (.ref fa))(M:PM K mg C fi ft fo fw fl fr di dt U dw dl dr):Callee P w K mg base 3 "parts_of_stands" Yt:=by
 refine⟨fa,fd,["letters","rows","good"],FnOk.imp (qh Y M) λvs H Q E h=>?_,hm,Y.kp,Y.binds λ_ _ _ _ _ _ us hl=>by rcases us with _|⟨_,_|⟨_,_|⟨_,_|⟨_,_⟩⟩⟩⟩ <;>first|rfl|cases hl|(simp at hl)⟩
 obtain⟨F,ds,d,O,r,e,q⟩:=h
 unfold Yt at e
 split at e
 ·rename_i a rd g
  obtain⟨rows,j,e⟩:=G6.mp e
  obtain⟨good,z,e⟩:=G6.mp e
  by_cases Z:0<=a/\Zb rows a.toNat=true/\good.length=rows.length/\rows.length+3<Fv/\a.toNat<Fv
  ·rw[if_pos Z]at e
   cases e
   obtain⟨c1,c2,c3,c4,c5⟩:=Z
   obtain⟨v1,r1,rfl,i1,r⟩:=r.inv
   obtain⟨v2,r2,rfl,i2,r⟩:=r.inv
   obtain⟨v3,r3,rfl,i3,r⟩:=r.inv
   cases r.inv0
   simp only[Is]at i1 i2 i3
   obtain⟨rl,ws,rfl,aa,ar⟩:=i2
   obtain⟨gl,ws',rfl,J,ag⟩:=i3
   obtain⟨rs,rfl,e2,e3⟩:=Yu j ar
   rw[Zx z ag]at J
   refine⟨a.toNat,rl,gl,rows,rs,good,by rw[i1,LH c1],⟨O _ _ aa,e2,λi b h=>O _ _ (e3 i b h)⟩,jD c2,O _ _ J,c3,c4,c5,λpo H' s hp ab=>?_⟩
   refine q _ _ H' (sE O s hp ab) ?_
   simp only[Is]
   exact⟨po,_,rfl,zj,W9 _⟩
  ·rw[if_neg Z]at e;cases e
 ·cases e
end Pt
namespace Py
open PySem L2 DD Pu
open Hop (walk yr Canon dl OkR Lst First Ws)
def lm:OkD 3 (zx A rows g):=by
 have n1:∀l:List Nat,OkD 1 (.tup (dN l)):=λl=>OkD.tup (n:=0) λd j=>by obtain⟨x,_,rfl⟩:=FX.mp j;exact OkD.int
 refine OkD.tup (n:=2) λd j=>?_
 simp only[FL,IX,or_false]at j
 rcases j with rfl|rfl|rfl
 ·exact OkD.int
 ·exact OkD.tup (n:=1) λd j=>by obtain⟨x,_,rfl⟩:=FX.mp j;exact n1 x
 ·exact(n1 _).mono (by omega)
def Bl:OkD 1 (xv w):=OkD.tup (n:=0) λd j=>by obtain⟨x,_,rfl⟩:=FX.mp j;exact OkD.int
section
variable {L:Nat} {R:List (List (Mv Fp))} {ns:List Int} {f:Fp} {q:List (List Nat)} {g:Nat->Bool}
def Vr(h:ZV s):Hn s=true:=by
 rcases h with rfl|rfl|rfl
 ·exact YE
 ·exact YF
 ·exact ZS
def Bm(h:OkM L R)(z:L=1\/L=2)(O:ZV f){a3 a4 a5 a6 a7 a9 a10 a11:S}:
  xV (some ((wUp L).map xv)) [none,some 2,some 8] (zr 0) Vl cP [.v (.scr ns),.v (.int (L:Int)),.v (zM L R),a3,a4,a5,a6,a7,.v (.str f),a9,a10,a11]=some (((wUp L).filter λw=>yG L R w==f).map xv):=by
 rw[<-nB,Hq]
 have U:(wUp L).length<=16777216:=by rcases z with rfl|rfl <;>decide
 rw[Jl (λk=>xv ((wUp L).getD k [])) (λk=>yG L R ((wUp L).getD k [])==f) (by rw[FF];exact U) λk Y=>?_,FF]
 ·rfl
 ·have j:k<(wUp L).length:=by simpa using Y
  have e:(wUp L).getD k []=(wUp L)[k]:=by rw[FM,FU j];rfl
  obtain⟨J,Z⟩:=dQ z _ (GF j)
  rw[e,Hr]
  generalize (wUp L)[k]=u at J Z
  refine⟨[.v (xv u),.v (zM L R),.v (.str f)],by simp[y8],?_,λ_=>rfl⟩
  obtain⟨r,c,o⟩:=Uy h J (by omega)
  have he:=Jz (w:=u) h (Vr O) o
  simp[Vl,c,he]
def qk(h:OkM L R)(Z:L=1\/L=2)(hf:ZV f)(T:FT L R (λs=>s==f) q g){a3 a4 a5 a6 a7 y10 y11:S}:
  ∃aa ab,wJ [.v (.scr ns),.v (.int (L:Int)),.v (zM L R),a3,a4,a5,a6,a7,.v (.str f),.v (zx L q g),y10,y11]=some (.nx [.v (.scr ns),.v (.int (L:Int)),.v (zM L R),a3,a4,a5,a6,a7,.v (.str f),.v (zx L q g),aa,ab]):=by
 obtain⟨o,e,lo,ll⟩:=T.word h
 have O:=Cu Z
 have J:=Bm (ns:=ns) (a3:=a3) (a4:=a4) (a5:=a5) (a6:=a6) (a7:=a7) (a9:=.v (zx L q g)) (a10:=.v (ZI o)) (a11:=y11) h Z hf
 have U:∀d r,(wUp L).filter (λw=>yG L R w==f)=d::r->o=some d:=λd r e=>lo.one (nA Z e)
 generalize (wUp L).filter (λw=>yG L R w==f)=j at J U
 generalize (wUp L).map xv=us at O J
 have hz:=um (n:=1) (OkD.str (Vr hf))
 obtain⟨b,nn,hr⟩:∃b,Xe (.d (ZI o)) (.d .non)=some (.bl b)/\(b=true->∃r,Xi [zM L R,ZI o]=some (.tup (.str f::r))):=by
  cases o with
  | none=>exact⟨false,rfl,λz=>by cases z⟩
  | some w=>
   obtain⟨r,c,_⟩:=Uy h lo.1 (by have:=ll w rfl;omega)
   have ac:yG L R w=f:=by simpa using lo.2.1
   rw[ac]at c
   exact⟨true,rfl,λ_=>⟨r,c⟩⟩
 obtain⟨Y,n2,h2⟩:∃Y,mEq true (.d (.lst (j.map xv))) (.d (.lst []))=some (.bl Y)/\(Y=true->∃d r,j.map xv=d::r/\mEq true (.d (ZI o)) (.d d)=some (.bl false)):=by
  cases j with
  | nil=>exact⟨false,um (n:=1) (OkD.lst (by simp)),λz=>by cases z⟩
  | cons d r=>
   refine⟨true,?_,λ_=>⟨_,_,rfl,?_⟩⟩
   ·rw[JS (n:=2) (OkD.lst λx hx=>by obtain⟨u,_,rfl⟩:=FX.mp hx;exact Bl) (OkD.lst (n:=1) (by simp))]
    simp[toP,toPs,F8,Kq]
   ·rw[U d r rfl]
    exact um (n:=1) Bl
 refine⟨.v (ZI o),.v (.lst (j.map xv)),?_⟩
 generalize j.map xv=ds at*
 generalize ZI o=ow at*
 cases b with
 | false=>
  cases Y with
  | false=>simp[wJ,e,O,J,nn,n2]
  | true=>obtain⟨d,r,rfl,q⟩:=h2 rfl;simp[wJ,e,O,J,nn,n2,q]
 | true=>
  obtain⟨r1,c⟩:=hr rfl
  cases Y with
  | false=>simp[wJ,e,O,J,nn,n2,c,hz]
  | true=>obtain⟨d,r,rfl,q⟩:=h2 rfl;simp[wJ,e,O,J,nn,n2,q,c,hz]
def ql(h:OkM L R)(Z:L=1\/L=2){q1 q2 J:List (List Nat)}{g1 g2 g3:Nat->Bool}(T1:FT L R (λs=>s==wc) q1 g1)(T2:FT L R (λs=>s==xy) q2 g2)(T3:FT L R (λs=>s==zW) J g3){a3 a4 a5 a6 a7:S}:
  ∃O,x0 (yQ 2 (zA (zr 8) (zA (zr 9) yK))) wJ (XM [.str wc,.str xy,.str zW] [zx L q1 g1,zx L q2 g2,zx L J g3]) [.v (.scr ns),.v (.int (L:Int)),.v (zM L R),a3,a4,a5,a6,a7,.un,.un,.un,.un]=some (.nx O):=by
 have st:∀(f:Fp) (q:List (List Nat)) (g:Nat->Bool) (r:List D) (U Y y10 y11:S),ZV f->FT L R (λs=>s==f) q g->∃z8 z9 j z,x0 (yQ 2 (zA (zr 8) (zA (zr 9) yK))) wJ (.tup [.str f,zx L q g]::r) [.v (.scr ns),.v (.int (L:Int)),.v (zM L R),a3,a4,a5,a6,a7,U,Y,y10,y11]=x0 (yQ 2 (zA (zr 8) (zA (zr 9) yK))) wJ r [.v (.scr ns),.v (.int (L:Int)),.v (zM L R),a3,a4,a5,a6,a7,z8,z9,j,z]:=λf q g r U Y y10 y11 hf T=>by
  obtain⟨j,z,e⟩:=qk (ns:=ns) (a3:=a3) (a4:=a4) (a5:=a5) (a6:=a6) (a7:=a7) (y10:=y10) (y11:=y11) h Z hf T
  refine⟨.v (.str f),.v (zx L q g),j,z,?_⟩
  show(wJ [.v (.scr ns),.v (.int (L:Int)),.v (zM L R),a3,a4,a5,a6,a7,.v (.str f),.v (zx L q g),y10,y11]).bind _=_
  rw[e];rfl
 show ∃O,x0 _ _ [.tup [.str wc,zx L q1 g1],.tup [.str xy,zx L q2 g2],.tup [.str zW,zx L J g3]] _=_
 obtain⟨_,_,_,_,e1⟩:=st wc q1 g1 [.tup [.str xy,zx L q2 g2],.tup [.str zW,zx L J g3]] .un .un .un .un (.inl rfl) T1
 rw[e1]
 obtain⟨_,_,_,_,e2⟩:=st xy q2 g2 [.tup [.str zW,zx L J g3]] _ _ _ _ (.inr (.inl rfl)) T2
 rw[e2]
 obtain⟨_,_,_,_,e3⟩:=st zW J g3 [] _ _ _ _ (.inr (.inr rfl)) T3
 rw[e3]
 exact⟨_,rfl⟩
end
def good(ns:List Int)(hn:ns.length<=63):WG [.scr ns]=some (.bl true):=by
 obtain⟨v,hv,ah⟩:=Qw (ns:=ns) (k:=0) (many:=2) (by decide)
 have hL:∃L:Nat,L=1+v:=⟨_,rfl⟩
 obtain⟨L,ao⟩:=hL
 have Y:1<=L:=by omega
 have Z:L<=3:=by omega
 have ai:L=1\/L=2:=by omega
 obtain⟨R,hM,a1,a2,a3⟩:=mZ (ns:=ns) (a:=1) (L:=L) (most:=3) Z (by decide) (by decide)
 have h:OkM L R:=⟨Y,Z,a1,by omega,a3⟩
 have rd:∀f,ZV f->∃q g,Qr [zM L R,.str f]=some (zx L q g)/\FT L R (λs=>s==f) q g:=λf hf=>by
  obtain⟨q,g,e,t,l⟩:=eT h (N:=1296) (by omega) (λws k a B=>sV h a2 B) hf λu hu hl=>Vr (QB h hu)
  exact⟨q,g,e,t,l⟩
 obtain⟨q1,g1,e1,j⟩:=rd wc (.inl rfl)
 obtain⟨q2,g2,e2,T2⟩:=rd xy (.inr (.inl rfl))
 obtain⟨q3,g3,e3,T3⟩:=rd zW (.inr (.inr rfl))
 have bn:∀{O U:Fp} {p1 p2:List (List Nat)} {k1 k2:Nat->Bool},FT L R (λs=>s==O) p1 k1->FT L R (λs=>s==U) p2 k2->O≠U->Uw [zx L p1 k1,zx L p2 k2]=some (zx L [F7 L 0] λ_=>false):=λ{O U p1 p2 k1 k2} t1 t2 ne=>by
  obtain⟨p,k,e,T⟩:=FT.join [(true,true)] h a2 t1 t2
  refine Nl e (congrArg some (FT.one h T (FT.zero false) λs _=>?_))
  show([(true,true)].any λp=>p==(s==O,s==U))=false
  by_cases z:s=O
  ·subst z
   have:(s==U)=false:=by simpa using ne
   rw[this];cases s==s <;>rfl
  ·have:(s==O)=false:=by simpa using z
   rw[this];cases s==U <;>rfl
 have aa:=bn j T2 (by decide)
 have ab:=bn j T3 (by decide)
 have ac:=bn T2 T3 (by decide)
 obtain⟨q4,g4,e4,T4⟩:=FT.join [(true,true),(true,false),(false,true)] h a2 T2 T3
 obtain⟨q5,g5,e5,T5⟩:=FT.join [(true,true),(true,false),(false,true)] h a2 j T4
 obtain⟨q6,g6,e6,T6⟩:=FT.contrary h j
 obtain⟨q7,g7,e7,T7⟩:=FT.join [(true,true),(true,false),(false,true)] h a2 j T2
 rw[FT.one h T5 (FT.zero true) (by
  intro s J
  rcases J with rfl|rfl|rfl <;>decide)]at e5
 have aj:zx L q6 g6=zx L q4 g4:=FT.one h T6 T4 (by
  intro s J
  rcases J with rfl|rfl|rfl <;>decide)
 rw[aj]at e6
 have w1:=FT.first [(true,false)] h a2 j T7 (by
  intro s J
  rcases J with rfl|rfl|rfl <;>decide)
 have w2:=FT.first [(true,false),(false,true)] h a2 T4 T4 (by
  intro s J
  rcases J with rfl|rfl|rfl <;>decide)
 obtain⟨G1,lp⟩:=ql (ns:=ns) (a3:=.v (zx L q1 g1)) (a4:=.v (zx L q2 g2)) (a5:=.v (zx L q3 g3)) (a6:=.v (zx L [F7 L 0] λ_=>false)) (a7:=.v (zx L q4 g4)) h ai j T2 T3
 have ad:Xg [.scr ns,.int 0,.int 2]=some (.int v):=ah
 have ak:(1:Int)+(v:Int)=(L:Int):=by omega
 have al:cN [.scr ns,.int 1,.int L,.int 3]=some (zM L R):=hM
 have hc:xV (some [.str wc,.str xy,.str zW]) [none,some 2] (zr 0) zX ZG [.v (.scr ns),.v (.int (L:Int)),.v (zM L R),.un,.un,.un,.un,.un,.un,.un,.un,.un]=some [zx L q1 g1,zx L q2 g2,zx L q3 g3]:=by
  refine(xa (ds:=[.str wc,.str xy,.str zW]) (λd=>d) [zx L q1 g1,zx L q2 g2,zx L q3 g3] rfl (by simp) λk hk=>?_).trans rfl
  have c:∀f q g,Qr [zM L R,.str f]=some (zx L q g)->ZG [.v (.str f),.v (zM L R)]=some (.d (zx L q g)):=λf q g e=>by simp[ZG,e]
  rcases k with _|_|_|k
  ·exact⟨[.v (.str wc),.v (zM L R)],rfl,rfl,c _ _ _ e1⟩
  ·exact⟨[.v (.str xy),.v (zM L R)],rfl,rfl,c _ _ _ e2⟩
  ·exact⟨[.v (.str zW),.v (zM L R)],rfl,rfl,c _ _ _ e3⟩
  ·exact absurd hk (by simp)
 have ae:Wp (.d (.tup [.int 0])) (.d (.int (L:Int)))=some (.tup (dN (F7 L 0))):=by
  rw[A7 (by simp) Y (by simp;omega) (by omega)]
  simp
 have z0:zx L [F7 L 0] (λ_=>false)=.tup [.int (L:Int),.tup [.tup (dN (F7 L 0))],.tup []]:=rfl
 have z1:zx L [F7 L 0] (λ_=>true)=.tup [.int (L:Int),.tup [.tup (dN (F7 L 0))],.tup [.int 0]]:=rfl
 have af:=um (n:=3) (lm (A:=L) (rows:=[F7 L 0]) (g:=λ_=>false))
 have ag:=um (n:=3) (lm (A:=L) (rows:=[F7 L 0]) (g:=λ_=>true))
 have am:=um (n:=3) (lm (A:=L) (rows:=q4) (g:=g4))
 have nn:Xe (.d .non) (.d .non)=some (.bl false):=rfl
 refine zV rfl ?_
 generalize zM L R=M at*
 generalize zx L q1 g1=Q1 at*
 generalize zx L q2 g2=Q2 at*
 generalize zx L q3 g3=Q3 at*
 generalize zx L q4 g4=Q4 at*
 generalize zx L q7 g7=Q7 at*
 rw[z0]at aa ab ac af lp
 rw[z1]at e5 ag
 generalize dN (F7 L 0)=zs at*
 have an:xV (some [D.str "yes",.str "no",.str "round"]) [none,some 2] (zr 0) zX ZG [.v (.scr ns),.v (.int (L:Int)),.v M,.un,.un,.un,.un,.un,.un,.un,.un,.un]=some [Q1,Q2,Q3]:=hc
 have zp:∀a6 a7:S,(jU (za (y7 (za (xC (.str "yes")) (za (xC (.str "no")) (za (xC (.str "round")) zf)))) (za (y7 (za (zc 3) (za (zc 4) (za (zc 5) zf)))) zf))) [.v (.scr ns),.v (.int (L:Int)),.v M,.v Q1,.v Q2,.v Q3,a6,a7,.un,.un,.un,.un]=some (XM [.str wc,.str xy,.str zW] [Q1,Q2,Q3]):=λ_ _=>rfl
 simp[kP,zB,ad,ak,al,an,ae,aa,ab,ac,af,e4,e5,ag,e6,am,e7,w1,w2,nn,JU,zA,yK,zp,lp]
end Py
namespace Py
open PySem PySem.Spec L2 DD
open PyProof.Rows hiding St
def a_2(J:EE X z fa)(O:EE X j fb)(U:FK [z,j] X.env=(false,FJ z X.env)::FK [j] X.env:=by rfl)(Y:FK [j] X.env=(false,FJ j X.env)::FK [] X.env:=by rfl):EA X [z,j] (za fa (za fb (zf))):=ze J (ze O (zh) Y) U
def a_3(O:EE X J fa)(U:EE X z fb)(Y:EE X j Z)(sa:FK [J,z,j] X.env=(false,FJ J X.env)::FK [z,j] X.env:=by rfl)(sb:FK [z,j] X.env=(false,FJ z X.env)::FK [j] X.env:=by rfl)(sc:FK [j] X.env=(false,FJ j X.env)::FK [] X.env:=by rfl):EA X [J,z,j] (za fa (za fb (za Z (zf)))):=ze O (ze U (ze Y (zh) sc) sb) sa
def a_4(O:EE X J fa)(U:EE X z fb)(Y:EE X j Z)(hd:EE X ed fd)(sa:FK [J,z,j,ed] X.env=(false,FJ J X.env)::FK [z,j,ed] X.env:=by rfl)(sb:FK [z,j,ed] X.env=(false,FJ z X.env)::FK [j,ed] X.env:=by rfl)(sc:FK [j,ed] X.env=(false,FJ j X.env)::FK [ed] X.env:=by rfl)(sd:FK [ed] X.env=(false,FJ ed X.env)::FK [] X.env:=by rfl):EA X [J,z,j,ed] (za fa (za fb (za Z (za fd (zf))))):=ze O (ze U (ze Y (ze hd (zh) sd) sc) sb) sa
def yU(a:j.kind=.function:=by rfl)(b:j.isCoroutine=false:=by rfl)(c:j.isGenerator=false:=by rfl)(d:N.Nodup:=by decide+kernel)(e:N.take P.length=P:=by rfl)(f:∀x∈P,j.names.lookup x=some .local\/j.names.lookup x=some .cell:=by decide+kernel)(g:∀y∈j.names,y.2≠.free:=by decide+kernel):FnScope N P j:=⟨a,b,c,d,e,f,g⟩
def top(i:Nat):FC:=PySem.Challenge.pw_backhead_k13_whole_three_fates.main.body.getD i (.Pass ⟨0,0,0,0⟩)
structure Bi (mg:Fp->Option Fl):Prop where
 all:mg "all"=none
 bool:mg "bool"=none
 dict:mg "dict"=none
 divmod:mg "divmod"=none
 enumerate:mg "enumerate"=none
 int:mg "int"=none
 isinstance:mg "isinstance"=none
 len:mg "len"=none
 list:mg "list"=none
 range:mg "range"=none
 reversed:mg "reversed"=none
 str:mg "str"=none
 tuple:mg "tuple"=none
 zip:mg "zip"=none
section
variable {P:FI} {w:FB} {K:Fs} {mg:Fp->Option Fl} {base:Fz} {fa:Fo} {fd:Ga}
abbrev qm:FC:=top 10
def Cy:FnScope ["thing","low","high"] ["thing","low","high"] (zl qm):=yU
def Cz(z:Fun K "is_number" "is_number" qm fa fd)(J:mg "is_number"=some (.ref fa))(j:Bi mg):Callee P w K mg base 1 "is_number" uR :=
 zE (k:=0) (f:=jV) z J Cy (z.binds λ_ _ _ _ _ _ us O=>match us,O with|[_,_,_],_=>rfl) λcdv A outer s H E U=>
  (zg (yS (t_w (ZZ (xp (zL x4 wS rfl j.isinstance HA (ze (zb (pv 0)) (ze (uM .bl rfl j.bool boot_bool) zh)))) (uV (w5 (xp (zL x4 wS rfl j.isinstance HA (ze (zb (pv 0)) (ze (uM .int rfl j.int boot_int) zh)))))))) (zo (zD vc)) yd) (zo (zD (fJ Vv JK Vv JK (zb (pv 1)) (zb (pv 0)) (zb (pv 2))))))
abbrev ln:FC:=top 11
def Bn:FnScope ["thing","low","high"] ["thing","low","high"] (zl ln):=yU
def Bo(z:Fun K "is_row" "is_row" ln fa fd)(J:mg "is_row"=some (.ref fa))(j:Bi mg):Callee P w K mg base 1 "is_row" vr :=
 zE (k:=0) (f:=JV) z J Bn (z.binds λ_ _ _ _ _ _ us O=>match us,O with|[_,_,_],_=>rfl) λcdv A outer s H E U=>
  (zo (zD (VG (zL x4 wS rfl j.isinstance HA (ze (zb (pv 0)) (ze (uM .tup rfl j.tuple HM) zh))) (VF (fJ Vv JK Vv JK (zb (pv 1)) (zL zy y0 rfl j.len Gg (ze (zb (pv 0)) zh)) (zb (pv 2)))))))
abbrev lq:FC:=top 12
def Bp:FnScope ["column","letters"] ["column","letters"] (zl lq):=yU
def Bq(j:Fun K "ways_at" "ways_at" lq fa fd)(J:mg "ways_at"=some (.ref fa))(U:Bi mg):Callee P w K mg base 1 "ways_at" JW :=
 zE (k:=0) (f:=Ut) j J Bp (j.binds λ_ _ _ _ _ _ us O=>match us,O with|[_,_],_=>rfl) λcdv A outer s H E z=>
  (zg (yS (yJ (v4 (Room.units z)) wA (zb (pv 0)) zk (yk _)) (zo (zD (yP (ze zk zh)))) yd) (zg (yS (yJ (v4 (Room.units z)) wA (zb (pv 0)) (yi zS zT (zb (pv 1)) zk) (yk _)) (zo (zD (yP (ze (Wl zk) zh)))) yd) (zo (zD (yP (a_2 zk (Wl zk)))))))
abbrev lu:FC:=top 13
def Br:FnScope ["move","count","ways"] ["move","count","ways"] (zl lu):=yU
def Bs(U:Fun K "is_move" "is_move" lu fa fd)(Z:mg "is_move"=some (.ref fa))(Y:Bi mg)(J:Callee P w K mg base 1 "is_row" vr)(z:Callee P w K mg base 1 "is_number" uR)(j:GlobT K mg "ENDS" [(.str "yes"),(.str "no")]):Callee P w K mg base 2 "is_move" JY :=
 zE (k:=1) (f:=JX) U Z Br (U.binds λ_ _ _ _ _ _ us hl=>match us,hl with|[_,_,_],_=>rfl) λcdv A outer s H E O=>
  (zg (yS (xp (zL x4 wS rfl Y.isinstance HA (ze (zb (pv 0)) (ze (uM .str rfl Y.str II) zh)))) (zo (zD (VE (aI (uj O)) JL (zb (pv 0)) (fO j rfl) (by with_unfolding_all rfl)))) yd) (zg (yS (t_w (ZZ (w5 (xp (zq J O (by decide) rfl (ze (zb (pv 0)) (ze zk (ze zk zh)))))) (uV (w5 (xp (zq z O (by decide) rfl (a_3 (zH (zb (pv 0)) zk (λ_ _=>rfl)) zk (yi Xx XC (zb (pv 1)) zk)))))))) (zo (zD vc)) yd) (zo (zD (VG (zq z O (by decide) rfl (a_3 (zH (zb (pv 0)) zk (λ_ _=>rfl)) (Wl zk) zk)) (VF (VE (aI (uj O)) JL (zH (zb (pv 0)) zk (λ_ _=>rfl)) (zb (pv 2)) (by with_unfolding_all rfl))))))))
abbrev lv:FC:=top 14
def Bt:FnScope ["room","count","letters"] ["room","count","letters"] (zl lv):=yU
def Bu(U:Fun K "is_room" "is_room" lv fa fd)(Z:mg "is_room"=some (.ref fa))(Y:Bi mg)(j:Callee P w K mg base 1 "is_row" vr)(z:Callee P w K mg base 1 "ways_at" JW)(J:Callee P w K mg base 2 "is_move" JY):Callee P w K mg base 3 "is_room" JZ :=
 zE (k:=2) (f:=jW) U Z Bt (U.binds λ_ _ _ _ _ _ us hl=>match us,hl with|[_,_,_],_=>rfl) λcdv A outer s H E O=>
  (zg (yS (w5 (xp (zq j O (by decide) rfl (a_3 (zb (pv 0)) (yi zS zT (zb (pv 2)) zk) (yi zS zT (zb (pv 2)) zk))))) (zo (zD vc)) yd) (zo (zD (zL (vF rfl) XD rfl Y.all K7 (ze (xb (we (N:=["column","move","count","letters"]) (ms:=[none,none,some 1,some 2]) rfl (CompOk.of (by rfl)) (wB (US rfl Y.enumerate (ze (zb (pv 0)) zh))) ⟨λ_ _ _ _ _=>⟨(uW rfl (yM (zK (i:=0) (show(["column","move","count","letters"]:List Fp).Nodup by decide+kernel) rfl (Or.inl rfl)) (yM (zK (i:=1) (show(["column","move","count","letters"]:List Fp).Nodup by decide+kernel) rfl (Or.inl rfl)) vE))),xU,(zq J O (by decide) rfl (a_3 (zb (pv 1)) (zb (pv 2)) (zq z O (by decide) rfl (ze (zb (pv 0)) (ze (zb (pv 3)) zh)))))⟩⟩ (xA (by decide)) (xB (by decide)))) zh)))))
abbrev qp:FC:=top 15
def rq:FnScope ["thing","rooms"] ["thing"] (zl qp):=yU
def CA(Fn:Fun K "is_machine" "is_machine" qp fa fd)(hm:mg "is_machine"=some (.ref fa))(bi:Bi mg)(O:Callee P w K mg base 1 "is_row" vr)(Z:Callee P w K mg base 1 "is_number" uR)(Y:Callee P w K mg base 3 "is_room" JZ)(j:mg "MOST_LETTERS"=some (.int 3 J))(z:mg "MOST_ROOMS"=some (.int 12 U)):Callee P w K mg base 4 "is_machine" jX :=
 zE (k:=3) (f:=pB) Fn hm rq (Fn.binds λ_ _ _ _ _ _ us hl=>match us,hl with|[_],_=>rfl) λcdv A outer s H E hr=>
  (zg (yS (t_w (ZZ (w5 (xp (zq O hr (by decide) rfl (ze (zb (pv 0)) (ze zk (ze zk zh)))))) (uV (w5 (xp (zq Z hr (by decide) rfl (a_3 (zH (zb (pv 0)) zk (λ_ _=>rfl)) zk (Wg rfl j)))))))) (zo (zD vc)) yd) (zg (yq (i:=1) rq.nd rfl (Or.inr rfl) (zH (zb (pv 0)) zk (λ_ _=>rfl))) (zg (yS (w5 (xp (zq O hr (by decide) rfl (ze (zb (pv 1)) (ze zk (ze (Wg rfl z) zh)))))) (zo (zD vc)) yd) (zo (zD (zL (vF rfl) XD rfl bi.all K7 (ze (xb (we (N:=["room","rooms","thing"]) (ms:=[none,some 1,some 0]) rfl (CompOk.of (by rfl)) (wB (wE (zb (pv 1)))) ⟨λ_ _ _ _ _=>⟨(zK (i:=0) (show(["room","rooms","thing"]:List Fp).Nodup by decide+kernel) rfl (Or.inl rfl)),xU,(zq Y hr (by decide) rfl (a_3 (zb (pv 0)) (zL zy y0 rfl bi.len Gg (ze (zb (pv 1)) zh)) (zH (zb (pv 2)) zk (λ_ _=>rfl))))⟩⟩ (xA (by decide)) (xB (by decide)))) zh)))))))
abbrev lw:FC:=top 16
def Bv:FnScope ["machine"] ["machine"] (zl lw):=yU
def Bw(z:Fun K "checked" "checked" lw fa fd)(J:mg "checked"=some (.ref fa))(Y:Bi mg)(j:Callee P w K mg base 4 "is_machine" jX):Callee P w K mg base 5 "checked" Uu :=
 zE (k:=4) (f:=jY) z J Bv (z.binds λ_ _ _ _ _ _ us O=>match us,O with|[_],_=>rfl) λcdv A outer s H E U=>
  (zg (yS (w5 (xp (zq j U (by decide) rfl (ze (zb (pv 0)) zh)))) (zo og) yd) (zo (zD (zb (pv 0)))))
abbrev qq:FC:=top 18
def CB:FnScope ["machine","column"] ["machine","column"] (zl qq):=yU
def CC(j:Fun K "moves_at" "moves_at" qq fa fd)(z:mg "moves_at"=some (.ref fa))(O:Bi mg):Callee P w K mg base 1 "moves_at" ZF :=
 zE (k:=0) (f:=pC) j z CB (j.binds λ_ _ _ _ _ _ us J=>match us,J with|[_,_],_=>rfl) λcdv A outer s H E U=>
  (zo (zD (xb (we (N:=["room","column"]) (ms:=[none,some 1]) rfl (CompOk.of (by rfl)) (wB (wE (zH (zb (pv 0)) zk (λ_ _=>rfl)))) ⟨λ_ _ _ _ _=>⟨(zK (i:=0) (show(["room","column"]:List Fp).Nodup by decide+kernel) rfl (Or.inl rfl)),xU,(zH (zb (pv 0)) (zb (pv 1)) (λ_ _=>rfl))⟩⟩ (xA (by decide)) (xB (by decide))))))
abbrev lx:FC:=top 19
def Bx:FnScope ["ends","first"] ["ends","first"] (zl lx):=yU
def By(j:Fun K "told" "told" lx fa fd)(z:mg "told"=some (.ref fa))(J:Bi mg):Callee P w K mg base 1 "told" Xf :=
 zE (k:=0) (f:=jZ) j z Bx (j.binds λ_ _ _ _ _ _ us O=>match us,O with|[_,_],_=>rfl) λcdv A outer s H E U=>
  (zo (zD (vL xx vM rfl J.tuple HM (ze (yi zS zT (xb (xR (ze (zb (pv 1)) zh))) (zb (pv 0))) zh))))
abbrev qr:FC:=top 20
def rz:FnScope ["machine","ends"] ["machine"] (zl qr):=yU
def CD(J:Fun K "done_by_none" "done_by_none" qr fa fd)(Y:mg "done_by_none"=some (.ref fa))(O:Bi mg)(z:Callee P w K mg base 1 "moves_at" ZF)(j:Callee P w K mg base 1 "told" Xf):Callee P w K mg base 2 "done_by_none" kA :=
 zE (k:=1) (f:=pD) J Y rz (J.binds λ_ _ _ _ _ _ us Z=>match us,Z with|[_],_=>rfl) λcdv A outer s H E U=>
  (zg (XF (i:=1) (N:=["move"]) (ms:=[none]) rfl (CompOk.of (by rfl)) (wB (wE (zq z U (by decide) rfl (ze (zb (pv 0)) (ze zk zh))))) ⟨λ_ _ _ _ _=>⟨(zK (i:=0) (show(["move"]:List Fp).Nodup by decide+kernel) rfl (Or.inl rfl)),xU,(DI (xp (zL x4 wS rfl O.isinstance HA (ze (zb (pv 0)) (ze (uM .str rfl O.str II) zh)))) (zb (pv 0)) (zH (zb (pv 0)) zk (λ_ _=>rfl)))⟩⟩ (xA (by decide)) (xB (by decide)) rz.nd rfl (Or.inl rfl)) (zo (zD (zq j U (by decide) rfl (a_2 (zb (pv 1)) (zH (zb (pv 1)) zk (λ_ _=>rfl)))))))
abbrev qs:FC:=top 21
def WO:FnScope ["room","moves","done","at","visit","move","back"] ["room","moves","done"] (zl qs):=yU
def CF(z:Fun K "what_comes_of" "what_comes_of" qs fa fd)(J:mg "what_comes_of"=some (.ref fa))(j:Bi mg):Callee P w K mg base 1 "what_comes_of" Vj :=
 zE (k:=0) (f:=kB) z J WO (z.binds λ_ _ _ _ _ _ us O=>match us,O with|[_,_,_],_=>rfl) λcdv A outer s H E U=>
  (zg (yq (i:=3) WO.nd rfl (Or.inl rfl) (zb (pv 0))) (zg (v0 Gw rfl (ve rfl j.range (ze (zL zy y0 rfl j.len Gg (ze (zb (pv 1)) zh)) zh)) (zK (i:=4) WO.nd rfl (Or.inl rfl)) (zg (yq (i:=5) WO.nd rfl (Or.inl rfl) (zH (zb (pv 1)) (zb (pv 3)) (λ_ _=>rfl))) (zg (yS (xp (zL x4 wS rfl j.isinstance HA (ze (zb (pv 5)) (ze (uM .str rfl j.str II) zh)))) (zo (zD (zb (pv 5)))) yd) (zg (yS (yJ (v4 (Room.units U)) wA (zH (zb (pv 5)) zk (λ_ _=>rfl)) zk (yk _)) (zo (zD (zH (zb (pv 5)) zk (λ_ _=>rfl)))) yd) (zg (yq (i:=6) WO.nd rfl (Or.inl rfl) (zH (zb (pv 2)) (yi zS zT (zH (zb (pv 5)) zk (λ_ _=>rfl)) zk) (λ_ _=>rfl))) (zg (yS (xp (zL x4 wS rfl j.isinstance HA (ze (zb (pv 6)) (ze (uM .str rfl j.str II) zh)))) (zo (zD (zb (pv 6)))) yd) (zo (yq (i:=3) WO.nd rfl (Or.inl rfl) (zb (pv 6)))))))))) (zo (zD uA))))
abbrev qt:FC:=top 22
def ly:FnScope ["moves","done","ends","first"] ["moves","done"] (zl qt):=yU
def CG(U:Fun K "done_with" "done_with" qt fa fd)(Y:mg "done_with"=some (.ref fa))(J:Bi mg)(z:Callee P w K mg base 1 "what_comes_of" Vj)(j:Callee P w K mg base 1 "told" Xf):Callee P w K mg base 2 "done_with" kD :=
 zE (k:=1) (f:=kC) U Y ly (U.binds λ_ _ _ _ _ _ us Z=>match us,Z with|[_,_],_=>rfl) λcdv A outer s H E O=>
  (zg (XF (i:=2) (N:=["room","moves","done"]) (ms:=[none,some 0,some 1]) rfl (CompOk.of (by rfl)) (wB (ve rfl J.range (ze (zL zy y0 rfl J.len Gg (ze (zb (pv 0)) zh)) zh))) ⟨λ_ _ _ _ _=>⟨(zK (i:=0) (show(["room","moves","done"]:List Fp).Nodup by decide+kernel) rfl (Or.inl rfl)),xU,(zq z O (by decide) rfl (ze (zb (pv 0)) (ze (zb (pv 1)) (ze (zb (pv 2)) zh))))⟩⟩ (xA (by decide)) (xB (by decide)) ly.nd rfl (Or.inl rfl)) (zg (yq (i:=3) ly.nd rfl (Or.inl rfl) (zH (zb (pv 1)) zk (λ_ _=>rfl))) (zg (yS (xp (zL x4 wS rfl J.isinstance HA (ze (zb (pv 3)) (ze (uM .str rfl J.str II) zh)))) (zo (zD (zq j O (by decide) rfl (ze (zb (pv 2)) (ze (zb (pv 3)) zh))))) yd) (zo (zD (zq j O (by decide) rfl (a_2 (zb (pv 2)) (zH (zb (pv 2)) (zb (pv 3)) (λ_ _=>rfl)))))))))
abbrev lz:FC:=top 23
def Bz:FnScope ["machine","done"] ["machine","done"] (zl lz):=yU
def BA(J:Fun K "fate_of" "fate_of" lz fa fd)(Y:mg "fate_of"=some (.ref fa))(O:Bi mg)(j:Callee P w K mg base 1 "moves_at" ZF)(z:Callee P w K mg base 1 "what_comes_of" Vj):Callee P w K mg base 2 "fate_of" Uv :=
 zE (k:=1) (f:=J0) J Y Bz (J.binds λ_ _ _ _ _ _ us Z=>match us,Z with|[_,_],_=>rfl) λcdv A outer s H E U=>
  (zg (yS (xp (zL x4 wS rfl O.isinstance HA (a_2 (zH (zb (pv 1)) zk (λ_ _=>rfl)) (uM .str rfl O.str II)))) (zo (zD (zH (zb (pv 1)) zk (λ_ _=>rfl)))) yd) (zo (zD (zq z U (by decide) rfl (a_3 (zH (zb (pv 1)) zk (λ_ _=>rfl)) (zq j U (by decide) rfl (a_2 (zb (pv 0)) (yi zS zT (zH (zb (pv 0)) zk (λ_ _=>rfl)) zk))) (zb (pv 1)))))))
abbrev qu:FC:=top 24
def uc:FnScope ["machine","columns","found","numbers","rows","word","done","row","letter","moves","more"] ["machine"] (zl qu):=yU
def CH(Y:Fun K "explored" "explored" qu fa fd)(Z:mg "explored"=some (.ref fa))(j:Bi mg)(J:Callee P w K mg base 1 "moves_at" ZF)(O:Callee P w K mg base 2 "done_by_none" kA)(U:Callee P w K mg base 2 "done_with" kD):Callee P w K mg base 3 "explored" cK :=
 zE (k:=2) (f:=pE) Y Z uc (Y.binds λ_ _ _ _ _ _ us hl=>match us,hl with|[_],_=>rfl) λcdv A outer s H E z=>
  (zg (XF (i:=1) (N:=["letter","machine"]) (ms:=[none,some 0]) rfl (CompOk.of (by rfl)) (wB (ve rfl j.range (ze (zH (zb (pv 0)) zk (λ_ _=>rfl)) zh))) ⟨λ_ _ _ _ _=>⟨(zK (i:=0) (show(["letter","machine"]:List Fp).Nodup by decide+kernel) rfl (Or.inl rfl)),xU,(zq J z (by decide) rfl (a_2 (zb (pv 1)) (yi zS zT (zb (pv 0)) zk)))⟩⟩ (xA (by decide)) (xB (by decide)) uc.nd rfl (Or.inl rfl)) (zg (uC (i:=2) uc.nd rfl (Or.inl rfl) (xR (ze (yP (a_2 (yP zh) (zq O z (by decide) rfl (ze (zb (pv 0)) zh)))) zh))) (zg (r8 (i:=3) (xz z) uc.nd rfl (Or.inl rfl) (zH (zH (zb (pv 2)) zk (λ_ _=>rfl)) zk (λ_ _=>rfl)) zk) (zg (uC (i:=4) uc.nd rfl (Or.inl rfl) (xR zh)) (zg (Wj (n:=WF) Gw (yJ Wc VI (zL zy y0 rfl j.len Gg (ze (zb (pv 4)) zh)) (zL zy y0 rfl j.len Gg (ze (zb (pv 2)) zh)) (yk _)) (zg (yq (i:=5) uc.nd rfl (Or.inl rfl) (zH (zH (zb (pv 2)) (zL zy y0 rfl j.len Gg (ze (zb (pv 4)) zh)) (λ_ _=>rfl)) zk (λ_ _=>rfl))) (zg (yq (i:=6) uc.nd rfl (Or.inl rfl) (zH (zH (zb (pv 2)) (zL zy y0 rfl j.len Gg (ze (zb (pv 4)) zh)) (λ_ _=>rfl)) zk (λ_ _=>rfl))) (zg (uC (i:=7) uc.nd rfl (Or.inl rfl) (xR zh)) (zg (v0 Gw rfl (Yp rfl j.enumerate (ze (zb (pv 1)) zh)) (uW rfl (yM (zK (i:=8) uc.nd rfl (Or.inl rfl)) (yM (zK (i:=9) uc.nd rfl (Or.inl rfl)) vE))) (zg (yq (i:=10) uc.nd rfl (Or.inl rfl) (zq U z (by decide) rfl (ze (zb (pv 9)) (ze (zb (pv 6)) zh)))) (zg (yS (yJ (YZ (xz z)) VU (zb (pv 10)) (zb (pv 3)) (by with_unfolding_all rfl)) (zg (VX (i:=3) (xz z) (pv 3) (zb (pv 10)) (zL zy y0 rfl j.len Gg (ze (zb (pv 2)) zh))) (zo (ZM (i:=2) (h1:=xJ GC GM GU yA (pv 2) (zi (yP (a_2 (yi zS zT (zb (pv 5)) (yP (ze (zb (pv 8)) zh))) (zb (pv 10)))) zu))))) yd) (zo (ZM (i:=7) (h1:=xJ GC GM GU yA (pv 7) (zi (VW (xz z) (zb (pv 3)) (zb (pv 10)) (λ_ _=>rfl)) zu))))))) (zo (ZM (i:=4) (h1:=xJ GC GM GU yA (pv 4) (zi (vL xx vM rfl j.tuple HM (ze (zb (pv 7)) zh)) zu))))))))) (uG (i:=4) (uG (i:=2) (zo (zD (yP (ze (zb (pv 2)) (ze (zb (pv 4)) zh))))))))))))
abbrev qv:FC:=top 30
def Xp:FnScope ["rows","order","known","at","row","goal"] ["rows"] (zl qv):=yU
def CI(j:Fun K "reached_in_order" "reached_in_order" qv fa fd)(J:mg "reached_in_order"=some (.ref fa))(O:Bi mg):Callee P w K mg base 1 "reached_in_order" Vk :=
 zE (k:=0) (f:=pF) j J Xp (j.binds λ_ _ _ _ _ _ us U=>match us,U with|[_],_=>rfl) λcdv A outer s H E z=>
  (zg (uC (i:=1) Xp.nd rfl (Or.inl rfl) (xR (ze zk zh))) (zg (ss (i:=2) Xp.nd rfl (Or.inl rfl)) (zg (yq (i:=3) Xp.nd rfl (Or.inl rfl) zk) (zg (Wj (n:=WF) Gw (yJ Wc VI (zb (pv 3)) (zL zy y0 rfl O.len Gg (ze (zb (pv 1)) zh)) (yk _)) (zg (yq (i:=4) Xp.nd rfl (Or.inl rfl) (zH (zb (pv 0)) (zH (zb (pv 1)) (zb (pv 3)) (λ_ _=>rfl)) (λ_ _=>rfl))) (zg (v0 Gw rfl (wE (zb (pv 4))) (zK (i:=5) Xp.nd rfl (Or.inl rfl)) (zo (yS (yJ (YZ (xz z)) VU (zb (pv 5)) (zb (pv 2)) (by with_unfolding_all rfl)) (zg (VX (i:=2) (xz z) (pv 2) (zb (pv 5)) vc) (zo (ZM (i:=1) (h1:=xJ GC GM GU yA (pv 1) (zi (zb (pv 5)) zu))))) yd))) (zo (Cc (i:=3) Xp.nd rfl (Or.inl rfl) zk))))) (uG (i:=1) (zo (zD (zb (pv 1)))))))))
abbrev qw:FC:=top 31
def CJ:FnScope ["rows","kept","numbers"] ["rows","kept","numbers"] (zl qw):=yU
def CK(j:Fun K "renumbered" "renumbered" qw fa fd)(J:mg "renumbered"=some (.ref fa))(z:Bi mg):Callee P w K mg base 1 "renumbered" uS :=
 zE (k:=0) (f:=pG) j J CJ (j.binds λ_ _ _ _ _ _ us O=>match us,O with|[_,_,_],_=>rfl) λcdv A outer s H E U=>
  (zo (zD (vL xx vM rfl z.tuple HM (ze (xb (we (N:=["stand","rows","numbers"]) (ms:=[none,some 0,some 2]) rfl (CompOk.of (by rfl)) (wB (wE (zb (pv 1)))) ⟨λ_ _ _ _ _=>⟨(zK (i:=0) (show(["stand","rows","numbers"]:List Fp).Nodup by decide+kernel) rfl (Or.inl rfl)),xU,(vL xx vM rfl z.tuple HM (ze (xb (we (N:=["goal","numbers"]) (ms:=[none,some 2]) rfl (CompOk.of (by rfl)) (wB (wE (zH (zb (pv 1)) (zb (pv 0)) (λ_ _=>rfl)))) ⟨λ_ _ _ _ _=>⟨(zK (i:=0) (show(["goal","numbers"]:List Fp).Nodup by decide+kernel) rfl (Or.inl rfl)),xU,(Cd (xz U) (zb (pv 1)) (zb (pv 0)) (λ_ _=>rfl))⟩⟩ (xA (by decide)) (xB (by decide)))) zh))⟩⟩ (xA (by decide)) (xB (by decide)))) zh))))
abbrev qx:FC:=top 32
def ud:FnScope ["letters","rows","good","order","places","near","marks","part_of","numbers","kept","stand","part","rows_kept"] ["letters","rows","good"] (zl qx):=yU
def CL(Y:Fun K "least_reader" "least_reader" qx fa fd)(Z:mg "least_reader"=some (.ref fa))(J:Bi mg)(O:Callee P w K mg base 1 "reached_in_order" Vk)(j:Callee P w K mg base 1 "renumbered" uS)(U:Callee P w K mg base 3 "parts_of_stands" pA):Callee P w K mg base 4 "least_reader" wZ :=
 zE (k:=3) (f:=pH) Y Z ud (Y.binds λ_ _ _ _ _ _ us hl=>match us,hl with|[_,_,_],_=>rfl) λcdv A outer s H E z=>
  (zg (yq (i:=3) ud.nd rfl (Or.inl rfl) (zq O z (by decide) rfl (ze (zb (pv 1)) zh))) (zg (sr (i:=4) rfl ud.nd rfl (Or.inl rfl) rfl J.dict (ze (xb (we (N:=["place","stand"]) (ms:=[none,none]) rfl (CompOk.of (by rfl)) (wB (Yp rfl J.enumerate (ze (zb (pv 3)) zh))) ⟨λ_ _ _ _ _=>⟨(uW rfl (yM (zK (i:=0) (show(["place","stand"]:List Fp).Nodup by decide+kernel) rfl (Or.inl rfl)) (yM (zK (i:=1) (show(["place","stand"]:List Fp).Nodup by decide+kernel) rfl (Or.inl rfl)) vE))),xU,(yP (ze (zb (pv 1)) (ze (zb (pv 0)) zh)))⟩⟩ (xA (by decide)) (xB (by decide)))) zh)) (uG (i:=4) (zg (yq (i:=5) ud.nd rfl (Or.inl rfl) (zq j z (by decide) rfl (ze (zb (pv 1)) (ze (zb (pv 3)) (ze (zb (pv 4)) zh))))) (zg (yq (i:=6) ud.nd rfl (Or.inr rfl) (xb (we (N:=["stand","good"]) (ms:=[none,some 2]) rfl (CompOk.of (by rfl)) (wB (wE (zb (pv 3)))) ⟨λ_ _ _ _ _=>⟨(zK (i:=0) (show(["stand","good"]:List Fp).Nodup by decide+kernel) rfl (Or.inl rfl)),xU,(zH (zb (pv 1)) (zb (pv 0)) (λ_ _=>rfl))⟩⟩ (xA (by decide)) (xB (by decide))))) (zg (yq (i:=7) ud.nd rfl (Or.inl rfl) (zq U z (by decide) rfl (ze (zb (pv 0)) (ze (zb (pv 5)) (ze (zb (pv 6)) zh))))) (zg (l9 (i:=8) ud.nd rfl (Or.inr rfl)) (zg (uC (i:=9) ud.nd rfl (Or.inl rfl) (xR zh)) (zg (v0 Gw rfl (Yp rfl J.enumerate (ze (zb (pv 7)) zh)) (uW rfl (yM (zK (i:=10) ud.nd rfl (Or.inl rfl)) (yM (zK (i:=11) ud.nd rfl (Or.inl rfl)) vE))) (zo (yS (yJ (YZ (xz z)) VU (zb (pv 11)) (zb (pv 8)) (by with_unfolding_all rfl)) (zg (VX (i:=8) (xz z) (pv 8) (zb (pv 11)) (zL zy y0 rfl J.len Gg (ze (zb (pv 9)) zh))) (zo (ZM (i:=9) (h1:=xJ GC GM GU yA (pv 9) (zi (zb (pv 10)) zu))))) yd))) (uG (i:=8) (uG (i:=9) (zg (yq (i:=12) ud.nd rfl (Or.inl rfl) (zq j z (by decide) rfl (a_3 (zb (pv 5)) (zb (pv 9)) (xb (we (N:=["part","numbers"]) (ms:=[none,some 8]) rfl (CompOk.of (by rfl)) (wB (wE (zb (pv 7)))) ⟨λ_ _ _ _ _=>⟨(zK (i:=0) (show(["part","numbers"]:List Fp).Nodup by decide+kernel) rfl (Or.inl rfl)),xU,(VW (xz z) (zb (pv 1)) (zb (pv 0)) (λ_ _=>rfl))⟩⟩ (xA (by decide)) (xB (by decide))))))) (zo (zD (yP (a_3 (zb (pv 0)) (zb (pv 12)) (vL xx vM rfl J.tuple HM (ze (xb (we (N:=["place","stand","marks"]) (ms:=[none,none,some 6]) rfl (CompOk.of (by rfl)) (wB (Yp rfl J.enumerate (ze (zb (pv 9)) zh))) ⟨λ_ _ _ _ _=>⟨(uW rfl (yM (zK (i:=0) (show(["place","stand","marks"]:List Fp).Nodup by decide+kernel) rfl (Or.inl rfl)) (yM (zK (i:=1) (show(["place","stand","marks"]:List Fp).Nodup by decide+kernel) rfl (Or.inl rfl)) vE))),(qV (xp (zH (zb (pv 2)) (zb (pv 1)) (λ_ _=>rfl)))),(zb (pv 0))⟩⟩ (xA (by decide)) (xB (by decide)))) zh))))))))))))))))))
abbrev qy:FC:=top 36
def CM:FnScope ["thing","count"] ["thing","count"] (zl qy):=yU
def CN(J:Fun K "are_stands" "are_stands" qy fa fd)(O:mg "are_stands"=some (.ref fa))(z:Bi mg)(j:Callee P w K mg base 1 "is_number" uR):Callee P w K mg base 2 "are_stands" cL :=
 zE (k:=1) (f:=pI) J O CM (J.binds λ_ _ _ _ _ _ us U=>match us,U with|[_,_],_=>rfl) λcdv A outer s H E Y=>
  (zo (zD (VG (zL x4 wS rfl z.isinstance HA (ze (zb (pv 0)) (ze (uM .tup rfl z.tuple HM) zh))) (VF (zL (vF rfl) XD rfl z.all K7 (ze (xb (we (N:=["stand","count"]) (ms:=[none,some 1]) rfl (CompOk.of (by rfl)) (wB (wE (zb (pv 0)))) ⟨λ_ _ _ _ _=>⟨(zK (i:=0) (show(["stand","count"]:List Fp).Nodup by decide+kernel) rfl (Or.inl rfl)),xU,(zq j Y (by decide) rfl (a_3 (zb (pv 0)) zk (yi Xx XC (zb (pv 1)) zk)))⟩⟩ (xA (by decide)) (xB (by decide)))) zh))))))
abbrev qz:FC:=top 37
def CO:FnScope ["numbers"] ["numbers"] (zl qz):=yU
def CP(z:Fun K "is_rising" "is_rising" qz fa fd)(J:mg "is_rising"=some (.ref fa))(j:Bi mg):Callee P w K mg base 1 "is_rising" kE :=
 zE (k:=0) (f:=pJ) z J CO (z.binds λ_ _ _ _ _ _ us O=>match us,O with|[_],_=>rfl) λcdv A outer s H E U=>
  (zo (zD (zL (vF rfl) XD rfl j.all K7 (ze (xb (we (N:=["k","numbers"]) (ms:=[none,some 0]) rfl (CompOk.of (by rfl)) (wB (ve rfl j.range (ze (yi Xx XC (zL zy y0 rfl j.len Gg (ze (zb (pv 0)) zh)) zk) zh))) ⟨λ_ _ _ _ _=>⟨(zK (i:=0) (show(["k","numbers"]:List Fp).Nodup by decide+kernel) rfl (Or.inl rfl)),xU,(VE Wc VI (zH (zb (pv 1)) (zb (pv 0)) (λ_ _=>rfl)) (zH (zb (pv 1)) (yi zS zT (zb (pv 0)) zk) (λ_ _=>rfl)) (yk _))⟩⟩ (xA (by decide)) (xB (by decide)))) zh))))
abbrev qA:FC:=top 38
def rA:FnScope ["thing","rows"] ["thing"] (zl qA):=yU
def CQ(Fn:Fun K "is_reader" "is_reader" qA fa fd)(hm:mg "is_reader"=some (.ref fa))(bi:Bi mg)(O:Callee P w K mg base 1 "is_row" vr)(aa:Callee P w K mg base 1 "is_number" uR)(Y:Callee P w K mg base 2 "are_stands" cL)(ab:Callee P w K mg base 1 "is_rising" kE)(j:mg "MOST_LETTERS"=some (.int 3 J))(z:mg "MOST_STANDS"=some (.int 2000 U)):Callee P w K mg base 3 "is_reader" kF :=
 zE (k:=2) (f:=pL) Fn hm rA (Fn.binds λ_ _ _ _ _ _ us hl=>match us,hl with|[_],_=>rfl) λcdv A outer s H E Z=>
  (zg (yS (t_w (ZZ (w5 (xp (zq O Z (by decide) rfl (ze (zb (pv 0)) (ze zk (ze zk zh)))))) (uV (w5 (xp (zq aa Z (by decide) rfl (a_3 (zH (zb (pv 0)) zk (λ_ _=>rfl)) zk (Wg rfl j)))))))) (zo (zD vc)) yd) (zg (yq (i:=1) rA.nd rfl (Or.inr rfl) (zH (zb (pv 0)) zk (λ_ _=>rfl))) (zg (yS (w5 (xp (zq O Z (by decide) rfl (ze (zb (pv 1)) (ze zk (ze (Wg rfl z) zh)))))) (zo (zD vc)) yd) (zg (yS (w5 (xp (zL (vF rfl) XD rfl bi.all K7 (ze (xb (we (N:=["row","rows","thing"]) (ms:=[none,some 1,some 0]) rfl (CompOk.of (by rfl)) (wB (wE (zb (pv 1)))) ⟨λ_ _ _ _ _=>⟨(zK (i:=0) (show(["row","rows","thing"]:List Fp).Nodup by decide+kernel) rfl (Or.inl rfl)),xU,(VG (zq Y Z (by decide) rfl (a_2 (zb (pv 0)) (zL zy y0 rfl bi.len Gg (ze (zb (pv 1)) zh)))) (VF (VE (v4 (Room.units Z)) wA (zL zy y0 rfl bi.len Gg (ze (zb (pv 0)) zh)) (zH (zb (pv 2)) zk (λ_ _=>rfl)) (yk _))))⟩⟩ (xA (by decide)) (xB (by decide)))) zh)))) (zo (zD vc)) yd) (zo (zD (VG (zq Y Z (by decide) rfl (a_2 (zH (zb (pv 0)) zk (λ_ _=>rfl)) (zL zy y0 rfl bi.len Gg (ze (zb (pv 1)) zh)))) (VF (zq ab Z (by decide) rfl (ze (zH (zb (pv 0)) zk (λ_ _=>rfl)) zh))))))))))
abbrev qB:FC:=top 39
def CS:FnScope ["reader"] ["reader"] (zl qB):=yU
def CT(z:Fun K "checked_reader" "checked_reader" qB fa fd)(J:mg "checked_reader"=some (.ref fa))(Y:Bi mg)(j:Callee P w K mg base 3 "is_reader" kF):Callee P w K mg base 4 "checked_reader" vi :=
 zE (k:=3) (f:=pM) z J CS (z.binds λ_ _ _ _ _ _ us O=>match us,O with|[_],_=>rfl) λcdv A outer s H E U=>
  (zg (yS (w5 (xp (zq j U (by decide) rfl (ze (zb (pv 0)) zh)))) (zo og) yd) (zo (zD (zb (pv 0)))))
abbrev qC:FC:=top 40
def lA:FnScope ["reader","marks","stand"] ["reader"] (zl qC):=yU
def CU(j:Fun K "marks_of" "marks_of" qC fa fd)(z:mg "marks_of"=some (.ref fa))(O:Bi mg):Callee P w K mg base 1 "marks_of" vy :=
 zE (k:=0) (f:=pN) j z lA (j.binds λ_ _ _ _ _ _ us J=>match us,J with|[_],_=>rfl) λcdv A outer s H E U=>
  (zg (Ar (i:=1) (N:=["row"]) (ms:=[none]) rfl (CompOk.of (by rfl)) (wB (wE (zH (zb (pv 0)) zk (λ_ _=>rfl)))) ⟨λ_ _ _ _ _=>⟨(zK (i:=0) (show(["row"]:List Fp).Nodup by decide+kernel) rfl (Or.inl rfl)),xU,vc⟩⟩ (xA (by decide)) (xB (by decide)) lA.nd rfl (Or.inl rfl) (by rfl)) (zg (v0 Gw rfl (wE (zH (zb (pv 0)) zk (λ_ _=>rfl))) (zK (i:=2) lA.nd rfl (Or.inl rfl)) (zo (AD (i:=1) (pv 1) (zb (pv 2)) vc))) (uG (i:=1) (zo (zD (zb (pv 1)))))))
abbrev lB:FC:=top 41
def BB:FnScope ["reader"] ["reader"] (zl lB):=yU
def BC(U:Fun K "least" "least" lB fa fd)(Y:mg "least"=some (.ref fa))(bi:Bi mg)(j:Callee P w K mg base 4 "checked_reader" vi)(z:Callee P w K mg base 1 "marks_of" vy)(J:Callee P w K mg base 4 "least_reader" wZ):Callee P w K mg base 5 "least" va :=
 zE (k:=4) (f:=kG) U Y BB (U.binds λ_ _ _ _ _ _ us Z=>match us,Z with|[_],_=>rfl) λcdv A outer s H E O=>
  (zg (aG (zq j O (by decide) rfl (ze (zb (pv 0)) zh))) (zo (zD (zq J O (by decide) rfl (a_3 (zH (zb (pv 0)) zk (λ_ _=>rfl)) (zH (zb (pv 0)) zk (λ_ _=>rfl)) (zq z O (by decide) rfl (ze (zb (pv 0)) zh)))))))
abbrev qD:FC:=top 42
def lC:FnScope ["machine","fate","table","good"] ["machine","fate"] (zl qD):=yU
def CV(Z:Fun K "reader_of" "reader_of" qD fa fd)(hm:mg "reader_of"=some (.ref fa))(bi:Bi mg)(z:Callee P w K mg base 5 "checked" Uu)(U:Callee P w K mg base 3 "explored" cK)(J:Callee P w K mg base 2 "fate_of" Uv)(Y:Callee P w K mg base 4 "least_reader" wZ)(j:GlobT K mg "FATES" [(.str "yes"),(.str "no"),(.str "round")]):Callee P w K mg base 6 "reader_of" Qr :=
 zE (k:=5) (f:=pO) Z hm lC (Z.binds λ_ _ _ _ _ _ us hl=>match us,hl with|[_,_],_=>rfl) λcdv A outer s H E O=>
  (zg (aG (zq z O (by decide) rfl (ze (zb (pv 0)) zh))) (zg (yS (t_w (ZZ (w5 (xp (zL x4 wS rfl bi.isinstance HA (ze (zb (pv 1)) (ze (uM .str rfl bi.str II) zh))))) (uV (yJ (rS (uj O)) JL (zb (pv 1)) (fO j rfl) (by with_unfolding_all rfl))))) (zo og) yd) (zg (yq (i:=2) lC.nd rfl (Or.inl rfl) (zq U O (by decide) rfl (ze (zb (pv 0)) zh))) (zg (XF (i:=3) (N:=["entry","machine","fate"]) (ms:=[none,some 0,some 1]) rfl (CompOk.of (by rfl)) (wB (wE (zH (zb (pv 2)) zk (λ_ _=>rfl)))) ⟨λ_ _ _ _ _=>⟨(zK (i:=0) (show(["entry","machine","fate"]:List Fp).Nodup by decide+kernel) rfl (Or.inl rfl)),xU,(VE (v4 (Room.units O)) wA (zq J O (by decide) rfl (a_2 (zb (pv 1)) (zH (zb (pv 0)) zk (λ_ _=>rfl)))) (zb (pv 2)) (yk _))⟩⟩ (xA (by decide)) (xB (by decide)) lC.nd rfl (Or.inl rfl)) (zo (zD (zq Y O (by decide) rfl (a_3 (zH (zb (pv 0)) zk (λ_ _=>rfl)) (zH (zb (pv 2)) zk (λ_ _=>rfl)) (zb (pv 3))))))))))
abbrev qE:FC:=top 52
def CW:FnScope ["reader"] ["reader"] (zl qE):=yU
def CY(U:Fun K "contrary" "contrary" qE fa fd)(Y:mg "contrary"=some (.ref fa))(bi:Bi mg)(j:Callee P w K mg base 4 "checked_reader" vi)(z:Callee P w K mg base 1 "marks_of" vy)(J:Callee P w K mg base 4 "least_reader" wZ):Callee P w K mg base 5 "contrary" Qs :=
 zE (k:=4) (f:=pP) U Y CW (U.binds λ_ _ _ _ _ _ us Z=>match us,Z with|[_],_=>rfl) λcdv A outer s H E O=>
  (zg (aG (zq j O (by decide) rfl (ze (zb (pv 0)) zh))) (zo (zD (zq J O (by decide) rfl (a_3 (zH (zb (pv 0)) zk (λ_ _=>rfl)) (zH (zb (pv 0)) zk (λ_ _=>rfl)) (xb (we (N:=["mark"]) (ms:=[none]) rfl (CompOk.of (by rfl)) (wB (wE (zq z O (by decide) rfl (ze (zb (pv 0)) zh)))) ⟨λ_ _ _ _ _=>⟨(zK (i:=0) (show(["mark"]:List Fp).Nodup by decide+kernel) rfl (Or.inl rfl)),xU,(BY (zb (pv 0)))⟩⟩ (xA (by decide)) (xB (by decide)))))))))
abbrev qF:FC:=top 55
def u6:FnScope ["goal","rows","ways","stand","row","letter","near","word","at"] ["goal","rows"] (zl qF):=yU
def CZ(J:Fun K "first_word_to" "first_word_to" qF fa fd)(O:mg "first_word_to"=some (.ref fa))(j:Bi mg):Callee P w K mg base 1 "first_word_to" Z9 :=
 zE (k:=0) (f:=pR) J O u6 (J.binds λ_ _ _ _ _ _ us U=>match us,U with|[_,_],_=>rfl) λcdv A outer s H E z=>
  (zg (l9 (i:=2) u6.nd rfl (Or.inl rfl)) (zg (v0 Gw rfl (DU (Yp rfl j.enumerate (ze (zb (pv 1)) zh)) (US rfl j.enumerate (ze (zb (pv 1)) zh))) (uW rfl (yM (zK (i:=3) u6.nd rfl (Or.inl rfl)) (yM (zK (i:=4) u6.nd rfl (Or.inl rfl)) vE))) (zo (v0 Gw rfl (US rfl j.enumerate (ze (zb (pv 4)) zh)) (uW rfl (yM (zK (i:=5) u6.nd rfl (Or.inl rfl)) (yM (zK (i:=6) u6.nd rfl (Or.inl rfl)) vE))) (zo (yS (yJ (YZ (xz z)) VU (zb (pv 6)) (zb (pv 2)) (by with_unfolding_all rfl)) (zo (VX (i:=2) (xz z) (pv 2) (zb (pv 6)) (yP (ze (zb (pv 3)) (ze (zb (pv 5)) zh))))) yd))))) (zg (uC (i:=7) u6.nd rfl (Or.inl rfl) (xR zh)) (zg (yq (i:=8) u6.nd rfl (Or.inl rfl) (zb (pv 0))) (zg (Wj (n:=WF) Gw (yJ (v5 (Room.units z)) wA (zb (pv 8)) zk (yk _)) (zg (ZM (i:=7) (h1:=xJ GC GM GU yA (pv 7) (zi (zH (VW (xz z) (zb (pv 2)) (zb (pv 8)) (λ_ _=>rfl)) zk (λ_ _=>rfl)) zu))) (zo (yq (i:=8) u6.nd rfl (Or.inl rfl) (zH (VW (xz z) (zb (pv 2)) (zb (pv 8)) (λ_ _=>rfl)) zk (λ_ _=>rfl)))))) (zo (zD (pw rfl rfl j.tuple rfl j.reversed (ze (zb (pv 7)) zh)))))))))
abbrev qG:FC:=top 59
def rB:FnScope ["reader","small"] ["reader"] (zl qG):=yU
def C0(O:Fun K "first_word" "first_word" qG fa fd)(U:mg "first_word"=some (.ref fa))(Y:Bi mg)(j:Callee P w K mg base 5 "least" va)(z:Callee P w K mg base 1 "first_word_to" Z9):Callee P w K mg base 6 "first_word" kI :=
 zE (k:=5) (f:=kH) O U rB (O.binds λ_ _ _ _ _ _ us Z=>match us,Z with|[_],_=>rfl) λcdv A outer s H E J=>
  (zg (yq (i:=1) rB.nd rfl (Or.inl rfl) (zq j J (by decide) rfl (ze (zb (pv 0)) zh))) (zg (yS (yJ (v4 (Room.units J)) wA (zL zy y0 rfl Y.len Gg (ze (zH (zb (pv 1)) zk (λ_ _=>rfl)) zh)) zk (yk _)) (zo (zD JI)) yd) (zo (zD (zq z J (by decide) rfl (a_2 (zH (zH (zb (pv 1)) zk (λ_ _=>rfl)) zk (λ_ _=>rfl)) (zH (zb (pv 1)) zk (λ_ _=>rfl))))))))
abbrev qH:FC:=top 61
def C2:FnScope ["_law_script","_law_k"] ["_law_script","_law_k"] (zl qH):=yU
def C3(j:Fun K "_law_cell_at" "_law_cell_at" qH fa fd)(J:mg "_law_cell_at"=some (.ref fa))(z:Bi mg):Callee P w K mg base 1 "_law_cell_at" kJ :=
 zE (k:=0) (f:=cM) j J C2 (j.binds λ_ _ _ _ _ _ us O=>match us,O with|[_,_],_=>rfl) λcdv A outer s H E U=>
  (zg (yS (yJ Wc VI (zb (pv 1)) (zL zy y0 rfl z.len Gg (ze (zb (pv 0)) zh)) (yk _)) (zo (zD (zH (zb (pv 0)) (zb (pv 1)) (λ_ _=>rfl)))) yd) (zg (yS (yJ (v4 (Room.units U)) wA (zb (pv 0)) (xb (xR zh)) (yk _)) (zo (zD zk)) yd) (zo (zD (yi zS zT (yi uE Zo (zH (zb (pv 0)) (yi Zj Zp (zb (pv 1)) (zL zy y0 rfl z.len Gg (ze (zb (pv 0)) zh))) (λ_ _=>rfl)) zk) (zb (pv 1)))))))
abbrev qI:FC:=top 62
def rC:FnScope ["_law_script","_law_k","_law_many","_law_drawn"] ["_law_script","_law_k","_law_many"] (zl qI):=yU
def C4(z:Fun K "_law_mixed" "_law_mixed" qI fa fd)(J:mg "_law_mixed"=some (.ref fa))(Y:Bi mg)(j:Callee P w K mg base 1 "_law_cell_at" kJ):Callee P w K mg base 2 "_law_mixed" Xg :=
 zE (k:=1) (f:=pS) z J rC (z.binds λ_ _ _ _ _ _ us O=>match us,O with|[_,_,_],_=>rfl) λcdv A outer s H E U=>
  (zg (yq (i:=3) rC.nd rfl (Or.inl rfl) (yi Zj Zp (yi uE Zo (yi zS zT (yi zS zT (zq j U (by decide) rfl (ze (zb (pv 0)) (ze (zb (pv 1)) zh))) (yi uE Zo zk (zb (pv 1)))) zk) zk) zk)) (zo (zD (yi Zj Zp (yi Zj Zp (yi zS zT (yi zS zT (yi uE Zo (zb (pv 3)) (zb (pv 3))) (yi uE Zo zk (zb (pv 3)))) (zb (pv 1))) zk) (zb (pv 2))))))
abbrev qJ:FC:=top 63
def rD:FnScope ["_law_script","_law_at","_law_many","_law_ways","_law_cell"] ["_law_script","_law_at","_law_many","_law_ways"] (zl qJ):=yU
def C5(z:Fun K "_law_move" "_law_move" qJ fa fd)(J:mg "_law_move"=some (.ref fa))(O:Bi mg)(j:Callee P w K mg base 2 "_law_mixed" Xg):Callee P w K mg base 3 "_law_move" Qu :=
 zE (k:=2) (f:=kK) z J rD (z.binds λ_ _ _ _ _ _ us U=>match us,U with|[_,_,_,_],_=>rfl) λcdv A outer s H E Y=>
  (zg (yq (i:=4) rD.nd rfl (Or.inl rfl) (zq j Y (by decide) rfl (a_3 (zb (pv 0)) (zb (pv 1)) (yi uE Zo zk (zb (pv 2)))))) (zg (yS (yJ Wc VI (yi Zj Zp (zb (pv 4)) zk) zk (yk _)) (zo (zD (zH (xb (xR (ze uA (ze uA zh)))) (yi Zj Zp (zb (pv 4)) zk) (λ_ _=>rfl)))) yd) (zo (zD (yP (a_2 (yi eV lY (zb (pv 4)) zk) (zH (zb (pv 3)) (yi Zj Zp (yi eV lY (zb (pv 4)) zk) (zL zy y0 rfl O.len Gg (ze (zb (pv 3)) zh))) (λ_ _=>rfl))))))))
abbrev qK:FC:=top 64
def WP:FnScope ["_law_script","_law_at","_law_letters","_law_most","_law_many","_law_rooms","_law_k","_law_place","_law_moves"] ["_law_script","_law_at","_law_letters","_law_most"] (zl qK):=yU
def C6(U:Fun K "_law_machine" "_law_machine" qK fa fd)(Y:mg "_law_machine"=some (.ref fa))(J:Bi mg)(z:Callee P w K mg base 2 "_law_mixed" Xg)(j:Callee P w K mg base 3 "_law_move" Qu):Callee P w K mg base 4 "_law_machine" cN :=
 zE (k:=3) (f:=pT) U Y WP (U.binds λ_ _ _ _ _ _ us Z=>match us,Z with|[_,_,_,_],_=>rfl) λcdv A outer s H E O=>
  (zg (yq (i:=4) WP.nd rfl (Or.inr rfl) (yi zS zT zk (zq z O (by decide) rfl (ze (zb (pv 0)) (ze (zb (pv 1)) (ze (zb (pv 3)) zh)))))) (zg (uC (i:=5) WP.nd rfl (Or.inl rfl) (xR zh)) (zg (v0 Gw rfl (ve rfl J.range (ze (zb (pv 4)) zh)) (zK (i:=6) WP.nd rfl (Or.inl rfl)) (zg (yq (i:=7) WP.nd rfl (Or.inr rfl) (yi zS zT (yi zS zT (zb (pv 1)) zk) (yi uE Zo zk (zb (pv 6))))) (zg (uC (i:=8) WP.nd rfl (Or.inl rfl) (xR (ze (zq j O (by decide) rfl (a_4 (zb (pv 0)) (zb (pv 7)) (zb (pv 4)) (xb (xR (ze zk zh))))) zh))) (zg (qW (i:=8) (h1:=xJ GC MG PD QM (pv 8) (zi (xb (we (N:=["_law_j","_law_script","_law_place","_law_many"]) (ms:=[none,some 0,some 7,some 4]) rfl (CompOk.of (by rfl)) (wB (ve rfl J.range (ze (zb (pv 2)) zh))) ⟨λ_ _ _ _ _=>⟨(zK (i:=0) (show(["_law_j","_law_script","_law_place","_law_many"]:List Fp).Nodup by decide+kernel) rfl (Or.inl rfl)),xU,(zq j O (by decide) rfl (a_4 (zb (pv 1)) (yi zS zT (yi zS zT (zb (pv 2)) zk) (zb (pv 0))) (zb (pv 3)) (xb (xR (a_2 zk (Wl zk))))))⟩⟩ (xA (by decide)) (xB (by decide)))) zu))) (zo (ZM (i:=5) (h1:=xJ GC GM GU yA (pv 5) (zi (vL xx vM rfl J.tuple HM (ze (yi zS zT (zb (pv 8)) (xb (xR (ze (zq j O (by decide) rfl (a_4 (zb (pv 0)) (yi zS zT (zb (pv 7)) zk) (zb (pv 4)) (xb (xR (ze (Wl zk) zh))))) zh)))) zh)) zu)))))))) (zo (zD (yP (a_2 (zb (pv 2)) (vL xx vM rfl J.tuple HM (ze (zb (pv 5)) zh)))))))))
abbrev qL:FC:=top 65
def ZW:FnScope ["_law_letters","_law_most","_law_made","_law_last","_law_turn","_law_longer_ones","_law_word"] ["_law_letters","_law_most"] (zl qL):=yU
def C7(j:Fun K "_law_words" "_law_words" qL fa fd)(J:mg "_law_words"=some (.ref fa))(z:Bi mg):Callee P w K mg base 1 "_law_words" kL :=
 zE (k:=0) (f:=AZ) j J ZW (j.binds λ_ _ _ _ _ _ us O=>match us,O with|[_,_],_=>rfl) λcdv A outer s H E U=>
  (zg (yq (i:=2) ZW.nd rfl (Or.inl rfl) (xb (xR (ze (yP zh) zh)))) (zg (yq (i:=3) ZW.nd rfl (Or.inl rfl) (xb (xR (ze (yP zh) zh)))) (zg (v0 Gw rfl (ve rfl z.range (ze (zb (pv 1)) zh)) (zK (i:=4) ZW.nd rfl (Or.inl rfl)) (zg (uC (i:=5) ZW.nd rfl (Or.inl rfl) (xR zh)) (zg (v0 Gw rfl (wE (zb (pv 3))) (zK (i:=6) ZW.nd rfl (Or.inr rfl)) (zo (qW (i:=5) (h1:=xJ GC MG PD QM (pv 5) (zi (xb (we (N:=["_law_letter","_law_word"]) (ms:=[none,some 6]) rfl (CompOk.of (by rfl)) (wB (ve rfl z.range (ze (zb (pv 0)) zh))) ⟨λ_ _ _ _ _=>⟨(zK (i:=0) (show(["_law_letter","_law_word"]:List Fp).Nodup by decide+kernel) rfl (Or.inl rfl)),xU,(yi zS zT (zb (pv 1)) (yP (ze (zb (pv 0)) zh)))⟩⟩ (xA (by decide)) (xB (by decide)))) zu))))) (uG (i:=5) (zg (yq (i:=3) ZW.nd rfl (Or.inl rfl) (zb (pv 5))) (zo (yq (i:=2) ZW.nd rfl (Or.inl rfl) (yi zS zT (zb (pv 2)) (zb (pv 3)))))))))) (zo (zD (zb (pv 2)))))))
abbrev qM:FC:=top 66
def C8:FnScope ["_law_machine_here","_law_word","_law_place"] ["_law_machine_here","_law_word","_law_place"] (zl qM):=yU
def C9(j:Fun K "_law_column" "_law_column" qM fa fd)(z:mg "_law_column"=some (.ref fa))(J:Bi mg):Callee P w K mg base 1 "_law_column" kM :=
 zE (k:=0) (f:=cO) j z C8 (j.binds λ_ _ _ _ _ _ us O=>match us,O with|[_,_,_],_=>rfl) λcdv A outer s H E U=>
  (zg (yS (yJ (v4 (Room.units U)) wA (zb (pv 2)) zk (yk _)) (zo (zD zk)) yd) (zg (yS (yJ qO B0 (zb (pv 2)) (zL zy y0 rfl J.len Gg (ze (zb (pv 1)) zh)) (yk _)) (zo (zD (yi zS zT (zH (zb (pv 0)) zk (λ_ _=>rfl)) zk))) yd) (zo (zD (yi zS zT zk (zH (zb (pv 1)) (yi Xx XC (zb (pv 2)) zk) (λ_ _=>rfl)))))))
abbrev lD:FC:=top 67
def YL:FnScope ["_law_machine_here","_law_word","_law_row","_law_room","_law_place","_law_move_here","_law_stand"] ["_law_machine_here","_law_word"] (zl lD):=yU
def BD(O:Fun K "_law_run" "_law_run" lD fa fd)(U:mg "_law_run"=some (.ref fa))(z:Bi mg)(j:Callee P w K mg base 1 "_law_column" kM):Callee P w K mg base 2 "_law_run" Xi :=
 zE (k:=1) (f:=kO) O U YL (O.binds λ_ _ _ _ _ _ us Y=>match us,Y with|[_,_],_=>rfl) λcdv A outer s H E J=>
  (zg (uC (i:=2) YL.nd rfl (Or.inl rfl) (xR (ze (yP (ze zk (ze zk zh))) zh))) (zo (Wj (n:=WF) Gw (xp vc) (zg (qU (zH (zb (pv 2)) (Wl zk) (λ_ _=>rfl)) (uW rfl (yM (zK (i:=3) YL.nd rfl (Or.inl rfl)) (yM (zK (i:=4) YL.nd rfl (Or.inl rfl)) vE)))) (zg (yq (i:=5) YL.nd rfl (Or.inl rfl) (zH (zH (zH (zb (pv 0)) zk (λ_ _=>rfl)) (zb (pv 3)) (λ_ _=>rfl)) (zq j J (by decide) rfl (ze (zb (pv 0)) (ze (zb (pv 1)) (ze (zb (pv 4)) zh)))) (λ_ _=>rfl))) (zg (yS (xp (zL x4 wS rfl z.isinstance HA (ze (zb (pv 5)) (ze (uM .str rfl z.str II) zh)))) (zo (zD (yP (a_2 (zb (pv 5)) (zL zy y0 rfl z.len Gg (ze (zb (pv 2)) zh)))))) yd) (zg (yq (i:=6) YL.nd rfl (Or.inl rfl) (yP (a_2 (zH (zb (pv 5)) zk (λ_ _=>rfl)) (yi zS zT (zb (pv 4)) (zH (zb (pv 5)) zk (λ_ _=>rfl)))))) (zg (yS (yJ (aI (uj J)) JL (zb (pv 6)) (zb (pv 2)) (by with_unfolding_all rfl)) (zo (zD (yP (a_3 uA (fS (xJ GC MU PH (aQ (uj J)) (zb (pv 2)) (zi (zb (pv 6)) zu))) (yi Xx XC (zL zy y0 rfl z.len Gg (ze (zb (pv 2)) zh)) (fS (xJ GC MU PH (aQ (uj J)) (zb (pv 2)) (zi (zb (pv 6)) zu)))))))) yd) (zo (ZM (i:=2) (h1:=xJ GC GM GU yA (pv 2) (zi (zb (pv 6)) zu))))))))))))
abbrev Xq:FC:=top 68
def wU:FnScope ["_law_script","_law_letters","_law_machine_here","_law_yes","_law_other","_law_ring","_law_none","_law_rest","_law_fate","_law_reader","_law_first","_law_due"] ["_law_script"] (zl Xq):=yU
def BE(Fn:Fun K "law" "law" Xq fa fd)(bi:Bi mg)(aa:Callee P w K mg base 2 "_law_mixed" Xg)(ab:Callee P w K mg base 4 "_law_machine" cN)(ac:Callee P w K mg base 6 "reader_of" Qr)(z:Callee P w K mg base 10 "both" Uw)(J:Callee P w K mg base 10 "either" J1)(U:Callee P w K mg base 5 "contrary" Qs)(Y:Callee P w K mg base 10 "within" rg)(Z:Callee P w K mg base 10 "alike" rf)(ae:Callee P w K mg base 6 "first_word" kI)(af:Callee P w K mg base 1 "_law_words" kL)(O:Callee P w K mg base 2 "_law_run" Xi):FnOk P w K mg base CX0 11 fa fd ["_law_script"] (spD K WG) :=
 At (k:=10) (N:=["_law_script","_law_letters","_law_machine_here","_law_yes","_law_other","_law_ring","_law_none","_law_rest","_law_fate","_law_reader","_law_first","_law_due"]) (ps:=["_law_script"]) (f:=kP) Fn wU λcdv A outer s H E j=>
  (zg (yq (i:=1) wU.nd rfl (Or.inl rfl) (yi zS zT zk (zq aa j (by decide) rfl (ze (zb (pv 0)) (ze zk (ze zk zh)))))) (zg (yq (i:=2) wU.nd rfl (Or.inr rfl) (zq ab j (by decide) rfl (ze (zb (pv 0)) (ze zk (ze (zb (pv 1)) (ze zk zh)))))) (zg (qU (xb (we (N:=["_law_fate","_law_machine_here"]) (ms:=[none,some 2]) rfl (CompOk.of (by rfl)) (wB (wE (yP (ze uA (ze uA (ze uA zh)))))) ⟨λ_ _ _ _ _=>⟨(zK (i:=0) (show(["_law_fate","_law_machine_here"]:List Fp).Nodup by decide+kernel) rfl (Or.inl rfl)),xU,(zq ac j (by decide) rfl (ze (zb (pv 1)) (ze (zb (pv 0)) zh)))⟩⟩ (xA (by decide)) (xB (by decide)))) (Cq rfl (yM (zK (i:=3) wU.nd rfl (Or.inl rfl)) (yM (zK (i:=4) wU.nd rfl (Or.inl rfl)) (yM (zK (i:=5) wU.nd rfl (Or.inl rfl)) vE))))) (zg (yq (i:=6) wU.nd rfl (Or.inl rfl) (yP (a_3 (zb (pv 1)) (yP (ze (yi si sj (yP (ze zk zh)) (zb (pv 1))) zh)) (yP zh)))) (zg (yS (t_w (ZZ (yJ (v5 (Room.units j)) wA (zq z j (by decide) rfl (ze (zb (pv 3)) (ze (zb (pv 4)) zh))) (zb (pv 6)) (yk _)) (ZZ (yJ (v5 (Room.units j)) wA (zq z j (by decide) rfl (ze (zb (pv 3)) (ze (zb (pv 5)) zh))) (zb (pv 6)) (yk _)) (uV (yJ (v5 (Room.units j)) wA (zq z j (by decide) rfl (ze (zb (pv 4)) (ze (zb (pv 5)) zh))) (zb (pv 6)) (yk _)))))) (zo (zD vc)) yd) (zg (yq (i:=7) wU.nd rfl (Or.inl rfl) (zq J j (by decide) rfl (ze (zb (pv 4)) (ze (zb (pv 5)) zh)))) (zg (yS (t_w (ZZ (yJ (v5 (Room.units j)) wA (zq J j (by decide) rfl (ze (zb (pv 3)) (ze (zb (pv 7)) zh))) (yP (a_3 (zb (pv 1)) (zH (zb (pv 6)) zk (λ_ _=>rfl)) (yP (ze zk zh)))) (yk _)) (uV (yJ (v5 (Room.units j)) wA (zq U j (by decide) rfl (ze (zb (pv 3)) zh)) (zb (pv 7)) (yk _))))) (zo (zD vc)) yd) (zg (yS (t_w (ZZ (yJ UK Qh (zq Y j (by decide) rfl (a_2 (zb (pv 3)) (zq J j (by decide) rfl (ze (zb (pv 3)) (ze (zb (pv 4)) zh))))) JI (yk _)) (uV (yJ UK Qh (zq Z j (by decide) rfl (a_2 (zb (pv 7)) (zq U j (by decide) rfl (ze (zb (pv 3)) zh)))) JI (yk _))))) (zo (zD vc)) yd) (zg (v0 Gw rfl (AX rfl bi.zip (a_2 (yP (ze uA (ze uA (ze uA zh)))) (yP (ze (zb (pv 3)) (ze (zb (pv 4)) (ze (zb (pv 5)) zh)))))) (uW rfl (yM (zK (i:=8) wU.nd rfl (Or.inr rfl)) (yM (zK (i:=9) wU.nd rfl (Or.inl rfl)) vE))) (zg (yq (i:=10) wU.nd rfl (Or.inl rfl) (zq ae j (by decide) rfl (ze (zb (pv 9)) zh))) (zg (XF (i:=11) (N:=["_law_word","_law_machine_here","_law_fate"]) (ms:=[none,some 2,some 8]) rfl (CompOk.of (by rfl)) (wB (wE (zq af j (by decide) rfl (ze (zb (pv 1)) (ze zk zh))))) ⟨λ_ _ _ _ _=>⟨(zK (i:=0) (show(["_law_word","_law_machine_here","_law_fate"]:List Fp).Nodup by decide+kernel) rfl (Or.inl rfl)),(qV (yJ (v4 (Room.units j)) wA (zH (zq O j (by decide) rfl (ze (zb (pv 1)) (ze (zb (pv 0)) zh))) zk (λ_ _=>rfl)) (zb (pv 2)) (yk _))),(zb (pv 0))⟩⟩ (xA (by decide)) (xB (by decide)) wU.nd rfl (Or.inl rfl)) (zo (yS (t_w (ZZ (t_w (qR (yJ (v5 (Room.units j)) wA (zb (pv 11)) (xb (xR zh)) (yk _)) (lX (yJ (v5 (Room.units j)) wA (zb (pv 10)) (zH (zb (pv 11)) zk (λ_ _=>rfl)) (yk _))))) (uV (t_w (qR (yJ UK Qh (zb (pv 10)) JI (yk _)) (lX (yJ (v5 (Room.units j)) wA (zH (zq O j (by decide) rfl (ze (zb (pv 2)) (ze (zb (pv 10)) zh))) zk (λ_ _=>rfl)) (zb (pv 8)) (yk _)))))))) (zo (zD vc)) yd))))) (zo (zD vc)))))))))))
end
abbrev Nf(K:Fs)(x:Fp)(st:FC):Prop:=∃a,Hk K Gv x=some (some (.ref a))/\∃fd,Fun K x x st a fd
abbrev Nz(K:Fs)(x:Fp):Prop:=Hk K Gv x=some none
abbrev Mf(K:Fs)(C:Fo)(x q:Fp)(st:FC):Prop:=∃a,Hg K (.ref C) x=some (some (.ref a))/\Lf K (.ref a)=true/\∃fd,Fun K x q st a fd
abbrev Nn(K:Fs)(C:Fo)(x:Fp):Prop:=Hg K (.ref C) x=some none
def BF{l: Ki}{w: FB}{K: Fs}{h: Fz}{mg: Fp->Option Fl}{fa:Fo}(X: K.In h)(J: h.Ns Gv mg)(kh: mg "law"=some (.ref fa)) 
    (hd: Nf K "is_number" qm)
    (e6: Nf K "is_row" ln)
    (e7: Nf K "ways_at" lq)
    (e8: Nf K "is_move" lu)
    (e9: Nf K "is_room" lv)
    (he: Nf K "is_machine" qp)
    (fc: Nf K "checked" lw)
    (hf: Nf K "moves_at" qq)
    (fe: Nf K "told" lx)
    (hg: Nf K "done_by_none" qr)
    (hh: Nf K "what_comes_of" qs)
    (hj: Nf K "done_with" qt)
    (ff: Nf K "fate_of" lz)
    (hk: Nf K "explored" qu)
    (hl: Nf K "reached_in_order" qv)
    (hm: Nf K "renumbered" qw)
    (ho: Nf K "least_reader" qx)
    (hp: Nf K "are_stands" qy)
    (hq: Nf K "is_rising" qz)
    (hr: Nf K "is_reader" qA)
    (hs: Nf K "checked_reader" qB)
    (ht: Nf K "marks_of" qC)
    (fg: Nf K "least" lB)
    (hu: Nf K "reader_of" qD)
    (hv: Nf K "contrary" qE)
    (hw: Nf K "first_word_to" qF)
    (hx: Nf K "first_word" qG)
    (hy: Nf K "_law_cell_at" qH)
    (hz: Nf K "_law_mixed" qI)
    (h0: Nf K "_law_move" qJ)
    (h3: Nf K "_law_machine" qK)
    (h4: Nf K "_law_words" qL)
    (h5: Nf K "_law_column" qM)
    (fi: Nf K "_law_run" lD)
 (fj: Hk K Gv "law"=some (some (.ref fk))) (fm: ∃ fd, Fun K "law" "law" Xq fk fd)
    (h6: Nf K "parts_of_stands" Pt.WN)
    (ap: Nf K "arrows_back" Pt.J5)
    (ay: Nf K "leading_to" Pt.UG)
 (co: Hk K Gv "Parting"=some (some (.ref j)))
    (dg: Mf K j "__init__" "Parting.__init__" Pt.ub)
    (bg: Mf K j "take_goals" "Parting.take_goals" Pt.UD)
    (b4: Mf K j "part_off" "Parting.part_off" Pt.J2)
    (b5: Mf K j "let_wait" "Parting.let_wait" Pt.X8)
    (ki: Kf K j Ml=true)
    (kj: KB K j=true)
    (kk: Lh K j=true)
    (kl: Hg K (.ref j) "__setattr__"=some (some (.builtin "object.__setattr__")))
    (km: Nn K j "part_of")
    (kn: Nn K j "parts")
    (ko: Nn K j "waiting")
    (kp: Nn K j "waits")
    (kq: Lj K j=true)
    (kr: Ig K (.ref j)=true)
    (ck: Nf K "joined" Pq.X9)
    (ab: Nf K "first_joined_word" Pq.YJ)
    (br: Nf K "pairs_of" Pq.vt)
    (fo: Nf K "both" Pq.dY)
    (fq: Nf K "either" Pq.Vo)
    (fr: Nf K "alike" Pq.QD)
    (ft: Nf K "within" Pq.Vq)
 (dh: Hk K Gv "Pairs"=some (some (.ref z)))
    (di: Mf K z "__init__" "Pairs.__init__" Pq.ub)
    (bt: Mf K z "number_of" "Pairs.number_of" Pq.WL)
    (b6: Mf K z "has_more" "Pairs.has_more" Pq.UF)
    (cy: Mf K z "go_on" "Pairs.go_on" Pq.lh)
    (kt: Kf K z Ml=true)
    (ku: KB K z=true)
    (kv: Lh K z=true)
    (kw: Hg K (.ref z) "__setattr__"=some (some (.builtin "object.__setattr__")))
    (kx: Lj K z=true)
    (ky: Ig K (.ref z)=true)
    (kz: Nn K z "one_rows")
    (k0: Nn K z "one_marks")
    (k1: Nn K z "other_rows")
    (k2: Nn K z "other_marks")
    (k3: Nn K z "wanted")
    (k4: Nn K z "numbers")
    (k5: Nn K z "met")
    (k6: Nn K z "marks")
    (k7: Nn K z "rows")
 (cp: Hk K Gv "IN_BOTH"=some (some (.ref cq))) (cr: K.lookup cq=some ⟨.type "tuple", e2,.seq #[.ref av] fu, e3⟩)
 (cm: K.lookup av=some ⟨.type "tuple", en,.seq #[.bool true,.bool true] e4, eo⟩)
 (b7: Hk K Gv "IN_EITHER"=some (some (.ref b8))) (b9: K.lookup b8=some ⟨.type "tuple", ef,.seq #[.ref ah,.ref ai,.ref aj] er, eg⟩)
 (bu: K.lookup ah=some ⟨.type "tuple", dj,.seq #[.bool true,.bool true] eh, dk⟩)
 (bv: K.lookup ai=some ⟨.type "tuple", dm,.seq #[.bool true,.bool false] ei, dn⟩)
 (bw: K.lookup aj=some ⟨.type "tuple", dp,.seq #[.bool false,.bool true] ej, dq⟩)
 (bh: Hk K Gv "IN_JUST_ONE"=some (some (.ref bj))) (bm: K.lookup bj=some ⟨.type "tuple", c9,.seq #[.ref ac,.ref ae] dr, da⟩)
 (az: K.lookup ac=some ⟨.type "tuple", cz,.seq #[.bool true,.bool false] db, c0⟩)
 (a8: K.lookup ae=some ⟨.type "tuple", c1,.seq #[.bool false,.bool true] dd, c2⟩)
 (ba: Hk K Gv "IN_ONE_ALONE"=some (some (.ref bb))) (bc: K.lookup bb=some ⟨.type "tuple", c3,.seq #[.ref aa] de, c4⟩)
 (aq: K.lookup aa=some ⟨.type "tuple", cu,.seq #[.bool true,.bool false] c5, cv⟩)
    (fv: Nz K "all")
    (et: Nz K "bool")
    (eu: Nz K "dict")
    (c6: Nz K "divmod")
    (ca: Nz K "enumerate")
    (fx: Nz K "int")
    (bx: Nz K "isinstance")
    (fy: Nz K "len")
    (ev: Nz K "list")
    (dt: Nz K "range")
    (cn: Nz K "reversed")
    (fz: Nz K "str")
    (du: Nz K "tuple")
    (f0: Nz K "zip")
 (ew: Hk K Gv "ENDS"=some (some (.ref ey))) (ez: K.lookup ey=some ⟨.type "tuple", h7,.seq #[.str "yes" h8,.str "no" h9] kg, ia⟩)
 (dv: Hk K Gv "FATES"=some (some (.ref dw))) (dy: K.lookup dw=some ⟨.type "tuple", g8,.seq #[.str "yes" g9,.str "no" ha,.str "round" hb] ib, hc⟩)
 (bd: Hk K Gv "MOST_LETTERS"=some (some (.int 3 df)))
 (bz: Hk K Gv "MOST_ROOMS"=some (some (.int 12 ek)))
 (bn: Hk K Gv "MOST_STANDS"=some (some (.int 2000 dz))) :
    ∃ fd: Ga, (∀ (s: Fq) (v: Fl), Kh s fd ⟨[v], []⟩ [("_law_script", v)])/\ ∀ base: Fz, K.In base->base.Ns Gv mg->FnOk l.prog w K mg base CX0 11 fa fd ["_law_script"] (spD K WG) :=by
  have e :=kh.symm.trans (FN X J fj)
  cases e
  have bi: Bi mg :=⟨Hl X J fv, Hl X J et, Hl X J eu, Hl X J c6, Hl X J ca, Hl X J fx, Hl X J bx, Hl X J fy, Hl X J ev, Hl X J dt, Hl X J cn, Hl X J fz, Hl X J du, Hl X J f0⟩
  have e0: GlobT K mg "ENDS" [(.str "yes"), (.str "no")] :=VM ["yes", "no"] (FN X J ew) ez (by show 2<=Fv; decide) (.cons ⟨_, rfl⟩ (.cons ⟨_, rfl⟩ (.nil)))
  have d0: GlobT K mg "FATES" [(.str "yes"), (.str "no"), (.str "round")] :=VM ["yes", "no", "round"] (FN X J dv) dy (by show 3<=Fv; decide) (.cons ⟨_, rfl⟩ (.cons ⟨_, rfl⟩ (.cons ⟨_, rfl⟩ (.nil))))
  have af :=FN X J bd
  have b0 :=FN X J bz
  have bo :=FN X J bn
  obtain⟨_, ic, _, ie⟩ :=hd
  obtain⟨_, f1, _, f2⟩ :=e6
  obtain⟨_, f3, _, f4⟩ :=e7
  obtain⟨_, f5, _, f6⟩ :=e8
  obtain⟨_, f7, _, f8⟩ :=e9
  obtain⟨_, ig, _, ih⟩ :=he
  obtain⟨_, f9, _, ga⟩ :=fc
  obtain⟨_, ii, _, ij⟩ :=hf
  obtain⟨_, gb, _, gc⟩ :=fe
  obtain⟨_, ik, _, il⟩ :=hg
  obtain⟨_, im, _, io⟩ :=hh
  obtain⟨_, ip, _, iq⟩ :=hj
  obtain⟨_, gd, _, ge⟩ :=ff
  obtain⟨_, ir, _, is⟩ :=hk
  obtain⟨_, it, _, iu⟩ :=hl
  obtain⟨_, iv, _, iw⟩ :=hm
  obtain⟨_, ix, _, iy⟩ :=ho
  obtain⟨_, iz, _, i0⟩ :=hp
  obtain⟨_, i3, _, i4⟩ :=hq
  obtain⟨_, i5, _, i6⟩ :=hr
  obtain⟨_, i7, _, i8⟩ :=hs
  obtain⟨_, i9, _, ja⟩ :=ht
  obtain⟨_, gf, _, gg⟩ :=fg
  obtain⟨_, jb, _, jc⟩ :=hu
  obtain⟨_, jd, _, je⟩ :=hv
  obtain⟨_, jf, _, jg⟩ :=hw
  obtain⟨_, jh, _, ji⟩ :=hx
  obtain⟨_, jj, _, jk⟩ :=hy
  obtain⟨_, jl, _, jm⟩ :=hz
  obtain⟨_, jn, _, jo⟩ :=h0
  obtain⟨_, jp, _, jq⟩ :=h3
  obtain⟨_, jr, _, js⟩ :=h4
  obtain⟨_, jt, _, ju⟩ :=h5
  obtain⟨_, gh, _, gi⟩ :=fi
  obtain⟨_, jv, _, jw⟩ :=h6
  obtain⟨_, ar, _, au⟩ :=ap
  obtain⟨_, be, _, bf⟩ :=ay
  obtain⟨_, d1, d2, _, d3⟩ :=dg
  obtain⟨_, bp, bq, _, ag⟩ :=bg
  obtain⟨_, cb, cc, _, al⟩ :=b4
  obtain⟨_, ce, cf, _, am⟩ :=b5
  obtain⟨_, aw, _, ax⟩ :=ck
  obtain⟨_, O, _, U⟩ :=ab
  obtain⟨_, Y, _, Z⟩ :=br
  obtain⟨_, gj, _, gk⟩ :=fo
  obtain⟨_, gl, _, gm⟩ :=fq
  obtain⟨_, gn, _, gp⟩ :=fr
  obtain⟨_, gq, _, gr⟩ :=ft
  obtain⟨_, d4, d5, _, d6⟩ :=di
  obtain⟨_, b1, b2, _, ak⟩ :=bt
  obtain⟨_, cg, ci, _, ao⟩ :=b6
  obtain⟨_, c7, c8, _, b3⟩ :=cy
  obtain⟨_, ⟨oc, od, kV, dc, pm, an, cd, ct, sl, rfl, gs, gt⟩, gu⟩ :=fm
  refine⟨IS "law" "law" (Yg Xq) (vR Xq) (zl Xq) .none kV dc pm an cd ct, λs v=> .of_eq rfl, λbase _ _=> ?_⟩
  have k8 :=Pt.PM.mk (mg :=mg) ⟨⟨ki, kj, kk, kl⟩, km, kn, ko, kp⟩ (FN X J co) ⟨kq, d1, d2, kr⟩ d3 ⟨bp, bq, ag.2⟩ ag ⟨cb, cc, al.2⟩ al ⟨ce, cf, am.2⟩ am (FN X J be) bf (FN X J ar) au bi.len bi.list bi.range bi.enumerate
  have jx :=Pt.eB (P :=l.prog) (w :=w) (base :=base) jw (FN X J jv) k8
  have cw :=Cz (P :=l.prog) (w :=w) (base :=base) ie (FN X J ic) bi
  have cj :=Bo (P :=l.prog) (w :=w) (base :=base) f2 (FN X J f1) bi
  have gv :=Bq (P :=l.prog) (w :=w) (base :=base) f4 (FN X J f3) bi
  have gw :=Bs (P :=l.prog) (w :=w) (base :=base) f6 (FN X J f5) bi cj cw e0
  have gx :=Bu (P :=l.prog) (w :=w) (base :=base) f8 (FN X J f7) bi cj gv gw
  have jy :=CA (P :=l.prog) (w :=w) (base :=base) ih (FN X J ig) bi cj cw gx af b0
  have gy :=Bw (P :=l.prog) (w :=w) (base :=base) ga (FN X J f9) bi jy
  have d7 :=CC (P :=l.prog) (w :=w) (base :=base) ij (FN X J ii) bi
  have d8 :=By (P :=l.prog) (w :=w) (base :=base) gc (FN X J gb) bi
  have jz :=CD (P :=l.prog) (w :=w) (base :=base) il (FN X J ik) bi d7 d8
  have e5 :=CF (P :=l.prog) (w :=w) (base :=base) io (FN X J im) bi
  have j0 :=CG (P :=l.prog) (w :=w) (base :=base) iq (FN X J ip) bi e5 d8
  have gz :=BA (P :=l.prog) (w :=w) (base :=base) ge (FN X J gd) bi d7 e5
  have j1 :=CH (P :=l.prog) (w :=w) (base :=base) is (FN X J ir) bi d7 jz j0
  have j2 :=CI (P :=l.prog) (w :=w) (base :=base) iu (FN X J it) bi
  have j3 :=CK (P :=l.prog) (w :=w) (base :=base) iw (FN X J iv) bi
  have cx :=CL (P :=l.prog) (w :=w) (base :=base) iy (FN X J ix) bi j2 j3 jx
  have j4 :=CN (P :=l.prog) (w :=w) (base :=base) i0 (FN X J iz) bi cw
  have j5 :=CP (P :=l.prog) (w :=w) (base :=base) i4 (FN X J i3) bi
  have j6 :=CQ (P :=l.prog) (w :=w) (base :=base) i6 (FN X J i5) bi cj cw j4 j5 af bo
  have d9 :=CT (P :=l.prog) (w :=w) (base :=base) i8 (FN X J i7) bi j6
  have ea :=CU (P :=l.prog) (w :=w) (base :=base) ja (FN X J i9) bi
  have eb :=BC (P :=l.prog) (w :=w) (base :=base) gg (FN X J gf) bi d9 ea cx
  have j7 :=CV (P :=l.prog) (w :=w) (base :=base) jc (FN X J jb) bi gy j1 gz cx d0
  have j8 :=CY (P :=l.prog) (w :=w) (base :=base) je (FN X J jd) bi d9 ea cx
  have ec :=CZ (P :=l.prog) (w :=w) (base :=base) jg (FN X J jf) bi
  have e1 :=Pq.JM.mk (P :=l.prog) (w :=w) (base :=base) (mg :=mg) ⟨⟨kt, ku, kv, kw⟩, kz, k0, k1, k2, k3, k4, k5, k6, k7⟩ (FN X J dh) ⟨kx, d4, d5, ky⟩ d6 ⟨b1, b2, ak.2⟩ ak ⟨cg, ci, ao.2⟩ ao ⟨c7, c8, b3.2⟩ b3 bi.len bi.divmod bi.zip bi.tuple (Pq.wW (k :=5) d9 (by decide)) (Pq.wW (k :=5) eb (by decide)) (Pq.wW (k :=5) ea (by decide)) (Pq.wW (k :=5) cx (by decide)) (show 2<=5 by decide)
  have g0 :=Pq.eU gk (FN X J gj) e1 (FN X J Y) Z (FN X J aw) ax (FN X J cp) (Pq.J4 (as := [av]) cr (by show 1<=Fv; decide) (.cons rfl (.nil)) (Pq.vQ cm (.nil)))
  have g4 :=Pq.JE gm (FN X J gl) e1 (FN X J Y) Z (FN X J aw) ax (FN X J b7) (Pq.J4 (as := [ah, ai, aj]) b9 (by show 3<=Fv; decide) (.cons rfl (.cons rfl (.cons rfl (.nil)))) (Pq.vQ bu (Pq.vQ bv (Pq.vQ bw (.nil)))))
  have g5 :=Pq.eA gp (FN X J gn) e1 (FN X J Y) Z (FN X J O) U (Pq.wW (k :=5) ec (by decide)) (FN X J bh) (Pq.J4 (as := [ac, ae]) bm (by show 2<=Fv; decide) (.cons rfl (.cons rfl (.nil))) (Pq.vQ az (Pq.vQ a8 (.nil))))
  have g6 :=Pq.JF gr (FN X J gq) e1 (FN X J Y) Z (FN X J O) U (Pq.wW (k :=5) ec (by decide)) (FN X J ba) (Pq.J4 (as := [aa]) bc (by show 1<=Fv; decide) (.cons rfl (.nil)) (Pq.vQ aq (.nil)))
  have j9 :=C0 (P :=l.prog) (w :=w) (base :=base) ji (FN X J jh) bi eb ec
  have ka :=C3 (P :=l.prog) (w :=w) (base :=base) jk (FN X J jj) bi
  have ee :=C4 (P :=l.prog) (w :=w) (base :=base) jm (FN X J jl) bi ka
  have kb :=C5 (P :=l.prog) (w :=w) (base :=base) jo (FN X J jn) bi ee
  have kc :=C6 (P :=l.prog) (w :=w) (base :=base) jq (FN X J jp) bi ee kb
  have ke :=C7 (P :=l.prog) (w :=w) (base :=base) js (FN X J jr) bi
  have kf :=C9 (P :=l.prog) (w :=w) (base :=base) ju (FN X J jt) bi
  have g7 :=BD (P :=l.prog) (w :=w) (base :=base) gi (FN X J gh) bi kf
  exact BE (Vz (st :=Xq) gs gt gu) bi ee kc j7 g0 g4 j8 g6 g5 j9 ke g7
def walk{l:Ki}{U:FI}{j:List Fp}{Y:(Fp->Option Fl)->Fz->Prop}{O:FB->Fz->Prop}{d:DefRec}{K:Lx->Fs}(good:∀ns:List Int,ns.length<=63->WG [.scr ns]=some (.bl true))(hn:l.most=some 63)(J:d.params.defaults=[]) 
  (Z:∀(w:FB) (h:Fz),O w h->(K w.params).In h)
  (F:∀(w:FB) (mg:Fp->Option Fl) (fa:Fo) (h:Fz),(K w.params).In h->h.Ns Gv mg->mg d.name=some (.ref fa)->
   ∃fd:Ga,(∀(s:Fq) (u:Fl),Kh s fd ⟨[u],[]⟩ [("_law_script",u)])/\∀base:Fz,(K w.params).In base->base.Ns Gv mg->FnOk l.prog w (K w.params) mg base CX0 11 fa fd ["_law_script"] (spD (K w.params) WG)) :
  MK U j Y O l.row.toRowW d [] (λf vs=>ML f vs) :=
 L2.rP (n:=63) (k:=11) (x:="_law_script") (CX:=λ_=>CX0) (sp:=λw=>spD (K w.params) WG) hn (by decide) J ⟨rfl,by decide,by decide⟩ Z F (λ_ _ a ns hl _ hS=>Au hS (good ns hl)) λ_ _ _ _ _ z=>z
end Py
open PySem PySem.W PyProof.Rows
namespace PySem.W.Fast
def tw6269260147927784080:=1
def tw8487019211050679872:=1
def tw4891975013431198329:=1
def tw690120781475419982:=1
def tw4132297853363967173:=1
def tw888482964598250746:=1
def tw496881782477306065:=1
def tw2922951902505463443:=1
def tw9783893318316735541:=1
def tw12864670276876465391:=1
def tw2130306280710700318:=1
def tw17869502589931194767:=1
def tw13328432974940564396:=1
def tw5477968701900866746:=1
def tw7916517794257211784:=1
def tw6045024761378314659:=1
def tw2793296873777340380:=1
def tw4606505683808389533:=1
def tw5947040068481269292:=1
def tw4371629695111385333:=1
def tw11268775381834655821:=1
def tw1483322151383292620:=1
def tw13903720354755565765:=1
def tw15419538455790854603:=1
def tw16802573768577161006:=1
def tw7443926917739811489:=1
def tw10769574065088427485:=1
def tw15879368429081170061:=1
def tw8873428011004678983:=1
def tw5494332608759539227:=1
def tw4231104245972477276:=1
def tw12140349871327409454:=1
def tw4260573733722878653:=1
def tw691367221398939932:=1
def tw4848793812708608184:=1
def tw17362451648039251642:=1
def tw713548566573362588:=1
def tw4695047543363485917:=1
def tw13213216590435408957:=1
def tw10592106440837493402:=1
def tw6633185153287707303:=1
def tw11090507267936000093:=1
def tw11620778087764033208:=1
def tw15854787047210204496:=1
def tw4407686554753771330:=1
def tw6279130600297809941:=1
def tw16017375903500937076:=1
def tw1742465366077228492:=1
def tw3456173221251449335:=1
def tw10794347399126035395:=1
def tw7665412921497851385:=1
def tw12077157240444466050:=1
def tw9290141561276505617:=1
def tw2179892844170430729:=1
def tw4798236057559392965:=1
def tw16975894646837582959:=1
def tw7495703257518765229:=1
def tw16114748548437887963:=1
def tw15550307292276882675:=1
def tw16942198467738184523:=1
def tw2024599095156270759:=1
def tw17147925899810143931:=1
def tw9147642339758333393:=1
def tw1879236027547378359:=1
def tw14928186982955139794:=1
def tw14387639936083751401:=1
def tw6008014143501439218:=1
def tw7538949990475201023:=1
def tw12515035190022621816:=1
def tw8415976798541618281:=1
def tw18401027461753184574:=1
def tw17802114847495859445:=1
def tw6800226682654285626:=1
def tw12806410472920141851:=1
def tw12905516310841804073:=1
def tw2390726390923246122:=1
def tw18003486228447310277:=1
def tw17944579135874530492:=1
def tw9678668269049201116:=1
def tw12745780133741271861:=1
def tw8078848619403697394:=1
def tw11522427055720604163:=1
def tw1164179289482689652:=1
def tw926946471365349227:=1
def tw16888460310034805286:=1
def tw13293237898328217153:=1
def tw12619146800868267753:=1
def tw14834438437506792957:=1
def tw1806483691372249514:=1
def tw10917902580109805801:=1
def tw2492220969413115152:=1
def tw8542477929053947213:=1
def tw12485028583263381347:=1
def tw7610188112442138590:=1
def tw13738660072707629575:=1
def tw2650110249831702831:=1
def tw7489696123381224879:=1
def tw3952753466908631779:=1
def tw6900160915948192436:=1
def tw8628708406619882155:=1
def tw16382397154572370306:=1
def tw3456991923125892226:=1
def tw14322896115290447131:=1
def tw2545859261397271529:=1
def tw11947645291733554360:=1
def tw16926279884853122590:=1
def tw5073748160961351524:=1
def tw12718020381700450447:=1
def tw8948892178952713470:=1
def tw2058586263314452318:=1
def tw9693211128750640044:=1
def tw12056696608395108153:=1
def tw18329513394560826327:=1
def tw10983588684451635767:=1
def tw12268587637588369973:=1
def tw8581115986391214554:=1
def tw17662116200823202208:=1
def tw7825137967401932546:=1
def tw13452628814142607355:=1
def tw11228445786776531051:=1
def tw1791252306189592124:=1
def tw2509916902363203569:=1
def tw17114910705030640791:=1
def tw1293040729238698127:=1
def tw6805538289278117921:=1
def tw1708977567686862450:=1
def tw3294696343455055827:=1
def tw17737267573753785602:=1
def tw10598140164880534291:=1
def tw6401490438603466991:=1
def tw15279487370591670448:=1
def tw3722818331472888095:=1
def tw209432966564896831:=1
def tw4329846159436707865:=1
def tw15788353418861281950:=1
def tw8425639535566137941:=1
def tw2837847625479816139:=1
def tw9168449249526047095:=1
def tw3886643446600261572:=1
def tw6457184123376711575:=1
def tw1162492245878457402:=1
def tw8274236164582070729:=1
def tw2117167037344443165:=1
def tw16845698228679537711:=1
def tw9377070217941836477:=1
def tw2846590642737129492:=1
def tw14171210534617653110:=1
def tw7081607435837170472:=1
def tw9560316807872681968:=1
def tw17360252692279009830:=1
def tw9786371213999136388:=1
def tw9351430183386109954:=1
def tw5281758269335944058:=1
def tw9475854079514862204:=1
def tw13837767148664249443:=1
def tw7188066463058763299:=1
def tw12568494117336936892:=1
def tw15472916330945683838:=1
def tw3970423660258055902:=1
def tw4793444979165862225:=1
def tw14121309847732779129:=1
def tw3644232088122909665:=1
def tw5073565318297692284:=1
def tw8755717472720138533:=1
def tw18025419116813550709:=1
def tw1744069465683122448:=1
def tw10829476851752975635:=1
def tw9924370661983081036:=1
def tw14584067646432072543:=1
def tw4285479097111878520:=1
def tw2488860160762426054:=1
def tw2945317719832169769:=1
def tw339476194684080044:=1
def tw12637866716454312459:=1
def tw16994732322567126701:=1
def tw2561091040030635733:=1
def tw17736915743093540495:=1
def tw15268970921660186228:=1
def tw13044356901155432317:=1
def tw9627044064581676480:=1
def tw2293899832654195476:=1
def tw2594210917937037266:=1
def tw10035262490387231027:=1
def tw16446478621140807184:=1
end PySem.W.Fast
set_option maxRecDepth 100000 in
set_option maxHeartbeats 0 in
theorem PySem.Challenge.cw_backhead_k13_whole_three_fates_holds : PySem.Challenge.rw_backhead_k13_whole_three_fates.Holds := by
 w_on;o_law;k_head;(case hw=>w_witness2)
 k_fill
 refine Py.walk (l:=PySem.Challenge.rw_backhead_k13_whole_three_fates) Py.good rfl rfl (fun w h Y=>PySem.W.kIn_of Y) ?F
 case F =>
  intro w mg fa h KX G hmg
  apply Py.BF KX G hmg
  all_goals first|k_is|(show _=_;k_is)|(refine' ⟨_,L2.Vz ?l ?c ?k⟩;(case l=>k_is);(case c=>k_is);(case k=>k_is))|(refine' ⟨_,?n,_,L2.Vz ?l ?c ?k⟩;(case n=>k_is);(case l=>k_is);(case c=>k_is);(case k=>k_is))|(refine' ⟨_,?n,?i,_,L2.Vz ?l ?c ?k⟩;(case n=>k_is);(case i=>k_is);(case l=>k_is);(case c=>k_is);(case k=>k_is))
