import PyProof.Rows.All
import Wide.All
import OpenK.AllK
import Wide.FinOn
import Lean
import PyProof.EqAt
import PyProof.EqKinds
import PyProof.TupleCall
import PySem.Challenge.RW_shareparley_k45_whole_calm
import KE.IntBitsLaws
import OpenK.KEqL
import KE.LcSums
import KE.KTupSum
import PyProof.Rows.EqDataRows
import PyProof.EnumMake
import PyProof.Rows.Range3
import PyProof.Rows.SortShell
import PyProof.Rows.SortWalk
import PyProof.ListRange
import KE.KSortTup
import KE.KDictOf
import KE.KMinKey
import KE.KDictList
import PyProof.Rows.SetFrom
import PyProof.SetScanFacts
import KE.KRevIter
set_option compiler.extract_closed false
set_option autoImplicit true
local macro_rules|`(tactic|exists $es,*)=>`(tactic|refine ⟨$es,*, ?_⟩)
open List renaming length_map->qAa,getElem?_eq_getElem->qAc,getD_eq_getElem?_getD->qAf,length_append->qAj,range->qAk,getElem?_map->qAn,map_append->qAr,length_range->qAu,getElem?_eq_none->qAv,size_toArray->qAw,mem_of_getElem?->qAx,getElem?_append_left->qAy,getElem?_append_right->qAz,mem_append_right->qBa,length_singleton->qBf,replicate->qBk,range_succ->qBm,length_cons->qBq,mem_cons_of_mem->qBr,filterMap_append->qBx,mem_append_left->qCb,filterMap_cons->qCh,mem_cons_self->qCi,cons_append->qCj,nil_append->qCl,map_map->qCn,getElem_of_mem->qCv,getElem?_range->qCw,map_cons->qCz,getElem_mem->qDa,not_mem_nil->qDe,filterMap_eq_map'->qDo,append_nil->qDp,filter_cons->qDw,replicate_succ->qEb,mem_cons->qEd,take_length->qEg,length_take->qEh,ext_getElem?->qEn,length_drop->qEt,map_nil->qEv,length_filter_le->qEw,take_add_one->qEy,length_filterMap_le->qEz,take_of_length_le->qFa,sum_append->qFf,find?_cons->qFg,flatten_cons->qFj,length_pos_of_mem->qGc,mem_map->qGi,filterMap_eq_map->qGj,getElem_map->qGm,eq_nil_of_length_eq_zero->qGn,sum_cons->qGs,dropLast_concat_getLast->qGt,of_mem_zip->qGw,lookup->qGx,getElem?_drop->qHh,filter_append->qHi,getElem?_take_of_lt->qHq,getElem?_set->qHr,foldl_append->qHs,append_assoc->qHt,set->qHv,any_cons->qHw,range_succ_eq_map->qIa,pairwise_lt_range->qIb,length_set->qIf,length_replicate->qIg,filter_nil->qIh,nodup_nil->qIu,map_congr_left->qIw,mem_singleton->qJg,map_filterMap->qJh,getElem_range->qJi,filterMap_nil->qJj,filterMap_map->qJk,lookup_cons->qJy,ext_getElem->qJz,all_eq_true->qKa,zip_append->qKs,mem_filter->qKt,length_nil->qKu,length_eraseIdx_of_lt->qKz,length_erase_of_mem->qLi,map_take->qLm,map_drop->qLn,getElem?_set_self->qLs,sum_nil->qMa,map_set->qMb,getElem?_toArray->qMc,filterMap_filter->qMd,mem_of_mem_take->qMl,mem_erase_of_ne->qMm,length_dropLast->qMn,getElem?_set_ne->qMo,length->qMv,getElem?_take->qNh,pairwise_map->qNr,foldl->qNs,filter_congr->qNt,range'_succ->qOa,drop_length->qOb,drop_zero->qOq,all_cons->qPa,all_map->qPl
open PySem renaming wpAny_bind->qAb,wpAny_pure->qAe,sizeLine->qAi,Value->qAl,Shared->qAp,wpAny->qBj,mainGlobals->qBl,starEach->qBt,Program->qBy,model->qBz,sizeLine_eq->qCc,wpAny_newObj_type->qCk,FuncData->qCo,bootBuiltins->qCq,World->qDg,Around->qDl,wpAny_holding->qDm,wpAny_truthy_bool->qDu,wpAny_call_entry->qEc,compareOp->qEf,wpAny_callSpecial?_slot->qEr,binaryOp->qFc,wpAny_typeNameOfWhole_keyiter->qFe,wpAny_passesOwn->qFl,codeAny_builtin->qFm,wpAny_setState_of->qFo,sysModules->qFp,foldedSetIterable->qFq,wpAny_setField->qFt,scanBound->qFu,wpAny_askSetting->qFw,intKind->qFz,wpAny_typeNameOf_keyiter->qGa,codeAny_mono->qGb,wpAny_Call_Name_kw->qGf,attributeBase->qGg,PyData->qGo,wpAny_rule->qGq,wpAny_of_eq->qGr,SetTable->qGu,backTo->qHf,wpAny_attempt->qHj,wpAny_mono->qHl,call_meets->qHm,sliceBounds->qHo,codeAny->qHp,wpAny_typeOf->qHx,wpAny_pyIter_list->qIc,wpAny_standAt->qIn,plainId_quiet->qIo,getItem->qIp,wpAny_execs_nil->qJa,relabel->qJb,pyNext->qJc,letOwnedTupleGo->qJd,wpAny_call->qJl,assignEach->qJm,wpAny_fieldsOf->qJo,rawInt->qJp,firstArgMember->qJq,Scope->qJv,swapsWith->qKk,relayAll->qKl,pickOrder->qKm,comprehension->qKn,cellsFrom->qKo,behindInMarks->qKp,assign->qKq,IsPart->qLg,NameKind->qLp,valueAt->qLt,tupleKind->qLu,subscripted->qLv,holding->qLw,callerA->qLx,cLine->qMr,typeLookup->qMy,setsByText->qMz,pyIter->qNa,closureFor->qNb,setNext->qNl,bindArgs->qNm,again->qNn,ElemsOf->qNo,BindsTo->qNp,inplaceOp->qOf,spliced->qOt,plain->qOu,newList->qOv,atKey->qOw,Keyword->qOx,typeOf->qPe,compPost->qPf,bindName->qPg,GenState->qPh,bindL->qPn,bindC->qPo,newExc->qQc,isTrue->qQd,Result->qQe
open PySem.W renaming Frag->qAd,findIn->qBe,mg_none_of->qBv,nsIn->qBw,keepIn->qDb,fnOf->qDq,emptyDict->qDr,mroIn->qDz,codeIn->qEa,mg_of->qEj,excIn->qEk,instObj->qEl,isFn->qFb,specialIn->qFd,takesIn->qFr,Looks->qFs,plainGet->qGd,looks_findIn->qGh,callWith_K->qGv,kitOne->qGz,hasDictIn->qHg,typeIn->qId,lookIn->qIe,plainGet_of->qIi,plainOver->qIx,methodObj->qIy,takerIn->qJr,makesIn->qJs,hideAll->qJt,clsIn->qKy,cellsFrom_some->qLe,looks_mroIn->qLq,hideAll_get->qLr,of_hideAll->qLy,kitx_list->qMf,kitx_dict->qMg,kdl_call->qMs,handedIn->qMt,OpenLaw->qNc,WalkO->qNw,KitX->qOh
open Nat renaming le_refl->qAg,lt_or_ge->qAm,le_of_lt->qAo,lt_of_lt_of_le->qBc,ne_of_lt->qBg,pow_le_pow_right->qBh,zero_le->qBn,lt_of_le_of_lt->qBp,le_trans->qCy,le_antisymm->qDc,lt_irrefl->qDk,eq_zero_or_pos->qEx,le_succ->qFi,not_lt_zero->qFx,ne_of_gt->qGk,lt_succ_self->qGp,two_pow_pos->qHa,lt_succ_of_lt->qHu,pow_succ->qIk,le_of_eq->qIl,gcd->qIm,pow_lt_pow_right->qIt,one_mul->qIz,le_of_dvd->qJn,add_comm->qJx,le_add_right->qKg,gcd_dvd_left->qKh,eq_of_mul_eq_mul_left->qLh,le_mul_of_pos_left->qLz,sub_zero->qMi,sub_self->qMj,mul_comm->qMk,mul_le_mul_right->qMu,sub_lt_sub_left->qNf,add_mul->qNg,pos_of_ne_zero->qNq,mul_left_comm->qNx,mod_lt->qNy,gcd_dvd_right->qNz,succ_ne_self->qOi,succ_le_succ->qOj,mod_eq_of_lt->qOk,min_eq_right->qOl,div_eq_of_lt->qOm,min_eq_left->qOp,mul_le_mul->qOz,mul_assoc->qPk,succ_pos->qPq,lt_trans->qPr,le_total->qPs,gcd_comm->qPt,pow_add->qPv,mul_one->qPw
open PySem.Heap renaming get?_push_of_some->qAh,lt_size->qAs,get?_push_size->qAt,get?_update_self->qDh,size_push->qDj,get?_update_other->qDy,SameBut->qFh,get?_none_of_le->qIr,ExtBut->qKw,MadeExcOf->qOs
open Bool renaming false_ne_true->qAq,and_eq_true->qCd,false_eq_true->qFv,false_and->qGe,eq_iff_iff->qGy,and_false->qIv,not_eq_true->qKe,not_true->qPc
open Int renaming toNat_natCast->qBb,zero_mul->qBi,gcd->qBs,mul_zero->qBu,zero_add->qCe,le_of_lt->qCf,one_mul->qCm,mul_fdiv_cancel_left->qCp,mul_le_mul_of_nonneg_left->qCs,mul_comm->qCt,toNat_of_nonneg->qCx,mul_le_mul_of_nonneg_right->qDd,le_refl->qDi,add_zero->qDn,natAbs_mul->qDv,le_of_dvd->qEe,emod_lt_of_pos->qEi,mul_assoc->qEm,mul_nonneg->qEo,mul_lt_mul_of_pos_right->qEp,emod_nonneg->qEq,eq_of_mul_eq_mul_right->qEu,fdiv_eq_ediv_of_nonneg->qFk,eq_of_mul_eq_mul_left->qFn,eq_ofNat_of_zero_le->qFy,le_of_eq->qGl,mul_pos->qHb,mul_one->qHc,gcd_pos_of_ne_zero_left->qHd,lt_or_le->qHk,gcd_dvd_right->qJu,nonneg_of_mul_nonneg_right->qKb,le_trans->qKc,fdiv_one->qKd,gcd_dvd_left->qKi,gcd_pos_of_ne_zero_right->qKv,neg_mul_neg->qLa,mul_ne_zero->qLb,le_of_mul_le_mul_right->qLf,natAbs_neg->qLj,natAbs_fdiv_le_natAbs->qLk,lt_of_mul_lt_mul_left->qLl,natAbs_dvd_natAbs->qMp,gcd_comm->qMq,mul_neg->qNi,mul_ediv_cancel->qNj,natAbs_natCast->qNu,lt_or_eq_of_le->qNv,natAbs_add_le->qOc,mul_left_comm->qOd,lt_trichotomy->qOe,gcd_mul_left->qOn,dvd_mul_left->qOo,natCast_add->qOr,mul_le_mul->qPb,fdiv_self->qPm,sub_zero->qPu,sub_mul->qPx,one_dvd->qPy,neg_mul->qPz,mul_add->qQa,gcd_one->qQb
open Classical renaming byContradiction->qBd
open Array renaming getElem?_eq_getElem->qBo,length_toList->qCa,getElem?_toList->qDf,getElem?_eq_none->qDx,getElem?_extract->qLo,size_extract->qMw,append_assoc->qMx,toList_push->qNk,toList->qPd
open PyProof.Rows renaming callWith_type1->qCg,slot_tuple_getitem->qEs,callWith_builtin1->qIj,firstMet->qJw,IntsAre->qPp
open PySem.F renaming plainAttrs_list->qCr,type_list_append->qDs,slot_list_append->qDt,plain_extend_loop->qKf,slot_dict_values->qKr
open PySem.Builtin renaming bitAnd->qCu,bitXor->qKj,bitOr->qLc
open PySem.Calls renaming spliced_cons->qHe,spliced_nil->qHn,callWith_builtin->qHy,Name_function_global->qKx,evalArgs_plain->qMe
open PyProof.Rows renaming IntsAre->qHz,firstMet->qIq,kindOf->qIs,envOfC->qJe,AllBare->qJf,step_dedup->qLd,Call_->qOg,seqObj->qPi
open Option renaming isSome_some->qMh,getD_some->qNd,getD_none->qNe,none->qOy,map->qPj
theorem bN{α:Sort _}{a:α}{b:Prop}:a=a\/b:=.inl rfl
set_option Elab.async false
set_option linter.all false
set_option maxRecDepth 100000
local macro_rules
| `(#[0])=>`(by rfl)
| `(#[1])=>`(by decide)
| `(#[2])=>`(by decide +kernel)
| `(#[3])=>`(by first|exact .inl rfl|exact .inr rfl)
| `(#[6])=>`(fun _ _=>rfl)
| `(#[7])=>`(by with_unfolding_all rfl)
| `(#[8,$l])=>`(show (($l):List PySem.Str).Nodup from by decide +kernel)
| `(#[9])=>`(PySem.PassesOwn.never)
namespace L2
open PySem PySem.Spec PyProof.Rows
theorem kE:1<=qAi:=by decide
theorem qE:2<=qAi:=by decide
theorem OF:3<=qAi:=by decide
abbrev Key:=Sum Int Str
noncomputable def oR:Key->qAl->Bool
 | .inl k,v=>Value.isInt k v
 | .inr x,v=>Value.isStrOf x v
noncomputable def OO(w:qDg):Key->Int
 | .inl k=>hashInt k
 | .inr x=>hashStr w x
theorem cP:∀{k:Key}{v:qAl},oR k v=true->(∃i t,k=Sum.inl i/\v=Value.int i t)\/(∃x t,k=Sum.inr x/\v=Value.str x t)
 | .inl i,v,h=>by
  obtain⟨t,e⟩:=Value.isInt_shape (k:=i) (v:=v) h;exact .inl ⟨i,t,rfl,e⟩
 | .inr x,v,h=>by
  obtain⟨t,e⟩:=Value.isStrOf_shape (x:=x) (v:=v) h;exact .inr ⟨x,t,rfl,e⟩
theorem AO(i:Int)(t:Tok):oR (.inl i) (.int i t)=true:=by simp[oR,Value.isInt]
theorem AQ(x:Str)(t:Tok):oR (.inr x) (.str x t)=true:=by simp[oR,Value.isStrOf]
theorem Il(a b:Int):decide ((Sum.inl a:Key)=Sum.inl b)=(a == b):=by
 by_cases e:a=b
 .subst e;simp
 .have h:¬(Sum.inl a:Key)=Sum.inl b:=fun q=>e (Sum.inl.inj q);rw[decide_eq_false h];exact(beq_eq_false_iff_ne.mpr e).symm
theorem Io(a b:Str):decide ((Sum.inr a:Key)=Sum.inr b)=decide (a=b):=by
 by_cases e:a=b
 .subst e;simp
 .have h:¬(Sum.inr a:Key)=Sum.inr b:=fun q=>e (Sum.inr.inj q);rw[decide_eq_false h,decide_eq_false e]
theorem Ip(a:Int)(b:Str):decide ((Sum.inl a:Key)=Sum.inr b)=false:=decide_eq_false (fun q=>nomatch q)
theorem Iq(a:Str)(b:Int):decide ((Sum.inr a:Key)=Sum.inl b)=false:=decide_eq_false (fun q=>nomatch q)
noncomputable def cD(prog:qBy)(w:qDg):PySem.KeyKind prog w Key where
 is:=oR
 hash:=OO w
 inj:=fun v a b ha hb=>by
  rcases cP ha with ⟨i,t,rfl,rfl⟩ | ⟨x,t,rfl,rfl⟩
  .rcases cP hb with ⟨j,u,rfl,e⟩ | ⟨y,u,rfl,e⟩
   .injection e with e1 _;rw[e1]
   .exact nomatch e
  .rcases cP hb with ⟨j,u,rfl,e⟩ | ⟨y,u,rfl,e⟩
   .exact nomatch e
   .injection e with e1 _;rw[e1]
 byValue:=fun k v h=>by
  rcases cP h with ⟨i,t,rfl,rfl⟩ | ⟨x,t,rfl,rfl⟩ <;> rfl
 pyHash:=fun hv h=>by
  rcases cP hv with ⟨i,t,rfl,rfl⟩ | ⟨x,t,rfl,rfl⟩
  .exact wpAny_pyHash_int h
  .exact wpAny_pyHash_str h
 eqBool:=fun hu hv h=>by
  rcases cP hu with ⟨i,t,rfl,rfl⟩ | ⟨x,t,rfl,rfl⟩
  .rcases cP hv with ⟨j,u,rfl,rfl⟩ | ⟨y,u,rfl,rfl⟩
   .rw[Il] at h;exact wpAny_eqBool_int h
   .rw[Ip] at h;exact SeqAt.EqAt.int_str i t y u _ _ _ _ h
  .rcases cP hv with ⟨j,u,rfl,rfl⟩ | ⟨y,u,rfl,rfl⟩
   .rw[Iq] at h;exact SeqAt.EqAt.str_int x t j u _ _ _ _ h
   .rw[Io] at h;exact wpAny_eqBool_str h
 «strs»:=fun k x t v h=>by
  rcases cP h with ⟨i,u,rfl,e⟩ | ⟨y,u,rfl,e⟩
  .exact nomatch e
  .injection e with e1 _
   subst e1;cases v <;> rfl
theorem uJ(prog:qBy)(w:qDg)(i:Int)(t:Tok):(cD prog w).is (.inl i) (.int i t)=true:=AO i t
theorem uK(prog:qBy)(w:qDg)(x:Str)(t:Tok):(cD prog w).is (.inr x) (.str x t)=true:=AQ x t
inductive V where
 | non | bl (b:Bool) | int (i:Int) | str (x:Str) | byt (b:Array UInt8) | flt (b:UInt64) | ref (a:Addr) | ty (n:String)
 deriving DecidableEq
def RelV:V->qAl->Prop
 | .non,u=>u=Value.none
 | .bl b,u=>u=Value.bool b
 | .int i,u=>∃t,u=Value.int i t
 | .str x,u=>∃t,u=Value.str x t
 | .byt b,u=>∃t,u=Value.bytes b t
 | .flt b,u=>∃t,u=Value.float b t
 | .ref a,u=>u=Value.ref a
 | .ty n,u=>u=Value.type n
abbrev Vals:List V->List qAl->Prop:=Paired RelV
theorem Vals.length(r:Vals xs us):xs.length=us.length:=Paired.length r
theorem Vals.get:∀{xs:List V}{us:List qAl}{i:Nat}{x:V},Vals xs us->xs[i]?=some x->∃u,us[i]?=some u/\RelV x u
 | _,_,_,_,.nil,e=>by simp at e
 | _,_,0,_,.cons r _,e=>by simp at e;subst e;exact⟨_,rfl,r⟩
 | _,_,i+1,x,.cons _ t,e=>by
  obtain⟨u,h1,h2⟩:=Vals.get (i:=i) (x:=x) t (by simpa using e);exact⟨u,by simpa using h1,h2⟩
theorem Vals.set(r:RelV x u):∀{xs:List V}{us:List qAl} (i:Nat),Vals xs us->Vals (xs.set i x) (us.set i u)
 | _,_,_,.nil=>.nil
 | _,_,0,.cons _ t=>.cons r t
 | _,_,i+1,.cons q t=>.cons q (Vals.set r i t)
theorem Vals.append:∀{xs ys:List V}{us ws:List qAl},Vals xs us->Vals ys ws->Vals (xs++ys) (us++ws)
 | _,_,_,_,.nil,s=>s
 | _,_,_,_,.cons r t,s=>.cons r (Vals.append t s)
theorem Vals.take:∀{xs:List V}{us:List qAl} (n:Nat),Vals xs us->Vals (xs.take n) (us.take n)
 | _,_,0,_=>.nil
 | _,_,_+1,.nil=>.nil
 | _,_,n+1,.cons r t=>.cons r (Vals.take n t)
theorem Vals.drop:∀{xs:List V}{us:List qAl} (n:Nat),Vals xs us->Vals (xs.drop n) (us.drop n)
 | _,_,0,r=>r
 | _,_,_+1,.nil=>.nil
 | _,_,n+1,.cons _ t=>Vals.drop n t
def kF:Option V->Option qAl->Prop
 | some v,some u=>RelV v u
 | none,none=>True
 | _,_=>False
def KV{κ:Type}:List (κ×V)->List (κ×qAl)->Prop:=Paired fun(p:κ×V) (q:κ×qAl)=>p.1=q.1/\RelV p.2 q.2
noncomputable def kV:Key->V
 | .inl i=>.int i
 | .inr x=>.str x
inductive HO where
 | lst (xs:List V)
 | tup (xs:List V)
 | dK (kvs:List (Key×V)) | dT (kvs:List (List Key×V))
 | set (S:Int->Bool) (n:Nat)
 | ins (C dx:Addr) (fs:List (Str×V))
 | own (x:Addr)
 | xd (fs:List (Str×V))
 | met (f x:Addr)
 | rng (lo hi:Int)
 | frz (o:Obj) (u:HO)
 | tbl (ps:Array qAl)
 | ext (φ:Heap->Prop)
abbrev Hp:=Addr->Option HO
noncomputable def upd(H:Hp)(a:Addr)(o:HO):Hp:=fun b=>if b=a then some o else H b
theorem aD:upd H a o a=some o:=by delta upd;rw[if_pos rfl]
theorem aR(h:b≠a):upd H a o b=H b:=by delta upd;rw[if_neg h]
theorem Fe:upd (upd H a o) a u=upd H a u:=by
 funext b;delta upd;split <;> rfl
theorem kJ{H:Hp}{a b:Addr}{o u:HO}(h:H a=some o)(h':H b=some u)(d:o≠u):a≠b:=by
 intro e;subst e;rw[h] at h';exact d (Option.some.inj h')
theorem bE{H:Hp}{a b:Addr}{o:HO}(h:H a=some o)(h':H b=none):a≠b:=by
 intro e;subst e;rw[h] at h';cases h'
section
variable (P:qBy) (w:qDg)
def cU(H:Hp)(h:Heap)(a:Addr):HO->Prop
 | .lst xs=>xs.length<=qAi/\∃(its:List qAl) (n:Nat),Vals xs its/\h.get? a=some { cls:=.type "list",data:=.seq its.toArray n }
 | .tup xs=>xs.length<=qAi/\∃its:List qAl,Vals xs its/\IsTup h a its.toArray
 | .dK kvs=>kvs.length<=qAi/\(a == qFp)=false/\∃vs,KV kvs vs/\h.DictOf (cD P w) a vs
 | .dT kvs=>kvs.length<=qAi/\(a == qFp)=false/\∃xs:List (List Key×Addr×qAl),
   Paired (fun(p:List Key×V) (q:List Key×Addr×qAl)=>p.1=q.1/\H q.2.1=some (.tup (p.1.map kV))/\RelV p.2 q.2.2) kvs xs /\
   ∃o es ep,h.get? a=some o/\o.ExactDict/\o.data = .dict es ep/\es.toList=xs.map (entryOfKey (qLu (cD P w)))/\(xs.map (·.1)).Nodup
 | .set S n=>h.SetOf (qFz P w) a S n
 | .ins C dx fs=>H dx=some (.own a)/\fs.length<=1000/\dx≠a/\h.get? a=some (qEl C dx) /\
   ∃mA,h.Ns1 dx mA/\(∀f,kF (fs.lookup f) (mA f))/\PySem.Within mA (fs.map (·.1))
 | .own _=>∃o,h.get? a=some o
 | .xd fs=>∃mA,h.Ns1 a mA/\∀f,kF (fs.lookup f) (mA f)
 | .rng lo hi=>∃t u v,h.get? a=some { cls:=.type "range",data:=.fields #[.int lo t,.int hi u,.int 1 v] }
 | .frz o u=>h.get? a=some o/\cU H h a u
 | .tbl ps=>h.get? a=some { cls:=.none,data:=.fields ps }
 | .met f x=>h.get? a=some (qIy (.ref f) (.ref x))
 | .ext φ=>φ h/\(∃o,h.get? a=some o)/\∀h1 h2:Heap,φ h1->(∀o,h1.get? a=some o->h2.get? a=some o)->φ h2
def kK(H:Hp)(h:Heap):Prop:=∀a o,H a=some o->cU P w H h a o
end
section
variable {P:qBy}{w:qDg}{H H':Hp}{h h':Heap}{a:Addr}{o:HO}
theorem cU.lt(x:cU P w H h a o):a<h.objs.size:=by
 cases o with
 | lst xs=>obtain⟨_,_,_,_,e⟩:=x;exact qAs e
 | tup xs=>obtain⟨_,_,_,p⟩:=x;exact p.lt
 | dK kvs=>obtain⟨_,_,_,_,o,_,_,e,_⟩:=x;exact qAs e
 | dT kvs=>obtain⟨_,_,_,_,o,_,_,e,_⟩:=x;exact qAs e
 | set S n=>obtain⟨o,_,_,_,e,_⟩:=x;exact qAs e
 | ins C dx fs=>obtain⟨_,_,_,e,_⟩:=x;exact qAs e
 | own y=>obtain⟨_,e⟩:=x;exact qAs e
 | xd fs=>obtain⟨_,⟨_,_,_,e,_⟩,_⟩:=x;exact qAs e
 | rng lo hi=>obtain⟨_,_,_,e⟩:=x;exact qAs e
 | frz ob u=>obtain⟨e,_⟩:=x;exact qAs e
 | tbl ps=>exact qAs (show h.get? a=some _ from x)
 | met f y=>exact qAs (show h.get? a=some _ from x)
 | ext φ=>obtain⟨_,⟨_,e⟩,_⟩:=x;exact qAs e
theorem Paired.Ir:∀{l₁:List α}{l₂:List β},Paired F l₁ l₂->(∀a b,F a b->G a b)->Paired G l₁ l₂
 | _,_,.nil,_=>.nil
 | _,_,.cons r t,f=>.cons (f _ _ r) (Paired.Ir t f)
theorem cU.uL(x:cU P w H h a o)(k:∀b u,(b=a\/H b=some (.own a))->h.get? b=some u->h'.get? b=some u)
  (ho:∀b,H b=some (.own a)->H' b=some (.own a)) (ht:∀b xs,H b=some (.tup xs)->H' b=some (.tup xs)):cU P w H' h' a o:=by
 induction o with
 | lst xs=>obtain⟨z,its,n,r,e⟩:=x;exact⟨z,its,n,r,k _ _ (.inl rfl) e⟩
 | tup xs=>obtain⟨z,its,r,ob,e,c⟩:=x;exact⟨z,its,r,ob,k _ _ (.inl rfl) e,c⟩
 | dK kvs=>obtain⟨z,y,vs,r,ob,es,ep,e,c⟩:=x;exact⟨z,y,vs,r,ob,es,ep,k _ _ (.inl rfl) e,c⟩
 | dT kvs =>
  obtain⟨z,y,xs,r,ob,es,ep,e,c⟩:=x;exact⟨z,y,xs,Paired.Ir r fun p q z=>⟨z.1,ht _ _ z.2.1,z.2.2⟩,ob,es,ep,k _ _ (.inl rfl) e,c⟩
 | set S n=>obtain⟨ob,es,ep,t,e,c⟩:=x;exact⟨ob,es,ep,t,k _ _ (.inl rfl) e,c⟩
 | ins C dx fs =>
  obtain⟨d,z,ne,e,mA,⟨od,es,ep,e2,c⟩,r⟩:=x;exact⟨ho _ d,z,ne,k _ _ (.inl rfl) e,mA,⟨od,es,ep,k _ _ (.inr d) e2,c⟩,r⟩
 | own y=>obtain⟨ob,e⟩:=x;exact⟨ob,k _ _ (.inl rfl) e⟩
 | xd fs=>obtain⟨mA,⟨od,es,ep,e,c⟩,r⟩:=x;exact⟨mA,⟨od,es,ep,k _ _ (.inl rfl) e,c⟩,r⟩
 | rng lo hi=>obtain⟨t,u,v,e⟩:=x;exact⟨t,u,v,k _ _ (.inl rfl) e⟩
 | frz ob u ih=>obtain⟨e,q⟩:=x;exact⟨k _ _ (.inl rfl) e,ih q⟩
 | tbl ps =>
  have e:h.get? a=some { cls:=.none,data:=.fields ps }:=x;show h'.get? a=some { cls:=.none,data:=.fields ps };exact k a _ (.inl rfl) e
 | met f y =>
  have e:h.get? a=some (qIy (.ref f) (.ref y)):=x;show h'.get? a=some (qIy (.ref f) (.ref y));exact k a _ (.inl rfl) e
 | ext φ=>obtain⟨p,⟨o,e⟩,st⟩:=x;exact⟨st _ _ p fun o q=>k _ _ (.inl rfl) q,⟨o,k _ _ (.inl rfl) e⟩,st⟩
theorem kK.lt(x:kK P w H h)(e:H a=some o):a<h.objs.size:=(x a o e).lt
theorem kK.fresh(x:kK P w H h)(e:h.objs.size<=a):H a=none:=by
 cases q:H a with
 | none=>rfl
 | some u=>exact absurd (qBc (x.lt q) e) (qDk _)
theorem kK.kept(x:kK P w H h)(k:∀b u,h.get? b=some u->h'.get? b=some u):kK P w H h':=fun a o e =>
 (x a o e).uL (fun b u _ q=>k b u q) (fun _ q=>q) fun _ _ q=>q
theorem kK.laid(x:kK P w H h)(k:∀b u,h.get? b=some u->h'.get? b=some u)(hp:h.objs.size<=a)(new:cU P w (upd H a o) h' a o):kK P w (upd H a o) h':=fun b u e=>by
 have hn:=x.fresh hp;by_cases hb:b=a
 .subst hb;rw[aD] at e;cases e;exact new
 .rw[aR hb] at e;exact(x b u e).uL (fun c v _ q=>k c v q) (fun c q=>by rw[aR (bE q hn)];exact q) fun c xs q=>by rw[aR (bE q hn)];exact q
end
def Rd(H:Hp)(a:Addr)(u:HO):Prop:=H a=some u\/∃o,H a=some (.frz o u)
theorem Rd.ok(r:Rd H a u)(x:kK P w H h):cU P w H h a u:=by
 rcases r with r | ⟨o,r⟩
 .exact x a u r
 .obtain⟨_,q⟩:=x a _ r;exact q
def MJ:Option HO->Prop
 | some (.lst _)=>True
 | some (.dK _)=>True
 | some (.dT _)=>True
 | some (.set _ _)=>True
 | some (.ins _ _ _)=>True
 | some (.ext _)=>True
 | _=>False
section
variable {P:qBy}{w:qDg}{H:Hp}{h h':Heap}{x e:Addr}{o':HO}
theorem kK.write(ok:kK P w H h)(mu:MJ (H x))(he:e=x\/H e=some (.own x))(k:∀b u,b≠e->h.get? b=some u->h'.get? b=some u)(heo:∃u,h'.get? e=some u)
  (new:cU P w (upd H x o') h' x o'):kK P w (upd H x o') h':=fun b u q=>by
 have nown:∀c y,H c=some (.own y)->c≠x:=fun c y r z=>by subst z;rw[r] at mu;exact mu
 have ntup:∀c xs,H c=some (.tup xs)->c≠x:=fun c xs r z=>by subst z;rw[r] at mu;exact mu
 by_cases hb:b=x
 .subst hb;rw[aD] at q;cases q;exact new
 .rw[aR hb] at q;by_cases hbe:b=e
  .have q':H b=some (.own x):=by
    rcases he with z | z
    .exact absurd (hbe.trans z) hb
    .rw[hbe];exact z
   rw[q] at q';cases q';obtain⟨v,hv⟩:=heo;exact⟨v,by rw[hbe];exact hv⟩
  .refine(ok b u q).uL (fun c v hc r=>k c v ?_ r) (fun c r=>by rw[aR (nown c b r)];exact r) fun c xs r=>by rw[aR (ntup c xs r)];exact r
   rcases hc with rfl | hc
   .exact hbe
   .rintro rfl;rcases he with z | z
    .exact nown c b hc z
    .rw[hc] at z;cases z;exact hb rfl
end
structure Un (fs ex:List Addr) (H H':Hp) (h h':Heap):Prop where
 keep:∀b o,h.get? b=some o->H b=none->b∉fs->b∉ex->h'.get? b=some o
 slot:∀b o,h.get? b=some o->H b=none->b∈fs->b∉ex->∃sl,h'.get? b=some { o with slots:=sl }
 free:∀b o,h.get? b=some o->H b=none->b∉ex->H' b=none
 there:∀b o,h.get? b=some o->b∉ex->∃o',h'.get? b=some o'
 mQ:∀b xs,H b=some (.tup xs)->H' b=some (.tup xs)
 lA:∀b o u,H b=some (.frz o u)->H' b=some (.frz o u)
 mR:∀b ps,H b=some (.tbl ps)->∃more,H' b=some (.tbl (ps++more))
section
variable {fs fs' ex ex':List Addr}{H H1 H2:Hp}{h h1 h2 h':Heap}{a x e:Addr}{o:HO}
theorem Un.any(u:Un fs ex H H1 h h1){b:Addr}{ob:Obj}(q:h.get? b=some ob)(n:H b=none)(hx:b∉ex):∃sl,h1.get? b=some { ob with slots:=sl }:=by
 by_cases hb:b∈fs
 .exact u.slot b ob q n hb hx
 .exact⟨ob.slots,u.keep b ob q n hb hx⟩
theorem Un.kept(k:∀b u,h.get? b=some u->h'.get? b=some u):Un fs ex H H h h' :=
 ⟨fun b ob q _ _ _=>k b ob q,fun b ob q _ _ _=>⟨ob.slots,k b ob q⟩,fun _ _ _ n _=>n,fun b ob q _=>⟨ob,k b ob q⟩,fun _ _ q=>q,fun _ _ _ q=>q,fun _ ps q=>⟨#[],by rw[q];simp⟩⟩
theorem Un.refl:Un fs ex H H h h:=Un.kept fun _ _ q=>q
theorem Un.laid(k:∀b u,h.get? b=some u->h'.get? b=some u)(hp:h.objs.size<=a)(hn:H a=none):Un fs ex H (upd H a o) h h' where
 keep:=fun b u q _ _ _=>k b u q
 slot:=fun b u q _ _ _=>⟨u.slots,k b u q⟩
 free:=fun b u q n _=>by rw[aR (qBg (qBc (qAs q) hp))];exact n
 there:=fun b u q _=>⟨u,k b u q⟩
 mQ:=fun b xs q=>by rw[aR (bE q hn)];exact q
 lA:=fun b u xs q=>by rw[aR (bE q hn)];exact q
 mR:=fun b ps q=>⟨#[],by rw[aR (bE q hn),q];simp⟩
theorem Un.write(mu:MJ (H x))(he:e=x\/H e=some (.own x))(k:∀b u,b≠e->h.get? b=some u->h'.get? b=some u)(heo:∃u,h'.get? e=some u):Un fs ex H (upd H x o) h h':=by
 have hx:∀b,H b=none->b≠x:=fun b n z=>by subst z;rw[n] at mu;exact mu
 have hb:∀b,H b=none->b≠e:=fun b n z=>by
  subst z;rcases he with r | r
  .exact hx b n r
  .rw[n] at r;cases r
 have hm:∀b u,H b=some u->¬MJ (some u)->b≠x:=fun b u q nm z=>by subst z;rw[q] at mu;exact nm mu
 refine⟨fun b u q n _ _=>k b u (hb b n) q,fun b u q n _ _=>⟨u.slots,k b u (hb b n) q⟩,fun b u q n _=>by rw[aR (hx b n)];exact n,fun b u q _=>?_,
  fun b xs q=>by rw[aR (hm b _ q fun z=>z)];exact q,fun b u xs q=>by rw[aR (hm b _ q fun z=>z)];exact q,fun b ps q=>⟨#[],by rw[aR (hm b _ q fun z=>z),q];simp⟩⟩
 by_cases hbe:b=e
 .subst hbe;exact heo
 .exact⟨u,k b u hbe q⟩
end
noncomputable def OG(h:Heap)(H:Hp):List Addr:=(qAk h.objs.size).filter fun a=>(H a).isSome
noncomputable def sC(h:Heap)(H:Hp):Heap:=qJt h (OG h H)
theorem AR(h:Heap)(H:Hp):(sC h H).objs.size=h.objs.size:=PySem.W.hideAll_size _ _
theorem Ca(e:h.get? b=some o)(n:H b=none):(sC h H).get? b=some o :=
 qLr _ e fun hm=>by
  have q:(H b).isSome=true:=(List.mem_filter.mp hm).2;rw[n] at q;simp at q
theorem Ff(e:(sC h H).get? b=some o):h.get? b=some o/\H b=none:=by
 have e':h.get? b=some o:=qLy (OG h H) e;exists e';cases q:H b with
 | none=>rfl
 | some x =>
  have hm:b∈OG h H:=List.mem_filter.mpr ⟨List.mem_range.mpr (qAs e'),by simp[q]⟩;have z:(sC h H).get? b=none:=PySem.W.hideAll_none (OG h H) hm;rw[z] at e;cases e
structure Mod (K:qAd) (mg:Str->Option qAl) (base:Heap):Prop where
 Iu:K.In base
 glob:base.Ns qBl mg
 blt:∃mb,base.Ns builtinsNs mb/\∀x:Str,x≠"__name__"->mb x=qCq x
 nolimit:base.NoLimit
set_option genInjectivity false in
structure Cx where
 prog:qBy
 w:qDg
 K:qAd
 mg:Str->Option qAl
 base:Heap
 A:qDl
 N:List Str
 s₀:qAp
 H₀:Hp
 env:Env
 outer:List Env
 stack:List Env
 ex:List Addr
 fn:Str->Bool
 calm:Bool
 pn:List (Addr×Obj)
 xe:qAl->qAp->Prop
noncomputable def oS(l:List Env):List Addr:=l.filterMap (·.frame)
noncomputable abbrev Cx.fs(X:Cx):List Addr:=oS X.outer
def OH(sc:qJv)(x:Str):Prop:=sc.names.lookup x=some .local\/sc.names.lookup x=some .cell\/sc.names.lookup x=some .free
def Loc(sc:qJv)(x:Str):Prop:=sc.names.lookup x=some .local\/sc.names.lookup x=some .cell
def Look(env:Env)(h:Heap)(m:Str->Option qAl)(x:Str)(u:qAl):Prop :=
 (env.kindOf x=some .local/\m x=some u)\/((env.kindOf x=some .cell\/env.kindOf x=some .free)/\∃c,env.cells.lookup x=some c/\h.IsCell c (some u))
structure Cx.Ok (X:Cx):Prop where
 mod:Mod X.K X.mg X.base
 kind:X.env.scope.kind = .function
 glob:X.env.globals=qBl
 blt:X.env.builtins=builtinsNs
 above:X.s₀.heap.objs.size<=X.env.locals
 inj:∀x y c,X.env.cells.lookup x=some c->X.env.cells.lookup y=some c->x=y
 has:∀x,(X.env.kindOf x=some .cell\/X.env.kindOf x=some .free)->∃c,X.env.cells.lookup x=some c
 MK:∀x c,X.fn x=true->X.env.cells.lookup x=some c->X.s₀.heap.objs.size<=c
 hd:X.calm=true->X.A.handled=none
 frames:X.A.frames=some X.stack
 OI:X.stack=X.outer\/(X.stack=X.env::X.outer/\X.env.frame=some X.env.locals)
 Qj:∀b∈X.ex,b≠X.env.locals/\∀x c,X.env.cells.lookup x=some c->c≠b
 bs:∀b o,X.base.get? b=some o->X.s₀.heap.get? b=some o/\X.H₀ b=none
 Fh:X.base.objs.size<=X.s₀.heap.objs.size
 AS:∀b o,X.base.get? b=some o->b∉X.ex
 Fi:∀b∈X.ex,b∉X.fs
 lB:X.s₀.heap.FunFrames X.base X.outer
 Iw:∀b∈X.fs,X.H₀ b=none
structure Inv (X:Cx) (pins:List (Addr×Obj)) (σ:List (Option V)) (H:Hp) (s:qAp):Prop where
 ok:X.Ok
 os:s.os=X.s₀.os
 bare:qJf s.gens
 base:Un X.fs X.ex X.H₀ H X.s₀.heap s.heap
 loc:∃m,s.heap.Ns X.env.locals m/\∀(i:Nat) (x:Str) (v:V),X.N[i]?=some x->σ[i]?=some (some v)->OH X.env.scope x->∃u,RelV v u/\Look X.env s.heap m x u
 cell:∀x c,X.env.cells.lookup x=some c->∃v,s.heap.IsCell c v
 free:H X.env.locals=none
 jF:∀x c,X.env.cells.lookup x=some c->H c=none
 pin:∀p∈X.pn++pins,s.heap.get? p.1=some p.2/\H p.1=none/\p.1≠X.env.locals/\p.1∉X.fs/\∀v,p.2.data≠.cell v
 cO:kK X.prog X.w H s.heap
 len:σ.length=X.N.length
section
variable {X:Cx}{pins:List (Addr×Obj)}{σ:List (Option V)}{H H':Hp}{s:qAp}{h':Heap}
theorem Cx.Ok.OP(ok:X.Ok){b:Addr}{o:Obj}(e:X.base.get? b=some o):b∉X.fs:=fun hb=>by
 have:=(ok.lB.mem hb).1;rw[e] at this;cases this
theorem Inv.bs(I:Inv X pins σ H s):∀b o,X.base.get? b=some o->s.heap.get? b=some o/\H b=none:=fun b o e =>
 ⟨I.base.keep b o (I.ok.bs b o e).1 (I.ok.bs b o e).2 (I.ok.OP e) (I.ok.AS b o e),I.base.free b o (I.ok.bs b o e).1 (I.ok.bs b o e).2 (I.ok.AS b o e)⟩
theorem Inv.bk(I:Inv X pins σ H s):∀b o,X.base.get? b=some o->s.heap.get? b=some o:=fun b o e=>(I.bs b o e).1
theorem Inv.mod(I:Inv X pins σ H s):Mod X.K X.mg X.base:=I.ok.mod
theorem Inv.w6(I:Inv X pins σ H s):X.K.In s.heap:=I.ok.mod.Iu.keeps I.bk
theorem Inv.lt(I:Inv X pins σ H s):X.env.locals<s.heap.objs.size:=let ⟨_,hn,_⟩:=I.loc;hn.lt
theorem Inv.sz(I:Inv X pins σ H s):X.s₀.heap.objs.size<=s.heap.objs.size:=qCy I.ok.above (qAo I.lt)
theorem Inv.Iy(I:Inv X pins σ H s){a:Addr}(h:s.heap.objs.size<=a):a∉X.fs:=fun hb=>by
 obtain⟨_,o,ho,_⟩:=I.ok.lB.mem hb;exact absurd (qBc (qAs ho) (qCy I.sz h)) (qDk _)
theorem Inv.Iz(I:Inv X pins σ H s):∀x c,X.env.cells.lookup x=some c->c≠X.env.locals:=fun x c e z=>by
 obtain⟨v,o,ho,hd⟩:=I.cell x c e;obtain⟨m,⟨o',es,ep,ho',hd',_⟩,_⟩:=I.loc;rw[z,ho'] at ho;cases ho;rw[hd'] at hd;cases hd
theorem Inv.lB(I:Inv X pins σ H s):s.heap.FunFrames X.base X.outer:=by
 have all:∀(l:List Env),(∀b∈oS l,b∈X.fs)->X.s₀.heap.FunFrames X.base l->s.heap.FunFrames X.base l:=by
  intro l;induction l with
  | nil=>intro _ _;trivial
  | cons env r ih =>
   intro hs hl;obtain⟨hk,⟨L,o,hf,hn,ho,hd⟩,hr⟩:=hl;have hL:L∈X.fs:=hs L (by delta oS;rw[qCh,hf];exact qCi);obtain⟨sl,e⟩:=I.base.slot L o ho (I.ok.Iw L hL) hL fun z=>I.ok.Fi L z hL;exact⟨hk,⟨L,_,hf,hn,e,hd⟩,ih (fun b hb=>hs b (by delta oS;rw[qCh,hf];exact qBr _ hb)) hr⟩
 exact all X.outer (fun _ hb=>hb) I.ok.lB
theorem Inv.stack(I:Inv X pins σ H s):s.heap.FunFrames X.base X.stack:=by
 rcases I.ok.OI with e | ⟨e,hf⟩
 .rw[e];exact I.lB
 .rw[e];obtain⟨m,hn,_⟩:=I.loc;refine .cons (by rw[I.ok.kind];decide) hf hn ?_ I.lB;exact qIr (qCy I.ok.Fh I.ok.above)
theorem Inv.kT(I:Inv X pins σ H s):∀b∈oS X.stack,b∈X.env.locals::X.fs:=fun b hb=>by
 rcases I.ok.OI with e | ⟨e,hf⟩
 .rw[e] at hb;exact qBr _ hb
 .rw[e] at hb;delta oS at hb;rw[qCh,hf] at hb;exact hb
theorem Inv.oC(I:Inv X pins σ H s):∀b∈oS X.stack,H b=none:=fun b hb=>by
 rcases List.mem_cons.mp (I.kT b hb) with e | hb
 .rw[e];exact I.free
 .obtain⟨_,o,ho,_⟩:=I.ok.lB.mem hb;exact I.base.free b o ho (I.ok.Iw b hb) fun z=>I.ok.Fi b z hb
theorem Inv.step{g':Array qPh}{t':Nat}{d':Drawn}{ch:List Addr}(I:Inv X pins σ H s)
  (hch:∀b∈ch,(b∈X.ex\/X.s₀.heap.objs.size<=b)/\b≠X.env.locals/\(∀x c,X.env.cells.lookup x=some c->c≠b)/\∀p∈X.pn++pins,p.1≠b)
  (keep:∀b o,b≠X.env.locals->b∉X.fs->b∉ch->s.heap.get? b=some o->H b=none->h'.get? b=some o)
  (slot:∀b o,b≠X.env.locals->b∈X.fs->b∉ch->s.heap.get? b=some o->H b=none->∃sl,h'.get? b=some { o with slots:=sl }) (free:∀b o,b∉ch->s.heap.get? b=some o->H b=none->H' b=none)
  (there:∀b o,b∉ch->s.heap.get? b=some o->∃o',h'.get? b=some o')
  (mQ:∀b xs,H b=some (.tup xs)->H' b=some (.tup xs)) (lA:∀b o u,H b=some (.frz o u)->H' b=some (.frz o u)) (mR:∀b ps,H b=some (.tbl ps)->∃more,H' b=some (.tbl (ps++more)))
  (ns:∀m,s.heap.Ns X.env.locals m->h'.Ns X.env.locals m) (cO:kK X.prog X.w H' h') (hg:qJf g') :
  Inv X pins σ H' { s with heap:=h',gens:=g',drawn:=d',toks:=t' }:=by
 have neL:∀b o,X.s₀.heap.get? b=some o->b≠X.env.locals:=fun b o e=>qBg (qBc (qAs e) I.ok.above);have neC:∀b o,X.s₀.heap.get? b=some o->b∉X.ex->b∉ch:=fun b o e hx hb=>by
  rcases(hch b hb).1 with z | z
  .exact hx z
  .exact absurd (qBc (qAs e) z) (qDk _)
 have cellK:∀x c,X.env.cells.lookup x=some c->∀v,s.heap.IsCell c v->h'.IsCell c v:=fun x c e v ⟨o,ho,hd⟩=>by
  have nch:c∉ch:=fun z=>(hch c z).2.2.1 x c e rfl;by_cases hc:c∈X.fs
  .obtain⟨sl,q⟩:=slot c o (I.Iz x c e) hc nch ho (I.jF x c e);exact⟨_,q,hd⟩
  .exact⟨o,keep c o (I.Iz x c e) hc nch ho (I.jF x c e),hd⟩
 refine⟨I.ok,I.os,hg,⟨fun b o e n hb hx=>?_,fun b o e n hb hx=>?_,fun b o e n hx=>?_,fun b o e hx=>?_,fun b xs e=>mQ b xs (I.base.mQ b xs e),fun b o xs e=>lA b o xs (I.base.lA b o xs e),fun b ps e=>?_⟩,?_,fun x c e=>?_,?_,fun x c e=>?_,fun p hp=>?_,cO,I.len⟩
 .exact keep b o (neL b o e) hb (neC b o e hx) (I.base.keep b o e n hb hx) (I.base.free b o e n hx)
 .obtain⟨sl,e1⟩:=I.base.slot b o e n hb hx;obtain⟨sl',e2⟩:=slot b _ (neL b o e) hb (neC b o e hx) e1 (I.base.free b o e n hx);exact⟨sl',e2⟩
 .obtain⟨o',e1⟩:=I.base.there b o e hx;exact free b o' (neC b o e hx) e1 (I.base.free b o e n hx)
 .obtain⟨o',e1⟩:=I.base.there b o e hx;exact there b o' (neC b o e hx) e1
 .obtain⟨m1,e1⟩:=I.base.mR b ps e;obtain⟨m2,e2⟩:=mR b _ e1;exact⟨m1++m2,by rw[e2,qMx]⟩
 .obtain⟨m,hn,hl⟩:=I.loc;refine⟨m,ns m hn,fun i x v e1 e2 e3=>?_⟩;obtain⟨u,r,l⟩:=hl i x v e1 e2 e3;exists u,r;rcases l with l | ⟨k,c,e,z⟩
  .exact .inl l
  .exact .inr ⟨k,c,e,cellK x c e _ z⟩
 .obtain⟨v,z⟩:=I.cell x c e;exact⟨v,cellK x c e v z⟩
 .obtain⟨m,⟨o,_,_,ho,_⟩,_⟩:=I.loc;exact free _ o (fun z=>(hch _ z).2.1 rfl) ho I.free
 .obtain⟨v,o,ho,hd⟩:=I.cell x c e;exact free c o (fun z=>(hch c z).2.2.1 x c e rfl) ho (I.jF x c e)
 .obtain⟨e,n,ne,nf,d⟩:=I.pin p hp;have nch:p.1∉ch:=fun z=>(hch p.1 z).2.2.2 p hp rfl;exact⟨keep p.1 p.2 ne nf nch e n,free p.1 p.2 nch e n,ne,nf,d⟩
theorem Inv.un{t':Nat}(I:Inv X pins σ H s)(u:Un X.fs [] H H' s.heap h')(cO:kK X.prog X.w H' h'):Inv X pins σ H' { s with heap:=h',toks:=t' }:=by
 obtain⟨m,⟨o,es,ep,ho,r⟩,_⟩:=id I.loc;obtain⟨sl,hL⟩:=u.any ho I.free (by simp);exact I.step (g':=s.gens) (d':=s.drawn) (ch:=[]) (fun _ z=>nomatch z) (fun b o _ hb _ e n=>u.keep b o e n hb (by simp)) (fun b o _ hb _ e n=>u.slot b o e n hb (by simp)) (fun b o _ e n=>u.free b o e n (by simp)) (fun b o _ e=>u.there b o e (by simp)) u.mQ u.lA u.mR (fun m' hm=>by
  obtain⟨o',es',ep',ho',r'⟩:=hm;rw[ho] at ho';cases ho';exact⟨_,es',ep',hL,r'⟩) cO I.bare
theorem Inv.call{g':Array qPh}{t':Nat}{d':Drawn}{ch:List Addr}(I:Inv X pins σ H s)(u:Un (oS X.stack) ch H H' s.heap h')(cO:kK X.prog X.w H' h')(hg:qJf g')
  (hch:∀b∈ch,(b∈X.ex\/X.s₀.heap.objs.size<=b)/\b≠X.env.locals/\(∀x c,X.env.cells.lookup x=some c->c≠b)/\∀p∈X.pn++pins,p.1≠b) :
  Inv X pins σ H' { s with heap:=h',gens:=g',drawn:=d',toks:=t' }:=by
 obtain⟨m,⟨o,es,ep,ho,r⟩,_⟩:=id I.loc;obtain⟨sl,hL⟩:=u.any ho I.free fun z=>(hch _ z).2.1 rfl;exact I.step (ch:=ch) hch (fun b o hL hb hc e n=>u.keep b o e n (fun z=>(List.mem_cons.mp (I.kT b z)).elim hL hb) hc) (fun b o _ _ hc e n=>u.any e n hc) (fun b o hc e n=>u.free b o e n hc) (fun b o hc e=>u.there b o e hc) u.mQ u.lA u.mR (fun m' hm=>by
  obtain⟨o',es',ep',ho',r'⟩:=hm;rw[ho] at ho';cases ho';exact⟨_,es',ep',hL,r'⟩) cO hg
theorem Inv.turned{t':Nat}{it:Addr}(I:Inv X pins σ H s)(k:∀b o,b≠it->s.heap.get? b=some o->h'.get? b=some o)(hn:H it=none)(hL:it≠X.env.locals)
  (h1:it∈X.ex\/X.s₀.heap.objs.size<=it) (h2:∀x c,X.env.cells.lookup x=some c->c≠it) (h3:∀p∈X.pn++pins,p.1≠it):Inv X pins σ H { s with heap:=h',toks:=t' }:=by
 have nit:∀b u,H b=some u->b≠it:=fun b u e z=>by rw[z,hn] at e;cases e
 refine I.step (g':=s.gens) (d':=s.drawn) (ch:=[it]) (fun b hb=>?_) (fun b o _ _ hc e _=>k b o (fun z=>hc (by simp[z])) e) (fun b o _ _ hc e _=>⟨o.slots,k b o (fun z=>hc (by simp[z])) e⟩) (fun _ _ _ _ n=>n)
  (fun b o hc e=>⟨o,k b o (fun z=>hc (by simp[z])) e⟩) (fun _ _ e=>e) (fun _ _ _ e=>e) (fun b ps e=>⟨#[],by rw[e];simp⟩) (fun m hm=>?_) (fun b u e=>?_) I.bare
 .have e:b=it:=by simpa using hb
  subst e;exact⟨h1,hL,h2,h3⟩
 .obtain⟨o,es,ep,ho,r⟩:=hm;exact⟨o,es,ep,k _ o (Ne.symm hL) ho,r⟩
 .refine(I.cO b u e).uL (fun c v hc q=>k c v ?_ q) (fun _ q=>q) fun _ _ q=>q;rcases hc with z | z
  .rw[z];exact nit b u e
  .exact nit c _ z
theorem Inv.tok(I:Inv X pins σ H s)(t:Nat):Inv X pins σ H { s with toks:=t }:=I.un (h':=s.heap) (t':=t) Un.refl I.cO
theorem Inv.kept(I:Inv X pins σ H s)(k:∀b u,s.heap.get? b=some u->h'.get? b=some u):Inv X pins σ H { s with heap:=h',toks:=t' }:=I.un (Un.kept k) (I.cO.kept k)
theorem Inv.laid(I:Inv X pins σ H s)(k:∀b u,s.heap.get? b=some u->h'.get? b=some u)(hp:s.heap.objs.size<=a)(new:cU X.prog X.w (upd H a o) h' a o):
  Inv X pins σ (upd H a o) { s with heap:=h',toks:=t' }:=I.un (Un.laid k hp (I.cO.fresh hp)) (I.cO.laid k hp new)
theorem Inv.write(I:Inv X pins σ H s)(mu:MJ (H x))(he:e=x\/H e=some (.own x))(k:∀b u,b≠e->s.heap.get? b=some u->h'.get? b=some u)(heo:∃u,h'.get? e=some u)
  (new:cU X.prog X.w (upd H x o) h' x o):Inv X pins σ (upd H x o) { s with heap:=h',toks:=t' }:=I.un (Un.write mu he k heo) (I.cO.write mu he k heo new)
theorem Inv.y8(I:Inv X pins σ H s)(h:∀p∈pins',s.heap.get? p.1=some p.2/\H p.1=none/\p.1≠X.env.locals/\p.1∉X.fs/\∀v,p.2.data≠.cell v):Inv X pins' σ H s :=
 ⟨I.ok,I.os,I.bare,I.base,I.loc,I.cell,I.free,I.jF,fun p hp=>(List.mem_append.mp hp).elim (fun z=>I.pin p (qCb _ z)) (h p),I.cO,I.len⟩
theorem uM{N:List Str}(hN:N.Nodup){i j:Nat}{x:Str}(a:N[i]?=some x)(b:N[j]?=some x):i=j:=by
 obtain⟨h1,e1⟩:=List.getElem?_eq_some_iff.mp a;obtain⟨h2,e2⟩:=List.getElem?_eq_some_iff.mp b;exact(List.getElem_inj hN).mp (e1.trans e2.symm)
theorem mS{M:Model}{A:qDl}{E:qAl->qAp->Prop}{i:Nat}{x:Str}{v:V}{u:qAl}{Q:Unit->qAp->Prop}(I:Inv X pins σ H s)(hN:X.N.Nodup)(hi:X.N[i]?=some x)(hx:Loc X.env.scope x)(r:RelV v u)
  (h:∀s',Inv X pins (σ.set i (some v)) H s'->(∃a,qFh a s.heap s'.heap/\(a=X.env.locals\/X.env.cells.lookup x=some a))->Q () s') (hf:X.fn x=true\/X.env.scope.names.lookup x=some .local:=by first|exact .inl rfl | exact .inr rfl | assumption):qBj M A (storeName X.env x u) Q E s:=by
 obtain⟨m,hn,hl⟩:=id I.loc;have hcls:(X.env.scope.kind == .class||(X.env.scope.kind == .module&&X.env.locals != X.env.globals))=false:=by rw[I.ok.kind];rfl
 have hiσ:i<σ.length:=by rw[I.len];exact(List.getElem?_eq_some_iff.mp hi).1
 have Iz:=I.Iz;have tracked:∀{a:Addr}{h':Heap},(∃o,s.heap.get? a=some o/\H a=none)->qFh a s.heap h'->kK X.prog X.w H h':=fun {a h'} ha hs b ob e=>by
  obtain⟨_,_,hfree⟩:=ha;refine(I.cO b ob e).uL (fun c w' hc q=>(hs.2 c ?_).trans q) (fun _ q=>q) fun _ _ q=>q;rintro rfl;rcases hc with rfl | hc
  .rw[hfree] at e;cases e
  .rw[hfree] at hc;cases hc
 rcases hx with hk | hk
 .refine wpAny_storeName_local hk hn (fun h' hn' hs=>?_) hcls;obtain⟨oL,_,_,hoL,_⟩:=id hn;refine h _ ⟨I.ok,I.os,I.bare,⟨fun b o e n hb hx=>?_,fun b o e n hb hx=>?_,I.base.free,fun b o e hx=>?_,I.base.mQ,I.base.lA,I.base.mR⟩,⟨_,hn',fun j y v' e1 e2 e3=>?_⟩,fun y c e=>?_,I.free,I.jF,fun p hp=>?_,tracked ⟨oL,hoL,I.free⟩ hs,by simpa using I.len⟩ ⟨_,hs,.inl rfl⟩
  .exact(hs.2 b (qBg (qBc (qAs e) I.ok.above))).trans (I.base.keep b o e n hb hx)
  .obtain⟨sl,e1⟩:=I.base.slot b o e n hb hx;exact⟨sl,(hs.2 b (qBg (qBc (qAs e) I.ok.above))).trans e1⟩
  .obtain⟨o',e1⟩:=I.base.there b o e hx;exact⟨o',(hs.2 b (qBg (qBc (qAs e) I.ok.above))).trans e1⟩
  .by_cases hj:j=i
   .subst hj;rw[hi] at e1;cases e1;rw[qLs hiσ] at e2;cases e2;exact⟨u,r,.inl ⟨hk,by simp⟩⟩
   .rw[qMo (Ne.symm hj)] at e2;obtain⟨u',r',q⟩:=hl j y v' e1 e2 e3;exists u',r';rcases q with ⟨k,e⟩ | ⟨k,c,e,z⟩
    .refine .inl ⟨k,?_⟩;have:y≠x:=fun e=>hj (uM hN e1 (e▸hi));simp[this,e]
    .exact .inr ⟨k,c,e,z.sameBut hs (Iz y c e)⟩
  .obtain⟨w',z⟩:=I.cell y c e;exact⟨w',z.sameBut hs (Iz y c e)⟩
  .obtain⟨e,n,ne,nf,d⟩:=I.pin p hp;exact⟨(hs.2 p.1 ne).trans e,n,ne,nf,d⟩
 .have hfn:X.fn x=true:=by
   rcases hf with z | z
   .exact z
   .rw[z] at hk;cases hk
  obtain⟨c,hc⟩:=I.ok.has x (.inl hk);obtain⟨w',z⟩:=I.cell x c hc;refine wpAny_storeName_cell I.ok.kind hk hc z (fun h' hc' hs=>?_);obtain⟨oc,hoc,hocd⟩:=id z;refine h { s with heap:=h' } ⟨I.ok,I.os,I.bare,⟨fun b o e n hb hx=>?_,fun b o e n hb hx=>?_,I.base.free,fun b o e hx=>?_,I.base.mQ,I.base.lA,I.base.mR⟩,⟨m,hn.sameBut hs (Ne.symm (Iz x c hc)),fun j y v' e1 e2 e3=>?_⟩,fun y c' e=>?_,I.free,I.jF,fun p hp=>?_,tracked ⟨oc,hoc,I.jF x c hc⟩ hs,by simpa using I.len⟩ ⟨c,hs,.inr hc⟩
  .exact(hs.2 b (qBg (qBc (qAs e) (I.ok.MK x c hfn hc)))).trans (I.base.keep b o e n hb hx)
  .obtain⟨sl,e1⟩:=I.base.slot b o e n hb hx;exact⟨sl,(hs.2 b (qBg (qBc (qAs e) (I.ok.MK x c hfn hc)))).trans e1⟩
  .obtain⟨o',e1⟩:=I.base.there b o e hx;exact⟨o',(hs.2 b (qBg (qBc (qAs e) (I.ok.MK x c hfn hc)))).trans e1⟩
  .by_cases hj:j=i
   .subst hj;rw[hi] at e1;cases e1;rw[qLs hiσ] at e2;cases e2;exact⟨u,r,.inr ⟨.inl hk,c,hc,hc'⟩⟩
   .rw[qMo (Ne.symm hj)] at e2;obtain⟨u',r',q⟩:=hl j y v' e1 e2 e3;exists u',r';rcases q with q | ⟨k,c',e,z'⟩
    .exact .inl q
    .refine .inr ⟨k,c',e,z'.sameBut hs ?_⟩;rintro rfl;exact hj (uM hN e1 (I.ok.inj _ _ _ e hc▸hi))
  .by_cases hcc:c'=c
   .subst hcc;exact⟨_,hc'⟩
   .obtain⟨w2,z2⟩:=I.cell y c' e;exact⟨w2,z2.sameBut hs hcc⟩
  .obtain⟨e,n,ne,nf,d⟩:=I.pin p hp;refine⟨(hs.2 p.1 ?_).trans e,n,ne,nf,d⟩;intro q;rw[q,hoc] at e;have q':oc=p.2:=Option.some.inj e;exact d w' (by rw[<- q'];exact hocd)
theorem jJ(I:Inv X pins σ H s)(hN:X.N.Nodup)(hi:X.N[i]?=some x)(hx:Loc X.env.scope x)(r:RelV v u)
  (h:∀s',Inv X pins (σ.set i (some v)) H s'->Q () s') (hf:X.fn x=true\/X.env.scope.names.lookup x=some .local:=by first|exact .inl rfl | exact .inr rfl | assumption):qBj M A (storeName X.env x u) Q E s :=
 mS I hN hi hx r (fun s' I' _=>h s' I') hf
theorem Inv.call'(I:Inv X pins σ H s)(ho:s'.os=s.os)(u:Un (oS X.stack) ch H H' s.heap s'.heap)(cO:kK X.prog X.w H' s'.heap)(hg:qJf s'.gens)
  (hch:∀b∈ch,(b∈X.ex\/X.s₀.heap.objs.size<=b)/\b≠X.env.locals/\(∀x c,X.env.cells.lookup x=some c->c≠b)/\∀p∈X.pn++pins,p.1≠b):Inv X pins σ H' s':=by
 obtain⟨h',g',d',t',o'⟩:=s';have e:o'=s.os:=ho;subst e;exact I.call (g':=g') (t':=t') (d':=d') u cO hg hch
end
abbrev XK:=qAl->Option Addr->Hp->Prop
abbrev St:=List (Option V)
abbrev VK:=V->Hp->Prop
abbrev TE:=St->Hp->VK->Prop
abbrev TT:=St->Hp->(Bool->Hp->Prop)->Prop
abbrev TA:=St->Hp->(List V->Hp->Prop)->Prop
structure Ends where
 nx:St->Hp->Prop
 rt:VK
 bk:St->Hp->Prop:=fun _ _=>False
 ct:St->Hp->Prop:=fun _ _=>False
abbrev TS:=Ends->St->Hp->Prop
def EP(X:Cx)(pins:List (Addr×Obj))(σ:St)(Q:VK)(u:qAl)(s':qAp):Prop:=∃v H',Inv X pins σ H' s'/\RelV v u/\Q v H'
def TP(X:Cx)(pins:List (Addr×Obj))(σ:St)(Q:Bool->Hp->Prop)(b:Bool)(s':qAp):Prop:=∃H',Inv X pins σ H' s'/\Q b H'
def AP(X:Cx)(pins:List (Addr×Obj))(σ:St)(Q:List V->Hp->Prop)(us:List qAl)(s':qAp):Prop:=∃vs H',Inv X pins σ H' s'/\Vals vs us/\Q vs H'
def SP(X:Cx)(pins:List (Addr×Obj))(D:Ends)(f:Flow)(s':qAp):Prop :=
 match f with
 | .next=>∃σ' H',Inv X pins σ' H' s'/\D.nx σ' H'
 | .brk=>∃σ' H',Inv X pins σ' H' s'/\D.bk σ' H'
 | .cont=>∃σ' H',Inv X pins σ' H' s'/\D.ct σ' H'
 | .ret u=>∃v σ' H',Inv X pins σ' H' s'/\RelV v u/\D.rt v H'
def PE(X:Cx)(e:Expr)(t:TE):Prop :=
 ∀(pins:List (Addr×Obj)) (s:qAp) (σ:St) (H:Hp) (Q:VK),Inv X pins σ H s->t σ H Q->qBj (qBz X.prog X.w) X.A (eval e X.env) (EP X pins σ Q) X.xe s
def PT(X:Cx)(e:Expr)(t:TT):Prop :=
 ∀(pins:List (Addr×Obj)) (s:qAp) (σ:St) (H:Hp) (Q:Bool->Hp->Prop),Inv X pins σ H s->t σ H Q->qBj (qBz X.prog X.w) X.A (qQd e X.env (eval e X.env)) (TP X pins σ Q) X.xe s
def PW(X:Cx)(e:Expr)(t:TT):Prop :=
 ∀(whole:Sem qAl) (pins:List (Addr×Obj)) (s:qAp) (σ:St) (H:Hp) (Q:Bool->Hp->Prop),Inv X pins σ H s->t σ H Q->qBj (qBz X.prog X.w) X.A (qQd e X.env whole) (TP X pins σ Q) X.xe s
theorem PW.pt(h:PW X e t):PT X e t:=h _
def PA(X:Cx)(es:List Expr)(t:TA):Prop :=
 ∀(pos:Pos) (pins:List (Addr×Obj)) (s:qAp) (σ:St) (H:Hp) (Q:List V->Hp->Prop),Inv X pins σ H s->t σ H Q->qBj (qBz X.prog X.w) X.A (qOt (qHf pos (qBt es X.env))) (AP X pins σ Q) X.xe s
def PS(X:Cx)(st:Stmt)(t:TS):Prop :=
 ∀(pins:List (Addr×Obj)) (s:qAp) (σ:St) (H:Hp) (D:Ends),Inv X pins σ H s->t D σ H->qBj (qBz X.prog X.w) X.A (exec st X.env) (SP X pins D) X.xe s
def uG(X:Cx)(st:List Stmt)(t:TS):Prop :=
 ∀(pins:List (Addr×Obj)) (s:qAp) (σ:St) (H:Hp) (D:Ends),Inv X pins σ H s->t D σ H->qBj (qBz X.prog X.w) X.A (execs st X.env) (SP X pins D) X.xe s
theorem cG(h:qBj M A t Q E s)(hQ:∀a s,Q a s->Q' a s):qBj M A t Q' E s:=qHl h hQ fun _ _ x=>x
section
variable {X:Cx}
def IA(i:Nat):TE:=fun σ H Q=>∃v,σ[i]?=some (some v)/\Q v H
def tC(v:V):TE:=fun _ H Q=>Q v H
theorem IB(hN:X.N[i]?=some x)(hv:OH X.env.scope x)(hd:(x == ("__debug__":Str))=false:=by decide)(hcd:(x == ("__classdict__":Str))=false:=by decide):PE X (.Name x pos) (IA i):=by
 intro pins s σ H Q I h;obtain⟨v,e,h⟩:=h;obtain⟨m,hn,hl⟩:=I.loc;obtain⟨u,r,l⟩:=hl i x v hN e hv;have fin:EP X pins σ Q u s:=⟨v,H,I,r,h⟩;rcases l with ⟨hk,hm⟩ | ⟨hk,c,hc,hcell⟩
 .exact wpAny_Name (wpAny_loadName_local I.ok.kind hk hn hm fin) hd
 .rcases hk with hk | hk
  .exact wpAny_Name (wpAny_loadName_cell I.ok.kind hk hc hcell fin) hd
  .exact wpAny_Name (wpAny_loadName_free I.ok.kind hk hc hcell fin hcd) hd
theorem aE{i j pos}:PE X (.Constant (.int i) j pos) (tC (.int i)):=fun _ _ _ H _ I h=>wpAny_Constant_int ⟨.int i,H,I.tok _,⟨_,rfl⟩,h⟩
theorem fL{b j pos}:PE X (.Constant (.bool b) j pos) (tC (.bl b)):=fun _ _ _ H _ I h=>Constant_bool ⟨.bl b,H,I,rfl,h⟩
theorem dU{j pos}:PE X (.Constant .none j pos) (tC .non):=fun _ _ _ H _ I h=>Constant_none ⟨.non,H,I,rfl,h⟩
theorem g5{x j pos}:PE X (.Constant (.str x) j pos) (tC (.str x)):=fun _ _ _ H _ I h=>Calls.Constant_str ⟨.str x,H,I.tok _,⟨_,rfl⟩,h⟩
def Gl(X:Cx)(x:Str):Prop:=X.env.kindOf x=some .globalImplicit
theorem lC(I:Inv X pins σ H s)(hg:Gl X x)(hm:X.mg x=some u)(h:Q u s)
  (hd:(x == ("__debug__":Str))=false:=by decide):qBj (qBz X.prog X.w) X.A (eval (.Name x pos) X.env) Q E s :=
 qKx I.ok.kind hg (Calls.loadGlobal_global (by rw[I.ok.glob];exact I.mod.glob.keeps I.bk) hm h) hd
theorem fV(I:Inv X pins σ H s)(hg:Gl X x)(hm:X.mg x=none)(hv:qCq x=some u)(h:Q u s)
  (hn:x≠"__name__":=by decide) (hd:(x == ("__debug__":Str))=false:=by decide):qBj (qBz X.prog X.w) X.A (eval (.Name x pos) X.env) Q E s:=by
 obtain⟨mb,h1,h2⟩:=I.mod.blt;exact qKx I.ok.kind hg (Calls.loadGlobal_builtin (by rw[I.ok.glob];exact I.mod.glob.keeps I.bk) hm (by rw[I.ok.blt];exact h1.keeps I.bk) ((h2 x hn).trans hv) h) hd
theorem fY(hg:Gl X x)(hm:X.mg x=some u)(r:RelV v u)(hd:(x == ("__debug__":Str))=false:=by decide):PE X (.Name x pos) (tC v) :=
 fun _ _ _ H _ I h=>lC I hg hm ⟨v,H,I,r,h⟩ hd
theorem cV(hg:Gl X x)(hm:X.mg x=none)(hv:qCq x=some u)(r:RelV v u)(hn:x≠"__name__":=by decide)(hd:(x == ("__debug__":Str))=false:=by decide):PE X (.Name x pos) (tC v) :=
 fun _ _ _ H _ I h=>fV I hg hm hv ⟨v,H,I,r,h⟩ hn hd
variable {a b:Expr}{ta tb:TE}{pos:Pos}
def tB(t:TE):TT:=fun σ H Q=>t σ H fun x H1=>∃c,x = .bl c/\Q c H1
theorem bX(h:PE X e t)(he:∀whole,qQd e X.env whole=(do let v <- whole;standAt e.pos;qLw [v] (truthy v)):=by intro _;rfl):PT X e (tB t):=by
 intro pins s σ H Q I hw;refine isTrue_plain (cG (h pins s σ H _ I hw) fun v s1 z9=>?_) (he _);obtain⟨x,H1,I1,r1,q1⟩:=z9;obtain⟨d,rfl,q⟩:=q1;cases r1;exact qDu ⟨H1,I1,q⟩
variable {tA tB':TT}{rest:List Expr}
def OQ(t u:TT):TT:=fun σ H Q=>t σ H fun c H1=>if c=true then u σ H1 Q else Q false H1
def Qu(t u:TT):TT:=fun σ H Q=>t σ H fun c H1=>if c=true then Q true H1 else u σ H1 Q
def OR(t:TT):TT:=fun σ H Q=>t σ H fun c H1=>Q (!c) H1
theorem pw_and1(ha:PT X a tA):PW X (.BoolOp .And [a] pos) tA:=by
 intro wh pins s σ H Q I h;refine isTrue_and (cG (ha pins s σ H Q I h) fun c s1 e=>?_);cases c with
 | true=>exact isTrue_and_nil e
 | false=>exact e
theorem pw_or1(ha:PT X a tA):PW X (.BoolOp .Or [a] pos) tA:=by
 intro wh pins s σ H Q I h;refine isTrue_or (cG (ha pins s σ H Q I h) fun c s1 e=>?_);cases c with
 | false=>exact isTrue_or_nil e
 | true=>exact e
theorem pw_and(ha:PT X a tA)(hb:PW X (.BoolOp .And (b::rest) pos) tB'):PW X (.BoolOp .And (a::b::rest) pos) (OQ tA tB'):=by
 intro wh pins s σ H Q I h;refine isTrue_and (cG (ha pins s σ H _ I h) fun c s1 z9=>?_);obtain⟨H1,I1,q1⟩:=z9;cases c with
 | true=>exact hb wh pins s1 σ H1 Q I1 q1
 | false=>exact⟨H1,I1,q1⟩
theorem pw_or(ha:PT X a tA)(hb:PW X (.BoolOp .Or (b::rest) pos) tB'):PW X (.BoolOp .Or (a::b::rest) pos) (Qu tA tB'):=by
 intro wh pins s σ H Q I h;refine isTrue_or (cG (ha pins s σ H _ I h) fun c s1 z9=>?_);obtain⟨H1,I1,q1⟩:=z9;cases c with
 | true=>exact⟨H1,I1,q1⟩
 | false=>exact hb wh pins s1 σ H1 Q I1 q1
theorem bZ(ha:PT X a tA):PT X (.UnaryOp .Not a pos) (OR tA):=by
 intro pins s σ H Q I h;exact isTrue_not (ha pins s σ H (fun c H1=>Q (!c) H1) I h)
def ML(ta tb:TE):TE:=fun σ H Q=>ta σ H fun x H1=>∃c,x = .bl c/\if c=true then tb σ H1 Q else Q (.bl false) H1
def OS(ta tb:TE):TE:=fun σ H Q=>ta σ H fun x H1=>∃c,x = .bl c/\if c=true then Q (.bl true) H1 else tb σ H1 Q
def MM(ta:TE):TE:=fun σ H Q=>ta σ H fun x H1=>∃c,x = .bl c/\Q (.bl (!c)) H1
theorem jK{op}{t:TE}(h:PE X a t):PE X (.BoolOp op [a] pos) t:=fun pins s σ H Q I hw=>BoolOp_one (h pins s σ H Q I hw)
theorem kU(ha:PE X a ta)(hb:PE X (.BoolOp .And (b::rest) pos) tb):PE X (.BoolOp .And (a::b::rest) pos) (ML ta tb):=by
 intro pins s σ H Q I h;refine BoolOp_and (cG (ha pins s σ H _ I h) fun v s1 z9=>?_);obtain⟨x,H1,I1,r1,q1⟩:=z9;obtain⟨c,rfl,q1⟩:=q1;cases r1;refine qDu ?_;cases c with
 | true=>exact hb pins s1 σ H1 Q I1 q1
 | false=>exact⟨.bl false,H1,I1,rfl,q1⟩
theorem MN(ha:PE X a ta)(hb:PE X (.BoolOp .Or (b::rest) pos) tb):PE X (.BoolOp .Or (a::b::rest) pos) (OS ta tb):=by
 intro pins s σ H Q I h;refine BoolOp_or (cG (ha pins s σ H _ I h) fun v s1 z9=>?_);obtain⟨x,H1,I1,r1,q1⟩:=z9;obtain⟨c,rfl,q1⟩:=q1;cases r1;refine qDu ?_;cases c with
 | false=>exact hb pins s1 σ H1 Q I1 q1
 | true=>exact⟨.bl true,H1,I1,rfl,q1⟩
theorem Cb(ha:PE X a ta):PE X (.UnaryOp .Not a pos) (MM ta):=by
 intro pins s σ H Q I h;refine UnaryOp_ (cG (ha pins s σ H _ I h) fun v s1 z9=>?_);obtain⟨x,H1,I1,r1,q1⟩:=z9;obtain⟨c,rfl,q1⟩:=q1;cases r1;exact not_of (qDu ⟨.bl (!c),H1,I1,rfl,q1⟩)
def Qv(t:TT)(ta tb:TE):TE:=fun σ H Q=>t σ H fun c H1=>if c=true then ta σ H1 Q else tb σ H1 Q
theorem oT(hc:PT X c tA)(ha:PE X a ta)(hb:PE X b tb):PE X (.IfExp c a b pos) (Qv tA ta tb):=by
 intro pins s σ H Q I h;refine wpAny_IfExp (cG (hc pins s σ H _ I h) fun d s1 z9=>?_);obtain⟨H1,I1,q1⟩:=z9;cases d with
 | true=>exact ha pins s1 σ H1 Q I1 q1
 | false=>exact hb pins s1 σ H1 Q I1 q1
end
def aS(K:qAd)(H:Hp)(a:Addr)(xs:List V):Prop :=
 Rd H a (.lst xs) \/
  ∃(o:Obj) (its:Array qAl) (n:Nat),K.lookup a=some o/\o.cls = .type "list"/\o.dict=none/\o.data = .seq its n/\its.size<=qAi/\Vals xs its.toList
def cE(K:qAd)(H:Hp)(a:Addr)(xs:List V):Prop :=
 Rd H a (.tup xs) \/
  ∃(o:Obj) (its:Array qAl) (n:Nat),K.lookup a=some o/\o.cls = .type "tuple"/\o.data = .seq its n/\its.size<=qAi/\Vals xs its.toList
noncomputable def OT:qAl->Option V
 | .none=>some .non
 | .bool b=>some (.bl b)
 | .int i _=>some (.int i)
 | .str x _=>some (.str x)
 | .bytes b _=>some (.byt b)
 | .float b _=>some (.flt b)
 | .ref a=>some (.ref a)
 | .type n=>some (.ty n)
 | _=>none
theorem RelV.abs(r:RelV x u):OT u=some x:=by
 cases x with
 | non=>cases r;rfl
 | bl _=>cases r;rfl
 | int _=>obtain⟨t,rfl⟩:=r;rfl
 | str _=>obtain⟨t,rfl⟩:=r;rfl
 | byt _=>obtain⟨t,rfl⟩:=r;rfl
 | flt _=>obtain⟨t,rfl⟩:=r;rfl
 | ref _=>cases r;rfl
 | ty _=>cases r;rfl
theorem RelV.inj(r:RelV x u)(q:RelV y u):x=y:=Option.some.inj (r.abs.symm.trans q.abs)
theorem Vals.inj:∀{xs ys:List V}{us:List qAl},Vals xs us->Vals ys us->xs=ys
 | _,_,_,.nil,.nil=>rfl
 | _,_,_,.cons r t,.cons r' t'=>by rw[r.inj r',Vals.inj t t']
section
variable {X:Cx}{pins:List (Addr×Obj)}{σ:St}{H:Hp}{s:qAp}{a:Addr}{xs ys:List V}
theorem aS.of{K:qAd}(h:H a=some (.lst xs)):aS K H a xs:=.inl (.inl h)
theorem cE.of{K:qAd}(h:H a=some (.tup xs)):cE K H a xs:=.inl (.inl h)
theorem Inv.list(I:Inv X pins σ H s)(h:aS X.K H a xs):∃its:List qAl,Vals xs its/\PlainL s.heap a its.toArray/\xs.length<=qAi:=by
 rcases h with h | ⟨o,its,n,hk,hc,hd,hs,hz,r⟩
 .obtain⟨z,its,n,r,e⟩:=h.ok I.cO;exact⟨its,r,⟨_,n,e,rfl,rfl,rfl⟩,z⟩
 .refine⟨its.toList,r,⟨o,n,I.w6 a o hk,hc,hd,by simpa using hs⟩,?_⟩;have e:=r.length;simp only[qCa] at e;lia
theorem Inv.tuple(I:Inv X pins σ H s)(h:cE X.K H a xs):∃its:List qAl,Vals xs its/\IsTup s.heap a its.toArray/\xs.length<=qAi:=by
 rcases h with h | ⟨o,its,n,hk,hc,hs,hz,r⟩
 .obtain⟨z,its,r,p⟩:=h.ok I.cO;exact⟨its,r,p,z⟩
 .refine⟨its.toList,r,⟨o,I.w6 a o hk,hc,n,by simpa using hs⟩,?_⟩;have e:=r.length;simp only[qCa] at e;lia
theorem Inv.jL(I:Inv X pins σ H s)(h:aS X.K H a xs)(h':aS X.K H a ys):xs=ys:=by
 obtain⟨its,r,⟨o,n,e,_,_,d⟩,_⟩:=I.list h;obtain⟨its',r',⟨o',n',e',_,_,d'⟩,_⟩:=I.list h';rw[e] at e';cases e';rw[d] at d';injection d' with d1 _;have:its=its':=by simpa using congrArg qPd d1
 subst this;exact r.inj r'
theorem Inv.AU(I:Inv X pins σ H s)(h:cE X.K H a xs)(h':cE X.K H a ys):xs=ys:=by
 obtain⟨its,r,⟨o,e,_,n,d⟩,_⟩:=I.tuple h;obtain⟨its',r',⟨o',e',_,n',d'⟩,_⟩:=I.tuple h';rw[e] at e';cases e';rw[d] at d';injection d' with d1 _;have:its=its':=by simpa using congrArg qPd d1
 subst this;exact r.inj r'
end
noncomputable abbrev Cx.qI(X:Cx)(E:qAl->qAp->Prop):Cx:={ X with xe:=E }
noncomputable abbrev Cx.MA(X:Cx):Cx:=X.qI fun _ _=>False
theorem Cx.Ok.qI{X:Cx}(ok:X.Ok)(E:qAl->qAp->Prop):(X.qI E).Ok :=
 ⟨ok.mod,ok.kind,ok.glob,ok.blt,ok.above,ok.inj,ok.has,ok.MK,ok.hd,ok.frames,ok.OI,ok.Qj,ok.bs,ok.Fh,ok.AS,ok.Fi,ok.lB,ok.Iw⟩
theorem Cx.Ok.jM{X:Cx}{E:qAl->qAp->Prop}(ok:(X.qI E).Ok):X.Ok :=
 ⟨ok.mod,ok.kind,ok.glob,ok.blt,ok.above,ok.inj,ok.has,ok.MK,ok.hd,ok.frames,ok.OI,ok.Qj,ok.bs,ok.Fh,ok.AS,ok.Fi,ok.lB,ok.Iw⟩
section
variable {X:Cx}{pins:List (Addr×Obj)}{σ:St}{H:Hp}{s:qAp}{E:qAl->qAp->Prop}
theorem Inv.qI(I:Inv X pins σ H s)(E:qAl->qAp->Prop):Inv (X.qI E) pins σ H s:=⟨I.ok.qI E,I.os,I.bare,I.base,I.loc,I.cell,I.free,I.jF,I.pin,I.cO,I.len⟩
theorem Inv.jM(I:Inv (X.qI E) pins σ H s):Inv X pins σ H s:=⟨I.ok.jM,I.os,I.bare,I.base,I.loc,I.cell,I.free,I.jF,I.pin,I.cO,I.len⟩
theorem SP.jM(h:SP (X.qI E) pins D f s'):SP X pins D f s':=by
 cases f with
 | next=>obtain⟨σ',H',I,q⟩:=h;exact⟨σ',H',I.jM,q⟩
 | brk=>obtain⟨σ',H',I,q⟩:=h;exact⟨σ',H',I.jM,q⟩
 | cont=>obtain⟨σ',H',I,q⟩:=h;exact⟨σ',H',I.jM,q⟩
 | ret u=>obtain⟨v,σ',H',I,r,q⟩:=h;exact⟨v,σ',H',I.jM,r,q⟩
theorem uG.MA{st:List Stmt}{t:TS}(h:uG X.MA st t):uG X st t:=fun pins s σ H D I hw =>
 qHl (h pins s σ H D (I.qI _) hw) (fun _ _ q=>q.jM) fun _ _ z=>False.elim z
end
section
variable {X:Cx}{st:Stmt}{rest:List Stmt}{t u:TS}{e:Expr}{te:TE}{pos:Pos}
def y9:TS:=fun D σ H=>D.nx σ H
def Fj(t u:TS):TS:=fun D σ H=>t { D with nx:=u D } σ H
theorem aZ:uG X [] y9:=fun _ _ σ H _ I h=>qJa ⟨σ,H,I,h⟩
theorem aC(h1:PS X st t)(h2:uG X rest u):uG X (st::rest) (Fj t u):=by
 intro pins s σ H D I h;refine wpAny_execs_cons (cG (h1 pins s σ H { D with nx:=u D } I h) fun f s1 q=>?_);cases f with
 | next =>
  obtain⟨σ',H',I',q⟩:=q;exact h2 pins s1 σ' H' D I' q
 | ret v=>exact q
 | brk=>exact q
 | cont=>exact q
theorem aF(h1:PS X st t):uG X [st] t:=by
 intro pins s σ H D I h;refine wpAny_execs_cons (cG (h1 pins s σ H D I h) fun f s1 q=>?_);cases f with
 | next=>exact qJa q
 | ret v=>exact q
 | brk=>exact q
 | cont=>exact q
def IC:TS:=fun D σ H=>D.bk σ H
theorem Cc:PS X (.Break pos) IC:=fun _ _ σ H _ I h=>wpAny_Break ⟨σ,H,I,h⟩
theorem Inv.quiet(I:Inv X pins σ H s):interactive X.env=false:=by simp[interactive,I.ok.kind]
def MP(te:TE):TS:=fun D σ H=>te σ H fun _ H1=>D.nx σ H1
theorem dO(he:PE X e te)(hs:qKk e none pos.line X.env=pure false:=by rfl):PS X (.Expr e pos) (MP te):=by
 intro pins s σ H D I h;exact wpAny_Expr_any (cG (he pins s σ H _ I h) (by rintro v s1 ⟨x,H1,I1,r1,q1⟩;exact ⟨σ,H1,I1,q1⟩)) I.quiet hs
def OU(te:TE):TS:=fun D σ H=>te σ H D.rt
theorem aT(he:PE X e te):PS X (.Return (some e) pos) (OU te):=by
 intro pins s σ H D I h;exact wpAny_Return_some (cG (he pins s σ H _ I h) (by rintro v s1 ⟨x,H1,I1,r1,q1⟩;exact ⟨x,σ,H1,I1,r1,q1⟩))
def ID(c:TT)(t u:TS):TS:=fun D σ H=>c σ H fun b H1=>if b=true then t D σ H1 else u D σ H1
theorem bO(hc:PT X c tc)(ha:uG X a t)(hb:uG X b u):PS X (.If c a b pos) (ID tc t u):=by
 intro pins s σ H D I h;refine wpAny_If (cG (hc pins s σ H _ I h) fun d s1 z9=>?_);obtain⟨H1,I1,q1⟩:=z9;cases d with
 | true=>exact ha pins s1 σ H1 D I1 q1
 | false=>exact hb pins s1 σ H1 D I1 q1
end
abbrev TG:=V->St->Hp->(St->Hp->Prop)->Prop
abbrev MQ:=List V->St->Hp->(St->Hp->Prop)->Prop
def PG(X:Cx)(target:Expr)(t:TG):Prop :=
 ∀(pins:List (Addr×Obj)) (s:qAp) (σ:St) (H:Hp) (v:V) (u:qAl) (Q:St->Hp->Prop),Inv X pins σ H s->RelV v u->t v σ H Q ->
  qBj (qBz X.prog X.w) X.A (qKq target X.env u) (fun _ s'=>∃σ' H',Inv X pins σ' H' s'/\Q σ' H') X.xe s
def MR(X:Cx)(ts:List Expr)(t:MQ):Prop :=
 ∀(pins:List (Addr×Obj)) (s:qAp) (σ:St) (H:Hp) (vs:List V) (us:List qAl) (Q:St->Hp->Prop),Inv X pins σ H s->Vals vs us->t vs σ H Q ->
  qBj (qBz X.prog X.w) X.A (assignInOrder ((qJm ts X.env).map (·.2)) us) (fun _ s'=>∃σ' H',Inv X pins σ' H' s'/\Q σ' H') X.xe s
abbrev MS:=V->V->V->Hp->(Hp->Prop)->Prop
def IE(X:Cx)(t:MS):Prop :=
 ∀(pins:List (Addr×Obj)) (s:qAp) (σ:St) (H:Hp) (o i v:V) (ov iv u:qAl) (Q:Hp->Prop),Inv X pins σ H s->RelV o ov->RelV i iv->RelV v u->t o i v H Q ->
  qBj (qBz X.prog X.w) X.A (setItem ov iv u) (fun _ s'=>∃H',Inv X pins σ H' s'/\Q H') X.xe s
abbrev OV:=V->V->Hp->VK->Prop
def OW(X:Cx)(op:Operator)(t:OV):Prop :=
 ∀(pins:List (Addr×Obj)) (s:qAp) (σ:St) (H:Hp) (x y:V) (v u:qAl) (Q:VK),Inv X pins σ H s->RelV x v->RelV y u->t x y H Q ->
  qBj (qBz X.prog X.w) X.A (qOf op v u) (EP X pins σ Q) X.xe s
section
variable {X:Cx}{pos:Pos}
def aX(i:Nat):TG:=fun v σ H Q=>Q (σ.set i (some v)) H
theorem aO(hN:X.N.Nodup)(hi:X.N[i]?=some x)(hx:Loc X.env.scope x)(hf:X.fn x=true\/X.env.scope.names.lookup x=some .local:=by first|exact .inl rfl | exact .inr rfl | assumption):PG X (.Name x pos) (aX i):=by
 intro pins s σ H v u Q I r h;exact wpAny_assign_Name (jJ I hN hi hx r (fun s' I'=>⟨_,H,I',h⟩) hf)
def sE:MQ:=fun vs σ H Q=>vs=[]/\Q σ H
def fZ(t:TG)(u:MQ):MQ:=fun vs σ H Q=>∃v r,vs=v::r/\t v σ H fun σ' H'=>u r σ' H' Q
theorem dP:MR X [] sE:=by
 intro pins s σ H vs us Q I r h;obtain⟨e,h⟩:=h;subst e;cases r;exact assignInOrder_nil ⟨σ,H,I,h⟩
theorem bP(h1:PG X e t)(h2:MR X es u)
  (hs:(qJm (e::es) X.env).map (·.2)=qKq e X.env::(qJm es X.env).map (·.2):=by rfl):MR X (e::es) (fZ t u):=by
 intro pins s σ H vs us Q I r h;obtain⟨v,vr,e1,h⟩:=h;subst e1;cases r with
 | cons r rr =>
  rw[hs];refine assignInOrder_cons (cG (h1 pins s σ H _ _ _ I r h) fun _ s1 z9=>?_);obtain⟨σ1,H1,I1,q1⟩:=z9;exact h2 pins s1 σ1 H1 _ _ Q I1 rr q1
def sI(K:qAd)(n:Nat)(t:MQ):TG:=fun v σ H Q=>∃a xs,v = .ref a/\cE K H a xs/\xs.length=n/\t xs σ H Q
theorem fM(hc:X.calm=true)(h:MR X es t)
  (hn:(qJm es X.env).length=n:=by rfl) (hst:(qJm es X.env).findIdx? (·.1)=none:=by rfl):PG X (.Tuple es k pos) (sI X.K n t):=by
 intro pins s σ H v u Q I r hw;obtain⟨a,xs,e1,hq,hl,hw⟩:=hw;subst e1;cases r;obtain⟨its,rv,ht,hz⟩:=I.tuple hq;refine assign_Tuple_tuple (I.ok.hd hc) ht (by simp[hn,<- hl,rv.length]) hst fun h' hx=>?_;have I1:Inv X pins σ H { s with heap:=h' }:=I.kept (t':=s.toks) fun b o e=>hx b o (qBg (qAs e)) e;exact h pins _ σ H xs _ Q I1 (by simpa using rv) hw
def OX(to ti:TE)(t:MS):TG:=fun v σ H Q=>to σ H fun o H1=>ti σ H1 fun i H2=>t o i v H2 fun H3=>Q σ H3
theorem gF(ho:PE X o to)(hi:PE X i ti)(hs:IE X t)
  (ha:∀v,qKq (.Subscript o i pos) X.env v=(do
   let ov <- qLw [v] (eval o X.env)
   let iv <- qLw [v,ov] (eval i X.env)
   standAt pos
   qLw [v,ov,iv] (setItem ov iv v)
   release [v,ov,iv] []):=by intro _;rfl):PG X (.Subscript o i pos) (OX to ti t):=by
 intro pins s σ H v u Q I r h;rw[ha];refine qAb (qDm (cG (ho pins s σ H _ I h) fun ov s1 z9=>?_));obtain⟨x,H1,I1,r1,q1⟩:=z9;refine qAb (qDm (cG (hi pins s1 σ H1 _ I1 q1) fun iv s2 z9=>?_));obtain⟨y,H2,I2,r2,q2⟩:=z9;refine qAb (qIn (qAb (qDm (cG (hs pins s2 σ H2 x y v ov iv u _ I2 r1 r2 r q2) fun _ s3 z9=>?_))));obtain⟨H3,I3,q3⟩:=z9;exact wpAny_release ⟨σ,H3,I3,q3⟩
def IF(te:TE)(g:TG):TS:=fun D σ H=>te σ H fun x H1=>g x σ H1 D.nx
theorem gG(he:PE X e te)(hg:PG X tg g)(hs:swapsWithSole [tg] e pos.line X.env=pure false:=by rfl)(hw:swappedStores [tg] e X.env=pure none:=by rfl)
  (h1:(qJm [tg] X.env).map (·.2)=[qKq tg X.env]:=by rfl):PS X (.Assign [tg] e pos) (IF te g):=by
 intro pins s σ H D I h;refine wpAny_Assign_stores (cG (he pins s σ H _ I h) fun v s1 z9=>?_) hs hw;obtain⟨x,H1,I1,r1,q1⟩:=z9;rw[h1];exact cG (hg pins s1 σ H1 x v _ I1 r1 q1) fun _ s2 q=>q
theorem aP(hN:X.N.Nodup)(hi:X.N[i]?=some x)(hx:Loc X.env.scope x)(he:PE X e te)(hs:qKk e (some (.Name x pos')) pos.line X.env=pure false:=by rfl)(hf:X.fn x=true\/X.env.scope.names.lookup x=some .local:=by first|exact .inl rfl | exact .inr rfl | assumption):
  PS X (.Assign [.Name x pos'] e pos) (IF te (aX i)):=by
 intro pins s σ H D I h;refine wpAny_Assign_Name (cG (he pins s σ H _ I h) fun v s1 z9=>?_) hs;obtain⟨y,H1,I1,r1,q1⟩:=z9;exact jJ I1 hN hi hx r1 (fun s2 I2=>⟨_,H1,I2,q1⟩) hf
def OY(i j:Nat)(ta:TA):TS:=fun D σ H=>ta σ H fun vs H1=>∃v w,vs=[v,w]/\D.nx ((σ.set i (some v)).set j (some w)) H1
theorem IG{kt k2 pt2}(hc:X.calm=true)(hN:X.N.Nodup)(hi:X.N[i]?=some x)(hj:X.N[j]?=some y)(hij:i≠j)
  (hx:X.env.scope.names.lookup x=some .local) (hy:X.env.scope.names.lookup y=some .local) (ha:PA X [a,b] ta)
  (hw:swappedStores [.Tuple [.Name x px,.Name y py] kt pt] (.Tuple [a,b] k2 pt2) X.env=pure (some [x,y]))
  (hs:swapsWithSole [.Tuple [.Name x px,.Name y py] kt pt] (.Tuple [a,b] k2 pt2) pos.line X.env=pure false:=by rfl) :
  PS X (.Assign [.Tuple [.Name x px,.Name y py] kt pt] (.Tuple [a,b] k2 pt2) pos) (OY i j ta):=by
 intro pins s σ H D I h;rw[exec_Assign_arm];refine qAb (qIn ?_);rw[hs];refine qAb (qAe ?_);rw[if_neg (by decide)];refine qAb (Tuple_ (cG (ha _ pins s σ H _ I h) fun us s1 z9=>?_));obtain⟨vs,H1,I1,r1,q1⟩:=z9;obtain⟨v,w,e1,q1⟩:=q1;subst e1;obtain⟨u1,u2,rfl,rv,rw'⟩:∃u1 u2,us=[u1,u2]/\RelV v u1/\RelV w u2:=by
  cases r1 with
  | cons p q =>
   cases q with
   | cons p' q' =>
    cases q'
    exact⟨_,_,rfl,p,p'⟩
 refine qCk ?_ (qE);have I2:Inv X pins σ H1 { s1 with heap:=s1.heap.push { cls:=.type "tuple",data:=.seq [u1,u2].toArray } }:=I1.kept (t':=s1.toks) fun b o e=>qAh _ e;rw[hw];refine qAb (qAe ?_);show qBj (qBz X.prog X.w) X.A (do rule "assign.swapped-stores";let items <- unpackItems (.ref s1.heap.objs.size) 2 none;assignInOrder [fun v=>qPg X.env y v,fun v=>qPg X.env x v] items.reverse;pure Flow.next) _ _ _;refine qAb (qGq (qAb (unpackItems_tuple (items:=#[u1,u2]) (I.ok.hd hc) (IsTup.new s1.heap _) fun h' hx'=>?_)));have I3:=I2.kept (h':=h') (t':=s1.toks) fun b o e=>hx' b o (qBg (qAs e)) e;show qBj _ _ (assignInOrder [fun v=>qPg X.env y v,fun v=>qPg X.env x v] [u2,u1] >>= fun _=>pure Flow.next) _ _ _;refine qAb (assignInOrder_cons (wpAny_bindName (jJ I3 hN hj (.inl hy) rw' (fun s2 I4=>?_) (.inr hy))));refine assignInOrder_cons (wpAny_bindName (jJ I4 hN hi (.inl hx) rv (fun s3 I5=>assignInOrder_nil (qAe ?_)) (.inr hx)));rw[List.set_comm _ _ (Ne.symm hij)] at I5;exact⟨_,H1,I5,q1⟩
def OZ(i:Nat)(te:TE)(ti:OV):TS:=fun D σ H=>∃x,σ[i]?=some (some x)/\te σ H fun y H1=>ti x y H1 fun z H2=>D.nx (σ.set i (some z)) H2
theorem sJ(hN:X.N.Nodup)(hi:X.N[i]?=some x)(hx:Loc X.env.scope x)(he:PE X e te)(ho:OW X op ti)(hf:X.fn x=true\/X.env.scope.names.lookup x=some .local:=by first|exact .inl rfl | exact .inr rfl | assumption):
  PS X (.AugAssign (.Name x pos') op e pos) (OZ i te ti):=by
 intro pins s σ H D I h;obtain⟨v,e1,h⟩:=h;obtain⟨m,hn,hl⟩:=I.loc;have vis:OH X.env.scope x:=by rcases hx with k | k;exact .inl k;exact .inr (.inl k)
 obtain⟨u,r,l⟩:=hl i x v hi e1 vis;refine wpAny_AugAssign_Name ?_;have go:qBj (qBz X.prog X.w) X.A (eval e X.env) (fun w s₂=>qBj (qBz X.prog X.w) X.A (qOf op u w) (fun r s₃=>qBj (qBz X.prog X.w) X.A (storeName X.env x r) (fun _=>SP X pins D .next) X.xe s₃) X.xe s₂) X.xe s:=by
  refine cG (he pins s σ H _ I h) fun w s1 z9=>?_;obtain⟨y,H1,I1,r1,q1⟩:=z9;refine cG (ho pins s1 σ H1 v y u w _ I1 r r1 q1) fun z s2 z9=>?_;obtain⟨zv,H2,I2,r2,q2⟩:=z9;exact jJ I2 hN hi hx r2 (fun s3 I3=>⟨_,H2,I3,q2⟩) hf
 rcases l with ⟨hk,hm⟩ | ⟨hk,c,hc,hcell⟩
 .exact wpAny_loadName_local I.ok.kind hk hn hm go
 .rcases hk with hk | hk
  .exact wpAny_loadName_cell I.ok.kind hk hc hcell go
  .rcases hx with k | k
   .have:X.env.scope.names.lookup x=some .free:=hk;rw[k] at this;cases this
   .have:X.env.scope.names.lookup x=some .free:=hk;rw[k] at this;cases this
end
section
variable {X:Cx}{pos:Pos}
def IH(c:TT)(tb:TS):TS:=fun D σ H=>∃W:Nat->St->Hp->Prop,(∃m,W m σ H)/\∀m σ H,W m σ H ->
 c σ H fun b H1=>if b=true then ∃N:St->Hp->Prop,(∀σ' H',N σ' H'->∃m',m'<m/\W m' σ' H')/\tb { D with nx:=N,ct:=N,bk:=D.nx } σ H1 else D.nx σ H1
theorem iV(hp:PassesOwn (qBz X.prog X.w) X.A X.env X.xe)(hc:PT X c tc)(hb:uG X body tb):PS X (.While c body [] pos) (IH tc tb):=by
 intro pins s σ H D I h;obtain⟨W,⟨m0,w0⟩,turn⟩:=h;refine wpAny_While (codeAny_whileLoop (fun n s'=>∃σ' H',Inv X pins σ' H' s'/\W n σ' H') ?_ m0 ⟨σ,H,I,w0⟩);rintro n s1 ⟨σ1,H1,I1,w1⟩;refine qFl hp (cG (hc pins s1 σ1 H1 _ I1 (turn n σ1 H1 w1)) fun b s2 z9=>?_);obtain⟨H2,I2,q2⟩:=z9;cases b with
 | true =>
  obtain⟨N,hN,q2⟩:=q2;rw[if_pos rfl];refine qFl hp (cG (hb pins s2 σ1 H2 _ I2 q2) fun f s3 q3=>?_);cases f with
  | next =>
   obtain⟨σ3,H3,I3,n3⟩:=q3;obtain⟨m',hm,w3⟩:=hN σ3 H3 n3;exact⟨m',hm,σ3,H3,I3,w3⟩
  | cont =>
   obtain⟨σ3,H3,I3,n3⟩:=q3;obtain⟨m',hm,w3⟩:=hN σ3 H3 n3;exact⟨m',hm,σ3,H3,I3,w3⟩
  | brk=>exact q3
  | ret v=>exact q3
 | false =>
  rw[if_neg qAq];exact qJa ⟨σ1,H2,I2,q2⟩
end
structure It where
 go:Nat->Hp->Prop
 qF:Nat->Hp->V->Hp->Prop
 stop:Nat->Hp->Prop
def jN(X:Cx)(pins:List (Addr×Obj))(H:Hp)(b:Addr):Prop :=
 H b=none/\b≠X.env.locals/\b∉X.fs/\(b∈X.ex\/X.s₀.heap.objs.size<=b)/\(∀x c,X.env.cells.lookup x=some c->c≠b)/\∀p∈X.pn++pins,p.1≠b
theorem Inv.w8(I:Inv X pins σ H s)(hb:s.heap.objs.size<=b)(hn:H' b=none):jN X pins H' b:=by
 refine⟨hn,qGk (qBc I.lt hb),I.Iy hb,.inr (qCy I.sz hb),fun x c e z=>?_,fun p hp z=>?_⟩
 .obtain⟨v,q⟩:=I.cell x c e;exact absurd (qBc q.lt (by rw[z];exact hb)) (qDk _)
 .exact absurd (qBc (qAs (I.pin p hp).1) (by rw[z];exact hb)) (qDk _)
structure Turn (P:qBy) (w:qDg) (K:qAd) (tg:Expr) (J:It) (fp:List Addr) (it:Addr) (tn:Nat->Heap->Prop):Prop where
 mem:it∈fp
 obj:∀i h,tn i h->∀b∈fp,∃o,h.get? b=some o/\∀v,o.data≠.cell v
 keep:∀i h h',tn i h->(∀b∈fp,∀o,h.get? b=some o->h'.get? b=some o)->tn i h'
 item:∀(X:Cx),X.prog=P->X.w=w->X.K=K->X.calm=true->∀(i:Nat) (pins:List (Addr×Obj)) (s:qAp) (σ:St) (H:Hp) (E:qAl->qAp->Prop),Inv X pins σ H s->(∀b∈fp,jN X pins H b)->tn i s.heap->J.go i H ->
  qBj (qBz P w) X.A (qJc (.ref it)) (fun r s1=>∃u,r=some u /\
   qBj (qBz P w) X.A (qJd tg (.ref it) u) (fun _ s2=>∃x H',Inv X pins σ H' s2/\RelV x u/\J.qF i H x H'/\tn (i+1) s2.heap/\∀b∈fp,H' b=none) E s1) E s
 done:∀(X:Cx),X.prog=P->X.w=w->X.K=K->X.calm=true->∀(i:Nat) (pins:List (Addr×Obj)) (s:qAp) (σ:St) (H:Hp) (E:qAl->qAp->Prop),Inv X pins σ H s->(∀b∈fp,jN X pins H b)->tn i s.heap->J.stop i H ->
  qBj (qBz P w) X.A (qJc (.ref it)) (fun r s1=>r=none/\Inv X pins σ H s1) E s
 self:∀(A:qDl) (i:Nat) (s:qAp) (Q:qAl->qAp->Prop) (E:qAl->qAp->Prop),tn i s.heap->Q (.ref it) s->qBj (qBz P w) A (qNa (.ref it)) Q E s
abbrev TI:=St->Hp->(It->Hp->Prop)->Prop
def Qk(X:Cx)(pins:List (Addr×Obj))(σ:St)(tg:Expr)(R:It->Hp->Prop)(itv:qAl)(s2:qAp):Prop :=
 ∃(it:Addr) (fp:List Addr) (tn:Nat->Heap->Prop) (J:It) (H':Hp),itv = .ref it/\Inv X pins σ H' s2/\Turn X.prog X.w X.K tg J fp it tn/\tn 0 s2.heap/\(∀b∈fp,jN X pins H' b)/\R J H'
def PI(X:Cx)(tg iter:Expr)(wi:TI):Prop :=
 ∀(pins:List (Addr×Obj)) (s:qAp) (σ:St) (H:Hp) (R:It->Hp->Prop),Inv X pins σ H s->wi σ H R ->
  qBj (qBz X.prog X.w) X.A (eval iter X.env) (fun v s1=>qBj (qBz X.prog X.w) X.A (qNa v) (Qk X pins σ tg R) X.xe s1) X.xe s
theorem uN(ho:s.heap.get? it=some o)(hc:o.cls = .type n)(hd:o.data = .fields vs)
    (hn:["enumerate","zip","dict_itemiterator","dict_reverseitemiterator","odict_iterator","itertools.zip_longest","itertools.pairwise"].contains n=false) (hQ:Q () s):qBj M A (qJd tg (.ref it) u) Q E s:=by
  delta qJd
  cases tg <;> first
    | exact qAe hQ
    | (cases u <;> first
        | exact qAe hQ
        | (refine qAb (wpAny_load ho ?_)
           rw[hc,hd]
           show qBj M A (if (["enumerate","zip","dict_itemiterator","dict_reverseitemiterator","odict_iterator","itertools.zip_longest","itertools.pairwise"].contains n&&vs[0]? == some (qJp _))=true then _ else _) Q E s
           rw[if_neg (by intro h;rw[hn,qGe] at h;cases h)]
           exact qAe hQ))
noncomputable def zA(K:qAd)(a:Addr):It :=
 ⟨fun i H=>∃xs x,aS K H a xs/\xs[i]?=some x,fun i H x H'=>H'=H/\∀xs,aS K H a xs->xs[i]?=some x,fun i H=>∃xs,aS K H a xs/\xs.length<=i⟩
noncomputable def MT(K:qAd)(a:Addr):It :=
 ⟨fun i H=>∃xs x,cE K H a xs/\xs[i]?=some x,fun i H x H'=>H'=H/\∀xs,cE K H a xs->xs[i]?=some x,fun i H=>∃xs,cE K H a xs/\xs.length<=i⟩
noncomputable def qG(lo:Int)(n:Nat):It:=⟨fun i _=>i<n,fun i H x H'=>H'=H/\x = .int (lo+i),fun i _=>n<=i⟩
theorem AV{P:qBy}{w:qDg}{K:qAd}{tg:Expr}(a it:Addr):Turn P w K tg (zA K a) [it] it (fun i h=>h.IsListIter it a i) where
 mem:=by simp
 obj:=fun i h st b hb=>by
  have e:b=it:=by simpa using hb
  subst e;obtain⟨o,e,c,d⟩:=st;exact⟨o,e,fun v z=>by rw[d] at z;cases z⟩
 keep:=fun i h h' st k=>st.at fun o e=>k it (by simp) o e
 item:=by
  intro X hP hw hK hc i pins s σ H E I hf st hg;subst hP hw hK;obtain⟨xs,x,hq,hx⟩:=hg;obtain⟨its,rv,p,hz⟩:=I.list hq;obtain⟨u,hu,ru⟩:=rv.get hx;obtain⟨f0,f1,f2,f3,f4,f5⟩:=hf it (by simp);refine wpAny_pyNext_list_item st p.isList (x:=u) (by simpa using hu) fun h' st' sb=>?_;have I1:Inv X pins σ H { s with heap:=h' }:=I.turned (t':=s.toks) (fun b o hb e=>(sb.2 b hb).trans e) f0 f1 f3 f4 f5;obtain⟨o,e,c,d⟩:=id st';exact⟨u,rfl,uN (s:={ s with heap:=h' }) e c d #[1] ⟨x,H,I1,ru,⟨rfl,fun ys hy=>by rw[I.jL hy hq];exact hx⟩,st',fun b hb=>(hf b hb).1⟩⟩
 done:=by
  intro X hP hw hK hc i pins s σ H E I hf st hg;subst hP hw hK;obtain⟨xs,hq,hx⟩:=hg;obtain⟨its,rv,p,hz⟩:=I.list hq;obtain⟨f0,f1,f2,f3,f4,f5⟩:=hf it (by simp);have hl:=rv.length;exact wpAny_pyNext_list_end (I.ok.hd hc) st p.isList (by simp;lia) fun h' eb=>⟨rfl,I.turned (t':=s.toks) (fun b o hb e=>eb b o hb e) f0 f1 f3 f4 f5⟩
 self:=fun _ _ _ _ _ st h=>wpAny_pyIter_listiter st h
theorem xA{P:qBy}{w:qDg}{K:qAd}{tg:Expr}(a it:Addr):Turn P w K tg (MT K a) [it] it (fun i h=>h.IsTupleIter it a i) where
 mem:=by simp
 obj:=fun i h st b hb=>by
  have e:b=it:=by simpa using hb
  subst e;obtain⟨o,e,c,d⟩:=st;exact⟨o,e,fun v z=>by rw[d] at z;cases z⟩
 keep:=fun i h h' st k=>st.at fun o e=>k it (by simp) o e
 item:=by
  intro X hP hw hK hc i pins s σ H E I hf st hg;subst hP hw hK;obtain⟨xs,x,hq,hx⟩:=hg;obtain⟨its,rv,p,hz⟩:=I.tuple hq;obtain⟨u,hu,ru⟩:=rv.get hx;obtain⟨f0,f1,f2,f3,f4,f5⟩:=hf it (by simp);refine wpAny_pyNext_tuple_item st (show s.heap.IsTuple a its.toArray from p) (x:=u) (by simpa using hu) fun h' st' sb=>?_;have I1:Inv X pins σ H { s with heap:=h' }:=I.turned (t':=s.toks) (fun b o hb e=>(sb.2 b hb).trans e) f0 f1 f3 f4 f5;obtain⟨o,e,c,d⟩:=id st';exact⟨u,rfl,uN (s:={ s with heap:=h' }) e c d #[1] ⟨x,H,I1,ru,⟨rfl,fun ys hy=>by rw[I.AU hy hq];exact hx⟩,st',fun b hb=>(hf b hb).1⟩⟩
 done:=by
  intro X hP hw hK hc i pins s σ H E I hf st hg;subst hP hw hK;obtain⟨xs,hq,hx⟩:=hg;obtain⟨its,rv,p,hz⟩:=I.tuple hq;obtain⟨f0,f1,f2,f3,f4,f5⟩:=hf it (by simp);have hl:=rv.length;exact wpAny_pyNext_tuple_end (I.ok.hd hc) st (show s.heap.IsTuple a its.toArray from p) (by simp;lia) fun h' eb=>⟨rfl,I.turned (t':=s.toks) (fun b o hb e=>eb b o hb e) f0 f1 f3 f4 f5⟩
 self:=fun _ _ _ _ _ st h=>wpAny_pyIter_tupleiter st h
theorem xB{P:qBy}{w:qDg}{K:qAd}{tg:Expr}(it:Addr)(lo:Int)(n:Nat):Turn P w K tg (qG lo n) [it] it (fun i h=>IsRangeIter h it (lo+(i:Nat)*1) ((n:Int)-(i:Nat)) 1) where
 mem:=by simp
 obj:=fun i h st b hb=>by
  have e:b=it:=by simpa using hb
  subst e;exact⟨_,st,fun v z=>by
   have z':Data.fields _=Data.cell v:=z;cases z'⟩
 keep:=fun i h h' st k=>k it (by simp) _ st
 item:=by
  intro X hP hw hK hc i pins s σ H E I hf st hg;subst hP hw hK;obtain⟨f0,f1,f2,f3,f4,f5⟩:=hf it (by simp);have W:=Walks.range (prog:=X.prog) (w:=X.w) (I.ok.hd hc) it lo 1 n;refine W.item i s _ _ hg st fun v h' tk hv st' kk=>?_;obtain⟨t,rfl⟩:=hv;have I1:Inv X pins σ H { s with heap:=h',toks:=tk }:=I.turned (fun b o hb e=>kk b o (by simpa using hb) e) f0 f1 f3 f4 f5;refine⟨_,rfl,uN (s:={ s with heap:=h',toks:=tk }) (n:="range_iterator") st' rfl rfl #[1] ⟨.int (lo+i),H,I1,⟨t,?_⟩,⟨rfl,rfl⟩,st',fun b hb=>(hf b hb).1⟩⟩;rw[qHc]
 done:=by
  intro X hP hw hK hc i pins s σ H E I hf st hg;subst hP hw hK;obtain⟨f0,f1,f2,f3,f4,f5⟩:=hf it (by simp);exact wpAny_pyNext_range_end (I.ok.hd hc) st (by have:n<=i:=hg;lia) fun h' eb=>⟨rfl,I.turned (t':=s.toks) (fun b o hb e=>eb b o hb e) f0 f1 f3 f4 f5⟩
 self:=fun _ _ _ _ _ st h=>wpAny_pyIter_rangeiter st h
section
variable {X:Cx}{tg:Expr}
def GW(K:qAd)(tl:TE):TI:=fun σ H R=>tl σ H fun x H1=>∃a,x = .ref a/\(∃xs,aS K H1 a xs)/\R (zA K a) H1
def Pb(K:qAd)(tl:TE):TI:=fun σ H R=>tl σ H fun x H1=>∃a,x = .ref a/\(∃xs,cE K H1 a xs)/\R (MT K a) H1
theorem bL{l:Expr}{tl:TE}(hl:PE X l tl):PI X tg l (GW X.K tl):=by
 intro pins s σ H R I h;refine cG (hl pins s σ H _ I h) fun v s1 z9=>?_;obtain⟨x,H1,I1,r1,q1⟩:=z9;obtain⟨a,e,⟨xs,hq⟩,q⟩:=q1;subst e;cases r1;obtain⟨its,rv,p,hz⟩:=I1.list hq;refine qIc p.isList ?_;refine⟨s1.heap.objs.size,[s1.heap.objs.size],_,_,H1,rfl,I1.kept (t':=s1.toks) fun b o e=>qAh _ e,AV a _,⟨_,qAt _ rfl,rfl,rfl⟩,fun b hb=>?_,q⟩;have e:b=s1.heap.objs.size:=by simpa using hb
 subst e;exact I1.w8 (qAg _) (I1.cO.fresh (qAg _))
theorem II{l:Expr}{tl:TE}(hl:PE X l tl):PI X tg l (Pb X.K tl):=by
 intro pins s σ H R I h;refine cG (hl pins s σ H _ I h) fun v s1 z9=>?_;obtain⟨x,H1,I1,r1,q1⟩:=z9;obtain⟨a,e,⟨xs,hq⟩,q⟩:=q1;subst e;cases r1;obtain⟨its,rv,p,hz⟩:=I1.tuple hq;refine wpAny_pyIter_tuple (show s1.heap.IsTuple a its.toArray from p) ?_;refine⟨s1.heap.objs.size,[s1.heap.objs.size],_,_,H1,rfl,I1.kept (t':=s1.toks) fun b o e=>qAh _ e,xA a _,⟨_,qAt _ rfl,rfl,rfl⟩,fun b hb=>?_,q⟩;have e:b=s1.heap.objs.size:=by simpa using hb
 subst e;exact I1.w8 (qAg _) (I1.cO.fresh (qAg _))
theorem uO{pins:List (Addr×Obj)}{σ:St}{H:Hp}{s:qAp}{R:It->Hp->Prop}{E:qAl->qAp->Prop}{lo hi:Int}{t u v:Tok}{tk:Nat}(I:Inv X pins σ H s)(h1:-(2^62)<=lo)(h2:lo<2^62)(h3:-(2^62)<=hi)(h4:hi<2^62)
  (q:R (qG lo (hi-lo).toNat) H):qBj (qBz X.prog X.w) X.A (qNa (.ref s.heap.objs.size)) (Qk X pins σ tg R) E { s with heap:=s.heap.push { cls:=.type "range",data:=.fields #[.int lo t,.int hi u,.int 1 v] },toks:=tk }:=by
 refine wpAny_pyIter_range (IsRange.new ..) (small_one h1 h2 h3 h4) ?_;have I1:Inv X pins σ H { s with heap:=s.heap.push { cls:=.type "range",data:=.fields #[.int lo t,.int hi u,.int 1 v] },toks:=tk }:=I.kept fun b o e=>qAh _ e;refine⟨(s.heap.push { cls:=.type "range",data:=.fields #[.int lo t,.int hi u,.int 1 v] }).objs.size,[(s.heap.push { cls:=.type "range",data:=.fields #[.int lo t,.int hi u,.int 1 v] }).objs.size],_,_,H,rfl,
  I1.kept (t':=tk) fun b o e=>qAh _ e,xB _ lo (hi-lo).toNat,?_,fun b hb=>?_,q⟩
 .have e1:lo+((0:Nat):Int)*1=lo:=by simp
  have e2:(((hi-lo).toNat:Nat):Int)-((0:Nat):Int)=Builtin.Range.rangeSize lo hi 1:=by rw[rangeSize_one];split <;> lia
  show IsRangeIter _ _ (lo+((0:Nat):Int)*1) ((((hi-lo).toNat:Nat):Int)-((0:Nat):Int)) 1;rw[e1,e2];exact qAt _ rfl
 .have e:b=(s.heap.push { cls:=.type "range",data:=.fields #[.int lo t,.int hi u,.int 1 v] }).objs.size:=by simpa using hb
  subst e;exact I1.w8 (qAg _) (I1.cO.fresh (qAg _))
def MU(ta:TA):TI:=fun σ H R=>ta σ H fun vs H1=>∃j:Int,vs=[.int j]/\-(2^62)<=j/\j<2^62/\R (qG 0 j.toNat) H1
def MV(ta:TA):TI:=fun σ H R=>ta σ H fun vs H1=>∃i j:Int,vs=[.int i,.int j]/\(-(2^62)<=i/\i<2^62/\-(2^62)<=j/\j<2^62)/\R (qG i (j-i).toNat) H1
theorem bY{a:Expr}{ta:TA}{p pos:Pos}(hg:Gl X "range")(hm:X.mg "range"=none)(ha:PA X [a] ta)(hs:qBt [a] X.env=[(false,eval a X.env)]:=by rfl):PI X tg (.Call (.Name "range" p) [a] [] pos) (MU ta):=by
 intro pins s σ H R I h;refine qOg (fV I hg hm boot_range (qCg (cG (ha pos pins s σ H _ I h) fun us s1 z9=>?_) hs rfl));obtain⟨vs,H1,I1,r1,q1⟩:=z9;obtain⟨j,e,q1,q2,q⟩:=q1;subst e;cases r1 with
 | cons r rr =>
  cases rr
  obtain⟨t,rfl⟩:=r;exact call_range_1 (uO I1 (by lia) (by lia) q1 q2 (by simpa using q))
theorem gZ(hg:Gl X "range")(hm:X.mg "range"=none)(ha:PA X [a,b] ta)(hs:qBt [a,b] X.env=[(false,eval a X.env),(false,eval b X.env)]:=by rfl)(hs2:qBt [b] X.env=[(false,eval b X.env)]:=by rfl):
  PI X tg (.Call (.Name "range" p) [a,b] [] pos) (MV ta):=by
 intro pins s σ H R I h;refine qOg (fV I hg hm boot_range (qCg (cG (ha pos pins s σ H _ I h) fun us s1 z9=>?_) (by rw[hs,hs2]) (by rw[hs2];rfl)));obtain⟨vs,H1,I1,r1,q1⟩:=z9;obtain⟨i,j,e,⟨q1,q2,q3,q4⟩,q⟩:=q1;subst e;cases r1 with
 | cons r rr =>
  cases rr with
  | cons r' rr =>
   cases rr
   obtain⟨t,rfl⟩:=r;obtain⟨t',rfl⟩:=r';exact call_range_2 (uO I1 q1 q2 q3 q4 q)
def Pc(wi:TI)(g:TG)(tb:TS):TS:=fun D σ H=>wi σ H fun J H1=>∃W:Nat->Nat->St->Hp->Prop,(∃m,W 0 m σ H1)/\∀i m σ H,W i m σ H ->
 (J.stop i H/\D.nx σ H)\/(J.go i H/\∃N:St->Hp->Prop,(∀σ' H',N σ' H'->∃m',m'<m/\W (i+1) m' σ' H')/\∀x H',J.qF i H x H'->g x σ H' fun σ2 H2=>tb { D with nx:=N,ct:=N,bk:=D.nx } σ2 H2)
noncomputable def mT(fp:List Addr)(h:Heap):List (Addr×Obj):=fp.filterMap fun b=>(h.get? b).map fun o=>(b,o)
theorem fW(hb:b∈fp)(e:h.get? b=some o):(b,o)∈mT fp h:=List.mem_filterMap.mpr ⟨b,hb,by rw[e];rfl⟩
theorem AW(hp:p∈mT fp h):p.1∈fp/\h.get? p.1=some p.2:=by
 obtain⟨b,hb,e⟩:=List.mem_filterMap.mp hp;cases q:h.get? b with
 | none=>rw[q] at e;cases e
 | some o =>
  rw[q] at e;have e':(b,o)=p:=Option.some.inj e;subst e';exact⟨hb,q⟩
theorem Inv.pinned(I:Inv X pins σ H s)(hf:∀b∈fp,jN X pins H b)(ho:∀b∈fp,∃o,s.heap.get? b=some o/\∀v,o.data≠.cell v):Inv X (pins++mT fp s.heap) σ H s :=
 I.y8 fun p hp=>(List.mem_append.mp hp).elim (fun z=>I.pin p (qBa _ z)) fun z=>by
  obtain⟨hb,e⟩:=AW z;obtain⟨f0,f1,f2,_⟩:=hf p.1 hb;obtain⟨o,e',d⟩:=ho p.1 hb;rw[e] at e';cases e';exact⟨e,f0,f1,f2,d⟩
theorem Inv.jO(I:Inv X (pins++pl) σ H s):Inv X pins σ H s:=I.y8 fun p hp=>I.pin p (qBa _ (qCb _ hp))
theorem cF(hp:PassesOwn (qBz X.prog X.w) X.A X.env X.xe)(hc:X.calm=true)(hi:PI X tg iter wi)(hg:PG X tg g)(hb:uG X body tb)
  (hs:∀x,qFq iter X.env x=pure x:=by intro _;rfl):PS X (.For tg iter body [] pos) (Pc wi g tb):=by
 intro pins s σ H D I h;refine wpAny_For (cG (hi pins s σ H _ I h) fun v s1 h1=>cG h1 fun itv s2 h2=>?_) hs;obtain⟨it,fp,tn,J,H2,e,I2,T,st2,f2,W,⟨m0,w0⟩,turn⟩:=h2;subst e;have stat:∀{H':Hp},(∀b∈fp,H' b=none)->∀b∈fp,jN X pins H' b:=fun hn b hb=>⟨hn b hb,(f2 b hb).2⟩;refine codeAny_forLoop_any (fun n s'=>∃i σ' H',Inv X pins σ' H' s'/\tn i s'.heap/\(∀b∈fp,H' b=none)/\W i n σ' H') ?_ m0 ⟨0,σ,H2,I2,st2,fun b hb=>(f2 b hb).1,w0⟩;rintro n s3 ⟨i,σ3,H3,I3,st3,fr3,w3⟩;rcases turn i n σ3 H3 w3 with ⟨stop,qn⟩ | ⟨go,N,hN,step⟩
 .refine qFl hp (cG (T.done X rfl rfl rfl hc i pins s3 σ3 H3 X.xe I3 (stat fr3) st3 stop) fun r s4 z9=>?_);obtain⟨hr,I4⟩:=z9;subst hr;exact qJa ⟨σ3,H3,I4,qn⟩
 .refine qFl hp (cG (T.item X rfl rfl rfl hc i pins s3 σ3 H3 X.xe I3 (stat fr3) st3 go) fun r s4 z9=>?_);obtain⟨u,hr,h4⟩:=z9;subst hr;refine qFl hp (cG h4 fun _ s5 z9=>?_);obtain⟨x,H5,I5,r5,y5,st5,fr5⟩:=z9;have I5':=I5.pinned (stat fr5) (T.obj _ _ st5);refine qFl hp (cG (hg _ s5 σ3 H5 x u _ I5' r5 (step x H5 y5)) fun _ s6 z9=>?_);obtain⟨σ6,H6,I6,q6⟩:=z9;refine qFl hp (cG (hb _ s6 σ6 H6 _ I6 q6) fun f s7 q7=>?_);have qNn:∀{σ7:St}{H7:Hp},Inv X (pins++mT fp s5.heap) σ7 H7 s7->N σ7 H7->∃m,m<n/\∃i σ' H',Inv X pins σ' H' s7/\tn i s7.heap/\(∀b∈fp,H' b=none)/\W i m σ' H':=fun {σ7 H7} I7 n7=>by
   obtain⟨m',hm,w7⟩:=hN σ7 H7 n7;refine⟨m',hm,i+1,σ7,H7,I7.jO,T.keep _ _ _ st5 fun b hb o e=>(I7.pin (b,o) (qBa _ (qBa _ (fW hb e)))).1,fun b hb=>?_,w7⟩;obtain⟨o,e,d⟩:=T.obj _ _ st5 b hb;exact(I7.pin (b,o) (qBa _ (qBa _ (fW hb e)))).2.1
  cases f with
  | next=>obtain⟨σ7,H7,I7,n7⟩:=q7;exact qNn I7 n7
  | cont=>obtain⟨σ7,H7,I7,n7⟩:=q7;exact qNn I7 n7
  | brk=>obtain⟨σ7,H7,I7,q7⟩:=q7;exact⟨σ7,H7,I7.jO,q7⟩
  | ret v=>obtain⟨x7,σ7,H7,I7,r7,q7⟩:=q7;exact⟨x7,σ7,H7,I7.jO,r7,q7⟩
end
theorem dX{K:qAd}{a:Addr}{xs:List V}{g:TG}{tb:TS}{D:Ends}{σ:St}{H:Hp}(Pv:Nat->St->Hp->Prop)(h0:Pv 0 σ H)(hl:∀i σ H,i<=xs.length->Pv i σ H->aS K H a xs)
  (hs:∀i x σ H,xs[i]?=some x->Pv i σ H->g x σ H fun σ2 H2=>tb { D with nx:=Pv (i+1),ct:=Pv (i+1),bk:=D.nx } σ2 H2) (hd:∀σ H,Pv xs.length σ H->D.nx σ H) :
  ∃W:Nat->Nat->St->Hp->Prop,(∃m,W 0 m σ H)/\∀i m σ H,W i m σ H ->
   ((zA K a).stop i H/\D.nx σ H)\/((zA K a).go i H/\∃N:St->Hp->Prop,(∀σ' H',N σ' H'->∃m',m'<m/\W (i+1) m' σ' H')/\∀x H',(zA K a).qF i H x H'->g x σ H' fun σ2 H2=>tb { D with nx:=N,ct:=N,bk:=D.nx } σ2 H2):=by
 refine⟨fun i m σ H=>m=xs.length-i/\i<=xs.length/\Pv i σ H,⟨xs.length,by simp,qBn _,h0⟩,?_⟩;rintro i m σ H ⟨rfl,hi,p⟩;have q:=hl i σ H hi p;by_cases hlt:i<xs.length
 .refine .inr ⟨⟨xs,xs[i],q,by simp[hlt]⟩,Pv (i+1),fun σ' H' p'=>⟨xs.length-(i+1),by lia,rfl,hlt,p'⟩,fun x H' y=>?_⟩;obtain⟨e,y⟩:=y;subst e;exact hs i x σ _ (y xs q) p
 .have e:i=xs.length:=by lia
  subst e;exact .inl ⟨⟨xs,q,qAg _⟩,hd σ H p⟩
theorem Fm{K:qAd}{a:Addr}{xs:List V}{g:TG}{tb:TS}{D:Ends}{σ:St}{H:Hp}(Pv:Nat->St->Hp->Prop)(h0:Pv 0 σ H)(hl:∀i σ H,i<=xs.length->Pv i σ H->cE K H a xs)
  (hs:∀i x σ H,xs[i]?=some x->Pv i σ H->g x σ H fun σ2 H2=>tb { D with nx:=Pv (i+1),ct:=Pv (i+1),bk:=D.nx } σ2 H2) (hd:∀σ H,Pv xs.length σ H->D.nx σ H) :
  ∃W:Nat->Nat->St->Hp->Prop,(∃m,W 0 m σ H)/\∀i m σ H,W i m σ H ->
   ((MT K a).stop i H/\D.nx σ H)\/((MT K a).go i H/\∃N:St->Hp->Prop,(∀σ' H',N σ' H'->∃m',m'<m/\W (i+1) m' σ' H')/\∀x H',(MT K a).qF i H x H'->g x σ H' fun σ2 H2=>tb { D with nx:=N,ct:=N,bk:=D.nx } σ2 H2):=by
 refine⟨fun i m σ H=>m=xs.length-i/\i<=xs.length/\Pv i σ H,⟨xs.length,by simp,qBn _,h0⟩,?_⟩;rintro i m σ H ⟨rfl,hi,p⟩;have q:=hl i σ H hi p;by_cases hlt:i<xs.length
 .refine .inr ⟨⟨xs,xs[i],q,by simp[hlt]⟩,Pv (i+1),fun σ' H' p'=>⟨xs.length-(i+1),by lia,rfl,hlt,p'⟩,fun x H' y=>?_⟩;obtain⟨e,y⟩:=y;subst e;exact hs i x σ _ (y xs q) p
 .have e:i=xs.length:=by lia
  subst e;exact .inl ⟨⟨xs,q,qAg _⟩,hd σ H p⟩
theorem dJ{lo:Int}{n:Nat}{g:TG}{tb:TS}{D:Ends}{σ:St}{H:Hp}(Pv:Nat->St->Hp->Prop)(h0:Pv 0 σ H)
  (hs:∀i σ H,i<n->Pv i σ H->g (.int (lo+i)) σ H fun σ2 H2=>tb { D with nx:=Pv (i+1),ct:=Pv (i+1),bk:=D.nx } σ2 H2) (hd:∀σ H,Pv n σ H->D.nx σ H) :
  ∃W:Nat->Nat->St->Hp->Prop,(∃m,W 0 m σ H)/\∀i m σ H,W i m σ H ->
   ((qG lo n).stop i H/\D.nx σ H)\/((qG lo n).go i H/\∃N:St->Hp->Prop,(∀σ' H',N σ' H'->∃m',m'<m/\W (i+1) m' σ' H')/\∀x H',(qG lo n).qF i H x H'->g x σ H' fun σ2 H2=>tb { D with nx:=N,ct:=N,bk:=D.nx } σ2 H2):=by
 refine⟨fun i m σ H=>m=n-i/\i<=n/\Pv i σ H,⟨n,by simp,qBn _,h0⟩,?_⟩;rintro i m σ H ⟨rfl,hi,p⟩;by_cases hlt:i<n
 .refine .inr ⟨hlt,Pv (i+1),fun σ' H' p'=>⟨n-(i+1),by lia,rfl,hlt,p'⟩,fun x H' y=>?_⟩;obtain⟨e,y⟩:=y;subst e y;exact hs i σ _ hlt p
 .have e:i=n:=by lia
  subst e;exact .inl ⟨qAg _,hd σ H p⟩
abbrev R2:=V->V->Hp->VK->Prop
def iW(X:Cx)(f:qAl->qAl->Sem qAl)(r:R2):Prop :=
 ∀(pins:List (Addr×Obj)) (s:qAp) (σ:St) (H:Hp) (x y:V) (v u:qAl) (Q:VK),Inv X pins σ H s->RelV x v->RelV y u->r x y H Q ->
  qBj (qBz X.prog X.w) X.A (f v u) (EP X pins σ Q) X.xe s
def OJ(X:Cx)(f:qAl->Sem qAl)(r:V->Hp->VK->Prop):Prop :=
 ∀(pins:List (Addr×Obj)) (s:qAp) (σ:St) (H:Hp) (x:V) (v:qAl) (Q:VK),Inv X pins σ H s->RelV x v->r x H Q ->
  qBj (qBz X.prog X.w) X.A (f v) (EP X pins σ Q) X.xe s
def g6(X:Cx)(f:qAl)(r:List V->Hp->VK->Prop):Prop :=
 ∀(pins:List (Addr×Obj)) (s:qAp) (σ:St) (H:Hp) (xs:List V) (us:List qAl) (Q:VK),Inv X pins σ H s->Vals xs us->r xs H Q ->
  qBj (qBz X.prog X.w) X.A (call f us) (EP X pins σ Q) X.xe s
def OK(r:R2)(ta tb:TE):TE:=fun σ H Q=>ta σ H fun x H1=>tb σ H1 fun y H2=>r x y H2 Q
def Qw(r:V->Hp->VK->Prop)(ta:TE):TE:=fun σ H Q=>ta σ H fun x H1=>r x H1 Q
def rI(C:Int->Int->Prop)(g:Int->Int->V):R2:=fun x y H Q=>∃i j,x = .int i/\y = .int j/\C i j/\Q (g i j) H
def Cd(g:Int->Int->V):R2:=fun x y H Q=>∃i j,x = .int i/\y = .int j/\Q (g i j) H
def rU(g:Int->V):V->Hp->VK->Prop:=fun x H Q=>∃i,x = .int i/\Q (g i) H
section
variable {X:Cx}{a b c:Expr}{ta tb tc:TE}{pos:Pos}
theorem IJ(ha:PE X a ta)(hb:PE X b tb){pins:List (Addr×Obj)}{s:qAp}{σ:St}{H:Hp}{R:V->V->Hp->Prop}(I:Inv X pins σ H s)
  (h:ta σ H fun x H1=>tb σ H1 fun y H2=>R x y H2){Q:qAl->qAp->Prop}{f:qAl->qAl->Sem qAl}
  (hf:∀v u s2 x y H2,Inv X pins σ H2 s2->RelV x v->RelV y u->R x y H2->qBj (qBz X.prog X.w) X.A (f v u) Q X.xe s2) :
  qBj (qBz X.prog X.w) X.A (eval a X.env) (fun v s₁=>qBj (qBz X.prog X.w) X.A (eval b X.env) (fun u s₂=>qBj (qBz X.prog X.w) X.A (f v u) Q X.xe s₂) X.xe s₁) X.xe s:=by
 refine cG (ha pins s σ H _ I h) fun v s1 z9=>?_;obtain⟨x,H1,I1,r1,q1⟩:=z9;refine cG (hb pins s1 σ H1 _ I1 q1) fun u s2 z9=>?_;obtain⟨y,H2,I2,r2,q2⟩:=z9;exact hf v u s2 x y H2 I2 r1 r2 q2
theorem aM(ho:iW X (qFc op) r)(ha:PE X a ta)(hb:PE X b tb):PE X (.BinOp a op b pos) (OK r ta tb):=by
 intro pins s σ H Q I h;exact wpAny_BinOp (IJ ha hb I h fun v u s2 x y H2 I2 rx ry q=>ho pins s2 σ H2 x y v u Q I2 rx ry q)
theorem jG(ho:OJ X (unaryOp op) r)(ha:PE X a ta):PE X (.UnaryOp op a pos) (Qw r ta):=by
 intro pins s σ H Q I h;exact UnaryOp_ (cG (ha pins s σ H _ I h) (by rintro v s1 ⟨x,H1,I1,r1,q1⟩;exact ho pins s1 σ H1 x v Q I1 r1 q1))
theorem GX{f:qAl->qAl->Sem qAl}{C:Int->Int->Prop}{g:Int->Int->Int}
  (rule:∀(i j:Int) (t u:Tok) (s:qAp) (Q:qAl->qAp->Prop) (E:qAl->qAp->Prop),C i j->Q (.int (g i j) s.toks) { s with toks:=s.toks+1 }->qBj (qBz X.prog X.w) X.A (f (.int i t) (.int j u)) Q E s) :
  iW X f (rI C fun i j=>.int (g i j)):=by
 intro pins s σ H x y v u Q I rx ry h;obtain⟨i,j,rfl,rfl,hc,q⟩:=h;obtain⟨t,rfl⟩:=rx;obtain⟨t',rfl⟩:=ry;exact rule i j t t' s _ _ hc ⟨.int (g i j),H,I.tok _,⟨_,rfl⟩,q⟩
theorem Ce{f:qAl->qAl->Sem qAl}{g:Int->Int->Int}
  (rule:∀(i j:Int) (t u:Tok) (s:qAp) (Q:qAl->qAp->Prop) (E:qAl->qAp->Prop),Q (.int (g i j) s.toks) { s with toks:=s.toks+1 }->qBj (qBz X.prog X.w) X.A (f (.int i t) (.int j u)) Q E s) :
  iW X f (Cd fun i j=>.int (g i j)):=by
 intro pins s σ H x y v u Q I rx ry h;obtain⟨i,j,rfl,rfl,q⟩:=h;obtain⟨t,rfl⟩:=rx;obtain⟨t',rfl⟩:=ry;exact rule i j t t' s _ _ ⟨.int (g i j),H,I.tok _,⟨_,rfl⟩,q⟩
theorem Fn{f:qAl->qAl->Sem qAl}{g:Int->Int->Bool}
  (rule:∀(i j:Int) (t u:Tok) (s:qAp) (Q:qAl->qAp->Prop) (E:qAl->qAp->Prop),Q (.bool (g i j)) s->qBj (qBz X.prog X.w) X.A (f (.int i t) (.int j u)) Q E s) :
  iW X f (Cd fun i j=>.bl (g i j)):=by
 intro pins s σ H x y v u Q I rx ry h;obtain⟨i,j,rfl,rfl,q⟩:=h;obtain⟨t,rfl⟩:=rx;obtain⟨t',rfl⟩:=ry;exact rule i j t t' s _ _ ⟨.bl (g i j),H,I,rfl,q⟩
def Pd(i j:Int):Prop:=0<j/\j<1073741824
def MW(i j:Int):Prop:=0<=j/\j<=1000000/\i.natAbs<2^64
def Fo(i j:Int):Prop:=(-(2^64)<i/\i<2^64)\/(-(2^64)<j/\j<2^64)
theorem Fo.ok(h:Fo i j):IntMulOk i j:=by
 rcases h with ⟨h1,h2⟩ | ⟨h1,h2⟩
 .exact .of_left (intBits_le_64 h1 h2)
 .exact .of_right (intBits_le_64 h1 h2)
theorem xC(k:Nat):(0:Int)<=2^k:=by
 rw[two_pow_cast];exact Int.natCast_nonneg _
theorem fF:iW X (qFc .Add) (Cd fun i j=>.int (i+j)):=Ce fun _ _ _ _ _ _ _ q=>add_int q
theorem fG:iW X (qFc .Sub) (Cd fun i j=>.int (i-j)):=Ce fun _ _ _ _ _ _ _ q=>sub_int q
theorem xD:iW X (qFc .Mult) (rI Fo fun i j=>.int (i*j)):=GX fun _ _ _ _ _ _ _ hc q=>mul_int q hc.ok
theorem iJ:iW X (qFc .FloorDiv) (rI Pd fun i j=>.int (i/j)):=GX fun i j _ _ _ _ _ hc q=>by
 have h1:(0:Int)<j:=hc.1;have h2:j<1073741824:=hc.2;exact floordiv_int (by lia) (by rw[qFk i (by lia)];exact q) (.inl (PyProof.noPylong_small (by lia)))
theorem cH:iW X (qFc .Mod) (rI (fun _ j=>0<j) fun i j=>.int (i%j)):=GX fun i j _ _ _ _ _ hc q=>by
 have h1:(0:Int)<j:=hc;exact mod_int' (by lia) (by rw[Int.fmod_eq_emod_of_nonneg i (by lia)];exact q)
theorem xE:iW X (qFc .Pow) (rI MW fun i j=>.int (i^j.toNat)):=GX fun _ _ _ _ _ _ _ hc q=>pow_int_small hc.1 hc.2.1 hc.2.2 q
theorem sM:iW X (qFc .LShift) (rI MW fun i j=>.int (i*2^j.toNat)):=GX fun _ _ _ _ _ _ _ hc q=>lshift_int_small hc.1 hc.2.1 hc.2.2 q
theorem kW:iW X (qFc .RShift) (rI (fun _ j=>0<=j) fun i j=>.int (i/2^j.toNat)):=GX fun i j _ _ _ _ _ hc q =>
 rshift_int hc (by rw[qFk i (xC _)];exact q)
theorem jB:iW X (qFc .BitAnd) (Cd fun i j=>.int (qCu i j)):=Ce fun _ _ _ _ _ _ _ q=>and_int q
theorem MX:iW X (qFc .BitOr) (Cd fun i j=>.int (qLc i j)):=Ce fun _ _ _ _ _ _ _ q=>or_int q
theorem IK:iW X (qFc .BitXor) (Cd fun i j=>.int (qKj i j)):=Ce fun _ _ _ _ _ _ _ q=>xor_int q
theorem Qx{f:qAl->Sem qAl}{g:Int->Int}
  (rule:∀(i:Int) (t:Tok) (s:qAp) (Q:qAl->qAp->Prop) (E:qAl->qAp->Prop),Q (.int (g i) s.toks) { s with toks:=s.toks+1 }->qBj (qBz X.prog X.w) X.A (f (.int i t)) Q E s) :
  OJ X f (rU fun i=>.int (g i)):=by
 intro pins s σ H x v Q I rx h;obtain⟨i,rfl,q⟩:=h;obtain⟨t,rfl⟩:=rx;exact rule i t s _ _ ⟨.int (g i),H,I.tok _,⟨_,rfl⟩,q⟩
theorem gH:OJ X (unaryOp .USub) (rU fun i=>.int (-i)):=Qx fun _ _ _ _ _ q=>neg_int q
end
noncomputable def MY:V->V->Bool
 | .non,.non=>true | .non,.int _=>true | .int _,.non=>true | .non,.bl _=>true | .bl _,.non=>true | .non,.str _=>true | .str _,.non=>true
 | .int _,.int _=>true | .bl _,.bl _=>true | .str _,.str _=>true | .byt _,.byt _=>true
 | .int _,.str _=>true | .str _,.int _=>true | .bl _,.str _=>true | .str _,.bl _=>true
 | _,_=>false
def Qy:R2:=fun x y H Q=>MY x y=true/\Q (.bl (decide (x=y))) H
def Qz:R2:=fun x y H Q=>MY x y=true/\Q (.bl (!decide (x=y))) H
theorem zB:decide (V.int i=V.int j)=(i == j):=by
 rw[qGy];simp
theorem Cf:decide (V.bl i=V.bl j)=(i == j):=by
 rw[qGy];simp
theorem zC:decide (V.str i=V.str j)=(i == j):=by
 rw[qGy];simp
theorem zD:decide (V.byt i=V.byt j)=(i.toList == j.toList):=by
 rw[qGy];cases i;cases j;simp
section
variable {X:Cx}{a b c:Expr}{ta tb tc:TE}{pos:Pos}
theorem cA(I:Inv X pins σ H s)(q:Q (.bl k) H)(e:k=k'):EP X pins σ Q (.bool k') s:=by
 subst e;exact⟨.bl k,H,I,rfl,q⟩
theorem dE:iW X (qEf .Eq) Qy:=by
 intro pins s σ H x y v u Q I rx ry h;obtain⟨hs,q⟩:=h;cases x with
 | non =>
  cases rx
  cases y with
  | non=>cases ry;exact PySem.EqNone.eq_none_none (cA I q (by simp))
  | bl j=>cases ry;exact PySem.EqNone.eq_none_bool (cA I q (by simp))
  | int j=>obtain⟨t',rfl⟩:=ry;exact PySem.EqNone.eq_none_int (cA I q (by simp))
  | str j=>obtain⟨t',rfl⟩:=ry;exact PySem.EqNone.eq_none_str (cA I q (by simp))
  | _=>exact absurd (show false=true from hs) qAq
 | bl i =>
  cases rx
  cases y with
  | non=>cases ry;exact PySem.EqNone.eq_bool_none (cA I q (by simp))
  | bl j=>cases ry;exact eq_bool (cA I q Cf)
  | str j=>obtain⟨t',rfl⟩:=ry;exact PySem.EqMixed.eq_bool_str (cA I q (by simp))
  | _=>exact absurd (show false=true from hs) qAq
 | int i =>
  obtain⟨t,rfl⟩:=rx;cases y with
  | non=>cases ry;exact PySem.EqNone.eq_int_none (cA I q (by simp))
  | int j=>obtain⟨t',rfl⟩:=ry;exact eq_int (cA I q zB)
  | str j=>obtain⟨t',rfl⟩:=ry;exact PySem.EqMixed.eq_int_str (cA I q (by simp))
  | _=>exact absurd (show false=true from hs) qAq
 | str i =>
  obtain⟨t,rfl⟩:=rx;cases y with
  | non=>cases ry;exact PySem.EqNone.eq_str_none (cA I q (by simp))
  | bl j=>cases ry;exact PySem.EqMixed.eq_str_bool (cA I q (by simp))
  | int j=>obtain⟨t',rfl⟩:=ry;exact PySem.EqMixed.eq_str_int (cA I q (by simp))
  | str j=>obtain⟨t',rfl⟩:=ry;exact eq_str (cA I q zC)
  | _=>exact absurd (show false=true from hs) qAq
 | byt i =>
  obtain⟨t,rfl⟩:=rx;cases y with
  | byt j=>obtain⟨t',rfl⟩:=ry;exact PySem.W.eq_bytes (cA I q zD)
  | _=>exact absurd (show false=true from hs) qAq
 | _=>cases y <;> exact absurd (show false=true from hs) qAq
theorem fI:iW X (qEf .NotEq) Qz:=by
 intro pins s σ H x y v u Q I rx ry h;obtain⟨hs,q⟩:=h;cases x with
 | non =>
  cases rx
  cases y with
  | non=>cases ry;exact PySem.EqNone.ne_none_none (cA I q (by simp))
  | bl j=>cases ry;exact PySem.EqNone.ne_none_bool (cA I q (by simp))
  | int j=>obtain⟨t',rfl⟩:=ry;exact PySem.EqNone.ne_none_int (cA I q (by simp))
  | str j=>obtain⟨t',rfl⟩:=ry;exact PySem.EqNone.ne_none_str (cA I q (by simp))
  | _=>exact absurd (show false=true from hs) qAq
 | bl i =>
  cases rx
  cases y with
  | non=>cases ry;exact PySem.EqNone.ne_bool_none (cA I q (by simp))
  | bl j=>cases ry;exact ne_bool (cA I q (congrArg not Cf))
  | str j=>obtain⟨t',rfl⟩:=ry;exact PySem.EqMixed.ne_bool_str (cA I q (by simp))
  | _=>exact absurd (show false=true from hs) qAq
 | int i =>
  obtain⟨t,rfl⟩:=rx;cases y with
  | non=>cases ry;exact PySem.EqNone.ne_int_none (cA I q (by simp))
  | int j=>obtain⟨t',rfl⟩:=ry;exact ne_int (cA I q (congrArg not zB))
  | str j=>obtain⟨t',rfl⟩:=ry;exact PySem.EqMixed.ne_int_str (cA I q (by simp))
  | _=>exact absurd (show false=true from hs) qAq
 | str i =>
  obtain⟨t,rfl⟩:=rx;cases y with
  | non=>cases ry;exact PySem.EqNone.ne_str_none (cA I q (by simp))
  | bl j=>cases ry;exact PySem.EqMixed.ne_str_bool (cA I q (by simp))
  | int j=>obtain⟨t',rfl⟩:=ry;exact PySem.EqMixed.ne_str_int (cA I q (by simp))
  | str j=>obtain⟨t',rfl⟩:=ry;exact ne_str (cA I q (congrArg not zC))
  | _=>exact absurd (show false=true from hs) qAq
 | byt i =>
  obtain⟨t,rfl⟩:=rx;cases y with
  | byt j=>obtain⟨t',rfl⟩:=ry;exact PySem.W.ne_bytes (cA I q (congrArg not zD))
  | _=>exact absurd (show false=true from hs) qAq
 | _=>cases y <;> exact absurd (show false=true from hs) qAq
theorem jH:iW X (qEf .Lt) (Cd fun i j=>.bl (decide (i<j))):=Fn fun _ _ _ _ _ _ _ q=>lt_int q
theorem uP:iW X (qEf .LtE) (Cd fun i j=>.bl (decide (i<=j))):=Fn fun _ _ _ _ _ _ _ q=>le_int q
theorem qR:iW X (qEf .Gt) (Cd fun i j=>.bl (decide (j<i))):=Fn fun _ _ _ _ _ _ _ q=>gt_int q
theorem zE:iW X (qEf .GtE) (Cd fun i j=>.bl (decide (j<=i))):=Fn fun _ _ _ _ _ _ _ q=>ge_int q
theorem sN:iW X (qEf .Is) (fun x y H Q=>y = .non/\Q (.bl (decide (x = .non))) H):=by
 intro pins s σ H x y v u Q I rx ry h;obtain⟨rfl,q⟩:=h;cases ry;refine is_none_gen (cA I q ?_);cases x <;> first
  | (cases rx;rfl)
  | (obtain⟨t,rfl⟩:=rx;rfl)
theorem zF:iW X (qEf .IsNot) (fun x y H Q=>y = .non/\Q (.bl (!decide (x = .non))) H):=by
 intro pins s σ H x y v u Q I rx ry h;obtain⟨rfl,q⟩:=h;cases ry;refine isnot_none_gen (cA I q ?_);cases x <;> first
  | (cases rx;rfl)
  | (obtain⟨t,rfl⟩:=rx;rfl)
theorem aW(b:Expr){op:CmpOp}(h:op≠.In:=by decide)(h2:op≠.NotIn:=by decide):qKp op b=false:=by
 have e1:(op == CmpOp.In)=false:=by cases op <;> first | rfl | exact absurd rfl h
 have e2:(op == CmpOp.NotIn)=false:=by cases op <;> first | rfl | exact absurd rfl h2
 cases b <;> first|rfl|(show(_&&(op == .In||op == .NotIn)&&_)=_;rw[e1,e2];simp)
theorem eD(ho:iW X (qEf op) r)(ha:PE X a ta)(hb:PE X b tb)(hm:qKp op b=false):PE X (.Compare a [op] [b] pos) (OK r ta tb):=by
 intro pins s σ H Q I h;exact wpAny_Compare1 (IJ ha hb I h fun v u s2 x y H2 I2 rx ry q=>ho pins s2 σ H2 x y v u Q I2 rx ry q) hm
def GY(t:TE):TT:=fun σ H Q=>t σ H fun x H'=>∃k,x = .bl k/\Q k H'
theorem aU(ho:iW X (qEf op) r)(ha:PE X a ta)(hb:PE X b tb)(hm:qKp op b=false):PT X (.Compare a [op] [b] pos) (GY (OK r ta tb)):=by
 intro pins s σ H Q I h;refine wpAny_isTrue_Compare1 (cG (ha pins s σ H _ I h) fun v s1 ⟨x,H1,I1,r1,q1⟩=>cG (hb pins s1 σ H1 _ I1 q1) fun u s2 ⟨y,H2,I2,r2,q2⟩ =>
  cG (ho pins s2 σ H2 x y v u _ I2 r1 r2 q2) fun c s3 z9=>?_) hm;obtain⟨z,H3,I3,r3,k,e,q3⟩:=z9
 subst e;cases r3;exact qDu ⟨H3,I3,q3⟩
def Cg(r r':R2)(ta tb tc:TE):TE:=fun σ H Q=>ta σ H fun x H1=>tb σ H1 fun y H2=>r x y H2 fun z H3=>∃k,z = .bl k /\
 (if k=true then tc σ H3 fun w' H4=>r' y w' H4 Q else Q (.bl false) H3)
theorem Ci(ho:iW X (qEf op) r)(ho':iW X (qEf op') r')(ha:PE X a ta)(hb:PE X b tb)(hc:PE X c tc)
  (hm:lastMarks [op,op'] [b,c]=false:=by with_unfolding_all rfl):PE X (.Compare a [op,op'] [b,c] pos) (Cg r r' ta tb tc):=by
 intro pins s σ H Q I h;refine Compare_chain (cG (ha pins s σ H _ I h) fun v s1 ⟨x,H1,I1,r1,q1⟩=>chain_link (cG (hb pins s1 σ H1 _ I1 q1) fun u s2 ⟨y,H2,I2,r2,q2⟩ =>
  cG (ho pins s2 σ H2 x y v u _ I2 r1 r2 q2) fun d s3 z9=>?_)) hm;obtain⟨z,H3,I3,r3,k,e,q3⟩:=z9
 subst e;cases r3;refine qDu ?_;cases k with
 | false=>exact ite_ff ⟨.bl false,H3,I3,rfl,q3⟩
 | true=>exact ite_tt (chain_last (cG (hc pins s3 σ H3 _ I3 q3) (by rintro w' s4 ⟨z',H4,I4,r4,q4⟩;exact ho' pins s4 σ H4 y z' u w' Q I4 r2 r4 q4)))
theorem Cj(ho:iW X (qEf op) r)(ho':iW X (qEf op') r')(ha:PE X a ta)(hb:PE X b tb)(hc:PE X c tc)
  (hm:lastMarks [op,op'] [b,c]=false:=by with_unfolding_all rfl):PT X (.Compare a [op,op'] [b,c] pos) (GY (Cg r r' ta tb tc)):=by
 intro pins s σ H Q I h;refine isTrue_chain (cG (ha pins s σ H _ I h) fun v s1 ⟨x,H1,I1,r1,q1⟩=>test_link (cG (hb pins s1 σ H1 _ I1 q1) fun u s2 ⟨y,H2,I2,r2,q2⟩ =>
  cG (ho pins s2 σ H2 x y v u _ I2 r1 r2 q2) fun d s3 z9=>?_)) hm;obtain⟨z,H3,I3,r3,k,e,q3⟩:=z9
 subst e;cases r3;refine qDu ?_;cases k with
 | false =>
  obtain⟨k',e',q'⟩:=q3;cases e';exact ite_ff ⟨H3,I3,q'⟩
 | true =>
  refine ite_tt (test_last (cG (hc pins s3 σ H3 _ I3 q3) fun w' s4 ⟨z',H4,I4,r4,q4⟩=>cG (ho' pins s4 σ H4 y z' u w' _ I4 r2 r4 q4) fun d' s5 z9=>?_));obtain⟨z2,H5,I5,r5,k2,e2,q5⟩:=z9;subst e2;cases r5;exact qDu ⟨H5,I5,q5⟩
theorem sO:(qAi:Nat)<2^63:=by rw[qCc];decide
theorem vals1(r:Vals [x] us):∃u,us=[u]/\RelV x u:=by
 cases r with
 | cons r1 r2=>cases r2;exact⟨_,rfl,r1⟩
theorem vals2(r:Vals [x,y] us):∃u w',us=[u,w']/\RelV x u/\RelV y w':=by
 cases r with
 | cons r1 r2 =>
  cases r2 with
  | cons r3 r4=>cases r4;exact⟨_,_,rfl,r1,r3⟩
theorem oU:g6 X (.builtin "abs") (fun xs H Q=>∃i,xs=[.int i]/\Q (.int (if i<0 then -i else i)) H):=by
 intro pins s σ H xs us Q I r h;obtain⟨i,rfl,q⟩:=h;obtain⟨u,rfl,t,rfl⟩:=vals1 r;exact call_abs_int fun u tk=>⟨.int (if i<0 then -i else i),H,I.tok _,⟨_,rfl⟩,q⟩
theorem AX(hc:X.calm=true):g6 X (.builtin "max") (fun xs H Q=>∃i j,xs=[.int i,.int j]/\Q (.int (if j>i then j else i)) H):=by
 intro pins s σ H xs us Q I r h;obtain⟨i,j,rfl,q⟩:=h;obtain⟨u,w',rfl,⟨t,rfl⟩,⟨t',rfl⟩⟩:=vals2 r;refine max_two_ints (I.ok.hd hc) fun h' tk k=>⟨_,H,I.kept k,?_,q⟩;by_cases hj:j>i
 .rw[if_pos hj,if_pos hj];exact⟨_,rfl⟩
 .rw[if_neg hj,if_neg hj];exact⟨_,rfl⟩
theorem j4:g6 X (.type "int") (fun xs H Q=>(∃i,xs=[.int i]/\Q (.int i) H)\/∃k,xs=[.bl k]/\Q (.int (if k then 1 else 0)) H):=by
 intro pins s σ H xs us Q I r h;rcases h with ⟨i,rfl,q⟩ | ⟨k,rfl,q⟩
 .obtain⟨u,rfl,t,rfl⟩:=vals1 r;exact call_int_int ⟨.int i,H,I,⟨_,rfl⟩,q⟩
 .obtain⟨u,rfl,r1⟩:=vals1 r;cases r1;exact call_int_bool ⟨.int (if k then 1 else 0),H,I.tok _,⟨_,rfl⟩,q⟩
end
structure xF (h:Heap) (x dx C:Addr) (mA:Str->Option qAl):Prop where
 obj:h.get? x=some (qEl C dx)
 ns:h.Ns1 dx mA
 ne:dx≠x
theorem AY{h:Heap}{dx:Addr}{mA:Str->Option qAl}(n:h.Ns1 dx mA):∃od,h.get? dx=some od/\∀name,qIe name od=some (mA name):=by
 obtain⟨o,es,ep,ho,hd,hk,_,hm⟩:=n;refine⟨o,ho,fun name=>?_⟩;have e:=hm name;unfold nsFind findBy at e;rw[<- Array.find?_toList] at e;unfold qIe;rw[hd];dsimp only;split
 .rename_i y q;rw[q] at e;exact congrArg some e
 .rename_i q;rw[q] at e;have a:es.toList.any (·.refKey)=false:=by
   rw[List.any_eq_false];intro y hy;obtain⟨z,t,hkey⟩:=hk y (Array.mem_toList_iff.mp hy);simp[DictEntry.refKey,hkey]
  have a':¬es.toList.any (·.refKey)=true:=by rw[a];exact qAq
  rw[if_neg a'];exact congrArg some e
theorem xF.look(I:xF h x dx C mA):∃od,PySem.W.InstAt h x (qEl C dx) C (some od)/\∀name,qIe name od=some (mA name) :=
 let ⟨od,ho,hl⟩:=AY I.ns
 ⟨od,⟨I.obj,rfl,rfl,ho⟩,hl⟩
section
variable {prog:qBy}{w:qDg}{A:qDl}{E:qAl->qAp->Prop}{s:qAp}{K:qAd}{x dx C f:Addr}{mA:Str->Option qAl}{name:Str}{v:qAl}
theorem get_map(X:K.In s.heap)(I:xF s.heap x dx C mA)(hg:qGd K C name=true)(hh:qHg K C=true)
  (ha:qBe K (.ref C) name=some none) (hv:mA name=some v) (hv':qMt v=true) (h:Q v { s with toks:=s.toks+1 }) :
  qBj (qBz prog w) A (getAttr (.ref x) name expr) Q E s:=by
 obtain⟨od,J,hl⟩:=I.look;exact PySem.W.get_value X J (qIi hg).1 (PySem.W.findObj_own hh ha rfl (by rw[hl,hv])) hv' h
theorem Ck(X:K.In s.heap)(I:xF s.heap x dx C mA)(hg:qGd K C name=true)
  (hf:qBe K (.ref C) name=some (some (.ref f))) (ht:qFb K (.ref f)=true) (hv:mA name=none) (h:Q (.ref f,[.ref x]) s) :
  qBj (qBz prog w) A (getMethod (.ref x) name pl) Q E s:=by
 obtain⟨od,J,hl⟩:=I.look;exact PySem.W.method_fn X J (qIi hg).1 (qIi hg).2 hf (beq_iff_eq.mp ht) (by show(qIe name od).map (·.isSome)=some false;rw[hl,hv];rfl) h
theorem Fp(X:K.In s.heap)(I:xF s.heap x dx C mA)
  (hs:qBe K (.ref C) "__setattr__"=some (some (.builtin "object.__setattr__"))) (hp:qIx K C=true) (ht:qJr K C name=some none) (hh:qHg K C=true)
  (hw:PySem.Within mA ns) (hsz:ns.length<=qAi)
  (h:∀h',xF h' x dx C (fun y=>if y=name then some v else mA y)->qFh dx s.heap h'->Q () { s with heap:=h',toks:=s.toks+2 }) :
  qBj (qBz prog w) A (setAttr (.ref x) name v) Q E s:=by
 obtain⟨od,J,hl⟩:=I.look;refine PySem.W.set_plain X J hs (PySem.W.osa_open (s:={ s with toks:=s.toks+1 }) (r:=none) X J hp ht fun b=>?_);obtain⟨cd,hc,hd'⟩:=PySem.W.any_some hh;have hx:s.heap.get? x=some ⟨.ref C,some dx,.plain,#[]⟩:=I.obj;refine qAb (qAe (qAb (qAb (wpAny_loadPart hx (qAb (PySem.W.Looks.here (s:={ s with toks:=s.toks+1 }) (PySem.W.looks_clsIn X hc) ?_))))));rw[hd'];refine qAe (a:=some dx) (qAb (qAe (qAb ?_)));refine wpAny_nsSet1 (s:={ s with toks:=s.toks+1 }) I.ns fun h' hn2 hs2=>?_;obtain⟨oD,esD,epD,hoD,hdD,hcD⟩:=hn2.count (PySem.Within.cons name v hw);refine qAb (wpAny_lookBehind hoD (by rw[hdD];exact pastItsLine_dict (qCy hcD (by rw[qBq];lia))) ?_);exact qAe (h _ ⟨(hs2.2 _ (Ne.symm I.ne)).trans I.obj,hn2,I.ne⟩ hs2)
theorem Cn(X:K.In s.heap)(hm:qJs K C=true)
  (hi:qBe K (.ref C) "__init__"=some (some (.ref f))) (hf:qId K (.ref f)=some (.type "function"))
  (h:qHp (qBz prog w) (A.under (.builtin "type.__call__" ⟨.ref C::vs,kw⟩)) (.call (.ref f) ⟨.ref (s.heap.objs.size+1)::vs,kw⟩) (PySem.W.InitBack (s.heap.objs.size+1) R)
   { s with heap:=(s.heap.push qDr).push (qEl C s.heap.objs.size) }) :
  qHp (qBz prog w) A (.call (.ref C) ⟨vs,kw⟩) R s:=by
 obtain⟨hh,g,d,t,os⟩:=s;exact PySem.W.make_core (PySem.W.makes_of X hm) (qGh X hi) (fun self=>PySem.W.bind_fn X self hf) (.inl rfl) h
end
noncomputable def dM(f:Str)(v:V):List (Str×V)->List (Str×V)
 | []=>[(f,v)]
 | (g,x)::r=>if g=f then (g,v)::r else (g,x)::dM f v r
theorem nK(f g:Str)(v:V):∀fs:List (Str×V),(dM f v fs).lookup g=if g=f then some v else fs.lookup g
 | []=>by
  show qGx g [(f,v)]=_;by_cases h:g=f
  .have hb:(g == f)=true:=beq_iff_eq.mpr h;simp only[qGx,hb,if_pos h]
  .have hb:(g == f)=false:=beq_eq_false_iff_ne.mpr h;simp only[qGx,hb,if_neg h]
 | (k,x)::r=>by
  have ih:=nK f g v r;rw[show dM f v ((k,x)::r)=(if k=f then (k,v)::r else (k,x)::dM f v r) from rfl];by_cases hk:k=f
  .rw[if_pos hk];by_cases h:g=k
   .have hb:(g == k)=true:=beq_iff_eq.mpr h;simp only[qGx,hb,if_pos (h.trans hk)]
   .have hb:(g == k)=false:=beq_eq_false_iff_ne.mpr h;simp only[qGx,hb,if_neg (fun e:g=f=>h (e.trans hk.symm))]
  .rw[if_neg hk];by_cases h:g=k
   .have hb:(g == k)=true:=beq_iff_eq.mpr h;simp only[qGx,hb,if_neg (fun e:g=f=>hk (h.symm.trans e))]
   .have hb:(g == k)=false:=beq_eq_false_iff_ne.mpr h;simp only[qGx,hb];exact ih
theorem mU(f:Str)(v:V):∀fs:List (Str×V),f∈(dM f v fs).map (·.1)/\∀g,g∈fs.map (·.1)->g∈(dM f v fs).map (·.1)
 | []=>⟨by simp[dM],fun g h=>by simp at h⟩
 | (k,x)::r=>by
  obtain⟨i1,i2⟩:=mU f v r;rw[show dM f v ((k,x)::r)=(if k=f then (k,v)::r else (k,x)::dM f v r) from rfl];by_cases hk:k=f
  .rw[if_pos hk];subst hk;exact⟨by simp,fun g h=>by simpa using h⟩
  .rw[if_neg hk];refine⟨?_,fun g h=>?_⟩
   .rw[qCz];exact qBr _ i1
   .rw[qCz] at h|-;rcases List.mem_cons.mp h with e | e
    .exact List.mem_cons.mpr (.inl e)
    .exact qBr _ (i2 g e)
theorem nL(f:Str)(v:V):∀fs:List (Str×V),(dM f v fs).length<=fs.length+1
 | []=>by simp[dM]
 | (k,x)::r=>by
  have ih:=nL f v r;rw[show dM f v ((k,x)::r)=(if k=f then (k,v)::r else (k,x)::dM f v r) from rfl];by_cases hk:k=f
  .rw[if_pos hk,qBq,qBq];lia
  .rw[if_neg hk,qBq,qBq];lia
theorem kF.some_of(r:kF (some v) o):∃u,o=some u/\RelV v u:=by
 cases o with
 | none=>exact(show False from r).elim
 | some u=>exact⟨u,rfl,r⟩
theorem kF.none_of(r:kF none o):o=none:=by
 cases o with
 | none=>rfl
 | some u=>exact(show False from r).elim
theorem AZ(r:RelV v u):qMt u=true:=by
 cases v with
 | non=>cases (show u=Value.none from r);rfl
 | bl b=>cases (show u=Value.bool b from r);rfl
 | int i=>obtain⟨t,e⟩:=(show ∃t,u=Value.int i t from r);cases e;rfl
 | str x=>obtain⟨t,e⟩:=(show ∃t,u=Value.str x t from r);cases e;rfl
 | byt b=>obtain⟨t,e⟩:=(show ∃t,u=Value.bytes b t from r);cases e;rfl
 | flt b=>obtain⟨t,e⟩:=(show ∃t,u=Value.float b t from r);cases e;rfl
 | ref a=>cases (show u=Value.ref a from r);rfl
 | ty n=>cases (show u=Value.type n from r);rfl
section
variable {P:qBy}{w:qDg}{H H':Hp}{h h':Heap}{a C dx:Addr}{fs fs':List (Str×V)}
theorem oE(cO:kK P w H h)(e:H a=some (.ins C dx fs)):∃mA,xF h a dx C mA/\(∀f,kF (fs.lookup f) (mA f))/\PySem.Within mA (fs.map (·.1))/\fs.length<=1000/\H dx=some (.own a):=by
 obtain⟨d,z,ne,ob,mA,n,r,q⟩:=(show cU P w H h a (.ins C dx fs) from cO a _ e);exact⟨mA,⟨ob,n,ne⟩,r,q,z,d⟩
end
structure EZ (K:qAd) (C:Addr):Prop where
 pg:qGd K C Str.empty=true
 hd:qHg K C=true
 po:qIx K C=true
 sa:qBe K (.ref C) "__setattr__"=some (some (.builtin "object.__setattr__"))
theorem EZ.get{K:qAd}{C:Addr}(c:EZ K C)(f:Str):qGd K C f=true:=c.pg
def iQ(K:qAd)(C:Addr)(f:Str):Prop:=qBe K (.ref C) f=some none
theorem iQ.MZ{K:qAd}{C:Addr}{f:Str}(n:iQ K C f):qJr K C f=some none:=by
 delta qJr;rw[show qBe K (.ref C) f=some none from n];rfl
structure Meth (K:qAd) (C:Addr) (m:Str) (f:Addr):Prop where
 at_:qBe K (.ref C) m=some (some (.ref f))
 fn:qFb K (.ref f)=true
 kp:qDb K (.ref f)=true
section
variable {X:Cx}{pins:List (Addr×Obj)}{σ:St}{H:Hp}{s:qAp}{a C dx:Addr}{fs:List (Str×V)}{f:Str}{v:V}{A:qDl}{E:qAl->qAp->Prop}
theorem xG(I:Inv X pins σ H s)(e:H a=some (.ins C dx fs))(c:EZ X.K C)(n:iQ X.K C f)(l:fs.lookup f=some v)
  (h:∀u s',Inv X pins σ H s'->RelV v u->Q u s'):qBj (qBz X.prog X.w) A (getAttr (.ref a) f b) Q E s:=by
 obtain⟨mA,O,r,_,_,_⟩:=oE I.cO e;obtain⟨u,hu,ru⟩:=kF.some_of (v:=v) (o:=mA f) (by rw[<- l];exact r f);exact get_map I.w6 O (c.get f) c.hd n hu (AZ ru) (h u _ (I.tok _) ru)
theorem xH(I:Inv X pins σ H s)(e:H a=some (.ins C dx fs))(c:EZ X.K C)(k:Meth X.K C m g)(l:fs.lookup m=none)
  (h:Q (.ref g,[.ref a]) s):qBj (qBz X.prog X.w) A (getMethod (.ref a) m pl) Q E s:=by
 obtain⟨mA,O,r,_,_,_⟩:=oE I.cO e;have hn:mA m=none:=kF.none_of (by rw[<- l];exact r m);exact Ck I.w6 O (c.get m) k.at_ k.fn hn h
theorem xI(I:Inv X pins σ H s)(e:H a=some (.ins C dx fs))(c:EZ X.K C)(n:iQ X.K C f)(hl:fs.length<1000)(ry:RelV y u)
  (h:∀s',Inv X pins σ (upd H a (.ins C dx (dM f y fs))) s'->Q () s'):qBj (qBz X.prog X.w) A (setAttr (.ref a) f u) Q E s:=by
 obtain⟨mA,O,r,wi,_,ho⟩:=oE I.cO e;have hz:(fs.map (·.1)).length<=qAi:=by rw[qAa,qCc];lia
 refine Fp I.w6 O c.sa c.po n.MZ c.hd wi hz fun h' O' sb=>h _ ?_;have hd:∃o,h'.get? dx=some o:=let ⟨o,_,_,e',_⟩:=O'.ns;⟨o,e'⟩;refine I.write (x:=a) (e:=dx) (by rw[e];exact True.intro) (.inr ho) (fun b q hb z=>(sb.2 b hb).trans z) hd ?_;refine⟨by rw[aR O.ne];exact ho,?_,O.ne,O'.obj,_,O'.ns,fun g=>?_,fun g hg=>?_⟩
 .have:=nL f y fs;lia
 .show kF ((dM f y fs).lookup g) (if g=f then some u else mA g);rw[nK];by_cases q:g=f
  .rw[if_pos q,if_pos q];exact ry
  .rw[if_neg q,if_neg q];exact r g
 .by_cases q:g=f
  .rw[q];exact(mU f y fs).1
  .refine(mU f y fs).2 g (wi g fun z=>hg ?_);show(if g=f then some u else mA g)=none;rw[if_neg q];exact z
theorem Inv.made(I:Inv X pins σ H s):Inv X pins σ (upd (upd H s.heap.objs.size (.own (s.heap.objs.size+1))) (s.heap.objs.size+1) (.ins C s.heap.objs.size []))
  { s with heap:=(s.heap.push qDr).push (qEl C s.heap.objs.size) }:=by
 have e1:(s.heap.push qDr).get? s.heap.objs.size=some qDr:=qAt s.heap rfl;have e2:((s.heap.push qDr).push (qEl C s.heap.objs.size)).get? (s.heap.objs.size+1)=some (qEl C s.heap.objs.size):=by
  have:=qAt (s.heap.push qDr) (o:=qEl C s.heap.objs.size) rfl;rwa [qDj] at this
 have e3:(s.heap.push qDr).Ns s.heap.objs.size (fun _=>none):=⟨qDr,#[],_,e1,rfl,(fun e he=>absurd he (by simp)),fun _=>rfl⟩;have I1:=I.laid (a:=s.heap.objs.size) (o:=.own (s.heap.objs.size+1)) (h':=s.heap.push qDr) (t':=s.toks) (fun b u q=>qAh _ q) (qAg _) ⟨_,e1⟩;refine I1.laid (a:=s.heap.objs.size+1) (o:=.ins C s.heap.objs.size []) (t':=s.toks) (fun b u q=>qAh _ q) (qIl (qDj _ _)) ?_;have ne:s.heap.objs.size≠s.heap.objs.size+1:=qBg (qGp _);refine⟨by rw[aR ne,aD],qBn _,ne,e2,fun _=>none,(Heap.Ns1.of_empty e3).at fun o q=>qAh _ q,fun _=>True.intro,fun y hy=>absurd rfl hy⟩
theorem Fq(hb:qGg e f env (eval e env)=eval e env)
  (h:qBj (qBz prog w) A (eval e env) (fun o s₁=>qBj (qBz prog w) A (getAttr o f true) Q E s₁) E s):qBj (qBz prog w) A (eval (.Attribute e f pos) env) Q E s :=
 Attribute_any_ h (by rw[arm_eval_Attribute,hb])
end
def Na(K:qAd)(ta:TE)(f:Str):TE:=fun σ H Q=>ta σ H fun x H1=>∃a C dx fs v,x = .ref a/\H1 a=some (.ins C dx fs)/\EZ K C/\iQ K C f/\fs.lookup f=some v/\Q v H1
def Pe(K:qAd)(ta tv:TE)(f:Str):TS:=fun D σ H=>tv σ H fun y H1=>ta σ H1 fun x H2=>∃a C dx fs,x = .ref a/\H2 a=some (.ins C dx fs)/\EZ K C/\iQ K C f/\fs.length<1000 /\
 D.nx σ (upd H2 a (.ins C dx (dM f y fs)))
section
variable {X:Cx}{o e value:Expr}{f:Str}{pos pos' tpos:Pos}{ta tv:TE}
theorem cB(he:PE X e ta)(hb:qGg e f X.env (eval e X.env)=eval e X.env):PE X (.Attribute e f pos) (Na X.K ta f):=by
 intro pins s σ H Q I h;refine Fq hb (cG (he pins s σ H _ I h) fun u s1 z9=>?_);obtain⟨x,H1,I1,rx,a,C,dx,fs,v,ex,ea,c,n,l,q⟩:=z9;subst ex;obtain rfl:u=Value.ref a:=rx;exact xG I1 ea c n l fun u' s2 I2 ru=>⟨v,H1,I2,ru,q⟩
theorem mV(ha:PE X o ta)(hv:PE X value tv)(hs:qKk value (some (.Attribute o f pos')) pos.line X.env=pure false):PS X (.Assign [.Attribute o f pos'] value pos) (Pe X.K ta tv f):=by
 intro pins s σ H D I h;refine plainObj_wpAny_Assign_Attribute (cG (hv pins s σ H _ I h) fun u s1 ⟨y,H1,I1,ry,q⟩=>cG (ha pins s1 σ H1 _ I1 q) fun ov s2 z9=>?_) hs;obtain⟨x,H2,I2,rx,a,C,dx,fs,ex,ea,c,n,l,q2⟩:=z9;subst ex;obtain rfl:ov=Value.ref a:=rx;exact xI I2 ea c n l ry fun s3 I3=>⟨σ,_,I3,q2⟩
end
section
variable {X:Cx}{pins:List (Addr×Obj)}{σ:St}{H:Hp}{s:qAp}{A:qDl}{E:qAl->qAp->Prop}{Q:qAl->qAp->Prop}{c:qAl}{b:Bool}
inductive kG (K:qAd) (H:Hp):V->qAl->Prop where
 | non:kG K H .non (.type "NoneType")
 | bl (x:Bool):kG K H (.bl x) (.type "bool")
 | int (i:Int):kG K H (.int i) (.type "int")
 | str (x:Str):kG K H (.str x) (.type "str")
 | flt (x:UInt64):kG K H (.flt x) (.type "float")
 | lst {a:Addr}{xs:List V} (e:H a=some (.lst xs)):kG K H (.ref a) (.type "list")
 | frz {a:Addr}{o:Obj}{xs:List V} (e:H a=some (.frz o (.lst xs))):kG K H (.ref a) (.type "list")
 | tup {a:Addr}{xs:List V} (e:H a=some (.tup xs)):kG K H (.ref a) (.type "tuple")
 | dK {a:Addr}{kvs:List (Key×V)} (e:H a=some (.dK kvs)):kG K H (.ref a) (.type "dict")
 | dT {a:Addr}{kvs:List (List Key×V)} (e:H a=some (.dT kvs)):kG K H (.ref a) (.type "dict")
 | ins {a C dx:Addr}{fs:List (Str×V)} (e:H a=some (.ins C dx fs)) (cl:EZ K C) (ha:qBe K (.ref C) "__class__"=some (some (.builtin "object.__class__")))
   (hn:qFd K (.builtin "object.__class__") "__get__"=some (some (.builtin "getset_descriptor.__get__"))) (htk:qFr K (.builtin "object.__class__")=some true)
   (hm:qDz K C (.type "object")=some true):kG K H (.ref a) (.ref C)
end
structure eW (k:Nat) (A:qDl):Prop where
 hd:A.handled=none
 dp:A.depth+3*k+5<recursionLimit
 un:A.units+16*k+200<qMr
theorem eW.mono(r:eW k A)(h:j<=k):eW j A:=⟨r.hd,by have:=r.dp;lia,by have:=r.un;lia⟩
theorem eW.deeper(r:eW (k+1) A)(env:Env):eW k (A.deeper env) :=
 ⟨r.hd,by have:=r.dp;show A.depth+1+3*k+5<_;lia,by have:=r.un;show A.units+3+16*k+200<_;lia⟩
theorem xJ{A:qDl}{C:Addr}{us:List qAl}{kw:List (Str×qAl)}:(A.under (.builtin "type.__call__" ⟨.ref C::us,kw⟩)).depth=A.depth+1:=by
 first | rfl | simp[Around.under,Code.weight,Code.isCreation,Code.isGuard,Code.isCaller,Code.frames,Code.isFrame,guardIds]
theorem xK{A:qDl}{C:Addr}{us:List qAl}{kw:List (Str×qAl)}:(A.under (.builtin "type.__call__" ⟨.ref C::us,kw⟩)).units=A.units+1:=by
 first | rfl | simp[Around.under,Code.cUnits,Code.frames,Code.isFrame]
theorem eW.make(r:eW (k+1) A)(C:Addr)(us:List qAl)(kw:List (Str×qAl)):eW k (A.under (.builtin "type.__call__" ⟨.ref C::us,kw⟩)) :=
 ⟨r.hd,by have:=r.dp;rw[xJ];lia,by have:=r.un;rw[xK];lia⟩
theorem eW.depth(r:eW k A):A.depth<recursionLimit:=by have:=r.dp;lia
theorem eW.units(r:eW k A):A.units+64<qMr:=by have:=r.un;lia
def iR:TA:=fun _ H Q=>Q [] H
def Co(ta:TE)(tr:TA):TA:=fun σ H Q=>ta σ H fun x H1=>tr σ H1 fun xs H2=>Q (x::xs) H2
section
variable {X:Cx}{e:Expr}{es:List Expr}{te:TE}{t:TA}{pos:Pos}
theorem aB:PA X [] iR:=fun _ _ _ _ H Q I h=>qHn ⟨[],H,I,.nil,h⟩
theorem aA(ha:PE X e te)(hr:PA X es t)(hs:qBt (e::es) X.env=(false,eval e X.env)::qBt es X.env:=by rfl):PA X (e::es) (Co te t):=by
 intro pos pins s σ H Q I h;rw[hs];show qBj _ _ (qOt ((false,eval e X.env)::qHf pos (qBt es X.env))) _ _ s;refine qHe (cG (ha pins s σ H _ I h) fun u s1 z9=>?_);obtain⟨x,H1,I1,r1,q1⟩:=z9;exact cG (hr pos pins s1 σ H1 _ I1 q1) (by rintro us s2 ⟨xs,H2,I2,r2,q2⟩;exact ⟨x::xs,H2,I2,.cons r1 r2,q2⟩)
def Pf(t:TA):TE:=fun σ H Q=>t σ H fun xs H1=>xs.length<=qAi/\∀p,H1 p=none->Q (.ref p) (upd H1 p (.tup xs))
def Pg(t:TA):TE:=fun σ H Q=>t σ H fun xs H1=>xs.length<=qAi/\∀p,H1 p=none->Q (.ref p) (upd H1 p (.lst xs))
theorem dN{x1}(h:PA X es t):PE X (.Tuple es x1 pos) (Pf t):=by
 intro pins s σ H Q I hq;refine wpAny_Tuple_spliced (cG (h pos pins s σ H _ I hq) fun us s1 ⟨xs,H1,I1,r,z,q⟩=>⟨by rw[<- r.length];exact z,?_⟩);have hf:H1 s1.heap.objs.size=none:=I1.cO.fresh (qAg _);refine⟨.ref s1.heap.objs.size,upd H1 s1.heap.objs.size (.tup xs),I1.laid (t':=s1.toks) (fun b u e=>qAh _ e) (qAg _) ?_,rfl,q _ hf⟩;exact⟨z,us,r,⟨_,qAt _ rfl,rfl,_,rfl⟩⟩
theorem bQ(h:PA X es t):PE X (.List es pos) (Pg t):=by
 intro pins s σ H Q I hq;refine wpAny_List_spliced (cG (h pos pins s σ H _ I hq) fun us s1 ⟨xs,H1,I1,r,z,q⟩=>⟨by rw[<- r.length];exact z,?_⟩);have hf:H1 s1.heap.objs.size=none:=I1.cO.fresh (qAg _);refine⟨.ref s1.heap.objs.size,upd H1 s1.heap.objs.size (.lst xs),I1.laid (t':=s1.toks) (fun b u e=>qAh _ e) (qAg _) ?_,rfl,q _ hf⟩;exact⟨z,us,0,r,qAt _ rfl⟩
end
abbrev Sp:=List V->Hp->VK->XK->Prop
abbrev Ba:=List Env->Hp->qAp->XK->qAl->qAp->Prop
structure xM (P:qBy) (w:qDg) (K:qAd) (mg:Str->Option qAl) (base:Heap) (A:qDl) (outer:List Env) (s:qAp) (H:Hp):Prop where
 frames:A.frames=some outer
 mod:Mod K mg base
 bs:∀b o,base.get? b=some o->s.heap.get? b=some o/\H b=none
 Fh:base.objs.size<=s.heap.objs.size
 lB:s.heap.FunFrames base outer
 Iw:∀b∈oS outer,H b=none
 cO:kK P w H s.heap
 bare:qJf s.gens
def CE(outer:List Env)(P:qBy)(w:qDg)(H:Hp)(s:qAp)(Q:VK)(u:qAl)(s':qAp):Prop :=
 ∃v H',s'.os=s.os/\qJf s'.gens/\Un (oS outer) [] H H' s.heap s'.heap/\kK P w H' s'.heap/\RelV v u/\Q v H'
def CR(CX:Ba)(outer:List Env)(P:qBy)(w:qDg)(H:Hp)(s:qAp)(Q:VK)(E:XK)(r:qQe)(s':qAp):Prop :=
 match r with
 | .ok (.ret u)=>CE outer P w H s Q u s'
 | .ok _=>False
 | .error e=>CX outer H s E e s'
structure jP (P:qBy) (w:qDg) (K:qAd) (mg:Str->Option qAl) (base:Heap) (CX:Ba) (k:Nat) (f:Addr) (fd:qCo) (ps:List Str) (sp:Sp):Prop where
 len:∀vs H Q E,sp vs H Q E->vs.length=ps.length
 run:∀(A:qDl) (outer:List Env) (s:qAp) (H:Hp) (args:Args) (us:List qAl) (vs:List V) (Q:VK) (E:XK),eW k A->xM P w K mg base A outer s H->qNp s fd args (ps.zip us)->Vals vs us->sp vs H Q E ->
  qHp (qBz P w) A (.call (.ref f) args) (CR CX outer P w H s Q E) s
theorem xM.make{P:qBy}{w:qDg}{K:qAd}{mg:Str->Option qAl}{base:Heap}{A:qDl}{outer:List Env}{s:qAp}{H:Hp}(e:xM P w K mg base A outer s H)(C:Addr)(us:List qAl)(kw:List (Str×qAl)):
  xM P w K mg base (A.under (.builtin "type.__call__" ⟨.ref C::us,kw⟩)) outer s H:=⟨by first|exact e.frames | (simpa [Around.under,Code.envs,Code.isFrame,pushEnvs] using e.frames),e.mod,e.bs,e.Fh,e.lB,e.Iw,e.cO,e.bare⟩
section
variable {X:Cx}{pins:List (Addr×Obj)}{σ:St}{H:Hp}{s s':qAp}
theorem Inv.IL(I:Inv X pins σ H s):xM X.prog X.w X.K X.mg X.base X.A X.stack s H :=
 ⟨I.ok.frames,I.ok.mod,I.bs,qCy I.ok.Fh I.sz,I.stack,I.oC,I.cO,I.bare⟩
theorem Inv.after(I:Inv X pins σ H s)(h:CE X.stack X.prog X.w H s Q u s'):EP X pins σ Q u s':=by
 obtain⟨v,H',os,bare,un,cO,r,q⟩:=h;obtain⟨hh,g,d,t,os'⟩:=s';obtain rfl:os'=s.os:=os;exact⟨v,H',I.call (h':=hh) (g':=g) (d':=d) (t':=t) (ch:=[]) un cO bare (fun b z=>absurd z (by simp)),r,q⟩
end
def GZ(sp:Sp)(dvs:List V)(E:XK)(t:TA):TE:=fun σ H Q=>t σ H fun vs H1=>sp (vs++dvs) H1 Q E
def Binds(K:qAd)(fd:qCo)(ps:List Str)(ds:List qAl):Prop :=
 ∀(s:qAp) (us:List qAl),K.In s.heap->(us++ds).length=ps.length->qNp s fd ⟨us,[]⟩ (ps.zip (us++ds))
theorem Binds.all{K:qAd}{fd:qCo}{ps:List Str}(h:∀us:List qAl,us.length=ps.length->qNm fd ⟨us,[]⟩=pure (ps.zip us)):Binds K fd ps []:=fun s us _ hl=>by
 rw[qDp] at hl|-;exact .of_eq (h us hl)
def Passes(CX:Ba)(X:Cx)(E:XK):Prop:=∀(pins:List (Addr×Obj)) (σ:St) (H:Hp) (s:qAp) (e:qAl) (s':qAp),Inv X pins σ H s->CX X.stack H s E e s'->X.xe e s'
section
variable {X:Cx}{CX:Ba}{k:Nat}{f C:Addr}{fd:qCo}{ps:List Str}{sp:Sp}{dvs:List V}{ds:List qAl}{E:XK}{x m:Str}{p pos apos:Pos}{e o:Expr}{es:List Expr}{ta:TE}{t:TA}
theorem IM(F:jP X.prog X.w X.K X.mg X.base CX k f fd ps sp)(hr:eW k X.A)(hb:Binds X.K fd ps ds)(hd:Vals dvs ds)(hx:Passes CX X E)
  (I:Inv X pins σ H s) (r:Vals vs us) (h:sp (vs++dvs) H Q E):qBj (qBz X.prog X.w) X.A (call (.ref f) us) (EP X pins σ Q) X.xe s:=by
 have r2:Vals (vs++dvs) (us++ds):=r.append hd;have hl:(us++ds).length=ps.length:=by rw[<- r2.length];exact F.len _ _ _ _ h
 refine qJl (qGb (F.run X.A X.stack s H ⟨us,[]⟩ (us++ds) (vs++dvs) Q E hr I.IL (hb s us I.w6 hl) r2 h) fun r s' hq=>?_);cases r with
 | error e=>exact hx pins σ H s e s' I hq
 | ok fl =>
  cases fl with
  | ret u=>exact I.after hq
  | next=>exact False.elim hq
  | brk=>exact False.elim hq
  | cont=>exact False.elim hq
theorem Fs(F:jP X.prog X.w X.K X.mg X.base CX k f fd ps sp)(hr:eW k X.A)(hg:Gl X x)(hm:X.mg x=some (.ref f))(hk:qDb X.K (.ref f)=true)(hb:Binds X.K fd ps ds)(hd:Vals dvs ds)(hx:Passes CX X E)
  (ha:PA X (e::es) t) (hdb:(x == ("__debug__":Str))=false:=by decide) (he:qBt (e::es) X.env=(false,eval e X.env)::qBt es X.env:=by rfl) (hpl:(qHf pos (qBt es X.env)).any (·.1)=false:=by rfl) :
  PE X (.Call (.Name x p) (e::es) [] pos) (GZ sp dvs E t):=by
 intro pins s σ H Q I h;refine qGf (lC I hg hm ?_ hdb);refine qGv (h₀:=X.base) I.ok.mod.Iu hk (cG (ha pos pins s σ H _ I h) fun us s1 ⟨vs,H1,I1,r,q⟩=>⟨I1.w6,?_⟩) he hpl;exact IM F hr hb hd hx I1 r q
structure Mk (K:qAd) (C f:Addr):Prop where
 makes:qJs K C=true
 init:qBe K (.ref C) "__init__"=some (some (.ref f))
 fn:qFb K (.ref f)=true
 kp:qDb K (.ref C)=true
end
structure aV (N P:List Str) (sc:qJv):Prop where
 kind:sc.kind = .function
 co:sc.isCoroutine=false
 gen:sc.isGenerator=false
 nd:N.Nodup
 pre:N.take P.length=P
 par:∀x∈P,sc.names.lookup x=some .local\/sc.names.lookup x=some .cell
 IP:∀y∈sc.names,y.2≠.free
theorem qS{qIs:Str->Option qLp}{x:Str}:∀{binds:List (Str×qAl)}{m:Str->Option qAl},(∀v,(x,v)∉binds)->qPn qIs binds m x=m x
 | [],_,_=>rfl
 | (n,v)::r,m,h=>by
  unfold qPn;rw[qS fun w hw=>h w (qBr _ hw)];split
  .have:x≠n:=by rintro rfl;exact h v qCi
   simp[this]
  .rfl
theorem qT{qIs:Str->Option qLp}{x:Str}:∀{binds:List (Str×qAl)}{m:Str->Option qAl},(∀v,(x,v)∉binds)->qPo qIs binds m x=m x
 | [],_,_=>rfl
 | (n,v)::r,m,h=>by
  unfold qPo;rw[qT fun w hw=>h w (qBr _ hw)];split
  .rfl
  .have:x≠n:=by rintro rfl;exact h v qCi
   simp[this]
theorem qU{qIs:Str->Option qLp}{x:Str}{v:qAl}:∀{P:List Str}{vs:List qAl}{i:Nat}{m:Str->Option qAl},P.Nodup->P[i]?=some x->vs[i]?=some v->qIs x=some .local ->
  qPn qIs (P.zip vs) m x=some v
 | [],_,_,_,_,h,_,_=>by simp at h
 | _::_,[],_,_,_,_,h,_=>by simp at h
 | p::P,w::vs,0,m,nd,h1,h2,hk=>by
  simp at h1 h2;subst h1;subst h2;show qPn qIs ((p,w)::P.zip vs) m p=_;unfold qPn;rw[qS fun v hv=>(List.nodup_cons.mp nd).1 (qGw hv).1,if_pos hk];simp
 | p::P,w::vs,i+1,m,nd,h1,h2,hk=>by
  show qPn qIs ((p,w)::P.zip vs) m x=_;unfold qPn;exact qU (i:=i) (List.nodup_cons.mp nd).2 (by simpa using h1) (by simpa using h2) hk
theorem qV{qIs:Str->Option qLp}{x:Str}{v:qAl}:∀{P:List Str}{vs:List qAl}{i:Nat}{m:Str->Option qAl},P.Nodup->P[i]?=some x->vs[i]?=some v->qIs x≠some .local ->
  qPo qIs (P.zip vs) m x=some v
 | [],_,_,_,_,h,_,_=>by simp at h
 | _::_,[],_,_,_,_,h,_=>by simp at h
 | p::P,w::vs,0,m,nd,h1,h2,hk=>by
  simp at h1 h2;subst h1;subst h2;show qPo qIs ((p,w)::P.zip vs) m p=_;unfold qPo;rw[qT fun v hv=>(List.nodup_cons.mp nd).1 (qGw hv).1,if_neg hk];simp
 | p::P,w::vs,i+1,m,nd,h1,h2,hk=>by
  show qPo qIs ((p,w)::P.zip vs) m x=_;unfold qPo;exact qV (i:=i) (List.nodup_cons.mp nd).2 (by simpa using h1) (by simpa using h2) hk
noncomputable def start(N:List Str)(vs:List V):St:=vs.map some++qBk (N.length-vs.length) none
noncomputable def oV(CX:Ba)(P:qBy)(w:qDg)(K:qAd)(mg:Str->Option qAl)(base:Heap)(N:List Str)(qual:Str)(scope:qJv)(f:Addr)(cd:qAl)(A:qDl)(outer:List Env)(s:qAp)(H:Hp)(E:XK):Cx where
 prog:=P
 w:=w
 K:=K
 mg:=mg
 base:=base
 A:=A.deeper (qJe qual scope s.heap.objs.size f cd)
 N:=N
 s₀:=s
 H₀:=H
 env:=qJe qual scope s.heap.objs.size f cd
 outer:=outer
 stack:=qJe qual scope s.heap.objs.size f cd::outer
 ex:=[]
 calm:=true
 fn:=fun _=>true
 pn:=[]
 xe:=fun e s'=>qBj (qBz P w) (A.deeper (qJe qual scope s.heap.objs.size f cd)) (leaving (qJe qual scope s.heap.objs.size f cd) e) (fun _ s''=>CX outer H s E e s'') (fun e' s''=>CX outer H s E e' s'') s'
theorem uQ{sc:qJv}{n:Nat}{x:Str}(h:sc.names.lookup x=some .cell):∃c,(qKo n sc.names []).lookup x=some c:=by
 have q:=qLe sc.names n [] (.inl h);exact Option.isSome_iff_exists.mp q
theorem Bb{CX:Ba}{P:qBy}{w:qDg}{K:qAd}{mg:Str->Option qAl}{base:Heap}{N ps:List Str}{qual:Str}{scope:qJv}{f:Addr}{cd:qAl}{A:qDl}{outer:List Env}{s s1:qAp}{H:Hp}{E:XK}{us:List qAl}{vs:List V}
  (S:aV N ps scope) (hd:A.handled=none) (e0:xM P w K mg base A outer s H) (hl:vs.length=ps.length) (r:Vals vs us)
  (x:InCallC s s.heap.objs.size (qPn (qJe qual scope s.heap.objs.size f cd).kindOf (ps.zip us) fun _=>none) (qKo (s.heap.objs.size+1) scope.names []) (qPo (qJe qual scope s.heap.objs.size f cd).kindOf (ps.zip us) fun _=>none) s1) :
  Inv (oV CX P w K mg base N qual scope f cd A outer s H E) [] (start N vs) H s1:=by
 have hpl:ps.length<=N.length:=by have:=congrArg qMv S.pre;rw[qEh] at this;lia
 obtain⟨h1,tk,rfl,hk⟩:=x.done;have noA:∀b:Addr,b∉(oV CX P w K mg base N qual scope f cd A outer s H E).ex:=fun b z=>absurd (show b∈([]:List Addr) from z) (by simp);refine⟨⟨e0.mod,S.kind,rfl,rfl,qAg _,fun y z c h1 h2=>?_,fun y hy=>?_,fun y c _ h=>?_,fun _=>hd,Around.frames_deeper e0.frames,.inr ⟨rfl,rfl⟩,fun b z=>absurd z (noA b),e0.bs,e0.Fh,fun b _ _=>noA b,fun b z=>absurd z (noA b),e0.lB,e0.Iw⟩,
  rfl,e0.bare,Un.kept hk,⟨_,x.toInCall.ns,fun i y v h1 h2 h3=>?_⟩,fun y c h=>⟨_,x.cell y c h⟩,e0.cO.fresh (qAg _),fun y c h=>?_,fun p hp=>absurd (show p∈([]:List (Addr×Obj)) from hp) (by simp),e0.cO.kept hk,?_⟩
 .exact name_of_addr x.apart (PySem.mem_of_lookup h1) (PySem.mem_of_lookup h2)
 .have hy:scope.names.lookup y=some .cell\/scope.names.lookup y=some .free:=hy;rcases hy with hy | hy
  .exact uQ hy
  .exact absurd rfl (S.IP _ (PySem.mem_of_lookup hy))
 .exact qAo (x.above y c (PySem.mem_of_lookup h))
 .have hi:i<vs.length:=by
   unfold start at h2;by_cases hi:i<vs.length
   .exact hi
   .rw[qAz (by simpa using hi)] at h2;rw[List.getElem?_replicate] at h2;split at h2 <;> cases h2
  have ha:vs[i]?=some v:=by
   unfold start at h2;rw[qAy (by simpa using hi),qAn] at h2;cases e:vs[i]? with
   | none=>rw[e] at h2;cases h2
   | some a=>rw[e] at h2;cases h2;rfl
  obtain⟨u,hu,rv⟩:=r.get ha;have hp:ps[i]?=some y:=by
   rw[<- S.pre,qHq (by lia)];exact h1
  have ndP:ps.Nodup:=by rw[<- S.pre];exact S.nd.sublist (List.take_sublist _ _)
  exists u,rv;rcases S.par y (qAx hp) with k | k
  .exact .inl ⟨k,qU ndP hp hu k⟩
  .obtain⟨c,e⟩:=uQ (n:=s.heap.objs.size+1) k;refine .inr ⟨.inl k,c,e,?_⟩;have q:=x.cell y c e;rw[qV ndP hp hu (by show scope.names.lookup y≠_;rw[k];decide)] at q;exact q
 .exact e0.cO.fresh (qAo (x.above y c (PySem.mem_of_lookup h)))
 .unfold start;show _=N.length;rw[qAj,qAa,qIg];lia
theorem Ha{CX:Ba}{P:qBy}{w:qDg}{K:qAd}{mg:Str->Option qAl}{base:Heap}{k:Nat}{f:Addr}{name qual:Str}{params:Arguments}{body:List Stmt}{scope:qJv}{dV kV doc pm cdv ct oc:qAl}{an od:Option Addr}
  {osl:Array (Option qAl)}{N ps:List Str}{sp:Sp} (lk:K.lookup f=some ⟨oc,od,.func (qDq name qual params body scope dV kV doc pm an cdv ct),osl⟩) (hcd:qEa K cdv qual=true) (S:aV N ps scope)
  (len:∀vs H Q E,sp vs H Q E->vs.length=ps.length)
  (hbody:∀(A:qDl) (outer:List Env) (s:qAp) (H:Hp) (vs:List V) (Q:VK) (E:XK),eW k (A.deeper (qJe qual scope s.heap.objs.size f cdv))->sp vs H Q E ->
   ∃t,uG (oV CX P w K mg base N qual scope f cdv A outer s H E) body t/\t { nx:=fun _ H'=>Q .non H',rt:=Q } (start N vs) H) :
  jP P w K mg base CX (k+1) f (qDq name qual params body scope dV kV doc pm an cdv ct) ps sp:=by
 refine⟨len,fun A outer s H args us vs Q E hr e0 hb r hsp=>?_⟩;have hl:=len _ _ _ _ hsp;have KX:K.In s.heap:=e0.mod.Iu.keeps fun b o e=>(e0.bs b o e).1;have lim:s.heap.NoLimit:=e0.mod.nolimit.keeps fun b o e=>(e0.bs b o e).1;have hkind:∀y∈ps.zip us,scope.names.lookup y.1=some .local\/(scope.names.lookup y.1=some .cell/\((qKo (s.heap.objs.size+1) scope.names []).lookup y.1).isSome=true):=fun⟨n,v⟩ hy=>by
  rcases S.par n (qGw hy).1 with q | q
  .exact .inl q
  .exact .inr ⟨q,qLe _ _ _ (.inl q)⟩
 refine codeAny_call_function hr.depth (KX _ _ lk) rfl S.co S.gen rfl (PySem.W.codeRec_of KX hcd) (hb _ _ _ _ ?_);refine wpAny_newFunctionEnv_cells S.kind hkind fun env he s1 x=>?_;subst he;refine⟨lim.keeps x.toInCall.keep,codeAny_func ?_⟩;obtain⟨t,ht,hq⟩:=hbody A outer s H vs Q E (hr.deeper _) hsp;have I:Inv (oV CX P w K mg base N qual scope f cdv A outer s H E) [] (start N vs) H s1:=Bb S hr.hd e0 hl r x;refine qHl (ht [] s1 (start N vs) H _ I hq) (fun fl s' hs=>?_) fun e s' hs=>hs;have fin:∀{σ':St}{H':Hp}{v:V}{u:qAl},Inv (oV CX P w K mg base N qual scope f cdv A outer s H E) [] σ' H' s'->RelV v u->Q v H'->CE outer P w H s Q u s' :=
  fun {σ' H' v u} J rv q=>⟨v,H',J.os,J.bare,J.base,J.cO,rv,q⟩
 cases fl with
 | ret u =>
  obtain⟨v,σ',H',J,rv,q⟩:=hs;exact fin J rv q
 | next =>
  obtain⟨σ',H',J,q⟩:=hs;exact fin (v:=V.non) (u:=Value.none) J rfl q
 | brk =>
  obtain⟨_,_,_,q⟩:=hs;exact False.elim q
 | cont =>
  obtain⟨_,_,_,q⟩:=hs;exact False.elim q
section
variable {X:Cx}{x:Str}{p pos:Pos}{e:Expr}{es:List Expr}{t:TA}{id T:String}{r:List V->Hp->VK->Prop}
def Ql(r:List V->Hp->VK->Prop)(t:TA):TE:=fun σ H Q=>t σ H fun vs H1=>r vs H1 Q
theorem aJ(hc:g6 X (.builtin id) r)(hg:Gl X x)(hm:X.mg x=none)(hv:qCq x=some (.builtin id))(ha:PA X (e::es) t)(hn:x≠"__name__":=by decide)(hdb:(x == ("__debug__":Str))=false:=by decide)
  (he:qBt (e::es) X.env=(false,eval e X.env)::qBt es X.env:=by rfl) (hpl:(qHf pos (qBt es X.env)).any (·.1)=false:=by rfl):PE X (.Call (.Name x p) (e::es) [] pos) (Ql r t):=by
 intro pins s σ H Q I h;refine qGf (fV I hg hm hv ?_ hn hdb);exact qIj (cG (ha pos pins s σ H _ I h) (by rintro us s1 ⟨vs,H1,I1,r1,q1⟩;exact hc pins s1 σ H1 vs us Q I1 r1 q1)) he hpl
theorem cZ(hc:g6 X (.type T) r)(hg:Gl X x)(hm:X.mg x=none)(hv:qCq x=some (.type T))(ha:PA X (e::es) t)(hn:x≠"__name__":=by decide)(hdb:(x == ("__debug__":Str))=false:=by decide)
  (he:qBt (e::es) X.env=(false,eval e X.env)::qBt es X.env:=by rfl) (hpl:(qHf pos (qBt es X.env)).any (·.1)=false:=by rfl):PE X (.Call (.Name x p) (e::es) [] pos) (Ql r t):=by
 intro pins s σ H Q I h;refine qGf (fV I hg hm hv ?_ hn hdb);exact qCg (cG (ha pos pins s σ H _ I h) (by rintro us s1 ⟨vs,H1,I1,r1,q1⟩;exact hc pins s1 σ H1 vs us Q I1 r1 q1)) he hpl
end
end L2
namespace HT
open PySem PyProof.Rows
section
open PySem.SeqAt
open PySem.AutoSeq1 (wpAny_loadPart')
open PySem.MeetsSeq PySem.MeetsSeq2 PySem.MeetsSeq3
end
section
variable {prog:qBy}{w:qDg}{A:qDl}{E:qAl->qAp->Prop}{s:qAp}
noncomputable def eU(n d:Nat):Option Int->Nat
 | none=>d
 | some v=>if v<0 then (v+(n:Int)).toNat else min v.toNat n
theorem uR(n d:Nat):eU n d none=d:=rfl
theorem lD(n d k:Nat):eU n d (some (k:Int))=min k n:=by
 show(if (k:Int)<0 then ((k:Int)+(n:Int)).toNat else min (k:Int).toNat n)=min k n;rw[if_neg (by lia),qBb]
theorem IQ(n d:Nat)(hd:d<=n)(o:Option Int):eU n d o<=n:=by
 cases o with
 | none=>exact hd
 | some v =>
  show(if v<0 then (v+(n:Int)).toNat else min v.toNat n)<=n;by_cases hv:v<0
  .rw[if_pos hv];lia
  .rw[if_neg hv];exact Nat.min_le_right _ _
theorem zG(v:Int)(n d:Nat):(if v<0 then max (v+(n:Int)) 0 else min v (n:Int))=((eU n d (some v):Nat):Int):=by
 show(if v<0 then max (v+(n:Int)) 0 else min v (n:Int))=(((if v<0 then (v+(n:Int)).toNat else min v.toNat n):Nat):Int);by_cases hv:v<0
 .simp only[if_pos hv];lia
 .simp only[if_neg hv];lia
theorem xN(lo hi:Option Int)(n:Nat):Builtin.Slice.sliceAdjust lo hi 1 (n:Int)=(((eU n 0 lo:Nat):Int),((eU n n hi:Nat):Int)):=by
 have h1:¬((1:Int)<0):=by lia
 delta Builtin.Slice.sliceAdjust;simp only[h1,if_false];refine Prod.ext ?_ ?_
 .cases lo with
  | none=>rfl
  | some v=>exact zG v n 0
 .cases hi with
  | none=>rfl
  | some v=>exact zG v n n
theorem xO(i j:Nat):Builtin.Slice.slicePlaces (i:Int) (j:Int) 1=j-i:=by
 delta Builtin.Slice.slicePlaces;have h1:(1:Int)>0:=by lia
 simp only[h1,if_true,Int.ediv_one];split <;> lia
theorem oW(p:qLg v o)(h:Q o s):qBj (qBz prog w) A (Builtin.Slice.slicePartIndex v) Q E s:=by
 cases p with
 | none=>exact slicePart_none h
 | int i t=>exact slicePart_int h
theorem iX{sl:Addr}{vl vu:qAl}{lo hi:Option Int}{n:Nat}{Q:Int×Int×Nat->qAp->Prop}(hs:s.heap.IsSliceOf sl vl vu .none)(pl:qLg vl lo)(pu:qLg vu hi)
  (h:Q (((eU n 0 lo:Nat):Int),1,eU n n hi-eU n 0 lo) s):qBj (qBz prog w) A (Builtin.Slice.sliceApplied (.ref sl) (pure (n:Int))) Q E s:=by
 obtain⟨os,hos,hcs,hds⟩:=id hs;delta Builtin.Slice.sliceApplied Builtin.Slice.sliceFields;refine qAb (qAb (wpAny_field hos hds (x:=vl) rfl (qAb (wpAny_field hos hds (x:=vu) rfl (qAb (wpAny_field hos hds (x:=.none) rfl (qAe ?_)))))));refine qAb (slicePart_none ?_);show qBj _ _ (if ((1:Int) == 0)=true then _ else _) _ _ s;rw[if_neg (by decide)];refine qAb (oW pl (qAb (oW pu (qAb (qAe ?_)))));show qBj _ _ (match Builtin.Slice.sliceAdjust lo hi 1 (n:Int) with | (lo,hi)=>pure (lo,(1:Int),Builtin.Slice.slicePlaces lo hi 1)) _ _ s
 rw[xN lo hi n];show qBj _ _ (pure (((eU n 0 lo:Nat):Int),(1:Int),Builtin.Slice.slicePlaces ((eU n 0 lo:Nat):Int) ((eU n n hi:Nat):Int) 1)) _ _ s;rw[xO];exact qAe h
theorem Cp(xs:Array qAl)(i k:Nat):((qAk k).filterMap fun(m:Nat)=>xs[((i:Int)+(m:Int)*1).toNat]?).toArray=((xs.toList.drop i).take k).toArray:=by
 have e:(fun(m:Nat)=>xs[((i:Int)+(m:Int)*1).toNat]?)=fun m=>xs[i+m]?:=by
  funext m
  have:((i:Int)+(m:Int)*1).toNat=i+m:=by lia
  rw[this]
 rw[e];have:=pick_run xs i k;rw[qJk] at this;have e2:((fun x=>xs[x]?)∘fun x=>i+x)=fun m=>xs[i+m]?:=rfl;rw[e2] at this;rw[this]
theorem lE{t sl:Addr}{items:Array qAl}{vl vu:qAl}{lo hi:Option Int}{Q:qAl->qAp->Prop}(ht:IsTup s.heap t items)(hs:s.heap.IsSliceOf sl vl vu .none)(pl:qLg vl lo)(pu:qLg vu hi)
  (hw:¬(eU items.size 0 lo=0/\eU items.size items.size hi=items.size))
  (h:Q (.ref s.heap.objs.size) { s with heap:=s.heap.push { cls:=.type "tuple",data:=.seq ((items.toList.drop (eU items.size 0 lo)).take (eU items.size items.size hi-eU items.size 0 lo)).toArray } })
  (hsz:items.size<=qAi):qBj (qBz prog w) A (qIp (.ref t) (.ref sl)) Q E s:=by
 have htake:sizeOk (.seq ((items.toList.drop (eU items.size 0 lo)).take (eU items.size items.size hi-eU items.size 0 lo)).toArray):=by
  show((items.toList.drop (eU items.size 0 lo)).take (eU items.size items.size hi-eU items.size 0 lo)).toArray.size<=qAi;rw[qAw,qEh,qEt,qCa];omega
 have hj:eU items.size items.size hi<=items.size:=IQ _ _ (qAg _) hi;obtain⟨os,hos,hcs,hds⟩:=id hs;have hTs:s.TypeIs (.ref sl) "slice":=⟨os,hos,hcs⟩;delta qIp;try with_reducible refine qDm ?_
 first | refine qAb (qAe ?_) | skip
 refine qAb (wpAny_sequenceKey ht.typeIs #[1] ?_);refine qAb (qEr (name:=Str.ofString "__getitem__") ht.typeIs qEs
  (qEc qEs ht.typeIs entry_tuple_getitem ?_ (args_tuple_getitem _ _)))
 show qBj _ _ (Builtin.Tuple.tupleItemsOf (.ref t) >>= _) _ _ s;refine qAb (tupleItemsOf_ ht ?_);refine qAb (qHx hTs ?_);rw[if_pos (by decide)];refine qAb (iX hs pl pu ?_);have hno:¬((((eU items.size 0 lo:Nat):Int) == 0&&(1:Int) == 1&&(eU items.size items.size hi-eU items.size 0 lo) == items.size)=true):=by
  intro q;rw[qCd,qCd] at q;have q1:((eU items.size 0 lo:Nat):Int)=0:=eq_of_beq q.1.1;have q2:eU items.size items.size hi-eU items.size 0 lo=items.size:=eq_of_beq q.2;exact hw ⟨by omega,by omega⟩
 show qBj _ _ (if (((eU items.size 0 lo:Nat):Int) == 0&&(1:Int) == 1&&(eU items.size items.size hi-eU items.size 0 lo) == items.size)=true then _ else _) _ _ s;rw[if_neg hno,Cp];first
  | exact qAb (m:=Builtin.Tuple.tupleExact _) (qCk (qAe ⟨_,rfl,qAe h⟩) htake)
  | exact qAb (m:=Builtin.Tuple.tupleExact _) (qCk (qAb (qAe (qAe ⟨_,rfl,qAe h⟩))) htake)
  | exact qAb (qAb (m:=Builtin.Tuple.tupleExact _) (qCk (qAe (qAe ⟨_,rfl,qAe h⟩)) htake))
  | exact qAb (qAb (m:=Builtin.Tuple.tupleExact _) (qCk (qAe ⟨_,rfl,qAe h⟩) htake))
end
end HT
namespace L2
open PySem PySem.Spec PyProof.Rows
abbrev TO:=St->Hp->(Option Int->Hp->Prop)->Prop
def PO(X:Cx)(e:Option Expr)(t:TO):Prop :=
 ∀(pins:List (Addr×Obj)) (s:qAp) (σ:St) (H:Hp) (Q:Option Int->Hp->Prop),Inv X pins σ H s->t σ H Q ->
  qBj (qBz X.prog X.w) X.A (evalPart e X.env) (fun u s'=>∃o H',Inv X pins σ H' s'/\qLg u o/\Q o H') X.xe s
def Ft:TO:=fun _ H Q=>Q none H
def Nb(t:TE):TO:=fun σ H Q=>t σ H fun x H1=>∃i,x = .int i/\Q (some i) H1
theorem intsAre_of:∀{us:List qAl},Vals (ns.map V.int) us->qHz us ns:=by
 induction ns with
 | nil=>intro us r;rw[qEv] at r;cases r;exact .nil
 | cons n ns ih =>
  intro us r;rw[qCz] at r;cases r with
  | cons r1 r2 =>
   obtain⟨t,e⟩:=r1;subst e;exact .cons n t (ih r2)
section
variable {X:Cx}{e:Expr}{te:TE}{lo hi:Option Expr}{tl th:TO}{pos p2:Pos}
theorem lF:PO X none Ft:=by
 intro pins s σ H Q I h;rw[evalPart_none];exact qAe ⟨none,H,I,.none,h⟩
theorem gM(h:PE X e te):PO X (some e) (Nb te):=by
 intro pins s σ H Q I hw;rw[evalPart_some];refine cG (h pins s σ H _ I hw) fun u s1 z9=>?_;obtain⟨x,H1,I1,r1,q1⟩:=z9;obtain⟨i,rfl,q⟩:=q1;obtain⟨t,rfl⟩:=r1;exact⟨some i,H1,I1,.int i t,q⟩
def Nc(X:Cx)(r:V->Option Int->Option Int->Hp->VK->Prop):Prop :=
 ∀(pins:List (Addr×Obj)) (s:qAp) (σ:St) (H:Hp) (x:V) (v vl vu:qAl) (lo hi:Option Int) (sl:Addr) (Q:VK),Inv X pins σ H s->RelV x v->s.heap.IsSliceOf sl vl vu .none->qLg vl lo->qLg vu hi->r x lo hi H Q ->
  ∃T id,qMy (.type T) "__getitem__"=pure (some (.builtin id))/\s.TypeIs v T/\qBj (qBz X.prog X.w) X.A (qIp v (.ref sl)) (EP X pins σ Q) X.xe s
def QA(r:V->Option Int->Option Int->Hp->VK->Prop)(te:TE)(tl th:TO):TE:=fun σ H Q=>te σ H fun x H1=>tl σ H1 fun l H2=>th σ H2 fun u H3=>r x l u H3 Q
theorem g7(hr:Nc X r)(he:PE X e te)(hl:PO X lo tl)(hu:PO X hi th):PE X (.Subscript e (.Slice lo hi none p2) pos) (QA r te tl th):=by
 intro pins s σ H Q I h;refine Subscript_ (cG (he pins s σ H _ I h) fun v s1 z9=>?_);obtain⟨x,H1,I1,r1,q1⟩:=z9;refine wpAny_Slice (cG (hl pins s1 σ H1 _ I1 q1) fun vl s2 ⟨l,H2,I2,pl,q2⟩=>cG (hu pins s2 σ H2 _ I2 q2) fun vu s3 z9=>?_);obtain⟨u,H3,I3,pu,q3⟩:=z9;rw[evalPart_none];refine qAe ?_;have I4:Inv X pins σ H3 { s3 with heap:=s3.heap.push { cls:=.type "slice",data:=.fields #[vl,vu,.none] } }:=I3.kept (t':=s3.toks) fun b ob q=>qAh _ q;obtain⟨T,id,hT,ht,hg⟩:=hr pins { s3 with heap:=s3.heap.push { cls:=.type "slice",data:=.fields #[vl,vu,.none] } } σ H3 x v vl vu l u s3.heap.objs.size Q I4 r1 (Heap.IsSliceOf.new ..) pl pu q3;show qBj (qBz X.prog X.w) X.A (subscriptTail e (.Slice lo hi none p2) v (.ref s3.heap.objs.size)) (EP X pins σ Q) X.xe { s3 with heap:=s3.heap.push { cls:=.type "slice",data:=.fields #[vl,vu,.none] } };exact tail_any (ops:=[.ref s3.heap.objs.size,v]) ht hT hg #[7]
noncomputable def fR(xs:List V)(lo hi:Option Int):List V:=(xs.drop (HT.eU xs.length 0 lo)).take (HT.eU xs.length xs.length hi-HT.eU xs.length 0 lo)
theorem nM(xs:List V)(lo hi:Option Int):(fR xs lo hi).length<=xs.length:=by
 delta fR;rw[qEh,qEt];lia
def Ph(K:qAd):V->Option Int->Option Int->Hp->VK->Prop:=fun x lo hi H Q=>∃a xs,x = .ref a/\cE K H a xs /\
 ¬(HT.eU xs.length 0 lo=0/\HT.eU xs.length xs.length hi=xs.length)/\∀p,H p=none->Q (.ref p) (upd H p (.tup (fR xs lo hi)))
theorem IS:Nc X (Ph X.K):=by
 intro pins s σ H x v vl vu lo hi sl Q I rx hs pl pu h;obtain⟨a,xs,rfl,hx,hw,q⟩:=h;cases rx;obtain⟨its,r,ht,hz⟩:=I.tuple hx;have hlen:its.toArray.size=xs.length:=by rw[qAw];exact r.length.symm
 exists "tuple",_,PyProof.Rows.slot_tuple_getitem.lookup,ht.typeIs;refine HT.lE ht hs pl pu (by rw[hlen];exact hw) ?_ (by rw[hlen];exact hz);rw[hlen];refine⟨.ref s.heap.objs.size,_,I.laid (t':=s.toks) (o:=.tup (fR xs lo hi)) (fun b ob q=>qAh _ q) (qAg _) ?_,rfl,q _ (I.cO.fresh (qAg _))⟩;exact⟨qCy (nM xs lo hi) hz,_,(r.drop (HT.eU xs.length 0 lo)).take (HT.eU xs.length xs.length hi-HT.eU xs.length 0 lo),IsTup.new _ _⟩
end
noncomputable def Bc(n:Nat)(i:Int):Option Nat:=if 0<=i then (if i<n then some i.toNat else none) else if -(n:Int)<=i then some (i+n).toNat else none
noncomputable def eV{α:Type}(xs:List α)(i:Int):Option α:=(Bc xs.length i).bind fun j=>xs[j]?
theorem zH(h:Bc n i=some j):seqIndex? i n=some j/\j<n/\-(n:Int)<=i/\i<n:=by
 delta Bc at h;by_cases h0:0<=i
 .rw[if_pos h0] at h;by_cases h1:i<n
  .rw[if_pos h1] at h;have e:i.toNat=j:=Option.some.inj h;exact⟨by rw[seqIndex_of h0 h1,e],by lia,by lia,h1⟩
  .rw[if_neg h1] at h;cases h
 .rw[if_neg h0] at h;by_cases h1:-(n:Int)<=i
  .rw[if_pos h1] at h;have e:(i+n).toNat=j:=Option.some.inj h;exact⟨by rw[seqIndex_neg (by lia) h1,e],by lia,h1,by lia⟩
  .rw[if_neg h1] at h;cases h
theorem zI(h:eV xs i=some v):∃j,seqIndex? i xs.length=some j/\xs[j]?=some v/\j<xs.length/\-(xs.length:Int)<=i/\i<xs.length:=by
 delta eV at h;cases e:Bc xs.length i with
 | none=>rw[e] at h;cases h
 | some j =>
  rw[e] at h;obtain⟨h1,h2,h3,h4⟩:=zH e;exact⟨j,h1,h,h2,h3,h4⟩
theorem fA{α:Type}{xs:List α}{j:Nat}{v:α}(h:xs[j]?=some v):eV xs (j:Int)=some v:=by
 have hj:j<xs.length:=(List.getElem?_eq_some_iff.mp h).1;have e:Bc xs.length (j:Int)=some j:=by
  delta Bc;rw[if_pos (by lia),if_pos (by lia)];simp
 delta eV;rw[e];exact h
def Fu(b:Expr):Prop:=∀o i,qLv b false o i=operate [o,i] (qIp o i)
def MB(X:Cx)(r:R2):Prop :=
 ∀(value slice:Expr) (pins:List (Addr×Obj)) (s:qAp) (σ:St) (H:Hp) (x y:V) (v u:qAl) (Q:VK),Inv X pins σ H s->RelV x v->RelV y u->r x y H Q ->
  qLv slice false v u=operate [v,u] (qIp v u)->qBj (qBz X.prog X.w) X.A (subscriptTail value slice v u) (EP X pins σ Q) X.xe s
def Fv(X:Cx)(id:String)(r:V->List V->Hp->VK->Prop):Prop :=
 ∀(pins:List (Addr×Obj)) (s:qAp) (σ:St) (H:Hp) (x:V) (xs:List V) (v:qAl) (us:List qAl) (Q:VK),Inv X pins σ H s->RelV x v->Vals xs us->r x xs H Q ->
  qBj (qBz X.prog X.w) X.A (call (.builtin id) (v::us)) (EP X pins σ Q) X.xe s
section
variable {X:Cx}{a b:Expr}{ta tb:TE}{pos:Pos}
theorem aQ(hr:MB X r)(ha:PE X a ta)(hb:PE X b tb)(hs:Fu b):PE X (.Subscript a b pos) (OK r ta tb):=by
 intro pins s σ H Q I h;exact Subscript_ (IJ ha hb I h fun v u s2 x y H2 I2 rx ry q=>hr a b pins s2 σ H2 x y v u Q I2 rx ry q (hs _ _))
def Nd(K:qAd):R2:=fun x y H Q=>∃p xs i v,x = .ref p/\y = .int i/\aS K H p xs/\eV xs i=some v/\Q v H
def Nf(K:qAd):R2:=fun x y H Q=>∃p xs i v,x = .ref p/\y = .int i/\cE K H p xs/\eV xs i=some v/\Q v H
theorem a8:MB X (Nd X.K):=by
 intro value slice pins s σ H x y v u Q I rx ry h hs;obtain⟨p,xs,i,z,rfl,rfl,hq,he,q⟩:=h;cases rx;obtain⟨t,rfl⟩:=ry;obtain⟨its,r,pl,hz⟩:=I.list hq;obtain⟨j,h1,h2,h3,h4,h5⟩:=zI he;obtain⟨w,ew,rw'⟩:=r.get h2;have hl:=r.length;have hn:=sO;have fin:EP X pins σ Q w s:=⟨z,H,I,rw',q⟩;by_cases h0:0<=i
 .have hj:i.toNat=j:=by
   rw[seqIndex_of h0 h5] at h1;exact Option.some.inj h1
  exact item_listR pl.isList h0 (by lia) (by rw[hj];simpa using ew) fin hs
 .have hj:(i+(its.toArray.size:Int)).toNat=j:=by
   rw[seqIndex_neg (by lia) h4] at h1;rw[qAw,<- hl];exact Option.some.inj h1
  exact subscriptTail_builtinR (x:=w) pl.isList.typeIs slot_list_getitem.lookup
   (wpAny_getItem_list_neg (Q:=fun r s'=>r=w/\EP X pins σ Q r s') pl.isList (by lia) (by rw[qAw] <;> lia) (by lia) (by rw[hj];simpa using ew) ⟨rfl,fin⟩) hs
theorem bB:MB X (Nf X.K):=by
 intro value slice pins s σ H x y v u Q I rx ry h hs;obtain⟨p,xs,i,z,rfl,rfl,hq,he,q⟩:=h;cases rx;obtain⟨t,rfl⟩:=ry;obtain⟨its,r,pl,hz⟩:=I.tuple hq;obtain⟨j,h1,h2,h3,h4,h5⟩:=zI he;obtain⟨w,ew,rw'⟩:=r.get h2;have hl:=r.length;have hn:=sO;have fin:EP X pins σ Q w s:=⟨z,H,I,rw',q⟩;exact subscriptTail_builtinR (x:=w) pl.typeIs slot_tuple_getitem.lookup
  (getItem_tuple (j:=j) (Q:=fun r s'=>r=w/\EP X pins σ Q r s') pl (by lia) (by lia) (by rw[qAw,<- hl];exact h1) (by simpa using ew) ⟨rfl,fin⟩) hs
theorem xP(its:List qAl)(n j:Nat)(u:qAl):Obj.mapSeq (·.setIfInBounds j u) { cls:=.type "list",data:=.seq its.toArray n }={ cls:=.type "list",data:=.seq (its.set j u).toArray n }:=by
 simp[Obj.mapSeq]
theorem Inv.lst(I:Inv X pins σ H s)(h:H p=some (.lst xs)):
  ∃(its:List qAl) (n:Nat),Vals xs its/\s.heap.get? p=some { cls:=.type "list",data:=.seq its.toArray n }/\xs.length<=qAi:=by
 obtain⟨z,its,n,r,e⟩:=I.cO p _ h;exact⟨its,n,r,e,z⟩
theorem Inv.IT{pins:List (Addr×Obj)}{σ:St}{H:Hp}{s:qAp}{p:Addr}{xs ys:List V}{its its':List qAl}{n n':Nat}{f:Obj->Obj}(I:Inv X pins σ H s)(h:H p=some (.lst xs))
  (ho:s.heap.get? p=some { cls:=.type "list",data:=.seq its.toArray n }) (hf:f { cls:=.type "list",data:=.seq its.toArray n }={ cls:=.type "list",data:=.seq its'.toArray n' }) (r:Vals ys its') (hz:ys.length<=qAi) (t:Nat) :
  Inv X pins σ (upd H p (.lst ys)) { s with heap:=s.heap.update p f,toks:=t }:=by
 have e:(s.heap.update p f).get? p=some { cls:=.type "list",data:=.seq its'.toArray n' }:=by
  rw[qDh f ho (by rw[hf] <;> rfl),hf]
 refine I.write (x:=p) (e:=p) (by rw[h];trivial) (.inl rfl) (fun b u hb q=>(qDy _ _ (Ne.symm hb)).trans q) ⟨_,e⟩ ?_;exact⟨hz,its',n',r,e⟩
def Ng:V->V->V->Hp->(Hp->Prop)->Prop:=fun o i v H Q=>∃p xs k j,o = .ref p/\i = .int k/\H p=some (.lst xs)/\Bc xs.length k=some j/\Q (upd H p (.lst (xs.set j v)))
theorem set_list:IE X Ng:=by
 intro pins s σ H o i v ov iv u Q I ro ri rv h;obtain⟨p,xs,k,j,rfl,rfl,hp,hj,q⟩:=h;cases ro;obtain⟨t,rfl⟩:=ri;obtain⟨its,n,r,ho,hz⟩:=I.lst hp;obtain⟨h1,h2,h3,h4⟩:=zH hj;have hl:=r.length;have hn:=sO;have I':Inv X pins σ (upd H p (.lst (xs.set j v))) { s with heap:=s.heap.update p (Obj.mapSeq (·.setIfInBounds j u)) } :=
  I.IT hp ho (xP its n j u) (r.set rv j) (by rw[qIf];exact hz) s.toks
 by_cases h0:0<=k
 .have hk:k.toNat=j:=by
   rw[seqIndex_of h0 h4] at h1;exact Option.some.inj h1
  exact PySem.W.ki_setAt ho h0 (by lia) (by rw[qAw,<- hl];exact h4) (by rw[hk];exact⟨_,I',q⟩)
 .have hk:(k+(its.toArray.size:Int)).toNat=j:=by
   rw[seqIndex_neg (by lia) h3] at h1;rw[qAw,<- hl];exact Option.some.inj h1
  exact PySem.W.ki_setBack ho (by lia) (by rw[qAw,<- hl];exact h3) (by lia) (by rw[hk];exact⟨_,I',q⟩)
theorem sQ(lo hi:Option Int)(n:Nat):(qHo lo hi none n).1=((HT.eU n 0 lo:Nat):Int)/\(qHo lo hi none n).2.1=((HT.eU n n hi:Nat):Int)/\(qHo lo hi none n).2.2=1:=by
 refine⟨?_,?_,rfl⟩
 .cases lo with
  | none=>simp[qHo,HT.eU]
  | some i =>
   simp only[qHo,HT.eU,qNe,show(1:Int)>0 by decide,if_true];by_cases h:i<0
   .simp only[h,if_true] <;> lia
   .simp only[h,if_false] <;> lia
 .cases hi with
  | none=>simp[qHo,HT.eU]
  | some i =>
   simp only[qHo,HT.eU,qNe,show(1:Int)>0 by decide,if_true];by_cases h:i<0
   .simp only[h,if_true] <;> lia
   .simp only[h,if_false] <;> lia
theorem qJ(its:List qAl)(lo hi:Option Int):slicePick its.toArray lo hi none=((its.drop (HT.eU its.length 0 lo)).take (HT.eU its.length its.length hi-HT.eU its.length 0 lo)).toArray:=by
 obtain⟨h1,h2,h3⟩:=sQ lo hi its.toArray.size;delta slicePick;rw[h1,h2,h3];simp only[sliceRange_one,pick_run,qAw] <;> rfl
def Pj(K:qAd):V->Option Int->Option Int->Hp->VK->Prop:=fun x lo hi H Q=>∃a xs,x = .ref a/\aS K H a xs/\∀p,H p=none->Q (.ref p) (upd H p (.lst (fR xs lo hi)))
theorem lG:Nc X (Pj X.K):=by
 intro pins s σ H x v vl vu lo hi sl Q I rx hs pl pu h;obtain⟨a,xs,rfl,hx,q⟩:=h;cases rx;obtain⟨its,r,ht,hz⟩:=I.list hx;have hlen:=r.length;exists "list",_,slot_list_getitem.lookup,ht.isList.typeIs;refine wpAny_getItem_list_slice ht.isList hs pl pu .none (by simp) ?_ (by rw[qAw] <;> lia);rw[qJ,<- hlen];refine⟨.ref s.heap.objs.size,_,I.laid (t':=s.toks) (o:=.lst (fR xs lo hi)) (fun b ob q=>qAh _ q) (qAg _) ?_,rfl,q _ (I.cO.fresh (qAg _))⟩;exact⟨qCy (nM xs lo hi) hz,_,0,(r.drop (HT.eU xs.length 0 lo)).take (HT.eU xs.length xs.length hi-HT.eU xs.length 0 lo),qAt _ rfl⟩
noncomputable def lI:V->Bool
 | .non=>true
 | .bl _=>true
 | .int _=>true
 | .str _=>true
 | _=>false
noncomputable def Fw:V->V->Bool
 | .non,.non=>true
 | .bl a,.bl b=>a == b
 | .bl a,.int b=>(if a then 1 else 0) == b
 | .int a,.bl b=>a == (if b then 1 else 0)
 | .int a,.int b=>a == b
 | .str a,.str b=>a == b
 | _,_=>false
theorem IU(ry:RelV y u)(rx:RelV x v)(fy:lI y=true)(fx:lI x=true):SeqAt.EqAt A s u v (Fw y x):=by
 cases y with
 | non =>
  cases ry
  cases x with
  | non=>cases rx;exact SeqAt.EqAt.same _
  | bl b=>cases rx;exact SeqAt.EqAt.none_bool b
  | int b=>obtain⟨t,rfl⟩:=rx;exact SeqAt.EqAt.none_int b t
  | str b=>obtain⟨t,rfl⟩:=rx;exact SeqAt.EqAt.none_str b t
  | _=>exact absurd (show false=true from fx) qAq
 | bl a =>
  cases ry
  cases x with
  | non=>cases rx;exact SeqAt.EqAt.bool_none a
  | bl b=>cases rx;exact SeqAt.EqAt.bool_bool a b
  | int b=>obtain⟨t,rfl⟩:=rx;exact SeqAt.EqAt.bool_int a b t
  | str b=>obtain⟨t,rfl⟩:=rx;exact SeqAt.EqAt.bool_str a b t
  | _=>exact absurd (show false=true from fx) qAq
 | int a =>
  obtain⟨t',rfl⟩:=ry;cases x with
  | non=>cases rx;exact SeqAt.EqAt.int_none a t'
  | bl b=>cases rx;exact SeqAt.EqAt.int_bool a t' b
  | int b=>obtain⟨t,rfl⟩:=rx;exact SeqAt.EqAt.int_int a t' b t
  | str b=>obtain⟨t,rfl⟩:=rx;exact SeqAt.EqAt.int_str a t' b t
  | _=>exact absurd (show false=true from fx) qAq
 | str a =>
  obtain⟨t',rfl⟩:=ry;cases x with
  | non=>cases rx;exact SeqAt.EqAt.str_none a t'
  | bl b=>cases rx;exact SeqAt.EqAt.str_bool a t' b
  | int b=>obtain⟨t,rfl⟩:=rx;exact SeqAt.EqAt.str_int a t' b t
  | str b=>obtain⟨t,rfl⟩:=rx;exact SeqAt.EqAt.str_str a t' b t
  | _=>exact absurd (show false=true from fx) qAq
 | _=>exact absurd (show false=true from fy) qAq
noncomputable def Fx(x:V)(u:qAl):Bool:=match u with
 | .none=>Fw .non x
 | .bool b=>Fw (.bl b) x
 | .int i _=>Fw (.int i) x
 | .str z _=>Fw (.str z) x
 | _=>false
theorem Cq(r:RelV y u)(f:lI y=true):Fx x u=Fw y x:=by
 cases y with
 | non=>cases r;rfl
 | bl b=>cases r;rfl
 | int i=>obtain⟨t,rfl⟩:=r;rfl
 | str z=>obtain⟨t,rfl⟩:=r;rfl
 | _=>exact absurd (show false=true from f) qAq
theorem sT:∀{xs:List V}{us:List qAl},Vals xs us->xs.all lI=true->us.any (Fx x)=xs.any fun y=>Fw y x
 | _,_,.nil,_=>rfl
 | y::xs,u::us,.cons r t,f=>by
  rw[qPa,qCd] at f;rw[qHw,qHw,Cq r f.1,sT t f.2]
theorem oX(rx:RelV x v)(fx:lI x=true):∀{xs:List V}{us:List qAl},Vals xs us->xs.all lI=true->∀u∈us,SeqAt.EqAt A s u v (Fx x u)
 | _,_,.nil,_=>fun u hu=>by cases hu
 | y::xs,u::us,.cons r t,f=>fun u' hu=>by
  rw[qPa,qCd] at f;rcases List.mem_cons.mp hu with rfl | hu
  .rw[Cq r f.1];exact IU r rx f.1 fx
  .exact oX rx fx t f.2 u' hu
noncomputable def Hb(x:V)(xs:List V):Bool:=xs.any fun y=>Fw y x
def QB(K:qAd)(neg:Bool):R2:=fun x y H Q=>∃p xs,y = .ref p/\(aS K H p xs\/cE K H p xs)/\lI x=true/\xs.all lI=true/\Q (.bl (if neg then !Hb x xs else Hb x xs)) H
theorem lJ:iW X (qEf .NotIn) (QB X.K true):=by
 intro pins s σ H x y v u Q I rx ry h;obtain⟨p,xs,rfl,hq,fx,fs,q⟩:=h;cases ry;rcases hq with hq | hq
 .obtain⟨its,r,pl,hz⟩:=I.list hq;refine SeqAt.notIn_listAt (Fx x) pl.isList (fun w hw=>oX rx fx r fs w (by simpa using hw)) ⟨.bl _,H,I,rfl,?_⟩;rw[show its.toArray.any (Fx x)=its.any (Fx x) by simp,sT r fs];exact q
 .obtain⟨its,r,pl,hz⟩:=I.tuple hq;refine SeqAt.notIn_tupleAt (Fx x) pl (fun w hw=>oX rx fx r fs w (by simpa using hw)) ⟨.bl _,H,I,rfl,?_⟩;rw[show its.toArray.any (Fx x)=its.any (Fx x) by simp,sT r fs];exact q
theorem aN:g6 X (.builtin "len") (fun xs H Q=>∃p ys,xs=[.ref p]/\(aS X.K H p ys\/cE X.K H p ys)/\Q (.int ys.length) H):=by
 intro pins s σ H xs us Q I r h;obtain⟨p,ys,rfl,hq,q⟩:=h;obtain⟨u,rfl,rx⟩:=vals1 r;cases rx;have hn:=sO;rcases hq with hq | hq
 .obtain⟨its,r',pl,hz⟩:=I.list hq;have hlen:=r'.length;exact Calls.call_len_list pl.isList (by simp only[qAw] <;> lia) ⟨.int ys.length,H,I.tok _,⟨s.toks+1,by rw[qAw,hlen]⟩,q⟩
 .obtain⟨its,r',pl,hz⟩:=I.tuple hq;have hlen:=r'.length;exact len_tuple pl (by simp only[qAw] <;> lia) ⟨.int ys.length,H,I.tok _,⟨s.toks+1,by rw[qAw,hlen]⟩,q⟩
theorem jC:g6 X (.type "list") (fun xs H Q=>∃p ys,xs=[.ref p]/\(aS X.K H p ys\/cE X.K H p ys)/\∀l,H l=none->Q (.ref l) (upd H l (.lst ys))):=by
 intro pins s σ H xs us Q I r h;obtain⟨p,ys,rfl,hq,q⟩:=h;obtain⟨u,rfl,rx⟩:=vals1 r;cases rx;have fin:∀(its:List qAl),Vals ys its->ys.length<=qAi->∀(h':Heap) (c':Nat),(∀b o',s.heap.get? b=some o'->h'.get? b=some o') ->
   h'.get? s.heap.objs.size=some { cls:=.type "list",dict:=none,data:=.seq its.toArray c',slots:=#[] }->EP X pins σ Q (.ref s.heap.objs.size) { s with heap:=h' }:=fun its r' hz h' c' kp e =>
  ⟨.ref s.heap.objs.size,_,I.laid (t':=s.toks) kp (qAg _) (show cU X.prog X.w _ h' _ (.lst ys) from⟨hz,its,c',r',e⟩),rfl,q _ (I.cO.fresh (qAg _))⟩
 rcases hq with hq | hq
 .obtain⟨its,r',pl,hz⟩:=I.list hq;have hlen:=r'.length;obtain⟨o,ho,hc,n,hd⟩:=pl.isList;exact call_list_seq p (.inl rfl) ho hc hd (fun h' c' kp e=>fin its r' hz h' c' kp e) (by simp only[qAw] <;> lia)
 .obtain⟨its,r',pl,hz⟩:=I.tuple hq;have hlen:=r'.length;obtain⟨o,ho,hc,n,hd⟩:=pl;exact call_list_seq p (.inr rfl) ho hc hd (fun h' c' kp e=>fin its r' hz h' c' kp e) (by simp only[qAw] <;> lia)
def Pk(K:qAd)(T:String)(x:V)(H:Hp):Prop:=match x with
 | .str _=>T="str"
 | .int _=>T="int"
 | .ref p=>(T="list"/\∃xs,aS K H p xs)\/(T="tuple"/\∃o,K.lookup p=some o/\o.cls = .type "tuple"/\o.dict=none) \/
   (T="dict"/\((∃kvs,H p=some (.dK kvs))\/∃kvs,H p=some (.dT kvs)))\/(T="set"/\∃S n,H p=some (.set S n))
 | _=>False
theorem Cr(I:Inv X pins σ H s)(r:RelV x v)(ty:Pk X.K T x H):
  s.TypeIs v T/\∀a,v = .ref a->∃ob,s.heap.get? a=some ob/\ob.dict=none:=by
 cases x with
 | str z =>
  obtain⟨t,rfl⟩:=r;cases (show T="str" from ty);exact⟨typeIs_str s z t,fun _ e=>nomatch e⟩
 | int i =>
  obtain⟨t,rfl⟩:=r;cases (show T="int" from ty);exact⟨typeIs_int s i t,fun _ e=>nomatch e⟩
 | ref p =>
  cases r
  rcases ty with ⟨rfl,xs,hq⟩ | ⟨rfl,o,hk,hc,hd⟩ | ⟨rfl,hk⟩ | ⟨rfl,S,n,hk⟩
  .obtain⟨its,_,pl,_⟩:=I.list hq;refine⟨pl.isList.typeIs,fun a e=>?_⟩;cases e;obtain⟨o,n,e,c,hd,_⟩:=pl;exact⟨o,e,hd⟩
  .refine⟨⟨o,I.w6 p o hk,hc⟩,fun a e=>?_⟩;cases e;exact⟨o,I.w6 _ o hk,hd⟩
  .have z:∃o,s.heap.get? p=some o/\o.ExactDict:=by
    rcases hk with ⟨kvs,hk⟩ | ⟨kvs,hk⟩
    .obtain⟨_,_,_,_,o,_,_,e,ex,_⟩:=I.cO p _ hk;exact⟨o,e,ex⟩
    .obtain⟨_,_,_,_,o,_,_,e,ex,_⟩:=I.cO p _ hk;exact⟨o,e,ex⟩
   obtain⟨o,e,ex⟩:=z;refine⟨⟨o,e,ex.1⟩,fun a e2=>?_⟩;cases e2;exact⟨o,e,ex.2.1⟩
  .obtain⟨o,_,_,_,e,ex,_⟩:=I.cO p _ hk;refine⟨⟨o,e,ex.1⟩,fun a e2=>?_⟩;cases e2;exact⟨o,e,ex.2.1⟩
 | _=>exact False.elim ty
def Pm(K:qAd)(T:String)(r:V->List V->Hp->VK->Prop)(to:TE):TE:=fun σ H Q=>to σ H fun x H1=>Pk K T x H1/\r x [] H1 Q
def Qm(K:qAd)(T:String)(r:V->List V->Hp->VK->Prop)(to:TE)(t:TA):TE:=fun σ H Q=>to σ H fun x H1=>Pk K T x H1/\t σ H1 fun xs H2=>r x xs H2 Q
variable {o e:Expr}{es:List Expr}{to:TE}{t:TA}{name:Str}{apos cpos:Pos}{T id:String}{r:V->List V->Hp->VK->Prop}
theorem Cs(pa:PlainAttrs T)(slot:Slot T name id)(hty:qPe (.builtin id)=pure (.type "method_descriptor"))(hm:Fv X id r)(ho:PE X o to)
  (hbase:qGg o name X.env (eval o X.env)=eval o X.env:=by rfl) (hline:(apos.endLine == cpos.line)=true:=by rfl):PE X (.Call (.Attribute o name apos) [] [] cpos) (Pm X.K T r to):=by
 intro pins s σ H Q I h;refine wpAny_Call_method0_late hbase hline (cG (ho pins s σ H _ I h) fun v s1 z9=>?_);obtain⟨x,H1,I1,r1,ty,q1⟩:=z9;obtain⟨h1,h2⟩:=Cr I1 r1 ty;exact⟨T,id,pa,slot,hty,h1,h2,qHy rfl (PySem.evalArgs_none (hm pins s1 σ H1 x [] v [] Q I1 r1 .nil q1))⟩
theorem lK(pa:PlainAttrs T)(slot:Slot T name id)(hty:qPe (.builtin id)=pure (.type "method_descriptor"))(hm:Fv X id r)(ho:PE X o to)(ha:PA X (e::es) t)
  (hbase:qGg o name X.env (eval o X.env)=eval o X.env:=by rfl)
  (hfew:((qHf cpos (qBt (e::es) X.env)).all (fun x=>!x.1)&&(backToKw cpos (keywordEach [] X.env)).all (fun x=>x.1.isSome)
   && decide ((e::es).length+([]:List qOx).length+(if ([]:List qOx).isEmpty then 0 else 1)<30))=true:=by rfl)
  (hline:(apos.endLine == cpos.line)=true:=by rfl) (hs:qBt (e::es) X.env=(false,eval e X.env)::qBt es X.env:=by rfl) (hplain:(qHf cpos (qBt es X.env)).any (·.1)=false:=by rfl) :
  PE X (.Call (.Attribute o name apos) (e::es) [] cpos) (Qm X.K T r to t):=by
 intro pins s σ H Q I h;refine wpAny_Call_method_late hbase hfew hline rfl (cG (ho pins s σ H _ I h) fun v s1 z9=>?_);obtain⟨x,H1,I1,r1,ty,q1⟩:=z9;obtain⟨h1,h2⟩:=Cr I1 r1 ty;exists T,id,pa,slot,hty,h1,h2;have hA:=ha cpos pins s1 σ H1 _ I1 q1;rw[hs] at hA|-;refine qHy (by show(false||(qHf cpos (qBt es X.env)).any (·.1))=false;rw[hplain] <;> rfl) (qMe ?_)
 exact cG hA (by rintro us s2 ⟨vs,H2,I2,r2,q2⟩;exact hm pins s2 σ H2 x vs v us Q I2 r1 r2 q2)
end
def OL(X:Cx)(id:String)(r:V->List V->Hp->VK->Prop):Prop :=
 ∀(pins:List (Addr×Obj)) (s:qAp) (σ:St) (H:Hp) (x:V) (xs:List V) (v:qAl) (us:List qAl) (Q:VK),Inv X pins σ H s->RelV x v->Vals xs us->r x xs H Q ->
  qBj (qBz X.prog X.w) X.A (call (.builtin id) (v::us)) (EP X pins σ Q) X.xe s
theorem Vals.one:∀{x:V}{us:List qAl},Vals [x] us->∃u,us=[u]/\RelV x u
 | _,_,.cons r .nil=>⟨_,rfl,r⟩
theorem Vals.zero:∀{us:List qAl},Vals [] us->us=[]
 | _,.nil=>rfl
theorem Vals.dropLast(h:Vals xs us):Vals xs.dropLast us.dropLast:=by
 induction h with
 | nil=>exact .nil
 | cons r t ih =>
  cases t with
  | nil=>exact .nil
  | cons q t'=>exact .cons r ih
theorem Vals.rep(h:Vals xs us):∀k:Nat,Vals (qBk k xs).flatten (qBk k us).flatten
 | 0=>.nil
 | k+1=>by
  rw[qEb,qEb,qFj,qFj];exact Vals.append h (Vals.rep h k)
theorem xQ(l:List α):l.eraseIdx (l.length-1)=l.dropLast:=by
 induction l with
 | nil=>rfl
 | cons a r ih =>
  cases r with
  | nil=>rfl
  | cons b r =>
   have e:(a::b::r).length-1=((b::r).length-1)+1:=by
    have h1:(a::b::r).length=r.length+2:=rfl;have h2:(b::r).length=r.length+1:=rfl;lia
   rw[e,List.eraseIdx_cons_succ,ih];all_goals rfl
theorem foldl_rep(its:List qAl):∀(k:Nat) (acc:List qAl),
  qNs (fun x1 x2=>x1++x2) acc.toArray (qBk k its.toArray)=(acc++(qBk k its).flatten).toArray
 | 0,acc=>by simp
 | k+1,acc=>by
  have e:acc.toArray++its.toArray=(acc++its).toArray:=by simp
  have e2:(acc++its)++(qBk k its).flatten=acc++(qBk (k+1) its).flatten:=by
   rw[qEb,qFj,qHt]
  rw[<- e2,<- foldl_rep its k (acc++its),<- e,qEb,List.foldl_cons]
section
variable {X:Cx}{pins:List (Addr×Obj)}{σ:St}{H:Hp}{s:qAp}{l b:Addr}{xs ys zs:List V}
theorem Inv.Fy{its its':List qAl}{n:Nat}{f:Array qAl->Array qAl}{t':Nat}(I:Inv X pins σ H s)(hH:H l=some (.lst xs))
  (e:s.heap.get? l=some { cls:=.type "list",data:=.seq its.toArray n }) (hf:f its.toArray=its'.toArray) (hv:Vals ys its') (hz:ys.length<=qAi) :
  Inv X pins σ (upd H l (.lst ys)) { s with heap:=s.heap.update l (Obj.mapSeq f),toks:=t' }:=by
 have q:=PySem.IsL.update e f;rw[hf] at q;refine I.write (x:=l) (e:=l) (by rw[hH];exact trivial) (.inl rfl) (fun b' u hb hu=>(qDy s.heap (Obj.mapSeq f) (Ne.symm hb)).trans hu) ⟨_,q⟩ ?_;exact⟨hz,its',_,hv,q⟩
theorem Inv.Nh(I:Inv X pins σ H s)(hv:Vals ys its)(hz:ys.length<=qAi):
  Inv X pins σ (upd H s.heap.objs.size (.lst ys)) { s with heap:=s.heap.push { cls:=.type "list",data:=.seq its.toArray },toks:=t' } :=
 I.laid (fun _ _ q=>qAh _ q) (qAg _) ⟨hz,its,0,hv,qAt _ rfl⟩
theorem Inv.fresh(I:Inv X pins σ H s):H s.heap.objs.size=none:=I.cO.fresh (qAg _)
theorem Inv.Bd(I:Inv X pins σ H s)(hH:H l=some (.lst xs)):xs.length<=qAi/\∃(its:List qAl) (n:Nat),Vals xs its/\xs.length=its.length/\s.heap.get? l=some { cls:=.type "list",data:=.seq its.toArray n }:=by
 obtain⟨z,its,n,r,e⟩:=I.cO l _ hH;exact⟨z,its,n,r,r.length,e⟩
theorem uS(h:n<=qAi):Builtin.List.listTooLong n=false:=by
 delta Builtin.List.listTooLong;exact decide_eq_false (by lia)
end
section
variable {X:Cx}
def zJ:V->List V->Hp->VK->Prop:=fun x vs H Q=>∃l xs y,x = .ref l/\vs=[y]/\H l=some (.lst xs)/\xs.length<qAi/\Q .non (upd H l (.lst (xs++[y])))
theorem mW:OL X "list.append" zJ:=by
 intro pins s σ H x vs v us Q I rx rv h;obtain⟨l,xs,y,rfl,rfl,hH,hz,q⟩:=h;cases rx;obtain⟨u,rfl,ru⟩:=rv.one;obtain⟨z,its,n,r,hl,e⟩:=I.Bd hH;refine qHm F.slot_list_append ⟨_,e,rfl⟩ F.entry_list_append (F.args_list_append_2 _ _) (PySem.list_append l its.toArray n u (by rw[qAw];lia)) ⟨e,?_⟩;refine⟨.non,_,I.Fy (its':=its++[u]) hH e (by simp) (r.append (.cons ru .nil)) ?_,rfl,q⟩;rw[qAj,qBf];lia
def Ni:V->List V->Hp->VK->Prop:=fun x vs H Q=>∃l xs y,x = .ref l/\vs=[]/\H l=some (.lst xs)/\xs[xs.length-1]?=some y/\Q y (upd H l (.lst xs.dropLast))
theorem IV:OL X "list.pop" Ni:=by
 intro pins s σ H x vs v us Q I rx rv h;obtain⟨l,xs,y,rfl,rfl,hH,hy,q⟩:=h;cases rx;have hus:=rv.zero;subst hus;obtain⟨z,its,n,r,hl,e⟩:=I.Bd hH;obtain⟨u,hu,ru⟩:=r.get hy;have hy':its.toArray[its.toArray.size-1]?=some u:=by
  show its.toArray[its.length-1]?=some u;rw[<- qDf,<- hl];exact hu
 refine qHm F.slot_list_pop ⟨_,e,rfl⟩ F.entry_list_pop (F.args_list_pop_1 _) (MeetsSeq.list_pop_last l its.toArray n u hy' (by rw[qAw];lia)) ⟨e,?_⟩;refine⟨y,_,I.Fy (its':=its.dropLast) hH e ?_ r.dropLast ?_,ru,q⟩
 .show its.toArray.eraseIdxIfInBounds (its.toArray.size-1)=its.dropLast.toArray;rw[qAw,List.eraseIdxIfInBounds_toArray,xQ]
 .rw[qMn];lia
def Ct:V->List V->Hp->VK->Prop:=fun x vs H Q=>∃l xs,x = .ref l/\vs=[]/\H l=some (.lst xs)/\Q .non (upd H l (.lst []))
theorem Cu:OL X "list.clear" Ct:=by
 intro pins s σ H x vs v us Q I rx rv h;obtain⟨l,xs,rfl,rfl,hH,q⟩:=h;cases rx;have hus:=rv.zero;subst hus;obtain⟨z,its,n,r,hl,e⟩:=I.Bd hH;refine qHm F.slot_list_clear ⟨_,e,rfl⟩ F.entry_list_clear (F.args_list_clear_1 _) (AutoSeq1.list_clear_list_0 l its.toArray n (by rw[qAw];lia)) ⟨e,?_⟩;exact⟨.non,_,I.Fy (its':=[]) (ys:=[]) hH e rfl .nil (qBn _),rfl,q⟩
def Pn:R2:=fun x y H Q=>∃l k xs,x = .ref l/\y = .int k/\H l=some (.lst xs)/\-(2^63)<=k/\k<2^63/\xs.length*k.toNat<=qAi /\
 ∀p,H p=none->Q (.ref p) (upd H p (.lst (qBk k.toNat xs).flatten))
theorem len_rep(xs:List α)(k:Nat):(qBk k xs).flatten.length=k*xs.length:=by
 induction k with
 | zero=>simp
 | succ k ih=>rw[qEb,qFj,qAj,ih,Nat.succ_mul,qJx]
theorem gI:iW X (qFc .Mult) Pn:=by
 intro pins s σ H x y v u Q I rx ry h;obtain⟨l,k,xs,rfl,rfl,hH,h1,h2,hz,q⟩:=h;cases rx;obtain⟨t,rfl⟩:=ry;obtain⟨z,its,n,r,hl,e⟩:=I.Bd hH;have hlen:its.toArray.size*k.toNat<=qAi:=by rw[qAw,<- hl];exact hz
 have hcap:¬its.toArray.size*k.toNat>(2^63-1)/8:=by
  have:(qAi:Nat)<=(2^63-1)/8:=by decide
  lia
 have hfit:¬(!Builtin.List.listFitsIndex k)=true:=by
  rw[fitsIndex_both h1 h2];exact qAq
 have hlong:¬Builtin.List.listTooLong (its.toArray.size*k.toNat)=true:=by
  rw[uS hlen];exact qAq
 have hnew:qNs (fun x1 x2=>x1++x2) #[] (qBk (if its.toArray.isEmpty=true then 0 else k.toNat) its.toArray)=(qBk k.toNat its).flatten.toArray:=by
  have f0:∀m:Nat,qNs (fun x1 x2=>x1++x2) #[] (qBk m its.toArray)=(qBk m its).flatten.toArray:=fun m=>by
   have:=foldl_rep its m [];rw[qCl] at this;exact this
  rw[f0];cases its with
  | nil=>simp
  | cons a r'=>rw[if_neg (by simp)]
 refine wpAny_binaryOp_repeat_ref (T:="list") (U:="int") #[1] ⟨_,e,rfl⟩ (fun s'=>typeIs_int s' k t) noFill_list_mul F.fills_int_mul F.slot_int_rmul repeat_list F.slot_int_index.lookup
  (qHm F.slot_int_rmul (typeIs_int s k t) F.entry_int_rmul (F.args_int_rmul_2 _ _) (int___rmul___int_list k t l its.toArray n)
   ⟨e,rfl,⟨_,e,rfl⟩,qHm F.slot_list_mul ⟨_,e,rfl⟩ F.entry_list_mul (F.args_list_mul_2 _ _) (AutoListH.list___mul___list_int_3 l its.toArray n k t hfit hcap hlong) ⟨e,?_⟩⟩)
 rw[hnew];exact⟨.ref _,_,I.Nh (t':=s.toks) (r.rep k.toNat) (by rw[len_rep,qMk];exact hz),rfl,q _ I.fresh⟩
end
section
variable {prog:qBy}{w:qDg}{A:qDl}{E:qAl->qAp->Prop}{s:qAp}
set_option maxRecDepth 100000 in
end
end L2
namespace Att
open PySem PySem.W PySem.Calls PyProof.Rows
theorem nW:∀(ns:List Int) (vs:List qAl),WellAll P h vs (ns.map WData.int)->qHz vs ns:=by
 intro ns;induction ns with
 | nil =>
  intro vs w;rw[qEv] at w;cases w;exact .nil
 | cons n ns ih =>
  intro vs w;rw[qCz] at w;cases w with
  | cons a b =>
   cases a
   exact .cons _ _ (ih _ b)
theorem Be{l:OpenLaw}{n:Nat}(hn:l.most=some n){P:Params}{h:Heap}{args:List WData}{vals:List qAl}
  (hpre:l.row.toRowW.claim.pre args=true) (hwl:WellAll P h vals args) :
  ∃a vs ns,vals=[Value.ref a]/\args=[WData.list (ns.map WData.int)]/\h.get? a=some { cls:=.type "list",data:=.seq vs.toArray }/\qHz vs ns/\ns.length<=n:=by
 have hsh:WShape.hasAll [] args [.list .int]=true:=(pre_splitW hpre).1;have hc:l.pre.holds [] { args:=args }=true:=(pre_splitW hpre).2;obtain⟨d,r,rfl,h1,h2⟩:=hasAllW_cons hsh;obtain rfl:=hasAllW_nil h2;obtain⟨xs,rfl,h3⟩:=hasW_list h1;obtain⟨ns,rfl⟩:=items_int h3;have hlen:ns.length<=n:=by
  delta OpenLaw.pre at hc;have h4:(WTm.not (.lt (.lit (.int (n:Int))) (.len (.arg 0)))).holds [] { args:=[.list (ns.map .int)] }=true:=by
   have h4:=(holds_andW hc).1;rw[hn] at h4;exact h4
  have h5:=condW_of h4 (w_not (w_lt w_lit (w_len_list (w_arg rfl))));rw[qAa] at h5;refine Nat.le_of_not_lt fun q=>?_;have q':(n:Int)<((ns.length:Nat):Int):=by omega
  first
   | (rw[decide_eq_true q'] at h5;exact absurd h5 #[1])
   | (simp at h5;omega)
 cases hwl with
 | cons w1 w2 =>
  cases w2
  cases w1 with
  | list ho hall=>exact⟨_,_,ns,rfl,rfl,ho,nW ns _ hall,hlen⟩
theorem Bf(l:OpenLaw)(args:List WData):l.row.toRowW.claim.post args (.bool true) args=true :=
 postW_of (r:=l.row.toRowW) (X:=(true == true))
  (show WShape.has [] (.bool true) .bool=true by first | rfl | decide | simp[WShape.has,WShape.arms,WShape.armsAll])
  (show(WTm.eq .res (.lit (.bool true))).value [] { args:=args,res:=some (.bool true),after:=args }=some (.bool (true == true)) from w_eq_bool (w_res rfl) w_lit) rfl
theorem uT{l:OpenLaw}{n:Nat}{q:qBy}{loose:List Str}{XP:(Str->Option qAl)->Heap->Prop}{YP:qDg->Heap->Prop}{d:DefRec}
  (hn:l.most=some n) (hdf:d.params.defaults=[])
  (call:∀(w:qDg) (s₀ s₁:qAp) (mg mb:Str->Option qAl) (fa:Addr) (o:Obj) (pm cd doc:qAl) (a:Addr) (vs:List qAl) (ns:List Int),
   Ground q loose [] XP w s₀ mg mb s₁.heap->YP w s₁.heap ->
   s₁.heap.get? fa=some o->o.data = .func (docDef d.name d.params d.body d.scope pm cd doc)->s₁.heap.CodeRec cd d.name->mg d.name=some (.ref fa) ->
   s₁.heap.get? a=some { cls:=.type "list",data:=.seq vs.toArray }->qHz vs ns->ns.length<=n->s₁.gens=#[] ->
   qHp (qBz l.prog w) qLx (.call (.ref fa) ⟨[.ref a],[]⟩) (fun r s'=>r = .ok (.ret (.bool true))/\OldK s₁.heap s'.heap/\s'.os=s₁.os/\qJf s'.gens) s₁) :
  WalkO q loose XP YP l.row.toRowW d [] (fun f vs=>PySem.call f vs):=by
 intro w s₀ s₁ mg mb G Y fa o pm cd doc dV kV ho hd hcd hD hmg hg args vals as hpre hlay hrd hwl hlo;obtain rfl:dV = .none:=Dflts.none hD hdf;obtain rfl:kV = .none:=Dflts.noKw hD;obtain⟨a,vs,ns,rfl,rfl,hobj,hints,hlen⟩:=Be hn hpre hwl;refine enter_call (qGb (call w s₀ s₁ mg mb fa o pm cd doc a vs ns G Y ho (fd_plain hd) hcd hmg hobj hints hlen hg) fun r s' hq=>?_);obtain⟨rfl,h2,h3,h4⟩:=hq;exact⟨.inl ⟨.bool true,.bool true,[],rfl,fun _=>rfl,.bool true,Bf l _,fun _=>⟨List.Pairwise.nil,fun _ hm=>(nomatch hm)⟩⟩,h2,h3,h4⟩
end Att
namespace L2
open PySem PySem.Spec PyProof.Rows
theorem qW:∀{vs:List qAl}{ns:List Int},qHz vs ns->Vals (ns.map V.int) vs
 | _,_,.nil=>.nil
 | _,_,.cons n t h=>.cons ⟨t,rfl⟩ (qW h)
def IW(H:Hp):Prop:=∀b,H b=none\/∃o xs,H b=some (.frz o (.lst xs))
theorem Cv{P:qBy}{w:qDg}{K:qAd}{mg mb:Str->Option qAl}{CX:Ba}{k:Nat}{fa a:Addr}{fd:qCo}{x:Str}{sp:Sp}{s₁:qAp}{vs:List qAl}{ns:List Int}
  (KX:K.In s₁.heap) (hns:s₁.heap.Ns qBl mg) (hb:s₁.heap.Ns builtinsNs mb) (hbb:∀x:Str,x≠"__name__"->mb x=qCq x) (hlim:s₁.heap.NoLimit) (hg:s₁.gens=#[])
  (ha:s₁.heap.get? a=some { cls:=.type "list",data:=.seq vs.toArray }) (hi:qHz vs ns) (hl:ns.length<=qAi) (hr:eW k qLx)
  (F:∀base:Heap,K.In base->base.Ns qBl mg->jP P w K mg base CX k fa fd [x] sp) (hbind:∀(s:qAp) (u:qAl),qNp s fd ⟨[u],[]⟩ [(x,u)])
  (hsp:∀H:Hp,IW H->aS K H a (ns.map V.int)->sp [.ref a] H (fun v _=>v = .bl true) fun _ _ _=>False)
  (hCX:∀H e s',CX [] H s₁ (fun _ _ _=>False) e s'->False) :
  qHp (qBz P w) qLx (.call (.ref fa) ⟨[.ref a],[]⟩) (fun r s'=>r = .ok (.ret (.bool true))/\OldK s₁.heap s'.heap/\s'.os=s₁.os/\qJf s'.gens) s₁:=by
 have rv:=qW hi;have lenV:=hi.length;have core:∀H:Hp,IW H->aS K H a (ns.map V.int)->kK P w H s₁.heap->(∀b,H b≠none->b=a)->(H a≠none->K.lookup a=none) ->
   qHp (qBz P w) qLx (.call (.ref fa) ⟨[.ref a],[]⟩) (fun r s'=>r = .ok (.ret (.bool true))/\OldK s₁.heap s'.heap/\s'.os=s₁.os/\qJf s'.gens) s₁:=by
  intro H hO hS cO hA hK;have base_of:∀{b:Addr}{o:Obj},s₁.heap.get? b=some o->H b=none->(sC s₁.heap H).get? b=some o:=fun e n=>Ca e n;have noA:∀{b:Addr}{o:Obj}{es:Array DictEntry}{ep:Nat},s₁.heap.get? b=some o->o.data = .dict es ep->H b=none:=fun {b o es ep} e d=>by
   cases q:H b with
   | none=>rfl
   | some u =>
    have e':b=a:=hA b (by rw[q];simp);subst e';rw[ha] at e;cases e;have d':Data.seq vs.toArray _=Data.dict es ep:=d;cases d'
  have nsK:∀{b:Addr}{m:Str->Option qAl},s₁.heap.Ns b m->(sC s₁.heap H).Ns b m:=fun {b m} ⟨o,es,ep,e,d,r⟩=>⟨o,es,ep,base_of e (noA e d),d,r⟩;have hKb:K.In (sC s₁.heap H):=fun b o e=>base_of (KX b o e) (by
   cases q:H b with
   | none=>rfl
   | some u =>
    have e':b=a:=hA b (by rw[q];simp);subst e';rw[hK (by rw[q];simp)] at e;cases e)
  have hM:Mod K mg (sC s₁.heap H):=⟨hKb,nsK hns,⟨mb,nsK hb,hbb⟩,let ⟨mc,h1,h2⟩:=hlim;⟨mc,nsK h1,h2⟩⟩;have e0:xM P w K mg (sC s₁.heap H) qLx [] s₁ H:=⟨rfl,hM,fun b o e=>Ff e,qIl (AR _ _),trivial,fun b hb=>absurd (show b∈([]:List Addr) from hb) (by simp),cO,.of_eq hg⟩;refine qGb ((F _ hKb (nsK hns)).run qLx [] s₁ H ⟨[.ref a],[]⟩ [.ref a] [.ref a] _ _ hr e0 (hbind s₁ (.ref a)) (.cons rfl .nil) (hsp H hO hS)) fun r s' h=>?_;cases r with
  | error e=>exact(hCX H e s' h).elim
  | ok fl =>
   cases fl with
   | next=>exact False.elim h
   | brk=>exact False.elim h
   | cont=>exact False.elim h
   | ret u =>
    obtain⟨v,H',os,bare,un,hok',r',q⟩:=h;have q':v = .bl true:=q;subst q';obtain rfl:u=Value.bool true:=r';refine⟨rfl,OldK.of_keep fun b o e=>?_,os,bare⟩;cases q:H b with
    | none=>exact un.keep b o e q (by intro z;exact absurd (show b∈([]:List Addr) from z) (by simp)) (by simp)
    | some u =>
     rcases hO b with z | ⟨ob,xs,z⟩
     .rw[q] at z;cases z
     .have z2:=un.lA b ob _ z;obtain⟨e1,_⟩:=cO b _ z;obtain⟨e2,_⟩:=hok' b _ z2;rw[e] at e1;cases e1;exact e2
 cases hk:K.lookup a with
 | some o =>
  have e:=KX a o hk;rw[ha] at e;cases e;refine core (fun _=>none) (fun _=>.inl rfl) (.inr ⟨_,vs.toArray,_,hk,rfl,rfl,rfl,by rw[qAw,lenV];exact hl,by simpa using rv⟩) (fun b u z=>by have z':(none:Option HO)=some u:=z;cases z') (fun b z=>absurd rfl z) fun z=>absurd rfl z
 | none =>
  refine core (fun b=>if b=a then some (.frz { cls:=.type "list",data:=.seq vs.toArray } (.lst (ns.map V.int))) else none) (fun b=>?_) (.inl (.inr ⟨{ cls:=.type "list",data:=.seq vs.toArray },if_pos rfl⟩)) (fun b u z=>?_) (fun b z=>?_) fun _=>hk
  .by_cases hb:b=a
   .exact .inr ⟨_,_,if_pos hb⟩
   .exact .inl (if_neg hb)
  .by_cases hb:b=a
   .have z':=(if_pos hb).symm.trans z;cases z';subst hb;exact⟨ha,by rw[qAa];exact hl,vs,_,rv,ha⟩
   .have z':=(if_neg hb).symm.trans z;cases z'
  .by_cases hb:b=a
   .exact hb
   .exact absurd (if_neg hb) z
theorem Fz{l:qNc}{n k:Nat}{q:qBy}{loose:List Str}{XP:(Str->Option qAl)->Heap->Prop}{YP:qDg->Heap->Prop}{d:DefRec}{K:Params->qAd}{CX:qDg->Ba}{sp:qDg->Sp}{x:Str}
  (hn:l.most=some n) (hn2:n<=qAi) (hdf:d.params.defaults=[]) (hr:eW k qLx)
  (hY:∀(w:qDg) (h:Heap),YP w h->(K w.params).In h)
  (F:∀(w:qDg) (mg:Str->Option qAl) (fa:Addr) (h:Heap),(K w.params).In h->h.Ns qBl mg->mg d.name=some (.ref fa) ->
   ∃fd:qCo,(∀(s:qAp) (u:qAl),qNp s fd ⟨[u],[]⟩ [(x,u)]) /\
    ∀base:Heap,(K w.params).In base->base.Ns qBl mg->jP l.prog w (K w.params) mg base (CX w) k fa fd [x] (sp w))
  (hsp:∀(w:qDg) (H:Hp) (a:Addr) (ns:List Int),ns.length<=n->IW H->aS (K w.params) H a (ns.map V.int)->sp w [.ref a] H (fun v _=>v = .bl true) fun _ _ _=>False)
  (hCX:∀(w:qDg) (H:Hp) (s:qAp) (e:qAl) (s':qAp),CX w [] H s (fun _ _ _=>False) e s'->False) :
  qNw q loose XP YP l.row.toRowW d [] (fun f vs=>PySem.call f vs):=by
 refine Att.uT hn hdf fun w s₀ s₁ mg mb fa o pm cd doc a vs ns G Y ho hd hcd hmg hobj hints hlen hg=>?_;have KX:=hY w _ Y;obtain⟨fd,hb,hF⟩:=F w mg fa _ KX G.T.g hmg;exact Cv KX G.T.g G.T.b G.T.builtins G.T.nolimit hg hobj hints (qCy hlen hn2) hr hF hb (fun H hO hS=>hsp w H a ns hlen hO hS) fun H e s'=>hCX w H s₁ e s'
noncomputable def inClass(s:Stmt)(j:Nat):Stmt:=match s with
 | .ClassDef _ _ _ body _ _ _ _ _ _ _=>body.getD j (.Pass ⟨0,0,0,0⟩)
 | _=>.Pass ⟨0,0,0,0⟩
noncomputable def eE(s:Stmt):Arguments:=match s with
 | .FunctionDef _ a _ _ _ _ _ _ _ _=>a
 | _=>{ posonlyargs:=[],args:=[],vararg:=none,kwonlyargs:=[],kw_defaults:=[],kwarg:=none,defaults:=[] }
noncomputable def cS(s:Stmt):List Stmt:=match s with
 | .FunctionDef _ _ b _ _ _ _ _ _ _=>b
 | _=>[]
noncomputable def aI(s:Stmt):qJv:=match s with
 | .FunctionDef _ _ _ _ _ _ sc _ _ _=>sc
 | _=>{ kind:=.function,names:=[],isGenerator:=false,isCoroutine:=false }
abbrev b0:Ba:=fun _ _ _ _ _ _=>False
abbrev E0:XK:=fun _ _ _=>False
theorem Nj:Passes b0 X E0:=fun _ _ _ _ _ _ _ h=>h.elim
structure IX (K:qAd) (x qual:Str) (st:Stmt) (f:Addr) (fd:qCo):Prop where
 ex:∃(oc:qAl) (od:Option Addr) (kV doc pm:qAl) (an:Option Addr) (cdv ct:qAl) (osl:Array (Option qAl)),
  fd=qDq x qual (eE st) (cS st) (aI st) .none kV doc pm an cdv ct/\K.lookup f=some ⟨oc,od,.func fd,osl⟩/\qEa K cdv qual=true
 kp:qDb K (.ref f)=true
section
variable {P:qBy}{w:qDg}{K:qAd}{mg:Str->Option qAl}{base:Heap}
theorem IX.ok{x qual:Str}{st:Stmt}{f:Addr}{fd:qCo}{N ps:List Str}{k:Nat}{sp:Sp}(F:IX K x qual st f fd)(S:aV N ps (aI st))(len:∀vs H Q E,sp vs H Q E->vs.length=ps.length)
  (hbody:∀(cdv:qAl) (A:qDl) (outer:List Env) (s:qAp) (H:Hp) (vs:List V) (Q:VK) (E:XK),eW k (A.deeper (qJe qual (aI st) s.heap.objs.size f cdv))->sp vs H Q E ->
   ∃t,uG (oV b0 P w K mg base N qual (aI st) f cdv A outer s H E).MA (cS st) t/\t { nx:=fun _ H'=>Q .non H',rt:=Q } (start N vs) H):jP P w K mg base b0 (k+1) f fd ps sp:=by
 obtain⟨oc,od,kV,doc,pm,an,cdv,ct,osl,rfl,lk,hcd⟩:=F.ex;refine Ha lk hcd S len fun A outer s H vs Q E hr hsp=>?_;obtain⟨t,h,q⟩:=hbody cdv A outer s H vs Q E hr hsp;exact⟨t,h.MA,q⟩
theorem Cw{x qual:Str}{st:Stmt}{f:Addr}{oc:qAl}{od an:Option Addr}{osl:Array (Option qAl)}{kV doc pm cdv ct:qAl}(l:K.lookup f=some ⟨oc,od,.func (qDq x qual (eE st) (cS st) (aI st) .none kV doc pm an cdv ct),osl⟩)
  (c:qEa K cdv qual=true) (k:qDb K (.ref f)=true):IX K x qual st f (qDq x qual (eE st) (cS st) (aI st) .none kV doc pm an cdv ct):=⟨⟨oc,od,kV,doc,pm,an,cdv,ct,osl,rfl,l,c⟩,k⟩
end
theorem Cy(hr:eW k A):A.units+1<qMr:=qBp (Nat.add_le_add_left (by decide:1<=64) _) hr.units
theorem aK(h:n<=1000):n<qAi:=qBp h #[1]
section
variable {X:Cx}
theorem pv(i:Nat){x:Str}{pos:Pos}(hN:X.N[i]?=some x:=by rfl)(hv:OH X.env.scope x:=by first|exact Or.inl rfl | exact Or.inr bN | exact Or.inr (Or.inr rfl))(hd:(x == ("__debug__":Str))=false:=by decide)
  (hcd:(x == ("__classdict__":Str))=false:=by decide):PE X (.Name x pos) (IA i):=IB hN hv hd hcd
end
theorem cM{A B:Prop}(h:B):if false=true then A else B:=by
 rw[if_neg qAq];exact h
theorem iY{A B:Prop}(h:A):if true=true then A else B:=by
 rw[if_pos rfl];exact h
theorem cK{c A B:Prop} [Decidable c] (h1:c->A)(h2:¬c->B):if c then A else B:=by
 by_cases h:c
 .rw[if_pos h];exact h1 h
 .rw[if_neg h];exact h2 h
theorem iZ{c A B:Prop} [Decidable c] (hc:c)(h:B):if (!decide c)=true then A else B:=by
 rw[decide_eq_true hc];exact cM h
def aH(H H':Hp):Prop:=∀b o,H b=some o->H' b=some o
theorem aH.refl(H:Hp):aH H H:=fun _ _ h=>h
theorem aH.trans(a:aH H H1)(b:aH H1 H2):aH H H2:=fun c o h=>b c o (a c o h)
theorem aH.free(e:aH H H'){l:Addr}(h:H' l=qOy):H l=qOy:=by
 cases q:H l with
 | none=>rfl
 | some o =>
  rw[e l o q] at h;cases h
theorem aH.seq{K:qAd}{H H':Hp}{a:Addr}{xs:List V}(e:aH H H')(h:aS K H a xs):aS K H' a xs:=by
 rcases h with (h | ⟨o,h⟩) | h
 .exact .inl (.inl (e _ _ h))
 .exact .inl (.inr ⟨o,e _ _ h⟩)
 .exact .inr h
def nN(cells:List (Str×Addr)):List (Str×Addr)->Prop
 | []=>True
 | p::r=>cells.lookup p.1=some p.2/\nN cells r
theorem nN.of:∀{cl:List (Str×Addr)},nN cells cl->∀x c,cl.lookup x=some c->cells.lookup x=some c
 | [],_,x,c,h=>by cases h
 | (y,d)::r,hl,x,c,h=>by
  rw[qJy] at h;cases hx:x == y with
  | true =>
   rw[hx] at h;have e:x=y:=by simpa using hx
   subst e;cases h;exact hl.1
  | false =>
   rw[hx] at h;exact nN.of hl.2 x c h
noncomputable def sU(X:Cx)(NB:List Str)(sc:qJv)(cl:List (Str×Addr))(s₃:qAp)(H₃:Hp)(fp:List Addr):Cx :=
 { X with N:=NB,s₀:=s₃,H₀:=H₃,env:=compEnvC sc cl s₃.heap.objs.size X.env,outer:=X.stack,stack:=X.stack,ex:=fp,fn:=fun _=>false,pn:=[],xe:=fun _ _=>False }
structure MC (X:Cx) (NB:List Str) (pick:List (Option Nat)) (sc:qJv) (cl:List (Str×Addr)):Prop where
 xR:qNb sc X.env=pure cl
 kind:sc.kind = .function
 xS:∀y∈sc.names,y.2≠.cell
 names:∀y∈sc.names,y.2 = .local->sc.names.lookup y.1=some .local
 sub:nN X.env.cells cl
 has:∀x,((qJb sc X.env).names.lookup x=some .cell\/(qJb sc X.env).names.lookup x=some .free)->∃c,cl.lookup x=some c
 len:pick.length=NB.length
 got:∀(j i:Nat) (x:Str),pick[j]?=some (some i)->NB[j]?=some x->X.N[i]?=some x/\(X.env.kindOf x=some .cell\/X.env.kindOf x=some .free)/\(qJb sc X.env).names.lookup x=some .cell
noncomputable def hasB(cl:List (Str×Addr))(L:List (Str×qLp)):Bool:=L.all fun p=>!(p.2 == .cell||p.2 == .free)||(cl.lookup p.1).isSome
theorem zK(h:hasB cl L=true)(x:Str)(hx:L.lookup x=some .cell\/L.lookup x=some .free):∃c,cl.lookup x=some c:=by
 have get:∀k,L.lookup x=some k->(k == NameKind.cell||k == NameKind.free)=true->∃c,cl.lookup x=some c:=fun k hk hb=>by
  have z:=List.all_eq_true.mp h (x,k) (PySem.mem_of_lookup hk);dsimp only at z;rw[hb] at z;exact Option.isSome_iff_exists.mp z
 rcases hx with hx | hx
 .exact get _ hx rfl
 .exact get _ hx rfl
noncomputable def uU(N:List Str)(k1 k2:List (Str×qLp)):List (Option Nat)->List Str->Bool
 | some i::p,x::r=>decide (N[i]?=some x)&&(decide (k1.lookup x=some .cell)||decide (k1.lookup x=some .free))&&decide (k2.lookup x=some .cell)&&uU N k1 k2 p r
 | none::p,_::r=>uU N k1 k2 p r
 | [],[]=>true
 | _,_=>false
theorem lL:∀{p:List (Option Nat)}{r:List Str},uU N k1 k2 p r=true->p.length=r.length
 | [],[],_=>rfl
 | [],_::_,h=>by cases h
 | none::_,[],h=>by cases h
 | some _::_,[],h=>by cases h
 | none::p,_::r,h=>congrArg Nat.succ (lL (p:=p) (r:=r) h)
 | some i::p,x::r,h=>by
  have h':(decide (N[i]?=some x)&&(decide (k1.lookup x=some .cell)||decide (k1.lookup x=some .free))&&decide (k2.lookup x=some .cell)&&uU N k1 k2 p r)=true:=h
  rw[qCd] at h';exact congrArg Nat.succ (lL h'.2)
theorem oF:∀{p:List (Option Nat)}{r:List Str},uU N k1 k2 p r=true->∀(j i:Nat) (x:Str),p[j]?=some (some i)->r[j]?=some x ->
  N[i]?=some x/\(k1.lookup x=some .cell\/k1.lookup x=some .free)/\k2.lookup x=some .cell
 | [],_,_,j,i,x,h1,_=>by simp at h1
 | none::_,[],h,_,_,_,_,_=>by cases h
 | some _::_,[],h,_,_,_,_,_=>by cases h
 | none::p,_::r,h,j,i,x,h1,h2=>by
  cases j with
  | zero=>simp at h1
  | succ j=>exact oF (p:=p) (r:=r) h j i x (by simpa using h1) (by simpa using h2)
 | some i'::p,x'::r,h,j,i,x,h1,h2=>by
  have h':(decide (N[i']?=some x')&&(decide (k1.lookup x'=some .cell)||decide (k1.lookup x'=some .free))&&decide (k2.lookup x'=some .cell)&&uU N k1 k2 p r)=true:=h
  rw[qCd,qCd,qCd,Bool.or_eq_true] at h';obtain⟨⟨⟨a,b⟩,c⟩,d⟩:=h';cases j with
  | zero =>
   simp at h1 h2;subst h1 h2;exact⟨of_decide_eq_true a,b.elim (fun z=>.inl (of_decide_eq_true z)) fun z=>.inr (of_decide_eq_true z),of_decide_eq_true c⟩
  | succ j=>exact oF d j i x (by simpa using h1) (by simpa using h2)
theorem bG(xR:qNb sc X.env=pure cl)(sub:nN X.env.cells cl)(kind:sc.kind = .function)(xS:∀y∈sc.names,y.2≠.cell)
  (names:∀y∈sc.names,y.2 = .local->sc.names.lookup y.1=some .local) (has:hasB cl (qJb sc X.env).names=true) (got:uU X.N X.env.scope.names (qJb sc X.env).names pick NB=true):MC X NB pick sc cl :=
 ⟨xR,kind,xS,names,sub,zK has,lL got,fun j i x h1 h2=>oF got j i x h1 h2⟩
noncomputable def oY(pick:List (Option Nat))(σ:St):St:=pick.map fun o=>o.bind fun i=>(σ[i]?).join
section
variable {X:Cx}{NB:List Str}{pick:List (Option Nat)}{sc:qJv}{cl:List (Str×Addr)}{pins:List (Addr×Obj)}{σ:St}{H:Hp}{s:qAp}{fp:List Addr}
theorem IY(I:Inv X pins σ H s)(B:MC X NB pick sc cl)(hf:∀b∈fp,jN X pins H b)(hex:∀b∈fp,∃o,s.heap.get? b=some o):(sU X NB sc cl s H fp).Ok:=by
 have nfs:∀b∈fp,b∉oS X.stack:=fun b hb z=>by
  rcases List.mem_cons.mp (I.kT b z) with e | e
  .exact(hf b hb).2.1 e
  .exact(hf b hb).2.2.1 e
 refine⟨I.ok.mod,B.kind,I.ok.glob,I.ok.blt,qAg _,fun x y c h1 h2=>?_,fun x hx=>B.has x hx,fun x c h _=>(qAq h).elim,I.ok.hd,I.ok.frames,.inl rfl,fun b hb=>⟨?_,fun x c h e=>?_⟩,I.bs,qCy I.ok.Fh I.sz,fun b o e hb=>?_,nfs,I.stack,I.oC⟩
 .exact I.ok.inj x y c (B.sub.of x c h1) (B.sub.of y c h2)
 .obtain⟨o,ho⟩:=hex b hb;exact qBg (qAs ho)
 .exact(hf b hb).2.2.2.2.1 x c (B.sub.of x c h) e
 .rcases(hf b hb).2.2.2.1 with z | z
  .exact I.ok.AS b o e z
  .exact absurd (qBc (qAs (I.ok.bs b o e).1) z) (qDk _)
theorem Bg(I:Inv X pins σ H s)(B:MC X NB pick sc cl)(hf:∀b∈fp,jN X pins H b)(hex:∀b∈fp,∃o,s.heap.get? b=some o)
  (hn:h'.Ns s.heap.objs.size (fun _=>none)) (hs:∀b o,s.heap.get? b=some o->h'.get? b=some o) (t:Nat):Inv (sU X NB sc cl s H fp) [] (oY pick σ) H { s with heap:=h',toks:=t }:=by
 exists IY I B hf hex,rfl,I.bare,Un.kept hs,⟨_,hn,fun j x v h1 h2 h3=>?_⟩,fun x c e=>?_,I.cO.fresh (qAg _),fun x c e=>I.jF x c (B.sub.of x c e),fun p hp=>absurd (show p∈([]:List (Addr×Obj)) from hp) (by simp),I.cO.kept hs
 .have h2':(pick.map fun o=>o.bind fun i=>(σ[i]?).join)[j]?=some (some v):=h2;rw[qAn] at h2';cases hp:pick[j]? with
  | none=>rw[hp] at h2';cases h2'
  | some o =>
   rw[hp] at h2';cases o with
   | none=>cases h2'
   | some i =>
    have h2'':(σ[i]?).join=some v:=Option.some.inj h2';obtain⟨g1,g2,g3⟩:=B.got j i x hp h1;have hσ:σ[i]?=some (some v):=by
     cases hq:σ[i]? with
     | none=>rw[hq] at h2'';cases h2''
     | some z=>rw[hq] at h2'';have e:z=some v:=h2'';rw[e]
    obtain⟨m,_,hl⟩:=I.loc;obtain⟨u,r,L⟩:=hl i x v g1 hσ (.inr g2);exists u,r;rcases L with ⟨k,_⟩ | ⟨_,c,hc,⟨o,ho,hd⟩⟩
    .rcases g2 with g2 | g2 <;> rw[k] at g2 <;> cases g2
    .obtain⟨c',hc'⟩:=B.has x (.inl g3);have e:c'=c:=Option.some.inj ((B.sub.of x c' hc').symm.trans hc);subst e;exact .inr ⟨.inl g3,c',hc',o,hs _ _ ho,hd⟩
 .obtain⟨v,o,ho,hd⟩:=I.cell x c (B.sub.of x c e);exact⟨v,o,hs _ _ ho,hd⟩
 .show(oY pick σ).length=NB.length;delta oY;rw[qAa];exact B.len
theorem FA(I:Inv X pins σ H s)(hf:∀b∈fp,jN X pins H b)(J:Inv (sU X NB sc cl s H fp) [] σ' H' s'):Inv X pins σ H' s':=by
 refine I.call' (ch:=fp) J.os J.base J.cO J.bare fun b hb=>?_;obtain⟨_,f1,_,f3,f4,f5⟩:=hf b hb;exact⟨f3,f1,f4,f5⟩
end
def uV(wi:TI)(pick:List (Option Nat))(g:TG)(c:TT)(te:TE):St->Hp->(Addr->Hp->Prop)->Prop:=fun σ H Q =>
 wi σ H fun J H1=>∀D,H1 D=none->∃W:Nat->Nat->St->Hp->Prop,(∃m,W 0 m (oY pick σ) (upd H1 D (.lst [])))/\∀i m σ1 H2,W i m σ1 H2 ->
  (J.stop i H2/\Q D H2)\/(J.go i H2/\∃N:St->Hp->Prop,(∀σ' H',N σ' H'->∃m',m'<m/\W (i+1) m' σ' H') /\
   ∀x H',J.qF i H2 x H'->g x σ1 H' fun σ2 H3=>c σ2 H3 fun b H4=>if b=true then te σ2 H4 fun y H5=>∃xs,H5 D=some (.lst xs)/\xs.length<qAi/\N σ2 (upd H5 D (.lst (xs++[y]))) else N σ2 H4)
section
variable {prog:qBy}{w:qDg}{A:qDl}{R:qQe->qAp->Prop}{s:qAp}
theorem lM(W:Nat->qAp->Prop)
  (turn:∀n s,W n s->qBj (qBz prog w) A (qJc it) (fun r s₁=>match r with
   | none=>R (.ok .next) s₁
   | some v=>qBj (qBz prog w) A (qJd target it v) (fun _ s₀=>qBj (qBz prog w) A (qKq target env v) (fun _ s₂ =>
     qBj (qBz prog w) A (forIn ifs true fun c r=>if r=true then do let ok <- qQd c env (eval c env);pure (ForInStep.yield ok) else pure (ForInStep.yield r)) (fun ok s₃ =>
      if ok=true then qBj (qBz prog w) A (eval elt env) (fun x s₄ =>
       qBj (qBz prog w) A (call (.builtin "list.append") [acc,x]) (fun _ s₅=>∃m,m<n/\W m s₅) (fun _ _=>False) s₄) (fun _ _=>False) s₃
      else ∃m,m<n/\W m s₃) (fun _ _=>False) s₂) (fun _ _=>False) s₀) (fun _ _=>False) s₁) (fun _ _=>False) s)
  (n:Nat) (h:W n s) :
  qHp (qBz prog w) A (.compLoop (.ListComp elt [⟨target,iter,ifs,0⟩] scope pos) 0 it acc env) R s:=by
 refine codeAny_loop rfl W (fun n s hI=>?_) n h;show qBj _ A ((compTurn (.ListComp elt [⟨target,iter,ifs,0⟩] scope pos) 0 it acc env).onRaise (fun x=>do noteFrame x env;theTreesLotGoes x)) _ _ s;refine wpAny_noted (wpAny_noRaise ?_);rw[compTurn_list];refine qAb (qIn (qAb (cG (turn n s hI) fun r s₁ h₁=>?_)));cases r with
 | none=>exact qAe h₁
 | some v =>
  refine qAb (cG h₁ fun _ s₀ h₀=>qAb (cG h₀ fun _ s₂ h₂=>qAb (cG h₂ fun ok s₃ h₃=>?_)));cases ok with
  | false=>exact qAe ⟨rfl,h₃⟩
  | true=>exact qAb (qAb (cG h₃ fun x s₄ h₄=>qAb (cG h₄ fun _ s₅ h₅=>qAe (qAe ⟨rfl,h₅⟩))))
end
def uW(X:Cx)(ifs:List Expr)(c:TT):Prop :=
 ∀(pins:List (Addr×Obj)) (s:qAp) (σ:St) (H:Hp) (Q:Bool->Hp->Prop),Inv X pins σ H s->c σ H Q ->
  qBj (qBz X.prog X.w) X.A (forIn ifs true fun c r=>if r=true then do let ok <- qQd c X.env (eval c X.env);pure (ForInStep.yield ok) else pure (ForInStep.yield r)) (TP X pins σ Q) X.xe s
def Po:TT:=fun _ H Q=>Q true H
theorem bJ:uW X [] Po:=fun pins s σ H Q I h=>qAe ⟨H,I,h⟩
theorem eF(hc:PT X e c):uW X [e] c:=fun pins s σ H Q I h=>wpAny_tests_one (hc pins s σ H Q I h)
section
variable {X:Cx}{NB:List Str}{pick:List (Option Nat)}{sc:qJv}{cl:List (Str×Addr)}{elt target iter:Expr}{ifs:List Expr}{pos:Pos}{wi:TI}{g:TG}{c:TT}{te:TE}
theorem uX(B:MC X NB pick sc cl)(hc:X.calm=true)(hi:PI X target iter wi)
  (hg:∀s₃ H₃ fp,PG (sU X NB sc cl s₃ H₃ fp) target g) (ht:∀s₃ H₃ fp,uW (sU X NB sc cl s₃ H₃ fp) ifs c) (he:∀s₃ H₃ fp,PE (sU X NB sc cl s₃ H₃ fp) elt te)
  (hs:∀x,qFq iter X.env x=pure x) (I:Inv X pins σ H s) (h:uV wi pick g c te σ H Q)
  (fin:∀(D C:Addr) (s':qAp) (H':Hp),Inv X pins σ H' s'->Q D H'->H' C=none->C≠X.env.locals->X.s₀.heap.objs.size<=C->(∀x a,X.env.cells.lookup x=some a->a≠C)->(∀p∈X.pn++pins,p.1≠C)->(∃m,s'.heap.Ns C m) ->
   qPf (qBz X.prog X.w) X.A X.xe use QV (.ref D) C (.ok .next) s') :
  qBj (qBz X.prog X.w) X.A (qKn (.ListComp elt [⟨target,iter,ifs,0⟩] sc pos) sc X.env (firstIterPos [⟨target,iter,ifs,0⟩] pos) (qOv []) false (eval iter X.env) use) QV X.xe s:=by
 refine wpAny_comprehension_free rfl hs B.xR B.kind B.names (cG (hi pins s σ H _ I h) fun v s1 h1=>cG h1 fun itv s2 h2=>?_);obtain⟨it,fp,tn,J,H2,e,I2,T,st2,f2,h2⟩:=h2;subst e;refine qCk ?_;have I3:Inv X pins σ (upd H2 s2.heap.objs.size (.lst [])) { s2 with heap:=s2.heap.push { cls:=.type "list",dict:=none,data:=.seq ([]:List qAl).toArray } } :=
  I2.laid (t':=s2.toks) (fun b u e=>qAh _ e) (qAg _) ⟨qBn _,[],0,.nil,qAt _ rfl⟩
 have hf:H2 s2.heap.objs.size=none:=I2.cO.fresh (qAg _);have lt:∀b∈fp,b≠s2.heap.objs.size:=fun b hb=>by
  obtain⟨o,ho,_⟩:=T.obj _ _ st2 b hb;exact qBg (qAs ho)
 have f3:∀b∈fp,jN X pins (upd H2 s2.heap.objs.size (.lst [])) b:=fun b hb=>⟨by rw[aR (lt b hb)];exact(f2 b hb).1,(f2 b hb).2⟩;generalize hs3:({ s2 with heap:=s2.heap.push { cls:=.type "list",dict:=none,data:=.seq ([]:List qAl).toArray } }:qAp)=s3 at I3|-;have kp3:∀b o,s2.heap.get? b=some o->s3.heap.get? b=some o:=fun b o e=>by
  rw[<- hs3];exact qAh _ e
 have hex:∀b∈fp,∃o,s3.heap.get? b=some o:=fun b hb=>by
  obtain⟨o,ho,_⟩:=T.obj _ _ st2 b hb;exact⟨o,kp3 b o ho⟩
 have st3:tn 0 s3.heap:=T.keep _ _ _ st2 fun b _ o e=>kp3 b o e;obtain⟨W,⟨m0,w0⟩,turn⟩:=h2 _ hf;refine wpAny_newFunctionEnv B.xS (by intro y hy;simp at hy) (fun h₁ hns₁ hsb₁=>?_) B.kind;have kp4:∀b o,s3.heap.get? b=some o->h₁.get? b=some o:=fun b o e=>(hsb₁.2 b (qBg (qAs e))).trans (qAh _ e);have J4:=Bg I3 B f3 hex hns₁ kp4 (s3.toks+([]:List (Str×qAl)).length);have st4:tn 0 h₁:=T.keep _ _ _ st3 fun b _ o e=>kp4 b o e;have stat:∀{H':Hp},(∀b∈fp,H' b=none)->∀b∈fp,jN (sU X NB sc cl s3 (upd H2 s2.heap.objs.size (.lst [])) fp) [] H' b:=fun {H'} hn b hb=>by
  obtain⟨o,ho⟩:=hex b hb;refine⟨hn b hb,qBg (qAs ho),fun z=>?_,.inl hb,fun x a e=>(f2 b hb).2.2.2.2.1 x a (B.sub.of x a e),fun p hp=>absurd (show p∈([]:List (Addr×Obj)) from hp) (by simp)⟩;rcases List.mem_cons.mp (I2.kT b z) with e | e
  .exact(f2 b hb).2.1 e
  .exact(f2 b hb).2.2.1 e
 have loop:qHp (qBz X.prog X.w) X.A (.compLoop (.ListComp elt [⟨target,iter,ifs,0⟩] sc pos) 0 (.ref it) (.ref s2.heap.objs.size) (sU X NB sc cl s3 (upd H2 s2.heap.objs.size (.lst [])) fp).env)
   (qPf (qBz X.prog X.w) X.A X.xe use QV (.ref s2.heap.objs.size) s3.heap.objs.size) { s3 with heap:=h₁,toks:=s3.toks+([]:List (Str×qAl)).length }:=by
  refine lM (fun n s'=>∃i σ' H',Inv (sU X NB sc cl s3 (upd H2 s2.heap.objs.size (.lst [])) fp) [] σ' H' s'/\tn i s'.heap/\(∀b∈fp,H' b=none)/\W i n σ' H') ?_ m0 ⟨0,_,_,J4,st4,fun b hb=>(f3 b hb).1,w0⟩;rintro n s5 ⟨i,σ5,H5,I5,st5,fr5,w5⟩;rcases turn i n σ5 H5 w5 with ⟨stop,qn⟩ | ⟨go,N,hN,step⟩
  .refine cG (T.done (sU X NB sc cl s3 (upd H2 s2.heap.objs.size (.lst [])) fp) rfl rfl rfl hc i [] s5 σ5 H5 _ I5 (stat fr5) st5 stop) fun r s6 z9=>?_;obtain⟨hr,I6⟩:=z9;subst hr;refine fin s2.heap.objs.size s3.heap.objs.size s6 H5 (FA I3 f3 I6) qn I6.free (qBg I3.lt).symm I3.sz (fun x a e=>?_) (fun p hp=>?_) ?_
   .obtain⟨v,o,ho,_⟩:=I3.cell x a e;exact qBg (qAs ho)
   .exact qBg (qAs (I3.pin p hp).1)
   .obtain⟨m,hn,_⟩:=I6.loc;exact⟨m,hn⟩
  .refine cG (T.item (sU X NB sc cl s3 (upd H2 s2.heap.objs.size (.lst [])) fp) rfl rfl rfl hc i [] s5 σ5 H5 _ I5 (stat fr5) st5 go) fun r s6 z9=>?_;obtain⟨u,hr,h6⟩:=z9;subst hr;refine cG h6 fun _ s7 z9=>?_;obtain⟨x,H7,I7,r7,y7,st7,fr7⟩:=z9;have I7':=I7.pinned (stat fr7) (T.obj _ _ st7);have qNn:∀{s9:qAp}{σ9:St}{H9:Hp},Inv (sU X NB sc cl s3 (upd H2 s2.heap.objs.size (.lst [])) fp) ([]++mT fp s7.heap) σ9 H9 s9->N σ9 H9 ->
     ∃m,m<n/\∃i σ' H',Inv (sU X NB sc cl s3 (upd H2 s2.heap.objs.size (.lst [])) fp) [] σ' H' s9/\tn i s9.heap/\(∀b∈fp,H' b=none)/\W i m σ' H':=fun {s9 σ9 H9} I9 n9=>by
    obtain⟨m',hm,w9⟩:=hN σ9 H9 n9;refine⟨m',hm,i+1,σ9,H9,I9.jO,T.keep _ _ _ st7 fun b hb o e=>(I9.pin (b,o) (qBa _ (qBa _ (fW hb e)))).1,fun b hb=>?_,w9⟩;obtain⟨o,e,d⟩:=T.obj _ _ st7 b hb;exact(I9.pin (b,o) (qBa _ (qBa _ (fW hb e)))).2.1
   refine cG (hg _ _ _ _ s7 σ5 H7 x u _ I7' r7 (step x H7 y7)) fun _ s8 z9=>?_;obtain⟨σ8,H8,I8,q8⟩:=z9;refine cG (ht _ _ _ _ s8 σ8 H8 _ I8 q8) fun b s9 z9=>?_;obtain⟨H9,I9,q9⟩:=z9;cases b with
   | false =>
    rw[if_neg qAq];exact qNn I9 (by rw[if_neg qAq] at q9;exact q9)
   | true =>
    rw[if_pos rfl] at q9|-;refine cG (he _ _ _ _ s9 σ8 H9 _ I9 q9) fun y s10 z9=>?_;obtain⟨vy,H10,I10,r10,xs,hD,hl,q10⟩:=z9;refine cG (mW _ s10 σ8 H10 (.ref s2.heap.objs.size) [vy] (.ref s2.heap.objs.size) [y] (fun _ H'=>N σ8 H') I10 rfl (.cons r10 .nil) ⟨_,xs,vy,rfl,rfl,hD,hl,q10⟩) fun _ s11 z9=>?_;obtain⟨_,H11,I11,_,q11⟩:=z9;exact qNn I11 q11
 refine codeAny_compStart_list loop (T.self _ 0 _ _ _ st4 loop)
theorem bM(B:MC X NB pick sc cl)(hc:X.calm=true)(hi:PI X target iter wi)
  (hg:∀s₃ H₃ fp,PG (sU X NB sc cl s₃ H₃ fp) target g) (ht:∀s₃ H₃ fp,uW (sU X NB sc cl s₃ H₃ fp) ifs c) (he:∀s₃ H₃ fp,PE (sU X NB sc cl s₃ H₃ fp) elt te)
  (hs:∀x,qFq iter X.env x=pure x:=by intro _;rfl):PE X (.ListComp elt [⟨target,iter,ifs,0⟩] sc pos) (fun σ H Q=>uV wi pick g c te σ H fun D H'=>Q (.ref D) H'):=by
 intro pins s σ H Q I h;rw[eval_ListComp];refine uX (use:=none) (QV:=EP X pins σ Q) B hc hi hg ht he hs I h fun D C s' H' I' q c0 c1 c2 c3 c4 hn=>?_;obtain⟨m,hm⟩:=hn;exact⟨m,hm,fun hh hsb=>⟨.ref D,H',I'.turned (t':=s'.toks) (fun b o hb e=>(hsb.2 b hb).trans e) c0 c1 (.inr c2) c3 c4,rfl,q⟩⟩
theorem eJ(hN:X.N.Nodup)(hx1:X.N[i]?=some x)(hx2:Loc X.env.scope x)
  (hsw:qKk (.ListComp elt [⟨target,iter,ifs,0⟩] sc pos) (some (.Name x pos')) spos.line X.env=pure true) (B:MC X NB pick sc cl) (hc:X.calm=true) (hi:PI X target iter wi)
  (hg:∀s₃ H₃ fp,PG (sU X NB sc cl s₃ H₃ fp) target g) (ht:∀s₃ H₃ fp,uW (sU X NB sc cl s₃ H₃ fp) ifs c) (he:∀s₃ H₃ fp,PE (sU X NB sc cl s₃ H₃ fp) elt te)
  (hs:∀x,qFq iter X.env x=pure x:=by intro _;rfl) (hfn:X.fn x=true\/X.env.scope.names.lookup x=some .local:=by first|exact .inl rfl | exact .inr rfl | assumption) :
  PS X (.Assign [.Name x pos'] (.ListComp elt [⟨target,iter,ifs,0⟩] sc pos) spos) (fun D σ H=>uV wi pick g c te σ H fun l H'=>D.nx (σ.set i (some (.ref l))) H'):=by
 intro pins s σ H D I h;rw[exec_Assign_Name_used _ _ _ _ hsw];refine qAb (qIn (qAb ?_));show qBj _ _ (do let _ <- qKn (.ListComp elt [⟨target,iter,ifs,0⟩] sc pos) sc X.env _ (qOv []) false (eval iter X.env) (some (qKq (.Name x pos') X.env))) _ _ s;refine qAb (cG (uX (use:=some (qKq (.Name x pos') X.env)) (QV:=fun _ s'=>SP X pins D .next s') B hc hi hg ht he hs I h fun l C s' H' I' q c0 c1 c2 c3 c4 hn=>?_) fun _ s' hq=>qAe (qAe hq));obtain⟨m,hm⟩:=hn;show qBj _ _ (qKq (.Name x pos') X.env (.ref l)) _ _ _;refine wpAny_assign_Name (mS (v:=.ref l) I' hN hx1 hx2 rfl (fun s'' I'' z9=>?_) hfn);obtain⟨a,hsb,ha⟩:=z9;have ne:C≠a:=by
  rcases ha with e | e
  .rw[e];exact c1
  .exact(c3 x a e).symm
 refine⟨m,hm.sameBut hsb ne,fun hh hsb2=>?_⟩;exact⟨_,H',I''.turned (t':=s''.toks) (fun b o hb e=>(hsb2.2 b hb).trans e) c0 c1 (.inr c2) c3 c4,q⟩
end
structure Nk (P:qBy) (w:qDg) (outer:List Env) (H:Hp) (s:qAp) (e C:Addr) (H':Hp) (s':qAp):Prop where
 os:s'.os=s.os
 bare:qJf s'.gens
 ex:∃(a0:qAl) (B:Heap),Heap.FlyingW B outer e (.ref C) a0 s'.heap/\kK P w H' B/\(∀b o,s.heap.get? b=some o->b∉oS outer->∃o',B.get? b=some o') /\
  ∀b o,s.heap.get? b=some o->H b=none->b∉oS outer->B.get? b=some o
 slot:∀b o,s.heap.get? b=some o->H b=none->b∈oS outer->∃sl,s'.heap.get? b=some { o with slots:=sl }
 free:∀b o,s.heap.get? b=some o->H b=none->H' b=none
 mQ:∀b xs,H b=some (.tup xs)->H' b=some (.tup xs)
 lA:∀b o u,H b=some (.frz o u)->H' b=some (.frz o u)
 mR:∀b ps,H b=some (.tbl ps)->∃more,H' b=some (.tbl (ps++more))
def kH(P:qBy)(w:qDg):Ba:=fun outer H s E ev s'=>∃(e C:Addr) (H':Hp),ev = .ref e/\Nk P w outer H s e C H' s'/\E (.ref C) none H'
structure Own (X:Cx):Prop where
 st:X.stack=X.env::X.outer
 fr:X.env.frame=some X.env.locals
 ex:X.ex=[]
section
variable {X:Cx}{pins:List (Addr×Obj)}{σ:St}{H H':Hp}{s s':qAp}{e C:Addr}{Q:Unit->qAp->Prop}{E:qAl->qAp->Prop}{M:Model}
theorem Own.sub(O:Own X){b:Addr}(h:b∈X.fs):b∈oS X.stack:=by
 rw[O.st];delta oS;rw[qCh,O.fr];exact qBr _ h
theorem Own.not(O:Own X)(I:Inv X pins σ H s){b:Addr}{o:Obj}(q:X.s₀.heap.get? b=some o)(h:b∉X.fs):b∉oS X.stack:=fun z=>by
 rcases List.mem_cons.mp (I.kT b z) with r | r
 .exact absurd (qBc (qAs q) I.ok.above) (by rw[r];exact qDk _)
 .exact h r
theorem Own.Cz(O:Own X)(b:Addr):b∉X.ex:=by
 rw[O.ex];simp
theorem uY(O:Own X)(I:Inv X pins σ H s)(hx:qOs s.heap h' e (.ref C) vs)
  (k:∀h'',Nk X.prog X.w X.outer X.H₀ X.s₀ e C H { s with heap:=h'' }->Q () { s with heap:=h'' }):qBj M X.A (leaving X.env (.ref e)) Q E { s with heap:=h' }:=by
 have hst:=I.stack;have hfr:=I.ok.frames;rw[O.st] at hst hfr;have hin:∀env∈(X.env::X.outer),∀b,env.frame=some b->b∈oS X.stack:=fun env he b hb=>by
  rw[O.st];exact List.mem_filterMap.mpr ⟨env,he,hb⟩
 have get:∀{b:Addr}{o:Obj},s.heap.get? b=some o->b∉oS X.stack->(qJt s.heap (oS X.stack)).get? b=some o:=fun q hb=>qLr _ q hb;refine wpAny_leaves_madeW (base:=qJt s.heap (oS X.stack)) (h:=s.heap) (s:={ s with heap:=h' }) hfr O.fr (fun b o q=>qLy _ q) (PySem.W.funFrames_hide hst hin) hx fun h'' t x1 _ _ x4=>k h'' ⟨I.os,I.bare,⟨_,_,x1,fun a o q=>?_,fun b o q hb=>?_,fun b o q n hb=>?_⟩,fun b o q n hb=>?_,fun b o q n=>I.base.free b o q n (O.Cz b),I.base.mQ,I.base.lA,I.base.mR⟩
 .refine(I.cO a o q).uL (fun b u hb z=>get z fun hm=>?_) (fun _ z=>z) fun _ _ z=>z;have hn:=I.oC b hm;rcases hb with rfl | hb
  .rw[hn] at q;cases q
  .rw[hn] at hb;cases hb
 .obtain⟨o',z⟩:=I.base.there b o q (O.Cz b);exact⟨o',get z (O.not I q hb)⟩
 .exact get (I.base.keep b o q n hb (O.Cz b)) (O.not I q hb)
 .obtain⟨sl,z⟩:=I.base.slot b o q n hb (O.Cz b);obtain⟨_,o',ho',hnf⟩:=I.ok.lB.mem hb;rw[q] at ho';cases ho';obtain⟨sl',z'⟩:=x4 b _ (hx.keeps b _ z) hnf;exact⟨sl',z'⟩
theorem Bh(O:Own X)(I:Inv X pins σ H s)(F:Nk X.prog X.w X.stack H s e C H' s')
  (k:∀h'',Nk X.prog X.w X.outer X.H₀ X.s₀ e C H' { s' with heap:=h'' }->Q () { s' with heap:=h'' }):qBj M X.A (leaving X.env (.ref e)) Q E s':=by
 obtain⟨a0,B,fl,cO,th,kp⟩:=F.ex;have hfr:=I.ok.frames;rw[O.st] at fl hfr;refine wpAny_leaves_onW hfr O.fr fl fun h'' x1 x2=>k h'' ⟨F.os.trans I.os,F.bare,⟨a0,B,x1,cO,fun b o q hb=>?_,fun b o q n hb=>?_⟩,fun b o q n hb=>?_,fun b o q n=>?_,fun b xs q=>F.mQ b xs (I.base.mQ b xs q),fun b o u q=>F.lA b o u (I.base.lA b o u q),fun b ps q=>?_⟩
 .obtain⟨o',z⟩:=I.base.there b o q (O.Cz b);exact th b o' z (O.not I q hb)
 .exact kp b o (I.base.keep b o q n hb (O.Cz b)) (I.base.free b o q n (O.Cz b)) (O.not I q hb)
 .obtain⟨sl,z⟩:=I.base.slot b o q n hb (O.Cz b);obtain⟨sl',z'⟩:=F.slot b _ z (I.base.free b o q n (O.Cz b)) (O.sub hb);obtain⟨_,o',ho',hnf⟩:=I.ok.lB.mem hb;rw[q] at ho';cases ho';obtain⟨sl2,z2⟩:=x2 b _ z' hnf;exact⟨sl2,z2⟩
 .obtain⟨o',z⟩:=I.base.there b o q (O.Cz b);exact F.free b o' z (I.base.free b o q n (O.Cz b))
 .obtain⟨m1,e1⟩:=I.base.mR b ps q;obtain⟨m2,e2⟩:=F.mR b _ e1;exact⟨m1++m2,by rw[e2,qMx]⟩
end
abbrev XS:=qAl->St->Hp->Prop
structure Pass (X:Cx) (Ex:XS):Prop where
 on:∀(pins:List (Addr×Obj)) (σ:St) (H:Hp) (s:qAp) (e C:Addr) (H':Hp) (s':qAp),Inv X pins σ H s->Nk X.prog X.w X.stack H s e C H' s'->Ex (.ref C) σ H'->X.xe (.ref e) s'
structure Nl (X:Cx) (Ex:XS):Prop extends Pass X Ex where
 nw:∀(pins:List (Addr×Obj)) (σ:St) (H:Hp) (s:qAp) (e C:Addr) (h':Heap) (vs:List qAl),Inv X pins σ H s->qOs s.heap h' e (.ref C) vs->Ex (.ref C) σ H->X.xe (.ref e) { s with heap:=h' }
 own:PassesOwn (qBz X.prog X.w) X.A X.env X.xe
theorem dF{P:qBy}{w:qDg}{K:qAd}{mg:Str->Option qAl}{base:Heap}{N:List Str}{qual:Str}{scope:qJv}{f:Addr}{cd:qAl}{A:qDl}{outer:List Env}{s:qAp}{H:Hp}{E:XK}:
  Nl (oV (kH P w) P w K mg base N qual scope f cd A outer s H E) (fun c _ H'=>E c none H') where
 on:=fun pins σ H1 s1 e C H' s' I F q=>Bh ⟨rfl,rfl,rfl⟩ I F fun h'' F'=>⟨e,C,H',rfl,F',q⟩
 nw:=fun pins σ H1 s1 e C h' vs I hx q=>uY ⟨rfl,rfl,rfl⟩ I hx fun h'' F'=>⟨e,C,H1,rfl,F',q⟩
 own:=PassesOwn.leaving
section
variable {P:qBy}{w:qDg}{K:qAd}{mg:Str->Option qAl}{base:Heap}
theorem IX.MD{x qual:Str}{st:Stmt}{f:Addr}{fd:qCo}{N ps:List Str}{k:Nat}{sp:Sp}(F:IX K x qual st f fd)(S:aV N ps (aI st))(len:∀vs H Q E,sp vs H Q E->vs.length=ps.length)
  (hbody:∀(cdv:qAl) (A:qDl) (outer:List Env) (s:qAp) (H:Hp) (vs:List V) (Q:VK) (E:XK),eW k (A.deeper (qJe qual (aI st) s.heap.objs.size f cdv))->sp vs H Q E ->
   ∃t,uG (oV (kH P w) P w K mg base N qual (aI st) f cdv A outer s H E) (cS st) t/\t { nx:=fun _ H'=>Q .non H',rt:=Q } (start N vs) H):jP P w K mg base (kH P w) (k+1) f fd ps sp:=by
 obtain⟨oc,od,kV,doc,pm,an,cdv,ct,osl,rfl,lk,hcd⟩:=F.ex;exact Ha lk hcd S len fun A outer s H vs Q E hr hsp=>hbody cdv A outer s H vs Q E hr hsp
end
def CA(sp:Sp)(dvs:List V)(Ex:XS)(t:TA):TE:=fun σ H Q=>t σ H fun vs H1=>sp (vs++dvs) H1 Q fun c _ H'=>Ex c σ H'
section
variable {X:Cx}{Ex:XS}{k:Nat}{f C:Addr}{fd:qCo}{ps:List Str}{sp:Sp}{dvs:List V}{ds:List qAl}{x m:Str}{p pos apos:Pos}{e o:Expr}{es:List Expr}{ta:TE}{t:TA}
theorem zL(R:Pass X Ex)(F:jP X.prog X.w X.K X.mg X.base (kH X.prog X.w) k f fd ps sp)(hr:eW k X.A)(hb:Binds X.K fd ps ds)(hd:Vals dvs ds)
  (I:Inv X pins σ H s) (r:Vals vs us) (h:sp (vs++dvs) H Q fun c _ H'=>Ex c σ H'):qBj (qBz X.prog X.w) X.A (call (.ref f) us) (EP X pins σ Q) X.xe s:=by
 have r2:Vals (vs++dvs) (us++ds):=r.append hd;have hl:(us++ds).length=ps.length:=by rw[<- r2.length];exact F.len _ _ _ _ h
 refine qJl (qGb (F.run X.A X.stack s H ⟨us,[]⟩ (us++ds) (vs++dvs) Q _ hr I.IL (hb s us I.w6 hl) r2 h) fun r s' hq=>?_);cases r with
 | error ev =>
  obtain⟨e,C,H',rfl,Fl,q⟩:=hq;exact R.on pins σ H s e C H' s' I Fl q
 | ok fl =>
  cases fl with
  | ret u=>exact I.after hq
  | next=>exact False.elim hq
  | brk=>exact False.elim hq
  | cont=>exact False.elim hq
theorem CB(R:Pass X Ex)(F:jP X.prog X.w X.K X.mg X.base (kH X.prog X.w) k f fd ps sp)(hr:eW k X.A)(hg:Gl X x)(hm:X.mg x=some (.ref f))(hk:qDb X.K (.ref f)=true)(hb:Binds X.K fd ps ds)(hd:Vals dvs ds)
  (ha:PA X (e::es) t) (hdb:(x == ("__debug__":Str))=false:=by decide) (he:qBt (e::es) X.env=(false,eval e X.env)::qBt es X.env:=by rfl) (hpl:(qHf pos (qBt es X.env)).any (·.1)=false:=by rfl) :
  PE X (.Call (.Name x p) (e::es) [] pos) (CA sp dvs Ex t):=by
 intro pins s σ H Q I h;refine qGf (lC I hg hm ?_ hdb);refine qGv (h₀:=X.base) I.ok.mod.Iu hk (cG (ha pos pins s σ H _ I h) fun us s1 ⟨vs,H1,I1,r,q⟩=>⟨I1.w6,?_⟩) he hpl;exact zL R F hr hb hd I1 r q
end
abbrev FD:List qAl:=[.type "ValueError",.type "Exception",.type "BaseException",.type "object"]
structure oZ (K:qAd) (C:Addr):Prop where
 cls:(qKy K C).isSome=true
 ty:qId K (.ref C)=some (.type "type")
 ga:qBe K (.ref C) "__getattribute__"=some (some (.builtin "BaseException.__getattribute__"))
 gx:qBe K (.ref C) "__getattr__"=some none
 ca:qBe K (.ref C) "__class__"=some (some (.builtin "object.__class__"))
 cg:qFd K (.builtin "object.__class__") "__get__"=some (some (.builtin "getset_descriptor.__get__"))
 ct:qFr K (.builtin "object.__class__")=some true
 mo:qDz K C (.type "object")=some true
 mb:qDz K C (.type "BaseException")=some true
theorem f0{P:Prop}(q:false=true):P:=Bool.noConfusion q
theorem m6{P:Prop}{f}(o)(q:PySem.W.excIn.match_6 (fun _=>Bool) o f (fun _=>false)=true)(k:∀x y z,o=some ⟨.type "type",x,.cls y,z⟩->f x y z=true->P):P:=by
 revert q;generalize ho:o=x;intro q;rcases x with _|⟨c,_,t,_⟩ <;> try exact f0 q
 cases c <;> try exact f0 q
 rename_i s;by_cases hs:s="type"
 .subst hs;cases t <;> try exact f0 q
  exact k _ _ _ ho q
 .delta PySem.W.excIn.match_6 PySem.W.nsOkIn._sparseCasesOn_4 PySem.W.excIn._sparseCasesOn_6 at q;dsimp only at q;rw[dif_neg hs] at q;exact f0 q
theorem m1{P:Prop}{f}(a l)(q:PySem.W.excIn.match_1 (fun _ _=>Bool) a l f (fun _ _=>false)=true)(k:∀c b k0 k1 k2 k3 n k5,a = .ref c::b->l=[k0,k1,k2,k3,some (.builtin n),k5]->f c b k0 k1 k2 k3 n k5=true->P):P:=by
 revert q;generalize ha:a=x;generalize hl:l=y;intro q;rcases x with _|⟨a,b⟩ <;> try exact f0 q
 cases a <;> try exact f0 q
 rcases y with _|⟨_,_|⟨_,_|⟨_,_|⟨_,_|⟨_|v,l⟩⟩⟩⟩⟩ <;> try exact f0 q
 cases v <;> try exact f0 q
 rcases l with _|⟨_,_|_⟩ <;> try exact f0 q
 exact k _ _ _ _ _ _ _ _ ha hl q
theorem m2{a b c d e g:Bool}{P:Prop}(q:(a&&b&&c&&d&&e&&g)=true)(k:a=true->b=true->c=true->d=true->e=true->g=true->P):P:=by
 cases a;exact f0 q;cases b;exact f0 q;cases c;exact f0 q;cases d;exact f0 q;cases e;exact f0 q
 exact k rfl rfl rfl rfl rfl q
theorem FE{K:qAd}{h:Heap}{C:Addr}{bmB:List qAl}{newId:String}{P:Prop}(X:K.In h)(q:qEk K C bmB newId=true)(k:∀b N a q c d e f g i j u v w x y m,h.get? C=some (excClassObj a q C N c b d e f g i j u v w x y newId)->h.Ns N m->m "__init__"=none->OwnTail h bmB b->P):P:=by
 refine m6 _ q fun d c sl ho q=>m1 c.mro sl.toList q fun _ b u v x y _ z hm hl q=>m2 q fun q1 q2 q3 q4 q5 q6=>k b c.ns c.name c.qualname c.bases c.hasDict c.slotNames c.subclasses c.abstract c.collection d u v x y z _ ((X _ _ ho).trans ?_) (.of_isNs (PySem.W.isNs_of_in X q5)) (PySem.W.nsMap_none_of_in X q5 (beq_iff_eq.mp q6)) (PySem.W.tail_of_in X q4)
 rw[<-beq_iff_eq.mp q1,<-beq_iff_eq.mp q2];clear q q1 q2 q4 q5 q6 ho k X;obtain⟨_,_,_,_,_,_,_,_,_,_,_|_⟩:=c
 .cases hm;obtain⟨l⟩:=sl;cases hl;rfl
 .exact f0 q3
def IZ(C:Addr)(Ex:XS)(t:TA):TS:=fun _ σ H=>t σ H fun vs H1=>vs.length<=qAi/\Ex (.ref C) σ H1
section
variable {X:Cx}{Ex:XS}{x:Str}{C:Addr}{e₀:Expr}{rest:List Expr}{np cpos pos:Pos}{t:TA}
theorem gA(R:Nl X Ex)(hc:X.calm=true)(hg:Gl X x)(hm:X.mg x=some (.ref C))(q:qEk X.K C FD "ValueError.__new__"=true)(ha:PA X (e₀::rest) t)
  (he:qBt (e₀::rest) X.env=(false,eval e₀ X.env)::qBt rest X.env:=by rfl) (hplain:(qHf cpos (qBt rest X.env)).any (·.1)=false:=by rfl) (hd:(x == ("__debug__":Str))=false:=by decide) :
  PS X (.Raise (some (.Call (.Name x np) (e₀::rest) [] cpos)) none pos) (IZ C Ex t):=by
 intro pins s σ H D I h;refine FE I.mod.Iu q fun tl N nm qn bs hdct sn sub ab col dd k0 k1 k2 k3 k5 mN hC hN hni T=>?_;have FB:=PySem.F.excBase_ValueError;refine wpAny_Raise_call_subT (C:=C) (nm:=nm) (q:=qn) (N:=N) (bs:=bs) (bm:=tl) (hdct:=hdct) (sn:=sn) (sub:=sub) (ab:=ab) (col:=col) (dd:=dd) (k0:=k0) (k1:=k1) (k2:=k2) (k3:=k3) (k5:=k5)
  FB (mN:=mN) (T.hasType FB.hasBase) (I.ok.hd hc) (by rw[he];show(false||(qHf cpos (qBt rest X.env)).any (·.1))=false;rw[hplain];rfl) hni (lC I hg hm ⟨rfl,?_⟩ hd)
 have hs:=ha cpos pins s σ H _ I h;rw[he] at hs|-;refine qMe (cG hs fun us s2 z9=>?_);obtain⟨vs,H2,I2,r,z,q2⟩:=z9;have kb:∀b o,X.base.get? b=some o->s2.heap.get? b=some o:=I2.bk;exact⟨rfl,by show us.length<=qAi;rw[<- r.length];exact z,kb _ _ hC,hN.keeps kb,T.keeps kb,fun h' e hx=>R.nw pins σ H2 s2 e C h' us I2 hx q2⟩
end
noncomputable def Pp(e C:Addr):HO:=.ext fun h=>∃oe,h.get? e=some oe/\oe.cls = .ref C
section
variable {X:Cx}{pins:List (Addr×Obj)}{σ:St}{H H':Hp}{s s':qAp}{e C:Addr}
theorem Inv.Hc(I:Inv X pins σ H s)(hn:H e=none)(h0:X.s₀.heap.get? e=none)(hL:e≠X.env.locals)(hc:∀x c,X.env.cells.lookup x=some c->c≠e)(hp:∀p∈X.pn++pins,p.1≠e)(hfs:e∉X.fs)
  (new:cU X.prog X.w (upd H e o) s.heap e o):Inv X pins σ (upd H e o) s:=by
 have ne:∀b u,H b=some u->b≠e:=fun b u q=>bE q hn;refine⟨I.ok,I.os,I.bare,⟨I.base.keep,I.base.slot,fun b ob q n hx=>?_,I.base.there,fun b xs q=>?_,fun b ob u q=>?_,fun b ps q=>?_⟩,I.loc,I.cell,?_,fun x c q=>?_,fun p q=>?_,fun b u q=>?_,I.len⟩
 .rw[aR (fun z=>by rw[z,h0] at q;cases q)];exact I.base.free b ob q n hx
 .have z:=I.base.mQ b xs q;rw[aR (ne _ _ z)];exact z
 .have z:=I.base.lA b ob u q;rw[aR (ne _ _ z)];exact z
 .obtain⟨m,z⟩:=I.base.mR b ps q;exact⟨m,by rw[aR (ne _ _ z)];exact z⟩
 .rw[aR hL.symm];exact I.free
 .rw[aR (hc x c q)];exact I.jF x c q
 .obtain⟨z1,z2,z3⟩:=I.pin p q;exact⟨z1,by rw[aR (hp p q)];exact z2,z3⟩
 .by_cases hb:b=e
  .subst hb;rw[aD] at q;cases q;exact new
  .rw[aR hb] at q;exact(I.cO b u q).uL (fun c v _ z=>z) (fun c z=>by rw[aR (ne _ _ z)];exact z) fun c xs z=>by rw[aR (ne _ _ z)];exact z
end
section
open Builtin Builtin.ObjectAttr Builtin.Getset_descriptor
theorem CC{K:qAd}{M:Model}{h:Heap}{e C:Addr}{name:Str}{a g:qAl}(X:K.In h)(h1:qBe K (.ref C) name=some (some a))(h2:qFd K a "__get__"=some (some g))(h3:qFr K a=some true):
  qFs M h (find (.ref e) (.ref C) name) (.bind g a):=by
 have L1:=qGh (M:=M) X h1;have L2:qFs M h (getOf (some a)) (some g):=PySem.W.looks_specialIn X h2;have L3:=PySem.W.looks_takesIn (M:=M) X h3;exact L1.andThen (L2.andThen ((show qFs M h (dataDescriptor? (some a) (some g)) (some (g,a)) from L3.andThen .now).andThen (PySem.W.Looks.tag .now)))
theorem qK{prog:qBy}{w:qDg}{A:qDl}{s:qAp}{K:qAd}{x C:Addr}{R:qQe->qAp->Prop}{tp:qAl}(X:K.In s.heap)(I:∀M,qFs M s.heap (qPe (.ref x)) (.ref C))
  (hm:qDz K C (.type "object")=some true) (h:R (.ok (.ret (.ref C))) s):qHp (qBz prog w) A (.call (.builtin "getset_descriptor.__get__") ⟨[.builtin "object.__class__",.ref x,tp],[]⟩) R s:=by
 obtain⟨hh,g,dr,t,os⟩:=s;have L0:=I (qBz prog w);have L1:=qLq (M:=qBz prog w) X hm;refine codeAny_call_builtin PySem.W.KF.slot_gs.plain PySem.W.KF.entry_gs (PySem.W.KF.slot_gs.check _ _ _ _ _ _ _ _ PySem.W.KF.type_class (PySem.W.KF.args_gs _ _ _) ?_);delta Builtin.«getset_descriptor.__get__» descrGet;rw[PySem.W.dga_obj];refine qAb (qAe ?_);delta descrGetter descrCheckInstance descrNameAndClass isInstance;simp only[PySem.W.KF.owner_class];repeat lk
 refine⟨Code.quiet_builtin _ #[2],qFm PySem.W.KF.entry_class ?_⟩;delta Builtin.«object.__class__» shownTypeOf;repeat lk
 exact h
end
theorem sV{M:Model}{A:qDl}{E:qAl->qAp->Prop}{s:qAp}{K:qAd}{x C:Addr}{nameV:qAl}{Q:Unit->qAp->Prop}(X:K.In s.heap)(I:qFs M s.heap (qPe (.ref x)) (.ref C))
  (hm:qDz K C (.type "BaseException")=some true) (hq:Q () s):qBj M A (checkBuiltinCall "BaseException.__getattribute__" ⟨[.ref x,nameV],[]⟩) Q E s:=by
 have hk:builtinKind "BaseException.__getattribute__"=some .slot:=by decide +kernel
 have hsplit:splitId "BaseException.__getattribute__"=some ("BaseException","__getattribute__"):=by decide +kernel
 have L1:=qLq (M:=M) X hm;have L2:qFs M s.heap (isInstance (.ref x) (.type "BaseException")) true:=I.andThen L1;have ha:=F.args_bexc_ga (.ref x) nameV;obtain⟨hh,g,dr,t,os⟩:=s;simp only[checkBuiltinCall,hk,hsplit];refine qAb (L2.at ?_);repeat (first | assumption | wp_step)
section
open Builtin Builtin.ObjectAttr Builtin.Getset_descriptor
theorem Ja{prog:qBy}{w:qDg}{A:qDl}{E:qAl->qAp->Prop}{s:qAp}{K:qAd}{x C:Addr}{Q:Option qAl->qAp->Prop}(X:K.In s.heap)(c:oZ K C)(I:∀M,qFs M s.heap (qPe (.ref x)) (.ref C))
  (h:Q (some (.ref C)) { s with toks:=s.toks+1 }):qBj (qBz prog w) A (getAttr? (.ref x) "__class__") Q E s:=by
 obtain⟨hh,g,d,t,os⟩:=s;have L0:=I (qBz prog w);have L1:=qGh (M:=qBz prog w) X c.ga;have L2:=qGh (M:=qBz prog w) X c.gx;have L3:=CC (M:=qBz prog w) (e:=x) X c.ca c.cg c.ct;have hx2:(Value.builtin "BaseException.__getattribute__" == Value.builtin "object.__getattribute__")=false:=by decide +kernel
 have f3:=F.excAttr_ValueError.ga.bind (.ref x);delta getAttr? getAttrBy? getAttrBy;refine qAb (wpAny_mkText (qAb (qHj (qDm (qAb (L0.at (qAb (L1.at ?_))))))));dsimp only;rw[if_neg (by rw[hx2,qIv];exact qAq)];delta getAttrByItsOwn hookBefore;rw[if_pos (show onTheHeap (Value.ref C)=true from rfl)];refine qAb (L2.at ?_);refine qAb (qHj (qDm ?_));delta callGetattribute;rw[if_neg (by decide)];delta boundAndCalled;refine qAb (qGr f3 ?_);refine qJl (codeAny_call_builtin F.excAttr_ValueError.ga.plain F.entry_bexc_ga (sV X L0 c.mb ?_));show qBj _ _ (Builtin.«object.__getattribute__» ⟨[.ref x,.str "__class__" t],[]⟩) _ _ _;delta Builtin.«object.__getattribute__»;refine qAb (qGr (a:=(Value.ref x,[Value.str "__class__" t])) rfl ?_);refine qAb (qGr (a:=("__class__":Str)) rfl ?_);refine qAb (L0.at (qAb (L3.at ?_)));show qBj _ _ (qLw [Value.builtin "object.__class__"] (call (.builtin "getset_descriptor.__get__") [.builtin "object.__class__",.ref x,.ref C]) >>= ret) _ _ _;refine qAb (qDm (qJl (qK (s:=⟨hh,g,d,t+1,os⟩) X I c.mo ?_)));show qBj _ _ (ret (Value.ref C)) _ _ _;refine qAe ?_;show qBj _ _ (handedOut (Value.ref C)) _ _ _;exact PySem.W.handed_on rfl (qAe h)
end
inductive Nm (K:qAd) (H:Hp):V->qAl->Prop where
 | of {v:V}{t:qAl} (h:kG K H v t):Nm K H v t
 | exc {e C:Addr} (h:H e=some (Pp e C)) (c:oZ K C):Nm K H (.ref e) (.ref C)
theorem CD{K:qAd}{e C:Addr}(c:oZ K C):qOh K (.ref e) (.ref C) (fun h=>∃oe,h.get? e=some oe/\oe.cls = .ref C) where
 ty:=(by rintro M h _ ⟨oe,h1,h2⟩;exact h2▸(PySem.W.Looks.ld h1).andThen .now)
 it:=fun _ _ X _=>by
  have z:=c.cls;unfold qKy at z;split at z
  .rename_i c' d' cd' sl' ho;intro A' Q' E' s' k q;unfold isType loadHead;exact qAb (wpAny_loadPart (k _ _ (X _ _ ho)) (qAe q))
  .cases z
 ne:=fun h tp dd its n sl X htp=>by
  refine Bool.eq_false_iff.mpr fun q=>?_;have e:C=tp:=Value.ref.inj (beq_iff_eq.mp q);subst e;have z:=c.cls;unfold qKy at z;split at z
  .rename_i c' d' cd' sl' ho;have z:=(X _ _ ho).symm.trans htp;cases z
  .cases z
 ca:=fun X ⟨oe,h1,h2⟩ k=>Ja X c (fun M=>h2▸(PySem.W.Looks.ld h1).andThen .now) k
section
variable {X:Cx}{pins:List (Addr×Obj)}{σ:St}{H:Hp}{s:qAp}
theorem Nm.QC{x:V}{u t:qAl}(I:Inv X pins σ H s)(rx:RelV x u)(ty:Nm X.K H x t):∃φ:Heap->Prop,qOh X.K u t φ/\φ s.heap/\u≠.builtin "__main__.__loader__#opaque":=by
 cases ty with
 | exc h c =>
  rename_i e C;cases (show u=Value.ref e from rx);obtain⟨z,_⟩:=I.cO e _ h;exact⟨_,CD c,z,fun z=>nomatch z⟩
 | of ty =>
  cases ty with
  | non=>cases (show u=Value.none from rx);exact⟨_,PySem.W.kitx_none,True.intro,fun z=>nomatch z⟩
  | bl y=>cases (show u=Value.bool y from rx);exact⟨_,PySem.W.kitx_bool,True.intro,fun z=>nomatch z⟩
  | int i=>obtain⟨t,q⟩:=(show ∃t,u=Value.int i t from rx);cases q;exact⟨_,PySem.W.kitx_int,True.intro,fun z=>nomatch z⟩
  | str y=>obtain⟨t,q⟩:=(show ∃t,u=Value.str y t from rx);cases q;exact⟨_,PySem.W.kitx_str,True.intro,fun z=>nomatch z⟩
  | flt y=>obtain⟨t,q⟩:=(show ∃t,u=Value.float y t from rx);cases q;exact⟨_,PySem.W.kitx_float,True.intro,fun z=>nomatch z⟩
  | @lst a xs ea =>
   cases (show u=Value.ref a from rx)
   obtain⟨_,_,n,_,h1⟩:=(show cU X.prog X.w H s.heap a (.lst xs) from I.cO a _ ea);exact⟨_,qMf,⟨_,h1,rfl⟩,fun z=>nomatch z⟩
  | @frz a ob xs ea =>
   cases (show u=Value.ref a from rx)
   obtain⟨_,_,_,n,_,h1⟩:=(show cU X.prog X.w H s.heap a (.frz ob (.lst xs)) from I.cO a _ ea);exact⟨_,qMf,⟨_,h1,rfl⟩,fun z=>nomatch z⟩
  | @tup a xs ea =>
   cases (show u=Value.ref a from rx)
   obtain⟨_,_,_,p⟩:=(show cU X.prog X.w H s.heap a (.tup xs) from I.cO a _ ea);obtain⟨o,h1,h2,_⟩:=p;exact⟨_,PySem.W.kitx_tuple,⟨o,h1,h2⟩,fun z=>nomatch z⟩
  | @dK a kvs ea =>
   cases (show u=Value.ref a from rx)
   obtain⟨_,_,vs,_,p⟩:=(show cU X.prog X.w H s.heap a (.dK kvs) from I.cO a _ ea);obtain⟨o,es,ep,h1,h2,_⟩:=p;exact⟨_,qMg,⟨o,h1,h2.1⟩,fun z=>nomatch z⟩
  | @dT a kvs ea =>
   cases (show u=Value.ref a from rx)
   obtain⟨_,_,xs,_,o,es,ep,h1,h2,_⟩:=(show cU X.prog X.w H s.heap a (.dT kvs) from I.cO a _ ea);exact⟨_,qMg,⟨o,h1,h2.1⟩,fun z=>nomatch z⟩
  | @ins a C dx fs ea cl ha hn htk hm =>
   cases (show u=Value.ref a from rx)
   obtain⟨mA,O,_⟩:=oE I.cO ea;obtain⟨od,J,_⟩:=O.look;exact⟨_,PySem.W.kitx_own (cl.get _) cl.hd ha hn htk hm,J,fun z=>nomatch z⟩
noncomputable def Nn:V->Option qAl
 | .ty n=>some (.type n)
 | .ref a=>some (.ref a)
 | _=>none
theorem CF(h:Nn c=some cv)(r:RelV c u):u=cv:=by
 cases c <;> first | (cases h;exact r) | cases h
theorem cN:g6 X (.builtin "isinstance") (fun xs H Q=>∃v c t cv b,xs=[v,c]/\Nn c=some cv/\Nm X.K H v t/\qGz X.K t cv=some b/\Q (.bl b) H):=by
 intro pins s σ H xs us Q I r h;obtain⟨v,c,t,cv,b,rfl,hc,ty,hk,q⟩:=h;obtain⟨u,cu,rfl,ru,rc⟩:=vals2 r;obtain rfl:=CF hc rc;obtain⟨φ,Z,p,ne⟩:=ty.QC I ru;exact PySem.W.kia_one Z I.w6 p hk ne fun tk=>⟨.bl b,H,I.tok tk,rfl,q⟩
end
section
variable {X:Cx}
theorem bU(K:qAd)(h:X.K=K:=by rfl):MB X (Nd K):=h▸a8
theorem fC(K:qAd)(h:X.K=K:=by rfl):MB X (Nf K):=h▸bB
theorem qX(K:qAd)(h:X.K=K:=by rfl):g6 X (.builtin "len") (fun xs H Q=>∃p ys,xs=[.ref p]/\(aS K H p ys\/cE K H p ys)/\Q (.int ys.length) H):=h▸aN
end
section
variable {X:Cx}
def zM(K:qAd):R2:=fun x y H Q=>∃l b xs zs,x = .ref l/\y = .ref b/\aS K H l xs/\aS K H b zs/\xs.length+zs.length<=qAi/\∀p,H p=none->Q (.ref p) (upd H p (.lst (xs++zs)))
theorem eM:iW X (qFc .Add) (zM X.K):=by
 intro pins s σ H x y v u Q I rx ry h;obtain⟨l,b,xs,zs,rfl,rfl,hH,hB,hz,q⟩:=h;cases rx;cases ry;obtain⟨its,r,pl,hl⟩:=I.list hH;obtain⟨its2,r2,pl2,hl2⟩:=I.list hB;obtain⟨⟨cls,dd,data,sl⟩,n,ho,hc,_,hd⟩:=pl;obtain⟨⟨cls2,dd2,data2,sl2⟩,n2,ho2,hc2,_,hd2⟩:=pl2;dsimp only at hc hd hc2 hd2;subst hc hd hc2 hd2;have ea:its.toArray++its2.toArray=(its++its2).toArray:=by simp
 refine concat_meets ⟨_,ho,rfl⟩ ⟨_,ho2,rfl⟩ noFill_list_add seq_list_add PySem.F.slot_list_add PySem.F.entry_list_add (PySem.F.args_list_add_2 _ _) (list_addW l b its.toArray its2.toArray n n2 dd dd2 sl sl2 (by rw[qAw,qAw,<- r.length,<- r2.length];exact hz)) ⟨ho,ho2,?_⟩;rw[ea];exact⟨.ref _,_,I.Nh (t':=s.toks) (r.append r2) (by rw[qAj];exact hz),rfl,q _ I.fresh⟩
def FF(K:qAd)(f:Bool->Bool):R2:=fun x y H Q=>∃(l b:Addr) (ns ms:List Int),x = .ref l/\y = .ref b/\aS K H l (ns.map V.int)/\aS K H b (ms.map V.int)/\Q (.bl (f (decide (ns=ms)))) H
theorem CG(hu:X.A.units+64<qMr):iW X (qEf .Eq) (FF X.K id):=by
 intro pins s σ H x y v u Q I rx ry h;obtain⟨l,b,ns,ms,rfl,rfl,hH,hB,q⟩:=h;cases rx;cases ry;obtain⟨its,r,pl,hl⟩:=I.list hH;obtain⟨its2,r2,pl2,hl2⟩:=I.list hB;exact PySem.W.eq_intsK pl.isList (intsAre_of r) pl2.isList (intsAre_of r2) hu ⟨.bl (decide (ns=ms)),H,I,rfl,q⟩
theorem CH(hu:X.A.units+64<qMr):iW X (qEf .NotEq) (FF X.K (!·)):=by
 intro pins s σ H x y v u Q I rx ry h;obtain⟨l,b,ns,ms,rfl,rfl,hH,hB,q⟩:=h;cases rx;cases ry;obtain⟨its,r,pl,hl⟩:=I.list hH;obtain⟨its2,r2,pl2,hl2⟩:=I.list hB;exact PySem.W.ne_intsK pl.isList (intsAre_of r) pl2.isList (intsAre_of r2) hu ⟨.bl (!decide (ns=ms)),H,I,rfl,q⟩
def uZ(i j:Int):Prop:=Fo i j\/(i.natAbs<2^2000000/\j.natAbs<2^2000000)
theorem uZ.ok(h:uZ i j):IntMulOk i j:=by
 rcases h with h | ⟨h1,h2⟩
 .exact h.ok
 .exact IntMulOk.of_le (m:=2000000) (n:=2000000) (intBits_le_iff.mpr h1) (intBits_le_iff.mpr h2) #[1]
theorem bK:iW X (qFc .Mult) (rI uZ fun i j=>.int (i*j)):=GX fun i j t u s Q E hc h=>mul_int h hc.ok
def vA(_ j:Int):Prop:=j≠0/\j.natAbs<2^8000
theorem vA.ok(h:vA i j):Builtin.divisionGoesByPylong i j=false:=by
 obtain⟨h0,h1⟩:=h;have hl:j.natAbs.log2<8000:=(Nat.log2_lt (by lia)).mpr h1;have hd:¬((if (j == 0)=true then 0 else j.natAbs.log2/30+1)>300):=by
  split
  .lia
  .lia
 show(decide ((if (j == 0)=true then 0 else j.natAbs.log2/30+1)>300)&&_)=false;rw[decide_eq_false hd,qGe]
theorem gB:iW X (qFc .FloorDiv) (rI vA fun i j=>.int (i.fdiv j)):=GX fun i j t u s Q E hc h=>floordiv_int hc.1 h (.inl hc.ok)
theorem Inv.big(I:Inv X pins σ H s):qFp<s.heap.objs.size:=by
 have h:qBl<s.heap.objs.size:=(I.mod.glob.keeps I.bk).lt;exact qPr #[1] h
theorem vB(h:Heap)(hb:qFp<h.objs.size):cU P w H (h.push { cls:=.type "dict",data:=.dict #[] }) h.objs.size (.dK []) :=
 ⟨qBn _,beq_eq_false_iff_ne.mpr (Ne.symm (qBg hb)),[],.nil,Heap.DictOf.new h⟩
def Jb:TE:=fun _ H Q=>∀p,H p=none->Q (.ref p) (upd H p (.dK []))
theorem CI:PE X (.Dict [] [] pos) Jb:=fun pins s σ H Q I h =>
 wpAny_Dict_empty ⟨.ref s.heap.objs.size,_,I.laid (a:=s.heap.objs.size) (o:=.dK []) (t':=s.toks) (fun _ _ q=>qAh _ q) (qAg _) (vB s.heap I.big),rfl,h _ (I.cO.fresh (qAg _))⟩
end
structure Tx (K:qAd) (mg:Str->Option qAl) (x:Str) (st:Stmt) (ps:List Str) (f:Addr) (fd:qCo):Prop where
 fn:IX K x x st f fd
 at_:mg x=some (.ref f)
 bd:∀us:List qAl,us.length=ps.length->qNm fd ⟨us,[]⟩=pure (ps.zip us)
theorem bS{K:qAd}{mg:Str->Option qAl}{h:Heap}{x:Str}{st:Stmt}{ps:List Str}{f:Addr}{oc:qAl}{od an:Option Addr}{osl:Array (Option qAl)}{kV doc pm cdv ct:qAl}(X:K.In h)(G:h.Ns qBl mg)
  (a:qBw K qBl x=some (some (.ref f))) (l:K.lookup f=some ⟨oc,od,.func (qDq x x (eE st) (cS st) (aI st) .none kV doc pm an cdv ct),osl⟩)
  (c:qEa K cdv x=true) (k:qDb K (.ref f)=true)
  (hb:∀(kV doc pm:qAl) (an:Option Addr) (cdv ct:qAl) (us:List qAl),us.length=ps.length->qNm (qDq x x (eE st) (cS st) (aI st) .none kV doc pm an cdv ct) ⟨us,[]⟩=pure (ps.zip us)) :
  ∃f fd,Tx K mg x st ps f fd:=⟨f,_,Cw l c k,qEj X G a,hb kV doc pm an cdv ct⟩
structure Df (P:qBy) (w:qDg) (K:qAd) (mg:Str->Option qAl) (base:Heap) (CX:Ba) (k:Nat) (x:Str) (ps:List Str) (sp:Sp) (f:Addr) (fd:qCo):Prop where
 at_:mg x=some (.ref f)
 kp:qDb K (.ref f)=true
 ok:jP P w K mg base CX k f fd ps sp
 bd:Binds K fd ps []
section
variable {P:qBy}{w:qDg}{K:qAd}{mg:Str->Option qAl}{base:Heap}{x:Str}{st:Stmt}{ps N:List Str}{f:Addr}{fd:qCo}{k:Nat}{sp:Sp}
theorem Tx.gO(t:Tx K mg x st ps f fd)(S:aV N ps (aI st))(len:∀vs H Q E,sp vs H Q E->vs.length=ps.length)
  (hbody:∀(cdv:qAl) (A:qDl) (outer:List Env) (s:qAp) (H:Hp) (vs:List V) (Q:VK) (E:XK),eW k (A.deeper (qJe x (aI st) s.heap.objs.size f cdv))->sp vs H Q E ->
   ∃t,uG (oV b0 P w K mg base N x (aI st) f cdv A outer s H E).MA (cS st) t/\t { nx:=fun _ H'=>Q .non H',rt:=Q } (start N vs) H):Df P w K mg base b0 (k+1) x ps sp f fd :=
 ⟨t.at_,t.fn.kp,t.fn.ok S len hbody,.all t.bd⟩
theorem Tx.Jc(t:Tx K mg x st ps f fd)(S:aV N ps (aI st))(len:∀vs H Q E,sp vs H Q E->vs.length=ps.length)
  (hbody:∀(cdv:qAl) (A:qDl) (outer:List Env) (s:qAp) (H:Hp) (vs:List V) (Q:VK) (E:XK),eW k (A.deeper (qJe x (aI st) s.heap.objs.size f cdv))->sp vs H Q E ->
   ∃t,uG (oV (kH P w) P w K mg base N x (aI st) f cdv A outer s H E) (cS st) t/\t { nx:=fun _ H'=>Q .non H',rt:=Q } (start N vs) H):Df P w K mg base (kH P w) (k+1) x ps sp f fd :=
 ⟨t.at_,t.fn.kp,t.fn.MD S len hbody,.all t.bd⟩
end
section
variable {X:Cx}{Ex:XS}{k j:Nat}{f:Addr}{fd:qCo}{ps:List Str}{sp:Sp}{x:Str}{p pos:Pos}{e:Expr}{es:List Expr}{t:TA}
theorem aY(D:Df X.prog X.w X.K X.mg X.base b0 k x ps sp f fd)(hr:eW j X.A)(hj:k<=j)(hg:Gl X x)(ha:PA X (e::es) t)(hdb:(x == ("__debug__":Str))=false:=by decide)(he:qBt (e::es) X.env=(false,eval e X.env)::qBt es X.env:=by rfl)(hpl:(qHf pos (qBt es X.env)).any (·.1)=false:=by rfl):
  PE X (.Call (.Name x p) (e::es) [] pos) (GZ sp [] E0 t):=Fs D.ok (hr.mono hj) hg D.at_ D.kp D.bd .nil Nj ha hdb he hpl
theorem fS(R:Pass X Ex)(D:Df X.prog X.w X.K X.mg X.base (kH X.prog X.w) k x ps sp f fd)(hr:eW j X.A)(hj:k<=j)(hg:Gl X x)(ha:PA X (e::es) t)(hdb:(x == ("__debug__":Str))=false:=by decide)(he:qBt (e::es) X.env=(false,eval e X.env)::qBt es X.env:=by rfl)(hpl:(qHf pos (qBt es X.env)).any (·.1)=false:=by rfl):
  PE X (.Call (.Name x p) (e::es) [] pos) (CA sp [] Ex t):=CB R D.ok (hr.mono hj) hg D.at_ D.kp D.bd .nil ha hdb he hpl
end
theorem cI:Pass X (fun _ _ _=>False):=⟨fun _ _ _ _ _ _ _ _ _ _ q=>q.elim⟩
theorem CJ{n:Nat}{σ0:St}{H1:Hp}{i0:Nat}{c:TT}{te:TE}{Q:Addr->Hp->Prop}(f:Nat->Option V)(hn:n<=qAi)
  (step:∀(i:Nat) (H2:Hp) (k:VK) (k0:Hp->Prop),i<n->(∀y,f i=some y->k y H2)->(f i=none->k0 H2) ->
   c (σ0.set i0 (some (.int (0+(i:Int))))) H2 fun b H4=>if b=true then te (σ0.set i0 (some (.int (0+(i:Int))))) H4 k else k0 H4)
  (h:∀D,H1 D=none->Q D (upd H1 D (.lst ((qAk n).filterMap f)))) :
  ∀D,H1 D=none->∃W:Nat->Nat->St->Hp->Prop,(∃m,W 0 m σ0 (upd H1 D (.lst [])))/\∀i m σ1 H2,W i m σ1 H2 ->
   ((qG 0 n).stop i H2/\Q D H2)\/((qG 0 n).go i H2/\∃N:St->Hp->Prop,(∀σ' H',N σ' H'->∃m',m'<m/\W (i+1) m' σ' H') /\
    ∀x H',(qG 0 n).qF i H2 x H'->aX i0 x σ1 H' fun σ2 H3=>c σ2 H3 fun b H4=>if b=true then te σ2 H4 fun y H5=>∃xs,H5 D=some (.lst xs)/\xs.length<qAi/\N σ2 (upd H5 D (.lst (xs++[y]))) else N σ2 H4):=by
 intro D hD;exists fun i m σ1 H2=>σ1.set i0 none=σ0.set i0 none/\H2=upd H1 D (.lst ((qAk i).filterMap f))/\i<=n/\m=n-i,⟨n,rfl,rfl,qBn _,rfl⟩;rintro i m σ1 H2 ⟨hσ,rfl,hi,rfl⟩;have hset:∀v:Option V,σ1.set i0 v=σ0.set i0 v:=fun v=>by
  have z:=congrArg (fun l=>qHv l i0 v) hσ;simpa using z
 rcases qAm i n with hlt | hge
 .right
  refine⟨hlt,fun σ' H'=>σ'.set i0 none=σ0.set i0 none/\H'=upd H1 D (.lst ((qAk (i+1)).filterMap f)),(by rintro σ' H' ⟨a,b⟩;exact ⟨n-(i+1),by lia,a,b,hlt,rfl⟩),?_⟩;rintro x H' ⟨rfl,rfl⟩;show c (σ1.set i0 (some (.int (0+(i:Int))))) _ _;rw[hset];refine step i _ _ _ hlt (fun y hy=>⟨_,aD,?_,?_,?_⟩) fun hno=>⟨?_,?_⟩
  .refine qBp (qEz _ _) ?_;rw[qAu];lia
  .simp
  .rw[Fe,qBm,qBx];simp[hy]
  .simp
  .rw[qBm,qBx];simp[hno]
 .left
  obtain rfl:i=n:=qDc hi hge;exact⟨qAg _,h D hD⟩
theorem Jd(h0:0<=i)(h1:i<xs.length):∃v,eV xs i=some v/\v∈xs:=by
 have hn:i.toNat<xs.length:=by lia
 refine⟨xs[i.toNat],?_,qDa hn⟩;have z:=fA (xs:=xs) (j:=i.toNat) (qAc hn);rw[qCx h0] at z;exact z
theorem aH.aG(h:H p=none):aH H (upd H p o):=fun b u e=>by
 rw[aR (bE e h)];exact e
theorem aH.ty{K:qAd}{H H':Hp}{v:V}{t:qAl}(s:aH H H')(h:kG K H v t):kG K H' v t:=by
 cases h with
 | non=>exact .non
 | bl x=>exact .bl x
 | int i=>exact .int i
 | str x=>exact .str x
 | flt x=>exact .flt x
 | lst e=>exact .lst (s _ _ e)
 | frz e=>exact .frz (s _ _ e)
 | tup e=>exact .tup (s _ _ e)
 | dK e=>exact .dK (s _ _ e)
 | dT e=>exact .dT (s _ _ e)
 | ins e cl ha hn htk hm=>exact .ins (s _ _ e) cl ha hn htk hm
theorem dY:qCq "isinstance"=some (.builtin "isinstance"):=by decide +kernel
theorem mX:qCq "int"=some (.type "int"):=by decide +kernel
theorem zN:qCq "bool"=some (.type "bool"):=by decide +kernel
theorem cW:qCq "list"=some (.type "list"):=by decide +kernel
theorem jQ:qCq "tuple"=some (.type "tuple"):=by decide +kernel
theorem bH:qCq "len"=some (.builtin "len"):=by decide +kernel
theorem xT:qCq "abs"=some (.builtin "abs"):=by decide +kernel
theorem Je{K:qAd}{C:Addr}(h2:qId K (.ref C)=some (.type "type"))(h3:qBe K (.ref C) "__getattribute__"=some (some (.builtin "BaseException.__getattribute__")))(h4:qBe K (.ref C) "__getattr__"=some none)
  (h5:qBe K (.ref C) "__class__"=some (some (.builtin "object.__class__"))) (h6:qFd K (.builtin "object.__class__") "__get__"=some (some (.builtin "getset_descriptor.__get__"))) (h7:qFr K (.builtin "object.__class__")=some true)
  (h8:qDz K C (.type "object")=some true) (h9:qDz K C (.type "BaseException")=some true):oZ K C:=by
 refine⟨?_,h2,h3,h4,h5,h6,h7,h8,h9⟩;delta qDz at h8;obtain⟨cd,a,_⟩:=Option.bind_eq_some_iff.mp h8;rw[a];rfl
inductive Kd:String->Prop where
 | non:Kd "NoneType"
 | bl:Kd "bool"
 | int:Kd "int"
 | str:Kd "str"
 | tup:Kd "tuple"
 | lst:Kd "list"
 | dic:Kd "dict"
theorem Kd.Np(K:qAd){T:String}(h:Kd T):qGz K (.type T) (.type "int")=some (T == "int" || T == "bool"):=by
 cases h <;> rfl
theorem Kd.Hd(K:qAd){T:String}(h:Kd T):qGz K (.type T) (.type "bool")=some (T == "bool"):=by
 cases h <;> rfl
theorem Kd.nO(K:qAd){T:String}(h:Kd T):qGz K (.type T) (.type "list")=some (T == "list"):=by
 cases h <;> rfl
theorem Kd.pA(K:qAd){T:String}(h:Kd T):qGz K (.type T) (.type "tuple")=some (T == "tuple"):=by
 cases h <;> rfl
noncomputable def kX:V->Bool
 | .int _=>true
 | _=>false
structure Pl (K:qAd) (H:Hp) (v:V):Prop where
 ex:∃T,kG K H v (.type T)/\Kd T
theorem Pl.int{K:qAd}{H:Hp}(i:Int):Pl K H (.int i):=⟨_,.int i,.int⟩
theorem Pl.kX{K:qAd}{H:Hp}{v:V}{T:String}(h:kG K H v (.type T)):kX v=(T == "int"):=by
 cases h <;> rfl
theorem Pl.same{K:qAd}{H H':Hp}{v:V}(h:Pl K H v)(s:aH H H'):Pl K H' v:=let ⟨T,a,b⟩:=h.ex;⟨T,s.ty a,b⟩
noncomputable def FG(lo hi:Int):V->Bool
 | .int i=>decide (lo<=i)&&decide (i<=hi)
 | _=>false
section
variable {X:Cx}{pins:List (Addr×Obj)}{σ:St}{H H':Hp}{s:qAp}{h':Heap}
theorem Inv.oG{t':Nat}{fp:List Addr}(I:Inv X pins σ H s)(k:∀b o,b∉fp->s.heap.get? b=some o->h'.get? b=some o)(hf:∀b∈fp,jN X pins H b):Inv X pins σ H { s with heap:=h',toks:=t' }:=by
 have nit:∀b u,H b=some u->b∉fp:=fun b u e z=>by rw[(hf b z).1] at e;cases e
 refine I.step (g':=s.gens) (d':=s.drawn) (ch:=fp) (fun b hb=>?_) (fun b o _ _ hc e _=>k b o hc e) (fun b o _ _ hc e _=>⟨o.slots,k b o hc e⟩) (fun _ _ _ _ n=>n)
  (fun b o hc e=>⟨o,k b o hc e⟩) (fun _ _ e=>e) (fun _ _ _ e=>e) (fun b ps e=>⟨#[],by rw[e];simp⟩) (fun m hm=>?_) (fun b u e=>?_) I.bare
 .obtain⟨_,f1,_,f3,f4,f5⟩:=hf b hb;exact⟨f3,f1,f4,f5⟩
 .obtain⟨o,es,ep,ho,r⟩:=hm;exact⟨o,es,ep,k _ o (fun z=>(hf _ z).2.1 rfl) ho,r⟩
 .refine(I.cO b u e).uL (fun c v hc q=>k c v ?_ q) (fun _ q=>q) fun _ _ q=>q;rcases hc with z | z
  .rw[z];exact nit b u e
  .exact nit c _ z
end
noncomputable def zO(K:qAd)(l1 l2:Addr):It :=
  ⟨fun i H=>∃xs ys x y,aS K H l1 xs/\aS K H l2 ys/\xs[i]?=some x/\ys[i]?=some y,
   fun i H v H'=>∃t x y,v = .ref t/\H t=none/\H'=upd H t (.tup [x,y])/\(∀xs,aS K H l1 xs->xs[i]?=some x)/\∀ys,aS K H l2 ys->ys[i]?=some y,
   fun i H=>∃xs ys,aS K H l1 xs/\aS K H l2 ys/\(xs.length<=i\/ys.length<=i)⟩
def Nq(z TI TO i1 i2 l1 l2:Addr)(i:Nat)(h:Heap):Prop :=
 IsZip h z TI TO .none/\IsPair h TI (.ref i1) (.ref i2)/\(∃a b,IsPair h TO a b)/\h.IsListIter i1 l1 i/\h.IsListIter i2 l2 i
theorem CK{P:qBy}{w:qDg}{K:qAd}{elts:List Expr}{x1}{pos:Pos}{z TI TO i1 i2 l1 l2:Addr}(D:ZipApart z TI TO i1 i2 l1 l2):
  Turn P w K (.Tuple elts x1 pos) (zO K l1 l2) [z,TI,TO,i1,i2] z (Nq z TI TO i1 i2 l1 l2) where
 mem:=by simp
 obj:=fun i h ⟨hz,hTI,⟨a,b,hTO⟩,⟨o1,h1,_,d1⟩,⟨o2,h2,_,d2⟩⟩ b hb=>by
  simp only[qEd,qDe,or_false] at hb;rcases hb with rfl | rfl | rfl | rfl | rfl
  .exact⟨_,hz,fun v q=>nomatch q⟩
  .exact⟨_,hTI,fun v q=>nomatch q⟩
  .exact⟨_,hTO,fun v q=>nomatch q⟩
  .exact⟨_,h1,fun v q=>by rw[d1] at q;cases q⟩
  .exact⟨_,h2,fun v q=>by rw[d2] at q;cases q⟩
 keep:=fun i h h' ⟨hz,hTI,⟨a,b,hTO⟩,h1,h2⟩ k=>⟨k z (by simp) _ hz,k TI (by simp) _ hTI,⟨a,b,k TO (by simp) _ hTO⟩,h1.at fun o e=>k i1 (by simp) o e,h2.at fun o e=>k i2 (by simp) o e⟩
 item:=by
  intro X hP hw hK hc i pins s σ H E I hf st hg;subst hP hw hK;obtain⟨hz,hTI,⟨a,b,hTO⟩,h1,h2⟩:=st;obtain⟨xs,ys,x,y,q1,q2,hx,hy⟩:=hg;obtain⟨its1,r1,p1,z1⟩:=I.list q1;obtain⟨its2,r2,p2,z2⟩:=I.list q2;obtain⟨u,hu,ru⟩:=r1.get hx;obtain⟨v,hv,rv⟩:=r2.get hy;refine wpAny_pyNext_zip_item D hz hTI hTO h1 h2 p1.isList p2.isList (by simpa using hu) (by simpa using hv) fun h' a1 a2 a3 a4 a5 a6 a7=>⟨_,rfl,?_⟩;refine wpAny_letOwnedTupleGo_zip a1 fun h'' b1 hs=>?_;have lt:∀c o,s.heap.get? c=some o->c≠s.heap.objs.size:=fun c o e=>qBg (qAs e);have ltz:s.heap.objs.size≠z:=(lt z _ hz).symm;have I1:Inv X pins σ H { s with heap:=h'' }:=I.oG (t':=s.toks) (fun c o hb e=>(hs.2 c (fun q=>hb (by simp[q]))).trans (a7 c o (fun q=>hb (by simp[q])) (fun q=>hb (by simp[q])) (fun q=>hb (by simp[q])) (fun q=>hb (by simp[q])) e)) hf;have ht:h''.get? s.heap.objs.size=some { cls:=.type "tuple",data:=.seq #[u,v] }:=(hs.2 _ ltz).trans a5;have hn:H s.heap.objs.size=none:=I.cO.fresh (qAg _);have I2:Inv X pins σ (upd H s.heap.objs.size (.tup [x,y])) { s with heap:=h'' }:=by
   refine I1.Hc hn (qIr I.sz) (qBg I.lt).symm (fun y c q=>?_) (fun p hp=>?_) (I.Iy (qAg _)) ⟨qE,[u,v],.cons ru (.cons rv .nil),_,ht,rfl,_,rfl⟩
   .obtain⟨_,o,ho,_⟩:=I.cell y c q;exact lt c o ho
   .exact lt _ _ (I.pin p hp).1
  refine⟨.ref s.heap.objs.size,_,I2,rfl,⟨_,x,y,rfl,hn,rfl,fun xs' q=>?_,fun ys' q=>?_⟩,⟨b1,(hs.2 _ D.TIz).trans (a7 _ _ D.TIz D.TITO D.TIi1 D.TIi2 hTI),⟨_,_,(hs.2 _ D.TOz).trans a2⟩,a3.at fun o e=>(hs.2 _ D.i1z).trans e,a4.at fun o e=>(hs.2 _ D.i2z).trans e⟩,fun c hb=>?_⟩
  .rw[I.jL q q1];exact hx
  .rw[I.jL q q2];exact hy
  .obtain⟨o,ho,_⟩:∃o,s.heap.get? c=some o/\True:=by
    simp only[qEd,qDe,or_false] at hb;rcases hb with rfl | rfl | rfl | rfl | rfl
    .exact⟨_,hz,trivial⟩
    .exact⟨_,hTI,trivial⟩
    .exact⟨_,hTO,trivial⟩
    .obtain⟨o,ho,_⟩:=h1;exact⟨o,ho,trivial⟩
    .obtain⟨o,ho,_⟩:=h2;exact⟨o,ho,trivial⟩
   rw[aR (lt c o ho)];exact(hf c hb).1
 done:=by
  intro X hP hw hK hc i pins s σ H E I hf st hg;subst hP hw hK;obtain⟨hz,hTI,⟨a,b,hTO⟩,h1,h2⟩:=st;obtain⟨xs,ys,q1,q2,hend⟩:=hg;obtain⟨its1,r1,p1,z1⟩:=I.list q1;obtain⟨its2,r2,p2,z2⟩:=I.list q2;refine wpAny_pyNext_zip_end (I.ok.hd hc) D hz hTI hTO h1 h2 p1.isList p2.isList ?_ fun h' k=>⟨rfl,I.oG (t':=s.toks) (fun c o hb e=>k c o (fun q=>hb (by simp[q])) (fun q=>hb (by simp[q])) (fun q=>hb (by simp[q])) (fun q=>hb (by simp[q])) e) hf⟩;have e1:=r1.length;have e2:=r2.length;rcases hend with h | h
  .left
   simp;lia
  .right
   simp;lia
 self:=fun _ _ _ _ _ st h=>wpAny_pyIter_zip st.1 h
def Pq(K:qAd)(ta:TA):TI:=fun σ H R=>ta σ H fun vs H1=>∃l1 l2,vs=[.ref l1,.ref l2]/\(∃xs,aS K H1 l1 xs)/\(∃ys,aS K H1 l2 ys)/\R (zO K l1 l2) H1
theorem Jf:qCq "zip"=some (.type "zip"):=by decide +kernel
theorem g8{X:Cx}{elts:List Expr}{x1}{tpos:Pos}{a b:Expr}{ta:TA}{p pos:Pos}(hg:Gl X "zip")(hm:X.mg "zip"=none)(ha:PA X [a,b] ta)(hs:qBt [a,b] X.env=[(false,eval a X.env),(false,eval b X.env)]:=by rfl)(hs2:qBt [b] X.env=[(false,eval b X.env)]:=by rfl):
  PI X (.Tuple elts x1 tpos) (.Call (.Name "zip" p) [a,b] [] pos) (Pq X.K ta):=by
 intro pins s σ H R I h;refine qOg (fV I hg hm Jf (qCg (cG (ha pos pins s σ H _ I h) fun us s1 z9=>?_) (by rw[hs,hs2]) (by rw[hs2];rfl)));obtain⟨vs,H1,I1,r1,q1⟩:=z9;obtain⟨l1,l2,e,⟨xs,q1⟩,⟨ys,q2⟩,q⟩:=q1;subst e;obtain⟨u,v,rfl,ru,rv⟩:=vals2 r1;cases (show u=Value.ref l1 from ru);cases (show v=Value.ref l2 from rv);obtain⟨its1,r1,p1,z1⟩:=I1.list q1;obtain⟨its2,r2,p2,z2⟩:=I1.list q2;have t1:l1<s1.heap.objs.size:=by obtain⟨o,ho,_⟩:=p1.isList;exact qAs ho
 have t2:l2<s1.heap.objs.size:=by obtain⟨o,ho,_⟩:=p2.isList;exact qAs ho
 refine call_zip_2 p1.isList p2.isList fun h' hz hTI hTO hi1 hi2 hsz hk=>?_;refine wpAny_pyIter_zip hz ?_;have I2:Inv X pins σ H1 { s1 with heap:=h' }:=I1.kept (t':=s1.toks) hk;refine⟨_,[s1.heap.objs.size+4,s1.heap.objs.size+2,s1.heap.objs.size+3,s1.heap.objs.size,s1.heap.objs.size+1],_,_,H1,rfl,I2,CK (zipApart_new t1 t2),⟨hz,hTI,⟨_,_,hTO⟩,hi1,hi2⟩,fun c hc=>?_,q⟩;have hge:s1.heap.objs.size<=c:=by
  simp only[qEd,qDe,or_false] at hc;rcases hc with h | h | h | h | h
  all_goals first | (rw[h];exact qKg _ _) | exact qIl h.symm
 have:=I1.w8 (H':=H1) hge (I1.cO.fresh hge);exact this
theorem oH{K:qAd}{l1 l2:Addr}{xs ys:List V}{g:TG}{tb:TS}{D:Ends}{σ:St}{H:Hp}(Pv:Nat->St->Hp->Prop)(h0:Pv 0 σ H)(hl:∀i σ H,i<=xs.length->Pv i σ H->aS K H l1 xs/\aS K H l2 ys)(hlen:xs.length=ys.length)
  (hs:∀i x y t σ H,xs[i]?=some x->ys[i]?=some y->H t=none->Pv i σ H->g (.ref t) σ (upd H t (.tup [x,y])) fun σ2 H2=>tb { D with nx:=Pv (i+1),ct:=Pv (i+1),bk:=D.nx } σ2 H2) (hd:∀σ H,Pv xs.length σ H->D.nx σ H) :
  ∃W:Nat->Nat->St->Hp->Prop,(∃m,W 0 m σ H)/\∀i m σ H,W i m σ H ->
   ((zO K l1 l2).stop i H/\D.nx σ H)\/((zO K l1 l2).go i H/\∃N:St->Hp->Prop,(∀σ' H',N σ' H'->∃m',m'<m/\W (i+1) m' σ' H')/\∀x H',(zO K l1 l2).qF i H x H'->g x σ H' fun σ2 H2=>tb { D with nx:=N,ct:=N,bk:=D.nx } σ2 H2):=by
 exists fun i m σ H=>Pv i σ H/\i<=xs.length/\m=xs.length-i,⟨_,h0,qBn _,rfl⟩;rintro i m σ H ⟨hp,hi,rfl⟩;obtain⟨q1,q2⟩:=hl i σ H hi hp;rcases qAm i xs.length with hlt | hge
 .right
  obtain⟨x,hx⟩:∃x,xs[i]?=some x:=⟨_,qAc hlt⟩;obtain⟨y,hy⟩:∃y,ys[i]?=some y:=⟨_,qAc (hlen▸hlt)⟩;refine⟨⟨xs,ys,x,y,q1,q2,hx,hy⟩,Pv (i+1),fun σ' H' h=>⟨_,qNf hlt (qGp _),h,hlt,rfl⟩,?_⟩;rintro v H' ⟨t,x',y',rfl,hn,rfl,e1,e2⟩;have e1':=e1 xs q1;have e2':=e2 ys q2;rw[hx] at e1';rw[hy] at e2';cases e1';cases e2';exact hs i x y t σ H hx hy hn hp
 .left
  obtain rfl:i=xs.length:=qDc hi hge;exact⟨⟨xs,ys,q1,q2,.inl (qAg _)⟩,hd σ H hp⟩
end L2
namespace L2
open PySem PySem.Spec PyProof.Rows PySem.W PySem.Calls
def Sm(n:Nat)(i:Int):Prop:=i.natAbs<2^n
theorem CL(P:St->Hp->Prop)(hk:∀σ H,P σ H->u D σ H)(h:(∀σ H,P σ H->u D σ H)->ID c t e { D with nx:=u D } (σ.set i (some v)) H):aX i v σ H (Fj (ID c t e) u D):=h hk
theorem Sm.mono(h:Sm a i)(hab:a<=b):Sm b i:=qBc h (qBh #[1] hab)
theorem Sm.le(h:Sm a i)(hij:j.natAbs<=i.natAbs):Sm a j:=qBp hij h
theorem Sm.mul(h1:Sm a i)(h2:Sm b j):Sm (a+b) (i*j):=by
 delta Sm at *;rw[qDv,qPv];exact Nat.mul_lt_mul'' h1 h2
theorem Sm.add(h1:Sm a i)(h2:Sm a j):Sm (a+1) (i+j):=by
 delta Sm at *;have e:2^(a+1)=2^a*2:=qIk ..;omega
theorem Sm.sub(h1:Sm a i)(h2:Sm a j):Sm (a+1) (i-j):=by
 delta Sm at *;have e:2^(a+1)=2^a*2:=qIk ..;omega
theorem Sm.fdiv(h:Sm a i):Sm a (i.fdiv d):=h.le (qLk i d)
theorem Sm.zero:Sm n 0:=qHa _
theorem Sm.of(a:Nat){b:Nat}(h:i.natAbs<2^a)(hab:a<=b):Sm b i:=Sm.mono (a:=a) h hab
theorem Sm.mb(h1:Sm m i)(h2:Sm n j)(hm:m<=2000000:=by decide)(hn:n<=2000000:=by decide):uZ i j:=.inr ⟨h1.mono hm,h2.mono hn⟩
theorem Sm.db(h0:j≠0)(h1:Sm m j)(hm:m<=8000:=by decide):vA i j:=⟨h0,h1.mono hm⟩
end L2
namespace PySem.SeqAt
open AutoSeq1 (wpAny_loadPart')
open MeetsSeq MeetsSeq2 MeetsSeq3 SeqRoads2
theorem nX(f:Nat->β->Sem (ForInStep β))(I:Nat->β->qAp->Prop)(Q:β->qAp->Prop)(n:Nat)
  (turn:∀i b s,i<n->I i b s->qBj M A (f i b) (fun r s'=>match r with | .yield b'=>I (i+1) b' s' | .done b'=>Q b' s') E s)
  (fin:∀b s,I n b s->Q b s) (b:β) (h:I 0 b s):qBj M A (forIn [0:n] b f) Q E s:=by
 rw[Std.Legacy.Range.forIn_eq_forIn_range'];refine wpAny_forIn_list f (fun rest b s=>∃i,i<=n/\rest=List.range' i (n-i)/\I i b s) Q ?_ ?_ _ b ⟨0,qBn _,?_,h⟩
 .rintro x rest b s ⟨i,hi,hr,hI⟩;have hlt:i<n:=by
   rcases qAm i n with z | z
   .exact z
   .rw[show n-i=0 by lia] at hr;cases hr
  obtain⟨k,hk⟩:∃k,n-i=k+1:=⟨n-i-1,by lia⟩;rw[hk,qOa] at hr;obtain⟨rfl,rfl⟩:=List.cons.inj hr;refine qHl (turn x b s hlt hI) (fun r s' hr=>?_) fun _ _ z=>z;cases r with
  | done b'=>exact hr
  | yield b'=>exact⟨x+1,hlt,by rw[show n-(x+1)=k by lia],hr⟩
 .rintro b s ⟨i,hi,hr,hI⟩;have:i=n:=by
   rcases qAm i n with z | z
   .obtain⟨k,hk⟩:∃k,n-i=k+1:=⟨n-i-1,by lia⟩;rw[hk,qOa] at hr;cases hr
   .lia
  subst this;exact fin _ _ hI
 .simp[Std.Legacy.Range.size]
theorem qL(l:Addr)(items:Array qAl)(n:Nat)(dd:Option Addr)(sl:Array (Option qAl))(x:qAl)(e:qAl->Bool)(j:Nat)(hj:j<items.size)
  (hit:e items[j]=true) (hno:∀m (hm:m<items.size),m<j->e items[m]=false) :
  Meets (Builtin.«tuple.index» ⟨[.ref l,x],[]⟩)
   (fun A R s=>s.heap.get? l=some { cls:=.type "tuple",dict:=dd,data:=.seq items n,slots:=sl }/\(∀y,y∈items->EqAt A.in1 s y x (e y))/\R (.ok (.ret (.int (j:Nat) s.toks))) { s with toks:=s.toks+1 }) :=
 .of_wp fun prog w A R s h=>by
  obtain⟨hp,g,d,tk,os⟩:=s;obtain⟨hl,he,h⟩:=h;wp_walk using wpAny_loadPart' hl,nX _ (fun i b s'=>b.1=none/\s'=⟨hp,g,d,tk,os⟩/\i<=j) _ _
  case turn =>
   rintro i b s' hi ⟨hb,rfl,hij⟩;have hi':i<items.size:=by lia
   rw[qBo hi'];refine qAb (he _ (Array.getElem_mem hi') prog w _ _ ?_);rcases qAm i j with z | z
   .rw[hno i hi' z];wp_walk;exact⟨rfl,rfl,z⟩
   .obtain rfl:i=j:=by lia
    rw[hit];wp_walk;exact⟨_,rfl,h⟩
  case fin =>
   rintro⟨b1,b2⟩ s' ⟨hb,rfl,hij⟩;lia
  case h =>
   exact⟨rfl,rfl,qBn _⟩
end PySem.SeqAt
namespace L2
open PySem PySem.Spec PyProof.Rows
theorem aH.upd_ne'(s:aH H H')(h:H D=none):aH H (upd H' D o):=fun b u e=>by
 rw[aR (bE e h)];exact s b u e
theorem sW(F:α->β):∀xs:List α,((qAk xs.length).filterMap fun i=>(xs[i]?).bind fun x=>some (F x))=xs.map F
 | []=>rfl
 | x::r=>by
  rw[qBq,qIa,qCh,qJk];show F x::_=F x::r.map F;rw[<- sW F r];rfl
theorem zP(f:α->Option β):∀xs:List α,((qAk xs.length).filterMap fun i=>(xs[i]?).bind f)=xs.filterMap f
 | []=>rfl
 | x::r=>by
  rw[qBq,qIa,qCh,qJk,qCh,<- zP f r];rfl
def SameBut(x:Addr)(H H':Hp):Prop:=∀b o,b≠x->H b=some o->H' b=some o
theorem aH.but(s:aH H H')(x:Addr):SameBut x H H':=fun b o _ e=>s b o e
theorem SameBut.then(a:SameBut x H H1)(b:aH H1 H2):SameBut x H H2:=fun c o n e=>b c o (a c o n e)
theorem SameBut.nY(a:SameBut x H H1)(u:HO):SameBut x H (upd H1 x u):=fun c o n e=>by rw[aR n];exact a c o n e
theorem SameBut.made(hx:H x=none)(hd:H dx=none)(ne:dx≠x)(s:SameBut x (upd (upd H dx (.own x)) x (.ins C dx [])) H'):aH H H':=fun b o e=>by
 have n1:b≠x:=bE e hx;have n2:b≠dx:=bE e hd;exact s b o n1 (by rw[aR n1,aR n2];exact e)
theorem jP.up{P:qBy}{w:qDg}{K:qAd}{mg:Str->Option qAl}{base:Heap}{k:Nat}{f:Addr}{fd:qCo}{ps:List Str}{sp:Sp}(F:jP P w K mg base b0 k f fd ps sp):jP P w K mg base (kH P w) k f fd ps sp :=
 ⟨F.len,fun A outer s H args us vs Q E hr he hb hv hs=>qGb (F.run A outer s H args us vs Q E hr he hb hv hs) fun r s' h=>by
  cases r with
  | error e=>exact False.elim h
  | ok fl=>cases fl <;> exact h⟩
structure Mx (K:qAd) (x qual:Str) (st:Stmt) (ps:List Str) (f:Addr) (fd:qCo):Prop where
 fn:IX K x qual st f fd
 bd:∀us:List qAl,us.length=ps.length->qNm fd ⟨us,[]⟩=pure (ps.zip us)
theorem qY{K:qAd}{x qual:Str}{st:Stmt}{ps:List Str}{f:Addr}{oc:qAl}{od an:Option Addr}{osl:Array (Option qAl)}{kV doc pm cdv ct:qAl}
  (l:K.lookup f=some ⟨oc,od,.func (qDq x qual (eE st) (cS st) (aI st) .none kV doc pm an cdv ct),osl⟩)
  (c:qEa K cdv qual=true) (k:qDb K (.ref f)=true)
  (hb:∀(kV doc pm:qAl) (an:Option Addr) (cdv ct:qAl) (us:List qAl),us.length=ps.length->qNm (qDq x qual (eE st) (cS st) (aI st) .none kV doc pm an cdv ct) ⟨us,[]⟩=pure (ps.zip us)) :
  ∃fd,Mx K x qual st ps f fd:=⟨_,Cw l c k,hb kV doc pm an cdv ct⟩
structure Md (P:qBy) (w:qDg) (K:qAd) (mg:Str->Option qAl) (base:Heap) (k:Nat) (ps:List Str) (sp:Sp) (f:Addr):Prop where
 ex:∃fd,jP P w K mg base (kH P w) k f fd ps sp/\Binds K fd ps []
section
variable {P:qBy}{w:qDg}{K:qAd}{mg:Str->Option qAl}{base:Heap}{x qual:Str}{st:Stmt}{ps N:List Str}{f:Addr}{fd:qCo}{k j:Nat}{sp sp':Sp}
theorem Mx.ME(t:Mx K x qual st ps f fd)(S:aV N ps (aI st))(len:∀vs H Q E,sp vs H Q E->vs.length=ps.length)
  (hbody:∀(cdv:qAl) (A:qDl) (outer:List Env) (s:qAp) (H:Hp) (vs:List V) (Q:VK) (E:XK),eW k (A.deeper (qJe qual (aI st) s.heap.objs.size f cdv))->sp vs H Q E ->
   ∃t,uG (oV b0 P w K mg base N qual (aI st) f cdv A outer s H E).MA (cS st) t/\t { nx:=fun _ H'=>Q .non H',rt:=Q } (start N vs) H):Md P w K mg base (k+1) ps sp f :=
 ⟨fd,(t.fn.ok S len hbody).up,.all t.bd⟩
end
section
variable {X:Cx}{Ex:XS}{k j:Nat}{f C:Addr}{ps:List Str}{sp:Sp}{x m:Str}{p pos apos:Pos}{e o:Expr}{es:List Expr}{ta:TE}{t:TA}
def Jg(K:qAd)(MO:Addr->Sp->Prop)(m:Str)(Ex:XS)(ta:TE)(t:TA):TE:=fun σ H Q=>ta σ H fun x H1=>∃a C dx fs g sp,x = .ref a/\H1 a=some (.ins C dx fs)/\fs.lookup m=none/\EZ K C/\Meth K C m g/\MO g sp /\
 t σ H1 fun vs H2=>sp (x::vs) H2 Q fun c _ H'=>Ex c σ H'
theorem g9(R:Pass X Ex)(he:PE X o ta)(hr:eW j X.A)(hj:k<=j)(ha:PA X (e::es) t)
  (hst:qBt (e::es) X.env=(false,eval e X.env)::qBt es X.env:=by rfl) (hpl:(qHf pos (qBt es X.env)).any (·.1)=false:=by rfl)
  (ht:eval (.Call (.Attribute o m apos) (e::es) [] pos) X.env=(do
   let ov <- eval o X.env
   standAt apos.atName
   let (f,first) <- qLw [ov] (getMethod ov m pl)
   callWith pos f first (qHf pos (qBt (e::es) X.env)) (backToKw pos (keywordEach [] X.env))):=by rfl) :
  PE X (.Call (.Attribute o m apos) (e::es) [] pos) (Jg X.K (fun g sp=>∃ps,Md X.prog X.w X.K X.mg X.base k ps sp g) m Ex ta t):=by
 intro pins s σ H Q I h;refine PySem.W.methodCall_KW (pl:=pl) (cG (he pins s σ H _ I h) fun u s1 z9=>?_) ht;obtain⟨x,H1,I1,rx,a,C,dx,fs,g,sp,ex,ea,l,c,hm,⟨ps,F⟩,q⟩:=z9;subst ex;obtain rfl:u=Value.ref a:=rx;obtain⟨fd,F,hb⟩:=F.ex;refine xH I1 ea c hm l ?_;refine qGv (first:=[.ref a]) (h₀:=X.base) I.ok.mod.Iu hm.kp (cG (ha pos pins s1 σ H1 _ I1 q) fun us s2 ⟨vs,H2,I2,r,q2⟩=>⟨I2.w6,?_⟩) hst hpl;exact zL (us:=.ref a::us) (vs:=.ref a::vs) R F (hr.mono hj) hb .nil I2 (.cons rfl r) (by rw[qDp];exact q2)
def Jh(C:Addr)(sp:Sp)(Ex:XS)(t:TA):TE:=fun σ H Q=>t σ H fun vs H1=>∀x dx,H1 x=none->H1 dx=none->dx≠x ->
 sp (.ref x::vs) (upd (upd H1 dx (.own x)) x (.ins C dx [])) (fun v H2=>v = .non/\Q (.ref x) H2) fun c _ H'=>Ex c σ H'
theorem Bi(R:Pass X Ex)(M:Mk X.K C f)(F:jP X.prog X.w X.K X.mg X.base (kH X.prog X.w) k f fd ps sp)(hr:eW (k+1) X.A)(hb:Binds X.K fd ps [])
  (I:Inv X pins σ H s) (r:Vals vs us)
  (h:∀x dx,H x=none->H dx=none->dx≠x->sp (.ref x::vs) (upd (upd H dx (.own x)) x (.ins C dx [])) (fun v H2=>v = .non/\Q (.ref x) H2) fun c _ H'=>Ex c σ H') :
  qBj (qBz X.prog X.w) X.A (call (.ref C) us) (EP X pins σ Q) X.xe s:=by
 have hq:=h (s.heap.objs.size+1) s.heap.objs.size (I.cO.fresh (qFi _)) (I.cO.fresh (qAg _)) (qBg (qGp _));have I2:=Inv.made (C:=C) I;have r2:Vals (V.ref (s.heap.objs.size+1)::vs) (Value.ref (s.heap.objs.size+1)::us):=.cons rfl r;have hl:(Value.ref (s.heap.objs.size+1)::us).length=ps.length:=by
  have e:=r2.length;rw[F.len _ _ _ _ hq] at e;exact e.symm
 have hb2:=hb { s with heap:=(s.heap.push qDr).push (qEl C s.heap.objs.size) } (Value.ref (s.heap.objs.size+1)::us) I2.w6 (by rw[qDp];exact hl);rw[qDp] at hb2;refine qJl (Cn (f:=f) I.w6 M.makes M.init (beq_iff_eq.mp M.fn) (qGb (F.run _ X.stack _ _ ⟨Value.ref (s.heap.objs.size+1)::us,[]⟩ (Value.ref (s.heap.objs.size+1)::us) _ _ _ (hr.make C us [])
  (I2.IL.make C us []) hb2 r2 hq) fun r s' hq'=>?_))
 cases r with
 | error ev =>
  obtain⟨e,C',H',rfl,Fl,q⟩:=hq';exact R.on pins σ _ _ e C' H' s' I2 Fl q
 | ok fl =>
  cases fl with
  | ret u =>
   obtain⟨v,H',I3,rv,ev,q3⟩:=I2.after hq';subst ev;exact⟨rv,⟨V.ref (s.heap.objs.size+1),H',I3,rfl,q3⟩⟩
  | next=>exact False.elim hq'
  | brk=>exact False.elim hq'
  | cont=>exact False.elim hq'
theorem CM(R:Pass X Ex)(M:Mk X.K C f)(F:Md X.prog X.w X.K X.mg X.base k ps sp f)(hr:eW j X.A)(hj:k+1<=j)(hg:Gl X x)(hm:X.mg x=some (.ref C))
  (ha:PA X (e::es) t) (hdb:(x == ("__debug__":Str))=false:=by decide) (he:qBt (e::es) X.env=(false,eval e X.env)::qBt es X.env:=by rfl) (hpl:(qHf pos (qBt es X.env)).any (·.1)=false:=by rfl) :
  PE X (.Call (.Name x p) (e::es) [] pos) (Jh C sp Ex t):=by
 intro pins s σ H Q I h;obtain⟨fd,F,hb⟩:=F.ex;refine qGf (lC I hg hm ?_ hdb);refine qGv (h₀:=X.base) I.ok.mod.Iu M.kp (cG (ha pos pins s σ H _ I h) fun us s1 ⟨vs,H1,I1,r,q⟩=>⟨I1.w6,?_⟩) he hpl;exact Bi R M F (hr.mono hj) hb I1 r q
end
structure Pt (K:qAd) (C:Addr):Prop where
 cl:EZ K C
 ca:qBe K (.ref C) "__class__"=some (some (.builtin "object.__class__"))
 cg:qFd K (.builtin "object.__class__") "__get__"=some (some (.builtin "getset_descriptor.__get__"))
 ct:qFr K (.builtin "object.__class__")=some true
 mo:qDz K C (.type "object")=some true
section
variable {X:Cx}
theorem dG(hh:X.calm=true):g6 X (.builtin "sum") (fun xs H Q=>∃(p:Addr) (ns:List Int),xs=[.ref p]/\(aS X.K H p (ns.map V.int)\/cE X.K H p (ns.map V.int))/\Q (.int ns.sum) H):=by
 intro pins s σ H xs us Q I r h;obtain⟨p,ns,rfl,hq,q⟩:=h;obtain⟨u,rfl,rx⟩:=vals1 r;cases rx;rcases hq with hq | hq
 .obtain⟨its,r',pl,hz⟩:=I.list hq;have hi:=intsAre_of r';obtain⟨xs,hx⟩:=hi.allInts.items;have hl':s.heap.IsList p (intItems xs):=hx▸pl.isList;refine sum_intListG (I.ok.hd hh) hl' fun h' tk t' hk=>?_;have e1:ns=xs.toList.map (·.1):=by
   rw[<- nums_intItems,<- hx];exact(show numsOf its.toArray.toList=ns from hi.numsOf).symm
  have e2:preSum (numAt xs) xs.size=ns.sum:=by
   rw[preSum_eq,qFa (by simp),e1]
  rw[e2];exact⟨.int ns.sum,H,I.kept (t':=tk) hk,⟨_,rfl⟩,q⟩
 .obtain⟨its,r',pl,hz⟩:=I.tuple hq;have hi:=intsAre_of r';obtain⟨xs,hx⟩:=hi.allInts.items;have hl':s.heap.IsTuple p (intItems xs):=hx▸pl;refine PySem.W.ktm_sumG (I.ok.hd hh) hl' fun h' tk t' hk=>?_;have e1:ns=xs.toList.map (·.1):=by
   rw[<- nums_intItems,<- hx];exact(show numsOf its.toArray.toList=ns from hi.numsOf).symm
  have e2:preSum (numAt xs) xs.size=ns.sum:=by
   rw[preSum_eq,qFa (by simp),e1]
  rw[e2];exact⟨.int ns.sum,H,I.kept (t':=tk) hk,⟨_,rfl⟩,q⟩
theorem nP:∀{us:List qAl},Vals (bs.map V.bl) us->LSm.BoolsAre us bs:=by
 induction bs with
 | nil=>intro us h;cases h;exact .nil
 | cons b bs ih =>
  intro us h;cases h with
  | cons r t=>cases r;exact .cons b (ih t)
theorem pB(hh:X.calm=true):g6 X (.builtin "all") (fun xs H Q=>∃(p:Addr) (bs:List Bool),xs=[.ref p]/\aS X.K H p (bs.map V.bl)/\Q (.bl (bs.all id)) H):=by
 intro pins s σ H xs us Q I r h;obtain⟨p,bs,rfl,hq,q⟩:=h;obtain⟨u,rfl,rx⟩:=vals1 r;cases rx;obtain⟨its,r',pl,hz⟩:=I.list hq;have hb:=nP r';have hl:=pl.isList;have hlt:p<s.heap.objs.size:=by obtain⟨_,e,_⟩:=hl;exact qAs e
 refine call_all_walk (qIc hl ?_);refine⟨s.heap.objs.size,[s.heap.objs.size,p],[s.heap.objs.size],its.toArray.size,_,_,fun i=>(bs[i]?).getD true,rfl,Walks.list (A:=X.A.in1) (I.ok.hd hh) _ p (qBg hlt) its.toArray,
  ⟨⟨_,qAt _ rfl,rfl,rfl⟩,hl.push _⟩,fun i v s' Q' E' hP hQ=>?_,fun h' tk hk=>?_⟩
 .obtain⟨b,e,rfl⟩:=hb.get i v (by simpa using hP);simp only[e,qNd] at hQ;exact qDu hQ
 .have e:((qAk its.toArray.size).all fun i=>(bs[i]?).getD true)=bs.all id:=by
   rw[qAw,hb.length];exact LSm.range_all bs
  rw[e];exact⟨.bl _,H,I.kept (t':=tk) (LSm.kept_iter hk),rfl,q⟩
theorem CN(hh:X.calm=true):g6 X (.builtin "any") (fun xs H Q=>∃(p:Addr) (bs:List Bool),xs=[.ref p]/\aS X.K H p (bs.map V.bl)/\Q (.bl (bs.any id)) H):=by
 intro pins s σ H xs us Q I r h;obtain⟨p,bs,rfl,hq,q⟩:=h;obtain⟨u,rfl,rx⟩:=vals1 r;cases rx;obtain⟨its,r',pl,hz⟩:=I.list hq;have hb:=nP r';have hl:=pl.isList;have hlt:p<s.heap.objs.size:=by obtain⟨_,e,_⟩:=hl;exact qAs e
 refine call_any_walk (qIc hl ?_);refine⟨s.heap.objs.size,[s.heap.objs.size,p],[s.heap.objs.size],its.toArray.size,_,_,fun i=>(bs[i]?).getD false,rfl,Walks.list (A:=X.A.in1) (I.ok.hd hh) _ p (qBg hlt) its.toArray,
  ⟨⟨_,qAt _ rfl,rfl,rfl⟩,hl.push _⟩,fun i v s' Q' E' hP hQ=>?_,fun h' tk hk=>?_⟩
 .obtain⟨b,e,rfl⟩:=hb.get i v (by simpa using hP);simp only[e,qNd] at hQ;exact qDu hQ
 .have e:((qAk its.toArray.size).any fun i=>(bs[i]?).getD false)=bs.any id:=by
   rw[qAw,hb.length];exact LSm.range_any bs
  rw[e];exact⟨.bl _,H,I.kept (t':=tk) (LSm.kept_iter hk),rfl,q⟩
theorem gJ:qCq "sum"=some (.builtin "sum"):=by decide +kernel
theorem xU:qCq "all"=some (.builtin "all"):=by decide +kernel
theorem Ji:qCq "any"=some (.builtin "any"):=by decide +kernel
def FH(K:qAd):V->List V->Hp->VK->Prop:=fun x vs H Q=>∃(p:Addr) (ns:List Int) (i:Int) (j:Nat),x = .ref p/\vs=[.int i]/\cE K H p (ns.map V.int)/\ns[j]?=some i/\(∀m,m<j->ns[m]?≠some i)/\Q (.int (j:Nat)) H
noncomputable def QE(i:Int)(u:qAl):Bool:=match u with
 | .int k _=>k == i
 | _=>false
theorem fH:Fv X "list.append" zJ:=mW
theorem CO:Fv X "tuple.index" (FH X.K):=by
 intro pins s σ H x vs v us Q I rx rv h;obtain⟨p,ns,i,j,rfl,rfl,hq,hj,hno,q⟩:=h;cases rx;obtain⟨u,rfl,ru⟩:=rv.one;obtain⟨t,rfl⟩:=(show ∃t,u=Value.int i t from ru);obtain⟨its,r',pl,hz⟩:=I.tuple hq;have hi:=intsAre_of r';obtain⟨⟨oc,od,odt,osl⟩,h1,h2,n,h3⟩:=id pl;dsimp only at h2 h3;subst h2 h3;have at_:∀(m:Nat) (k:Int),ns[m]?=some k->∃t,its[m]?=some (.int k t):=fun m k hm=>by
  obtain⟨u,hu,ru⟩:=r'.get (i:=m) (x:=.int k) (by rw[qAn,hm];rfl);obtain⟨t,rfl⟩:=(show ∃t,u=Value.int k t from ru);exact⟨t,hu⟩
 have hl:=r'.length;rw[qAa] at hl;obtain⟨t1,ht1⟩:=at_ j i hj;have hjl:j<its.length:=by
  rcases qAm j its.length with z | z
  .exact z
  .rw[qAv z] at ht1;cases ht1
 refine qHm F.slot_tuple_index ⟨_,h1,rfl⟩ F.entry_tuple_index (F.args_tuple_index_2 _ _) (SeqAt.qL p its.toArray n od osl (.int i t) (QE i) j (by simpa using hjl) ?_ fun m hm hmj=>?_) ⟨h1,fun y hy=>?_,?_⟩
 .have e:its.toArray[j]'(by simpa using hjl) = .int i t1:=by
   have:=qAc hjl;rw[ht1] at this;simpa using (Option.some.inj this).symm
  rw[e];show(i == i)=true;simp
 .have hml:m<its.length:=by simpa using hm
  have hmn:m<ns.length:=by omega
  obtain⟨t2,ht2⟩:=at_ m _ (qAc hmn);have e:its.toArray[m]'hm = .int ns[m] t2:=by
   have:=qAc hml;rw[ht2] at this;simpa using (Option.some.inj this).symm
  rw[e];show(ns[m] == i)=false;rw[beq_eq_false_iff_ne];intro z;exact hno m hmj (by rw[qAc hmn,z])
 .have hy':y∈its:=by simpa using hy
  obtain⟨m,hm,e⟩:=qCv hy';have hmn:m<ns.length:=by omega
  obtain⟨t2,ht2⟩:=at_ m _ (qAc hmn);rw[qAc hm,e] at ht2;obtain rfl:y = .int ns[m] t2:=Option.some.inj ht2;exact SeqAt.EqAt.int_int _ _ _ _
 .exact⟨.int (j:Nat),H,I.tok _,⟨_,rfl⟩,q⟩
end
theorem lN{prog:qBy}{w:qDg}{A:qDl}{E:qAl->qAp->Prop}{s:qAp}{t sl:Addr}{items:Array qAl}{vl vu:qAl}{lo hi:Option Int}{Q:qAl->qAp->Prop}(ht:IsTup s.heap t items)(hs:s.heap.IsSliceOf sl vl vu .none)(pl:qLg vl lo)(pu:qLg vu hi)
  (h0:HT.eU items.size 0 lo=0) (h1:HT.eU items.size items.size hi=items.size)
  (h:Q (.ref t) s):qBj (qBz prog w) A (qIp (.ref t) (.ref sl)) Q E s:=by
 obtain⟨os,hos,hcs,hds⟩:=id hs;have hTs:s.TypeIs (.ref sl) "slice":=⟨os,hos,hcs⟩;delta qIp;try with_reducible refine qDm ?_
 first | refine qAb (qAe ?_) | skip
 refine qAb (wpAny_sequenceKey ht.typeIs #[1] ?_);refine qAb (qEr (name:=Str.ofString "__getitem__") ht.typeIs qEs
  (qEc qEs ht.typeIs entry_tuple_getitem ?_ (args_tuple_getitem _ _)))
 show qBj _ _ (Builtin.Tuple.tupleItemsOf (.ref t) >>= _) _ _ s;refine qAb (tupleItemsOf_ ht ?_);refine qAb (qHx hTs ?_);rw[if_pos (by decide)];refine qAb (HT.iX hs pl pu ?_);have hy:(((HT.eU items.size 0 lo:Nat):Int) == 0&&(1:Int) == 1&&(HT.eU items.size items.size hi-HT.eU items.size 0 lo) == items.size)=true:=by
  rw[h0,h1];simp
 show qBj _ _ (if (((HT.eU items.size 0 lo:Nat):Int) == 0&&(1:Int) == 1&&(HT.eU items.size items.size hi-HT.eU items.size 0 lo) == items.size)=true then _ else _) _ _ s;rw[if_pos hy];refine qAb (m:=Builtin.Tuple.tupleIsExact (.ref t)) ?_;delta Builtin.Tuple.tupleIsExact;refine qAb (qHx ht.typeIs (qAe ?_));rw[if_pos (by decide)];first
  | exact qAb (qGq (qAe ⟨_,rfl,qAe h⟩))
  | exact qAb (qGq (qAb (qAe (qAe ⟨_,rfl,qAe h⟩))))
def Pu(K:qAd):V->Option Int->Option Int->Hp->VK->Prop:=fun x lo hi H Q=>∃a xs,x = .ref a/\cE K H a xs/\∀p H',aH H H'->cE K H' p (fR xs lo hi)->Q (.ref p) H'
theorem zQ:Nc X (Pu X.K):=by
 intro pins s σ H x v vl vu lo hi sl Q I rx hs pl pu h;obtain⟨a,xs,rfl,hx,q⟩:=h;by_cases hw:HT.eU xs.length 0 lo=0/\HT.eU xs.length xs.length hi=xs.length
 .cases rx
  obtain⟨its,r,ht,hz⟩:=I.tuple hx;have hlen:its.toArray.size=xs.length:=by rw[qAw];exact r.length.symm
  exists "tuple",_,PyProof.Rows.slot_tuple_getitem.lookup,ht.typeIs;refine lN ht hs pl pu (by rw[hlen];exact hw.1) (by rw[hlen];exact hw.2) ⟨.ref a,H,I,rfl,q a H (.refl H) ?_⟩;delta fR;rw[hw.1,hw.2,qOq,qMi,qEg];exact hx
 .exact IS pins s σ H (.ref a) v vl vu lo hi sl Q I rx hs pl pu ⟨a,xs,rfl,hx,hw,fun p hp=>q p _ (.aG hp) (cE.of aD)⟩
section
variable {K:qAd}{a:Addr}{xs:List V}{σ0:St}{H1:Hp}{i0:Nat}{c:TT}{te:TE}{Q:Addr->Hp->Prop}
theorem cC(f:Nat->V->Option V)(hq:aS K H1 a xs)(hn:xs.length<=qAi)
  (step:∀(i:Nat) (x:V) (H2:Hp) (k:VK) (k0:Hp->Prop),aH H1 H2->xs[i]?=some x->(∀y,f i x=some y->∀H3,aH H2 H3->k y H3)->(f i x=none->∀H3,aH H2 H3->k0 H3) ->
   c (σ0.set i0 (some x)) H2 fun b H4=>if b=true then te (σ0.set i0 (some x)) H4 k else k0 H4)
  (h:∀D H2,H1 D=none->aH H1 H2->H2 D=some (.lst ((qAk xs.length).filterMap fun i=>(xs[i]?).bind (f i)))->Q D H2) :
  ∀D,H1 D=none->∃W:Nat->Nat->St->Hp->Prop,(∃m,W 0 m σ0 (upd H1 D (.lst [])))/\∀i m σ1 H2,W i m σ1 H2 ->
   ((zA K a).stop i H2/\Q D H2)\/((zA K a).go i H2/\∃N:St->Hp->Prop,(∀σ' H',N σ' H'->∃m',m'<m/\W (i+1) m' σ' H') /\
    ∀x H',(zA K a).qF i H2 x H'->aX i0 x σ1 H' fun σ2 H3=>c σ2 H3 fun b H4=>if b=true then te σ2 H4 fun y H5=>∃xs,H5 D=some (.lst xs)/\xs.length<qAi/\N σ2 (upd H5 D (.lst (xs++[y]))) else N σ2 H4):=by
 intro D hD;exists fun i m σ1 H2=>σ1.set i0 none=σ0.set i0 none/\aH H1 H2/\H2 D=some (.lst ((qAk i).filterMap fun i=>(xs[i]?).bind (f i)))/\i<=xs.length/\m=xs.length-i,⟨xs.length,rfl,.aG hD,aD,qBn _,rfl⟩;rintro i m σ1 H2 ⟨hσ,hs,hd,hi,rfl⟩;have hset:∀v:Option V,σ1.set i0 v=σ0.set i0 v:=fun v=>by
  have z:=congrArg (fun l=>qHv l i0 v) hσ;simpa using z
 rcases qAm i xs.length with hlt | hge
 .right
  refine⟨⟨xs,xs[i],hs.seq hq,by simp[hlt]⟩,fun σ' H'=>σ'.set i0 none=σ0.set i0 none/\aH H1 H'/\H' D=some (.lst ((qAk (i+1)).filterMap fun i=>(xs[i]?).bind (f i))),(by rintro σ' H' ⟨a,b,c⟩;exact ⟨xs.length-(i+1),by lia,a,b,c,hlt,rfl⟩),?_⟩;rintro x H' ⟨rfl,hx⟩;have hx:=hx xs (hs.seq hq);show c (σ1.set i0 (some x)) _ _;rw[hset];refine step i x _ _ _ hs hx (fun y hy H3 hs3=>⟨_,hs3 _ _ hd,?_,?_,?_,?_⟩) fun hno H3 hs3=>⟨?_,hs.trans hs3,?_⟩
  .refine qBp (qEz _ _) ?_;rw[qAu];lia
  .simp
  .refine(hs.trans hs3).upd_ne' hD
  .rw[aD,qBm,qBx];simp[hx,hy]
  .simp
  .rw[hs3 _ _ hd,qBm,qBx];simp[hx,hno]
 .left
  obtain rfl:i=xs.length:=qDc hi hge;exact⟨⟨xs,hs.seq hq,qAg _⟩,h D _ hD hs hd⟩
end
section
variable {K:qAd}{lo:Int}{n:Nat}{σ0:St}{H1:Hp}{i0:Nat}{c:TT}{te:TE}{Q:Addr->Hp->Prop}
theorem fN(f:Nat->Option V)(hn:n<=qAi)
  (step:∀(i:Nat) (H2:Hp) (k:VK) (k0:Hp->Prop),aH H1 H2->i<n->(∀y,f i=some y->∀H3,aH H2 H3->k y H3)->(f i=none->∀H3,aH H2 H3->k0 H3) ->
   c (σ0.set i0 (some (.int (lo+(i:Int))))) H2 fun b H4=>if b=true then te (σ0.set i0 (some (.int (lo+(i:Int))))) H4 k else k0 H4)
  (h:∀D H2,H1 D=none->aH H1 H2->H2 D=some (.lst ((qAk n).filterMap f))->Q D H2) :
  ∀D,H1 D=none->∃W:Nat->Nat->St->Hp->Prop,(∃m,W 0 m σ0 (upd H1 D (.lst [])))/\∀i m σ1 H2,W i m σ1 H2 ->
   ((qG lo n).stop i H2/\Q D H2)\/((qG lo n).go i H2/\∃N:St->Hp->Prop,(∀σ' H',N σ' H'->∃m',m'<m/\W (i+1) m' σ' H') /\
    ∀x H',(qG lo n).qF i H2 x H'->aX i0 x σ1 H' fun σ2 H3=>c σ2 H3 fun b H4=>if b=true then te σ2 H4 fun y H5=>∃xs,H5 D=some (.lst xs)/\xs.length<qAi/\N σ2 (upd H5 D (.lst (xs++[y]))) else N σ2 H4):=by
 intro D hD;exists fun i m σ1 H2=>σ1.set i0 none=σ0.set i0 none/\aH H1 H2/\H2 D=some (.lst ((qAk i).filterMap f))/\i<=n/\m=n-i,⟨n,rfl,.aG hD,aD,qBn _,rfl⟩;rintro i m σ1 H2 ⟨hσ,hs,hd,hi,rfl⟩;have hset:∀v:Option V,σ1.set i0 v=σ0.set i0 v:=fun v=>by
  have z:=congrArg (fun l=>qHv l i0 v) hσ;simpa using z
 rcases qAm i n with hlt | hge
 .right
  refine⟨hlt,fun σ' H'=>σ'.set i0 none=σ0.set i0 none/\aH H1 H'/\H' D=some (.lst ((qAk (i+1)).filterMap f)),(by rintro σ' H' ⟨a,b,c⟩;exact ⟨n-(i+1),by lia,a,b,c,hlt,rfl⟩),?_⟩;rintro x H' ⟨rfl,rfl⟩;show c (σ1.set i0 (some (.int (lo+(i:Int))))) _ _;rw[hset];refine step i _ _ _ hs hlt (fun y hy H3 hs3=>⟨_,hs3 _ _ hd,?_,?_,?_,?_⟩) fun hno H3 hs3=>⟨?_,hs.trans hs3,?_⟩
  .refine qBp (qEz _ _) ?_;rw[qAu];lia
  .simp
  .exact(hs.trans hs3).upd_ne' hD
  .rw[aD,qBm,qBx];simp[hy]
  .simp
  .rw[hs3 _ _ hd,qBm,qBx];simp[hno]
 .left
  obtain rfl:i=n:=qDc hi hge;exact⟨qAg _,h D _ hD hs hd⟩
end
section
variable {X:Cx}
theorem Bj(K:qAd)(hh:X.calm=true)(h:X.K=K:=by rfl):g6 X (.builtin "sum") (fun xs H Q=>∃(p:Addr) (ns:List Int),xs=[.ref p]/\(aS K H p (ns.map V.int)\/cE K H p (ns.map V.int))/\Q (.int ns.sum) H):=by
 subst h;exact dG hh
theorem Jj:qCq "max"=some (.builtin "max"):=by decide +kernel
end
noncomputable def He(K:qAd)(l:Addr):It :=
  ⟨fun i H=>∃xs x,aS K H l xs/\xs[i]?=some x,
   fun i H v H'=>∃t x,v = .ref t/\H t=none/\H'=upd H t (.tup [.int (i:Int),x])/\∀xs,aS K H l xs->xs[i]?=some x,
   fun i H=>∃xs,aS K H l xs/\xs.length<=i⟩
def Jk(e it l:Addr)(i:Nat)(h:Heap):Prop:=(∃old,IsEnum h e it (i:Int) old)/\h.IsListIter it l i
theorem Bk{P:qBy}{w:qDg}{K:qAd}{elts:List Expr}{x1}{pos:Pos}{e it l:Addr}(hne:e≠it):
  Turn P w K (.Tuple elts x1 pos) (He K l) [e,it] e (Jk e it l) where
 mem:=by simp
 obj:=fun i h ⟨⟨old,he⟩,⟨o,ho,_,d⟩⟩ b hb=>by
  simp only[qEd,qDe,or_false] at hb;rcases hb with rfl | rfl
  .exact⟨_,he,fun v q=>nomatch q⟩
  .exact⟨_,ho,fun v q=>by rw[d] at q;cases q⟩
 keep:=fun i h h' ⟨⟨old,he⟩,h1⟩ k=>⟨⟨old,k e (by simp) _ he⟩,h1.at fun o q=>k it (by simp) o q⟩
 item:=by
  intro X hP hw hK hc i pins s σ H E I hf st hg;subst hP hw hK;obtain⟨⟨old,he⟩,h1⟩:=st;obtain⟨xs,x,q1,hx⟩:=hg;obtain⟨its1,r1,p1,z1⟩:=I.list q1;obtain⟨u,hu,ru⟩:=r1.get hx;refine wpAny_pyNext_enum_item he h1 p1.isList (by simpa using hu) hne fun h' a1 a2 a3 a4 a5=>⟨_,rfl,?_⟩;refine wpAny_letOwnedTupleGo_enum a1 fun h'' b1 hs=>?_;have lt:∀c o,s.heap.get? c=some o->c≠s.heap.objs.size:=fun c o e=>qBg (qAs e);have lte:s.heap.objs.size≠e:=(lt e _ he).symm;have I1:Inv X pins σ H { s with heap:=h'',toks:=s.toks+1 }:=I.oG (t':=s.toks+1) (fun c o hb e=>(hs.2 c (fun q=>hb (by simp[q]))).trans (a5 c o (fun q=>hb (by simp[q])) (fun q=>hb (by simp[q])) e)) hf;have ht:h''.get? s.heap.objs.size=some { cls:=.type "tuple",data:=.seq #[.int i s.toks,u] }:=(hs.2 _ lte).trans a3;have hn:H s.heap.objs.size=none:=I.cO.fresh (qAg _);have I2:Inv X pins σ (upd H s.heap.objs.size (.tup [.int (i:Int),x])) { s with heap:=h'',toks:=s.toks+1 }:=by
   refine I1.Hc hn (qIr I.sz) (qBg I.lt).symm (fun y c q=>?_) (fun p hp=>?_) (I.Iy (qAg _)) ⟨qE,[.int i s.toks,u],.cons ⟨_,rfl⟩ (.cons ru .nil),_,ht,rfl,_,rfl⟩
   .obtain⟨_,o,ho,_⟩:=I.cell y c q;exact lt c o ho
   .exact lt _ _ (I.pin p hp).1
  refine⟨.ref s.heap.objs.size,_,I2,rfl,⟨_,x,rfl,hn,rfl,fun xs' q=>?_⟩,⟨⟨u,?_⟩,a2.at fun o e=>(hs.2 _ hne.symm).trans e⟩,fun c hb=>?_⟩
  .rw[I.jL q q1];exact hx
  .rw[show((i+1:Nat):Int)=(i:Int)+1 by push_cast;rfl];exact b1
  .obtain⟨o,ho,_⟩:∃o,s.heap.get? c=some o/\True:=by
    simp only[qEd,qDe,or_false] at hb;rcases hb with rfl | rfl
    .exact⟨_,he,trivial⟩
    .obtain⟨o,ho,_⟩:=h1;exact⟨o,ho,trivial⟩
   rw[aR (lt c o ho)];exact(hf c hb).1
 done:=by
  intro X hP hw hK hc i pins s σ H E I hf st hg;subst hP hw hK;obtain⟨⟨old,he⟩,h1⟩:=st;obtain⟨xs,q1,hend⟩:=hg;obtain⟨its1,r1,p1,z1⟩:=I.list q1;have e1:=r1.length;exact wpAny_pyNext_enum_end (I.ok.hd hc) he h1 p1.isList (by simp;lia) fun h' k=>⟨rfl,I.oG (t':=s.toks) (fun c o hb e=>k c o (fun q=>hb (by simp[q])) e) hf⟩
 self:=fun _ _ _ _ _ ⟨⟨_,he⟩,_⟩ h=>wpAny_pyIter_enum he h
def Nr(K:qAd)(ta:TA):TI:=fun σ H R=>ta σ H fun vs H1=>∃l,vs=[.ref l]/\(∃xs,aS K H1 l xs)/\R (He K l) H1
theorem FI:qCq "enumerate"=some (.type "enumerate"):=by decide +kernel
theorem tD{X:Cx}{elts:List Expr}{x1}{tpos:Pos}{a:Expr}{ta:TA}{p pos:Pos}(hg:Gl X "enumerate")(hm:X.mg "enumerate"=none)(ha:PA X [a] ta)(hs:qBt [a] X.env=[(false,eval a X.env)]:=by rfl):
  PI X (.Tuple elts x1 tpos) (.Call (.Name "enumerate" p) [a] [] pos) (Nr X.K ta):=by
 intro pins s σ H R I h;refine qOg (fV I hg hm FI (qCg (cG (ha pos pins s σ H _ I h) fun us s1 z9=>?_) hs rfl));obtain⟨vs,H1,I1,r1,q1⟩:=z9;obtain⟨l,e,⟨xs,q1⟩,q⟩:=q1;subst e;obtain⟨u,rfl,ru⟩:=vals1 r1;cases (show u=Value.ref l from ru);obtain⟨its1,r1,p1,z1⟩:=I1.list q1;refine call_enumerate_list p1.isList fun h' hE hI hsz hk=>?_;refine wpAny_pyIter_enum hE ?_;have I2:Inv X pins σ H1 { s1 with heap:=h' }:=I1.kept (t':=s1.toks) hk;refine⟨_,[s1.heap.objs.size+1,s1.heap.objs.size],_,_,H1,rfl,I2,Bk (qOi _),⟨⟨_,hE⟩,hI⟩,fun c hc=>?_,q⟩;have hge:s1.heap.objs.size<=c:=by
  simp only[qEd,qDe,or_false] at hc;rcases hc with h | h
  all_goals first | (rw[h];exact qKg _ _) | exact qIl h.symm
 have:=I1.w8 (H':=H1) hge (I1.cO.fresh hge);exact this
theorem vC{K:qAd}{l:Addr}{xs:List V}{g:TG}{tb:TS}{D:Ends}{σ:St}{H:Hp}(Pv:Nat->St->Hp->Prop)(h0:Pv 0 σ H)(hl:∀i σ H,i<=xs.length->Pv i σ H->aS K H l xs)
  (hs:∀i x t σ H,xs[i]?=some x->H t=none->Pv i σ H->g (.ref t) σ (upd H t (.tup [.int (i:Int),x])) fun σ2 H2=>tb { D with nx:=Pv (i+1),ct:=Pv (i+1),bk:=D.nx } σ2 H2) (hd:∀σ H,Pv xs.length σ H->D.nx σ H) :
  ∃W:Nat->Nat->St->Hp->Prop,(∃m,W 0 m σ H)/\∀i m σ H,W i m σ H ->
   ((He K l).stop i H/\D.nx σ H)\/((He K l).go i H/\∃N:St->Hp->Prop,(∀σ' H',N σ' H'->∃m',m'<m/\W (i+1) m' σ' H')/\∀x H',(He K l).qF i H x H'->g x σ H' fun σ2 H2=>tb { D with nx:=N,ct:=N,bk:=D.nx } σ2 H2):=by
 exists fun i m σ H=>Pv i σ H/\i<=xs.length/\m=xs.length-i,⟨_,h0,qBn _,rfl⟩;rintro i m σ H ⟨hp,hi,rfl⟩;have q1:=hl i σ H hi hp;rcases qAm i xs.length with hlt | hge
 .right
  obtain⟨x,hx⟩:∃x,xs[i]?=some x:=⟨_,qAc hlt⟩;refine⟨⟨xs,x,q1,hx⟩,Pv (i+1),fun σ' H' h=>⟨_,qNf hlt (qGp _),h,hlt,rfl⟩,?_⟩;rintro v H' ⟨t,x',rfl,hn,rfl,e1⟩;have e1':=e1 xs q1;rw[hx] at e1';cases e1';exact hs i x t σ H hx hn hp
 .left
  obtain rfl:i=xs.length:=qDc hi hge;exact⟨⟨xs,q1,qAg _⟩,hd σ H hp⟩
section
variable {K:qAd}{a a':Addr}{xs ys:List V}{σ0:St}{H1:Hp}{g:TG}{c:TT}{te:TE}{Q:Addr->Hp->Prop}
theorem xV(Ag:St->Prop)(f:Nat->V->Option V)(h0:Ag σ0)(hq:aS K H1 a xs)(hn:xs.length<=qAi)
  (step:∀(i:Nat) (x:V) (t:Addr) (σ1:St) (H2:Hp) (k:St->VK) (k0:St->Hp->Prop),Ag σ1->aH H1 H2->xs[i]?=some x->H2 t=some (.tup [.int (i:Int),x])->(∀σ2 y,Ag σ2->f i x=some y->∀H3,aH H2 H3->k σ2 y H3)->(∀σ2,Ag σ2->f i x=none->∀H3,aH H2 H3->k0 σ2 H3) ->
   g (.ref t) σ1 H2 fun σ2 H3=>c σ2 H3 fun b H4=>if b=true then te σ2 H4 (k σ2) else k0 σ2 H4)
  (h:∀D H2,H1 D=none->aH H1 H2->H2 D=some (.lst ((qAk xs.length).filterMap fun i=>(xs[i]?).bind (f i)))->Q D H2) :
  ∀D,H1 D=none->∃W:Nat->Nat->St->Hp->Prop,(∃m,W 0 m σ0 (upd H1 D (.lst [])))/\∀i m σ1 H2,W i m σ1 H2 ->
   ((He K a).stop i H2/\Q D H2)\/((He K a).go i H2/\∃N:St->Hp->Prop,(∀σ' H',N σ' H'->∃m',m'<m/\W (i+1) m' σ' H') /\
    ∀x H',(He K a).qF i H2 x H'->g x σ1 H' fun σ2 H3=>c σ2 H3 fun b H4=>if b=true then te σ2 H4 fun y H5=>∃xs,H5 D=some (.lst xs)/\xs.length<qAi/\N σ2 (upd H5 D (.lst (xs++[y]))) else N σ2 H4):=by
 intro D hD;exists fun i m σ1 H2=>Ag σ1/\aH H1 H2/\H2 D=some (.lst ((qAk i).filterMap fun i=>(xs[i]?).bind (f i)))/\i<=xs.length/\m=xs.length-i,⟨xs.length,h0,.aG hD,aD,qBn _,rfl⟩;rintro i m σ1 H2 ⟨hσ,hs,hd,hi,rfl⟩;rcases qAm i xs.length with hlt | hge
 .right
  refine⟨⟨xs,xs[i],hs.seq hq,by simp[hlt]⟩,fun σ' H'=>Ag σ'/\aH H1 H'/\H' D=some (.lst ((qAk (i+1)).filterMap fun i=>(xs[i]?).bind (f i))),(by rintro σ' H' ⟨a,b,c⟩;exact ⟨xs.length-(i+1),by lia,a,b,c,hlt,rfl⟩),?_⟩;rintro v H' ⟨t,x,rfl,ht,rfl,hx⟩;have hx:=hx xs (hs.seq hq);have hst:aH H1 (upd H2 t (.tup [.int (i:Int),x])):=hs.trans (.aG ht);have hdt:=aH.aG (o:=.tup [.int (i:Int),x]) ht _ _ hd;refine step i x t σ1 _ (fun σ2 y H5=>∃xs,H5 D=some (.lst xs)/\xs.length<qAi/\_) _ hσ hst hx aD (fun σ2 y a2 hy H3 hs3=>⟨_,hs3 _ _ hdt,?_,a2,?_,?_⟩) fun σ2 a2 hno H3 hs3=>⟨a2,hst.trans hs3,?_⟩
  .refine qBp (qEz _ _) ?_;rw[qAu];lia
  .exact(hst.trans hs3).upd_ne' hD
  .rw[aD,qBm,qBx];simp[hx,hy]
  .rw[hs3 _ _ hdt,qBm,qBx];simp[hx,hno]
 .left
  obtain rfl:i=xs.length:=qDc hi hge;exact⟨⟨xs,hs.seq hq,qAg _⟩,h D _ hD hs hd⟩
theorem j5(Ag:St->Prop)(f:Nat->V->V->Option V)(h0:Ag σ0)(hq:aS K H1 a xs)(hq':aS K H1 a' ys)(hlen:xs.length=ys.length)(hn:xs.length<=qAi)
  (step:∀(i:Nat) (x y:V) (t:Addr) (σ1:St) (H2:Hp) (k:St->VK) (k0:St->Hp->Prop),Ag σ1->aH H1 H2->xs[i]?=some x->ys[i]?=some y->H2 t=some (.tup [x,y])->(∀σ2 z,Ag σ2->f i x y=some z->∀H3,aH H2 H3->k σ2 z H3)->(∀σ2,Ag σ2->f i x y=none->∀H3,aH H2 H3->k0 σ2 H3) ->
   g (.ref t) σ1 H2 fun σ2 H3=>c σ2 H3 fun b H4=>if b=true then te σ2 H4 (k σ2) else k0 σ2 H4)
  (h:∀D H2,H1 D=none->aH H1 H2->H2 D=some (.lst ((qAk xs.length).filterMap fun i=>(xs[i]?).bind fun x=>(ys[i]?).bind (f i x)))->Q D H2) :
  ∀D,H1 D=none->∃W:Nat->Nat->St->Hp->Prop,(∃m,W 0 m σ0 (upd H1 D (.lst [])))/\∀i m σ1 H2,W i m σ1 H2 ->
   ((zO K a a').stop i H2/\Q D H2)\/((zO K a a').go i H2/\∃N:St->Hp->Prop,(∀σ' H',N σ' H'->∃m',m'<m/\W (i+1) m' σ' H') /\
    ∀x H',(zO K a a').qF i H2 x H'->g x σ1 H' fun σ2 H3=>c σ2 H3 fun b H4=>if b=true then te σ2 H4 fun y H5=>∃xs,H5 D=some (.lst xs)/\xs.length<qAi/\N σ2 (upd H5 D (.lst (xs++[y]))) else N σ2 H4):=by
 intro D hD;exists fun i m σ1 H2=>Ag σ1/\aH H1 H2/\H2 D=some (.lst ((qAk i).filterMap fun i=>(xs[i]?).bind fun x=>(ys[i]?).bind (f i x)))/\i<=xs.length/\m=xs.length-i,⟨xs.length,h0,.aG hD,aD,qBn _,rfl⟩;rintro i m σ1 H2 ⟨hσ,hs,hd,hi,rfl⟩;rcases qAm i xs.length with hlt | hge
 .right
  have hlt':i<ys.length:=hlen▸hlt;refine⟨⟨xs,ys,xs[i],ys[i],hs.seq hq,hs.seq hq',by simp[hlt],by simp[hlt']⟩,fun σ' H'=>Ag σ'/\aH H1 H'/\H' D=some (.lst ((qAk (i+1)).filterMap fun i=>(xs[i]?).bind fun x=>(ys[i]?).bind (f i x))),(by rintro σ' H' ⟨a,b,c⟩;exact ⟨xs.length-(i+1),by lia,a,b,c,hlt,rfl⟩),?_⟩;rintro v H' ⟨t,x,y,rfl,ht,rfl,hx,hy⟩;have hx:=hx xs (hs.seq hq);have hy:=hy ys (hs.seq hq');have hst:aH H1 (upd H2 t (.tup [x,y])):=hs.trans (.aG ht);have hdt:=aH.aG (o:=.tup [x,y]) ht _ _ hd;refine step i x y t σ1 _ (fun σ2 y H5=>∃xs,H5 D=some (.lst xs)/\xs.length<qAi/\_) _ hσ hst hx hy aD (fun σ2 z a2 hz H3 hs3=>⟨_,hs3 _ _ hdt,?_,a2,?_,?_⟩) fun σ2 a2 hno H3 hs3=>⟨a2,hst.trans hs3,?_⟩
  .refine qBp (qEz _ _) ?_;rw[qAu];lia
  .exact(hst.trans hs3).upd_ne' hD
  .rw[aD,qBm,qBx];simp[hx,hy,hz]
  .rw[hs3 _ _ hdt,qBm,qBx];simp[hx,hy,hno]
 .left
  obtain rfl:i=xs.length:=qDc hi hge;exact⟨⟨xs,ys,hs.seq hq,hs.seq hq',.inl (qAg _)⟩,h D _ hD hs hd⟩
end
section
variable {X:Cx}
theorem CP(K:qAd){tg l:Expr}{tl:TE}(hl:PE X l tl)(h:X.K=K:=by rfl):PI X tg l (GW K tl):=by
 subst h;exact bL hl
end
section
variable {K:qAd}{a:Addr}{xs:List V}{lo:Int}{n:Nat}{σ0:St}{H1:Hp}{i0:Nat}{c:TT}{te:TE}{Q:Addr->Hp->Prop}
def lO(H H':Hp):Prop:=∀b xs,H b=some (.tup xs)->H' b=some (.tup xs)
theorem aH.t(s:aH H H'):lO H H':=fun _ _ e=>s _ _ e
theorem lO.lst(h:H D=some (.lst ys)):lO H (upd H D o):=fun b xs e=>by
 rw[aR fun q=>by subst q;rw[h] at e;cases e];exact e
end
theorem lP:∀{xs:List V}{us:List qAl},xs.length=us.length->(∀(i:Nat) (x:V) (u:qAl),xs[i]?=some x->us[i]?=some u->RelV x u)->Vals xs us
 | [],[],_,_=>.nil
 | [],_::_,h,_=>by cases h
 | _::_,[],h,_=>by cases h
 | x::xs,u::us,h,a=>.cons (a 0 x u rfl rfl) (lP (by simpa using h) fun i x u e1 e2=>a (i+1) x u e1 e2)
theorem lQ:∀{us:List qAl}{ns:List Int},qHz us ns->Vals (ns.map V.int) us
 | _,_,.nil=>.nil
 | _,_,.cons n t r=>.cons ⟨t,rfl⟩ (lQ r)
section
variable {X:Cx}
theorem xW:qCq "sorted"=some (.builtin "sorted"):=by decide +kernel
end
section
variable {X:Cx}
mutual
inductive iG (K:qAd) (H:Hp):V->qGo->Prop
 | int (i:Int):iG K H (.int i) (.int i)
 | non:iG K H .non .none
 | bl (b:Bool):iG K H (.bl b) (.bool b)
 | str (x:Str):PyData.strOk x=true->iG K H (.str x) (.str x)
 | lst {p:Addr}{xs:List V}{ds:List qGo}:aS K H p xs->cJ K H xs ds->iG K H (.ref p) (.list ds)
 | tup {p:Addr}{xs:List V}{ds:List qGo}:cE K H p xs->cJ K H xs ds->iG K H (.ref p) (.tuple ds)
inductive cJ (K:qAd) (H:Hp):List V->List qGo->Prop
 | nil:cJ K H [] []
 | cons {x:V}{d:qGo}{xs:List V}{ds:List qGo}:iG K H x d->cJ K H xs ds->cJ K H (x::xs) (d::ds)
end
mutual
theorem iG.reads(I:Inv X pins σ H s):∀{v:V}{d:qGo}{u:qAl},iG X.K H v d->RelV v u->∃as,Reads s.heap u d as
 | _,_,u,.int i,r=>by obtain⟨t,rfl⟩:=(show ∃t,u=Value.int i t from r);exact⟨_,.int i t⟩
 | _,_,u,.non,r=>by obtain rfl:u=Value.none:=r;exact⟨_,.none⟩
 | _,_,u,.bl b,r=>by obtain rfl:u=Value.bool b:=r;exact⟨_,.bool b⟩
 | _,_,u,.str x _,r=>by obtain⟨t,rfl⟩:=(show ∃t,u=Value.str x t from r);exact⟨_,.str x t⟩
 | _,_,u,.lst (p:=p) hq ha,r=>by
  obtain rfl:u = .ref p:=r;obtain⟨its,r',pl,hz⟩:=I.list hq;obtain⟨o,ho,hc,n,hd⟩:=pl.isList;obtain⟨as,z⟩:=cJ.reads I ha r';exact⟨_,.list ho hc hd (by simpa using z)⟩
 | _,_,u,.tup (p:=p) hq ha,r=>by
  obtain rfl:u = .ref p:=r;obtain⟨its,r',pl,hz⟩:=I.tuple hq;obtain⟨o,ho,hc,n,hd⟩:=pl;obtain⟨as,z⟩:=cJ.reads I ha r';exact⟨_,.tuple ho hc hd (by simpa using z)⟩
theorem cJ.reads(I:Inv X pins σ H s):∀{vs:List V}{ds:List qGo}{us:List qAl},cJ X.K H vs ds->Vals vs us->∃as,ReadsAll s.heap us ds as
 | _,_,_,.nil,.nil=>⟨_,.nil⟩
 | _,_,_,.cons h t,.cons r rs=>by
  obtain⟨a1,z1⟩:=iG.reads I h r;obtain⟨a2,z2⟩:=cJ.reads I t rs;exact⟨_,.cons z1 z2⟩
end
mutual
theorem iG.lay{K:qAd}{H:Hp}:∀{v:V}{d:qGo},iG K H v d->d.canLay0=true/\PyData.eqv d d=true
 | _,_,.int i=>⟨rfl,by simp[PyData.eqv]⟩
 | _,_,.non=>⟨rfl,by simp[PyData.eqv]⟩
 | _,_,.bl b=>⟨rfl,by simp[PyData.eqv]⟩
 | _,_,.str x h=>⟨h,by simp[PyData.eqv]⟩
 | _,_,.lst _ h=>by
  obtain⟨a,b⟩:=cJ.lay h;exact⟨by simpa [PyData.canLay0] using a,by simpa [PyData.eqv] using b⟩
 | _,_,.tup _ h=>by
  obtain⟨a,b⟩:=cJ.lay h;exact⟨by simpa [PyData.canLay0] using a,by simpa [PyData.eqv] using b⟩
theorem cJ.lay{K:qAd}{H:Hp}:∀{vs:List V}{ds:List qGo},cJ K H vs ds->PyData.canLayAll0 ds=true/\PyData.eqvAll ds ds=true
 | _,_,.nil=>⟨rfl,rfl⟩
 | _,_,.cons h t=>by
  obtain⟨a,b⟩:=iG.lay h;obtain⟨c,d⟩:=cJ.lay t;exact⟨by simp[PyData.canLayAll0,a,c],by simp[PyData.eqvAll,b,d]⟩
end
end
section
variable {X:Cx}
variable {o e:Expr}{es:List Expr}{to:TE}{t:TA}{name:Str}{apos cpos:Pos}{T id:String}{r:V->List V->Hp->VK->Prop}
theorem Jm(K:qAd)(hK:X.K=K)(pa:PlainAttrs T)(slot:Slot T name id)(hty:qPe (.builtin id)=pure (.type "method_descriptor"))(hm:Fv X id r)(ho:PE X o to)(ha:PA X (e::es) t)
  (hbase:qGg o name X.env (eval o X.env)=eval o X.env:=by rfl)
  (hfew:((qHf cpos (qBt (e::es) X.env)).all (fun x=>!x.1)&&(backToKw cpos (keywordEach [] X.env)).all (fun x=>x.1.isSome)
   && decide ((e::es).length+([]:List qOx).length+(if ([]:List qOx).isEmpty then 0 else 1)<30))=true:=by rfl)
  (hline:(apos.endLine == cpos.line)=true:=by rfl) (hs:qBt (e::es) X.env=(false,eval e X.env)::qBt es X.env:=by rfl) (hplain:(qHf cpos (qBt es X.env)).any (·.1)=false:=by rfl) :
  PE X (.Call (.Attribute o name apos) (e::es) [] cpos) (Qm K T r to t):=by
 subst hK;exact lK pa slot hty hm ho ha hbase hfew hline hs hplain
end
section
variable {κ:Type} [DecidableEq κ]
noncomputable def nZ(kvs:List (κ×V))(k:κ):Option V:=(kvs.find? fun kv=>decide (kv.1=k)).map (·.2)
noncomputable def putK(kvs:List (κ×V))(k:κ)(v:V):List (κ×V) :=
 if (kvs.any fun kv=>decide (kv.1=k))=true then kvs.map (fun kv=>if kv.1=k then (kv.1,v) else kv) else kvs++[(k,v)]
theorem pC{p:κ×V}{r:List (κ×V)}{k:κ}(e:p.1=k):nZ (p::r) k=some p.2:=by simp[nZ,qFg,e]
theorem pD{p:κ×V}{r:List (κ×V)}{k:κ}(e:¬p.1=k):nZ (p::r) k=nZ r k:=by simp[nZ,qFg,e]
theorem vD(k:κ):∀kvs:List (κ×V),(kvs.any fun kv=>decide (kv.1=k))=(nZ kvs k).isSome
 | []=>rfl
 | p::r=>by
  rw[qHw];by_cases e:p.1=k
  .simp only[pC e,decide_eq_true e,Bool.true_or,qMh]
  .rw[pD e,decide_eq_false e,Bool.false_or];exact vD k r
theorem nQ(kvs:List (κ×V))(k:κ)(v:V):(putK kvs k v).length<=kvs.length+1:=by
 delta putK;split
 .rw[qAa];lia
 .rw[qAj,qBq,qKu];lia
theorem kF.Bl(r:kF o u):o.isSome=u.isSome:=by
 cases o with
 | none=>cases u with
  | none=>rfl
  | some _=>exact(show False from r).elim
 | some _=>cases u with
  | none=>exact(show False from r).elim
  | some _=>rfl
theorem KV.val{kvs:List (κ×V)}{vs:List (κ×qAl)}(r:KV kvs vs)(k:κ):kF (nZ kvs k) (qLt vs k):=by
 delta KV at r;induction r with
 | nil=>exact True.intro
 | @cons p q ps qs h t ih =>
  obtain⟨h1,h2⟩:=h;by_cases e:p.1=k
  .have e':q.1=k:=h1.symm.trans e;have b:qLt (q::qs) k=some q.2:=by simp[qLt,qFg,e']
   rw[pC e,b];exact h2
  .have e':¬q.1=k:=fun z=>e (h1.trans z);have b:qLt (q::qs) k=qLt qs k:=by simp[qLt,qFg,e']
   rw[pD e,b];exact ih
theorem KV.any(r:KV kvs vs)(k:κ):(kvs.any fun kv=>decide (kv.1=k))=vs.any fun kv=>decide (kv.1=k):=by
 delta KV at r;induction r with
 | nil=>rfl
 | cons h t ih=>rw[qHw,qHw,ih,h.1]
theorem KV.Jn(r:KV kvs vs)(k:κ){y:V}{u:qAl}(ry:RelV y u):
  KV (kvs.map fun kv=>if kv.1=k then (kv.1,y) else kv) (vs.map fun kv=>if kv.1=k then (kv.1,u) else kv):=by
 delta KV at r|-;induction r with
 | nil=>exact .nil
 | @cons p q ps qs h t ih =>
  rw[qCz,qCz];refine .cons ?_ ih;obtain⟨h1,h2⟩:=h;by_cases e:p.1=k
  .rw[if_pos e,if_pos (h1.symm.trans e)];exact⟨h1,ry⟩
  .rw[if_neg e,if_neg (fun z=>e (h1.trans z))];exact⟨h1,h2⟩
theorem KV.put(r:KV kvs vs)(k:κ){y:V}{u:qAl}(ry:RelV y u):KV (putK kvs k y) (stored vs k u):=by
 delta putK stored;rw[r.any k];by_cases e:(vs.any fun kv=>decide (kv.1=k))=true
 .rw[if_pos e,if_pos e];exact r.Jn k ry
 .rw[if_neg e,if_neg e];exact Paired.snoc r ⟨rfl,ry⟩
theorem KV.length(r:KV kvs vs):kvs.length=vs.length:=Paired.length r
end
theorem CQ(r:RelV (kV k) u):(cD P w).is k u=true:=by
 cases k with
 | inl i=>obtain⟨t,e⟩:=(show ∃t,u=Value.int i t from r);subst e;exact uJ P w i t
 | inr x=>obtain⟨t,e⟩:=(show ∃t,u=Value.str x t from r);subst e;exact uK P w x t
theorem qZ:∀{ks:List Key}{us:List qAl},Vals (ks.map kV) us->ItemsAre (cD P w) ks us
 | [],_,r=>by rw[qEv] at r;cases r;exact .nil
 | k::ks,_,r=>by
  rw[qCz] at r;cases r with
  | cons h t=>exact .cons (CQ h) (qZ t)
abbrev KT(H:Hp):List (List Key×V)->List (List Key×Addr×qAl)->Prop:=Paired fun p q=>p.1=q.1/\H q.2.1=some (.tup (p.1.map kV))/\RelV p.2 q.2.2
theorem KT.val{H:Hp}{kvs:List (List Key×V)}{xs:List (List Key×Addr×qAl)}(r:KT H kvs xs)(k:List Key):kF (nZ kvs k) ((qOw xs k).map (·.2)):=by
 induction r with
 | nil=>exact True.intro
 | @cons p q ps qs h t ih =>
  obtain⟨h1,_,h2⟩:=h;by_cases e:p.1=k
  .have e':q.1=k:=h1.symm.trans e;have b:qOw (q::qs) k=some q.2:=by simp[qOw,qFg,e']
   rw[pC e,b];exact h2
  .have e':¬q.1=k:=fun z=>e (h1.trans z);have b:qOw (q::qs) k=qOw qs k:=by simp[qOw,qFg,e']
   rw[pD e,b];exact ih
theorem KT.Jn(r:KT H kvs xs)(k:List Key){y:V}{u:qAl}(ry:RelV y u):
  KT H (kvs.map fun kv=>if kv.1=k then (kv.1,y) else kv) (xs.map (putAt k u)):=by
 induction r with
 | nil=>exact .nil
 | @cons p q ps qs h t ih =>
  rw[qCz,qCz];refine .cons ?_ ih;obtain⟨h1,h2,h3⟩:=h;delta putAt;by_cases e:p.1=k
  .rw[if_pos e,if_pos (h1.symm.trans e)];exact⟨h1,h2,ry⟩
  .rw[if_neg e,if_neg (fun z=>e (h1.trans z))];exact⟨h1,h2,h3⟩
theorem KT.put(r:KT H kvs xs)(k:List Key){b:Addr}{y:V}{u:qAl}(hb:H b=some (.tup (k.map kV)))(ry:RelV y u):
  KT H (putK kvs k y) (storedH xs k b u):=by
 have e:(kvs.any fun kv=>decide (kv.1=k))=(qOw xs k).isSome:=by
  rw[vD,(r.val k).Bl,Option.isSome_map]
 delta putK storedH;rw[e];by_cases q:(qOw xs k).isSome=true
 .rw[if_pos q,if_pos q];exact r.Jn k ry
 .rw[if_neg q,if_neg q];exact Paired.snoc r ⟨rfl,hb,ry⟩
theorem KT.keeps(r:KT H kvs xs)(ht:∀b ys,H b=some (.tup ys)->H' b=some (.tup ys)):KT H' kvs xs :=
 Paired.Ir r fun _ _ z=>⟨z.1,ht _ _ z.2.1,z.2.2⟩
section
variable {P:qBy}{w:qDg}{H:Hp}{h:Heap}{a:Addr}
theorem Hf(ok:kK P w H h)(e:Rd H a u):cU P w H h a u:=e.ok ok
theorem rA(ok:kK P w H h)(e:Rd H a (.dK kvs)):kvs.length<=qAi/\(a == qFp)=false/\∃vs,KV kvs vs/\h.DictOf (cD P w) a vs :=
 show cU P w H h a (.dK kvs) from Hf ok e
theorem CS(ok:kK P w H h)(e:H a=some (.dK kvs)):kvs.length<=qAi/\(a == qFp)=false/\∃vs,KV kvs vs/\h.DictOf (cD P w) a vs:=rA ok (.inl e)
theorem xX(ok:kK P w H h)(e:H a=some (.tup (ks.map kV))):(qLu (cD P w)).is h ks a:=by
 obtain⟨_,its,r,o,h1,h2,n,h3⟩:=(show cU P w H h a (.tup (ks.map kV)) from ok a _ e);exact⟨o,its.toArray,n,h1,h2,h3,by simpa using qZ r⟩
theorem CT(ok:kK P w H h)(e:Rd H a (.dT kvs)):kvs.length<=qAi/\(a == qFp)=false /\
  ∃xs,KT H kvs xs/\h.DictOfH (qLu (cD P w)) a xs:=by
 obtain⟨z,y,xs,r,o,es,ep,h1,h2,h3,h4,h5⟩:=(show cU P w H h a (.dT kvs) from Hf ok e);refine⟨z,y,xs,r,o,es,ep,h1,h2,h3,h4,fun x hx=>?_,h5⟩;have all:∀{l:List (List Key×V)}{m:List (List Key×Addr×qAl)},KT H l m->∀x∈m,(qLu (cD P w)).is h x.1 x.2.1:=by
  intro l m q;induction q with
  | nil=>intro x hx;exact nomatch hx
  | @cons p q ps qs hq t ih =>
   intro x hx;rcases List.mem_cons.mp hx with e | hx
   .subst e;exact xX ok (by rw[<- hq.1];exact hq.2.1)
   .exact ih x hx
 exact all r x hx
theorem Nt(ok:kK P w H h)(e:H a=some (.dT kvs)):kvs.length<=qAi/\(a == qFp)=false /\
  ∃xs,KT H kvs xs/\h.DictOfH (qLu (cD P w)) a xs:=CT ok (.inl e)
end
def Jo(H:Hp)(a:Addr)(y:V)(r:Option V):Prop :=
 (∃kvs k,Rd H a (.dK kvs)/\y=kV k/\r=nZ kvs k)\/∃kvs k b,Rd H a (.dT kvs)/\y = .ref b/\H b=some (.tup (k.map kV))/\r=nZ kvs k
def Nu(H:Hp)(a:Addr)(y v:V)(H':Hp):Prop :=
 (∃kvs k,H a=some (.dK kvs)/\y=kV k/\kvs.length<qAi/\H'=upd H a (.dK (putK kvs k v))) \/
 ∃kvs k b,H a=some (.dT kvs)/\y = .ref b/\H b=some (.tup (k.map kV))/\kvs.length<qAi/\H'=upd H a (.dT (putK kvs k v))
section
variable {X:Cx}{pins:List (Addr×Obj)}{σ:St}{H:Hp}{s:qAp}{a:Addr}{y v:V}{u r:qAl}{o:Option V}{A:qDl}{E:qAl->qAp->Prop}
theorem Bm(hu:A.units+1<qMr)(I:Inv X pins σ H s)(g:Jo H a y (some v))(ry:RelV y u)(h:∀w' s',Inv X pins σ H s'->RelV v w'->Q w' s'):
  qBj (qBz X.prog X.w) A (qIp (.ref a) u) Q E s:=by
 rcases g with ⟨kvs,k,e,ey,l⟩ | ⟨kvs,k,b,e,ey,eb,l⟩
 .subst ey;obtain⟨z,hd,vs,rel,dd⟩:=rA I.cO e;obtain⟨w',hw,rw'⟩:=kF.some_of (v:=v) (o:=qLt vs k) (by rw[l];exact rel.val k);exact wpAny_getItem_of (CQ ry) dd.mapOf hw (h w' _ (I.tok _) rw')
 .subst ey;cases (show u=Value.ref b from ry);obtain⟨z,hd,xs,rel,dd⟩:=CT I.cO e;obtain⟨w',hw,rw'⟩:=kF.some_of (v:=v) (o:=(qOw xs k).map (·.2)) (by rw[l];exact rel.val k);obtain⟨p,hp,hp2⟩:=Option.map_eq_some_iff.mp hw;refine wpAny_getItem_heap (tupleKind_room_in1 hu) (xX I.cO eb) dd hp ?_;rw[hp2];exact h w' _ (I.tok _) rw'
theorem tE(I:Inv X pins σ H s)(mu:MJ (H a))(hs:qFh a s.heap h')(he:∃q,h'.get? a=some q)(new:cU X.prog X.w (upd H a ob) h' a ob):
  Inv X pins σ (upd H a ob) { s with heap:=h',toks:=t' } :=
 I.write (x:=a) (e:=a) mu (.inl rfl) (fun b q hb z=>(hs.2 b hb).trans z) he new
theorem CU(z:kvs.length<=qAi)(hd:(a == qFp)=false)(rel:KV kvs vs)(dd:h'.DictOf (cD P w) a vs):
  cU P w H' h' a (.dK kvs):=⟨z,hd,vs,rel,dd⟩
theorem Bn(hu:A.units+1<qMr)(I:Inv X pins σ H s)(g:Nu H a y v H')(ry:RelV y u)(rv:RelV v r)(h:∀s',Inv X pins σ H' s'->Q () s'):
  qBj (qBz X.prog X.w) A (setItem (.ref a) u r) Q E s:=by
 rcases g with ⟨kvs,k,e,ey,l,eH⟩ | ⟨kvs,k,b,e,ey,eb,l,eH⟩
 .subst ey eH;obtain⟨z,hd,vs,rel,dd⟩:=CS I.cO e;have hz:vs.length<=qAi:=by rw[<- rel.length];exact z
  have hl:(putK kvs k v).length<=qAi:=by have:=nQ kvs k v;lia
  refine wpAny_setItem_pairs (hsz:=hz) (CQ ry) dd fun h' dd' hs=>h _ ?_;have he:∃q,h'.get? a=some q:=let ⟨q,_,_,hq,_⟩:=dd';⟨q,hq⟩;exact tE I (by rw[e];exact True.intro) hs he (CU hl hd (rel.put k rv) dd')
 .subst ey eH;cases (show u=Value.ref b from ry);obtain⟨z,hd,xs,rel,dd⟩:=Nt I.cO e;have hz:xs.length<=qAi:=by rw[<- Paired.length rel];exact z
  have hl:(putK kvs k v).length<=qAi:=by have:=nQ kvs k v;lia
  refine wpAny_setItem_heap (hsz:=hz) (tupleKind_room_in1 hu) (xX I.cO eb) dd fun h' dd' hs=>h _ ?_;obtain⟨q,es,ep,hq,h2,h3,h4,_,h5⟩:=dd';refine tE I (by rw[e];exact True.intro) hs ⟨q,hq⟩ ⟨hl,hd,_,(rel.put k eb rv).keeps fun c ys ec=>?_,q,es,ep,hq,h2,h3,h4,h5⟩;rw[aR (kJ ec e (fun z=>nomatch z))];exact ec
end
def Nv(i:Expr):Prop:=∀ov iv,qLv i false ov iv=operate [ov,iv] (qIp ov iv)
theorem FJ{prog:qBy}{w:qDg}{A:qDl}{E:qAl->qAp->Prop}{s:qAp}{env:Env}{value slice:Expr}{pos:Pos}{T id:String}{Q:qAl->qAp->Prop}
  (hl:qMy (.type T) "__getitem__"=pure (some (.builtin id))) (hs:Nv slice)
  (h:qBj (qBz prog w) A (eval value env) (fun o s₁=>qBj (qBz prog w) A (eval slice env) (fun i s₂=>s₂.TypeIs o T/\qBj (qBz prog w) A (qIp o i) Q E s₂) E s₁) E s) :
  qBj (qBz prog w) A (eval (.Subscript value slice pos) env) Q E s:=by
 refine Subscript_ (qHl h (fun o s₁ h₁=>qHl h₁ (fun i s₂ h₂=>?_) fun _ _ x=>x) fun _ _ x=>x);obtain⟨hT,h₂⟩:=h₂;delta subscriptTail;refine qAb ?_;rw[getitemInPython_of_ne hT.not_modules];refine qAb (wpAny_specialOf hT hl ?_);have fin:qBj (qBz prog w) A (qLv slice false o i) (fun r s₃=>qBj (qBz prog w) A (letTemporaryGo value o r >>= fun _=>pure r) Q E s₃) E s₂:=by
  rw[hs o i];exact wpAny_operating (qHl h₂ (fun r s₃ h₃=>qAb (wpAny_letTemporaryGo (qAe h₃))) fun _ _ x=>x)
 first
  | exact qAe (qAb fin)
  | exact qAb (qAe (qAb fin))
  | exact qAb fin
theorem vE(I:Inv X pins σ H s)(g:Jo H a y o):s.TypeIs (.ref a) "dict":=by
 rcases g with ⟨kvs,k,e,_,_⟩ | ⟨kvs,k,b,e,_,_,_⟩
 .obtain⟨_,_,vs,_,dd⟩:=rA I.cO e;exact dd.typeIs
 .obtain⟨_,_,xs,_,dd⟩:=CT I.cO e;exact dd.typeIs
def Nw(td ty:TE):TE:=fun σ H Q=>td σ H fun x H1=>ty σ H1 fun y H2=>∃a v,x = .ref a/\Jo H2 a y (some v)/\Q v H2
def Nx(td ty tv:TE):TS:=fun D σ H=>tv σ H fun v H1=>td σ H1 fun x H2=>ty σ H2 fun y H3=>∃a H4,x = .ref a/\Nu H3 a y v H4/\D.nx σ H4
section
variable {X:Cx}{o i e value:Expr}{pos pos' tpos:Pos}{td ty tv:TE}
theorem FK(hu:X.A.units+1<qMr)(ho:PE X o td)(hi:PE X i ty)(hs:Nv i):PE X (.Subscript o i pos) (Nw td ty):=by
 intro pins s σ H Q I h;refine FJ PySem.F.slot_dict_getitem.lookup hs (cG (ho pins s σ H _ I h) fun u s1 ⟨x,H1,I1,rx,q1⟩=>cG (hi pins s1 σ H1 _ I1 q1) fun iv s2 z9=>?_);obtain⟨y,H2,I2,ry,a,v,ex,g,q2⟩:=z9;subst ex;obtain rfl:u=Value.ref a:=rx;exact⟨vE I2 g,Bm hu I2 g ry fun w' s3 I3 rw'=>⟨v,H2,I3,rw',q2⟩⟩
theorem zR(hu:X.A.units+1<qMr)(ho:PE X o td)(hi:PE X i ty)(hv:PE X value tv)(hs:qKk value (some (.Subscript o i pos')) pos.line X.env=pure false):
  PS X (.Assign [.Subscript o i pos'] value pos) (Nx td ty tv):=by
 intro pins s σ H D I h;refine wpAny_Assign_Subscript (cG (hv pins s σ H _ I h) fun r s1 ⟨v,H1,I1,rv,q1⟩=>cG (ho pins s1 σ H1 _ I1 q1) fun u s2 ⟨x,H2,I2,rx,q2⟩=>cG (hi pins s2 σ H2 _ I2 q2) fun iv s3 z9=>?_) hs;obtain⟨y,H3,I3,ry,a,H4,ex,g,q3⟩:=z9;subst ex;obtain rfl:u=Value.ref a:=rx;exact Bn hu I3 g ry rv fun s4 I4=>⟨σ,H4,I4,q3⟩
end
end L2
namespace L2
open PySem PySem.Spec PyProof.Rows PySem.W
section
variable {X:Cx}{a b c d:Expr}{ta tb tc td:TE}{pos:Pos}
theorem FL:Fv X "list.pop" Ni:=IV
theorem Bo:Fv X "list.clear" Ct:=Cu
end
noncomputable def kI(X:Cx)(NB:List Str)(sc:qJv)(cl:List (Str×Addr))(y0:Str)(s₃:qAp)(H₃:Hp)(fp:List Addr):Cx :=
 { X with N:=NB,s₀:=s₃,H₀:=H₃,env:=compEnvC sc ((y0,s₃.heap.objs.size+1)::cl) s₃.heap.objs.size X.env,outer:=X.stack,stack:=X.stack,ex:=fp,fn:=fun y=>y == y0,pn:=[],xe:=fun _ _=>False }
structure Bp (X:Cx) (NB:List Str) (pick:List (Option Nat)) (sc:qJv) (cl:List (Str×Addr)) (y0:Str):Prop where
 xR:qNb sc X.env=pure cl
 kind:sc.kind = .function
 Jp:∀n,qKo n sc.names cl=(y0,n)::cl
 Ny:∀h:Heap,pushCells h sc.names=h.push { cls:=.type "cell",data:=.cell none }
 names:∀y∈sc.names,y.2 = .local->sc.names.lookup y.1=some .local
 sub:nN X.env.cells cl
 has:∀n x,((qJb sc X.env).names.lookup x=some .cell\/(qJb sc X.env).names.lookup x=some .free)->∃c,((y0,n)::cl).lookup x=some c
 len:pick.length=NB.length
 got:∀(j i:Nat) (x:Str),pick[j]?=some (some i)->NB[j]?=some x->(X.N[i]?=some x/\(X.env.kindOf x=some .cell\/X.env.kindOf x=some .free)/\(qJb sc X.env).names.lookup x=some .cell)/\(x == y0)=false
noncomputable def mY(y0:Str):List (Option Nat)->List Str->Bool
 | some _::p,x::r=>!(x == y0)&&mY y0 p r
 | none::p,_::r=>mY y0 p r
 | _,_=>true
theorem mZ:∀{p:List (Option Nat)}{r:List Str},mY y0 p r=true->∀(j i:Nat) (x:Str),p[j]?=some (some i)->r[j]?=some x->(x == y0)=false
 | [],_,_,j,i,x,h,_=>by simp at h
 | _::_,[],_,j,i,x,_,h=>by simp at h
 | some k::p,y::r,h,0,i,x,h1,h2=>by
  have z:(!(y == y0)&&mY y0 p r)=true:=h;rw[qCd] at z;obtain rfl:y=x:=Option.some.inj h2;simpa using z.1
 | none::p,y::r,h,0,i,x,h1,h2=>by cases (Option.some.inj h1)
 | some k::p,y::r,h,j+1,i,x,h1,h2=>by
  have z:(!(y == y0)&&mY y0 p r)=true:=h;rw[qCd] at z;exact mZ z.2 j i x h1 h2
 | none::p,y::r,h,j+1,i,x,h1,h2=>mZ (p:=p) (r:=r) h j i x h1 h2
theorem FN(xR:qNb sc X.env=pure cl)(sub:nN X.env.cells cl)(kind:sc.kind = .function)(cb:∀n,qKo n sc.names cl=(y0,n)::cl)
  (pb:∀h:Heap,pushCells h sc.names=h.push { cls:=.type "cell",data:=.cell none }) (names:∀y∈sc.names,y.2 = .local->sc.names.lookup y.1=some .local) (has:∀n,hasB ((y0,n)::cl) (qJb sc X.env).names=true) (got:uU X.N X.env.scope.names (qJb sc X.env).names pick NB=true) (no:mY y0 pick NB=true):Bp X NB pick sc cl y0 :=
 ⟨xR,kind,cb,pb,names,sub,fun n=>zK (has n),lL got,fun j i x h1 h2=>⟨oF got j i x h1 h2,mZ no j i x h1 h2⟩⟩
theorem oI(h:c<n)(e:c=n+1):False:=by lia
theorem eO{y0 x:Str}{n c:Addr}{cl:List (Str×Addr)}(h:((y0,n)::cl).lookup x=some c):(x=y0/\c=n)\/cl.lookup x=some c:=by
 rw[qJy] at h;cases hx:x == y0 with
 | true =>
  rw[hx] at h;cases h;exact .inl ⟨by simpa using hx,rfl⟩
 | false =>
  rw[hx] at h;exact .inr h
section
variable {M:Model}{A:qDl}{E:qAl->qAp->Prop}{s:qAp}
theorem xY(cb:∀n,qKo n sc.names cl=(y0,n)::cl)(pb:∀h:Heap,pushCells h sc.names=h.push { cls:=.type "cell",data:=.cell none })
  (hQ:∀h',h'.Ns s.heap.objs.size (fun _=>none)->h'.IsCell (s.heap.objs.size+1) none->(∀b o,s.heap.get? b=some o->h'.get? b=some o) ->
   Q { scope:=sc,locals:=s.heap.objs.size,globals,cells:=(y0,s.heap.objs.size+1)::cl,qual,func:=none,code:=out.code,frame:=out.frame,builtins:=out.builtins } { s with heap:=h' }) :
  qBj M A (newFunctionEnv sc globals cl [] qual none .none (some out)) Q E s:=by
 simp only[newFunctionEnv,qMh,if_true];refine qAb (wpAny_alloc ?_);refine qAb (wpAny_layCells _ (fun name kind cells=>by cases hkc:kind == NameKind.cell <;> simp[hkc]) _ _ _ _ ?_);rw[cb,pb,show({ s with heap:=s.heap.push { cls:=.type "dict",data:=.dict #[] } }:qAp).heap.objs.size=s.heap.objs.size+1 from qDj ..];refine qAb ?_;rw[List.forIn_nil];refine qAe (qAe ?_);refine hQ _ ((Heap.Ns.new s.heap (.type "dict")).keeps fun b o e=>qAh _ e) ?_ fun b o e=>qAh _ (qAh _ e);have e:(s.heap.push { cls:=.type "dict",data:=.dict #[] }).objs.size=s.heap.objs.size+1:=qDj ..;rw[<- e];exact⟨_,qAt _ rfl,rfl⟩
end
section
variable {X:Cx}{NB:List Str}{pick:List (Option Nat)}{sc:qJv}{cl:List (Str×Addr)}{y0:Str}{pins:List (Addr×Obj)}{σ:St}{H:Hp}{s:qAp}{fp:List Addr}
theorem sub_lt(I:Inv X pins σ H s)(B:Bp X NB pick sc cl y0){x:Str}{c:Addr}(h:cl.lookup x=some c):c<s.heap.objs.size:=by
 obtain⟨v,q⟩:=I.cell x c (B.sub.of x c h);exact q.lt
theorem FO(I:Inv X pins σ H s)(B:Bp X NB pick sc cl y0)(hf:∀b∈fp,jN X pins H b)(hex:∀b∈fp,∃o,s.heap.get? b=some o):(kI X NB sc cl y0 s H fp).Ok:=by
 have nfs:∀b∈fp,b∉oS X.stack:=fun b hb z=>by
  rcases List.mem_cons.mp (I.kT b z) with e | e
  .exact(hf b hb).2.1 e
  .exact(hf b hb).2.2.1 e
 refine⟨I.ok.mod,B.kind,I.ok.glob,I.ok.blt,qAg _,fun x y c h1 h2=>?_,fun x hx=>B.has _ x hx,fun x c h e=>?_,I.ok.hd,I.ok.frames,.inl rfl,fun b hb=>⟨?_,fun x c h e=>?_⟩,I.bs,qCy I.ok.Fh I.sz,fun b o e hb=>?_,nfs,I.stack,I.oC⟩
 .rcases eO h1 with ⟨e1,e2⟩ | e1
  .rcases eO h2 with ⟨f1,f2⟩ | f1
   .rw[e1,f1]
   .exact(oI (sub_lt I B f1) e2).elim
  .rcases eO h2 with ⟨f1,f2⟩ | f1
   .exact(oI (sub_lt I B e1) f2).elim
   .exact I.ok.inj x y c (B.sub.of x c e1) (B.sub.of y c f1)
 .rcases eO e with ⟨e1,e2⟩ | e1
  .rw[e2];exact qFi _
  .have e0:x=y0:=by simpa using (show(x == y0)=true from h)
   have z:((y0,s.heap.objs.size+1)::cl).lookup x=some (s.heap.objs.size+1):=by rw[e0,qJy];simp
   have e':c=s.heap.objs.size+1:=Option.some.inj ((show((y0,s.heap.objs.size+1)::cl).lookup x=some c from e).symm.trans z);rw[e'];exact qFi _
 .obtain⟨o,ho⟩:=hex b hb;exact qBg (qAs ho)
 .rcases eO h with ⟨e1,e2⟩ | e1
  .obtain⟨o,ho⟩:=hex b hb;exact(oI (qAs ho) (e.symm.trans e2)).elim
  .exact(hf b hb).2.2.2.2.1 x c (B.sub.of x c e1) e
 .rcases(hf b hb).2.2.2.1 with z | z
  .exact I.ok.AS b o e z
  .exact absurd (qBc (qAs (I.ok.bs b o e).1) z) (qDk _)
theorem xZ{h':Heap}(I:Inv X pins σ H s)(B:Bp X NB pick sc cl y0)(hf:∀b∈fp,jN X pins H b)(hex:∀b∈fp,∃o,s.heap.get? b=some o)
  (hn:h'.Ns s.heap.objs.size (fun _=>none)) (hce:h'.IsCell (s.heap.objs.size+1) none) (hs:∀b o,s.heap.get? b=some o->h'.get? b=some o) (t:Nat):Inv (kI X NB sc cl y0 s H fp) [] (oY pick σ) H { s with heap:=h',toks:=t }:=by
 exists FO I B hf hex,rfl,I.bare,Un.kept hs,⟨_,hn,fun j x v h1 h2 h3=>?_⟩,fun x c e=>?_,I.cO.fresh (qAg _),fun x c e=>?_,fun p hp=>absurd (show p∈([]:List (Addr×Obj)) from hp) (by simp),I.cO.kept hs
 .have h2':(pick.map fun o=>o.bind fun i=>(σ[i]?).join)[j]?=some (some v):=h2;rw[qAn] at h2';cases hp:pick[j]? with
  | none=>rw[hp] at h2';cases h2'
  | some o =>
   rw[hp] at h2';cases o with
   | none=>cases h2'
   | some i =>
    have h2'':(σ[i]?).join=some v:=Option.some.inj h2';obtain⟨⟨g1,g2,g3⟩,ny⟩:=B.got j i x hp h1;have hσ:σ[i]?=some (some v):=by
     cases hq:σ[i]? with
     | none=>rw[hq] at h2'';cases h2''
     | some z=>rw[hq] at h2'';have e:z=some v:=h2'';rw[e]
    obtain⟨m,_,hl⟩:=I.loc;obtain⟨u,r,L⟩:=hl i x v g1 hσ (.inr g2);exists u,r;rcases L with ⟨k,_⟩ | ⟨_,c,hc,⟨o,ho,hd⟩⟩
    .rcases g2 with g2 | g2 <;> rw[k] at g2 <;> cases g2
    .obtain⟨c',hc'⟩:=B.has (s.heap.objs.size+1) x (.inl g3);rcases eO hc' with ⟨e1,_⟩ | e1
     .rw[e1] at ny;simp at ny
     .have e:c'=c:=Option.some.inj ((B.sub.of x c' e1).symm.trans hc);subst e;exact .inr ⟨.inl g3,c',hc',o,hs _ _ ho,hd⟩
 .rcases eO e with ⟨_,e2⟩ | e1
  .rw[e2];exact⟨none,hce⟩
  .obtain⟨v,o,ho,hd⟩:=I.cell x c (B.sub.of x c e1);exact⟨v,o,hs _ _ ho,hd⟩
 .rcases eO e with ⟨_,e2⟩ | e1
  .rw[e2];exact I.cO.fresh (qFi _)
  .exact I.jF x c (B.sub.of x c e1)
 .show(oY pick σ).length=NB.length;delta oY;rw[qAa];exact B.len
theorem CV(I:Inv X pins σ H s)(hf:∀b∈fp,jN X pins H b)(J:Inv (kI X NB sc cl y0 s H fp) [] σ' H' s'):Inv X pins σ H' s':=by
 refine I.call' (ch:=fp) J.os J.base J.cO J.bare fun b hb=>?_;obtain⟨_,f1,_,f3,f4,f5⟩:=hf b hb;exact⟨f3,f1,f4,f5⟩
end
section
variable {X:Cx}{NB:List Str}{pick:List (Option Nat)}{sc:qJv}{cl:List (Str×Addr)}{y0:Str}{elt target iter:Expr}{ifs:List Expr}{pos:Pos}{wi:TI}{g:TG}{c:TT}{te:TE}
theorem Bq{pins:List (Addr×Obj)}{s:qAp}{σ:St}{H:Hp}{use:Option (qAl->Sem Unit)}{Q:Addr->Hp->Prop}{QV:qAl->qAp->Prop}(B:Bp X NB pick sc cl y0)(hc:X.calm=true)(hi:PI X target iter wi)
  (hg:∀s₃ H₃ fp,PG (kI X NB sc cl y0 s₃ H₃ fp) target g) (ht:∀s₃ H₃ fp,uW (kI X NB sc cl y0 s₃ H₃ fp) ifs c) (he:∀s₃ H₃ fp,PE (kI X NB sc cl y0 s₃ H₃ fp) elt te)
  (hs:∀x,qFq iter X.env x=pure x) (I:Inv X pins σ H s) (h:uV wi pick g c te σ H Q)
  (fin:∀(D C:Addr) (s':qAp) (H':Hp),Inv X pins σ H' s'->Q D H'->H' C=none->C≠X.env.locals->X.s₀.heap.objs.size<=C->(∀x a,X.env.cells.lookup x=some a->a≠C)->(∀p∈X.pn++pins,p.1≠C)->(∃m,s'.heap.Ns C m) ->
   qPf (qBz X.prog X.w) X.A X.xe use QV (.ref D) C (.ok .next) s') :
  qBj (qBz X.prog X.w) X.A (qKn (.ListComp elt [⟨target,iter,ifs,0⟩] sc pos) sc X.env (firstIterPos [⟨target,iter,ifs,0⟩] pos) (qOv []) false (eval iter X.env) use) QV X.xe s:=by
 refine wpAny_comprehension_free rfl hs B.xR B.kind B.names (cG (hi pins s σ H _ I h) fun v s1 h1=>cG h1 fun itv s2 h2=>?_);obtain⟨it,fp,tn,J,H2,e,I2,T,st2,f2,h2⟩:=h2;subst e;refine qCk ?_;have I3:Inv X pins σ (upd H2 s2.heap.objs.size (.lst [])) { s2 with heap:=s2.heap.push { cls:=.type "list",dict:=none,data:=.seq ([]:List qAl).toArray } } :=
  I2.laid (t':=s2.toks) (fun b u e=>qAh _ e) (qAg _) ⟨qBn _,[],0,.nil,qAt _ rfl⟩
 have hf:H2 s2.heap.objs.size=none:=I2.cO.fresh (qAg _);have lt:∀b∈fp,b≠s2.heap.objs.size:=fun b hb=>by
  obtain⟨o,ho,_⟩:=T.obj _ _ st2 b hb;exact qBg (qAs ho)
 have f3:∀b∈fp,jN X pins (upd H2 s2.heap.objs.size (.lst [])) b:=fun b hb=>⟨by rw[aR (lt b hb)];exact(f2 b hb).1,(f2 b hb).2⟩;generalize hs3:({ s2 with heap:=s2.heap.push { cls:=.type "list",dict:=none,data:=.seq ([]:List qAl).toArray } }:qAp)=s3 at I3|-;have kp3:∀b o,s2.heap.get? b=some o->s3.heap.get? b=some o:=fun b o e=>by
  rw[<- hs3];exact qAh _ e
 have hex:∀b∈fp,∃o,s3.heap.get? b=some o:=fun b hb=>by
  obtain⟨o,ho,_⟩:=T.obj _ _ st2 b hb;exact⟨o,kp3 b o ho⟩
 have st3:tn 0 s3.heap:=T.keep _ _ _ st2 fun b _ o e=>kp3 b o e;obtain⟨W,⟨m0,w0⟩,turn⟩:=h2 _ hf;refine xY B.Jp B.Ny (fun h₁ hns₁ hce₁ kp4=>?_);have J4:=xZ I3 B f3 hex hns₁ hce₁ kp4 s3.toks;have st4:tn 0 h₁:=T.keep _ _ _ st3 fun b _ o e=>kp4 b o e;have stat:∀{H':Hp},(∀b∈fp,H' b=none)->∀b∈fp,jN (kI X NB sc cl y0 s3 (upd H2 s2.heap.objs.size (.lst [])) fp) [] H' b:=fun {H'} hn b hb=>by
  obtain⟨o,ho⟩:=hex b hb;refine⟨hn b hb,qBg (qAs ho),fun z=>?_,.inl hb,fun x a e=>(eO e).elim (fun q z=>oI (qAs ho) (z.symm.trans q.2)) (fun e1=>(f2 b hb).2.2.2.2.1 x a (B.sub.of x a e1)),fun p hp=>absurd (show p∈([]:List (Addr×Obj)) from hp) (by simp)⟩;rcases List.mem_cons.mp (I2.kT b z) with e | e
  .exact(f2 b hb).2.1 e
  .exact(f2 b hb).2.2.1 e
 have loop:qHp (qBz X.prog X.w) X.A (.compLoop (.ListComp elt [⟨target,iter,ifs,0⟩] sc pos) 0 (.ref it) (.ref s2.heap.objs.size) (kI X NB sc cl y0 s3 (upd H2 s2.heap.objs.size (.lst [])) fp).env)
   (qPf (qBz X.prog X.w) X.A X.xe use QV (.ref s2.heap.objs.size) s3.heap.objs.size) { s3 with heap:=h₁,toks:=s3.toks }:=by
  refine lM (fun n s'=>∃i σ' H',Inv (kI X NB sc cl y0 s3 (upd H2 s2.heap.objs.size (.lst [])) fp) [] σ' H' s'/\tn i s'.heap/\(∀b∈fp,H' b=none)/\W i n σ' H') ?_ m0 ⟨0,_,_,J4,st4,fun b hb=>(f3 b hb).1,w0⟩;rintro n s5 ⟨i,σ5,H5,I5,st5,fr5,w5⟩;rcases turn i n σ5 H5 w5 with ⟨stop,qn⟩ | ⟨go,N,hN,step⟩
  .refine cG (T.done (kI X NB sc cl y0 s3 (upd H2 s2.heap.objs.size (.lst [])) fp) rfl rfl rfl hc i [] s5 σ5 H5 _ I5 (stat fr5) st5 stop) fun r s6 z9=>?_;obtain⟨hr,I6⟩:=z9;subst hr;refine fin s2.heap.objs.size s3.heap.objs.size s6 H5 (CV I3 f3 I6) qn I6.free (qBg I3.lt).symm I3.sz (fun x a e=>?_) (fun p hp=>?_) ?_
   .obtain⟨v,o,ho,_⟩:=I3.cell x a e;exact qBg (qAs ho)
   .exact qBg (qAs (I3.pin p hp).1)
   .obtain⟨m,hn,_⟩:=I6.loc;exact⟨m,hn⟩
  .refine cG (T.item (kI X NB sc cl y0 s3 (upd H2 s2.heap.objs.size (.lst [])) fp) rfl rfl rfl hc i [] s5 σ5 H5 _ I5 (stat fr5) st5 go) fun r s6 z9=>?_;obtain⟨u,hr,h6⟩:=z9;subst hr;refine cG h6 fun _ s7 z9=>?_;obtain⟨x,H7,I7,r7,y7,st7,fr7⟩:=z9;have I7':=I7.pinned (stat fr7) (T.obj _ _ st7);have qNn:∀{s9:qAp}{σ9:St}{H9:Hp},Inv (kI X NB sc cl y0 s3 (upd H2 s2.heap.objs.size (.lst [])) fp) ([]++mT fp s7.heap) σ9 H9 s9->N σ9 H9 ->
     ∃m,m<n/\∃i σ' H',Inv (kI X NB sc cl y0 s3 (upd H2 s2.heap.objs.size (.lst [])) fp) [] σ' H' s9/\tn i s9.heap/\(∀b∈fp,H' b=none)/\W i m σ' H':=fun {s9 σ9 H9} I9 n9=>by
    obtain⟨m',hm,w9⟩:=hN σ9 H9 n9;refine⟨m',hm,i+1,σ9,H9,I9.jO,T.keep _ _ _ st7 fun b hb o e=>(I9.pin (b,o) (qBa _ (qBa _ (fW hb e)))).1,fun b hb=>?_,w9⟩;obtain⟨o,e,d⟩:=T.obj _ _ st7 b hb;exact(I9.pin (b,o) (qBa _ (qBa _ (fW hb e)))).2.1
   refine cG (hg _ _ _ _ s7 σ5 H7 x u _ I7' r7 (step x H7 y7)) fun _ s8 z9=>?_;obtain⟨σ8,H8,I8,q8⟩:=z9;refine cG (ht _ _ _ _ s8 σ8 H8 _ I8 q8) fun b s9 z9=>?_;obtain⟨H9,I9,q9⟩:=z9;cases b with
   | false =>
    rw[if_neg qAq];exact qNn I9 (by rw[if_neg qAq] at q9;exact q9)
   | true =>
    rw[if_pos rfl] at q9|-;refine cG (he _ _ _ _ s9 σ8 H9 _ I9 q9) fun y s10 z9=>?_;obtain⟨vy,H10,I10,r10,xs,hD,hl,q10⟩:=z9;refine cG (mW _ s10 σ8 H10 (.ref s2.heap.objs.size) [vy] (.ref s2.heap.objs.size) [y] (fun _ H'=>N σ8 H') I10 rfl (.cons r10 .nil) ⟨_,xs,vy,rfl,rfl,hD,hl,q10⟩) fun _ s11 z9=>?_;obtain⟨_,H11,I11,_,q11⟩:=z9;exact qNn I11 q11
 refine codeAny_compStart_list loop (T.self _ 0 _ _ _ st4 loop)
theorem CW(hN:X.N.Nodup)(hx1:X.N[i]?=some x)(hx2:Loc X.env.scope x)
  (hsw:qKk (.ListComp elt [⟨target,iter,ifs,0⟩] sc pos) (some (.Name x pos')) spos.line X.env=pure true) (B:Bp X NB pick sc cl y0) (hc:X.calm=true) (hi:PI X target iter wi)
  (hg:∀s₃ H₃ fp,PG (kI X NB sc cl y0 s₃ H₃ fp) target g) (ht:∀s₃ H₃ fp,uW (kI X NB sc cl y0 s₃ H₃ fp) ifs c) (he:∀s₃ H₃ fp,PE (kI X NB sc cl y0 s₃ H₃ fp) elt te)
  (hs:∀x,qFq iter X.env x=pure x:=by intro _;rfl) (hfn:X.fn x=true\/X.env.scope.names.lookup x=some .local:=by first|exact .inl rfl | exact .inr rfl | assumption) :
  PS X (.Assign [.Name x pos'] (.ListComp elt [⟨target,iter,ifs,0⟩] sc pos) spos) (fun D σ H=>uV wi pick g c te σ H fun l H'=>D.nx (σ.set i (some (.ref l))) H'):=by
 intro pins s σ H D I h;rw[exec_Assign_Name_used _ _ _ _ hsw];refine qAb (qIn (qAb ?_));show qBj _ _ (do let _ <- qKn (.ListComp elt [⟨target,iter,ifs,0⟩] sc pos) sc X.env _ (qOv []) false (eval iter X.env) (some (qKq (.Name x pos') X.env))) _ _ s;refine qAb (cG (Bq (use:=some (qKq (.Name x pos') X.env)) (QV:=fun _ s'=>SP X pins D .next s') B hc hi hg ht he hs I h fun l C s' H' I' q c0 c1 c2 c3 c4 hn=>?_) fun _ s' hq=>qAe (qAe hq));obtain⟨m,hm⟩:=hn;show qBj _ _ (qKq (.Name x pos') X.env (.ref l)) _ _ _;refine wpAny_assign_Name (mS (v:=.ref l) I' hN hx1 hx2 rfl (fun s'' I'' z9=>?_) hfn);obtain⟨a,hsb,ha⟩:=z9;have ne:C≠a:=by
  rcases ha with e | e
  .rw[e];exact c1
  .exact(c3 x a e).symm
 refine⟨m,hm.sameBut hsb ne,fun hh hsb2=>?_⟩;exact⟨_,H',I''.turned (t':=s''.toks) (fun b o hb e=>(hsb2.2 b hb).trans e) c0 c1 (.inr c2) c3 c4,q⟩
end
end L2
namespace HT
open PySem PyProof.Rows
section
open PySem.SeqAt
open PySem.AutoSeq1 (wpAny_loadPart')
open PySem.MeetsSeq PySem.MeetsSeq2 PySem.MeetsSeq3
end
end HT
namespace L2
open PySem PySem.Spec PyProof.Rows
section
variable {X:Cx}
def Hg(K:qAd):R2:=fun x y H Q=>∃d d',iG K H x d/\iG K H y d'/\d.depth<=64/\d'.depth<=64/\Q (.bl (!PyData.eqv d d')) H
theorem zS(hu:X.A.units+64<qMr):iW X (qEf .NotEq) (Hg X.K):=by
 intro pins s σ H x y v u Q I rx ry h;obtain⟨d,d',h1,h2,hd,hd',q⟩:=h;obtain⟨as,r1⟩:=h1.reads I rx;obtain⟨bs,r2⟩:=h2.reads I ry;have sh:SeqAt.shaped d=true:=by
  show(d.canLay0&&decide (d.depth<=64))=true;rw[h1.lay.1,decide_eq_true hd];rfl
 have sh':SeqAt.shaped d'=true:=by
  show(d'.canLay0&&decide (d'.depth<=64))=true;rw[h2.lay.1,decide_eq_true hd'];rfl
 exact ne_dataH r1 r2 sh sh' hu ⟨.bl (!PyData.eqv d d'),H,I,rfl,q⟩
end
end L2
set_option maxHeartbeats 4000000
set_option maxHeartbeats 4000000
set_option maxHeartbeats 4000000
namespace L2
open PySem PySem.Spec PyProof.Rows
section
variable {prog:qBy}{w:qDg}{A:qDl}{E:qAl->qAp->Prop}{s:qAp}{d it:Addr}{o:Obj}{es:Array DictEntry}{ep:Nat}
theorem CY(hd:(d == qFp)=false)(ho:s.heap.get? d=some o)(hc:o.ExactDict)(hdat:o.data = .dict es ep)
  (hQ:Q (.ref s.heap.objs.size) { s with heap:=s.heap.push { cls:=.type "dict_keyiterator",data:=.fields #[.ref d,.int 0 0,.int es.size 0,.int ep 0] } }) :
  qBj (qBz prog w) A (qNa (.ref d)) Q E s:=by
 have hT:s.TypeIs (.ref d) "dict":=⟨o,ho,hc.1⟩;refine wpAny_pyIter_slot hT F.slot_dict_iter (qEc F.slot_dict_iter hT F.entry_dict_iter ?_ (F.args_dict_iter_1 _));delta Builtin.«dict.__iter__»;refine qAb ?_;delta Builtin.Dict.dictSlotNone;refine qAb (wpAny_notOrdered_dict hT ?_);show qBj _ _ (pure (Value.ref d)) _ _ s;refine qAe ?_;show qBj _ _ (Builtin.Dict.showsAll d >>= _) _ _ s;delta Builtin.Dict.showsAll;rw[if_neg (by rw[hd];exact qAq)];refine qAb (qAe ?_);refine qAb (wpAny_dictEntries ho hdat ?_);refine qAb (wpAny_dictEpoch ho hdat ?_);refine qAb (qCk (qAe ⟨_,rfl,"dict_keyiterator",_,⟨_,qAt _ rfl,rfl⟩,F.slot_dict_keyiterator_next.lookup,?_⟩));simpa [qJp] using hQ
theorem CZ(hit:s.heap.IsKeyIter it d i es.size ep)(hod:s.heap.get? d=some o)(hdd:o.data = .dict es ep)(hlt:i<es.size)
  (hQ:∀h',h'.IsKeyIter it d (i+1) es.size ep->qFh it s.heap h'->Q (some es[i].key) { s with heap:=h' }) :
  qBj (qBz prog w) A (qJc (.ref it)) Q E s:=by
 obtain⟨oi,ho,hc,hd⟩:=id hit;delta qJc;refine qAb (qHj (qEr (name:=Str.ofString "__next__") hit.typeIs F.slot_dict_keyiterator_next
  (qEc F.slot_dict_keyiterator_next hit.typeIs F.entry_dict_keyiterator_next ?_ (F.args_dict_keyiterator_next_1 _))))
 refine qAb (qAe ?_);refine qAb ?_;refine qAb ?_;first | refine qAb (qFe hit.typeIs (qAe ?_)) | refine qAb (qGa hit.typeIs (qAe ?_))
 refine qAb (qJo ho hd ?_);have hown:Builtin.Dict_items.ownsTuple "dict_keyiterator"=false:=by decide
 simp -iota only[hown,qFv,if_false];show qBj _ _ (if (Value.ref d == Value.none)=true then _ else _) _ _ s;rw[if_neg (show ¬((Value.ref d == Value.none)=true) from qAq)];refine qAb (qAe ?_);refine qAb (wpAny_dictEntries hod hdd ?_);rw[if_neg (by simp)];refine qAb (qAe ?_);refine qAb (wpAny_dictEpoch hod hdd ?_);rw[if_neg (by simp)];refine qAe ?_;dsimp only;simp -iota only[show ¬((i:Int)<0) from by lia,if_false,qBb,qBo hlt];refine qAb ?_;first | refine qAb (qFe hit.typeIs (qAe ?_)) | refine qAb (qGa hit.typeIs (qAe ?_))
 refine qAb (wpAny_isOneOf_keyiter hit.typeIs ?_);show qBj _ _ (setField (.ref it) 1 (qJp ((i:Int)+1)) >>= _) _ _ s;refine qAb (qFt ho hd (by simp) ?_);have hit':(s.heap.update it (Obj.mapFields (·.setIfInBounds 1 (qJp ((i:Int)+1))))).IsKeyIter it d (i+1) es.size ep :=
  ⟨_,qDh _ ho (Obj.isFreed_of_fields (Obj.data_mapFields hd _)),(Obj.cls_mapFields ..).trans hc,by rw[Obj.data_mapFields hd];simp[qJp]⟩
 refine qAb (qDm ?_);refine qAb (wpAny_isOneOf_keyiter (s:={ s with heap:=s.heap.update it (Obj.mapFields (·.setIfInBounds 1 (qJp ((i:Int)+1)))) }) hit'.typeIs ?_);show qBj _ _ (pure es[i].key) _ _ _;exact qAe (qAe ⟨_,rfl,qAe (hQ _ hit' (Heap.SameBut.update ..))⟩)
theorem FP(hh:A.handled=none)(hit:s.heap.IsKeyIter it d i es.size ep)(hod:s.heap.get? d=some o)(hdd:o.data = .dict es ep)(hge:es.size<=i)
  (hQ:∀h',qKw it s.heap h'->Q none { s with heap:=h' }):qBj (qBz prog w) A (qJc (.ref it)) Q E s:=by
 obtain⟨oi,ho,hc,hd⟩:=id hit;delta qJc;refine qAb (qHj (qEr (name:=Str.ofString "__next__") hit.typeIs F.slot_dict_keyiterator_next
  (qEc F.slot_dict_keyiterator_next hit.typeIs F.entry_dict_keyiterator_next ?_ (F.args_dict_keyiterator_next_1 _))))
 refine qAb (qAe ?_);refine qAb ?_;refine qAb ?_;first | refine qAb (qFe hit.typeIs (qAe ?_)) | refine qAb (qGa hit.typeIs (qAe ?_))
 refine qAb (qJo ho hd ?_);have hown:Builtin.Dict_items.ownsTuple "dict_keyiterator"=false:=by decide
 simp -iota only[hown,qFv,if_false];show qBj _ _ (if (Value.ref d == Value.none)=true then _ else _) _ _ s;rw[if_neg (show ¬((Value.ref d == Value.none)=true) from qAq)];refine qAb (qAe ?_);refine qAb (wpAny_dictEntries hod hdd ?_);rw[if_neg (by simp)];refine qAb (qAe ?_);refine qAb (wpAny_dictEpoch hod hdd ?_);rw[if_neg (by simp)];refine qAe ?_;dsimp only;simp -iota only[show ¬((i:Int)<0) from by lia,if_false,qBb,qDx hge];refine qAb ?_;first | refine qAb (qFe hit.typeIs (qAe ?_)) | refine qAb (qGa hit.typeIs (qAe ?_))
 show qBj _ _ (setField (.ref it) 0 .none >>= _) _ _ s;refine qAb (qFt ho hd (by simp) ?_);show qBj _ _ (qQc (.type "StopIteration") [] >>= _) _ _ _;refine qAb ?_;simp only[qQc,newTuple];refine qAb (qCk ?_ (by size_fits));refine qAb (m:=qJq _ _) (qGr (a:=Value.none) (by first | rfl | (simp only[qJq];rfl)) ?_)
 refine qCk ?_ (by size_fits);delta raiseNew;refine qAb (wpAny_handled ?_);rw[show A.in1.handled=none from hh];refine qAb (qAe (wpAny_throw ?_));refine qAb (wpAny_isInstance (T:="StopIteration") (b:=true) ⟨_,qAt _ rfl,rfl⟩ isSubtype_stop ?_);exact qAe (hQ _ (((Heap.SameBut.update ..).extBut.push _).push _))
end
section
variable {X:Cx}
theorem lR(K:qAd){e:Expr}{f:Str}{ta:TE}{pos:Pos}(he:PE X e ta)(hb:qGg e f X.env (eval e X.env)=eval e X.env)(h:X.K=K:=by rfl):PE X (.Attribute e f pos) (Na K ta f):=by
 subst h;exact cB he hb
theorem Dc(K:qAd)(h:X.K=K:=by rfl):iW X (qFc .Add) (zM K):=by
 subst h;exact eM
end
section
variable {K:qAd}{a:Addr}{xs:List V}{lo:Int}{n:Nat}{σ0:St}{H1:Hp}{i0:Nat}{c:TT}{te:TE}{Q:Addr->Hp->Prop}
structure tF (f:Nat->List V) (H1:Hp) (D:Addr) (rs:List Addr) (H:Hp):Prop where
 at_:∀i r,rs[i]?=some r->H1 r=none/\r≠D/\H r=some (.lst (f i))
 nd:rs.Nodup
theorem tF.more(h:tF f H1 D rs H2)(hs:aH H1 H2)(hd:H2 D=some (.lst (rs.map V.ref)))(s:aH H2 H3)(hr:H2 r=none)(e:H3 r=some (.lst (f rs.length))):tF f H1 D (rs++[r]) (upd H3 D (.lst ((rs++[r]).map V.ref))):=by
 have nD:r≠D:=fun z=>by rw[z,hd] at hr;cases hr
 refine⟨fun i q hq=>?_,?_⟩
 .rcases qAm i rs.length with z1 | z1
  .rw[qAy z1] at hq;obtain⟨a,b,c⟩:=h.at_ i q hq;exact⟨a,b,by rw[aR b];exact s _ _ c⟩
  .rw[qAz z1] at hq;obtain⟨rfl,rfl⟩:i=rs.length/\r=q:=by
    rcases qEx (i-rs.length) with z | z
    .rw[z] at hq;exact⟨by lia,Option.some.inj hq⟩
    .rw[qAv (by show 1<=_;lia)] at hq;cases hq
   exact⟨hs.free hr,nD,by rw[aR nD];exact e⟩
 .refine List.nodup_append.mpr ⟨h.nd,by simp,fun x hx y hy=>?_⟩;rw[qJg] at hy;subst hy;rintro rfl;obtain⟨i,hi⟩:=List.mem_iff_getElem?.mp hx;have z:=(h.at_ i x hi).2.2;rw[hr] at z;cases z
theorem Br(f:Nat->List V)(hn:n<=qAi)
  (step:∀(i:Nat) (H2:Hp) (k:VK) (k0:Hp->Prop),aH H1 H2->i<n->(∀r H3,aH H2 H3->H2 r=none->H3 r=some (.lst (f i))->k (.ref r) H3) ->
   c (σ0.set i0 (some (.int (lo+(i:Int))))) H2 fun b H4=>if b=true then te (σ0.set i0 (some (.int (lo+(i:Int))))) H4 k else k0 H4)
  (h:∀D rs H2,H1 D=none->aH H1 H2->rs.length=n->tF f H1 D rs H2->H2 D=some (.lst (rs.map V.ref))->Q D H2) :
  ∀D,H1 D=none->∃W:Nat->Nat->St->Hp->Prop,(∃m,W 0 m σ0 (upd H1 D (.lst [])))/\∀i m σ1 H2,W i m σ1 H2 ->
   ((qG lo n).stop i H2/\Q D H2)\/((qG lo n).go i H2/\∃N:St->Hp->Prop,(∀σ' H',N σ' H'->∃m',m'<m/\W (i+1) m' σ' H') /\
    ∀x H',(qG lo n).qF i H2 x H'->aX i0 x σ1 H' fun σ2 H3=>c σ2 H3 fun b H4=>if b=true then te σ2 H4 fun y H5=>∃xs,H5 D=some (.lst xs)/\xs.length<qAi/\N σ2 (upd H5 D (.lst (xs++[y]))) else N σ2 H4):=by
 intro D hD;refine⟨fun i m σ1 H2=>σ1.set i0 none=σ0.set i0 none/\aH H1 H2/\(∃rs:List Addr,rs.length=i/\tF f H1 D rs H2/\H2 D=some (.lst (rs.map V.ref)))/\i<=n/\m=n-i,⟨n,rfl,.aG hD,⟨[],rfl,⟨fun j y e=>(by cases e),qIu⟩,aD⟩,qBn _,rfl⟩,?_⟩;rintro i m σ1 H2 ⟨hσ,hs,⟨rs,hy,hR,hd⟩,hi,rfl⟩;have hset:∀v:Option V,σ1.set i0 v=σ0.set i0 v:=fun v=>by
  have z:=congrArg (fun l=>qHv l i0 v) hσ;simpa using z
 rcases qAm i n with hlt | hge
 .right
  refine⟨hlt,fun σ' H'=>σ'.set i0 none=σ0.set i0 none/\aH H1 H'/\∃rs:List Addr,rs.length=i+1/\tF f H1 D rs H'/\H' D=some (.lst (rs.map V.ref)),(by rintro σ' H' ⟨a,b,c⟩;exact ⟨n-(i+1),by lia,a,b,c,hlt,rfl⟩),?_⟩;rintro x H' ⟨rfl,rfl⟩;show c (σ1.set i0 (some (.int (lo+(i:Int))))) _ _;rw[hset];subst hy;refine step rs.length _ _ _ hs hlt fun r H3 hs3 hr e3=>⟨_,hs3 _ _ hd,by rw[qAa];lia,by simp,(hs.trans hs3).upd_ne' hD,rs++[r],by rw[qAj];rfl,?_,?_⟩
  .have z:=hR.more hs hd hs3 hr e3;rw[qAr] at z;exact z
  .rw[aD,qAr];rfl
 .left
  obtain rfl:i=n:=qDc hi hge;exact⟨qAg _,h D rs _ hD hs hy hR hd⟩
theorem m9(f:Nat->List V)(hq:aS K H1 a xs)(hn:xs.length<=qAi)
  (step:∀(i:Nat) (x:V) (H2:Hp) (k:VK) (k0:Hp->Prop),aH H1 H2->xs[i]?=some x->(∀r H3,aH H2 H3->H2 r=none->H3 r=some (.lst (f i))->k (.ref r) H3) ->
   c (σ0.set i0 (some x)) H2 fun b H4=>if b=true then te (σ0.set i0 (some x)) H4 k else k0 H4)
  (h:∀D rs H2,H1 D=none->aH H1 H2->rs.length=xs.length->tF f H1 D rs H2->H2 D=some (.lst (rs.map V.ref))->Q D H2) :
  ∀D,H1 D=none->∃W:Nat->Nat->St->Hp->Prop,(∃m,W 0 m σ0 (upd H1 D (.lst [])))/\∀i m σ1 H2,W i m σ1 H2 ->
   ((zA K a).stop i H2/\Q D H2)\/((zA K a).go i H2/\∃N:St->Hp->Prop,(∀σ' H',N σ' H'->∃m',m'<m/\W (i+1) m' σ' H') /\
    ∀x H',(zA K a).qF i H2 x H'->aX i0 x σ1 H' fun σ2 H3=>c σ2 H3 fun b H4=>if b=true then te σ2 H4 fun y H5=>∃xs,H5 D=some (.lst xs)/\xs.length<qAi/\N σ2 (upd H5 D (.lst (xs++[y]))) else N σ2 H4):=by
 intro D hD;refine⟨fun i m σ1 H2=>σ1.set i0 none=σ0.set i0 none/\aH H1 H2/\(∃rs:List Addr,rs.length=i/\tF f H1 D rs H2/\H2 D=some (.lst (rs.map V.ref)))/\i<=xs.length/\m=xs.length-i,⟨xs.length,rfl,.aG hD,⟨[],rfl,⟨fun j y e=>(by cases e),qIu⟩,aD⟩,qBn _,rfl⟩,?_⟩;rintro i m σ1 H2 ⟨hσ,hs,⟨rs,hy,hR,hd⟩,hi,rfl⟩;have hset:∀v:Option V,σ1.set i0 v=σ0.set i0 v:=fun v=>by
  have z:=congrArg (fun l=>qHv l i0 v) hσ;simpa using z
 rcases qAm i xs.length with hlt | hge
 .right
  refine⟨⟨xs,xs[i],hs.seq hq,by simp[hlt]⟩,fun σ' H'=>σ'.set i0 none=σ0.set i0 none/\aH H1 H'/\∃rs:List Addr,rs.length=i+1/\tF f H1 D rs H'/\H' D=some (.lst (rs.map V.ref)),(by rintro σ' H' ⟨a,b,c⟩;exact ⟨xs.length-(i+1),by lia,a,b,c,hlt,rfl⟩),?_⟩;rintro x H' ⟨rfl,hx⟩;have hx:=hx xs (hs.seq hq);show c (σ1.set i0 (some x)) _ _;rw[hset];subst hy;refine step rs.length x _ _ _ hs hx fun r H3 hs3 hr e3=>⟨_,hs3 _ _ hd,by rw[qAa];lia,by simp,(hs.trans hs3).upd_ne' hD,rs++[r],by rw[qAj];rfl,?_,?_⟩
  .have z:=hR.more hs hd hs3 hr e3;rw[qAr] at z;exact z
  .rw[aD,qAr];rfl
 .left
  obtain rfl:i=xs.length:=qDc hi hge;exact⟨⟨xs,hs.seq hq,qAg _⟩,h D rs _ hD hs hy hR hd⟩
end
section
variable {K:qAd}{a a':Addr}{xs xs':List V}{lo:Int}{n:Nat}{σ0:St}{H1:Hp}{i0:Nat}{c:TT}{te:TE}{g:TG}{Q:Addr->Hp->Prop}
theorem rB(Iv:Nat->List V->Hp->Prop)(mono:∀i ys H H',lO H H'->Iv i ys H->Iv i ys H')(h0:Iv 0 [] H1)(hq:aS K H1 a xs)(hn:xs.length<=qAi)
  (step:∀(i:Nat) (x:V) (H2:Hp) (k:VK) (k0:Hp->Prop) (ys:List V),aH H1 H2->xs[i]?=some x->Iv i ys H2->(∀y H3,aH H2 H3->Iv (i+1) (ys++[y]) H3->k y H3)->(∀H3,aH H2 H3->Iv (i+1) ys H3->k0 H3) ->
   c (σ0.set i0 (some x)) H2 fun b H4=>if b=true then te (σ0.set i0 (some x)) H4 k else k0 H4)
  (h:∀D ys H2,H1 D=none->aH H1 H2->Iv xs.length ys H2->H2 D=some (.lst ys)->Q D H2) :
  ∀D,H1 D=none->∃W:Nat->Nat->St->Hp->Prop,(∃m,W 0 m σ0 (upd H1 D (.lst [])))/\∀i m σ1 H2,W i m σ1 H2 ->
   ((zA K a).stop i H2/\Q D H2)\/((zA K a).go i H2/\∃N:St->Hp->Prop,(∀σ' H',N σ' H'->∃m',m'<m/\W (i+1) m' σ' H') /\
    ∀x H',(zA K a).qF i H2 x H'->aX i0 x σ1 H' fun σ2 H3=>c σ2 H3 fun b H4=>if b=true then te σ2 H4 fun y H5=>∃xs,H5 D=some (.lst xs)/\xs.length<qAi/\N σ2 (upd H5 D (.lst (xs++[y]))) else N σ2 H4):=by
 intro D hD;exists fun i m σ1 H2=>σ1.set i0 none=σ0.set i0 none/\aH H1 H2/\(∃ys,ys.length<=i/\Iv i ys H2/\H2 D=some (.lst ys))/\i<=xs.length/\m=xs.length-i,⟨xs.length,rfl,.aG hD,⟨[],qAg _,mono _ _ _ _ (aH.aG hD).t h0,aD⟩,qBn _,rfl⟩;rintro i m σ1 H2 ⟨hσ,hs,⟨ys,hy,hR,hd⟩,hi,rfl⟩;have hset:∀v:Option V,σ1.set i0 v=σ0.set i0 v:=fun v=>by
  have z:=congrArg (fun l=>qHv l i0 v) hσ;simpa using z
 rcases qAm i xs.length with hlt | hge
 .right
  refine⟨⟨xs,xs[i],hs.seq hq,by simp[hlt]⟩,fun σ' H'=>σ'.set i0 none=σ0.set i0 none/\aH H1 H'/\∃ys,ys.length<=i+1/\Iv (i+1) ys H'/\H' D=some (.lst ys),(by rintro σ' H' ⟨a,b,c⟩;exact ⟨xs.length-(i+1),by lia,a,b,c,hlt,rfl⟩),?_⟩;rintro x H' ⟨rfl,hx⟩;have hx:=hx xs (hs.seq hq);show c (σ1.set i0 (some x)) _ _;rw[hset];refine step i x _ _ _ ys hs hx hR (fun y H3 hs3 hR3=>⟨_,hs3 _ _ hd,by lia,?_,(hs.trans hs3).upd_ne' hD,ys++[y],by rw[qAj];show _+1<=_;lia,mono _ _ _ _ (.lst (hs3 _ _ hd)) hR3,aD⟩) fun H3 hs3 hR3=>⟨?_,hs.trans hs3,ys,by lia,hR3,hs3 _ _ hd⟩
  .simp
  .simp
 .left
  obtain rfl:i=xs.length:=qDc hi hge;exact⟨⟨xs,hs.seq hq,qAg _⟩,h D ys _ hD hs hR hd⟩
theorem rC(Ag:St->Prop)(Iv:Nat->List V->Hp->Prop)(mono:∀i ys H H',lO H H'->Iv i ys H->Iv i ys H')(h0:Ag σ0)(h00:Iv 0 [] H1)(hq:aS K H1 a xs)(hq':aS K H1 a' xs')(hlen:xs.length=xs'.length)(hn:xs.length<=qAi)
  (step:∀(i:Nat) (x y:V) (t:Addr) (σ1:St) (H2:Hp) (k:St->VK) (k0:St->Hp->Prop) (ys:List V),Ag σ1->aH H1 H2->xs[i]?=some x->xs'[i]?=some y->H2 t=some (.tup [x,y])->Iv i ys H2->(∀σ2 z H3,Ag σ2->aH H2 H3->Iv (i+1) (ys++[z]) H3->k σ2 z H3)->(∀σ2 H3,Ag σ2->aH H2 H3->Iv (i+1) ys H3->k0 σ2 H3) ->
   g (.ref t) σ1 H2 fun σ2 H3=>c σ2 H3 fun b H4=>if b=true then te σ2 H4 (k σ2) else k0 σ2 H4)
  (h:∀D ys H2,H1 D=none->aH H1 H2->Iv xs.length ys H2->H2 D=some (.lst ys)->Q D H2) :
  ∀D,H1 D=none->∃W:Nat->Nat->St->Hp->Prop,(∃m,W 0 m σ0 (upd H1 D (.lst [])))/\∀i m σ1 H2,W i m σ1 H2 ->
   ((zO K a a').stop i H2/\Q D H2)\/((zO K a a').go i H2/\∃N:St->Hp->Prop,(∀σ' H',N σ' H'->∃m',m'<m/\W (i+1) m' σ' H') /\
    ∀x H',(zO K a a').qF i H2 x H'->g x σ1 H' fun σ2 H3=>c σ2 H3 fun b H4=>if b=true then te σ2 H4 fun y H5=>∃xs,H5 D=some (.lst xs)/\xs.length<qAi/\N σ2 (upd H5 D (.lst (xs++[y]))) else N σ2 H4):=by
 intro D hD;exists fun i m σ1 H2=>Ag σ1/\aH H1 H2/\(∃ys,ys.length<=i/\Iv i ys H2/\H2 D=some (.lst ys))/\i<=xs.length/\m=xs.length-i,⟨xs.length,h0,.aG hD,⟨[],qAg _,mono _ _ _ _ (aH.aG hD).t h00,aD⟩,qBn _,rfl⟩;rintro i m σ1 H2 ⟨hσ,hs,⟨ys,hy',hR,hd⟩,hi,rfl⟩;rcases qAm i xs.length with hlt | hge
 .right
  have hlt':i<xs'.length:=hlen▸hlt;refine⟨⟨xs,xs',xs[i],xs'[i],hs.seq hq,hs.seq hq',by simp[hlt],by simp[hlt']⟩,fun σ' H'=>Ag σ'/\aH H1 H'/\∃ys,ys.length<=i+1/\Iv (i+1) ys H'/\H' D=some (.lst ys),(by rintro σ' H' ⟨a,b,c⟩;exact ⟨xs.length-(i+1),by lia,a,b,c,hlt,rfl⟩),?_⟩;rintro v H' ⟨t,x,y,rfl,ht,rfl,hx,hy⟩;have hx:=hx xs (hs.seq hq);have hy:=hy xs' (hs.seq hq');have hst:aH H1 (upd H2 t (.tup [x,y])):=hs.trans (.aG ht);have hdt:=aH.aG (o:=.tup [x,y]) ht _ _ hd;refine step i x y t σ1 _ (fun σ2 y H5=>∃xs,H5 D=some (.lst xs)/\xs.length<qAi/\_) _ ys hσ hst hx hy aD (mono _ _ _ _ (aH.aG ht).t hR) (fun σ2 z H3 a2 hs3 hR3=>⟨_,hs3 _ _ hdt,by lia,a2,(hst.trans hs3).upd_ne' hD,ys++[z],by rw[qAj];show _+1<=_;lia,mono _ _ _ _ (.lst (hs3 _ _ hdt)) hR3,aD⟩) fun σ2 H3 a2 hs3 hR3=>⟨a2,hst.trans hs3,ys,by lia,hR3,hs3 _ _ hdt⟩
 .left
  obtain rfl:i=xs.length:=qDc hi hge;exact⟨⟨xs,xs',hs.seq hq,hs.seq hq',.inl (qAg _)⟩,h D ys _ hD hs hR hd⟩
end
section
variable {X:Cx}
noncomputable def gQ(lo:Int)(n:Nat):List V:=(qAk n).map fun(i:Nat)=>V.int (lo+(i:Int))
def Pw(ta:TA):TE:=fun σ H Q=>ta σ H fun vs H1=>∃(lo hi:Int) (n:Nat),vs=[.int lo,.int hi]/\hi=lo+(n:Int)/\n<=1000/\-(2^61)<=lo/\lo<2^61/\∀p,H1 p=none->Q (.ref p) (upd H1 p (.lst (gQ lo n)))
theorem qM(hg:Gl X "list")(hm:X.mg "list"=none)(hg':Gl X "range")(hm':X.mg "range"=none)(hc:X.calm=true)(ha:PA X [a,b] ta)
  (hs:qBt [a,b] X.env=[(false,eval a X.env),(false,eval b X.env)]:=by rfl) (hs2:qBt [b] X.env=[(false,eval b X.env)]:=by rfl) (hs':qBt [.Call (.Name "range" p') [a,b] [] pos'] X.env=[(false,eval (.Call (.Name "range" p') [a,b] [] pos') X.env)]:=by rfl) :
  PE X (.Call (.Name "list" p) [.Call (.Name "range" p') [a,b] [] pos'] [] pos) (Pw ta):=by
 intro pins s σ H Q I h;refine qOg (fV I hg hm cW (qCg ?_ hs' rfl));rw[hs'];show qBj _ _ (qOt ((false,eval (.Call (.Name "range" p') [a,b] [] pos') X.env)::[])) _ _ s;refine qHe ?_;refine qOg (fV I hg' hm' boot_range (qCg (cG (ha pos' pins s σ H _ I h) fun us s1 z9=>?_) (by rw[hs,hs2]) (by rw[hs2];rfl)));obtain⟨vs,H1,I1,r1,q1⟩:=z9;obtain⟨lo,hi,n,e,ehi,hn,l1,l2,q⟩:=q1;subst e;obtain⟨u,u',rfl,⟨t,rfl⟩,⟨t',rfl⟩⟩:=vals2 r1;refine call_range_2 ?_;refine qHn ?_;refine call_list_range (I1.ok.hd hc) (IsRange.new ..) (small_one (by lia) (by lia) (by lia) (by lia)) (n:=n) (by rw[rangeSize_one];split <;> lia) (by lia) fun h' tk acc c hk hS hacc=>?_;have hk2:∀b o,s1.heap.get? b=some o->h'.get? b=some o:=fun b o e=>hk b o (qAh _ e);have vv:Vals (gQ lo n) acc.toList:=by
  refine lP (by unfold gQ;rw[qAa,qAu,qCa,hacc.1]) fun i x u hx hu=>?_;have hi:i<n:=by
   obtain⟨z,_⟩:=List.getElem?_eq_some_iff.mp hx;unfold gQ at z;rw[qAa,qAu] at z;exact z
  unfold gQ at hx;rw[qAn,qCw hi] at hx;obtain rfl:V.int (lo+(i:Int))=x:=Option.some.inj hx;obtain⟨t',rfl⟩:=hacc.2 i u (by simpa using hu);exact⟨t',by rw[qHc]⟩
 refine⟨.ref _,_,I1.laid (o:=.lst (gQ lo n)) (t':=tk) hk2 ?_ ?_,rfl,q _ (I1.cO.fresh ?_)⟩
 .rw[qDj];exact qFi _
 .refine⟨by unfold gQ;rw[qAa,qAu];exact qAo (aK hn),acc.toList,c,vv,by simpa using hS⟩
 .rw[qDj];exact qFi _
theorem vF(K:qAd)(hu:X.A.units+64<qMr)(h:X.K=K:=by rfl):iW X (qEf .NotEq) (Hg K):=by
 subst h;exact zS hu
end
section
variable {K:qAd}{lo:Int}{n:Nat}{σ0:St}{H1:Hp}{i0:Nat}{c:TT}{te:TE}{Q:Addr->Hp->Prop}
theorem j6(Iv:Nat->List V->Hp->Prop)(mono:∀i ys H H',lO H H'->Iv i ys H->Iv i ys H')(h0:Iv 0 [] H1)(hn:n<=qAi)
  (step:∀(i:Nat) (H2:Hp) (k:VK) (k0:Hp->Prop) (ys:List V),aH H1 H2->i<n->Iv i ys H2->(∀y H3,aH H2 H3->Iv (i+1) (ys++[y]) H3->k y H3)->(∀H3,aH H2 H3->Iv (i+1) ys H3->k0 H3) ->
   c (σ0.set i0 (some (.int (lo+(i:Int))))) H2 fun b H4=>if b=true then te (σ0.set i0 (some (.int (lo+(i:Int))))) H4 k else k0 H4)
  (h:∀D ys H2,H1 D=none->aH H1 H2->Iv n ys H2->H2 D=some (.lst ys)->Q D H2) :
  ∀D,H1 D=none->∃W:Nat->Nat->St->Hp->Prop,(∃m,W 0 m σ0 (upd H1 D (.lst [])))/\∀i m σ1 H2,W i m σ1 H2 ->
   ((qG lo n).stop i H2/\Q D H2)\/((qG lo n).go i H2/\∃N:St->Hp->Prop,(∀σ' H',N σ' H'->∃m',m'<m/\W (i+1) m' σ' H') /\
    ∀x H',(qG lo n).qF i H2 x H'->aX i0 x σ1 H' fun σ2 H3=>c σ2 H3 fun b H4=>if b=true then te σ2 H4 fun y H5=>∃xs,H5 D=some (.lst xs)/\xs.length<qAi/\N σ2 (upd H5 D (.lst (xs++[y]))) else N σ2 H4):=by
 intro D hD;exists fun i m σ1 H2=>σ1.set i0 none=σ0.set i0 none/\aH H1 H2/\(∃ys,ys.length<=i/\Iv i ys H2/\H2 D=some (.lst ys))/\i<=n/\m=n-i,⟨n,rfl,.aG hD,⟨[],qAg _,mono _ _ _ _ (aH.aG hD).t h0,aD⟩,qBn _,rfl⟩;rintro i m σ1 H2 ⟨hσ,hs,⟨ys,hy,hR,hd⟩,hi,rfl⟩;have hset:∀v:Option V,σ1.set i0 v=σ0.set i0 v:=fun v=>by
  have z:=congrArg (fun l=>qHv l i0 v) hσ;simpa using z
 rcases qAm i n with hlt | hge
 .right
  refine⟨hlt,fun σ' H'=>σ'.set i0 none=σ0.set i0 none/\aH H1 H'/\∃ys,ys.length<=i+1/\Iv (i+1) ys H'/\H' D=some (.lst ys),(by rintro σ' H' ⟨a,b,c⟩;exact ⟨n-(i+1),by lia,a,b,c,hlt,rfl⟩),?_⟩;rintro x H' ⟨rfl,rfl⟩;show c (σ1.set i0 (some (.int (lo+(i:Int))))) _ _;rw[hset];refine step i _ _ _ ys hs hlt hR (fun y H3 hs3 hR3=>⟨_,hs3 _ _ hd,by lia,?_,(hs.trans hs3).upd_ne' hD,ys++[y],by rw[qAj];show _+1<=_;lia,mono _ _ _ _ (.lst (hs3 _ _ hd)) hR3,aD⟩) fun H3 hs3 hR3=>⟨?_,hs.trans hs3,ys,by lia,hR3,hs3 _ _ hd⟩
  .simp
  .simp
 .left
  obtain rfl:i=n:=qDc hi hge;exact⟨qAg _,h D ys _ hD hs hR hd⟩
end
section
variable {prog:qBy}{w:qDg}{A:qDl}{E:qAl->qAp->Prop}{s:qAp}
theorem kL:isSeqSlotId "list.__iadd__"=true:=by decide +kernel
theorem i3(ha:s.TypeIs a "list")(hb:s.TypeIs b "list")
  (hc:qBj M A (call (.builtin "list.__iadd__") [a,b]) Q E s):qBj M A (qOf .Add a b) Q E s:=by
 delta qOf;refine qDm ?_;have hl:qMy (.type "list") (dunderI "add")=pure (some (.builtin "list.__iadd__")):=PySem.F.slot_list_iadd.lookup;have hfi:fillsInplaceSlot (.type "list") "add" (Operator.Add == .Add)=pure false:=by
  delta fillsInplaceSlot;show(qMy (.type "list") (dunderI "add") >>= fun fi=>pure (fi.isSome && !isSeqSlot fi))=pure false;rw[hl];show(pure (true && !isSeqSlotId "list.__iadd__"):Sem Bool)=pure false;rw[kL];rfl
 have hsi:seqSlot? (.type "list") (dunderI "add")=pure (some (.builtin "list.__iadd__")):=by
  delta seqSlot?;rw[hl];show((if (!isSeqSlotId "list.__iadd__")=true then pure none else pure (some (.builtin "list.__iadd__")):Sem (Option qAl)))=_;rw[kL];rfl
 refine qAb (qHx ha (qAb (qGr hfi ?_)));show qBj M A (if false=true then _ else _) Q E s;rw[if_neg qAq];refine qAb (wpAny_binaryOp1_none (nm:="add") ha hb noFill_list_add ?_);refine qAb (qGr hsi ?_);exact qAb (qGq hc)
end
section
variable {X:Cx}
def QF:OV:=fun x y H Q=>∃l b xs zs,x = .ref l/\y = .ref b/\H l=some (.lst xs)/\H b=some (.lst zs)/\xs.length+zs.length<=qAi/\Q (.ref l) (upd H l (.lst (xs++zs)))
theorem oJ:OW X .Add QF:=by
 intro pins s σ H x y v u Q I rx ry h;obtain⟨l,b,xs,zs,rfl,rfl,hH,hB,hz,q⟩:=h;cases rx;cases ry;obtain⟨z,its,n,r,hl,e⟩:=I.Bd hH;obtain⟨z2,its2,n2,r2,hl2,e2⟩:=I.Bd hB;have hsz:its.toArray.size+its2.toArray.size<=qAi:=by rw[qAw,qAw];lia
 have hlong:¬(!its.toArray.isEmpty&&Builtin.List.listTooLong (its.toArray.size+its2.toArray.size))=true:=by
  rw[uS hsz,qIv];exact qAq
 refine i3 ⟨_,e,rfl⟩ ⟨_,e2,rfl⟩ (qHm F.slot_list_iadd ⟨_,e,rfl⟩ F.entry_list_iadd (F.args_list_iadd_2 _ _)
  (AutoSeq1.list___iadd___list_list_0 l its.toArray n b its2.toArray n2 hlong (by rw[qAw];lia) (by lia)) ⟨e,e2,?_⟩)
 refine⟨.ref l,_,I.Fy (its':=its++its2) hH e (by simp) (r.append r2) ?_,rfl,q⟩;rw[qAj];lia
theorem FQ(K:qAd)(hu:X.A.units+64<qMr)(h:X.K=K:=by rfl):iW X (qEf .NotEq) (FF K (!·)):=by
 subst h;exact CH hu
def FT(K:qAd):V->List V->Hp->VK->Prop:=fun x vs H Q=>∃(p:Addr) (bs:List Bool) (j:Nat),x = .ref p/\vs=[.bl true]/\aS K H p (bs.map V.bl)/\bs[j]?=some true/\(∀m,m<j->bs[m]?=some false)/\Q (.int (j:Nat)) H
noncomputable def eqB(u:qAl):Bool:=match u with
 | .bool b=>b
 | _=>false
theorem Bs(K:qAd)(hK:X.K=K):Fv X "list.index" (FT K):=by
 subst hK;intro pins s σ H x vs v us Q I rx rv h;obtain⟨p,bs,j,rfl,rfl,hq,hj,hno,q⟩:=h;cases rx;obtain⟨u,rfl,ru⟩:=rv.one;obtain rfl:u=Value.bool true:=ru;obtain⟨its,r',pl,hz⟩:=I.list hq;obtain⟨⟨oc,od,odt,osl⟩,h1,h2,n,h3⟩:=id pl.isList;dsimp only at h2 h3;subst h2 h3;have at_:∀(m:Nat) (k:Bool),bs[m]?=some k->its[m]?=some (.bool k):=fun m k hm=>by
  obtain⟨u,hu,ru⟩:=r'.get (i:=m) (x:=.bl k) (by rw[qAn,hm];rfl);obtain rfl:u=Value.bool k:=ru;exact hu
 have hl:=r'.length;rw[qAa] at hl;have ht1:=at_ j true hj;have hjl:j<its.length:=by
  rcases qAm j its.length with z | z
  .exact z
  .rw[qAv z] at ht1;cases ht1
 refine qHm F.slot_list_index ⟨_,h1,rfl⟩ F.entry_list_index (F.args_list_index_2 _ _) (SeqAt.list_indexAt p its.toArray n od osl (.bool true) eqB j (by simpa using hjl) (by rw[qAa,qCc] at hz;lia) ?_ fun m hm hmj=>?_) ⟨h1,fun y hy=>?_,?_⟩
 .have e:its.toArray[j]'(by simpa using hjl) = .bool true:=by
   have:=qAc hjl;rw[ht1] at this;simpa using (Option.some.inj this).symm
  rw[e];rfl
 .have hml:m<its.length:=by simpa using hm
  have ht2:=at_ m _ (hno m hmj);have e:its.toArray[m]'hm = .bool false:=by
   have:=qAc hml;rw[ht2] at this;simpa using (Option.some.inj this).symm
  rw[e];rfl
 .have hy':y∈its:=by simpa using hy
  obtain⟨m,hm,e⟩:=qCv hy';have hmn:m<bs.length:=by lia
  have ht2:=at_ m _ (qAc hmn);rw[qAc hm,e] at ht2;obtain rfl:y = .bool bs[m]:=Option.some.inj ht2;have ee:eqB (.bool bs[m])=(bs[m] == true):=by cases bs[m] <;> rfl
  rw[ee];exact SeqAt.EqAt.bool_bool _ _
 .exact⟨.int (j:Nat),H,I.tok _,⟨_,rfl⟩,q⟩
end
theorem lS:∀{l:List α}{m:List β},Paired R l m->∀{i:Nat}{x:α},l[i]?=some x->∃y,m[i]?=some y/\R x y
 | _,_,.nil,i,x,e=>by cases i <;> cases e
 | _,_,.cons h t,0,x,e=>⟨_,rfl,by rw[<- Option.some.inj e];exact h⟩
 | _,_,.cons h t,i+1,x,e=>lS t (i:=i) e
theorem vG(h:(cD P w).is k v=true):RelV (kV k) v:=by
 rcases cP h with ⟨i,t,rfl,rfl⟩ | ⟨x,t,rfl,rfl⟩
 .exact⟨t,rfl⟩
 .exact⟨t,rfl⟩
theorem zT{P:qBy}{w:qDg}{h:Heap}{a:Addr}{vs:List (Key×qAl)}(d:h.DictOf (cD P w) a vs):∃ep,h.DictAt (cD P w) a vs ep:=by
 obtain⟨o,es,ep,r⟩:=d;exact⟨ep,o,es,r⟩
theorem Bt(r:KV kvs vs){its:List qAl}(hl:its.length=vs.length)(h:∀(i:Nat) (v:qAl),its[i]?=some v->∃k x,vs[i]?=some (k,x)/\(cD P w).is k v=true):Vals (kvs.map fun kv=>kV kv.1) its:=by
 have rl:=Paired.length r;refine lP (by rw[qAa];lia) fun i x u hx hu=>?_;obtain⟨k,y,e1,e2⟩:=h i u hu;rw[qAn] at hx;cases e:kvs[i]? with
 | none=>rw[e] at hx;cases hx
 | some kv =>
  rw[e] at hx;obtain rfl:kV kv.1=x:=Option.some.inj hx;obtain⟨q,hq,rq⟩:=lS r e;rw[e1] at hq;obtain rfl:(k,y)=q:=Option.some.inj hq;rw[show kv.1=k from rq.1];exact vG e2
theorem Bu{kvs:List (Key×V)}{vs:List (Key×qAl)}(r:KV kvs vs){its:List qAl}(hl:its.length=vs.length)(h:∀(i:Nat) (v:qAl),its[i]?=some v->∃k,vs[i]?=some (k,v)):Vals (kvs.map fun kv=>kv.2) its:=by
 have rl:=Paired.length r;refine lP (by rw[qAa];lia) fun i x u hx hu=>?_;obtain⟨k,e1⟩:=h i u hu;rw[qAn] at hx;cases e:kvs[i]? with
 | none=>rw[e] at hx;cases hx
 | some kv =>
  rw[e] at hx;obtain rfl:kv.2=x:=Option.some.inj hx;obtain⟨q,hq,rq⟩:=lS r e;rw[e1] at hq;obtain rfl:(k,u)=q:=Option.some.inj hq;exact rq.2
section
variable {X:Cx}
theorem gR(hc:X.calm=true):g6 X (.type "list") (fun xs H Q=>∃a kvs,xs=[.ref a]/\Rd H a (.dK kvs)/\∀l,H l=none->Q (.ref l) (upd H l (.lst (kvs.map fun kv=>kV kv.1)))):=by
 intro pins s σ H xs us Q I r h;obtain⟨a,kvs,rfl,hq,q⟩:=h;obtain⟨u,rfl,rx⟩:=vals1 r;cases rx;obtain⟨z,hd,vs,rel,dd⟩:=rA I.cO hq;obtain⟨ep,da⟩:=zT dd;have rl:=Paired.length rel;refine qMs (PySem.W.kdl_dict (knd:=cD X.prog X.w) hd) (I.ok.hd hc) da (by lia) fun h' tk acc c kp e hacc=>?_;refine⟨.ref s.heap.objs.size,_,I.laid (t':=tk) kp (qAg _) (show cU X.prog X.w _ h' _ (.lst (kvs.map fun kv=>kV kv.1)) from⟨by rw[qAa];exact z,acc.toList,c,Bt rel (by rw[qCa];exact hacc.1) fun i v hv=>hacc.2 i v (by rw[<- qDf];exact hv),by simpa using e⟩),rfl,q _ (I.cO.fresh (qAg _))⟩
def QG(td:TE):TE:=fun σ H Q=>td σ H fun x H1=>∃a kvs,x = .ref a/\Rd H1 a (.dK kvs)/\∀l,H1 l=none->Q (.ref l) (upd H1 l (.lst (kvs.map fun kv=>kv.2)))
theorem iS{o:Expr}{td:TE}{p pos apos cpos:Pos}(hg:Gl X "list")(hm:X.mg "list"=none)(hc:X.calm=true)(ho:PE X o td)
  (hbase:qGg o "values" X.env (eval o X.env)=eval o X.env:=by rfl) (hline:(apos.endLine == cpos.line)=true:=by rfl)
  (hs:qBt [.Call (.Attribute o "values" apos) [] [] cpos] X.env=[(false,eval (.Call (.Attribute o "values" apos) [] [] cpos) X.env)]:=by rfl) :
  PE X (.Call (.Name "list" p) [.Call (.Attribute o "values" apos) [] [] cpos] [] pos) (QG td):=by
 intro pins s σ H Q I h;refine qOg (fV I hg hm cW (qCg ?_ hs rfl));rw[hs];show qBj _ _ (qOt ((false,eval (.Call (.Attribute o "values" apos) [] [] cpos) X.env)::[])) _ _ s;refine qHe ?_;refine wpAny_Call_method0_late hbase hline (cG (ho pins s σ H _ I h) fun v s1 z9=>?_);obtain⟨x,H1,I1,r1,q1⟩:=z9;obtain⟨a,kvs,ex,hq,q⟩:=q1;subst ex;cases r1;obtain⟨z,hd,vs,rel,dd⟩:=rA I1.cO hq;have rl:=Paired.length rel;refine⟨"dict","dict.values",PySem.F.plainAttrs_dict,qKr,PySem.F.type_dict_values,dd.typeIs,fun b e=>?_,qHy rfl (PySem.evalArgs_none ?_)⟩
 .cases e
  obtain⟨o,es,ep,g1,g2,_⟩:=id dd;exact⟨o,g1,g2.2.1⟩
 refine call_meetsIn qKr dd.typeIs PySem.F.entry_dict_values (PySem.F.args_dict_values_1 _) (meets_dict_values (cD X.prog X.w) a hd) ⟨⟨vs,dd⟩,?_⟩;refine qHn ?_;have kp1:∀b o,s1.heap.get? b=some o->(s1.heap.push { cls:=.type "dict_values",data:=.fields #[.ref a] }).get? b=some o:=fun b o e=>qAh _ e;obtain⟨ep,da⟩:=zT dd;have I2:Inv X pins σ H1 { s1 with heap:=s1.heap.push { cls:=.type "dict_values",data:=.fields #[.ref a] } }:=I1.kept (t':=s1.toks) kp1;have vw:(s1.heap.push { cls:=.type "dict_values",data:=.fields #[.ref a] }).IsValuesView s1.heap.objs.size a:=⟨_,qAt _ rfl,rfl,rfl⟩;have da2:(s1.heap.push { cls:=.type "dict_values",data:=.fields #[.ref a] }).DictAt (cD X.prog X.w) a vs ep:=da.at' fun o e=>kp1 _ _ e;refine qMs (s:={ s1 with heap:=s1.heap.push { cls:=.type "dict_values",data:=.fields #[.ref a] } }) (PySem.W.kdl_values (knd:=cD X.prog X.w)) (I2.ok.hd hc) ⟨vw,da2⟩ (by lia) fun h' tk acc c kp e hacc=>?_;refine⟨.ref _,_,I2.laid (t':=tk) kp (qAg _) (show cU X.prog X.w _ h' _ (.lst (kvs.map fun kv=>kv.2)) from⟨by rw[qAa];exact z,acc.toList,c,Bu rel (by rw[qCa];exact hacc.1) fun i v hv=>hacc.2 i v (by rw[<- qDf];exact hv),by simpa using e⟩),rfl,q _ (I2.cO.fresh (qAg _))⟩
end
end L2
namespace L2
namespace ST
open PySem
def tG(xs:Array Nat):Prop:=∀(i j a b:Nat),xs[i]?=some a->xs[j]?=some b->i<j->a<b
theorem Nz(xs:Array Nat)(j:Nat)(hr:tG xs):∀(f lo hi:Nat),hi-lo<=f->lo<=hi->hi<=xs.size ->
  (∀i a,i<lo->xs[i]?=some a->a<j)->(∀i a,hi<=i->xs[i]?=some a->j<=a) ->
  SetTable.below.go xs j f lo hi<=xs.size/\(∀i a,i<SetTable.below.go xs j f lo hi->xs[i]?=some a->a<j)/\(∀i a,SetTable.below.go xs j f lo hi<=i->xs[i]?=some a->j<=a):=by
 intro f;induction f with
 | zero =>
  intro lo hi h1 h2 h3 h4 h5;have e:lo=hi:=by lia
  subst e;exact⟨h3,h4,h5⟩
 | succ f ih =>
  intro lo hi h1 h2 h3 h4 h5;unfold SetTable.below.go;by_cases hl:lo<hi
  .rw[if_pos hl];have hm:(lo+hi)/2<xs.size:=by lia
   have em:xs[(lo+hi)/2]?=some xs[(lo+hi)/2]:=qBo hm;have ed:xs.getD ((lo+hi)/2) j=xs[(lo+hi)/2]:=by
    rw[Array.getD_eq_getD_getElem?,em];rfl
   dsimp only;by_cases hc:xs.getD ((lo+hi)/2) j<j
   .rw[if_pos hc];refine ih _ _ (by lia) (by lia) h3 (fun i a hi' e=>?_) h5;rw[ed] at hc;rcases qAm i ((lo+hi)/2) with h | h
    .exact qPr (hr _ _ _ _ e em h) hc
    .have:i=(lo+hi)/2:=by lia
     subst this;rw[em] at e;have:=Option.some.inj e;lia
   .rw[if_neg hc];refine ih _ _ (by lia) (by lia) (by lia) h4 (fun i a hi' e=>?_);rw[ed] at hc;rcases qAm ((lo+hi)/2) i with h | h
    .have:=hr _ _ _ _ em e h;lia
    .have:i=(lo+hi)/2:=by lia
     subst this;rw[em] at e;have:=Option.some.inj e;lia
  .rw[if_neg hl];have e:lo=hi:=by lia
   subst e;exact⟨h3,h4,h5⟩
theorem pE(hr:tG xs)(j:Nat):SetTable.below xs j<=xs.size/\(∀i a,i<SetTable.below xs j->xs[i]?=some a->a<j)/\(∀i a,SetTable.below xs j<=i->xs[i]?=some a->j<=a):=by
 refine Nz xs j hr _ 0 _ (by lia) (qBn _) (qAg _) (fun i a h=>absurd h (qFx _)) (fun i a h e=>?_);rw[qDx h] at e;cases e
theorem x8(hr:tG xs){i a:Nat}(e:xs[i]?=some a):SetTable.below xs (a+1)=i+1:=by
 obtain⟨h1,h2,h3⟩:=pE hr (a+1);have hi:i<xs.size:=by
  rcases qAm i xs.size with h | h
  .exact h
  .rw[qDx h] at e;cases e
 rcases Nat.lt_trichotomy (SetTable.below xs (a+1)) (i+1) with h | h | h
 .have:=h3 i a (by lia) e;lia
 .exact h
 .have hs:i+1<xs.size:=by lia
  have e2:=qBo hs;have:=h2 (i+1) _ h e2;have:=hr i (i+1) _ _ e e2 (by lia);lia
theorem x9(hr:tG xs):SetTable.below xs 0=0:=by
 obtain⟨h1,h2,h3⟩:=pE hr 0;rcases qEx (SetTable.below xs 0) with h | h
 .exact h
 .have e:=qBo (xs:=xs) (i:=0) (by lia);exact absurd (h2 0 _ h e) (qFx _)
theorem FU:tG #[]:=fun i j a b e=>by simp at e
theorem Bv{l:List Nat}(h:l.Pairwise (· < ·)):tG l.toArray:=by
 intro i j a b e1 e2 hij;rw[qMc] at e1 e2;obtain⟨hi,rfl⟩:=List.getElem?_eq_some_iff.mp e1;obtain⟨hj,rfl⟩:=List.getElem?_eq_some_iff.mp e2;exact List.pairwise_iff_getElem.mp h i j hi hj hij
theorem j7(n:Nat):tG (Array.range n):=by
 intro i j a b e1 e2 hij;obtain⟨hi,e1⟩:=Array.getElem?_eq_some_iff.mp e1;obtain⟨hj,e2⟩:=Array.getElem?_eq_some_iff.mp e2;rw[Array.getElem_range] at e1 e2;lia
theorem yA(hr:tG xs){j:Nat}(hn:xs[SetTable.below xs j]?≠some j):tG (SetTable.insertAt xs (SetTable.below xs j) j):=by
 obtain⟨h1,h2,h3⟩:=pE hr j;generalize SetTable.below xs j=p at hn h1 h2 h3;have at_:∀i a,(SetTable.insertAt xs p j)[i]?=some a->(i<p/\xs[i]?=some a)\/(i=p/\a=j)\/(p<i/\xs[i-1]?=some a):=by
  intro i a e;delta SetTable.insertAt at e;rw[Array.getElem?_append,Array.size_push,qMw] at e;split at e
  .rename_i h;rw[Array.getElem?_push,qMw] at e;split at e
   .right;left
    exact⟨by lia,(Option.some.inj e).symm⟩
   .left
    rw[qLo] at e;split at e
    .rename_i h';exact⟨by lia,by simpa using e⟩
    .cases e
  .rename_i h;right;right;rw[qLo] at e;split at e
   .rename_i h';refine⟨by lia,?_⟩;rw[show i-1=p+(i-(min p xs.size-0+1)) by lia];exact e
   .cases e
 intro i k a b e1 e2 hik;rcases at_ i a e1 with ⟨a1,a2⟩ | ⟨a1,a2⟩ | ⟨a1,a2⟩ <;> rcases at_ k b e2 with ⟨b1,b2⟩ | ⟨b1,b2⟩ | ⟨b1,b2⟩
 .exact hr _ _ _ _ a2 b2 hik
 .rw[b2];exact h2 _ _ a1 a2
 .exact hr _ _ _ _ a2 b2 (by lia)
 .lia
 .lia
 .rw[a2];have:=h3 _ _ (by lia) b2;rcases qAm j b with h | h
  .exact h
  .have ej:b=j:=by lia
   subst ej;exfalso;rcases qAm p (k-1) with h' | h'
   .have hp:p<xs.size:=by
     have:k-1<xs.size:=by
      rcases qAm (k-1) xs.size with z | z
      .exact z
      .rw[qDx z] at b2;cases b2
     lia
    have e:=qBo hp;have:=h3 _ _ (qAg _) e;have:=hr _ _ _ _ e b2 h';lia
   .rw[show k-1=p by lia] at b2;exact hn b2
 .lia
 .lia
 .exact hr _ _ _ _ a2 b2 (by lia)
theorem Bw{t:qGu}{j:Nat}(h:∀i,t.slot j≠.live i):t.place[SetTable.below t.place j]?≠some j:=by
 intro e;refine h (SetTable.below t.place j) ?_;delta SetTable.slot;dsimp only;rw[e];simp
theorem kY:∀(n:Nat) (p:SetTable.Probe) (j:Nat) (d:Option Nat),(∀x,p.dummy=some x->∀i,t.slot x≠.live i)->SetTable.probe.go t f h n p=some (.empty j d)->(∀i,t.slot j≠.live i)/\∀x,d=some x->∀i,t.slot x≠.live i
 | 0,p,j,d,_,e=>by cases e
 | n+1,p,j,d,hp,e=>by
  unfold SetTable.probe.go at e;cases hs:t.slot p.j with
  | empty =>
   rw[hs] at e;dsimp only at e;injection e with e;injection e with e1 e2;subst e1;subst e2;exact⟨fun i=>by (rw[hs];exact fun z=>nomatch z),hp⟩
  | dummy =>
   rw[hs] at e;dsimp only at e;refine kY n _ j d (fun x hx=>?_) e;have:some p.j=some x:=by
    rw[<- hx];unfold SetTable.advance;split <;> rfl
   rw[<- Option.some.inj this];exact fun i=>by rw[hs];exact fun z=>nomatch z
  | live i =>
   rw[hs] at e;dsimp only at e;split at e
   .injection e with e
    cases e
   .refine kY n _ j d (fun x hx=>?_) e;refine hp x ?_;rw[<- hx];unfold SetTable.advance;split <;> rfl
theorem qN{t:qGu}{h:Int}{j:Nat}{b:Bool}(e:t.freeSlot h=some (j,b)):t.place[SetTable.below t.place j]?≠some j:=by
 delta SetTable.freeSlot at e;split at e
 .rename_i j' d hm;injection e with e;injection e with e1 e2;subst e1;obtain⟨a1,a2⟩:=kY _ _ _ _ (fun x hx=>by cases hx) hm;refine Bw fun i=>?_;cases d with
  | none=>exact a1 i
  | some x=>exact a2 x rfl i
 .cases e
theorem qO{t:qGu}{n:Nat}(h:tG t.place):tG (t.orStandIn n).place:=by
 delta SetTable.orStandIn;split
 .exact h
 .exact j7 n
theorem vH(t:qGu)(n:Nat):(t.orStandIn n).led=t.led:=by
 delta SetTable.orStandIn;split <;> rfl
theorem yB{t:qGu}{es:Array (Int×qAl)}{h:Int}{x:qAl}(hr:tG t.place):tG (layNew t es h x).2.1.place/\(layNew t es h x).2.1.led=t.led:=by
 delta layNew;split
 .rename_i j b e;exact⟨qO (yA hr (qN e)),vH _ _⟩
 .exact⟨j7 _,rfl⟩
theorem Dd{mask finger moves:Nat}{led qOu:Bool}{hs:Array Int}{t':qGu}{order:Array Nat}(e:SetTable.laid mask finger moves led qOu hs=some (t',order)):tG t'.place/\t'.led=led:=by
 delta SetTable.laid at e;cases hl:SetTable.layClean mask hs with
 | none=>rw[hl] at e;cases e
 | some owner =>
  rw[hl] at e;have e:=Option.some.inj e;injection e with e1 e2;subst e1;refine⟨Bv ?_,rfl⟩;rw[qJh];refine List.Pairwise.filterMap (R:=(· < ·)) _ (fun a a' haa b hb b' hb'=>?_) qIb;rw[Option.map_map] at hb hb';cases ho:owner.getD a none with
  | none=>rw[ho] at hb;cases hb
  | some z =>
   cases ho':owner.getD a' none with
   | none=>rw[ho'] at hb';cases hb'
   | some z' =>
    rw[ho] at hb;rw[ho'] at hb';have:=Option.some.inj hb;have:=Option.some.inj hb';simp only[Function.comp] at *;lia
theorem Bx:tG (qKl t es n).2.1.place/\(qKl t es n).2.1.led=t.led:=by
 delta qKl;split
 .rename_i t' order e;dsimp only;split
  .exact Dd e
  .exact⟨j7 _,rfl⟩
 .exact⟨j7 _,rfl⟩
end ST
end L2
namespace L2
namespace ST
open PySem PySem.Spec PyProof.Rows
noncomputable def iv:qAl->Int
 | .int n _=>n
 | _=>0
def fJ(P:qBy)(w:qDg)(h:Heap)(a:Addr)(σ:List Int):Prop :=
 ∃o es ep t,h.get? a=some o/\o.ExactSet/\o.data = .set es ep t/\qNo (qFz P w) es.toList/\(es.toList.map fun e=>iv e.2).Perm σ/\es.size<qFu/\t.fits es.size=true/\tG t.place/\t.led = !w.params.followText "set-order"
theorem Hh(h:(qFz P w).is k v=true):iv v=k:=by
 obtain⟨t,rfl⟩:=Value.isInt_shape (k:=k) (v:=v) h;rfl
theorem fJ.at'(x:fJ P w h a σ)(e:∀o,h.get? a=some o->h'.get? a=some o):fJ P w h' a σ:=by
 obtain⟨o,es,ep,t,ho,r⟩:=x;exact⟨o,es,ep,t,e _ ho,r⟩
section
variable {prog:qBy}{w:qDg}{A:qDl}{E:qAl->qAp->Prop}{s:qAp}
theorem nS{h:Heap}{a:Addr}{o:Obj}{es:Array (Int×qAl)}{ep:Nat}{t:qGu}(ho:h.get? a=some o)(hex:o.ExactSet)(hd:o.data = .set es ep t)
  {es':Array (Int×qAl)}{t':qGu}{σ:List Int} (hel:qNo (qFz prog w) es'.toList) (hmem:(es'.toList.map fun e=>iv e.2).Perm σ) (hb:es'.size<qFu) (hf:t'.fits es'.size=true) (hr:tG t'.place) (hl:t'.led = !w.params.followText "set-order") :
  (h.update a (Obj.putSet es' t')).get? a=some { o with data:=.set es' (ep+1) t' }/\fJ prog w (h.update a (Obj.putSet es' t')) a σ:=by
 have hg:(h.update a (Obj.putSet es' t')).get? a=some { o with data:=.set es' (ep+1) t' }:=by
  have:=qDh (Obj.putSet es' t') ho (by rw[putSet_of es' t' hd];rfl);rw[putSet_of es' t' hd] at this;exact this
 exact⟨hg,_,es',ep+1,t',hg,hex,rfl,hel,hmem,hb,hf,hr,hl⟩
theorem zU{g:Bool->Sem Unit}(hg:∀(b:Bool) (s₁:qAp) (Q':Unit->qAp->Prop),Q' () s₁->qBj (qBz prog w) A (g b) Q' E s₁)
  {a:Addr}{o:Obj}{es:Array (Int×qAl)}{ep:Nat}{t:qGu} (ho:s.heap.get? a=some o) (hex:o.ExactSet) (hd:o.data = .set es ep t)
  {es1:Array (Int×qAl)}{t2:qGu}{σ:List Int} (hel1:qNo (qFz prog w) es1.toList) (hmem1:(es1.toList.map fun e=>iv e.2).Perm σ)
  (hb1:es1.size<qFu) (hf2:t2.fits es1.size=true) (hr2:tG t2.place) (hl2:t2.led = !w.params.followText "set-order"){wasDummy:Bool}{R:Option Bool->qAp->Prop}
  (h:∀h',qFh a s.heap h'->fJ prog w h' a σ->R (some true) { s with heap:=h' }) :
  qBj (qBz prog w) A (do
    storeSet a es1 t2
    if (!wasDummy&&t2.tooFull)=true then do
      g (qKl t2 es1 (SetTable.grown es1.size)).2.2
      storeSet a (qKl t2 es1 (SetTable.grown es1.size)).1 (qKl t2 es1 (SetTable.grown es1.size)).2.1
      pure (some true)
     else pure (some true)) R E s:=by
 refine qAb (wpAny_storeSet_of ho hd ?_ (fits_of_scanBound hb1));obtain⟨ho1,hS1⟩:=nS (prog:=prog) (w:=w) ho hex hd hel1 hmem1 hb1 hf2 hr2 hl2;have hsb1:=Heap.SameBut.update s.heap a (Obj.putSet es1 t2);split
 .have hp:=relayAll_perm t2 es1 (SetTable.grown es1.size);have hfr:=relayAll_fits t2 es1 (SetTable.grown es1.size);obtain⟨hrr,hlr⟩:=Bx (t:=t2) (es:=es1) (n:=SetTable.grown es1.size);generalize hRl:qKl t2 es1 (SetTable.grown es1.size)=Rl at hp hfr hrr hlr|-;obtain⟨es2,t3,gave2⟩:=Rl;dsimp only at hp hfr hrr hlr|-;have hel2:qNo (qFz prog w) es2.toList:=hel1.perm hp;have hmem2:(es2.toList.map fun e=>iv e.2).Perm σ:=(hp.map _).trans hmem1;have hsz:es2.size=es1.size:=by rw[<- qCa,hp.length_eq,qCa]
  have hb2:es2.size<qFu:=by rw[hsz];exact hb1
  refine qAb (hg _ _ _ ?_);refine qAb (wpAny_storeSet_of ho1 rfl ?_ (fits_of_scanBound hb2));obtain⟨_,hS2⟩:=nS (prog:=prog) (w:=w) ho1 hex rfl hel2 hmem2 hb2 hfr hrr (hlr.trans hl2);exact qAe (h _ (hsb1.trans (Heap.SameBut.update _ a _)) hS2)
 .exact qAe (h _ hsb1 hS1)
theorem Jq(hS:fJ prog w s.heap a σ)(hroom:σ.length+1<qFu)
  (h:∀h' b,qFh a s.heap h'->fJ prog w h' a (qLd σ k)->Q b { s with heap:=h' }) :
  qBj (qBz prog w) A (setAddHashed a (.int k tk) (hashInt k)) Q E s:=by
 obtain⟨o,es,ep,t,ho,hex,hd,hel,hmem,hb,hf,hr,hl⟩:=id hS;have hkey:(qFz prog w).is k (.int k tk)=true:=intKind_is _ _ _ _;have hsc:(Value.int k tk).scannable=true:=rfl;have hn:es.size=σ.length:=by rw[<- hmem.length_eq,qAa,qCa]
 have hb1:es.size+1<qFu:=by rw[hn];exact hroom
 delta setAddHashed setAddHashedIn;refine qDm (qAb (qFo ho hd hf ?_));dsimp only;rw[byScan_of hsc hb hel];simp only[↓reduceIte];delta setAddByScan;refine qAb ?_;refine qAb (qGq ?_);refine qAb (wpAny_setScan_of (knd:=qFz prog w) hkey ho hd hf hel ?_);cases hr':List.findIdx? (fun e=>(qFz prog w).is k e.2) es.toList with
 | some j =>
  dsimp only;obtain⟨hj,hpj,_⟩:=List.findIdx?_eq_some_iff_getElem.mp hr';have hk:k∈σ:=hmem.mem_iff.mp (List.mem_map.mpr ⟨_,qDa hj,Hh hpj⟩);refine qAe (qAe ?_);have e:s={ s with heap:=s.heap }:=by cases s;rfl
  rw[e];refine h s.heap false (Heap.SameBut.refl a s.heap) ?_;delta qLd;rw[if_pos (List.any_eq_true.mpr ⟨k,hk,by simp⟩)];exact hS
 | none =>
  dsimp only;have hk:k∉σ:=fun hk=>by
   obtain⟨e,he,q⟩:=List.mem_map.mp (hmem.mem_iff.mpr hk);have hno:=List.findIdx?_eq_none_iff.mp hr' e he;obtain⟨⟨k',hk',_⟩,_⟩:=hel e he;have:k'=k:=by rw[<- Hh hk',q]
   rw[this] at hk';rw[hk'] at hno;cases hno
  have hgw:∀(b:Bool){s₁:qAp}{Q':Unit->qAp->Prop},Q' () s₁->qBj (qBz prog w) A (match b with | true=>rule "set.scan.the-table-gave-way" | false=>pure ()) Q' E s₁ :=
   fun b s₁ Q' hq=>by cases b <;> first | exact qAe hq | exact qGq hq
  have hperm:=layNew_perm t es ((qFz prog w).hash k) (.int k tk);have hfits:=layNew_fits t es ((qFz prog w).hash k) (.int k tk);obtain⟨hris,hled⟩:=yB (es:=es) (h:=(qFz prog w).hash k) (x:=.int k tk) hr;rw[show hashInt k=(qFz prog w).hash k from rfl];generalize hL:layNew t es ((qFz prog w).hash k) (.int k tk)=L at hperm hfits hris hled|-;obtain⟨es1,t1,wasDummy,gave⟩:=L;dsimp only at hperm hfits hris hled|-;rw[qNk] at hperm;have hel1:qNo (qFz prog w) es1.toList:=(hel.push hkey hsc).perm hperm;have hmem1:(es1.toList.map fun e=>iv e.2).Perm (qLd σ k):=by
   delta qLd;rw[if_neg (fun z=>by
    obtain⟨x,hx,e⟩:=List.any_eq_true.mp z;rw[eq_of_beq e] at hx;exact hk hx)]
   refine(hperm.map _).trans ?_;rw[qAr];exact hmem.append_right _
  have hb1':es1.size<qFu:=by rw[<- qCa,hperm.length_eq,qAj,qCa];simpa using hb1
  refine qAb (hgw _ ?_);split
  .refine qAb ?_;rw[hashByValue_scannable 8 hsc];refine qAe ?_;refine zU ?_ ho hex hd hel1 hmem1 hb1' ?_ ?_ ?_ ?_
   .intro b s₁ Q' hq;cases b <;> first | exact qAe hq | exact qGq hq
   .split
    .exact hfits
    .exact SetTable.fits_plain_off hfits
   .split
    .exact hris
    .exact hris
   .split
    .exact hled.trans hl
    .exact hled.trans hl
   .intro h' hsb hS';dsimp only;exact qAe (h h' true hsb hS')
  .refine qAb (qAe ?_);simp only[↓reduceIte];refine zU ?_ ho hex hd hel1 hmem1 hb1' hfits hris (hled.trans hl) ?_
   .intro b s₁ Q' hq;cases b <;> first | exact qAe hq | exact qGq hq
   .intro h' hsb hS';dsimp only;exact qAe (h h' true hsb hS')
end
section
variable {prog:qBy}{w:qDg}{A:qDl}{R:qQe->qAp->Prop}{I:Addr}{fp wr:List Addr}{G:Array qPh->Array qPh->Prop}{n:Nat}{P:Nat->qAl->Prop}{St:Nat->qAp->Prop}
theorem vI(W:WalksS prog w A.in1 I fp wr G n P St)(S:Addr)(hSf:S∉fp)
  (val:Nat->Int) (hval:∀i v,P i v->∃t,v = .int (val i) t) (hb:n+1<qFu) :
  ∀(k i:Nat) (s:qAp),n-i=k->i<=n->St i s ->
   fJ prog w s.heap S (qIq val i) ->
   (∀s',Moved (S::wr) G s s'->fJ prog w s'.heap S (qIq val n)->R (.ok (.ret .none)) s') ->
   qHp (qBz prog w) A (.builtin "set.update.loop" ⟨[.ref S,.ref I],[]⟩) R s:=by
 have hSw:S∉wr:=fun h=>hSf (W.sub _ h);have hsub:∀b∈wr,b∈S::wr:=fun b hb=>qBr _ hb;intro k;induction k with
 | zero =>
  intro i s hk hi hst hS hR;have hin:i=n:=by lia
  subst hin;refine qFm PyProof.Rows.F.entry_set_update_loop ?_;rw[Around.under_plainId PyProof.Rows.F.plain_set_update_loop _];show qBj _ A.in1 (qJc (.ref I) >>= _) _ _ s;refine qAb (W.done s _ _ hst fun s' hm=>?_);show qBj _ A.in1 (ret Value.none) _ _ s';exact qAe (hR s' (hm.mono hsub) (hS.at' fun o e=>hm.heap S _ hSw e))
 | succ k ih =>
  intro i s hk hi hst hS hR;have hlt:i<n:=by lia
  refine qFm PyProof.Rows.F.entry_set_update_loop ?_;rw[Around.under_plainId PyProof.Rows.F.plain_set_update_loop _];show qBj _ A.in1 (qJc (.ref I) >>= _) _ _ s;refine qAb (W.item i s _ _ hlt hst fun v s' hP hst' hm=>?_);obtain⟨t,rfl⟩:=hval i v hP;have hS':fJ prog w s'.heap S (qIq val i):=hS.at' fun o e=>hm.heap S _ hSw e;show qBj _ A.in1 (qLw [Value.int (val i) t] (setAdd S (.int (val i) t)) >>= _) _ _ s';refine qAb (qDm ?_);delta setAdd;refine qDm ?_;refine qAb ((qFz prog w).pyHash (k:=val i) (intKind_is _ _ _ _) ?_);have hroom:(qIq val i).length+1<qFu:=by have:=firstMet_length_le val i;lia
  refine Jq (s:={ s' with toks:=s'.toks+1 }) hS' hroom fun h' b hsb hS2=>?_;have hSi:fJ prog w h' S (qIq val (i+1)):=by rw[firstMet_succ];exact hS2
  refine qAe ⟨qIo PyProof.Rows.F.plain_set_update_loop _,ih (i+1) _ (by lia) hlt (W.frame _ s' _ _ hst' (qFi _) fun b hb o e=>?_) hSi fun s'' hm'' hS''=>?_⟩
  .rw[hsb.2 b (fun h:b=S=>hSf (by rw[<- h];exact hb))];exact e
  .refine hR s'' (Moved.trans W.gtrans ((hm.mono hsub).then_heap (qFi _) fun b o hb e=>?_) hm'') hS'';rw[hsb.2 b (fun h:b=S=>hb (by rw[h];exact qCi))];exact e
end
end ST
end L2
namespace PySem
namespace ST
open L2.ST
section
variable {prog:qBy}{w:qDg}{A:qDl}{E:qAl->qAp->Prop}{s:qAp}
noncomputable def dH(w:qDg):Obj:={ cls:=.type "set",dict:=none,data:=.set #[] 0 (.fresh 0 0 (!w.params.followText "set-order")) }
theorem De(e:h.get? a=some (dH w)):fJ prog w h a [] :=
 ⟨dH w,#[],0,_,e,⟨rfl,rfl,rfl⟩,rfl,fun e he=>by simp at he,List.Perm.refl _,by decide,by rfl,L2.ST.FU,rfl⟩
theorem n6(a:qAl){Q₁:qAl->qAp->Prop}
  (h:Q₁ (.ref s.heap.objs.size) { s with heap:=s.heap.push (dH w) }) :
  qHp (qBz prog w) A (.call (.builtin "set.__new__") ⟨[.type "set",a],[]⟩) (wants Q₁ E) s:=by
 refine codeAny_of_tree ?_;show qBj _ A.in1 (do checkBuiltinCall "set.__new__" ⟨[.type "set",a],[]⟩;qNn (.builtin "set.__new__" ⟨[.type "set",a],[]⟩)) _ _ s;refine qAb (qGr (F.newCall_set_1 a) (qAe ⟨qIo F.plain_set_new _,qFm F.entry_set_new ?_⟩));rw[Around.under_plainId F.plain_set_new _];delta Builtin.«set.__new__» Builtin.Frozenset.newClass;have hsub:=sub_set_self;obtain⟨hp,g,d,tk,os⟩:=s;dsimp only;wp_walk;refine qFw (qAe ?_);dsimp only;simp only[newObj];refine qAb (wpAny_alloc (qAe ?_));exact qAe h
set_option maxHeartbeats 3200000 in
theorem vJ
  (hh:A.handled=none) (hl:s.heap.IsList l items) (hi:qPp items.toList ns) (hb:items.size+1<qFu)
  (h:∀(h':Heap) (tk:Nat),fJ prog w h' s.heap.objs.size (qJw (fun i=>ns.getD i 0) items.size) ->
   (∀b o,b<s.heap.objs.size->s.heap.get? b=some o->h'.get? b=some o)->Q (.ref s.heap.objs.size) { s with heap:=h',toks:=tk }) :
  qBj (qBz prog w) A (call (.type "set") [.ref l]) Q E s:=by
 obtain⟨c,tl,hmro⟩:=F.called_set.mro;have hmade:=F.called_set.made;have hsub:=F.called_set.sub;refine qJl (codeAny_of_tree ?_);show qBj _ _ (callAny (.type "set") _) _ _ _;refine qAe ⟨Code.quiet_builtin _ #[2],qFm F.entry_type_call ?_⟩;rw[Around.under_plain (weight_type_call_type "set" [.ref l] []) rfl];have h1:=F.called_set.notType;have h2:=F.called_set.canCreate;have hct:=F.typeCall_set_1 (.ref l);repeat (any_goals (first | assumption | wp_step))
 refine qGb (n6 (.ref l) (E:=E) (Q₁:=fun obj s₁=>obj = .ref s.heap.objs.size/\s₁={ s with heap:=s.heap.push (dH w) }) ⟨rfl,rfl⟩) fun r s₁ hr=>?_;cases r with
 | error e=>exact hr
 | ok fl =>
  cases fl with
  | ret obj =>
   obtain⟨rfl,rfl⟩:=hr;have hS:(s.heap.push (dH w)).get? s.heap.objs.size=some (dH w):=qAt _ rfl;have hT:Shared.TypeIs { s with heap:=s.heap.push (dH w) } (.ref s.heap.objs.size) "set":=⟨_,hS,rfl⟩;have hli:=F.called_set.init.lookup;have hbi:=F.called_set.init.bind (.ref s.heap.objs.size);repeat (any_goals (first | assumption | wp_step))
   refine qGb (codeAny_call_builtin (R:=wants (fun r s₂=>r = .none/\∃h' tk,s₂={ s with heap:=h',toks:=tk } /\
     fJ prog w h' s.heap.objs.size (qJw (fun i=>ns.getD i 0) items.size) /\
     (∀b o,b<s.heap.objs.size->s.heap.get? b=some o->h'.get? b=some o)) E) F.called_set.init.plain F.entry_set_init (check_set_init_1 hT ?_)) fun r₂ s₂ hr₂=>?_
   .obtain⟨ol,hol,hcl,nl,hdl⟩:=hl;obtain⟨ocls,odict,odata,oslots⟩:=ol;simp only at hcl hdl;subst hcl;subst hdl;have hol':(s.heap.push (dH w)).get? l=some { cls:=.type "list",dict:=odict,data:=.seq items nl,slots:=oslots }:=qAh _ hol;have hsls:=F.sub_list_set;have hslf:=F.sub_list_frozenset;have hne:(Value.type "list" == Value.type "dict")=false:=by decide
    have hl1:(s.heap.push (dH w)).IsList l items:=⟨_,hol',rfl,nl,rfl⟩;delta Builtin.«set.__init__» noKeywords Builtin.Frozenset.updateFrom;generalize hPI:qNa=PI;wp_walk;subst hPI;refine qIc hl1 ?_;refine qAb (wpAny_runValue ?_);have hlS:l<s.heap.objs.size:=qAs hol;have hh3:A.in1.in1.in1.handled=none:=by simp[hh]
    have hneI:l≠(s.heap.push (dH w)).objs.size:=by
     rw[qDj];exact qBg (qHu hlS)
    have hSf:s.heap.objs.size∉[(s.heap.push (dH w)).objs.size,l]:=by
     rw[qDj];simp only[qEd,qJg,qDe,or_false,not_or];exact⟨qBg (qGp _),qGk hlS⟩
    have hval:∀(i:Nat) (v:qAl),items[i]?=some v->∃t,v = .int ((fun i=>ns.getD i 0) i) t:=fun i v hv =>
     PyProof.Rows.IntsAre.int_at hi i v (by rw[qDf];exact hv)
    refine L2.ST.vI ((Walks.list hh3 _ l hneI items).toS) s.heap.objs.size
     hSf (fun i=>ns.getD i 0) hval hb (items.size-0) 0 _ (by lia) (qBn _)
     ⟨⟨_,qAt _ rfl,rfl,rfl⟩,(hl1.push _)⟩ ?hS0 ?hR
    case hS0=>exact De (qAh _ hS)
    case hR =>
     intro s' hm hS';obtain⟨h',g',d',tk',os'⟩:=s';have eg:g'=s.gens:=hm.gens;have ed:d'=s.drawn:=hm.drawn;have eo:os'=s.os:=hm.os;subst eg;subst ed;subst eo;show qBj _ _ _ _ _ _;refine qAe ?_;show qBj _ _ (ret Value.none) _ _ _;refine qAe ⟨rfl,h',tk',rfl,hS',fun b o hb e=>?_⟩;have hb1:b≠s.heap.objs.size:=qBg hb;have hb2:b≠(s.heap.push (dH w)).objs.size:=by
      rw[qDj];exact qBg (qHu hb)
     exact hm.heap b o (by simp only[qEd,qJg,qDe,or_false,not_or];exact⟨hb1,hb2⟩) (qAh _ (qAh _ e))
   .cases r₂ with
    | error e=>exact hr₂
    | ok fl₂ =>
     cases fl₂ with
     | ret r =>
      obtain⟨rfl,h',tk,rfl,hS',hk'⟩:=hr₂;repeat (any_goals (first | assumption | wp_step))
      exact h _ _ hS' hk'
     | next=>exact hr₂.elim
     | brk=>exact hr₂.elim
     | cont=>exact hr₂.elim
  | next=>exact hr.elim
  | brk=>exact hr.elim
  | cont=>exact hr.elim
end
end ST
end PySem
namespace PySem
namespace ST
open L2.ST
theorem cX:Slot "set_iterator" "__next__" "set_iterator.__next__" :=
 .of (owner:="set_iterator") (n:="__next__") (by rw[typeLookup_type,builtinLookup_eq_fast];kernel_rfl) #[2] #[2] #[2]
  (by first|exact .inl #[2] | exact .inr #[2]) (by rw[isSubtype_type];kernel_rfl)
theorem kM:entryFor table "set_iterator.__next__"=some Builtin.«set_iterator.__next__»:=entryFor_of_tree (by kernel_rfl)
theorem vK:Manifest.owners.lookup (String.ofList ['r','o','t','a','r','e','t','i','_','t','e','s'].reverse)=some Manifest.sig_set_iterator:=by kernel_rfl
theorem lT(a:qAl):argsOk "set_iterator.__next__" ⟨[a],[]⟩:=by
 delta argsOk;rw[signature?_of (id:="set_iterator.__next__") (n:=['_','_','t','x','e','n','_','_']) (o:=['r','o','t','a','r','e','t','i','_','t','e','s']) (by kernel_rfl) vK];kernel_rfl
theorem pF:entryFor table "set.__iter__"=some Builtin.«frozenset.__iter__» :=
 entryFor_alias (id':="frozenset.__iter__") (by kernel_rfl) rfl #[2] (by kernel_rfl)
noncomputable def kN(first:qAl)(i:Nat)(S:Addr)(n ep:Nat):Obj:={ cls:=.type "set_iterator",dict:=none,data:=.fields #[first,.int i 0,.ref S,.int n 0,.int ep 0],slots:=#[] }
section
variable {prog:qBy}{w:qDg}{A:qDl}{E:qAl->qAp->Prop}{s:qAp}{I S:Addr}{o:Obj}{es:Array (Int×qAl)}{ep:Nat}{t:qGu}
theorem kZ:∀(l:List α) (k:Nat) (h:k<l.length),(l[k]::l.eraseIdx k).Perm l
 | [],k,h=>by cases h
 | x::xs,0,h=>List.Perm.refl _
 | x::xs,k+1,h=>(List.Perm.swap _ _ _).trans ((kZ xs k (by simpa using h)).cons x)
theorem yC(hn:n≠0)(h:∀k d,k<n->Q k { s with drawn:=d }):qBj (qBz prog w) A (choose src n) Q E s:=by
 intro Γ p hΓ;exact⟨hn,h _ _ (qNy _ (qNq hn))⟩
theorem kO:∀(n:Nat) (xs:List α) (s:qAp){Q:List α->qAp->Prop},xs.length=n->(∀ys d,ys.Perm xs->Q ys { s with drawn:=d })->qBj (qBz prog w) A (drawOrder n xs) Q E s
 | 0,xs,s,Q,hl,h=>by
  obtain rfl:xs=[]:=List.length_eq_zero_iff.mp hl;unfold drawOrder;refine qAe ?_;have:=h [] s.drawn (List.Perm.refl _);cases s;exact this
 | n+1,[],s,Q,hl,h=>by cases hl
 | n+1,x::xs,s,Q,hl,h=>by
  unfold drawOrder;refine qAb (yC (by simp) fun k d hk=>?_);rw[qAc hk];dsimp only;refine qAb (kO n _ _ ?_ fun ys d' hp=>?_)
  .rw[qKz hk];simpa using hl
  .refine qAe (h _ d' ?_);exact(hp.cons _).trans (kZ _ _ hk)
theorem yD(ho:s.heap.get? S=some o)(hex:o.ExactSet)(hd:o.data = .set es ep t)(hf:t.fits es.size=true)(hz:es.size<qFu)
  (h1:(w.params.followText "set-order"=true\/(w.params.followText "set-order"=false/\((!t.plain&&decide (es.size>1))=false)))->Q (.ref s.heap.objs.size) { s with heap:=s.heap.push (kN (.int 0 0) 0 S es.size ep) })
  (h2:w.params.followText "set-order"=false->∀(ys:List Nat) d,ys.Perm (qAk es.size)->Q (.ref (s.heap.objs.size+1)) { s with heap:=(s.heap.push { cls:=.type "tuple",data:=.seq (ys.map fun(i:Nat)=>Value.int i 0).toArray }).push (kN (.ref s.heap.objs.size) 0 S es.size ep),drawn:=d }) :
  qBj (qBz prog w) A (qNa (.ref S)) Q E s:=by
 have hT:s.TypeIs (.ref S) "set":=⟨o,ho,hex.1⟩;refine wpAny_pyIter_slot hT F.slot_set_iter (qEc F.slot_set_iter hT pF ?_ (F.args_set_iter_1 _));delta Builtin.«frozenset.__iter__» Builtin.Frozenset.slot0 slotArgs;simp only[List.isEmpty_nil,qPc,qFv,↓reduceIte,bind_assoc,qKu,bne_self_eq_false];delta Builtin.Frozenset.addrOf Builtin.Frozenset.sizeOf;refine qAb (qAe ?_);try dsimp only
 refine qAb (qAe ?_);refine qAb (qAb (wpAny_setEntries_of ho hd hf (qAe ?_)));delta setDrawn;refine qAb ?_;refine qAb (qFo ho hd hf ?_);dsimp only;delta qMz;refine qAb (qAb (qFw (qAe ?_)));refine qAe ?_;show qBj _ _ (if ((!w.params.followText "set-order")&&(!t.plain&&decide (es.size>1)))=true then _ else _) _ _ s;cases hT1:w.params.followText "set-order" with
 | true =>
  rw[if_neg (by simp)];refine qAb (qAe ?_);refine qAb (wpAny_setEpoch_of ho hd hf ?_);refine qAb ?_;delta newFields;refine qCk (qAe ⟨_,rfl,"set_iterator",_,⟨_,qAt _ rfl,rfl⟩,cX.lookup,h1 (.inl hT1)⟩)
 | false =>
  cases hD:(!t.plain&&decide (es.size>1)) with
  | false =>
   rw[if_neg (by simp)];refine qAb (qAe ?_);refine qAb (wpAny_setEpoch_of ho hd hf ?_);refine qAb ?_;delta newFields;refine qCk (qAe ⟨_,rfl,"set_iterator",_,⟨_,qAt _ rfl,rfl⟩,cX.lookup,h1 (.inr ⟨hT1,hD⟩)⟩)
  | true =>
   rw[if_pos (by simp)];refine qAb (kO es.size _ s (qAu) fun ys d hp=>?_);refine qAb (wpAny_newTuple ?_ (by rw[qAa,hp.length_eq,qAu];exact fits_of_scanBound hz));have ho1:(s.heap.push { cls:=.type "tuple",data:=.seq (ys.map fun(i:Nat)=>Value.int i 0).toArray }).get? S=some o:=qAh _ ho;refine qAb (wpAny_setEpoch_of ho1 hd hf ?_);refine qAb ?_;delta newFields;refine qCk (qAe ⟨_,rfl,"set_iterator",_,⟨_,qAt _ rfl,rfl⟩,cX.lookup,?_⟩);have:=h2 hT1 ys d hp;rw[show s.heap.objs.size+1=(s.heap.push { cls:=.type "tuple",data:=.seq (ys.map fun(i:Nat)=>Value.int i 0).toArray }).objs.size by rw[qDj]] at this;exact this
theorem rD(hh:A.handled=none)(hit:s1.heap.get? I=some (kN first i S n ep))(hQ:∀h',qKw I s1.heap h'->Q none { s1 with heap:=h' }):
  qBj (qBz prog w) A.in1 (do setField (Value.ref I) 2 Value.none;let e <- qQc (Value.type "StopIteration") [];raiseNew e)
   (fun(fin:Fin) s'=>∃v,fin=Fin.done (Flow.ret v)/\qBj (qBz prog w) A (pure (some v)) Q E s')
   (fun e s'=>qBj (qBz prog w) A (do let b <- isInstance e (Value.type "StopIteration");if b=true then pure none else throw e) Q E s') s1:=by
 refine qAb (qFt hit rfl (by simp) ?_);show qBj _ _ (qQc (.type "StopIteration") [] >>= _) _ _ _;refine qAb ?_;simp only[qQc,newTuple];refine qAb (qCk ?_ (by size_fits));refine qAb (m:=qJq _ _) (qGr (a:=Value.none) (by first | rfl | (simp only[qJq];rfl)) ?_)
 refine qCk ?_ (by size_fits);delta raiseNew;refine qAb (wpAny_handled ?_);rw[show A.in1.handled=none from hh];refine qAb (qAe (wpAny_throw ?_));refine qAb (wpAny_isInstance (T:="StopIteration") (b:=true) ⟨_,qAt _ rfl,rfl⟩ isSubtype_stop ?_);exact qAe (hQ _ (((Heap.SameBut.update ..).extBut.push _).push _))
theorem vL{i n slot:Nat}{Q:Option qAl->qAp->Prop}(hh:A.handled=none)(hit:s.heap.get? I=some (kN (.int slot 0) i S n ep))(ho:s.heap.get? S=some o)(hd:o.data = .set es ep t)(hf:t.fits es.size=true)(hn:es.size=n)
  (h:qBj (qBz prog w) A.in1 (qNl S slot i ep) (fun r s1=>s1=s/\match r with
   | some (x,nx)=>∀h',h'.get? I=some (kN (.int nx 0) (i+1) S n ep)->qFh I s.heap h'->Q (some x) { s with heap:=h' }
   | none=>∀h',qKw I s.heap h'->Q none { s with heap:=h' }) (fun _ _=>False) s) :
  qBj (qBz prog w) A (qJc (.ref I)) Q E s:=by
 have hT:s.TypeIs (.ref I) "set_iterator":=⟨_,hit,rfl⟩;delta qJc;refine qAb (qHj (qEr (name:=Str.ofString "__next__") hT cX
  (qEc cX hT kM ?_ (lT _))))
 delta Builtin.«set_iterator.__next__»;refine qAb (qAe ?_);refine qAb (qJo hit rfl ?_);dsimp only;refine qAb (wpAny_setEntries_of ho hd hf ?_);rw[if_neg (by rw[hn];simp),qBb,qBb,qBb];refine qAb (qHl h (fun r s1 hr=>?_) fun _ _ z=>z.elim);obtain⟨rfl,hr⟩:=hr;match r,hr with
 | none,hr =>
  dsimp only at hr|-;exact rD hh hit hr
 | some (x,nx),hr =>
  dsimp only at hr|-;refine qAb (qFt hit rfl (by simp) ?_);have e1:=qDh (Obj.mapFields (·.setIfInBounds 0 (qJp (nx:Int)))) hit rfl;refine qAb (qFt e1 rfl (by simp) ?_);have e2:=qDh (Obj.mapFields (·.setIfInBounds 1 (qJp ((i:Int)+1)))) e1 rfl;refine qAe ⟨_,rfl,qAe (hr _ ?_ ((Heap.SameBut.update ..).trans (Heap.SameBut.update ..)))⟩;rw[e2];rfl
theorem vM{i n:Nat}{T:Addr}{ys:List Nat}{Q:Option qAl->qAp->Prop}(hh:A.handled=none)(hit:s.heap.get? I=some (kN (.ref T) i S n ep))(ho:s.heap.get? S=some o)(hd:o.data = .set es ep t)(hf:t.fits es.size=true)(hn:es.size=n)
  (hT:s.heap.get? T=some { cls:=.type "tuple",data:=.seq (ys.map fun(i:Nat)=>Value.int i 0).toArray }) (hp:ys.Perm (qAk n))
  (h1:∀k e,ys[i]?=some k->es[k]?=some e->∀h',h'.get? I=some (kN (.ref T) (i+1) S n ep)->qFh I s.heap h'->Q (some e.2) { s with heap:=h' })
  (h2:ys[i]?=none->∀h',qKw I s.heap h'->Q none { s with heap:=h' }) :
  qBj (qBz prog w) A (qJc (.ref I)) Q E s:=by
 have hTy:s.TypeIs (.ref I) "set_iterator":=⟨_,hit,rfl⟩;delta qJc;refine qAb (qHj (qEr (name:=Str.ofString "__next__") hTy cX
  (qEc cX hTy kM ?_ (lT _))))
 delta Builtin.«set_iterator.__next__»;refine qAb (qAe ?_);refine qAb (qJo hit rfl ?_);dsimp only;refine qAb (wpAny_setEntries_of ho hd hf ?_);rw[if_neg (by rw[hn];simp)];refine qAb (wpAny_seqItems hT rfl ?_);dsimp only;rw[qBb,qMc,qAn];cases hy:ys[i]? with
 | none =>
  dsimp only[qPj];refine qAb (qFt hit rfl (by simp) ?_);have e1:=qDh (Obj.mapFields (·.setIfInBounds 0 (qJp 0))) hit rfl;refine rD (first:=qJp 0) (i:=i) (S:=S) (n:=n) (ep:=ep) hh (by rw[e1];rfl) fun h' hx=>h2 hy h' fun b o hb e=>hx b o hb ?_;exact(qDy _ _ (Ne.symm hb)).trans e
 | some k =>
  dsimp only[qPj];have hk:k<es.size:=by
   rw[hn];exact List.mem_range.mp (hp.mem_iff.mp (qAx hy))
  refine qAb ?_;delta setNextDrawn;rw[qBb,qBb];refine qAb (qFo ho hd hf ?_);dsimp only;rw[if_neg (by simp)];rw[qBo hk];dsimp only;refine qAe ?_;refine qAb (qFt hit rfl (by simp) ?_);have e1:=qDh (Obj.mapFields (·.setIfInBounds 1 (qJp ((i:Int)+1)))) hit rfl;refine qAe ⟨_,rfl,qAe (h1 k _ hy (qBo hk) _ ?_ (Heap.SameBut.update ..))⟩;rw[e1];rfl
theorem rE(next:Nat->Nat):∀(f k:Nat) (left:List α) (out:Array α),left.length=f->(pickOrder.go next f k left out).toList.Perm (out.toList++left)
 | 0,k,left,out,hl=>by
  obtain rfl:left=[]:=List.length_eq_zero_iff.mp hl;unfold pickOrder.go;simp
 | f+1,k,left,out,hl=>by
  unfold pickOrder.go;have hk:next k%left.length<left.length:=qNy _ (by lia);rw[qAc hk];dsimp only;refine(rE next f (k+1) _ _ (by rw[qKz hk];lia)).trans ?_;rw[qNk,qHt];exact(List.Perm.refl _).append (kZ left _ hk)
theorem zV(next:Nat->Nat)(xs:Array α):(qKm next xs).toList.Perm xs.toList:=by
 delta qKm;simpa using rE next xs.size 0 xs.toList #[] (by simp)
theorem tI(hB:w.params.followText "set-order"=true)(ho:s.heap.get? S=some o)(hd:o.data = .set es ep t)(hf:t.fits es.size=true)
  (h:Q (((qKm (w.params.setOrder S ep) es)[i]?).map fun e=>(e.2,slot)) s):qBj (qBz prog w) A (qNl S slot i ep) Q E s:=by
 delta qNl;refine qAb (qFo ho hd hf ?_);dsimp only;delta qMz;refine qAb (qAb (qFw (qAe ?_)));show qBj _ _ (if w.params.followText "set-order"=true then _ else _) _ _ s;rw[hB,if_pos rfl,if_neg (by simp)];refine qAb ?_;delta setWalk;refine qAb (qFo ho hd hf ?_);dsimp only;delta qMz;refine qAb (qAb (qFw (qAe ?_)));show qBj _ _ (if w.params.followText "set-order"=true then _ else _) _ _ s;rw[hB,if_pos rfl];refine qAb (qFw (qAe (qAe h)))
theorem vN(hB:w.params.followText "set-order"=false)(hD:(!t.plain&&decide (es.size>1))=false)(hl:t.led=true)(ho:s.heap.get? S=some o)(hd:o.data = .set es ep t)(hf:t.fits es.size=true)
  (h:Q (match es[SetTable.below t.place slot]?,t.place[SetTable.below t.place slot]? with | some (_,x),some j=>some (x,j+1) | _,_=>none) s):qBj (qBz prog w) A (qNl S slot i ep) Q E s:=by
 delta qNl;refine qAb (qFo ho hd hf ?_);dsimp only;delta qMz;refine qAb (qAb (qFw (qAe ?_)));show qBj _ _ (if w.params.followText "set-order"=true then _ else if (!t.plain&&decide (es.size>1))=true then _ else _) _ _ s;rw[hB,if_neg (by simp),hD,if_neg (by simp)];refine qAb (m:=if (!t.led && !es.isEmpty)=true then unsupported "set:maker-not-led" else pure ()) ?_;rw[hl,if_neg (by simp)];refine qAe (qAe ?_);exact h
end
end ST
end PySem
namespace PySem
namespace ST
open L2.ST PyProof.Rows
theorem lU:Slot "set_iterator" "__iter__" "set_iterator.__iter__" :=
 .of (owner:="set_iterator") (n:="__iter__") (by rw[typeLookup_type,builtinLookup_eq_fast];kernel_rfl) #[2] #[2] #[2]
  (by first|exact .inl #[2] | exact .inr #[2]) (by rw[isSubtype_type];kernel_rfl)
theorem qP:entryFor table "set_iterator.__iter__"=some Builtin.«dict_keyiterator.__iter__» :=
 entryFor_alias (id':="dict_keyiterator.__iter__") (by kernel_rfl) rfl #[2] (by kernel_rfl)
theorem tJ(a:qAl):argsOk "set_iterator.__iter__" ⟨[a],[]⟩:=by
 delta argsOk;rw[signature?_of (id:="set_iterator.__iter__") (n:=['_','_','r','e','t','i','_','_']) (o:=['r','o','t','a','r','e','t','i','_','t','e','s']) (by kernel_rfl) vK];kernel_rfl
noncomputable def Jr(p:Array Nat):Nat->Nat
 | 0=>0
 | j+1=>(p[j]?.getD 0)+1
theorem yE(hr:tG p):∀{i:Nat},i<=p.size->SetTable.below p (Jr p i)=i
 | 0,_=>x9 hr
 | j+1,h=>by
  have e:=qBo (xs:=p) (i:=j) (by lia);show SetTable.below p ((p[j]?.getD 0)+1)=j+1;rw[e];exact x8 hr e
theorem zW:∀{vs:List qAl},(∀v∈vs,∃k t,v=Value.int k t)->qHz vs (vs.map iv)
 | [],_=>.nil
 | v::vs,h=>by
  obtain⟨k,t,rfl⟩:=h v (.head _);exact .cons k t (zW fun u hu=>h u (.tail _ hu))
section
variable {prog:qBy}{w:qDg}{A:qDl}{E:qAl->qAp->Prop}{s:qAp}{I S:Addr}{o:Obj}{es:Array (Int×qAl)}{ep:Nat}{t:qGu}
theorem rF(hit:s.heap.get? I=some (kN first i S n ep))(h:Q (.ref I) s):qBj (qBz prog w) A (qNa (.ref I)) Q E s:=by
 have hT:s.TypeIs (.ref I) "set_iterator":=⟨_,hit,rfl⟩;refine wpAny_pyIter_slot hT lU (qEc lU hT qP ?_ (tJ _));show qBj _ _ (ret (.ref I)) _ _ s;exact qAe ⟨_,rfl,"set_iterator",_,hT,cX.lookup,h⟩
theorem rG(hh:A.handled=none)(hIS:I≠S)(hd:o.data = .set es ep t)(hf:t.fits es.size=true)(hn:es.size=n)(sl:Nat->Nat)(ord:List qAl)(hl:ord.length=n)
  (hstep:∀(s':qAp) (Q':Option (qAl×Nat)->qAp->Prop) (E':qAl->qAp->Prop) (i:Nat),s'.heap.get? S=some o->i<=n->Q' ((ord[i]?).map fun v=>(v,sl (i+1))) s'->qBj (qBz prog w) A.in1 (qNl S (sl i) i ep) Q' E' s') :
  Walks prog w A I [I,S] [I] n (fun i v=>ord[i]?=some v) (fun i h=>h.get? S=some o/\h.get? I=some (kN (.int (sl i) 0) i S n ep)) where
 sub:=fun b hb=>by simp at hb;simp[hb]
 frame:=fun _ _ _ st hk=>⟨hk S (by simp) _ st.1,hk I (by simp) _ st.2⟩
 item:=fun i s Q E hi st hQ=>by
  have hx:ord[i]?=some ord[i]:=qAc (by lia);refine vL hh st.2 st.1 hd hf hn (hstep s _ _ i st.1 (by lia) ?_);rw[hx];refine⟨rfl,fun h' e1 e2=>?_⟩;exact hQ _ h' s.toks hx ⟨e2.extBut S _ (Ne.symm hIS) st.1,e1⟩ fun b o hb e=>e2.extBut b o (fun z=>hb (by simp[z])) e
 done:=fun s Q E st hQ=>by
  refine vL hh st.2 st.1 hd hf hn (hstep s _ _ n st.1 (qAg _) ?_);rw[qAv (by lia)];exact⟨rfl,fun h' e=>hQ h' s.toks fun b o hb e'=>e b o (fun z=>hb (by simp[z])) e'⟩
 self:=fun _ _ _ _ st hQ=>rF st.2 hQ
theorem By{n:Nat}{T:Addr}{ys:List Nat}(hh:A.handled=none)(hIS:I≠S)(hIT:I≠T)(hd:o.data = .set es ep t)(hf:t.fits es.size=true)(hn:es.size=n)(hp:ys.Perm (qAk n)):
  Walks prog w A I [I,S,T] [I] n (fun i v=>(ys.map fun k=>(es[k]?.getD (0,.none)).2)[i]?=some v)
   (fun i h=>h.get? S=some o/\h.get? I=some (kN (.ref T) i S n ep)/\h.get? T=some { cls:=.type "tuple",data:=.seq (ys.map fun(i:Nat)=>Value.int i 0).toArray }) where
 sub:=fun b hb=>by simp at hb;simp[hb]
 frame:=fun _ _ _ st hk=>⟨hk S (by simp) _ st.1,hk I (by simp) _ st.2.1,hk T (by simp) _ st.2.2⟩
 item:=fun i s Q E hi st hQ=>by
  have hyl:ys.length=n:=by rw[hp.length_eq,qAu]
  refine vM hh st.2.1 st.1 hd hf hn st.2.2 hp (fun k e h1 h2 h' e1 e2=>?_) (fun z=>?_)
  .refine hQ _ h' s.toks ?_ ⟨e2.extBut S _ (Ne.symm hIS) st.1,e1,e2.extBut T _ (Ne.symm hIT) st.2.2⟩ fun b o hb e=>e2.extBut b o (fun z=>hb (by simp[z])) e;rw[qAn,h1];simp[h2]
  .rw[qAc (by lia)] at z;cases z
 done:=fun s Q E st hQ=>by
  have hyl:ys.length=n:=by rw[hp.length_eq,qAu]
  refine vM hh st.2.1 st.1 hd hf hn st.2.2 hp (fun k e h1 h2 h' e1 e2=>?_) (fun z h' e=>hQ h' s.toks fun b o hb e'=>e b o (fun z=>hb (by simp[z])) e');rw[qAv (by lia)] at h1;cases h1
 self:=fun _ _ _ _ st hQ=>rF st.2.1 hQ
theorem nA(hel:qNo (qFz prog w) es.toList)(hm:(es.toList.map fun e=>iv e.2).Perm σ)(hp:ord.Perm (es.toList.map fun e=>e.2)):∃ms,qHz ord ms/\ms.Perm σ:=by
 refine⟨_,zW fun v hv=>?_,((hp.map iv).trans ?_)⟩
 .obtain⟨e,he,rfl⟩:=List.mem_map.mp (hp.mem_iff.mp hv);obtain⟨⟨k,hk,_⟩,_⟩:=hel e he;obtain⟨t,ht⟩:=Value.isInt_shape (k:=k) hk;exact⟨k,t,ht⟩
 .rw[qCn];exact hm
theorem Dg{σ:List Int}{Q:qAl->qAp->Prop}(hh:A.handled=none)(hS:fJ prog w s.heap S σ)
  (h:∀(I:Addr) (fp:List Addr) (ord:List qAl) (h':Heap) (d:Drawn) (St:Nat->Heap->Prop) (ms:List Int),Walks prog w A I fp [I] σ.length (fun i v=>ord[i]?=some v) St->St 0 h'->ord.length=σ.length->qHz ord ms->ms.Perm σ ->
   s.heap.objs.size<=I->(∀b∈fp,b=S\/s.heap.objs.size<=b)->(∀b o,s.heap.get? b=some o->h'.get? b=some o)->Q (.ref I) { s with heap:=h',drawn:=d }) :
  qBj (qBz prog w) A (qNa (.ref S)) Q E s:=by
 obtain⟨o,es,ep,t,ho,hex,hd,hel,hmem,hb,hf,hr,hled⟩:=hS;have hn:es.size=σ.length:=by rw[<- hmem.length_eq,qAa,qCa]
 have hSl:S<s.heap.objs.size:=qAs ho;have hps:t.place.size=es.size:=by
  simp only[SetTable.fits,qCd,beq_iff_eq,decide_eq_true_eq] at hf;exact hf.1
 refine yD ho hex hd hf hb (fun hm=>?_) (fun hB ys d hp=>?_)
 .rcases hm with hB | ⟨hB,hD⟩
  .obtain⟨ms,m1,m2⟩:=nA (prog:=prog) (w:=w) (ord:=(qKm (w.params.setOrder S ep) es).toList.map fun e=>e.2) hel hmem ((zV _ es).map _);have hl:((qKm (w.params.setOrder S ep) es).toList.map fun e=>e.2).length=σ.length:=by
    rw[qAa,(zV _ es).length_eq,qCa,hn]
   have W:=rG (prog:=prog) (w:=w) (A:=A) (I:=s.heap.objs.size) (S:=S) hh (qGk hSl) hd hf hn (fun _=>0) _ hl fun s' Q' E' i e1 e2 e3=>by
    refine tI hB e1 hd hf ?_;rw[qAn,qDf] at e3;cases hz:(qKm (w.params.setOrder S ep) es)[i]? with
    | none=>rw[hz] at e3;exact e3
    | some z=>rw[hz] at e3;exact e3
   refine h _ _ _ _ s.drawn _ ms W ⟨qAh _ ho,?_⟩ hl m1 m2 (qAg _) (fun b hb=>?_) fun b o e=>qAh _ e
   .rw[hn];exact qAt _ rfl
   .simp only[qEd,qDe,or_false] at hb;rcases hb with rfl | rfl
    .exact .inr (qAg _)
    .exact .inl rfl
  .have hl':t.led=true:=by rw[hled,hB];rfl
   obtain⟨ms,m1,m2⟩:=nA (prog:=prog) (w:=w) (ord:=es.toList.map fun e=>e.2) hel hmem (List.Perm.refl _);have hl:(es.toList.map fun e=>e.2).length=σ.length:=by rw[qAa,qCa,hn]
   have W:=rG (prog:=prog) (w:=w) (A:=A) (I:=s.heap.objs.size) (S:=S) hh (qGk hSl) hd hf hn (Jr t.place) _ hl fun s' Q' E' i e1 e2 e3=>by
    refine vN hB hD hl' e1 hd hf ?_;rw[yE hr (by lia)];rw[qAn,qDf] at e3;rcases qAm i es.size with hi | hi
    .have ee:=qBo (xs:=es) (i:=i) hi;have ep:=qBo (xs:=t.place) (i:=i) (by lia);rw[ee] at e3|-;rw[ep];have e4:Jr t.place (i+1)=t.place[i]+1:=by
      show(t.place[i]?.getD 0)+1=_;rw[ep];rfl
     rw[e4] at e3;exact e3
    .rw[qDx hi] at e3|-;exact e3
   refine h _ _ _ _ s.drawn _ ms W ⟨qAh _ ho,?_⟩ hl m1 m2 (qAg _) (fun b hb=>?_) fun b o e=>qAh _ e
   .rw[hn];exact qAt _ rfl
   .simp only[qEd,qDe,or_false] at hb;rcases hb with rfl | rfl
    .exact .inr (qAg _)
    .exact .inl rfl
 .rw[hn] at hp;have hperm:(ys.map fun k=>(es[k]?.getD (0,.none)).2).Perm (es.toList.map fun e=>e.2):=by
   refine(hp.map _).trans ?_;refine List.Perm.of_eq (qEn fun i=>?_);rw[qAn,qAn,qDf (xs:=es)];rcases qAm i es.size with hi | hi
   .rw[qCw (by lia),qBo hi];simp[hi]
   .rw[qAv (by rw[qAu];lia),qDx hi];rfl
  obtain⟨ms,m1,m2⟩:=nA (prog:=prog) (w:=w) hel hmem hperm;have hl:(ys.map fun k=>(es[k]?.getD (0,Value.none)).2).length=σ.length:=by rw[qAa,hp.length_eq,qAu]
  have W:=By (prog:=prog) (w:=w) (A:=A) (I:=s.heap.objs.size+1) (S:=S) (T:=s.heap.objs.size) hh (qGk (qHu hSl)) (qOi _) hd hf hn hp;refine h _ _ _ _ d _ ms W ⟨qAh _ (qAh _ ho),?_,qAh _ (qAt _ rfl)⟩ hl m1 m2 (qFi _) (fun b hb=>?_) fun b o e=>qAh _ (qAh _ e)
  .rw[hn,show s.heap.objs.size+1=(s.heap.push { cls:=.type "tuple",data:=.seq (ys.map fun(i:Nat)=>Value.int i 0).toArray }).objs.size by rw[qDj]];exact qAt _ rfl
  .simp only[qEd,qDe,or_false] at hb;rcases hb with rfl | rfl | rfl
   .exact .inr (qFi _)
   .exact .inl rfl
   .exact .inr (qAg _)
end
end ST
end PySem
namespace PySem
namespace ST
open L2.ST PyProof.Rows
section
variable {prog:qBy}{w:qDg}{A:qDl}{E:qAl->qAp->Prop}{s:qAp}{S:Addr}{σ:List Int}
theorem Di(hT:s.TypeIs (.ref r) "set")(h:Q false s):qBj (qBz prog w) A (Builtin.List.listLengthHint (.ref r)) Q E s:=by
 delta Builtin.List.listLengthHint;refine qAb (wpAny_specialOf hT PySem.F.slot_set_len.lookup ?_);generalize hid:("set.__len__":String)=id0;wp_delta;rw[show splitId id0=some ("set","__len__") from by subst hid;decide +kernel];subst hid;refine qAb (wpAny_isInstance (T:="set") (b:=true) hT (by rw[isSubtype_type];kernel_rfl) ?_);refine wpAny_ite_split (fun hab=>absurd hab #[1]) (fun _=>?_);refine wpAny_ite_split (fun _=>?_) (fun hab=>absurd #[2] hab);refine qAb (qHx hT ?_);exact qAe h
theorem vO(x:fJ prog w s.heap S σ):s.TypeIs (.ref S) "set":=by
 obtain⟨o,es,ep,t,ho,hex,r⟩:=x;exact⟨o,ho,hex.1⟩
theorem Dj(x:fJ prog w s.heap S σ):S<s.heap.objs.size:=by
 obtain⟨o,es,ep,t,ho,hex,r⟩:=x;exact qAs ho
theorem Dk(hl:ord.length=n)(h:ItemsOf (fun i v=>ord[i]?=some v) acc n):acc.toList=ord:=by
 refine qEn fun i=>?_;rw[qDf];rcases qAm i n with hi | hi
 .have e:=qBo (xs:=acc) (i:=i) (by rw[h.1];exact hi);rw[e];exact(h.2 i _ e).symm
 .rw[qDx (by rw[h.1];exact hi),qAv (by lia)]
theorem vP(hh:A.handled=none)(hS:fJ prog w s.heap S σ)(hn:σ.length<=qAi)
  (hQ:∀h' tk d vs ms,s.heap.objs.size<=h'.objs.size->(∀b o,s.heap.get? b=some o->h'.get? b=some o)->qHz vs ms->ms.Perm σ->Q vs { s with heap:=h',toks:=tk,drawn:=d }):qBj (qBz prog w) A (collect (.ref S)) Q E s:=by
 have hlt:=Dj hS;delta collect;refine qAb (wpAny_runValue (qFm F.entry_proto_collect ?_));rw[Around.under_plainId F.plain_proto_collect _];show qBj _ A.in1 (qOv [] >>= fun l=>qNn (.builtin "list.__iadd__" ⟨[l,.ref S],[]⟩)) _ _ s;refine qAb (qCk ?_);refine qAe ⟨qIo F.plain_list_iadd _,qFm F.entry_list_iadd ?_⟩;rw[Around.under_plainId F.plain_list_iadd _];have kp0:∀b o,s.heap.get? b=some o->(s.heap.push { cls:=.type "list",data:=.seq ([]:List qAl).toArray }).get? b=some o:=fun b o e=>qAh _ e;have hS0:fJ prog w (s.heap.push { cls:=.type "list",data:=.seq ([]:List qAl).toArray }) S σ:=hS.at' fun o e=>kp0 _ _ e;show qBj _ A.in1 (Builtin.List.listExtendWith (.ref s.heap.objs.size) (.ref S) (.ref s.heap.objs.size)) _ _ _;delta Builtin.List.listExtendWith;refine qAb (qHx (vO (s:={ s with heap:=s.heap.push { cls:=.type "list",data:=.seq ([]:List qAl).toArray } }) hS0) ?_);have h1:Builtin.List.listSameRef (.ref s.heap.objs.size) (.ref S)=false:=by simp[Builtin.List.listSameRef,qGk hlt]
 have h2:(Value.type "set" == Value.type "list")=false:=by decide
 have h3:(Value.type "set" == Value.type "tuple")=false:=by decide
 simp only[h1,h2,h3,Bool.or_false,qFv,if_false];refine qAb (Dg (s:={ s with heap:=s.heap.push { cls:=.type "list",data:=.seq ([]:List qAl).toArray } }) (A:=A.in1) hh hS0 fun I fp ord h' d St ms W st hl m1 m2 hI hfp hkeep=>?_);have hLI:s.heap.objs.size≠I:=by
  have:s.heap.objs.size+1<=I:=by rw[<- qDj];exact hI
  exact qBg this
 have hSf:s.heap.objs.size∉fp:=fun hm=>by
  rcases hfp _ hm with e | e
  .exact absurd e (qGk hlt)
  .have:s.heap.objs.size+1<=s.heap.objs.size:=by rw[<- qDj];exact e
   exact absurd this (Nat.not_succ_le_self _)
 have hL1:h'.get? s.heap.objs.size=some { cls:=.type "list",data:=.seq #[] 0 }:=hkeep _ _ (qAt _ rfl);have kp1:∀b o,s.heap.get? b=some o->h'.get? b=some o:=fun b o e=>hkeep _ _ (kp0 _ _ e);refine qAb (qDm (Di (s:={ s with heap:=h',drawn:=d }) (vO (s:={ s with heap:=h',drawn:=d }) (hS.at' fun o e=>kp1 _ _ e)) ?_));have key:∀(R:qQe->qAp->Prop) (h2:Heap) (c₁ tk:Nat),St 0 h2->(∀b o,s.heap.get? b=some o->h2.get? b=some o) ->
   h2.get? s.heap.objs.size=some { cls:=.type "list",data:=.seq #[] c₁ } ->
   (∀h3 tk3 acc c,h3.get? s.heap.objs.size=some { cls:=.type "list",dict:=none,data:=.seq acc c,slots:=#[] }->acc.toList=ord->(∀b o,s.heap.get? b=some o->h3.get? b=some o)->R (.ok (.ret (.ref s.heap.objs.size))) { s with heap:=h3,toks:=tk3,drawn:=d }) ->
   qHp (qBz prog w) A (.builtin "list.extend.loop" ⟨[.ref s.heap.objs.size,.ref I,.ref s.heap.objs.size],[]⟩) R { s with heap:=h2,toks:=tk,drawn:=d }:=by
  intro R h2 c₁ tk st2 kp2 e2 hR;refine codeAny_extend_loopS W.toS hn _ hSf _ σ.length 0 _ #[] c₁ rfl (qBn _) st2 e2 (ItemsOf.nil _) fun s' acc' c' hm hS' hacc=>?_;have em:=Moved.eq_with hm;rw[em];refine hR s'.heap s'.toks acc' c' hS' (Dk hl hacc) fun b o e=>hm.heap b o (fun hmem=>?_) (kp2 b o e);have hb:=qAs e;rcases List.mem_cons.mp hmem with e' | hmem
  .exact absurd hb (by rw[e'];exact qDk _)
  .have e3:b=I:=List.mem_singleton.mp hmem;have:s.heap.objs.size+1<=I:=by rw[<- qDj];exact hI
   rw[e3] at hb;exact absurd (qBc hb (Nat.le_of_succ_le this)) (qDk _)
 have fin:∀h3 tk3 acc c,h3.get? s.heap.objs.size=some { cls:=.type "list",dict:=none,data:=.seq acc c,slots:=#[] }->acc.toList=ord->(∀b o,s.heap.get? b=some o->h3.get? b=some o) ->
   qBj (qBz prog w) A (do
    let o <- load s.heap.objs.size
    match o.data with
    | .seq xs _=>pure xs.toList
    | _=>unsupported "internal:collect") Q E { s with heap:=h3,toks:=tk3,drawn:=d }:=by
  intro h3 tk3 acc c e1 e2 e3;refine qAb (wpAny_load e1 ?_);show qBj _ _ (pure acc.toList) _ _ _;rw[e2];exact qAe (hQ h3 tk3 d ord ms (qAo (qAs e1)) e3 m1 m2)
 refine wpAny_ite_split (fun _=>?_) (fun _=>qAe ⟨qIo qKf _,key _ _ 0 _ st kp1 hL1 fin⟩);refine qAb (qGq ?_);refine qAb ?_;show qBj _ _ (updateSeq s.heap.objs.size (·.push .none) >>= fun _=>updateSeq s.heap.objs.size (·.pop)) _ _ _;refine qAb (wpAny_updateSeq hL1 rfl ?_);have hS₂:=qDh (Obj.mapSeq (·.push Value.none)) hL1 rfl;refine wpAny_updateSeq (hz:=by seq_fits) hS₂ rfl ?_;have hS₃:=qDh (Obj.mapSeq (·.pop)) hS₂ rfl;refine qAe ⟨qIo qKf _,key _ _ _ _ (W.frame 0 _ _ st fun b hb o e=>?_) (fun b o e=>?_) hS₃ fin⟩
 .have hbS:b≠s.heap.objs.size:=fun z=>hSf (z▸hb);exact(qDy _ _ (Ne.symm hbS)).trans ((qDy _ _ (Ne.symm hbS)).trans e)
 .have hbS:b≠s.heap.objs.size:=qBg (qAs e);exact(qDy _ _ (Ne.symm hbS)).trans ((qDy _ _ (Ne.symm hbS)).trans (kp1 _ _ e))
theorem yF(hh:A.handled=none)(hS:fJ prog w s.heap S σ)(h64:σ.length<64)
  (h:∀h' tk d (l:Addr) (out:Array qAl) (ms:List Int) c,(∀b o,s.heap.get? b=some o->h'.get? b=some o)->s.heap.objs.size<=l->h'.get? l=some (qPi "list" out c)->qHz out.toList ms->ms.Perm σ->ms.Pairwise (·<=·)->Q (.ref l) { s with heap:=h',toks:=tk,drawn:=d }) :
  qBj (qBz prog w) A (call (.builtin "sorted") [.ref S]) Q E s:=by
 refine Calls.call_function_entry kind_sorted plain_sorted entry_sorted (args_sorted1 _) ?_;delta Builtin.«sorted»;refine qAb (m:=checkCount "sorted" 1 1 _) (qAe ?_);refine qAb (vP hh hS (by rw[qCc];lia) fun h1 tk d vs ms hle kp m1 m2=>?_);have hvl:vs.length=σ.length:=by
  rw[<- m2.length_eq];exact IntsAre.length m1
 refine qAb (wpAny_newList ?_ (by rw[qCc];lia));have hoL:(h1.push (qPi "list" vs.toArray 0)).get? h1.objs.size=some (qPi "list" vs.toArray 0):=qAt _ rfl;show qBj _ _ _ _ _ { s with heap:=h1.push (qPi "list" vs.toArray 0),toks:=tk,drawn:=d };refine qAb (qDm (qEc slot_list_sort ⟨_,hoL,rfl⟩ entry_list_sort (list_sort_tree hoL m1 (by lia) fun out ns' a1 a2 a3=>⟨_,rfl,?_⟩) (args_list_sort _)));obtain⟨c,hc⟩:=sortedHeap_at (out:=out) hoL;refine qAe ⟨_,rfl,h _ tk d _ out ns' c (fun b o e=>?_) hle hc a1 (a2.trans m2) a3⟩;have e1:=kp b o e;have hb:=qAs e1;rw[sortedHeap_old (qBg hb) (by rw[size_push'];exact qHu hb)];exact qAh _ e1
end
end ST
end PySem
namespace L2
open PySem PySem.Spec PyProof.Rows
theorem Inv.draws(I:Inv X pins σ H s):Inv X pins σ H { s with drawn:=d }:=by
 have z:=I.step (g':=s.gens) (t':=s.toks) (d':=d) (h':=s.heap) (H':=H) (ch:=[]) (fun _ z=>nomatch z) (fun b o _ _ _ e _=>e) (fun b o _ _ _ e _=>⟨o.slots,e⟩) (fun _ _ _ _ n=>n) (fun b o _ e=>⟨o,e⟩) (fun _ _ e=>e) (fun _ _ _ e=>e) (fun _ _ e=>⟨#[],by simpa using e⟩) (fun _ n=>n) I.cO I.bare;exact z
theorem tK(ns:List Int)(k:Int):k∈qIq (fun i=>ns.getD i 0) ns.length↔k∈ns:=by
 have h:=firstMet_any (fun i=>ns.getD i 0) ns.length k;have e:(qAk ns.length).map (fun i=>ns.getD i 0)=ns:=by
  refine qJz (by simp) fun i h1 h2=>?_;rw[qGm,qJi,qAf,qAc h2];rfl
 rw[e] at h;have q:∀l:List Int,l.any (· == k)=true↔k∈l:=fun l=>by simp
 rw[<- q,<- q,h]
theorem hJ(f:Nat->Int):∀n,(qIq f n).Nodup
 | 0=>by rw[firstMet_zero];exact qIu
 | n+1=>by
  rw[firstMet_succ];delta qLd;split
  .exact hJ f n
  .rename_i h;refine List.nodup_append.mpr ⟨hJ f n,by simp,fun a ha b hb e=>?_⟩;obtain rfl:b=f n:=by simpa using hb
   subst e;exact h (List.any_eq_true.mpr ⟨_,ha,by simp⟩)
def QH(K:qAd)(ta:TA):TE:=fun σ H Q=>ta σ H fun vs H1=>∃(p:Addr) (ns:List Int),vs=[.ref p]/\aS K H1 p (ns.map V.int)/\ns.length<64/\∀(l:Addr) (ms:List Int),H1 l=none->(∀k,k∈ms↔k∈ns)->ms.Pairwise (· < ·)->Q (.ref l) (upd H1 l (.lst (ms.map V.int)))
theorem FV:qCq "set"=some (.type "set"):=by decide +kernel
theorem pw_lt:∀{ms:List Int},ms.Pairwise (·<=·)->ms.Nodup->ms.Pairwise (· < ·)
 | [],_,_=>.nil
 | m::ms,.cons h1 h2,hn=>by
  obtain⟨n1,n2⟩:=List.nodup_cons.mp hn;refine .cons (fun k hk=>?_) (pw_lt h2 n2);have:=h1 k hk;rcases qNv this with z | z
  .exact z
  .exact absurd (z▸hk) n1
section
variable {X:Cx}
theorem lV(hg:Gl X "sorted")(hm:X.mg "sorted"=none)(hg':Gl X "set")(hm':X.mg "set"=none)(hc:X.calm=true)(ha:PA X [a] ta)
  (hs:qBt [a] X.env=[(false,eval a X.env)]:=by rfl) (hs':qBt [.Call (.Name "set" p') [a] [] pos'] X.env=[(false,eval (.Call (.Name "set" p') [a] [] pos') X.env)]:=by rfl) :
  PE X (.Call (.Name "sorted" p) [.Call (.Name "set" p') [a] [] pos'] [] pos) (QH X.K ta):=by
 intro pins s σ H Q I h;refine qOg (fV I hg hm xW (qIj ?_ hs' rfl));rw[hs'];show qBj _ _ (qOt ((false,eval (.Call (.Name "set" p') [a] [] pos') X.env)::[])) _ _ s;refine qHe ?_;refine qOg (fV I hg' hm' FV (qCg (cG (ha pos' pins s σ H _ I h) fun us s1 z9=>?_) hs rfl));obtain⟨vs,H1,I1,r1,q1⟩:=z9;obtain⟨p,ns,e,hq,h64,q⟩:=q1;subst e;obtain⟨u,rfl,rx⟩:=vals1 r1;cases rx;obtain⟨its,r',pl,hz⟩:=I1.list hq;have hi:=intsAre_of r';have hl:its.length=ns.length:=by rw[<- r'.length,qAa]
 refine PySem.ST.vJ (items:=its.toArray) (ns:=ns) (I1.ok.hd hc) pl.isList (by simpa using hi) (by rw[qAw,hl];delta qFu;lia) fun h' tk hS kp=>?_;refine qHn ?_;rw[show its.toArray.size=ns.length by rw[qAw,hl]] at hS;have hle:(qIq (fun i=>ns.getD i 0) ns.length).length<=ns.length:=firstMet_length_le _ _;have kp1:∀b o,s1.heap.get? b=some o->h'.get? b=some o:=fun b o e=>kp b o (qAs e) e;have I2:Inv X pins σ H1 { s1 with heap:=h',toks:=tk }:=I1.kept kp1;refine PySem.ST.yF (s:={ s1 with heap:=h',toks:=tk }) (I2.ok.hd hc) hS (by lia) fun h2 tk2 d l out ms c kp2 hl2 e2 m1 m2 m3=>?_;have hms:ms.length=(qIq (fun i=>ns.getD i 0) ns.length).length:=m2.length_eq;have I3:=(I2.laid (a:=l) (o:=.lst (ms.map V.int)) (t':=tk2) kp2 hl2 ⟨by rw[qAa,qCc];lia,out.toList,c,lQ m1,by rw[show out.toList.toArray=out by simp];exact e2⟩).draws (d:=d);refine⟨.ref l,_,I3,rfl,q _ _ (I2.cO.fresh hl2) (fun k=>?_) (pw_lt m3 (m2.nodup_iff.mpr (hJ _ _)))⟩;rw[m2.mem_iff];exact tK ns k
end
end L2
set_option maxHeartbeats 4000000
namespace L2
open PySem PySem.Spec PyProof.Rows
noncomputable def Dm(a:Addr)(ob:Obj)(kvs:List (Key×V)):It :=
 ⟨fun i H=>H a=some (.frz ob (.dK kvs))/\i<kvs.length,fun i H x H'=>H'=H/\∃(kv:Key×V),kvs[i]?=some kv/\x=kV kv.1,fun i H=>H a=some (.frz ob (.dK kvs))/\kvs.length<=i⟩
theorem tL(ok:kK P w H h)(e:H a=some (.frz ob (.dK kvs))):h.get? a=some ob/\∃es ep vs,(a == qFp)=false/\ob.ExactDict/\ob.data = .dict es ep/\KV kvs vs/\Pairs (cD P w) es.toList vs:=by
 have z:h.get? a=some ob/\_:=ok a _ e;obtain⟨_,hd,vs,rel,o,es,ep,h1,h2,h3,h4,h5,h6⟩:=rA ok (.inr ⟨ob,e⟩);have eo:o=ob:=Option.some.inj (h1.symm.trans z.1);subst eo;exact⟨h1,es,ep,vs,hd,h2,h3,rel,h5⟩
theorem yG{P:qBy}{w:qDg}{K:qAd}{tg:Expr}(a it:Addr){ob:Obj}{kvs:List (Key×V)}{es:Array DictEntry}{ep:Nat}(hdat:ob.data = .dict es ep):Turn P w K tg (Dm a ob kvs) [it] it (fun i h=>h.IsKeyIter it a i es.size ep) where
 mem:=by simp
 obj:=fun i h st b hb=>by
  have e:b=it:=by simpa using hb
  subst e;obtain⟨o,e,c,d⟩:=st;exact⟨o,e,fun v z=>by rw[d] at z;cases z⟩
 keep:=fun i h h' st k=>st.at fun o e=>k it (by simp) o e
 item:=by
  intro X hP hw hK hc i pins s σ H E I hf st hg;subst hP hw hK;obtain⟨hq,hlt⟩:=hg;obtain⟨h1,es',ep',vs,h2,h3,h4,rel,h5⟩:=tL I.cO hq;have e1:Data.dict es' ep'=Data.dict es ep:=h4.symm.trans hdat;obtain⟨rfl,rfl⟩:es'=es/\ep'=ep:=by injection e1 with a b;exact⟨a,b⟩
  have hlen:es'.size=kvs.length:=by rw[<- qCa,h5.length,Paired.length rel]
  obtain⟨f0,f1,f2,f3,f4,f5⟩:=hf it (by simp);refine CZ st h1 h4 (by omega) fun h' st' sb=>?_;have I1:Inv X pins σ H { s with heap:=h' }:=I.turned (t':=s.toks) (fun b o hb e=>(sb.2 b hb).trans e) f0 f1 f3 f4 f5;obtain⟨o,e,c,dd⟩:=id st';have hkv:kvs[i]?=some kvs[i]:=qAc hlt;obtain⟨q,hq1,hq2⟩:=lS rel hkv;have hes:es'.toList[i]?=some es'[i]:=by rw[qDf,qBo (by omega)]
  have hkey:=(h5.get? (k:=q.1) (v:=q.2) hes hq1).1;refine⟨_,rfl,uN (s:={ s with heap:=h' }) e c dd #[1] ⟨kV kvs[i].1,H,I1,?_,⟨rfl,kvs[i],hkv,rfl⟩,st',fun b hb=>(hf b hb).1⟩⟩;rw[show kvs[i].1=q.1 from hq2.1];exact vG hkey
 done:=by
  intro X hP hw hK hc i pins s σ H E I hf st hg;subst hP hw hK;obtain⟨hq,hge⟩:=hg;obtain⟨h1,es',ep',vs,h2,h3,h4,rel,h5⟩:=tL I.cO hq;have e1:Data.dict es' ep'=Data.dict es ep:=h4.symm.trans hdat;obtain⟨rfl,rfl⟩:es'=es/\ep'=ep:=by injection e1 with a b;exact⟨a,b⟩
  have hlen:es'.size=kvs.length:=by rw[<- qCa,h5.length,Paired.length rel]
  obtain⟨f0,f1,f2,f3,f4,f5⟩:=hf it (by simp);exact FP (I.ok.hd hc) st h1 h4 (by omega) fun h' eb=>⟨rfl,I.turned (t':=s.toks) (fun b o hb e=>eb b o hb e) f0 f1 f3 f4 f5⟩
 self:=fun _ _ _ _ _ st h=>wpAny_pyIter_keyiter st h
section
variable {X:Cx}{tg:Expr}
def Js(td:TE):TI:=fun σ H R=>td σ H fun x H1=>∃(a:Addr) (ob:Obj) (kvs:List (Key×V)),x = .ref a/\H1 a=some (.frz ob (.dK kvs))/\R (Dm a ob kvs) H1
theorem Dn{l:Expr}{td:TE}(hl:PE X l td):PI X tg l (Js td):=by
 intro pins s σ H R I h;refine cG (hl pins s σ H _ I h) fun v s1 z9=>?_;obtain⟨x,H1,I1,r1,q1⟩:=z9;obtain⟨a,ob,kvs,e,hq,q⟩:=q1;subst e;cases r1;obtain⟨h1,es,ep,xs,h2,h3,h4,rel,h5⟩:=tL I1.cO hq;refine CY h2 h1 h3 h4 ?_;refine⟨s1.heap.objs.size,[s1.heap.objs.size],_,_,H1,rfl,I1.kept (t':=s1.toks) fun b o e=>qAh _ e,yG a _ h4,⟨_,qAt _ rfl,rfl,rfl⟩,fun b hb=>?_,q⟩;have e:b=s1.heap.objs.size:=by simpa using hb
 subst e;exact I1.w8 (qAg _) (I1.cO.fresh (qAg _))
def NA(t:TE):TE:=fun σ H Q=>t σ H fun x H1=>∃(a:Addr) (kvs:List (Key×V)),x = .ref a/\H1 a=some (.dK kvs)/\∀ob,Q x (upd H1 a (.frz ob (.dK kvs)))
theorem FW(hl:PE X l td):PE X l (NA td):=by
 intro pins s σ H Q I h;refine cG (hl pins s σ H _ I h) fun v s1 z9=>?_;obtain⟨x,H1,I1,r1,q1⟩:=z9;obtain⟨a,kvs,e,hq,q⟩:=q1;obtain⟨z,hd,vs,rel,dd⟩:=CS I1.cO hq;obtain⟨ob,es,ep,g1,g2⟩:=id dd;exact⟨x,_,I1.write (x:=a) (e:=a) (o:=.frz ob (.dK kvs)) (t':=s1.toks) (by rw[hq];exact True.intro) (.inl rfl) (fun b u _ e=>e) ⟨ob,g1⟩ ⟨g1,z,hd,vs,rel,dd⟩,r1,q ob⟩
end
section
variable {K:qAd}{a a':Addr}{xs xs':List V}{lo:Int}{n:Nat}{σ0:St}{H1:Hp}{i0:Nat}{c:TT}{te:TE}{g:TG}{Q:Addr->Hp->Prop}
theorem yH(Iv:Nat->List V->Hp->Prop)(mono:∀i ys H H',lO H H'->Iv i ys H->Iv i ys H')(h0:Iv 0 [] H1)(hq:H1 a=some (.frz ob (.dK kvs)))(hn:kvs.length<=qAi)
  (step:∀(i:Nat) (kv:Key×V) (H2:Hp) (k:VK) (k0:Hp->Prop) (ys:List V),aH H1 H2->kvs[i]?=some kv->Iv i ys H2->(∀y H3,aH H2 H3->Iv (i+1) (ys++[y]) H3->k y H3)->(∀H3,aH H2 H3->Iv (i+1) ys H3->k0 H3) ->
   c (σ0.set i0 (some (kV kv.1))) H2 fun b H4=>if b=true then te (σ0.set i0 (some (kV kv.1))) H4 k else k0 H4)
  (h:∀D ys H2,H1 D=none->aH H1 H2->Iv kvs.length ys H2->H2 D=some (.lst ys)->Q D H2) :
  ∀D,H1 D=none->∃W:Nat->Nat->St->Hp->Prop,(∃m,W 0 m σ0 (upd H1 D (.lst [])))/\∀i m σ1 H2,W i m σ1 H2 ->
   ((Dm a ob kvs).stop i H2/\Q D H2)\/((Dm a ob kvs).go i H2/\∃N:St->Hp->Prop,(∀σ' H',N σ' H'->∃m',m'<m/\W (i+1) m' σ' H') /\
    ∀x H',(Dm a ob kvs).qF i H2 x H'->aX i0 x σ1 H' fun σ2 H3=>c σ2 H3 fun b H4=>if b=true then te σ2 H4 fun y H5=>∃xs,H5 D=some (.lst xs)/\xs.length<qAi/\N σ2 (upd H5 D (.lst (xs++[y]))) else N σ2 H4):=by
 intro D hD;exists fun i m σ1 H2=>σ1.set i0 none=σ0.set i0 none/\aH H1 H2/\(∃ys,ys.length<=i/\Iv i ys H2/\H2 D=some (.lst ys))/\i<=kvs.length/\m=kvs.length-i,⟨kvs.length,rfl,.aG hD,⟨[],qAg _,mono _ _ _ _ (aH.aG hD).t h0,aD⟩,qBn _,rfl⟩;rintro i m σ1 H2 ⟨hσ,hs,⟨ys,hy,hR,hd⟩,hi,rfl⟩;have hset:∀v:Option V,σ1.set i0 v=σ0.set i0 v:=fun v=>by
  have z:=congrArg (fun l=>qHv l i0 v) hσ;simpa using z
 rcases qAm i kvs.length with hlt | hge
 .right
  refine⟨⟨hs _ _ hq,hlt⟩,fun σ' H'=>σ'.set i0 none=σ0.set i0 none/\aH H1 H'/\∃ys,ys.length<=i+1/\Iv (i+1) ys H'/\H' D=some (.lst ys),(by rintro σ' H' ⟨a,b,c⟩;exact ⟨kvs.length-(i+1),by lia,a,b,c,hlt,rfl⟩),?_⟩;rintro x H' ⟨rfl,kv,hx,rfl⟩;show c (σ1.set i0 (some (kV kv.1))) _ _;rw[hset];refine step i kv _ _ _ ys hs hx hR (fun y H3 hs3 hR3=>⟨_,hs3 _ _ hd,by lia,?_,(hs.trans hs3).upd_ne' hD,ys++[y],by rw[qAj];show _+1<=_;lia,mono _ _ _ _ (.lst (hs3 _ _ hd)) hR3,aD⟩) fun H3 hs3 hR3=>⟨?_,hs.trans hs3,ys,by lia,hR3,hs3 _ _ hd⟩
  .simp
  .simp
 .left
  obtain rfl:i=kvs.length:=qDc hi hge;exact⟨⟨hs _ _ hq,qAg _⟩,h D ys _ hD hs hR hd⟩
theorem Bz(Ag:St->Prop)(Iv:Nat->List V->Hp->Prop)(mono:∀i ys H H',lO H H'->Iv i ys H->Iv i ys H')(h0:Ag σ0)(h00:Iv 0 [] H1)(hq:aS K H1 a xs)(hq':aS K H1 a' xs')(hlen:xs.length<=xs'.length)(hn:xs.length<=qAi)
  (step:∀(i:Nat) (x y:V) (t:Addr) (σ1:St) (H2:Hp) (k:St->VK) (k0:St->Hp->Prop) (ys:List V),Ag σ1->aH H1 H2->xs[i]?=some x->xs'[i]?=some y->H2 t=some (.tup [x,y])->Iv i ys H2->(∀σ2 z H3,Ag σ2->aH H2 H3->Iv (i+1) (ys++[z]) H3->k σ2 z H3)->(∀σ2 H3,Ag σ2->aH H2 H3->Iv (i+1) ys H3->k0 σ2 H3) ->
   g (.ref t) σ1 H2 fun σ2 H3=>c σ2 H3 fun b H4=>if b=true then te σ2 H4 (k σ2) else k0 σ2 H4)
  (h:∀D ys H2,H1 D=none->aH H1 H2->Iv xs.length ys H2->H2 D=some (.lst ys)->Q D H2) :
  ∀D,H1 D=none->∃W:Nat->Nat->St->Hp->Prop,(∃m,W 0 m σ0 (upd H1 D (.lst [])))/\∀i m σ1 H2,W i m σ1 H2 ->
   ((zO K a a').stop i H2/\Q D H2)\/((zO K a a').go i H2/\∃N:St->Hp->Prop,(∀σ' H',N σ' H'->∃m',m'<m/\W (i+1) m' σ' H') /\
    ∀x H',(zO K a a').qF i H2 x H'->g x σ1 H' fun σ2 H3=>c σ2 H3 fun b H4=>if b=true then te σ2 H4 fun y H5=>∃xs,H5 D=some (.lst xs)/\xs.length<qAi/\N σ2 (upd H5 D (.lst (xs++[y]))) else N σ2 H4):=by
 intro D hD;exists fun i m σ1 H2=>Ag σ1/\aH H1 H2/\(∃ys,ys.length<=i/\Iv i ys H2/\H2 D=some (.lst ys))/\i<=xs.length/\m=xs.length-i,⟨xs.length,h0,.aG hD,⟨[],qAg _,mono _ _ _ _ (aH.aG hD).t h00,aD⟩,qBn _,rfl⟩;rintro i m σ1 H2 ⟨hσ,hs,⟨ys,hy',hR,hd⟩,hi,rfl⟩;rcases qAm i xs.length with hlt | hge
 .right
  have hlt':i<xs'.length:=qBc hlt hlen;refine⟨⟨xs,xs',xs[i],xs'[i],hs.seq hq,hs.seq hq',by simp[hlt],by simp[hlt']⟩,fun σ' H'=>Ag σ'/\aH H1 H'/\∃ys,ys.length<=i+1/\Iv (i+1) ys H'/\H' D=some (.lst ys),(by rintro σ' H' ⟨a,b,c⟩;exact ⟨xs.length-(i+1),by lia,a,b,c,hlt,rfl⟩),?_⟩;rintro v H' ⟨t,x,y,rfl,ht,rfl,hx,hy⟩;have hx:=hx xs (hs.seq hq);have hy:=hy xs' (hs.seq hq');have hst:aH H1 (upd H2 t (.tup [x,y])):=hs.trans (.aG ht);have hdt:=aH.aG (o:=.tup [x,y]) ht _ _ hd;refine step i x y t σ1 _ (fun σ2 y H5=>∃xs,H5 D=some (.lst xs)/\xs.length<qAi/\_) _ ys hσ hst hx hy aD (mono _ _ _ _ (aH.aG ht).t hR) (fun σ2 z H3 a2 hs3 hR3=>⟨_,hs3 _ _ hdt,by lia,a2,(hst.trans hs3).upd_ne' hD,ys++[z],by rw[qAj];show _+1<=_;lia,mono _ _ _ _ (.lst (hs3 _ _ hdt)) hR3,aD⟩) fun σ2 H3 a2 hs3 hR3=>⟨a2,hst.trans hs3,ys,by lia,hR3,hs3 _ _ hdt⟩
 .left
  obtain rfl:i=xs.length:=qDc hi hge;exact⟨⟨xs,xs',hs.seq hq,hs.seq hq',.inl (qAg _)⟩,h D ys _ hD hs hR hd⟩
end
end L2
set_option maxHeartbeats 4000000
namespace L2
open PySem PySem.Spec PyProof.Rows
noncomputable def NC(K:qAd)(a:Addr)(n:Nat):It :=
 ⟨fun i H=>i<n/\∃xs x,aS K H a xs/\xs[n-1-i]?=some x,fun i H x H'=>H'=H/\∀xs,aS K H a xs->xs[n-1-i]?=some x,fun i H=>i=n⟩
theorem Dp{P:qBy}{w:qDg}{K:qAd}{tg:Expr}(a it:Addr)(n:Nat):Turn P w K tg (NC K a n) [it] it (fun i h=>h.IsRevIter it a ((n:Int)-1-(i:Int))) where
 mem:=by simp
 obj:=fun i h st b hb=>by
  have e:b=it:=by simpa using hb
  subst e;obtain⟨o,e,c,d⟩:=st;exact⟨o,e,fun v z=>by rw[d] at z;cases z⟩
 keep:=fun i h h' st k=>st.at fun o e=>k it (by simp) o e
 item:=by
  intro X hP hw hK hc i pins s σ H E I hf st hg;subst hP hw hK;obtain⟨hi,xs,x,hq,hx⟩:=hg;obtain⟨its,rv,p,hz⟩:=I.list hq;obtain⟨u,hu,ru⟩:=rv.get hx;obtain⟨f0,f1,f2,f3,f4,f5⟩:=hf it (by simp);rw[show(n:Int)-1-(i:Int)=((n-1-i:Nat):Int) by omega] at st;refine wpAny_pyNext_rev_item st p.isList (x:=u) (by simpa using hu) fun h' st' sb=>?_;rw[show((n-1-i:Nat):Int)-1=(n:Int)-1-((i+1:Nat):Int) by omega] at st';have I1:Inv X pins σ H { s with heap:=h' }:=I.turned (t':=s.toks) (fun b o hb e=>(sb.2 b hb).trans e) f0 f1 f3 f4 f5;obtain⟨o,e,c,d⟩:=id st';exact⟨u,rfl,uN (s:={ s with heap:=h' }) e c d #[1] ⟨x,H,I1,ru,⟨rfl,fun ys hy=>by rw[I.jL hy hq];exact hx⟩,st',fun b hb=>(hf b hb).1⟩⟩
 done:=by
  intro X hP hw hK hc i pins s σ H E I hf st hg;subst hP hw hK;obtain rfl:i=n:=hg;obtain⟨f0,f1,f2,f3,f4,f5⟩:=hf it (by simp);rw[show(i:Int)-1-(i:Int)=-1 by omega] at st;exact wpAny_pyNext_rev_end (I.ok.hd hc) st fun h' eb=>⟨rfl,I.turned (t':=s.toks) (fun b o hb e=>eb b o hb e) f0 f1 f3 f4 f5⟩
 self:=fun _ _ _ _ _ st h=>wpAny_pyIter_revIter st h
theorem vQ:qCq "reversed"=some (.type "reversed"):=by decide +kernel
def Px(K:qAd)(ta:TA):TI:=fun σ H R=>ta σ H fun vs H1=>∃l xs,vs=[.ref l]/\aS K H1 l xs/\R (NC K l xs.length) H1
theorem Jt{X:Cx}{tg a:Expr}{ta:TA}{p pos:Pos}(hg:Gl X "reversed")(hm:X.mg "reversed"=none)(ha:PA X [a] ta)(hs:qBt [a] X.env=[(false,eval a X.env)]:=by rfl):
  PI X tg (.Call (.Name "reversed" p) [a] [] pos) (Px X.K ta):=by
 intro pins s σ H R I h;refine qOg (fV I hg hm vQ (qCg (cG (ha pos pins s σ H _ I h) fun us s1 z9=>?_) hs rfl));obtain⟨vs,H1,I1,r1,q1⟩:=z9;obtain⟨l,xs,e,hq,q⟩:=q1;subst e;obtain⟨u,rfl,ru⟩:=vals1 r1;cases (show u=Value.ref l from ru);obtain⟨its,rv,p1,z1⟩:=I1.list hq;have hl:=rv.length;refine call_reversed_list p1.isList ?_;have hit:(s1.heap.push (revObj l ((its.toArray.size:Int)-1))).IsRevIter s1.heap.objs.size l ((xs.length:Int)-1-((0:Nat):Int)):=⟨_,qAt _ rfl,rfl,by
  show Data.fields #[.ref l,qJp ((its.toArray.size:Int)-1)]=_;rw[qAw,<- hl];simp⟩
 refine wpAny_pyIter_revIter (s:={ s1 with heap:=s1.heap.push (revObj l ((its.toArray.size:Int)-1)) }) hit ?_;have I2:Inv X pins σ H1 { s1 with heap:=s1.heap.push (revObj l ((its.toArray.size:Int)-1)) }:=I1.kept (t':=s1.toks) fun b o e=>qAh _ e;refine⟨s1.heap.objs.size,[s1.heap.objs.size],_,_,H1,rfl,I2,Dp l _ xs.length,hit,fun b hb=>?_,q⟩;have e:b=s1.heap.objs.size:=by simpa using hb
 subst e;exact I1.w8 (qAg _) (I1.cO.fresh (qAg _))
theorem FX{K:qAd}{a:Addr}{xs:List V}{g:TG}{tb:TS}{D:Ends}{σ:St}{H:Hp}(Pv:Nat->St->Hp->Prop)(h0:Pv 0 σ H)(hl:∀i σ H,i<=xs.length->Pv i σ H->aS K H a xs)
  (hs:∀i x σ H,xs[xs.length-1-i]?=some x->i<xs.length->Pv i σ H->g x σ H fun σ2 H2=>tb { D with nx:=Pv (i+1),ct:=Pv (i+1),bk:=D.nx } σ2 H2) (hd:∀σ H,Pv xs.length σ H->D.nx σ H) :
  ∃W:Nat->Nat->St->Hp->Prop,(∃m,W 0 m σ H)/\∀i m σ H,W i m σ H ->
   ((NC K a xs.length).stop i H/\D.nx σ H)\/((NC K a xs.length).go i H/\∃N:St->Hp->Prop,(∀σ' H',N σ' H'->∃m',m'<m/\W (i+1) m' σ' H')/\∀x H',(NC K a xs.length).qF i H x H'->g x σ H' fun σ2 H2=>tb { D with nx:=N,ct:=N,bk:=D.nx } σ2 H2):=by
 refine⟨fun i m σ H=>m=xs.length-i/\i<=xs.length/\Pv i σ H,⟨xs.length,by simp,qBn _,h0⟩,?_⟩;rintro i m σ H ⟨rfl,hi,p⟩;have q:=hl i σ H hi p;by_cases hlt:i<xs.length
 .refine .inr ⟨⟨hlt,xs,xs[xs.length-1-i],q,qAc (by omega)⟩,Pv (i+1),fun σ' H' p'=>⟨xs.length-(i+1),by omega,rfl,hlt,p'⟩,fun x H' y=>?_⟩;obtain⟨e,y⟩:=y;subst e;exact hs i x σ _ (y xs q) hlt p
 .have e:i=xs.length:=by omega
  subst e;exact .inl ⟨rfl,hd σ H p⟩
end L2
set_option maxHeartbeats 4000000
namespace L2
open PySem PySem.Spec PyProof.Rows
def Ju(tk tv:TE):TE:=fun σ H Q=>∀p,H p=none->tk σ (upd H p (.dK [])) fun x H2=>tv σ H2 fun y H3=>H3 p=some (.dK [])/\∃i:Int,x = .int i/\Q (.ref p) (upd H3 p (.dK [(.inl i,y)]))
theorem Dq(hk:PE X k tk)(hv:PE X v tv):PE X (.Dict [some k] [v] pos) (Ju tk tv):=by
 intro pins s σ H Q I q;have hn:=I.cO.fresh (qAg s.heap.objs.size);have I1:=I.laid (a:=s.heap.objs.size) (o:=.dK []) (h':=s.heap.push { cls:=.type "dict",data:=.dict #[] }) (t':=s.toks) (fun _ _ q=>qAh _ q) (qAg _) (vB s.heap I.big);refine wpAny_Dict_walk (knd:=cD X.prog X.w) #[0] #[0] (by simp) (by simp) ?_;refine pairTrees_cons_walk (cG (hk pins _ σ _ _ I1 (q _ hn)) fun u s2 ⟨x,H2,I2,rx,q2⟩=>cG (hv pins s2 σ H2 _ I2 q2) fun u2 s3 ⟨y,H3,I3,ry,e,i,ex,q3⟩=>pairTrees_nil_walk ?_);subst ex;obtain⟨t,rfl⟩:=rx;obtain⟨z,hd,vs0,r0,dd⟩:=CS I3.cO e;cases r0;refine⟨[(.inl i,u2)],⟨by simp[cD,oR,Value.isInt],rfl,True.intro⟩,dd,fun h' dd' hs=>⟨.ref s.heap.objs.size,_,?_,rfl,q3⟩⟩;have he:∃q,h'.get? s.heap.objs.size=some q:=let ⟨q,_,_,hq,_⟩:=dd';⟨q,hq⟩;exact tE I3 (by rw[e];exact True.intro) hs he (CU (by rw[qCc];simp) hd (.cons ⟨rfl,ry⟩ .nil) dd')
end L2
namespace Wg
noncomputable def sm:Nat->(Nat->Int)->Int
 | 0,_=>0
 | n+1,f=>sm n f+f n
theorem bC{n:Nat}{f g:Nat->Int}(h:∀i,i<n->f i=g i):sm n f=sm n g:=by
 induction n with
 | zero=>rfl
 | succ n ih=>show sm n f+f n=sm n g+g n;rw[ih fun i hi=>h i (by lia),h n (by lia)]
theorem fO(n:Nat)(f g:Nat->Int):sm n (fun i=>f i+g i)=sm n f+sm n g:=by
 induction n with
 | zero=>rfl
 | succ n ih=>show sm n _+(f n+g n)=(sm n f+f n)+(sm n g+g n);rw[ih];lia
theorem bT(n:Nat)(a:Int)(f:Nat->Int):sm n (fun i=>a*f i)=a*sm n f:=by
 induction n with
 | zero=>exact(qBu a).symm
 | succ n ih=>show sm n _+a*f n=a*(sm n f+f n);rw[ih,qQa]
theorem cL{n:Nat}{f:Nat->Int}(h:∀i,i<n->f i=0):sm n f=0:=by
 induction n with
 | zero=>rfl
 | succ n ih=>show sm n f+f n=0;rw[ih fun i hi=>h i (by lia),h n (by lia)];rfl
theorem fX{n:Nat}{f:Nat->Int}{k:Nat}(hk:k<n)(h:∀i,i<n->i≠k->f i=0):sm n f=f k:=by
 induction n with
 | zero=>lia
 | succ n ih =>
  show sm n f+f n=f k;rcases qAm k n with z | z
  .rw[ih z fun i hi=>h i (by lia),h n (by lia) (by lia)];lia
  .have e:k=n:=by lia
   subst e;rw[cL fun i hi=>h i (by lia) (by lia)];lia
theorem yI{n:Nat}{f:Nat->Int}{k l:Nat}(hkl:k<l)(hl:l<n)(h:∀i,i<n->i≠k->i≠l->f i=0):sm n f=f k+f l:=by
 induction n with
 | zero=>lia
 | succ n ih =>
  show sm n f+f n=f k+f l;rcases qAm l n with z | z
  .rw[ih z fun i hi=>h i (by lia),h n (by lia) (by lia) (by lia)];lia
  .have e:l=n:=by lia
   subst e;rw[fX hkl fun i hi ne=>h i (by lia) ne (by lia)]
theorem lW(n m:Nat)(f:Nat->Nat->Int):sm n (fun i=>sm m fun j=>f i j)=sm m (fun j=>sm n fun i=>f i j):=by
 induction n with
 | zero=>exact(cL fun _ _=>rfl).symm
 | succ n ih =>
  show sm n (fun i=>sm m fun j=>f i j)+sm m (fun j=>f n j)=sm m (fun j=>sm n (fun i=>f i j)+f n j);rw[ih,fO]
theorem vR{n:Nat}{f g:Nat->Int}(h:∀i,i<n->f i<=g i):sm n f<=sm n g:=by
 induction n with
 | zero=>exact qDi _
 | succ n ih =>
  show sm n f+f n<=sm n g+g n;have:=ih fun i hi=>h i (by lia);have:=h n (by lia);lia
noncomputable def sk(k i:Nat):Nat:=if i<k then i else i+1
noncomputable def sg:Nat->Int
 | 0=>1
 | n+1=>- sg n
theorem ND(n:Nat):sg n=1\/sg n=-1:=by
 induction n with
 | zero=>exact .inl rfl
 | succ n ih=>rcases ih with h | h <;> simp[sg,h]
noncomputable def det:Nat->(Nat->Nat->Int)->Int
 | 0,_=>1
 | m+1,c=>sm (m+1) fun k=>sg k*c k 0*det m (fun i r=>c (sk k i) (r+1))
noncomputable def up(c:Nat->Nat->Int)(i:Nat)(v:Nat->Int):Nat->Nat->Int:=fun k=>if k=i then v else c k
theorem fP(c:Nat->Nat->Int)(i:Nat)(v:Nat->Int):up c i v i=v:=if_pos rfl
theorem iK{c:Nat->Nat->Int}{i k:Nat}{v:Nat->Int}(h:k≠i):up c i v k=c k:=if_neg h
theorem j8(c:Nat->Nat->Int)(i:Nat):up c i (c i)=c:=by
 funext k
 delta up;split
 .rename_i h;rw[h]
 .rfl
theorem fD(c:Nat->Nat->Int){i j:Nat}(v u:Nat->Int)(h:i≠j):up (up c i v) j u=up (up c j u) i v:=by
 funext k
 delta up;split
 .rename_i e;rw[if_neg (by lia)]
 .rfl
theorem tM{m:Nat}:∀{c d:Nat->Nat->Int},(∀k,k<m->∀r,r<m->c k r=d k r)->det m c=det m d:=by
 induction m with
 | zero=>intros;rfl
 | succ m ih =>
  intro c d h;refine bC fun k hk=>?_;rw[h k hk 0 (by lia),ih fun i hi r hr=>?_];show c (sk k i) (r+1)=d (sk k i) (r+1);refine h _ ?_ _ (by lia);delta sk;split <;> lia
theorem nB(c:Nat->Nat->Int)(k:Nat)(v:Nat->Int):(fun i r=>up c k v (sk k i) (r+1))=(fun i r=>c (sk k i) (r+1)):=by
 funext i r
 rw[iK];delta sk;split <;> lia
noncomputable def un(k j:Nat):Nat:=if j<k then j else j-1
theorem k4(c:Nat->Nat->Int){k j:Nat}(h:k≠j)(v:Nat->Int):(fun i r=>up c j v (sk k i) (r+1))=up (fun i r=>c (sk k i) (r+1)) (un k j) (fun r=>v (r+1)):=by
 funext i r
 unfold up;by_cases e:sk k i=j
 .rw[if_pos e,if_pos];unfold sk at e;unfold un;split at e <;> split <;> lia
 .rw[if_neg e,if_neg];unfold sk at e;unfold un;split at e <;> split <;> lia
theorem NF{m k j:Nat}(hk:k<m+1)(hj:j<m+1)(h:k≠j):un k j<m:=by
 delta un;split <;> omega
theorem iL{m:Nat}:∀{c:Nat->Nat->Int}{j:Nat} (a b:Int) (u v:Nat->Int),j<m->det m (up c j fun r=>a*u r+b*v r)=a*det m (up c j u)+b*det m (up c j v):=by
 induction m with
 | zero=>intros;omega
 | succ m ih =>
  intro c j a b u v hj;unfold det;rw[<- bT,<- bT,<- fO];refine bC fun k hk=>?_;by_cases e:k=j
  .subst e;rw[nB,nB,nB,fP,fP,fP];grind
  .rw[k4 c e,k4 c e,k4 c e,iK e,iK e,iK e,ih a b (fun r=>u (r+1)) (fun r=>v (r+1)) (NF hk hj e)];grind
theorem zX{m:Nat}:∀{c:Nat->Nat->Int}{j:Nat},j+1<m->c j=c (j+1)->det m c=0:=by
 induction m with
 | zero=>intros;lia
 | succ m ih =>
  intro c j hj e;unfold det;rw[yI (k:=j) (l:=j+1) (by lia) hj fun k hk n1 n2=>?_]
  .have e2:(fun i r=>c (sk j i) (r+1))=(fun i r=>c (sk (j+1) i) (r+1)):=by
    funext i r
    unfold sk;by_cases h1:i<j
    .rw[if_pos h1,if_pos (by lia)]
    .rw[if_neg h1];by_cases h2:i<j+1
     .rw[if_pos h2,show i=j by lia,e]
     .rw[if_neg h2]
   rw[e2,e];show sg j*_*_ + - sg j*_*_=0;grind
  .rw[ih (j:=un k j) (by unfold un;split <;> lia)]
   .exact qBu _
   .funext r
    have h1:sk k (un k j)=j:=by
     unfold sk un;by_cases z:j<k
     .rw[if_pos z,if_pos z]
     .rw[if_neg z,if_neg (by lia)];lia
    have h2:sk k (un k j+1)=j+1:=by
     unfold sk un;by_cases z:j<k
     .rw[if_pos z,if_pos (by lia)]
     .rw[if_neg z,if_neg (by lia)];lia
    rw[h1,h2,e]
theorem FY(m:Nat):det m (fun k r=>if k=r then 1 else 0)=1:=by
 induction m with
 | zero=>rfl
 | succ m ih =>
  unfold det;rw[fX (k:=0) (by lia) fun k hk ne=>by show sg k*(if k=0 then 1 else 0)*_=0;rw[if_neg ne];simp];have e:(fun(i r:Nat)=>(if sk 0 i=r+1 then (1:Int) else 0))=(fun k r=>if k=r then 1 else 0):=by
   funext i r
   have z:sk 0 i=i+1:=rfl;rw[z];by_cases h:i=r
   .rw[if_pos h,if_pos (by lia)]
   .rw[if_neg h,if_neg (by lia)]
  show sg 0*(if 0=0 then 1 else 0)*det m (fun(i r:Nat)=>(if sk 0 i=r+1 then (1:Int) else 0))=1;rw[e,ih];rfl
theorem BA{m:Nat}{c:Nat->Nat->Int}{j:Nat}(u v:Nat->Int)(hj:j+1<m):det m (up (up c j u) (j+1) v)=- det m (up (up c j v) (j+1) u):=by
 have h0:∀w:Nat->Int,det m (up (up c j w) (j+1) w)=0:=fun w=>zX hj (by rw[iK (by lia),fP,fP]);have ne:j≠j+1:=by lia
 have h:=h0 (fun r=>1*u r+1*v r);rw[iL 1 1 u v hj,fD c _ u ne,fD c _ v ne,iL 1 1 u v (by lia),iL 1 1 u v (by lia),<- fD c u u ne,<- fD c v u ne,<- fD c u v ne,<- fD c v v ne,h0 u,h0 v] at h;lia
theorem zY{m:Nat}:∀(n:Nat){c:Nat->Nat->Int}{j:Nat},j+n+1<m->c j=c (j+n+1)->det m c=0:=by
 intro n;induction n with
 | zero=>exact fun hj e=>zX hj e
 | succ n ih =>
  intro c j hj e;have z:=BA (m:=m) (c:=c) (j:=j+n+1) (c (j+n+1)) (c (j+n+2)) (by lia);rw[j8,j8] at z;rw[z,ih (j:=j) (by lia)]
  .rfl
  .rw[iK (by lia),iK (by lia),iK (by lia),fP];exact e
theorem lX{m:Nat}{c:Nat->Nat->Int}{i j:Nat}(hi:i<m)(hj:j<m)(ne:i≠j)(e:c i=c j):det m c=0:=by
 rcases qAm i j with h | h
 .exact zY (j-i-1) (j:=i) (by omega) (by rw[show i+(j-i-1)+1=j by omega];exact e)
 .exact zY (i-j-1) (j:=j) (by omega) (by rw[show j+(i-j-1)+1=i by omega];exact e.symm)
theorem Dt{m:Nat}{c:Nat->Nat->Int}{i j:Nat}(u v:Nat->Int)(hi:i<m)(hj:j<m)(ne:i≠j):det m (up (up c i u) j v)=- det m (up (up c i v) j u):=by
 have h0:∀w:Nat->Int,det m (up (up c i w) j w)=0:=fun w=>lX hi hj ne (by rw[iK ne,fP,fP]);have h:=h0 (fun r=>1*u r+1*v r);rw[iL 1 1 u v hj,fD c _ u ne,fD c _ v ne,iL 1 1 u v hi,iL 1 1 u v hi,<- fD c u u ne,<- fD c v u ne,<- fD c u v ne,<- fD c v v ne,h0 u,h0 v] at h;lia
theorem tN{m:Nat}{c:Nat->Nat->Int}{j:Nat}(hj:j<m):∀(n:Nat) (a:Nat->Int) (u:Nat->Nat->Int),det m (up c j fun r=>sm n fun k=>a k*u k r)=sm n fun k=>a k*det m (up c j (u k)):=by
 intro n a u;induction n with
 | zero =>
  show det m (up c j fun r=>0)=0;have z:=iL (c:=c) 0 0 (fun _=>0) (fun _=>0) hj;have e:(fun r:Nat=>(0:Int)*(0:Int)+0*0)=fun _=>0:=rfl;have z2:det m (up c j fun r=>(0:Int)*(0:Int)+0*0)=_:=z;rw[e] at z2;lia
 | succ n ih =>
  show det m (up c j fun r=>sm n (fun k=>a k*u k r)+a n*u n r)=_+_;have z:=iL (c:=c) 1 (a n) (fun r=>sm n fun k=>a k*u k r) (u n) hj;rw[show(fun r=>(1:Int)*(sm n fun k=>a k*u k r)+a n*u n r)=fun r=>sm n (fun k=>a k*u k r)+a n*u n r from funext fun r=>by rw[qCm]] at z;rw[z,ih];show 1*sm n _+a n*_=sm n _+a n*_;rw[qCm]
theorem Du{m:Nat}{c:Nat->Nat->Int}{j:Nat}(hj:j<m)(a:Int)(u:Nat->Int):det m (up c j fun r=>a*u r)=a*det m (up c j u):=by
 have z:=tN (c:=c) hj 1 (fun _=>a) (fun _=>u);simp only[sm,qCe] at z;exact z
noncomputable def qH:Nat->Nat
 | 0=>1
 | n+1=>(n+1)*qH n
theorem rH{m:Nat}{X:Nat}:∀{c:Nat->Nat->Int},(∀k r,k<m->r<m->(c k r).natAbs<=X)->(det m c).natAbs<=qH m*X^m:=by
 induction m with
 | zero=>intro c _;exact qAg _
 | succ m ih =>
  intro c h;have hb:∀k,k<m+1->(sg k*c k 0*det m (fun i r=>c (sk k i) (r+1))).natAbs<=X*(qH m*X^m):=fun k hk=>by
   rw[qDv,qDv];have h1:(sg k).natAbs=1:=by rcases ND k with e | e <;> rw[e] <;> rfl
   rw[h1,qIz];refine qOz (h k 0 hk (by lia)) (ih fun i r hi hr=>h _ _ ?_ (by lia));delta sk;split <;> lia
  have hs:∀n,n<=m+1->(sm n fun k=>sg k*c k 0*det m (fun i r=>c (sk k i) (r+1))).natAbs<=n*(X*(qH m*X^m)):=by
   intro n;induction n with
   | zero=>intro _;show 0<=_;exact qBn _
   | succ n ih2 =>
    intro hn;refine qCy (qOc _ _) ?_;have a:=ih2 (by lia);have b:=hb n (by lia);rw[qNg,qIz];exact Nat.add_le_add a b
  refine qCy (hs (m+1) (qAg _)) (qIl ?_);show(m+1)*(X*(qH m*X^m))=(m+1)*qH m*X^(m+1);rw[qIk];simp only[qMk,qNx,qPk]
end Wg
namespace Wg
theorem sm_two'(ne:k≠l)(hk:k<n)(hl:l<n)(h:∀i,i<n->i≠k->i≠l->f i=0):sm n f=f k+f l:=by
 rcases qAm k l with z | z
 .exact yI z hl h
 .rw[yI (k:=l) (l:=k) (by lia) hk fun i hi a b=>h i hi b a];lia
structure Fr (m:Nat) (M:Nat->Nat->Int) (d:Int) (R:Nat->Nat->Int) (ch:Nat->Nat) (s:Int):Prop where
 pos:0<d
 eq:∀j r,d*M j r=sm m fun k=>R k j*M (ch k) r
 sg:s=1\/s=-1
 det:d=s*det m fun k=>M (ch k)
variable {m:Nat}{M:Nat->Nat->Int}{d:Int}{R:Nat->Nat->Int}{ch:Nat->Nat}{s:Int}
theorem Fr.ss(h:Fr m M d R ch s):s*s=1:=by rcases h.sg with e | e <;> rw[e] <;> rfl
theorem Fr.Jv(h:Fr m M d R ch s){B:Nat->Nat->Int}{i:Nat}(hi:i<m)(j:Nat):d*Wg.det m (up B i (M j))=sm m fun k=>R k j*Wg.det m (up B i (M (ch k))):=by
 rw[<- Du hi,show(fun r=>d*M j r)=fun r=>sm m fun k=>R k j*M (ch k) r from funext fun r=>h.eq j r,tN hi]
theorem Fr.hU(h:Fr m M d R ch s){k:Nat}(hk:k<m)(j:Nat):R k j=s*Wg.det m (up (fun k=>M (ch k)) k (M j)):=by
 have z:=h.Jv (B:=fun k=>M (ch k)) hk j;rw[fX hk fun i hi ne=>by rw[lX (i:=i) (j:=k) hi hk ne (by rw[iK ne,fP])];exact qBu _] at z;rw[show up (fun k=>M (ch k)) k (M (ch k))=fun k=>M (ch k) from j8 (fun k=>M (ch k)) k] at z;have hd:=h.det;have hp:=h.pos;have e:=h.ss;generalize Wg.det m (fun k=>M (ch k))=X at z hd;generalize Wg.det m (up (fun k=>M (ch k)) k (M j))=Y at z|-;have hX:X≠0:=fun x=>by rw[x] at hd;simp at hd;lia
 have z2:X*(s*Y)=X*R k j:=by
  rw[hd] at z;grind
 exact(qFn hX z2).symm
theorem Fr.unit(h:Fr m M d R ch s){k i:Nat}(hk:k<m)(hi:i<m):R k (ch i)=if k=i then d else 0:=by
 rw[h.hU hk];by_cases e:k=i
 .rw[if_pos e,e,show up (fun k=>M (ch k)) i (M (ch i))=fun k=>M (ch k) from j8 (fun k=>M (ch k)) i,<- h.det]
 .rw[if_neg e,lX (i:=i) (j:=k) hi hk (fun z=>e z.symm) (by rw[iK (fun z=>e z.symm),fP]),qBu]
theorem Fr.inj(h:Fr m M d R ch s){k i:Nat}(hk:k<m)(hi:i<m)(e:ch k=ch i):k=i:=by
 have a:=h.unit hk hi;rw[<- e,h.unit hk hk,if_pos rfl] at a;have:=h.pos;by_cases z:k=i
 .exact z
 .rw[if_neg z] at a;lia
theorem Fr.exact(h:Fr m M d R ch s){i p:Nat}(hi:i<m)(hp:p<m)(ne:i≠p)(j q:Nat):d∣R i j*R p q-R i q*R p j:=by
 have z:=h.Jv (B:=up (fun k=>M (ch k)) i (M j)) hp q;rw[sm_two' (k:=p) (l:=i) (fun e=>ne e.symm) hp hi fun k hk n1 n2=>by
  rw[lX (i:=k) (j:=p) hk hp n1 (by rw[iK n1,fP,iK n2])];exact qBu _] at z
 rw[show up (up (fun k=>M (ch k)) i (M j)) p (M (ch p))=up (fun k=>M (ch k)) i (M j) by
  have e:=j8 (up (fun k=>M (ch k)) i (M j)) p;rw[iK (fun e=>ne e.symm)] at e;exact e] at z
 rw[Dt (c:=fun k=>M (ch k)) (M j) (M (ch i)) hi hp ne,show up (fun k=>M (ch k)) i (M (ch i))=fun k=>M (ch k) from j8 (fun k=>M (ch k)) i] at z;have a1:=h.hU hi j;have a2:=h.hU hp j;have e:=h.ss;refine⟨s*Wg.det m (up (up (fun k=>M (ch k)) i (M j)) p (M q)),?_⟩;generalize Wg.det m (up (up (fun k=>M (ch k)) i (M j)) p (M q))=E at z|-;generalize Wg.det m (up (fun k=>M (ch k)) i (M j))=X at z a1;generalize Wg.det m (up (fun k=>M (ch k)) p (M j))=Y at z a2;rw[a1,a2];grind
noncomputable def sgn(x:Int):Int:=if x<0 then -1 else 1
theorem zZ(h:x≠0):0<sgn x*x:=by delta sgn;split <;> lia
theorem tO(x:Int):sgn x=1\/sgn x=-1:=by delta sgn;split <;> lia
noncomputable def iT(d:Int)(R:Nat->Nat->Int)(p q:Nat):Nat->Nat->Int:=fun k j=>if k=p then sgn (R p q)*R p j else (R k j*(sgn (R p q)*R p q)-R k q*(sgn (R p q)*R p j))/d
noncomputable def FZ(ch:Nat->Nat)(p q:Nat):Nat->Nat:=fun k=>if k=p then q else ch k
theorem Fr.iT(h:Fr m M d R ch s){p q:Nat}(hp:p<m){k:Nat}(hk:k<m)(ne:k≠p)(j:Nat):d*iT d R p q k j=R k j*(sgn (R p q)*R p q)-R k q*(sgn (R p q)*R p j):=by
 delta Wg.iT;rw[if_neg ne];refine Int.mul_ediv_cancel' ?_;obtain⟨c,hc⟩:=h.exact hk hp ne j q;exact⟨sgn (R p q)*c,by grind⟩
theorem Fr.next(h:Fr m M d R ch s){p q:Nat}(hp:p<m)(hq:R p q≠0):Fr m M (sgn (R p q)*R p q) (Wg.iT d R p q) (FZ ch p q) (sgn (R p q)*s):=by
 have hd:d≠0:=by have:=h.pos;lia
 exists zZ hq,fun j r=>?_,?_
 .have e1:=h.eq j r;have e2:=h.eq q r;refine qFn hd ?_;rw[<- bT];have e3:sm m (fun k=>d*(Wg.iT d R p q k j*M (FZ ch p q k) r))=sm m fun k=>(sgn (R p q)*R p q)*(R k j*M (ch k) r)+(-(sgn (R p q)*R p j)*(R k q*M (ch k) r)+if k=p then d*(sgn (R p q)*R p j)*M q r else 0):=by
   refine bC fun k hk=>?_;by_cases e:k=p
   .subst e;delta Wg.iT FZ;rw[if_pos rfl,if_pos rfl,if_pos rfl];grind
   .have z:=h.iT (q:=q) hp hk e j;rw[if_neg e];delta FZ;rw[if_neg e];generalize Wg.iT d R p q k j=X at z|-;generalize sgn (R p q)=S at z|-;grind
  rw[e3,fO,bT,fO,bT,<- e1,<- e2,fX (k:=p) hp fun i hi ne=>if_neg ne,if_pos rfl];grind
 .rcases tO (R p q) with e | e <;> rcases h.sg with e2 | e2 <;> rw[e,e2] <;> decide
 .rw[show(fun k=>M (FZ ch p q k))=up (fun k=>M (ch k)) p (M q) from funext fun k=>by delta FZ up;split <;> rfl]
  have z:=h.hU hp q;grind
theorem Fr.uniq(h:Fr m M d R ch s)(h':Fr m M d' R' ch' s')(e:∀k,k<m->ch k=ch' k):d=d'/\∀k,k<m->∀j,R k j=R' k j:=by
 have eb:∀(v:Nat->Int) (i:Nat),Wg.det m (up (fun k=>M (ch k)) i v)=Wg.det m (up (fun k=>M (ch' k)) i v):=fun v i=>tM fun k hk r _=>by
  delta up;split
  .rfl
  .show M (ch k) r=M (ch' k) r;rw[e k hk]
 have e0:Wg.det m (fun k=>M (ch k))=Wg.det m (fun k=>M (ch' k)):=tM fun k hk r _=>by rw[e k hk]
 have es:s=s':=by
  have a:=h.det;have b:=h'.det;have:=h.pos;have:=h'.pos;rw[<- e0] at b;rcases h.sg with x | x <;> rcases h'.sg with y | y <;> rw[x] at a <;> rw[y] at b <;> lia
 refine⟨by rw[h.det,h'.det,e0,es],fun k hk j=>?_⟩;rw[h.hU hk,h'.hU hk,eb,es]
theorem Fr.bound(h:Fr m M d R ch s){X:Nat}(hX:∀j r,(M j r).natAbs<=X):d.natAbs<=qH m*X^m/\∀k,k<m->∀j,(R k j).natAbs<=qH m*X^m:=by
 have a:s.natAbs=1:=by rcases h.sg with e | e <;> rw[e] <;> rfl
 refine⟨?_,fun k hk j=>?_⟩
 .rw[h.det,qDv,a,qIz];exact rH fun k r _ _=>hX _ r
 .rw[h.hU hk,qDv,a,qIz];refine rH fun i r _ _=>?_;delta up;split
  .exact hX _ r
  .exact hX _ r
end Wg
namespace Wg
noncomputable def red(m:Nat)(c:Nat->Int)(d:Int)(R:Nat->Nat->Int)(ch:Nat->Nat)(j:Nat):Int:=c j*d-sm m fun k=>c (ch k)*R k j
structure St where
 d:Int
 R:Nat->Nat->Int
 ch:Nat->Nat
 s:Int
variable {m n L:Nat}{M:Nat->Nat->Int}{c:Nat->Int}
def St.ok(m:Nat)(M:Nat->Nat->Int)(S:St):Prop:=Fr m M S.d S.R S.ch S.s
noncomputable def St.red(m:Nat)(c:Nat->Int)(S:St)(j:Nat):Int:=Wg.red m c S.d S.R S.ch j
noncomputable def St.next(S:St)(p q:Nat):St:=⟨sgn (S.R p q)*S.R p q,iT S.d S.R p q,FZ S.ch p q,sgn (S.R p q)*S.s⟩
structure Goes (m n L:Nat) (c:Nat->Int) (S:St) (p q:Nat):Prop where
 qn:q<n
 more:0<S.red m c q
 least:∀j,j<q->S.red m c j<=0
 pm:p<m
 pos:0<S.R p q
 ahead:∀k,k<m->0<S.R k q->S.R p L*S.R k q<S.R k L*S.R p q\/(S.R p L*S.R k q=S.R k L*S.R p q/\S.ch p<=S.ch k)
theorem k6(h:0<x):sgn x=1:=by delta sgn;rw[if_neg (by lia)]
theorem St.z6{S:St}(h:S.ok m M){p q:Nat}(hp:p<m)(hq:S.R p q≠0):(S.next p q).ok m M:=Fr.next h hp hq
theorem St.Jw{S:St}{p q:Nat}(hq:0<S.R p q):(S.next p q).d=S.R p q:=by
 show sgn _*_=_;rw[k6 hq,qCm]
theorem St.yJ{S:St}{p q:Nat}(hq:0<S.R p q)(j:Nat):(S.next p q).R p j=S.R p j:=by
 show iT _ _ _ _ _ _=_;delta iT;rw[if_pos rfl,k6 hq,qCm]
theorem St.yK{S:St}(h:S.ok m M){p q:Nat}(hp:p<m)(hq:0<S.R p q){k:Nat}(hk:k<m)(ne:k≠p)(j:Nat):S.d*(S.next p q).R k j=S.R k j*S.R p q-S.R k q*S.R p j:=by
 have z:=Fr.iT h (q:=q) hp hk ne j;rw[k6 hq,qCm,qCm] at z;exact z
theorem St.hV{S:St}{p q:Nat}:(S.next p q).ch p=q:=if_pos rfl
theorem St.fQ{S:St}{p q k:Nat}(ne:k≠p):(S.next p q).ch k=S.ch k:=if_neg ne
theorem St.Dv{S:St}(h:S.ok m M){p q:Nat}(hp:p<m)(hq:0<S.R p q)(c:Nat->Int)(j:Nat):S.d*(sm m fun k=>c ((S.next p q).ch k)*(S.next p q).R k j)=S.R p q*(sm m fun k=>c (S.ch k)*S.R k j)+S.R p j*S.red m c q:=by
 delta St.red Wg.red;rw[<- bT];have e:sm m (fun k=>S.d*(c ((S.next p q).ch k)*(S.next p q).R k j))=sm m fun k=>S.R p q*(c (S.ch k)*S.R k j)+(-(S.R p j)*(c (S.ch k)*S.R k q)+if k=p then S.d*c q*S.R p j else 0):=by
  refine bC fun k hk=>?_;by_cases e:k=p
  .subst e;rw[if_pos rfl,St.hV,St.yJ hq];grind
  .have z:=St.yK h hp hq hk e j;rw[if_neg e,St.fQ e];generalize (S.next p q).R k j=X at z|-;grind
 rw[e,fO,bT,fO,bT,fX (k:=p) hp fun i hi ne=>if_neg ne,if_pos rfl];grind
theorem St.BB{S:St}(h:S.ok m M){p q:Nat}(g:Goes m n L c S p q)(hf:∀k,k<m->0<=S.R k L):∀k,k<m->0<=(S.next p q).R k L:=fun k hk=>by
 by_cases e:k=p
 .subst e;rw[St.yJ g.pos];exact hf k hk
 .have z:=St.yK h g.pm g.pos hk e L;have hd:=Fr.pos h;have h0:0<=S.R k L*S.R p q-S.R k q*S.R p L:=by
   rcases qHk 0 (S.R k q) with y | y
   .have:=g.ahead k hk y;have e1:S.R p L*S.R k q=S.R k q*S.R p L:=qCt _ _;rcases this with a | ⟨a,_⟩ <;> lia
   .have a:=qEo (hf k hk) (qCf g.pos);have b:=Int.mul_nonpos_of_nonpos_of_nonneg y (hf p g.pm);lia
  rw[<- z] at h0;exact qKb h0 hd
theorem St.j9{S:St}(h:S.ok m M){k:Nat}(hk:k<m)(c:Nat->Int):S.red m c (S.ch k)=0:=by
 delta St.red Wg.red;rw[fX hk fun i hi ne=>by rw[Fr.unit h hi hk,if_neg ne,qBu],Fr.unit h hk hk,if_pos rfl];lia
theorem St.Jx{S S':St}(h:S.ok m M)(h':S'.ok m M)(c:Nat->Int)(j:Nat):S.d*S'.red m c j-(sm m fun k=>S'.red m c (S.ch k)*S.R k j)=S'.d*S.red m c j:=by
 have key:∀l,l<m->S.d*S'.R l j=sm m fun k=>S.R k j*S'.R l (S.ch k):=fun l hl=>by
  have e:=Fr.Jv h (B:=fun k=>M (S'.ch k)) hl j;have z:S.d*S'.R l j=S'.s*(S.d*det m (up (fun k=>M (S'.ch k)) l (M j))):=by
   rw[Fr.hU h' hl];grind
  rw[z,e,<- bT];refine bC fun k hk=>?_;rw[Fr.hU h' hl];grind
 delta St.red Wg.red;have e1:sm m (fun k=>(c (S.ch k)*S'.d-sm m fun l=>c (S'.ch l)*S'.R l (S.ch k))*S.R k j)=S'.d*(sm m fun k=>c (S.ch k)*S.R k j)-sm m fun l=>c (S'.ch l)*(S.d*S'.R l j):=by
  have e2:sm m (fun l=>c (S'.ch l)*(S.d*S'.R l j))=sm m fun k=>S.R k j*sm m fun l=>c (S'.ch l)*S'.R l (S.ch k):=by
   have e3:sm m (fun l=>c (S'.ch l)*(S.d*S'.R l j))=sm m fun l=>sm m fun k=>S.R k j*(c (S'.ch l)*S'.R l (S.ch k)):=by
    refine bC fun l hl=>?_;rw[key l hl,<- bT];refine bC fun k hk=>?_;grind
   rw[e3,lW];refine bC fun k hk=>?_;rw[bT]
  rw[e2,show ∀a b:Int,a-b=a+(-1)*b from fun a b=>by lia,<- bT,<- bT,<- fO];refine bC fun k hk=>?_;grind
 rw[e1];have e4:sm m (fun l=>c (S'.ch l)*(S.d*S'.R l j))=S.d*sm m fun l=>c (S'.ch l)*S'.R l j:=by
  rw[<- bT];refine bC fun k hk=>?_;grind
 rw[e4];grind
theorem Jy(h:sm n f<0):∃k,k<n/\f k<0:=by
 induction n with
 | zero=>simp[sm] at h
 | succ n ih =>
  have h':sm n f+f n<0:=h;rcases qHk (f n) 0 with z | z
  .exact⟨n,by lia,z⟩
  .obtain⟨k,hk,y⟩:=ih (by lia);exact⟨k,by lia,y⟩
structure Run (m n L:Nat) (M:Nat->Nat->Int) (c:Nat->Int) (T:Nat) (st:Nat->St) (p q:Nat->Nat):Prop where
 ok:(st 0).ok m M
 NH:∀k,k<m->0<=(st 0).R k L
 n8:∀i,i<T->Goes m n L c (st i) (p i) (q i)
 next:∀i,i<T->st (i+1)=(st i).next (p i) (q i)
section
variable {T:Nat}{st:Nat->St}{p q:Nat->Nat}
theorem Run.rJ(r:Run m n L M c T st p q):∀i,i<=T->(st i).ok m M/\∀k,k<m->0<=(st i).R k L:=by
 intro i;induction i with
 | zero=>exact fun _=>⟨r.ok,r.NH⟩
 | succ i ih =>
  intro h;obtain⟨a,b⟩:=ih (by lia);have g:=r.n8 i (by lia);rw[r.next i (by lia)];exact⟨St.z6 a g.pm (by have:=g.pos;lia),St.BB a g b⟩
noncomputable def St.val(m L:Nat)(c:Nat->Int)(S:St):Int:=sm m fun k=>c (S.ch k)*S.R k L
theorem Run.vS(r:Run m n L M c T st p q){i:Nat}(h:i<T):(st i).d*(st (i+1)).val m L c=(st (i+1)).d*(st i).val m L c+(st i).R (p i) L*(st i).red m c (q i):=by
 have g:=r.n8 i h;have z:=St.Dv (r.rJ i (by lia)).1 g.pm g.pos c L;rw[<- St.Jw g.pos,<- r.next i h] at z;exact z
theorem pG{a b e x y z:Int}(hb:0<b)(ha:0<a)(he:0<e)(h1:x*b<=y*a)(h2:y*e<=z*b):x*e<=z*a:=by
 have a1:=qDd h1 (qCf he);have a2:=qDd h2 (qCf ha);have:b*(x*e)<=b*(z*a):=by grind
 exact Int.le_of_mul_le_mul_left this hb
theorem vT{a b e x y z:Int}(hb:0<b)(ha:0<a)(he:0<e)(h1:x*b<=y*a)(h2:y*e<z*b):x*e<z*a:=by
 have a1:=qDd h1 (qCf he);have a2:=qEp h2 ha;have:b*(x*e)<b*(z*a):=by grind
 exact qLl this (qCf hb)
theorem rK{a b e x y z:Int}(hb:0<b)(ha:0<a)(he:0<e)(h1:x*b<y*a)(h2:y*e<=z*b):x*e<z*a:=by
 have a1:=qEp h1 he;have a2:=qDd h2 (qCf ha);have:b*(x*e)<b*(z*a):=by grind
 exact qLl this (qCf hb)
theorem Run.vU(r:Run m n L M c T st p q){a:Nat}:∀k,a+k<=T->(st a).val m L c*(st (a+k)).d<=(st (a+k)).val m L c*(st a).d:=by
 intro k;induction k with
 | zero=>exact fun _=>qDi _
 | succ k ih =>
  intro h;have h1:=ih (by lia);have z:=r.vS (i:=a+k) (by lia);have pa:=Fr.pos (r.rJ a (by lia)).1;have pk:=Fr.pos (r.rJ (a+k) (by lia)).1;have pk1:=Fr.pos (r.rJ (a+k+1) (by lia)).1;have g:=r.n8 (a+k) (by lia);have nn:=qEo ((r.rJ (a+k) (by lia)).2 _ g.pm) (qCf g.more);exact pG pk pa pk1 h1 (by grind)
theorem Run.vV(r:Run m n L M c T st p q){a b:Nat}(hab:a<b)(hb:b<=T)(e:∀k,k<m->(st a).ch k=(st b).ch k):∀i,a<=i->i<b->(st i).R (p i) L=0:=fun i h1 h2=>by
 obtain⟨ed,eR⟩:=Fr.uniq (r.rJ a (by lia)).1 (r.rJ b hb).1 e;have ev:(st a).val m L c=(st b).val m L c:=bC fun k hk=>by rw[e k hk,eR k hk]
 have g:=r.n8 i (by lia);have f:=(r.rJ i (by lia)).2 _ g.pm;rcases qHk 0 ((st i).R (p i) L) with y | y
 .exfalso;have z:=r.vS (i:=i) (by lia);have pos:=qHb y g.more;have pa:=Fr.pos (r.rJ a (by lia)).1;have pi:=Fr.pos (r.rJ i (by lia)).1;have pi1:=Fr.pos (r.rJ (i+1) (by lia)).1;have pb:=Fr.pos (r.rJ b hb).1;have m1:=r.vU (a:=a) (i-a) (by lia);rw[show a+(i-a)=i by lia] at m1;have m2:=r.vU (a:=i+1) (b-(i+1)) (by lia);rw[show i+1+(b-(i+1))=b by lia] at m2;have s1:(st a).val m L c*(st (i+1)).d<(st (i+1)).val m L c*(st a).d:=vT pi pa pi1 m1 (by grind);have s2:=rK pi1 pa pb s1 m2;rw[ev,ed] at s2;lia
 .lia
def St.has(m:Nat)(S:St)(j:Nat):Prop:=∃k,k<m/\S.ch k=j
def St.nil(m L:Nat)(S:St)(j:Nat):Prop:=∀k,k<m->S.ch k=j->S.R k L=0
theorem round{P:Nat->Prop}{a b:Nat}(h:∀i,a<=i->i<b->P i->P (i+1))(e:P b->P a){i j:Nat}(ai:a<=i)(ib:i<=b)(aj:a<=j)(jb:j<=b)(hi:P i):P j:=by
 have up:∀k x,a<=x->x+k<=b->P x->P (x+k):=by
  intro k;induction k with
  | zero=>exact fun _ _ _ h=>h
  | succ k ih=>exact fun x h1 h2 h3=>h (x+k) (by lia) (by lia) (ih x h1 (by lia) h3)
 have hb:=up (b-i) i ai (by lia) hi;rw[show i+(b-i)=b by lia] at hb;have z:=up (j-a) a (qAg _) (by lia) (e hb);rw[show a+(j-a)=j by lia] at z;exact z
theorem pH{P:Nat->Prop}{a b:Nat}{f:Nat->Nat}(hab:a<b):∃i,a<=i/\i<b/\∀j,a<=j->j<b->f j<=f i:=by
 have up:∀k,∃i,a<=i/\i<a+k+1/\∀j,a<=j->j<a+k+1->f j<=f i:=by
  intro k;induction k with
  | zero=>exact⟨a,qAg _,by lia,fun j h1 h2=>by rw[show j=a by lia];exact qAg _⟩
  | succ k ih =>
   obtain⟨i,h1,h2,h3⟩:=ih;rcases qAm (f i) (f (a+k+1)) with z | z
   .exact⟨a+k+1,by lia,by lia,fun j j1 j2=>by
     by_cases e:j=a+k+1
     .rw[e];exact qAg _
     .have:=h3 j j1 (by lia);lia⟩
   .exact⟨i,h1,by lia,fun j j1 j2=>by
     by_cases e:j=a+k+1
     .rw[e];exact z
     .exact h3 j j1 (by lia)⟩
 have z:=up (b-a-1);rw[show a+(b-a-1)+1=b by lia] at z;exact z
theorem Run.Ga(r:Run m n L M c T st p q){a b:Nat}(hab:a<b)(hb:b<=T)(e:∀k,k<m->(st a).ch k=(st b).ch k):False:=by
 have vV:=r.vV hab hb e;obtain⟨_,eR⟩:=Fr.uniq (r.rJ a (by lia)).1 (r.rJ b hb).1 e;obtain⟨i1,a1,b1,mx⟩:=pH (P:=fun _=>True) (f:=q) hab;have hasE:∀j,St.has m (st b) j->St.has m (st a) j:=fun j ⟨k,hk,z⟩=>⟨k,hk,by rw[e k hk];exact z⟩;have hasE':∀j,St.has m (st a) j->St.has m (st b) j:=fun j ⟨k,hk,z⟩=>⟨k,hk,by rw[<- e k hk];exact z⟩;have nilE:∀j,St.nil m L (st b) j->St.nil m L (st a) j:=fun j h k hk z=>by rw[eR k hk];exact h k hk (by rw[<- e k hk];exact z)
 have comes:∀j i i',a<=i->i<=b->a<=i'->i'<=b->¬St.has m (st i) j->St.has m (st i') j->∃x,a<=x/\x<b/\q x=j:=fun j i i' x1 x2 y1 y2 no yes=>by
  refine qBd fun nx=>?_;refine round (P:=fun i=>¬St.has m (st i) j) (fun i u1 u2 h z9=>?_) (fun h z=>h (hasE' j z)) x1 x2 y1 y2 no yes;obtain⟨k,hk,z⟩:=z9;rw[r.next i (by lia)] at z;by_cases ek:k=p i
  .rw[ek,St.hV] at z;exact nx ⟨i,u1,u2,z⟩
  .rw[St.fQ ek] at z;exact h ⟨k,hk,z⟩
 have nilR:∀j i i',a<=i->i<=b->a<=i'->i'<=b->St.nil m L (st i) j->St.nil m L (st i') j:=fun j i i' x1 x2 y1 y2 h=>by
  refine round (P:=fun i=>St.nil m L (st i) j) (fun i u1 u2 h k hk z=>?_) (nilE j) x1 x2 y1 y2 h;have g:=r.n8 i (by lia);have okI:=(r.rJ i (by lia)).1;rw[r.next i (by lia)] at z|-;by_cases ek:k=p i
  .rw[ek,St.yJ g.pos];exact vV i u1 u2
  .rw[St.fQ ek] at z;have w:=St.yK okI g.pm g.pos hk ek L;rw[h k hk z,vV i u1 u2,qBi,qBu] at w;have pd:=Fr.pos okI;have w':(st i).d*((st i).next (p i) (q i)).R k L=0:=by rw[w];rfl
   rcases Int.mul_eq_zero.mp w' with v | v
   .lia
   .exact v
 have g1:=r.n8 i1 (by lia);have MD:=(r.rJ i1 (by lia)).1;have not1:¬St.has m (st i1) (q i1):=fun⟨k,hk,z⟩=>by
  have w:=St.j9 MD hk c;rw[z] at w;have:=g1.more;lia
 have yes1:St.has m (st (i1+1)) (q i1):=⟨p i1,g1.pm,by rw[r.next i1 (by lia)];exact St.hV⟩;have n8:∃i,a<=i/\i<b/\(st i).ch (p i)=q i1:=by
  refine qBd fun nx=>?_;refine not1 (round (P:=fun i=>St.has m (st i) (q i1)) (fun i u1 u2 z9=>?_) (hasE _) (i:=i1+1) (j:=i1) (by lia) (by lia) a1 (by lia) yes1);obtain⟨k,hk,z⟩:=z9;rw[r.next i (by lia)];by_cases ek:k=p i
  .exact absurd ⟨i,u1,u2,by rw[<- ek];exact z⟩ nx
  .exact⟨k,hk,by rw[St.fQ ek];exact z⟩
 obtain⟨i2,a2,b2,e2⟩:=n8;have g2:=r.n8 i2 (by lia);have ok2:=(r.rJ i2 (by lia)).1;have not2:q i2≠q i1:=fun z=>by
  have w:=St.j9 ok2 g2.pm c;rw[e2,<- z] at w;have:=g2.more;lia
 have lt2:q i2<q i1:=by have:=mx i2 a2 b2;lia
 have key:=St.Jx ok2 MD c (q i2);have le:=g1.least _ lt2;have posd:=Fr.pos MD;have posd2:=Fr.pos ok2;have rhs:=qHb posd g2.more;have l0:(st i2).d*(st i1).red m c (q i2)<=0:=by
  have:=qEo (qCf posd2) (show 0<=-((st i1).red m c (q i2)) by lia);rw[qNi] at this;lia
 obtain⟨k,hk,neg⟩:=Jy (n:=m) (f:=fun k=>(st i1).red m c ((st i2).ch k)*(st i2).R k (q i2)) (by lia);have neg:(st i1).red m c ((st i2).ch k)*(st i2).R k (q i2)<0:=neg;have nob:¬St.has m (st i1) ((st i2).ch k):=fun⟨k',hk',z⟩=>by
  have w:=St.j9 MD hk' c;rw[z] at w;rw[w,qBi] at neg;lia
 obtain⟨x,x1,x2,ex⟩:=comes _ i1 i2 a1 (by lia) a2 (by lia) nob ⟨k,hk,rfl⟩;have lex:=mx x x1 x2;rw[ex] at lex;by_cases et:(st i2).ch k=q i1
 .have kp:k=p i2:=Fr.inj ok2 hk g2.pm (by rw[et,e2]);rw[et,kp] at neg;have:=qHb g1.more g2.pos;lia
 .have lt:(st i2).ch k<q i1:=by lia
  have le2:=g1.least _ lt;have pos:0<(st i2).R k (q i2):=by
   rcases qHk 0 ((st i2).R k (q i2)) with y | y
   .exact y
   .have:=qEo (show 0<=-((st i1).red m c ((st i2).ch k)) by lia) (show 0<=-((st i2).R k (q i2)) by lia);rw[qLa] at this;lia
  have z0:(st i2).R k L=0:=nilR _ i1 i2 a1 (by lia) a2 (by lia) (fun k' hk' z=>absurd ⟨k',hk',z⟩ nob) k hk rfl;have z1:=vV i2 a2 b2;rcases g2.ahead k hk pos with y | ⟨_,y⟩
  .rw[z0,z1,qBi,qBi] at y;lia
  .rw[e2] at y;lia
end
end Wg
namespace Wg
theorem Jz:∀(K T:Nat) (f:Nat->Nat),(∀i,i<=T->f i<K)->(∀i j,i<j->j<=T->f i≠f j)->T<K:=by
 intro K;induction K with
 | zero=>intro T f h _;exact absurd (h 0 (by lia)) (by lia)
 | succ K ih =>
  intro T f h inj;by_cases ex:∃i,i<=T/\f i=K
  .obtain⟨i0,h0,e0⟩:=ex;cases T with
   | zero=>lia
   | succ T =>
    have z:=ih T (fun i=>if i=i0 then f (T+1) else f i) (fun i hi=>?_) (fun i j ij jT=>?_)
    .lia
    .show(if i=i0 then f (T+1) else f i)<K;split
     .rename_i e;have a:=h (T+1) (by lia);have b:=inj i (T+1) (by lia) (by lia);rw[e,e0] at b;lia
     .rename_i e;have a:=h i (by lia);have:f i≠K:=fun z=>by
       rcases qAm i i0 with y | y
       .exact inj i i0 y h0 (by lia)
       .exact inj i0 i (by lia) (by lia) (by lia)
      lia
    .show(if i=i0 then f (T+1) else f i)≠(if j=i0 then f (T+1) else f j);split
     .rw[if_neg (by lia)];exact fun z=>inj j (T+1) (by lia) (by lia) z.symm
     .split
      .exact inj i (T+1) (by lia) (by lia)
      .exact inj i j ij (by lia)
  .have z:=ih T f (fun i hi=>?_) inj
   .lia
   .have a:=h i hi;have:f i≠K:=fun z=>ex ⟨i,hi,z⟩;lia
noncomputable def code(N:Nat)(ch:Nat->Nat):Nat->Nat
 | 0=>0
 | k+1=>code N ch k*N+ch k
theorem Gb:∀m,(∀k,k<m->ch k<N)->code N ch m<N^m:=by
 intro m;induction m with
 | zero=>exact fun _=>Nat.one_pos
 | succ m ih =>
  intro h;have a:=ih fun k hk=>h k (by lia);have b:=h m (by lia);show code N ch m*N+ch m<N^m*N;have:(code N ch m+1)*N<=N^m*N:=qMu N a;rw[qNg] at this;lia
theorem code_inj:∀m,(∀k,k<m->ch k<N)->(∀k,k<m->ch' k<N)->code N ch m=code N ch' m->∀k,k<m->ch k=ch' k:=by
 intro m;induction m with
 | zero=>intros;lia
 | succ m ih =>
  intro h h' e k hk;have e:code N ch m*N+ch m=code N ch' m*N+ch' m:=e;have a:=h m (by lia);have b:=h' m (by lia);have e1:ch m=ch' m:=by
   have:=congrArg (· % N) e;simp only[Nat.mul_add_mod_self_right,qOk a,qOk b] at this;exact this
  have e2:code N ch m=code N ch' m:=by
   rw[e1] at e;exact Nat.eq_of_mul_eq_mul_right (by lia) (Nat.add_right_cancel e)
  by_cases z:k=m
  .rw[z,e1]
  .exact ih (fun k hk=>h k (by lia)) (fun k hk=>h' k (by lia)) e2 k (by lia)
variable {m n L:Nat}{M:Nat->Nat->Int}{c:Nat->Int}{T:Nat}{st:Nat->St}{p q:Nat->Nat}
theorem Run.Py(r:Run m n L M c T st p q){N:Nat}(hn:n<=N)(h:∀k,k<m->(st 0).ch k<N):∀i,i<=T->∀k,k<m->(st i).ch k<N:=by
 intro i;induction i with
 | zero=>exact fun _=>h
 | succ i ih =>
  intro hi k hk;rw[r.next i (by lia)];have g:=r.n8 i (by lia);by_cases e:k=p i
  .rw[e,St.hV];have:=g.qn;lia
  .rw[St.fQ e];exact ih (by lia) k hk
theorem Run.ends(r:Run m n L M c T st p q){N:Nat}(hn:n<=N)(h:∀k,k<m->(st 0).ch k<N):T<N^m :=
 Jz (N^m) T (fun i=>code N (st i).ch m) (fun i hi=>Gb m (r.Py hn h i hi)) fun i j ij jT z =>
  r.Ga ij jT (code_inj m (r.Py hn h i (by lia)) (r.Py hn h j jT) z)
theorem Run.more(r:Run m n L M c T st p q){p' q':Nat}(g:Goes m n L c (st T) p' q'):∃st' p2 q2,Run m n L M c (T+1) st' p2 q2/\st' 0=st 0/\st' (T+1)=(st T).next p' q':=by
 refine⟨fun i=>if i<=T then st i else (st T).next p' q',fun i=>if i<T then p i else p',fun i=>if i<T then q i else q',⟨?_,?_,fun i hi=>?_,fun i hi=>?_⟩,if_pos (by lia),if_neg (by lia)⟩
 .rw[if_pos (by lia)];exact r.ok
 .rw[if_pos (by lia)];exact r.NH
 .by_cases e:i<T
  .rw[if_pos (by lia),if_pos e,if_pos e];exact r.n8 i e
  .rw[if_pos (by lia),if_neg e,if_neg e,show i=T by lia];exact g
 .by_cases e:i<T
  .rw[if_pos (by lia),if_pos (by lia),if_pos e,if_pos e];exact r.next i e
  .rw[if_neg (by lia),if_pos (by lia),if_neg e,if_neg e,show i=T by lia]
theorem Run.none(h:S.ok m M)(f:∀k,k<m->0<=S.R k L):Run m n L M c 0 (fun _=>S) (fun _=>0) (fun _=>0) :=
 ⟨h,f,fun i hi=>by omega,fun i hi=>by omega⟩
theorem Run.keeps(r:Run m n L M c T st p q){P:St->Prop}(h0:P (st 0))(h:∀S p q,S.ok m M->(∀k,k<m->0<=S.R k L)->Goes m n L c S p q->P S->P (S.next p q)):P (st T):=by
 have z:∀i,i<=T->P (st i):=by
  intro i;induction i with
  | zero=>exact fun _=>h0
  | succ i ih =>
   intro hi;rw[r.next i (by lia)];exact h _ _ _ (r.rJ i (by lia)).1 (r.rJ i (by lia)).2 (r.n8 i (by lia)) (ih (by lia))
 exact z T (qAg _)
noncomputable def gK(m n:Nat)(A:Nat->Nat->Int)(due:Nat->Int):Nat->Nat->Int:=fun j r =>
 if r<m then if j<n then sgn (due r)*A j r else if j<n+m then (if j=n+r then 1 else 0) else if j=n+m then sgn (due r)*due r else 0 else 0
variable {A:Nat->Nat->Int}{due:Nat->Int}
theorem nC(hi:i<m):gK m n A due (n+i) r=if r=i then 1 else 0:=by
 delta gK;by_cases hr:r<m
 .rw[if_pos hr,if_neg (by lia),if_pos (by lia)];by_cases e:r=i
  .rw[if_pos e,if_pos (by lia)]
  .rw[if_neg e,if_neg (by lia)]
 .rw[if_neg hr,if_neg (by lia)]
theorem z7(hr:¬r<m):gK m n A due j r=0:=if_neg hr
theorem oK(hr:r<m)(hj:j<n):gK m n A due j r=sgn (due r)*A j r:=by delta gK;rw[if_pos hr,if_pos hj]
theorem tP(hr:r<m):gK m n A due (n+m) r=sgn (due r)*due r:=by delta gK;rw[if_pos hr,if_neg (by lia),if_neg (by lia),if_pos rfl]
theorem yL(j r:Nat):gK m n A due j r=sm m fun i=>gK m n A due j i*gK m n A due (n+i) r:=by
 by_cases hr:r<m
 .rw[fX (k:=r) hr fun i hi ne=>by rw[nC hi,if_neg (fun e=>ne e.symm),qBu],nC hr,if_pos rfl,qHc]
 .rw[z7 hr,cL fun i hi=>by rw[z7 hr,qBu]]
noncomputable def start(m n:Nat)(A:Nat->Nat->Int)(due:Nat->Int):St:=⟨1,fun k j=>gK m n A due j k,fun k=>n+k,1⟩
theorem Dx:(start m n A due).ok m (gK m n A due):=by
 exists by show(0:Int)<1;decide,fun j r=>?_,.inl rfl
 .show 1*_=_;rw[qCm];exact yL j r
 .show 1=1*det m (fun k=>gK m n A due (n+k));rw[qCm,<- FY m];refine tM fun k hk r hr=>?_;rw[nC hk];by_cases e:k=r
  .rw[if_pos e,if_pos e.symm]
  .rw[if_neg e,if_neg (fun z=>e z.symm)]
theorem JA(x:Int):0<=sgn x*x:=by delta sgn;split <;> lia
theorem yM:∀k,k<m->0<=(start m n A due).R k (n+m):=fun k hk=>by
 show 0<=gK m n A due (n+m) k;rw[tP hk];exact JA _
theorem Gd{S:St}(h:S.ok m (gK m n A due)){k:Nat}(hk:k<m)(j:Nat):S.R k j=sm m fun i=>gK m n A due j i*S.R k (n+i):=by
 rw[Fr.hU h hk,show gK m n A due j=fun r=>sm m fun i=>gK m n A due j i*gK m n A due (n+i) r from funext fun r=>yL j r,tN hk,<- bT];refine bC fun i hi=>?_;rw[Fr.hU h hk (n+i)];show _=(sm m fun i'=>gK m n A due j i'*gK m n A due (n+i') i)*_;rw[<- yL j i];grind
noncomputable def fT(m n:Nat)(c:Nat->Int)(S:St)(i:Nat):Int:=sm m fun k=>c (S.ch k)*S.R k (n+i)
theorem rL(h:S.ok m (gK m n A due))(c:Nat->Int)(j:Nat):(sm m fun i=>gK m n A due j i*fT m n c S i)=c j*S.d-S.red m c j:=by
 have e:(sm m fun i=>gK m n A due j i*fT m n c S i)=sm m fun k=>c (S.ch k)*S.R k j:=by
  have e1:(sm m fun i=>gK m n A due j i*fT m n c S i)=sm m fun i=>sm m fun k=>gK m n A due j i*(c (S.ch k)*S.R k (n+i)):=bC fun i hi=>by
   delta fT;rw[bT]
  rw[e1,lW];refine bC fun k hk=>?_;rw[Gd h hk j,<- bT];refine bC fun i hi=>?_;grind
 rw[e];delta St.red red;lia
theorem Dy(x:Int):sgn x*sgn x=1:=by rcases tO x with e | e <;> rw[e] <;> rfl
theorem pI(h:S.ok m (gK m n A due))(c:Nat->Int){j:Nat}(hj:j<n):(sm m fun i=>A j i*(sgn (due i)*fT m n c S i))=c j*S.d-S.red m c j:=by
 rw[<- rL h];refine bC fun i hi=>?_;rw[oK hi hj];grind
theorem rM(h:S.ok m (gK m n A due))(c:Nat->Int)(c0:c (n+m)=0):(sm m fun i=>due i*(sgn (due i)*fT m n c S i))=sm m fun k=>c (S.ch k)*S.R k (n+m):=by
 have z:=rL h c (n+m);unfold St.red red at z;rw[c0] at z;have e:(sm m fun i=>due i*(sgn (due i)*fT m n c S i))=sm m fun i=>gK m n A due (n+m) i*fT m n c S i:=bC fun i hi=>by
  rw[tP hi];grind
 rw[e,z];lia
noncomputable def wt(m:Nat)(f:Nat->Int)(S:St)(j:Nat):Int:=sm m fun k=>if S.ch k=j then f k else 0
theorem tQ(f:Nat->Int)(S:St)(g:Nat->Int)(h0:∀k,k<m->n<=S.ch k->g (S.ch k)*f k=0):(sm n fun j=>g j*wt m f S j)=sm m fun k=>g (S.ch k)*f k:=by
 have e1:(sm n fun j=>g j*wt m f S j)=sm n fun j=>sm m fun k=>if S.ch k=j then g j*f k else 0:=bC fun j hj=>by
  delta wt;rw[<- bT];refine bC fun k hk=>?_;split
  .rfl
  .exact qBu _
 rw[e1,lW];refine bC fun k hk=>?_;rcases qAm (S.ch k) n with z | z
 .rw[fX (k:=S.ch k) z fun i hi ne=>if_neg (fun e=>ne e.symm),if_pos rfl]
 .rw[cL fun i hi=>if_neg (by lia),h0 k hk z]
theorem Hi(f:Nat->Int){j:Nat}(h:∀k,k<m->S.ch k≠j):wt m f S j=0:=cL fun k hk=>if_neg (h k hk)
theorem pJ(h:∀i,i<n->0<=f i):0<=sm n f:=by
 have z:=vR (n:=n) (f:=fun _=>0) (g:=f) h;rw[cL fun _ _=>rfl] at z;exact z
theorem Dz(h:∀k,k<m->0<=f k)(S:St)(j:Nat):0<=wt m f S j:=pJ fun k hk=>by
 split
 .exact h k hk
 .exact qDi _
def Clean(m n:Nat)(S:St):Prop:=∀k,k<m->n<=S.ch k->S.R k (n+m)=0/\∀j,j<n->S.R k j=0
theorem meets(h:S.ok m (gK m n A due))(cl:Clean m n S){i:Nat}(hi:i<m):(sm n fun j=>A j i*wt m (fun k=>S.R k (n+m)) S j)=due i*S.d:=by
 rw[tQ (fun k=>S.R k (n+m)) S (fun j=>A j i) fun k hk z=>by rw[(cl k hk z).1,qBu]];have e:=Fr.eq h (n+m) i;rw[tP hi] at e;have e2:sgn (due i)*(sm m fun k=>A (S.ch k) i*S.R k (n+m))=S.d*(sgn (due i)*due i):=by
  rw[e,<- bT];refine bC fun k hk=>?_;rcases qAm (S.ch k) n with z | z
  .rw[oK hi z];grind
  .rw[(cl k hk z).1];grind
 have sq:=Dy (due i);generalize (sm m fun k=>A (S.ch k) i*S.R k (n+m))=X at e2|-;generalize sgn (due i)=s at e2 sq;have:s*(s*X)=s*(S.d*(s*due i)):=by rw[e2]
 grind
theorem away(h:S.ok m (gK m n A due))(cl:Clean m n S){q:Nat}(hq:q<n){i:Nat}(hi:i<m):A q i*S.d+(sm n fun j=>A j i*wt m (fun k=>- S.R k q) S j)=0:=by
 rw[tQ (fun k=>- S.R k q) S (fun j=>A j i) fun k hk z=>by rw[(cl k hk z).2 q hq];grind];have e:=Fr.eq h q i;rw[oK hi hq] at e;have e2:sgn (due i)*(sm m fun k=>A (S.ch k) i * - S.R k q)=- (S.d*(sgn (due i)*A q i)):=by
  rw[e,<- bT,show ∀a:Int,- a=(-1)*a from fun a=>by lia,<- bT];refine bC fun k hk=>?_;rcases qAm (S.ch k) n with z | z
  .rw[oK hi z];grind
  .rw[(cl k hk z).2 q hq];grind
 have sq:=Dy (due i);generalize (sm m fun k=>A (S.ch k) i * - S.R k q)=X at e2|-;generalize sgn (due i)=s at e2 sq;have:s*(s*X)=s*(- (S.d*(s*A q i))):=by rw[e2]
 grind
theorem yO(h:S.ok m M){p q:Nat}(hp:p<m)(hq:q<n)(nz:S.R p q≠0)(cl:Clean m n S):Clean m n (S.next p q):=fun k hk z=>by
 have ne:k≠p:=fun e=>by rw[e,St.hV] at z;lia
 rw[St.fQ ne] at z;obtain⟨a,b⟩:=cl k hk z;have key:∀j,S.R k j=0->(S.next p q).R k j=0:=fun j e=>by
  have w:=Fr.iT h (q:=q) hp hk ne j;rw[e,b q hq,qBi,qBi] at w;have pd:=Fr.pos h;have w':S.d*(S.next p q).R k j=0:=w;rcases Int.mul_eq_zero.mp w' with v | v
  .lia
  .exact v
 exact⟨key _ a,fun j hj=>key j (b j hj)⟩
theorem BC{S:St}(h:S.ok m M){p q:Nat}(hp:p<m)(nz:S.R p q≠0)(z:S.R p L=0)(f:∀k,k<m->0<=S.R k L):(∀k,k<m->0<=(S.next p q).R k L)/\∀k,k<m->S.R k L=0->(S.next p q).R k L=0:=by
 have pd:=Fr.pos h;have key:∀k,k<m->k≠p->S.d*(S.next p q).R k L=S.R k L*(sgn (S.R p q)*S.R p q):=fun k hk ne=>by
  have w:=Fr.iT h (q:=q) hp hk ne L;rw[z,qBu,qBu,qPu] at w;exact w
 have at_p:(S.next p q).R p L=0:=by
  show iT _ _ _ _ _ _=_;delta iT;rw[if_pos rfl,z,qBu]
 refine⟨fun k hk=>?_,fun k hk e=>?_⟩
 .by_cases e:k=p
  .rw[e,at_p];exact qDi _
  .have w:=key k hk e;have:0<=S.d*(S.next p q).R k L:=by rw[w];exact qEo (f k hk) (qCf (zZ nz))
   exact qKb this pd
 .by_cases ek:k=p
  .rw[ek,at_p]
  .have w:=key k hk ek;rw[e,qBi] at w;rcases Int.mul_eq_zero.mp w with v | v
   .lia
   .exact v
theorem DB{S:St}(h:S.ok m M){p q:Nat}(hp:p<m)(hq:q<n)(nz:S.R p q≠0){k:Nat}(hk:k<m)(ne:k≠p)(r0:∀j,j<n->S.R k j=0):∀j,j<n->(S.next p q).R k j=0:=fun j hj=>by
 have w:=Fr.iT h (q:=q) hp hk ne j;rw[r0 j hj,r0 q hq,qBi,qBi] at w;have pd:=Fr.pos h;have w':S.d*(S.next p q).R k j=0:=w;rcases Int.mul_eq_zero.mp w' with v | v
 .lia
 .exact v
noncomputable def lv(m n:Nat)(j:Nat):Int:=if n<=j/\j<n+m then -1 else 0
theorem tR{S:St}(h:S.ok m M){q:Nat}(hq:q<n)(g:0<S.red m (lv m n) q)(le:∀k,k<m->S.R k q<=0):False:=by
 delta St.red red at g;rw[show lv m n q=0 from if_neg (by lia),qBi] at g;have z:0<=sm m fun k=>lv m n (S.ch k)*S.R k q:=pJ fun k hk=>by
  have:=le k hk;delta lv;split <;> lia
 lia
theorem BD(h:S.ok m (gK m n A due))(f:∀k,k<m->0<=S.R k (n+m))(le:∀j,j<n->S.red m (lv m n) j<=0)(ch:∀k,k<m->S.ch k<n+m){k:Nat}(hk:k<m)(sp:n<=S.ch k)(nz:S.R k (n+m)≠0):
  (∀j,j<n->0<=sm m fun i=>A j i*(sgn (due i)*fT m n (lv m n) S i))/\(sm m fun i=>due i*(sgn (due i)*fT m n (lv m n) S i))<0:=by
 refine⟨fun j hj=>?_,?_⟩
 .rw[pI h _ hj,show lv m n j=0 from if_neg (by lia)];have:=le j hj;lia
 .rw[rM h _ (if_neg (by lia))];have z:sm m (fun k=>lv m n (S.ch k)*S.R k (n+m))<=sm m fun i=>if i=k then -1 else 0:=vR fun i hi=>by
   have a:=f i hi;by_cases e:i=k
   .rw[if_pos e,e];rw[e] at a;rw[show lv m n (S.ch k)=-1 from if_pos ⟨sp,ch k hk⟩];lia
   .rw[if_neg e];delta lv;split <;> lia
  rw[fX hk (fun i hi ne=>if_neg ne),if_pos rfl] at z;lia
theorem BE(h:S.ok m (gK m n A due))(cl:Clean m n S)(le:∀j,j<n->S.red m g j<=0)(g0:∀j,n<=j->g j=0):
  (∀j,j<n->g j*S.d<=sm m fun i=>A j i*(sgn (due i)*fT m n g S i))/\(sm m fun i=>due i*(sgn (due i)*fT m n g S i))=sm n fun j=>g j*wt m (fun k=>S.R k (n+m)) S j:=by
 refine⟨fun j hj=>?_,?_⟩
 .rw[pI h _ hj];have:=le j hj;lia
 .rw[rM h _ (g0 _ (by lia)),tQ (fun k=>S.R k (n+m)) S g fun k hk z=>by rw[g0 _ z,qBi]]
noncomputable def way(m q:Nat)(S:St)(j:Nat):Int:=if j=q then S.d else wt m (fun k=>- S.R k q) S j
theorem z8{S:St}{q:Nat}(hq:q<n)(no:∀k,k<m->S.ch k≠q)(a:Nat->Int):(sm n fun j=>a j*way m q S j)=a q*S.d+sm n fun j=>a j*wt m (fun k=>- S.R k q) S j:=by
 have e:(sm n fun j=>a j*way m q S j)=sm n fun j=>(if j=q then a q*S.d else 0)+a j*wt m (fun k=>- S.R k q) S j:=bC fun j hj=>by
  delta way;by_cases e:j=q
  .rw[if_pos e,if_pos e,e,Hi _ no];lia
  .rw[if_neg e,if_neg e,qCe]
 rw[e,fO,fX hq fun i hi ne=>if_neg ne,if_pos rfl]
theorem DD{S:St}{g:Nat->Int}(h:S.ok m M){q:Nat}(gr:0<S.red m g q):∀k,k<m->S.ch k≠q:=fun k hk e=>by
 have z:=St.j9 h hk g;rw[e] at z;lia
theorem tS{S:St}{g:Nat->Int}(h:S.ok m (gK m n A due))(cl:Clean m n S)(g0:∀j,n<=j->g j=0){q:Nat}(hq:q<n)(gr:0<S.red m g q)(le:∀k,k<m->S.R k q<=0):
  (∀j,0<=way m q S j)/\(∀i,i<m->(sm n fun j=>A j i*way m q S j)=0)/\0<sm n fun j=>g j*way m q S j:=by
 have no:=DD h gr;refine⟨fun j=>?_,fun i hi=>?_,?_⟩
 .delta way;split
  .exact qCf (Fr.pos h)
  .exact Dz (fun k hk=>by have:=le k hk;lia) S j
 .rw[z8 hq no (fun j=>A j i)];exact away h cl hq hi
 .rw[z8 hq no g,tQ (fun k=>- S.R k q) S g fun k hk z=>by rw[g0 _ z,qBi]];delta St.red red at gr;have e:(sm m fun k=>g (S.ch k) * - S.R k q)=-(sm m fun k=>g (S.ch k)*S.R k q):=by
   rw[show ∀a:Int,- a=(-1)*a from fun a=>by lia,<- bT];refine bC fun k hk=>?_;grind
  rw[e];lia
end Wg
namespace Wg
def Ah(L q:Nat)(S:St)(a b:Nat):Prop:=S.R a L*S.R b q<S.R b L*S.R a q\/(S.R a L*S.R b q=S.R b L*S.R a q/\S.ch a<=S.ch b)
theorem Ah.refl(a:Nat):Ah L q S a a:=.inr ⟨rfl,qAg _⟩
theorem Ah.le(h:Ah L q S a b):S.R a L*S.R b q<=S.R b L*S.R a q:=by
 rcases h with h | ⟨h,_⟩ <;> lia
theorem Ah.trans(ha:0<S.R a q)(hb:0<S.R b q)(hc:0<S.R c q)(h1:Ah L q S a b)(h2:Ah L q S b c):Ah L q S a c:=by
 rcases h1 with h1 | ⟨h1,e1⟩
 .exact .inl (rK hb ha hc h1 h2.le)
 .rcases h2 with h2 | ⟨h2,e2⟩
  .exact .inl (vT hb ha hc (qGl h1) h2)
  .have z1:=pG hb ha hc (qGl h1) (qGl h2);have z2:=pG hb hc ha (qGl h2.symm) (qGl h1.symm);exact .inr ⟨Int.le_antisymm z1 z2,qCy e1 e2⟩
theorem Ah.JB(h:¬(S.R b L*S.R a q<S.R a L*S.R b q\/(S.R b L*S.R a q=S.R a L*S.R b q/\S.ch b<S.ch a))):Ah L q S a b:=by
 rcases qOe (S.R a L*S.R b q) (S.R b L*S.R a q) with z | z | z
 .exact .inl z
 .refine .inr ⟨z,?_⟩;rcases qAm (S.ch b) (S.ch a) with y | y
  .exact absurd (.inr ⟨z.symm,y⟩) h
  .exact y
 .exact absurd (.inl z) h
theorem Ah.of(h:S.R a L*S.R b q<S.R b L*S.R a q\/(S.R a L*S.R b q=S.R b L*S.R a q/\S.ch a<S.ch b)):Ah L q S a b:=by
 rcases h with h | ⟨h,e⟩
 .exact .inl h
 .exact .inr ⟨h,qAo e⟩
end Wg
namespace Cm
open Wg
theorem snocInd{α:Type}{motive:List α->Prop}(nil:motive [])(append_singleton:∀xs x,motive xs->motive (xs++[x]))(xs:List α):motive xs:=by
 have h:∀n (xs:List α),xs.length=n->motive xs:=by
  intro n;induction n with
  | zero=>intro xs hl;rw[List.length_eq_zero_iff.mp hl];exact nil
  | succ n ih =>
   intro xs hl;have hne:xs≠[]:=fun e=>by rw[e] at hl;cases hl
   rw[<- qGt hne];exact append_singleton _ _ (ih _ (by rw[qMn,hl];rfl))
 exact h _ xs rfl
theorem sub_len:∀{l l':List Nat},l.Nodup->(∀x,x∈l->x∈l')->l.length<=l'.length
 | [],_,_,_=>qBn _
 | x::l,l',hn,h=>by
  obtain⟨n1,n2⟩:=List.nodup_cons.mp hn;have hx:=h x (.head _);have z:=sub_len (l:=l) (l':=l'.erase x) n2 fun y hy=>(qMm (fun e=>by subst e;exact n1 hy)).mpr (h y (.tail _ hy));rw[qLi hx] at z;have:=qGc hx;rw[qBq];lia
noncomputable def jA:Nat->(Nat->Int)->Nat
 | 0,_=>0
 | m+1,f=>if jA m f<m then jA m f else if f m≠0 then m else m+1
theorem i4:∀{m:Nat}{f:Nat->Int}{i:Nat},i<jA m f->i<m->f i=0
 | 0,f,i,_,h=>absurd h (qFx _)
 | m+1,f,i,h,hm=>by
  unfold jA at h;split at h
  .exact i4 h (by omega)
  .rename_i h1;split at h
   .rename_i h2;exact i4 (m:=m) (by omega) (by omega)
   .rename_i h2;rcases qAm i m with z | z
    .exact i4 (m:=m) (by omega) z
    .have e:i=m:=by omega
     subst e;exact Classical.not_not.mp h2
theorem nE:∀{m:Nat}{f:Nat->Int},jA m f<m->f (jA m f)≠0
 | 0,f,h=>absurd h (qFx _)
 | m+1,f,h=>by
  unfold jA at h|-;split
  .rename_i h1;exact nE h1
  .rename_i h1;rw[if_neg h1] at h;split
   .assumption
   .rename_i h2;rw[if_neg h2] at h;lia
noncomputable def jR(m:Nat)(l f:Nat->Int):Nat->Int:=fun i=>f i*l (jA m l)-l i*f (jA m l)
noncomputable def dA(m:Nat)(rows:List (Nat->Int))(f:Nat->Int):Nat->Int:=rows.foldl (fun f l=>jR m l f) f
theorem cT(m:Nat)(rows:List (Nat->Int))(l f:Nat->Int):dA m (rows++[l]) f=jR m l (dA m rows f):=by
 delta dA;rw[qHs];rfl
noncomputable def iU(m:Nat)(vs:List (Nat->Int)):List (Nat->Int):=vs.foldl (fun acc v=>acc++[dA m acc v]) []
theorem dZ(m:Nat)(vs:List (Nat->Int))(v:Nat->Int):iU m (vs++[v])=iU m vs++[dA m (iU m vs) v]:=by
 delta iU;rw[qHs];rfl
theorem lY(m:Nat)(vs:List (Nat->Int)):(iU m vs).length=vs.length:=by
 induction vs using snocInd with
 | nil=>rfl
 | append_singleton vs v ih=>rw[dZ,qAj,qAj,ih];rfl
theorem BF(m:Nat)(l f g:Nat->Int)(a b:Int):jR m l (fun i=>a*f i+b*g i)=fun i=>a*jR m l f i+b*jR m l g i:=by
 funext i;delta jR;grind
theorem jS(m:Nat)(rows:List (Nat->Int))(f g:Nat->Int)(a b:Int):dA m rows (fun i=>a*f i+b*g i)=fun i=>a*dA m rows f i+b*dA m rows g i:=by
 induction rows using snocInd with
 | nil=>rfl
 | append_singleton rows l ih=>rw[cT,cT,cT,ih,BF]
def i5(m:Nat)(vs:List (Nat->Int)):Prop:=∀r,r∈iU m vs->jA m r<m
theorem i5.kB(h:i5 m (vs++[v])):i5 m vs/\jA m (dA m (iU m vs) v)<m:=by
 delta i5 at h|-;rw[dZ] at h;exact⟨fun r hr=>h r (qCb _ hr),h _ (qBa _ (List.mem_singleton.mpr rfl))⟩
theorem i5.snoc(h:i5 m vs)(h1:jA m (dA m (iU m vs) v)<m):i5 m (vs++[v]):=by
 delta i5 at h|-;rw[dZ];intro r hr;rcases List.mem_append.mp hr with hr | hr
 .exact h r hr
 .rw[List.mem_singleton.mp hr];exact h1
theorem z9{m:Nat}{vs:List (Nat->Int)}(h:i5 m vs):∀(f:Nat->Int) (r:Nat->Int),r∈iU m vs->dA m (iU m vs) f (jA m r)=0:=by
 induction vs using snocInd with
 | nil=>intro f r hr;cases hr
 | append_singleton vs v ih =>
  intro f r hr;obtain⟨h1,h2⟩:=h.kB;rw[dZ] at hr|-;rw[cT];rcases List.mem_append.mp hr with hr | hr
  .have e1:=ih h1 f r hr;have e2:=ih h1 v r hr;show _*_-_*_=(0:Int);rw[e1,e2,qBi,qBi];rfl
  .rw[List.mem_singleton.mp hr];show _*_-_*_=(0:Int);rw[qCt];lia
theorem vW{m:Nat}{vs:List (Nat->Int)}(h:i5 m vs):∀v,v∈vs->∀i,dA m (iU m vs) v i=0:=by
 induction vs using snocInd with
 | nil=>intro v hv;cases hv
 | append_singleton vs u ih =>
  intro v hv i;obtain⟨h1,h2⟩:=h.kB;rw[dZ,cT];rcases List.mem_append.mp hv with hv | hv
  .have e:=ih h1 v hv;show _*_-_*_=(0:Int);rw[e,e,qBi,qBu];rfl
  .rw[List.mem_singleton.mp hv];show _*_-_*_=(0:Int);lia
noncomputable def dot(m:Nat)(y f:Nat->Int):Int:=sm m fun i=>y i*f i
theorem DE(m:Nat)(y l f:Nat->Int):dot m y (jR m l f)=l (jA m l)*dot m y f-f (jA m l)*dot m y l:=by
 delta dot jR;have e:(fun i=>y i*(f i*l (jA m l)-l i*f (jA m l)))=fun i=>l (jA m l)*(y i*f i)+(-(f (jA m l)))*(y i*l i):=by
  funext i;grind
 rw[e,fO,bT,bT];grind
theorem Ge{m:Nat}{vs:List (Nat->Int)}(h:i5 m vs){y:Nat->Int}(hy:∀v,v∈vs->dot m y v=0):(∀r,r∈iU m vs->dot m y r=0)/\∀f,∃c:Int,c≠0/\dot m y (dA m (iU m vs) f)=c*dot m y f:=by
 induction vs using snocInd with
 | nil=>exact⟨fun r hr=>(by cases hr),fun f=>⟨1,by decide,(qCm _).symm⟩⟩
 | append_singleton vs v ih =>
  obtain⟨h1,h2⟩:=h.kB;obtain⟨i1,i2⟩:=ih h1 fun u hu=>hy u (qCb _ hu);have hr:dot m y (dA m (iU m vs) v)=0:=by
   obtain⟨c,_,e⟩:=i2 v;rw[e,hy v (qBa _ (List.mem_singleton.mpr rfl)),qBu]
  rw[dZ];refine⟨fun r hr'=>?_,fun f=>?_⟩
  .rcases List.mem_append.mp hr' with hr' | hr'
   .exact i1 r hr'
   .rw[List.mem_singleton.mp hr'];exact hr
  .obtain⟨c,hc,e⟩:=i2 f;exists dA m (iU m vs) v (jA m (dA m (iU m vs) v))*c,qLb (nE h2) hc;rw[cT,DE,hr,e,qBu,qPu,qEm]
def Told(m:Nat)(vs:List (Nat->Int))(f:Nat->Int):Prop:=∀i,i<m->dA m (iU m vs) f i=0
theorem Told.dot(h:i5 m vs)(t:Told m vs f)(hy:∀v,v∈vs->dot m y v=0):dot m y f=0:=by
 obtain⟨_,i2⟩:=Ge h hy;obtain⟨c,hc,e⟩:=i2 f;have z:Cm.dot m y (dA m (iU m vs) f)=0:=cL fun i hi=>by rw[t i hi,qBu]
 rw[z] at e;rcases Int.mul_eq_zero.mp e.symm with z | z
 .exact absurd z hc
 .exact z
theorem Told.QI(a b:Int)(t:Told m vs f)(u:Told m vs g):Told m vs fun i=>a*f i+b*g i:=fun i hi=>by
 rw[jS];show a*_+b*_=(0:Int);rw[t i hi,u i hi,qBu,qBu];rfl
theorem Told.self(h:i5 m vs){v:Nat->Int}(hv:v∈vs):Told m vs v:=fun i _=>vW h v hv i
theorem Told.snoc(t:Told m vs f):Told m (vs++[v]) f:=fun i hi=>by
 rw[dZ,cT];show _*_-_*_=(0:Int);rw[t i hi];rcases qAm (jA m (dA m (iU m vs) v)) m with z | z
 .rw[t _ z];grind
 .have e:dA m (iU m vs) v i=0:=i4 (by lia) hi;rw[e];grind
theorem rN(h:¬Told m vs f):jA m (dA m (iU m vs) f)<m:=by
 rcases qAm (jA m (dA m (iU m vs) f)) m with z | z
 .exact z
 .exact absurd (fun i hi=>i4 (by lia) hi) h
theorem pK:∀(m:Nat) (l:List Nat),l.Nodup->(∀x,x∈l->x<m)->l.length<=m
 | 0,[],_,_=>qAg _
 | 0,x::l,_,h=>absurd (h x (.head _)) (qFx _)
 | m+1,l,hn,h=>by
  have h1:=pK m (l.erase m) (hn.erase m) fun x hx=>by
   have hx':=(List.Nodup.mem_erase_iff hn).mp hx;have:=h x hx'.2;have:=hx'.1;lia
  rw[List.length_erase] at h1;split at h1 <;> lia
theorem rO{m:Nat}{vs:List (Nat->Int)}(h:i5 m vs):((iU m vs).map (jA m)).Nodup:=by
 induction vs using snocInd with
 | nil=>exact qIu
 | append_singleton vs v ih =>
  obtain⟨h1,h2⟩:=h.kB;rw[dZ,qAr];refine List.nodup_append.mpr ⟨ih h1,by simp,fun a ha b hb e=>?_⟩;obtain⟨r,hr,rfl⟩:=List.mem_map.mp ha;have hb':b=jA m (dA m (iU m vs) v):=by simpa using hb
  have z:=z9 h1 v r hr;rw[e,hb'] at z;exact nE h2 z
theorem i5.len(h:i5 m vs):vs.length<=m:=by
 have z:=pK m _ (rO h) fun x hx=>by
  obtain⟨r,hr,rfl⟩:=List.mem_map.mp hx;exact h r hr
 rw[qAa,lY] at z;exact z
theorem full:∀(m:Nat) (l:List Nat),l.Nodup->(∀x,x∈l->x<m)->l.length=m->∀i,i<m->i∈l:=by
 intro m l hn h hl i hi;refine qBd fun hc=>?_;have z:=pK m (i::l) (List.nodup_cons.mpr ⟨hc,hn⟩) fun x hx=>by
  rcases List.mem_cons.mp hx with e | e
  .rw[e];exact hi
  .exact h x e
 rw[qBq] at z;lia
theorem BG(h:i5 m vs)(hl:vs.length=m)(f:Nat->Int):Told m vs f:=fun i hi=>by
 have z:=full m _ (rO h) (fun x hx=>by
  obtain⟨r,hr,rfl⟩:=List.mem_map.mp hx;exact h r hr) (by rw[qAa,lY,hl]) i hi
 obtain⟨r,hr,rfl⟩:=List.mem_map.mp z;exact z9 h f r hr
noncomputable def e1(p:Nat):Nat->Int:=fun i=>if i=p then 1 else 0
theorem JC{m p:Nat}:∀(rows:List (Nat->Int)),(∀r,r∈rows->jA m r<m/\jA m r≠p)->∃c:Int,c≠0/\dA m rows (e1 p)=fun i=>c*e1 p i:=by
 intro rows;induction rows using snocInd with
 | nil=>intro _;exact⟨1,by decide,funext fun i=>(qCm _).symm⟩
 | append_singleton rows l ih =>
  intro h;obtain⟨c,hc,e⟩:=ih fun r hr=>h r (qCb _ hr);obtain⟨h1,h2⟩:=h l (qBa _ (List.mem_singleton.mpr rfl));exists c*l (jA m l),qLb hc (nE h1);rw[cT,e];funext i;delta jR;have z:e1 p (jA m l)=0:=if_neg h2;dsimp only;rw[z];grind
theorem BH(h:i5 m vs)(t:∀p,p<m->Told m vs (e1 p)):vs.length=m:=by
 have hle:=h.len;rcases qAm vs.length m with z | z
 .exfalso;have hex:∃p,p<m/\p∉(iU m vs).map (jA m):=qBd fun hc=>by
   have hall:∀p,p<m->p∈(iU m vs).map (jA m):=fun p hp=>qBd fun hn=>hc ⟨p,hp,hn⟩;have hs:(qAk m).length<=((iU m vs).map (jA m)).length:=by
    exact sub_len List.nodup_range fun x hx=>hall x (List.mem_range.mp hx)
   rw[qAu,qAa,lY] at hs;lia
  obtain⟨p,hp,hn⟩:=hex;obtain⟨c,hc,e⟩:=JC (m:=m) (p:=p) (iU m vs) fun r hr=>⟨h r hr,fun e=>hn (List.mem_map.mpr ⟨r,hr,e⟩)⟩;have z1:=t p hp p hp;rw[e] at z1;have z2:e1 p p=1:=if_pos rfl;dsimp only at z1;rw[z2] at z1;lia
 .lia
noncomputable def comb:List (Int×(Nat->Int))->Nat->Int
 | [],_=>0
 | (a,v)::r,i=>a*v i+comb r i
theorem nF(l:List (Int×(Nat->Int)))(a:Int)(v:Nat->Int)(i:Nat):comb (l++[(a,v)]) i=comb l i+a*v i:=by
 induction l with
 | nil=>show a*v i+0=0+a*v i;lia
 | cons p l ih =>
  obtain⟨b,u⟩:=p;show b*u i+comb (l++[(a,v)]) i=(b*u i+comb l i)+a*v i;rw[ih];lia
theorem vX:∀(l:List (Int×(Nat->Int))),(∀p,p∈l->∀i,i<m->dA m rows p.2 i=0)->∀i,i<m->dA m rows (comb l) i=0
 | [],_,i,hi=>by
  have e:(comb []:Nat->Int)=fun i=>0*(0:Int)+0*(0:Int):=rfl;rw[e,jS m rows (fun _=>0) (fun _=>0) 0 0];show 0*_+0*_=(0:Int);lia
 | (a,v)::r,h,i,hi=>by
  have e:comb ((a,v)::r)=fun i=>a*v i+1*comb r i:=by
   funext i;show a*v i+comb r i=_;lia
  rw[e,jS];show a*_+1*_=(0:Int);rw[h _ (.head _) i hi,vX r (fun p hp=>h p (.tail _ hp)) i hi];lia
theorem tT{m:Nat}{rows:List (Nat->Int)}(hr:∀r,r∈rows->jA m r<m){f g:Nat->Int}(h:∀i,i<m->f i=g i):∀i,i<m->dA m rows f i=dA m rows g i:=by
 induction rows using snocInd with
 | nil=>exact h
 | append_singleton rows l ih =>
  intro i hi;have z:=ih fun r hr'=>hr r (qCb _ hr');rw[cT,cT];delta jR;rw[z i hi,z _ (hr l (qBa _ (List.mem_singleton.mpr rfl)))]
theorem i5.alone{m:Nat}{vs:List (Nat->Int)}(h:i5 m vs):∀(as:List Int),as.length=vs.length->(∀i,i<m->comb (as.zip vs) i=0)->∀a,a∈as->a=0:=by
 induction vs using snocInd with
 | nil =>
  intro as hl _ a ha;rw[List.length_eq_zero_iff.mp hl] at ha;cases ha
 | append_singleton vs v ih =>
  intro as hl h0 a ha;obtain⟨h1,h2⟩:=h.kB;have hne:as≠[]:=fun e=>by rw[e] at hl;simp at hl
  obtain⟨bs,b,rfl⟩:∃bs b,as=bs++[b]:=⟨as.dropLast,as.getLast hne,(qGt hne).symm⟩;have hbl:bs.length=vs.length:=by simpa using hl
  have ez:(bs++[b]).zip (vs++[v])=bs.zip vs++[(b,v)]:=by rw[qKs hbl];rfl
  rw[ez] at h0;have hc:∀i,i<m->dA m (iU m vs) (comb (bs.zip vs)) i=0:=vX _ fun p hp i _=>vW h1 p.2 (qGw (a:=p.1) (b:=p.2) hp).2 i;have hb:b=0:=by
   refine qBd fun hb=>?_;have p1:=tT (m:=m) (rows:=iU m vs) h1 (f:=fun i=>1*comb (bs.zip vs) i+b*v i) (g:=fun _=>0*0+0*0) (fun i hi=>by
    have:=h0 i hi;rw[nF] at this;show 1*_+_=(0*0+0*0:Int);lia)
   have p2:=p1 _ h2;rw[jS,jS m _ (fun _=>0) (fun _=>0) 0 0] at p2;dsimp only at p2;rw[hc _ h2] at p2;have p3:b*dA m (iU m vs) v (jA m (dA m (iU m vs) v))=0:=by lia
   rcases Int.mul_eq_zero.mp p3 with z | z
   .exact hb z
   .exact nE h2 z
  rcases List.mem_append.mp ha with ha | ha
  .refine ih h1 bs hbl (fun i hi=>?_) a ha;have:=h0 i hi;rw[nF,hb] at this;lia
  .rw[List.mem_singleton.mp ha];exact hb
end Cm
namespace Cm
noncomputable def pt(m:Nat)(e:Nat->Nat->Int)(y:Nat->Int)(g:Nat):Int:=Wg.sm m fun i=>e g i*y i
def Tl(m:Nat)(e:Nat->Nat->Int)(ks:List Nat)(g:Nat):Prop:=∀y:Nat->Int,(∀k,k∈ks->pt m e y k=0)->pt m e y g=0
def Pz(m:Nat)(e:Nat->Nat->Int)(N:Nat)(P:Nat->Prop)(ks:List Nat)(lk:Nat->Int):Prop :=
 ∀S:Nat->Prop,(∀g h,P g->Tl m e ks g->P h->Tl m e ks h->S g->lk g<=lk h->S h)->∀y:Nat->Int,pt m e y N<=0->(∀g,P g->Tl m e ks g->S g->0<=pt m e y g)->∀g,P g->Tl m e ks g->S g->pt m e y N=0/\pt m e y g=0
theorem Tl.more(h:∀k,k∈ks->k∈ks'){g:Nat}(t:Tl m e ks g):Tl m e ks' g:=fun y hy=>t y fun k hk=>hy k (h k hk)
theorem Tl.self(h:g∈ks):Tl m e ks g:=fun _ hy=>hy g h
theorem yP(h:∀j,j<n->0<=f j)(z:Wg.sm n f<=0):∀j,j<n->f j=0:=by
 induction n with
 | zero=>intro j hj;lia
 | succ n ih =>
  intro j hj;have z:Wg.sm n f+f n<=0:=z;have a:0<=Wg.sm n f:=Wg.pJ fun i hi=>h i (by lia);have b:=h n (by lia);rcases qAm j n with q | q
  .exact ih (fun i hi=>h i (by lia)) (by lia) j q
  .obtain rfl:j=n:=by lia
   lia
structure Cert (m:Nat) (e:Nat->Nat->Int) (fr ks:List Nat) (lk:Nat->Int) (dw ev:Int) (lam mu:Nat->Int):Prop where
 Aa:0<dw
 l0:∀c,0<=lam c
 sum:Wg.sm fr.length lam=dw
 away:∀y:Nat->Int,(Wg.sm fr.length fun c=>lam c*pt m e y (fr.getD c 0))+(Wg.sm ks.length fun j=>mu j*pt m e y (ks.getD j 0))=0
 hold:∀c,c<fr.length->lam c≠0->lk (fr.getD c 0)=ev
 low:∀g,g∈fr->lk g<=ev
theorem mem_getD{l:List Nat}{c:Nat}(h:c<l.length):l.getD c 0∈l:=by
 rw[qAf,qAc h];exact qDa h
theorem Cert.some(h:Cert m e fr ks lk dw ev lam mu):∃c,c<fr.length/\lam c≠0:=by
 refine qBd fun no=>?_;have z:Wg.sm fr.length lam=0:=Wg.cL fun c hc=>qBd fun ne=>no ⟨c,hc,ne⟩;have:=h.sum;have:=h.Aa;lia
theorem Cert.step{m:Nat}{e:Nat->Nat->Int}{N:Nat}{P:Nat->Prop}{fr ks ks':List Nat}{lk lk':Nat->Int}{dw ev:Int}{lam mu:Nat->Int}(h:Cert m e fr ks lk' dw ev lam mu)
  (st:Pz m e N P ks lk) (sub:∀k,k∈ks->k∈ks') (new:∀k,k∈ks'->k∈ks\/∃c,c<fr.length/\lam c≠0/\fr.getD c 0=k)
  (told:∀c,c<fr.length->lam c≠0->Tl m e ks' (fr.getD c 0)) (frP:∀g,g∈fr->P g) (free:∀g,P g->¬Tl m e ks g->g∈fr)
  (same:∀g,P g->Tl m e ks g->lk' g=dw*lk g) (kP:∀k,k∈ks->k=N\/P k) (hN:N∈ks) (old:∀k,k∈ks->k≠N->ev<=lk' k)
  (one:∀g,P g->1<=pt m e (fun _=>1) g) (oneN:0<pt m e (fun _=>1) N):Pz m e N P ks' lk':=by
 intro S up y yN y0 g gP gT gS;have Aa:=h.Aa;by_cases B:∃c,c<fr.length/\lam c≠0/\S (fr.getD c 0)
 .obtain⟨c0,hc0,ne0,s0⟩:=B;have inS:∀c,c<fr.length->lam c≠0->S (fr.getD c 0):=fun c hc ne =>
   up _ _ (frP _ (mem_getD hc0)) (told c0 hc0 ne0) (frP _ (mem_getD hc)) (told c hc ne) s0 (by rw[h.hold c hc ne,h.hold c0 hc0 ne0];exact qDi _)
  have hnn:∀c,c<fr.length->0<=lam c*pt m e y (fr.getD c 0):=fun c hc=>by
   by_cases ne:lam c=0
   .rw[ne,qBi];exact qDi _
   .exact qEo (h.l0 c) (y0 _ (frP _ (mem_getD hc)) (told c hc ne) (inS c hc ne))
  have kS:∀k,k∈ks->k≠N->P k/\S k:=fun k hk ne=>by
   have p:P k:=(kP k hk).resolve_left ne;exact⟨p,up _ _ (frP _ (mem_getD hc0)) (told c0 hc0 ne0) p (Tl.self (sub k hk)) s0 (by rw[h.hold c0 hc0 ne0];exact old k hk ne)⟩
  have aw:=h.away y;have key:pt m e y N=0/\(∀k,k∈ks->k≠N->pt m e y k=0):=by
   by_cases one':∃k,k∈ks/\k≠N
   .have ih:∀k,k∈ks->k≠N->pt m e y N=0/\pt m e y k=0:=fun k hk ne =>
     st S (fun g h gp gt hp ht gs le=>up g h gp (gt.more sub) hp (ht.more sub) gs (by rw[same g gp gt,same h hp ht];exact qCs le (by lia))) y yN (fun g gp gt gs=>y0 g gp (gt.more sub) gs) k (kS k hk ne).1 (Tl.self hk) (kS k hk ne).2
    obtain⟨k,hk,ne⟩:=one';exact⟨(ih k hk ne).1,fun k hk ne=>(ih k hk ne).2⟩
   .have all:∀k,k∈ks->k=N:=fun k hk=>qBd fun ne=>one' ⟨k,hk,ne⟩;have con:∀y:Nat->Int,(Wg.sm ks.length fun j=>mu j*pt m e y (ks.getD j 0))=pt m e y N*Wg.sm ks.length mu:=fun y=>by
     rw[<- Wg.bT];exact Wg.bC fun j hj=>by rw[all _ (mem_getD hj),qCt]
    have a1:=h.away fun _=>1;rw[con] at aw a1;have b1:dw<=Wg.sm fr.length fun c=>lam c*pt m e (fun _=>1) (fr.getD c 0):=by
     rw[<- h.sum];refine Wg.vR fun c hc=>?_;have:=qCs (one _ (frP _ (mem_getD hc))) (h.l0 c);rw[qHc] at this;exact this
    have M:Wg.sm ks.length mu<0:=by
     refine Int.not_le.mp fun z=>?_;have:=qEo (qCf oneN) z;lia
    have a:0<=Wg.sm fr.length fun c=>lam c*pt m e y (fr.getD c 0):=Wg.pJ hnn;have z:pt m e y N=0:=by
     refine qBd fun ne=>?_;have lt:pt m e y N<0:=by lia
     have:=Int.mul_pos_of_neg_of_neg lt M;lia
    exact⟨z,fun k hk ne=>absurd (all k hk) ne⟩
  have k0:∀k,k∈ks->pt m e y k=0:=fun k hk=>by
   by_cases ne:k=N
   .rw[ne];exact key.1
   .exact key.2 k hk ne
  rw[show(Wg.sm ks.length fun j=>mu j*pt m e y (ks.getD j 0))=0 from Wg.cL fun j hj=>by rw[k0 _ (mem_getD hj),qBu],qDn] at aw;have hz:=yP hnn (by lia);refine⟨key.1,gT y fun k hk=>?_⟩;rcases new k hk with o | ⟨c,hc,ne,rfl⟩
  .exact k0 k o
  .exact(Int.mul_eq_zero.mp (hz c hc)).resolve_left ne
 .have inT:∀g,P g->Tl m e ks' g->S g->Tl m e ks g:=fun g gp gt gs=>by
   refine qBd fun no=>?_;have gf:=free g gp no;obtain⟨c,hc,ne⟩:=h.some;exact B ⟨c,hc,ne,up g _ gp gt (frP _ (mem_getD hc)) (told c hc ne) gs (by rw[h.hold c hc ne];exact h.low g gf)⟩
  exact st S (fun g h gp gt hp ht gs le=>up g h gp (gt.more sub) hp (ht.more sub) gs (by rw[same g gp gt,same h hp ht];exact qCs le (by lia))) y yN (fun g gp gt gs=>y0 g gp (gt.more sub) gs) g gP (inT g gP gT gS) gS
theorem Cert.JD{m:Nat}{e:Nat->Nat->Int}{fr ks:List Nat}{lk':Nat->Int}{dw ev ev0:Int}{lam mu:Nat->Int}(h:Cert m e fr ks lk' dw ev lam mu){y:Nat->Int}(hy:∀k,k∈ks->pt m e y k=0)
  (lo:∀g,g∈fr->pt m e y g+lk' g<=dw*ev0):ev<=dw*ev0:=by
 have Aa:=h.Aa;have aw:=h.away y;rw[show(Wg.sm ks.length fun j=>mu j*pt m e y (ks.getD j 0))=0 from Wg.cL fun j hj=>by rw[hy _ (mem_getD hj),qBu],qDn] at aw;have a1:(Wg.sm fr.length fun c=>lam c*pt m e y (fr.getD c 0))<=Wg.sm fr.length fun c=>(dw*ev0-ev)*lam c:=by
  refine Wg.vR fun c hc=>?_;rw[qCt (dw*ev0-ev)];by_cases ne:lam c=0
  .rw[ne,qBi,qBi];exact qDi _
  .refine qCs ?_ (h.l0 c);have:=lo _ (mem_getD hc);rw[h.hold c hc ne] at this;lia
 rw[Wg.bT,h.sum,aw] at a1;refine Int.not_lt.mp fun z=>?_;have:=Int.mul_neg_of_neg_of_pos (show dw*ev0-ev<0 by lia) Aa;lia
end Cm
namespace Cm
theorem JE(a b:Nat)(f:Nat->Int):Wg.sm (a+b) f=Wg.sm a f+Wg.sm b fun j=>f (a+j):=by
 induction b with
 | zero=>show _=_+0;rw[qDn];rfl
 | succ b ih =>
  show Wg.sm (a+b) f+f (a+b)=_+(Wg.sm b (fun j=>f (a+j))+f (a+b));rw[ih];lia
theorem DF(f:Nat->Int):∀n,Wg.sm (2*n) f=Wg.sm n fun j=>f (2*j)+f (2*j+1)
 | 0=>rfl
 | n+1=>by
  show Wg.sm (2*n) f+f (2*n)+f (2*n+1)=(Wg.sm n fun j=>f (2*j)+f (2*j+1))+(f (2*n)+f (2*n+1));rw[DF f n];lia
theorem lZ(a b:Nat)(f:Nat->Int):Wg.sm (a+2*b) f=Wg.sm a f+Wg.sm b fun j=>f (a+2*j)+f (a+(2*j+1)):=by
 rw[JE,DF]
structure oA (m:Nat) (e:Nat->Nat->Int) (fr ks:List Nat) (A:Nat->Nat->Int):Prop where
 f0:∀c,c<fr.length->(∀i,i<m->A c i=e (fr.getD c 0) i)/\A c m=1
 k0:∀j,j<ks.length->(∀i,i<m->A (fr.length+2*j) i=e (ks.getD j 0) i)/\A (fr.length+2*j) m=0
 k1:∀j,j<ks.length->(∀i,i<m->A (fr.length+(2*j+1)) i=-e (ks.getD j 0) i)/\A (fr.length+(2*j+1)) m=0
theorem oA.pf(h:oA m e fr ks A)(y:Nat->Int){c:Nat}(hc:c<fr.length):(Wg.sm m fun i=>A c i*y i)=pt m e y (fr.getD c 0):=Wg.bC fun i hi=>by rw[(h.f0 c hc).1 i hi]
theorem oA.p0(h:oA m e fr ks A)(y:Nat->Int){j:Nat}(hj:j<ks.length):(Wg.sm m fun i=>A (fr.length+2*j) i*y i)=pt m e y (ks.getD j 0):=Wg.bC fun i hi=>by rw[(h.k0 j hj).1 i hi]
theorem oA.p1(h:oA m e fr ks A)(y:Nat->Int){j:Nat}(hj:j<ks.length):(Wg.sm m fun i=>A (fr.length+(2*j+1)) i*y i)=-pt m e y (ks.getD j 0):=by
 have:=Wg.bT m (-1) fun i=>e (ks.getD j 0) i*y i;delta pt;rw[show(-Wg.sm m fun i=>e (ks.getD j 0) i*y i)=-1*Wg.sm m fun i=>e (ks.getD j 0) i*y i by lia,<- this];exact Wg.bC fun i hi=>by rw[(h.k1 j hj).1 i hi];grind
theorem vY(m n:Nat)(A:Nat->Nat->Int)(x y:Nat->Int):(Wg.sm n fun c=>x c*Wg.sm m fun i=>A c i*y i)=Wg.sm m fun i=>y i*Wg.sm n fun c=>A c i*x c:=by
 have a:(Wg.sm n fun c=>x c*Wg.sm m fun i=>A c i*y i)=Wg.sm n fun c=>Wg.sm m fun i=>x c*(A c i*y i):=Wg.bC fun c _=>(Wg.bT _ _ _).symm;rw[a,Wg.lW];exact Wg.bC fun i _=>by rw[<- Wg.bT];exact Wg.bC fun c _=>by grind
theorem oA.away(h:oA m e fr ks A){X:Nat->Int}(mt:∀i,i<m->(Wg.sm (fr.length+2*ks.length) fun c=>A c i*X c)=0)(y:Nat->Int):
  (Wg.sm fr.length fun c=>X c*pt m e y (fr.getD c 0))+(Wg.sm ks.length fun j=>(X (fr.length+2*j)-X (fr.length+(2*j+1)))*pt m e y (ks.getD j 0))=0:=by
 have t:=vY m (fr.length+2*ks.length) A X y;rw[show(Wg.sm m fun i=>y i*Wg.sm (fr.length+2*ks.length) fun c=>A c i*X c)=0 from Wg.cL fun i hi=>by rw[mt i hi,qBu],lZ] at t;rw[<- t];congr 1
 .exact Wg.bC fun c hc=>by rw[h.pf y hc]
 .exact Wg.bC fun j hj=>by rw[h.p0 y hj,h.p1 y hj];grind
structure PB (tb:Nat->Int) (L:Int) (fr ks:List Nat) (tt g:Nat->Int):Prop where
 f0:∀c,c<fr.length->g c=tb (fr.getD c 0)*L
 k0:∀j,j<ks.length->g (fr.length+2*j)=tt j
 k1:∀j,j<ks.length->g (fr.length+(2*j+1))=-tt j
theorem Gf{m:Nat}{e:Nat->Nat->Int}{fr ks:List Nat}{A:Nat->Nat->Int}{tb tt g due X Y:Nat->Int}{L r d:Int}(h:oA m e fr ks A)(hg:PB tb L fr ks tt g)(r0:0<r)(d0:0<d)
  (du:∀i,i<m->due i=0) (dm:due m=1) (x0:∀j,0<=X j)
  (mt:∀i,i<m+1->(Wg.sm (fr.length+2*ks.length) fun c=>A c i*X c)=due i*d)
  (cols:∀c,c<fr.length+2*ks.length->g c*d<=Wg.sm (m+1) fun i=>A c i*Y i)
  (same:(Wg.sm (m+1) fun i=>due i*Y i)=Wg.sm (fr.length+2*ks.length) fun c=>g c*X c) :
  Cert m e fr ks (fun q=>tb q*(d*(L*r))-pt m e (fun i=>r*Y i) q) d (r*Y m) X (fun j=>X (fr.length+2*j)-X (fr.length+(2*j+1)))/\∀j,j<ks.length->pt m e (fun i=>r*Y i) (ks.getD j 0)=d*(tt j*r):=by
 have last:∀c,(Wg.sm (m+1) fun i=>A c i*Y i)=(Wg.sm m fun i=>A c i*Y i)+A c m*Y m:=fun c=>rfl;have sc:∀q,pt m e (fun i=>r*Y i) q=r*pt m e Y q:=fun q=>by
  delta pt;rw[<- Wg.bT];exact Wg.bC fun i _=>by grind
 have cf:∀c,c<fr.length->(Wg.sm (m+1) fun i=>A c i*Y i)=pt m e Y (fr.getD c 0)+Y m:=fun c hc=>by rw[last,h.pf Y hc,(h.f0 c hc).2,qCm]
 have slack:∀c,c<fr.length+2*ks.length->X c*((Wg.sm (m+1) fun i=>A c i*Y i)-g c*d)=0:=by
  refine yP (fun c hc=>qEo (x0 c) (by have:=cols c hc;lia)) ?_;have a:(Wg.sm (fr.length+2*ks.length) fun c=>X c*((Wg.sm (m+1) fun i=>A c i*Y i)-g c*d))=(Wg.sm (fr.length+2*ks.length) fun c=>X c*Wg.sm (m+1) fun i=>A c i*Y i)+Wg.sm (fr.length+2*ks.length) fun c=>-d*(g c*X c):=by
   rw[<- Wg.fO];exact Wg.bC fun c _=>by grind
  rw[a,vY,Wg.bT,<- same];have b:(Wg.sm (m+1) fun i=>Y i*Wg.sm (fr.length+2*ks.length) fun c=>A c i*X c)=Wg.sm (m+1) fun i=>d*(due i*Y i):=Wg.bC fun i hi=>by rw[mt i hi];grind
  rw[b,Wg.bT];grind
 refine⟨⟨d0,x0,?_,h.away fun i hi=>by rw[mt i (by lia),du i hi,qBi],fun c hc ne=>?_,fun q hq=>?_⟩,fun j hj=>?_⟩
 .have t:=mt m (by lia);rw[dm,qCm,lZ] at t;rw[<- t,show(Wg.sm ks.length fun j=>A (fr.length+2*j) m*X (fr.length+2*j)+A (fr.length+(2*j+1)) m*X (fr.length+(2*j+1)))=0 from Wg.cL fun j hj=>by rw[(h.k0 j hj).2,(h.k1 j hj).2,qBi,qBi];rfl,qDn];exact Wg.bC fun c hc=>by rw[(h.f0 c hc).2,qCm]
 .have z:=(Int.mul_eq_zero.mp (slack c (by lia))).resolve_left ne;rw[cf c hc,hg.f0 c hc] at z;show tb (fr.getD c 0)*(d*(L*r))-pt m e (fun i=>r*Y i) (fr.getD c 0)=r*Y m;rw[sc];generalize pt m e Y (fr.getD c 0)=p at z|-;have:tb (fr.getD c 0)*L*d=p+Y m:=by lia
  have:tb (fr.getD c 0)*L*d*r=(p+Y m)*r:=by rw[this]
  grind
 .obtain⟨c,hc,hcq⟩:=qCv hq;have eq:fr.getD c 0=q:=by rw[qAf,qAc hc];exact hcq
  have z:=cols c (by lia);rw[cf c hc,hg.f0 c hc,eq] at z;show tb q*(d*(L*r))-pt m e (fun i=>r*Y i) q<=r*Y m;rw[sc];have z:=qCs z (qCf r0);rw[qQa] at z;have:r*(tb q*L*d)=tb q*(d*(L*r)):=by grind
  lia
 .have z0:=cols (fr.length+2*j) (by lia);have z1:=cols (fr.length+(2*j+1)) (by lia);rw[last,h.p0 Y hj,(h.k0 j hj).2,qBi,qDn,hg.k0 j hj] at z0;rw[last,h.p1 Y hj,(h.k1 j hj).2,qBi,qDn,hg.k1 j hj,qPz] at z1;rw[sc,show pt m e Y (ks.getD j 0)=tt j*d by lia];grind
theorem Gg{m:Nat}{e:Nat->Nat->Int}{fr ks:List Nat}{A:Nat->Nat->Int}{due Y:Nat->Int}(h:oA m e fr ks A)(du:∀i,i<m->due i=0)(dm:due m=1)
  (no:∀y:Nat->Int,(∀k,k∈ks->pt m e y k=0)->∃q,q∈fr/\pt m e y q<=0)
  (cols:∀c,c<fr.length+2*ks.length->0<=Wg.sm (m+1) fun i=>A c i*Y i) (neg:(Wg.sm (m+1) fun i=>due i*Y i)<0):False:=by
 have last:∀c,(Wg.sm (m+1) fun i=>A c i*Y i)=(Wg.sm m fun i=>A c i*Y i)+A c m*Y m:=fun c=>rfl;have n1:(Wg.sm (m+1) fun i=>due i*Y i)=(Wg.sm m fun i=>due i*Y i)+due m*Y m:=rfl;rw[n1,dm,qCm,Wg.cL fun i hi=>by rw[du i hi,qBi]] at neg;obtain⟨q,hq,lo⟩:=no Y fun k hk=>by
  obtain⟨j,hj,hjk⟩:=qCv hk;have eq:ks.getD j 0=k:=by rw[qAf,qAc hj];exact hjk
  have z0:=cols (fr.length+2*j) (by lia);have z1:=cols (fr.length+(2*j+1)) (by lia);rw[last,h.p0 Y hj,(h.k0 j hj).2,qBi,qDn,eq] at z0;rw[last,h.p1 Y hj,(h.k1 j hj).2,qBi,qDn,eq] at z1;lia
 obtain⟨c,hc,hcq⟩:=qCv hq;have eq:fr.getD c 0=q:=by rw[qAf,qAc hc];exact hcq
 have z:=cols c (by lia);rw[last,h.pf Y hc,(h.f0 c hc).2,eq] at z;lia
theorem DI:∀(as:List Int) (vs:List (Nat->Int)),as.length=vs.length->∀i,comb (as.zip vs) i=Wg.sm vs.length fun j=>as.getD j 0*(vs.getD j fun _=>0) i:=by
 intro as vs;induction vs using snocInd generalizing as with
 | nil =>
  intro hl i;obtain rfl:as=[]:=qGn hl;rfl
 | append_singleton vs v ih =>
  intro hl i;rw[qAj,qBf] at hl;obtain⟨as',a,rfl⟩:∃as' a,as=as'++[a]:=⟨as.dropLast,as.getLast (by intro z;rw[z] at hl;cases hl),(qGt _).symm⟩;rw[qAj,qBf] at hl;have hl:as'.length=vs.length:=by lia
  rw[qKs hl];show comb (as'.zip vs++[(a,v)]) i=_;rw[nF,ih as' hl i,qAj,qBf];show _=Wg.sm vs.length (fun j=>(as'++[a]).getD j 0*((vs++[v]).getD j fun _=>0) i)+(as'++[a]).getD vs.length 0*((vs++[v]).getD vs.length fun _=>0) i;congr 1
  .refine Wg.bC fun j hj=>?_;rw[qAf,qAf,qAf,qAf,qAy hj,qAy (by lia)]
  .rw[qAf,qAf,qAz (qAg _),qAz (by lia),hl,qMj];rfl
theorem JF{m:Nat}{e:Nat->Nat->Int}{fr ks:List Nat}{A:Nat->Nat->Int}{tb tt g Z:Nat->Int}{L:Int}(h:oA m e fr ks A)(hg:PB tb L fr ks tt g)(ind:i5 m (ks.map e))(z0:∀j,0<=Z j)
  (aw:∀i,i<m+1->(Wg.sm (fr.length+2*ks.length) fun c=>A c i*Z c)=0) (more:0<Wg.sm (fr.length+2*ks.length) fun c=>g c*Z c):False:=by
 have fz:∀c,c<fr.length->Z c=0:=by
  have t:=aw m (by lia);rw[lZ,show(Wg.sm ks.length fun j=>A (fr.length+2*j) m*Z (fr.length+2*j)+A (fr.length+(2*j+1)) m*Z (fr.length+(2*j+1)))=0 from Wg.cL fun j hj=>by rw[(h.k0 j hj).2,(h.k1 j hj).2,qBi,qBi];rfl,qDn] at t;have t2:Wg.sm fr.length Z=0:=by rw[<- t];exact Wg.bC fun c hc=>by rw[(h.f0 c hc).2,qCm]
  exact yP (fun j _=>z0 j) (by lia)
 let as:List Int:=(qAk ks.length).map fun j=>Z (fr.length+2*j)-Z (fr.length+(2*j+1))
 have asl:as.length=ks.length:=by show((qAk ks.length).map _).length=_;rw[qAa,qAu]
 have asg:∀j,j<ks.length->as.getD j 0=Z (fr.length+2*j)-Z (fr.length+(2*j+1)):=fun j hj=>by
  show((qAk ks.length).map _).getD j 0=_;rw[qAf,qAn,qCw hj];rfl
 have zero:=ind.alone as (by rw[asl,qAa]) fun i hi=>by
  rw[DI as _ (by rw[asl,qAa]),qAa];have t:=aw i (by lia);rw[lZ,Wg.cL fun c hc=>by rw[fz c hc,qBu],qCe] at t;refine Eq.trans (Wg.bC fun j hj=>?_) t;rw[asg j hj,(h.k0 j hj).1 i hi,(h.k1 j hj).1 i hi,qAf (l:=ks.map e),qAn,qAf,qAc hj];show _*e ks[j] i=e ks[j] i*_ + -e ks[j] i*_;grind
 have dz:∀j,j<ks.length->Z (fr.length+2*j)=Z (fr.length+(2*j+1)):=fun j hj=>by
  have:=zero (as.getD j 0) (by rw[qAf,qAc (by lia)];exact qDa _);rw[asg j hj] at this;lia
 rw[lZ,Wg.cL fun c hc=>by rw[fz c hc,qBu],qCe,Wg.cL fun j hj=>by rw[hg.k0 j hj,hg.k1 j hj,dz j hj];grind] at more;exact absurd more #[1]
end Cm
namespace Cm
theorem pH(f:Nat->Int):∀{l:List Nat},l≠[]->∃g,g∈l/\∀h,h∈l->f h<=f g
 | [],h=>absurd rfl h
 | [x],_=>⟨x,List.mem_singleton.mpr rfl,fun h hh=>by rw[List.mem_singleton.mp hh];exact qDi _⟩
 | x::y::l,_=>by
  obtain⟨g,hg,m⟩:=pH f (l:=y::l) (by simp);by_cases z:f x<=f g
  .refine⟨g,qBr _ hg,fun h hh=>?_⟩;rcases List.mem_cons.mp hh with rfl | hh
   .exact z
   .exact m h hh
  .refine⟨x,qCi ..,fun h hh=>?_⟩;rcases List.mem_cons.mp hh with rfl | hh
   .exact qDi _
   .have:=m h hh;lia
theorem uniq{all:List Nat}{a b c:Nat->Int}(e:∀g,g∈all->c g=a g-b g)
  (h1:∀l:Int,(∀g,g∈all->l<=a g->0<=c g)->∀g,g∈all->l<=a g->c g=0)
  (h2:∀l:Int,(∀g,g∈all->l<=b g->c g<=0)->∀g,g∈all->l<=b g->c g=0):∀g,g∈all->c g=0:=by
 refine qBd fun no=>?_;have ne:(all.filter fun g=>decide (c g≠0))≠[]:=fun z=>no fun g hg=>qBd fun q=>by
  have:g∈all.filter fun g=>decide (c g≠0):=List.mem_filter.mpr ⟨hg,decide_eq_true q⟩;rw[z] at this;cases this
 obtain⟨g,hg,mx⟩:=pH (fun g=>max (a g) (b g)) ne;obtain⟨ga,gc⟩:=List.mem_filter.mp hg;have gc:c g≠0:=of_decide_eq_true gc;have mx:∀h,h∈all->c h≠0->max (a h) (b h)<=max (a g) (b g):=fun h hh hc=>mx h (List.mem_filter.mpr ⟨hh,decide_eq_true hc⟩);rcases Int.le_total (b g) (a g) with z | z
 .refine gc (h1 (a g) (fun h hh hl=>?_) g ga (qDi _));by_cases q:c h=0
  .lia
  .have:=mx h hh q;have:=e h hh;lia
 .refine gc (h2 (b g) (fun h hh hl=>?_) g ga (qDi _));by_cases q:c h=0
  .lia
  .have:=mx h hh q;have:=e h hh;lia
end Cm
set_option maxHeartbeats 8000000
theorem L2.uu1{α}{P:List α->Prop}(h:∀ a,P [a]):∀us,us.length=1->P us
|[a],_=>h a
theorem L2.uu2{α}{P:List α->Prop}(h:∀ a b,P [a,b]):∀us,us.length=2->P us
|[a,b],_=>h a b
theorem L2.uu3{α}{P:List α->Prop}(h:∀ a b c,P [a,b,c]):∀us,us.length=3->P us
|[a,b,c],_=>h a b c
theorem L2.uu4{α}{P:List α->Prop}(h:∀ a b c d,P [a,b,c,d]):∀us,us.length=4->P us
|[a,b,c,d],_=>h a b c d
namespace K45
open PySem L2
seal PE PT PW PA PS uG PG MR PI iW OJ g6 PO Nc MB Fv OL uW IE OW
noncomputable def top(i:Nat):Stmt:=PySem.Challenge.pw_shareparley_k45_whole_calm.main.body.getD i (.Pass ⟨0,0,0,0⟩)
noncomputable abbrev JG:Stmt:=top 7
noncomputable abbrev JH:Stmt:=top 10
noncomputable abbrev PC:Stmt:=top 11
noncomputable abbrev DJ:Stmt:=top 29
noncomputable abbrev JI:Stmt:=top 30
noncomputable abbrev JJ:Stmt:=top 31
noncomputable abbrev JK:Stmt:=top 32
noncomputable abbrev JL:Stmt:=top 33
noncomputable abbrev JM:Stmt:=top 35
noncomputable abbrev JN:Stmt:=top 36
noncomputable abbrev JO:Stmt:=top 37
noncomputable abbrev JP:Stmt:=top 38
noncomputable abbrev JQ:Stmt:=top 39
noncomputable abbrev JR:Stmt:=top 40
noncomputable abbrev JS:Stmt:=top 41
noncomputable abbrev DK:Stmt:=top 8
noncomputable abbrev JT:Stmt:=top 12
noncomputable abbrev JU:Stmt:=top 13
noncomputable abbrev JV:Stmt:=top 14
noncomputable abbrev JW:Stmt:=top 15
noncomputable abbrev PD:Stmt:=top 18
noncomputable abbrev JX:Stmt:=top 19
noncomputable abbrev JY:Stmt:=top 20
noncomputable abbrev JZ:Stmt:=top 21
noncomputable abbrev Ka:Stmt:=top 24
noncomputable abbrev Kb:Stmt:=top 25
noncomputable abbrev Kc:Stmt:=top 43
noncomputable abbrev Ke:Stmt:=top 44
noncomputable abbrev Kf:Stmt:=top 45
noncomputable abbrev Kg:Stmt:=top 46
noncomputable abbrev Kh:Stmt:=top 47
noncomputable abbrev Ki:Stmt:=top 48
noncomputable abbrev Kj:Stmt:=top 49
noncomputable abbrev Kk:Stmt:=top 50
noncomputable abbrev Kl:Stmt:=top 51
noncomputable abbrev Km:Stmt:=top 52
noncomputable abbrev Kn:Stmt:=top 53
noncomputable abbrev Ko:Stmt:=top 55
noncomputable abbrev Kq:Stmt:=top 56
noncomputable abbrev Kr:Stmt:=top 57
noncomputable abbrev Ks:Stmt:=top 58
noncomputable abbrev Kt:Stmt:=top 59
noncomputable abbrev Ku:Stmt:=top 60
noncomputable abbrev Kv:Stmt:=top 61
noncomputable abbrev Kw:Stmt:=top 62
noncomputable abbrev Kx:Stmt:=top 63
noncomputable abbrev Ky:Stmt:=top 64
noncomputable abbrev Kz:Stmt:=top 65
noncomputable abbrev KA:Stmt:=top 66
noncomputable abbrev KC:Stmt:=top 67
noncomputable abbrev KD:Stmt:=top 68
noncomputable abbrev KG:Stmt:=top 69
noncomputable abbrev KH:Stmt:=top 70
noncomputable abbrev KI:Stmt:=top 71
noncomputable abbrev KJ:Stmt:=top 72
noncomputable abbrev KL:Stmt:=top 73
noncomputable abbrev MF:Stmt:=inClass (top 34) 0
noncomputable abbrev BI:Stmt:=inClass (top 34) 1
noncomputable abbrev BJ:Stmt:=inClass (top 34) 2
noncomputable abbrev BK:Stmt:=inClass (top 34) 3
noncomputable abbrev BL:Stmt:=inClass (top 34) 4
noncomputable abbrev BM:Stmt:=inClass (top 34) 5
noncomputable def dv(a b:Int):Int:=if b<0 then -(qBs a b:Int) else (qBs a b:Int)
theorem Ab(a b:Int)(hb:b≠0):dv a b≠0/\a.fdiv (dv a b)*b=a*b.fdiv (dv a b)/\1<=b.fdiv (dv a b)/\qBs (a.fdiv (dv a b)) (b.fdiv (dv a b))=1:=by
 have hg:0<qBs a b:=qKv _ hb;obtain⟨a',ha⟩:(qBs a b:Int)∣a:=qKi ..;obtain⟨b',hb'⟩:(qBs a b:Int)∣b:=qJu ..;have hgi:(0:Int)<(qBs a b:Int):=by lia
 have hcop:qBs a' b'=1:=by
  have h1:qBs a b*qBs a' b'=qBs a b:=by
   have:=qOn (qBs a b:Int) a' b';rw[<- ha,<- hb'] at this;simpa using this.symm
  exact qLh hg (h1.trans (qPw _).symm)
 delta dv;generalize hG:(qBs a b:Int)=G at *;clear hG hg;subst ha hb';have hG0:G≠0:=by lia
 have e1:(G*a').fdiv G=a':=qCp _ hG0;have e2:(G*b').fdiv G=b':=qCp _ hG0;have n1:(G*a').fdiv (-G)=-a':=by
  have h:G*a'=(-G)*(-a'):=by rw[qLa]
  rw[h];exact qCp _ (by lia)
 have n2:(G*b').fdiv (-G)=-b':=by
  have h:G*b'=(-G)*(-b'):=by rw[qLa]
  rw[h];exact qCp _ (by lia)
 by_cases h:G*b'<0
 .rw[if_pos h,n1,n2];have hbn:b'<0:=by
   rcases qHk b' 0 with h' | h'
   .exact h'
   .exact absurd (qEo (qCf hgi) h') (Int.not_le.mpr h)
  refine⟨by lia,?_,by lia,?_⟩
  .rw[qPz,qNi,qOd,qEm]
  .simpa using hcop
 .rw[if_neg h,e1,e2];have hbn:0<b':=by
   rcases qOe b' 0 with h' | h' | h'
   .exact absurd (Int.mul_neg_of_pos_of_neg hgi h') h
   .subst h';simp at hb
   .exact h'
  exact⟨hG0,by rw[qOd,qEm],by lia,hcop⟩
theorem DL(d r:Nat):qIm r (d%r)=qIm d r:=by
 rw[qPt,<- Nat.gcd_rec,qPt]
theorem DM(hb:1<=b):(qBs t b:Int)≠0/\qBs t b<=b.natAbs/\1<=b.fdiv (qBs t b:Int)/\qBs (t.fdiv (qBs t b:Int)) (b.fdiv (qBs t b:Int))=1/\b.fdiv (qBs t b:Int)∣b/\(t.fdiv (qBs t b:Int)).natAbs<=t.natAbs:=by
 have hg:0<qBs t b:=qKv _ (by lia);have hle:qBs t b<=b.natAbs:=qJn (by lia) (qNz _ _);have hlast:=qLk t (qBs t b:Int);obtain⟨a',ha⟩:(qBs t b:Int)∣t:=qKi ..;obtain⟨b',hb'⟩:(qBs t b:Int)∣b:=qJu ..;have hgi:(0:Int)<(qBs t b:Int):=by lia
 have hcop:qBs a' b'=1:=by
  have h1:qBs t b*qBs a' b'=qBs t b:=by
   have:=qOn (qBs t b:Int) a' b';rw[<- ha,<- hb'] at this;simpa using this.symm
  exact qLh hg (h1.trans (qPw _).symm)
 have e1:t.fdiv (qBs t b:Int)=a':=by
  conv=>lhs;arg 1;rw[ha]
  exact qCp _ (by lia)
 have e2:b.fdiv (qBs t b:Int)=b':=by
  conv=>lhs;arg 1;rw[hb']
  exact qCp _ (by lia)
 refine⟨by lia,hle,?_,?_,?_,hlast⟩
 .rw[e2];rcases qHk 0 b' with h | h
  .lia
  .have:=Int.mul_nonpos_of_nonneg_of_nonpos (qCf hgi) h;lia
 .rw[e1,e2];exact hcop
 .rw[e2];exact⟨_,by rw[qCt];exact hb'⟩
theorem DN(h1:FG 0 (2^m-1) v=true):∃g:Nat,v = .int (g:Int)/\g<2^m:=by
 cases v with
 | int i =>
  have z:(decide (0<=i)&&decide (i<=2^m-1))=true:=h1;rw[qCd] at z;have z1:=of_decide_eq_true z.1;have z2:=of_decide_eq_true z.2;have e:((2^m:Nat):Int)=2^m:=by push_cast;rfl
  exact⟨i.toNat,by rw[qCx z1],by omega⟩
 | _=>exact(qAq h1).elim
theorem Gh{g m:Nat}(hg:g<2^m):FG 0 (2^m-1) (.int (g:Int))=true:=by
 show(decide (0<=(g:Int))&&decide ((g:Int)<=2^m-1))=true;have e:((2^m:Nat):Int)=2^m:=by push_cast;rfl
 rw[decide_eq_true (by lia),decide_eq_true (by lia)];rfl
noncomputable def jD:List Int:=[1,2,4,8,16,32]
noncomputable def alone(i:Nat):Int:=jD.getD i 0
noncomputable def rP(g:Nat)(i:Nat):Option V:=if qCu (g:Int) (alone i)=0 then none else some (.int (i:Int))
noncomputable def hN(g:Nat):Nat->List Int
 | 0=>[]
 | i+1=>if g/2^i%2=1 then hN g i++[(i:Int)] else hN g i
noncomputable def i6(g:Nat):List Int:=hN g 6
theorem yQ:∀g:_root_.Fin 64,(qAk 6).filterMap (rP g.1)=(i6 g.1).map V.int:=by decide +kernel
theorem DO(g:Nat):∀i,(hN g i).length<=i
 | 0=>qAg _
 | i+1=>by
  have h:=DO g i;unfold hN;split
  .rw[qAj,qBf];lia
  .lia
theorem yR{g m:Nat}(hg:g<2^m):∀(i:Nat) (x:Int),x∈hN g i->0<=x/\x<m
 | 0,x,h=>by cases h
 | i+1,x,h=>by
  unfold hN at h;split at h
  .rename_i hb;rcases List.mem_append.mp h with h | h
   .exact yR hg i x h
   .have:x=(i:Int):=by simpa using h
    rcases qAm i m with z | z
    .lia
    .have:g/2^i=0:=qOm (qBc hg (qBh #[1] z));lia
  .exact yR hg i x h
theorem DQ(xs:List V)(n:Nat):fR xs (some (n:Int)) none=xs.drop n:=by
 delta fR;rw[HT.lD,HT.uR];rcases qPs n xs.length with h | h
 .rw[qOp h];exact qFa (by rw[qEt];lia)
 .rw[qOl h,qOb,List.drop_of_length_le h];simp
theorem DS(xs:List V)(n:Nat):fR xs none (some (n:Int))=xs.take n:=by
 delta fR;rw[HT.lD,HT.uR,qOq,qMi];rcases qPs n xs.length with h | h
 .rw[qOp h]
 .rw[qOl h,qEg,qFa h]
theorem BN(h:m<=6):2^m<=64:=qBh (n:=2) #[1] h
theorem all_ints(ns:List Int):(ns.map V.int).all kX=true:=by
 induction ns with
 | nil=>rfl
 | cons n r ih=>exact ih
theorem dI:∀{l:List α},(∀x∈l,f x=g x)->l.filterMap f=l.filterMap g
 | [],_=>rfl
 | x::r,h=>by
  rw[qCh,qCh,h x (by simp),dI fun y hy=>h y (by simp[hy])]
noncomputable def pL:List Int:=[1,2,4,8,16,32,64]
structure FC (K:qAd) (C fCh fGM fCC fCA fPL:Addr):Prop where
 oc:Pt K C
 nm:iQ K C "many"
 nb:iQ K C "bottom"
 nr:iQ K C "rows"
 nc:iQ K C "chosen"
 Qo:Meth K C "choose" fCh
 QJ:Meth K C "gains_more" fGM
 Qp:Meth K C "column_to_choose" fCC
 QK:Meth K C "comes_ahead" fCA
 QL:Meth K C "place_to_leave" fPL
structure T (K:qAd) (mg:Str->Option qAl) (AL LN FR iF fCh fGM fCC fCA fPL SE NN NG NT NR:Addr):Prop where
 eX:mg "isinstance"=none
 kQ:mg "int"=none
 nG:mg "bool"=none
 bW:mg "range"=none
 bV:mg "len"=none
 cR:mg "list"=none
 gL:mg "sum"=none
 pM:mg "all"=none
 vZ:mg "any"=none
 gU:mg "tuple"=none
 hZ:mg "zip"=none
 pN:mg "abs"=none
 k7:mg "enumerate"=none
 v8:mg "max"=none
 Ac:mg "str"=none
 i7:mg "sorted"=none
 rQ:mg "set"=none
 iA:mg "reversed"=none
 Fb:mg "ALONE"=some (.ref AL)
 al:∀H:Hp,cE K H AL (jD.map V.int)
 MG:mg "LENGTHS"=some (.ref LN)
 ln:∀H:Hp,cE K H LN (pL.map V.int)
 QM:∃o,K.lookup LN=some o/\o.cls = .type "tuple"/\o.dict=none
 mp:∃tk,mg "MOST_PLACES"=some (.int 8 tk)
 mc:∃tk,mg "MOST_COLUMNS"=some (.int 70 tk)
 NI:mg "Frame"=some (.ref FR)
 cQ:FC K FR fCh fGM fCC fCA fPL
 QN:Mk K FR iF
 QO:∃fd,Mx K "__init__" "Frame.__init__" MF ["self","columns","due"] iF fd
 PF:∃fd,Mx K "choose" "Frame.choose" BI ["self","place","column"] fCh fd
 PH:∃fd,Mx K "gains_more" "Frame.gains_more" BJ ["self","column","gains"] fGM fd
 PJ:∃fd,Mx K "column_to_choose" "Frame.column_to_choose" BK ["self","gains"] fCC fd
 PK:∃fd,Mx K "comes_ahead" "Frame.comes_ahead" BL ["self","one","other","column"] fCA fd
 PL:∃fd,Mx K "place_to_leave" "Frame.place_to_leave" BM ["self","column"] fPL fd
 OM:mg "ShareError"=some (.ref SE)
 MH:mg "NoNumber"=some (.ref NN)
 NJ:mg "NoGroup"=some (.ref NG)
 NK:mg "NoTable"=some (.ref NT)
 Hj:mg "NoRows"=some (.ref NR)
 QQ:oZ K SE
 MI:qEk K NN FD "ValueError.__new__"=true
 Hk:qEk K NR FD "ValueError.__new__"=true
 NL:qEk K NG FD "ValueError.__new__"=true
 NM:qEk K NT FD "ValueError.__new__"=true
section
variable {P:qBy}{w:qDg}{K:qAd}{mg:Str->Option qAl}{base:Heap}{AL LN FR iF fCh fGM fCC fCA fPL SE NN NG NT NR:Addr}{f:Addr}{fd:qCo}
local macro_rules
| `(#[4])=>`(T K mg AL LN FR iF fCh fGM fCC fCA fPL SE NN NG NT NR)
| `(#[5])=>`(Df P w K mg base b0)
| `(#[1,0])=>`(Md P w K mg base)
| `(#[1,1])=>`(Df P w K mg base (kH P w))
| `(#[1,2])=>`(by constructor<;>first|rfl|decide +kernel)
def mB(K:qAd):Sp:=fun vs H Q _=>∃v,vs=[v]/\Pl K H v/\Q (.bl (kX v)) H
theorem NO:aV ["thing"] ["thing"] (aI JG):=#[1,2]
theorem KN(t:Tx K mg "is_number" JG ["thing"] f fd)(T:#[4]):#[5] 1 "is_number" ["thing"] (mB K) f fd:=by
 refine t.gO NO (by rintro _ _ _ _⟨v,rfl,_⟩;rfl) fun _ _ _ _ H vs Q E hr h=>?_;obtain⟨v,rfl,pl,k⟩:=h;obtain⟨Ty,ty,kd⟩:=pl.ex;refine⟨_,aF (aT (kU (aJ cN #[0] T.eX dY (aA (pv 0) (aA (cV (v:=.ty "int") #[0] T.kQ mX rfl) aB)))
  (jK (Cb (aJ cN #[0] T.eX dY (aA (pv 0) (aA (cV (v:=.ty "bool") #[0] T.nG zN rfl) aB))))))),?_⟩
 exists _,rfl,v,.ty "int",_,_,_,rfl,rfl,.of ty,kd.Np K,_,rfl;refine cK (fun h1=>?_) (fun h1=>?_)
 .exists _,rfl,v,.ty "bool",_,_,_,rfl,rfl,.of ty,kd.Hd K,_,rfl;have e:(!(Ty == "bool"))=kX v:=by
   rw[Pl.kX ty];cases kd <;> first | rfl | (exact absurd h1 #[1])
  rw[e];exact k
 .have e:false=kX v:=by
   rw[Pl.kX ty];cases kd <;> first | rfl | (exact absurd rfl h1)
  rw[e];exact k
def DU:Sp:=fun vs H Q _=>∃a b:Int,vs=[.int a,.int b]/\Q (.int (qBs a b:Int)) H
theorem abs_eq(i:Int):(if i<0 then -i else i)=(i.natAbs:Int):=by split <;> lia
theorem pO{r:Nat}(h:(!decide (V.int (r:Int)=V.int 0))=true):0<r:=by
 rcases qEx r with z | z
 .subst z;exact absurd h #[1]
 .exact z
theorem Ad{r:Nat}(h:¬(!decide (V.int (r:Int)=V.int 0))=true):r=0:=by
 rcases qEx r with z | z
 .exact z
 .refine absurd ?_ h;rw[decide_eq_false (fun q=>by have:=V.int.inj q;omega)];rfl
theorem rR:aV ["one","other","divisor","rest","left"] ["one","other"] (aI JH):=#[1,2]
theorem KO(t:Tx K mg "greatest_divisor" JH ["one","other"] f fd)(T:#[4]):#[5] 1 "greatest_divisor" ["one","other"] DU f fd:=by
 refine t.gO rR (by rintro _ _ _ _⟨a,b,rfl,_⟩;rfl) fun _ _ _ _ H vs Q E hr h=>?_;obtain⟨a,b,rfl,k⟩:=h;refine⟨_,(aC (aP (i:=2) rR.nd rfl bN (aJ oU #[0] T.pN xT (aA (pv 0) aB)))
  (aC (aP (i:=3) rR.nd rfl bN (aJ oU #[0] T.pN xT (aA (pv 1) aB)))
  (aC (iV #[9] (aU fI (pv 3) aE (aW _))
   (aC (aP (i:=4) rR.nd rfl bN (aM cH (pv 2) (pv 3)))
   (aC (aP (i:=2) rR.nd rfl bN (pv 3))
   (aF (aP (i:=3) rR.nd rfl bN (pv 4))))))
  (aF (aT (pv 2)))))),?_⟩
 exists _,rfl,a,rfl,_,rfl,b,rfl;rw[abs_eq,abs_eq];exists fun m σ H2=>H2=H/\∃(d r:Nat) (v:Option V),m=r/\σ=[some (.int a),some (.int b),some (.int (d:Int)),some (.int (r:Int)),v]/\qIm d r=qBs a b,⟨_,rfl,a.natAbs,b.natAbs,none,rfl,rfl,rfl⟩;rintro m σ H2 ⟨rfl,d,r,v,rfl,rfl,hg⟩;exists _,rfl,rfl,_,rfl;refine cK (fun h1=>?_) (fun h1=>?_)
 .have hr0:=pO h1;refine⟨fun σ' H'=>H'=H2/\∃(d' r':Nat) (v:Option V),r'<m/\σ'=[some (.int a),some (.int b),some (.int (d':Int)),some (.int (r':Int)),v]/\qIm d' r'=qBs a b,(by rintro σ' H' ⟨e,d',r',v,h1,h2,h3⟩;exact ⟨r',h1,e,d',r',v,rfl,h2,h3⟩),?_⟩;refine⟨_,rfl,_,rfl,_,_,rfl,rfl,(by show(0:Int)<(m:Int);lia),?_⟩;exists _,rfl,_,rfl,rfl,m,d%m,_,qNy _ hr0,rfl;rw[DL];exact hg
 .have hr0:=Ad h1;subst hr0;rw[Nat.gcd_zero_right] at hg;exists _,rfl;rw[hg];exact k
def tU(K:qAd)(NN:Addr):Sp:=fun vs H Q E=>∃v1 v2,vs=[v1,v2]/\Pl K H v1/\Pl K H v2/\((kX v1=false\/kX v2=false\/v2 = .int 0)->E (.ref NN) none H) /\
 ∀a b:Int,v1 = .int a->v2 = .int b->b≠0->Sm 8000 b/\∀p,H p=none->Q (.ref p) (upd H p (.tup [.int (a.fdiv (dv a b)),.int (b.fdiv (dv a b))]))
theorem DV(hb:b≠0){n:Nat}(h:Sm n b):Sm n (dv a b):=by
 have h1:qBs a b<=b.natAbs:=qJn (by lia) (qNz _ _);have h2:(dv a b).natAbs=qBs a b:=by
  delta dv;split <;> lia
 exact h.le (by lia)
theorem KP:aV ["top","bottom","divisor"] ["top","bottom"] (aI PC):=#[1,2]
theorem NP(t:Tx K mg "fraction" PC ["top","bottom"] f fd)(T:#[4])(D_is_number:#[5] 1 "is_number" ["thing"] (mB K) f1 fd1)(D_greatest_divisor:#[5] 1 "greatest_divisor" ["one","other"] DU f2 fd2):
  #[1,1] 2 "fraction" ["top","bottom"] (tU K NN) f fd:=by
 refine t.Jc KP (by rintro _ _ _ _⟨v1,v2,rfl,_⟩;rfl) fun _ _ _ _ H vs Q E hr h=>?_;obtain⟨v1,v2,rfl,pl1,pl2,k0,k⟩:=h;refine⟨_,(aC (bO (PW.pt (pw_or (bZ (bX (aY D_is_number hr #[1] #[0] (aA (pv 0) aB)))) (pw_or1 (bZ (bX (aY D_is_number hr #[1] #[0] (aA (pv 1) aB))))))) (aF (gA dF rfl #[0] T.MH T.MI (aA g5 aB))) aZ)
  (aC (bO (aU dE (pv 1) aE (aW _)) (aF (gA dF rfl #[0] T.MH T.MI (aA g5 aB))) aZ)
  (aC (aP (i:=2) KP.nd rfl bN (aY D_greatest_divisor hr #[1] #[0] (aA (pv 0) (aA (pv 1) aB))))
  (aC (bO (aU jH (pv 1) aE (aW _)) (aF (aP (i:=2) KP.nd rfl bN (jG gH (pv 2)))) aZ)
  (aF (aT (dN (aA (aM gB (pv 0) (pv 2)) (aA (aM gB (pv 1) (pv 2)) aB))))))))),?_⟩
 exists _,rfl,v1,rfl,pl1,_,rfl;cases e1:kX v1 with
 | false=>exact iY (iY ⟨kE,k0 (.inl e1)⟩)
 | true =>
  refine cM ⟨_,rfl,v2,rfl,pl2,_,rfl,?_⟩;cases e2:kX v2 with
  | false=>exact iY ⟨kE,k0 (.inr (.inl e2))⟩
  | true =>
   refine cM ?_;obtain⟨a,rfl⟩:∃a,v1 = .int a:=by
    cases v1 with
    | int a=>exact⟨a,rfl⟩
    | _=>cases e1
   obtain⟨b,rfl⟩:∃b,v2 = .int b:=by
    cases v2 with
    | int b=>exact⟨b,rfl⟩
    | _=>cases e2
   exists _,rfl,rfl,_,rfl;refine cK (fun h1=>⟨kE,k0 (.inr (.inr (of_decide_eq_true h1)))⟩) (fun h1=>?_);have hb:b≠0:=fun z=>h1 (decide_eq_true (congrArg V.int z));obtain⟨hbig,kk⟩:=k a b rfl rfl hb;exists _,rfl,_,rfl,a,b,rfl;have hd0:=(Ab a b hb).1;have hds:=DV (a:=a) hb hbig;dsimp only;refine CL (fun σ2 H2=>H2=H/\σ2=[some (.int a),some (.int b),some (.int (dv a b))]) ?_ fun tail=>?_
   .rintro σ2 H2 ⟨rfl,rfl⟩;exact⟨_,rfl,_,rfl,_,_,rfl,rfl,⟨hd0,hds⟩,_,rfl,_,rfl,_,_,rfl,rfl,⟨hd0,hds⟩,qE,fun p hp=>kk p hp⟩
   .exists _,rfl,_,_,rfl,rfl,_,rfl;refine cK (fun h2=>⟨_,rfl,_,rfl,tail _ _ ⟨rfl,?_⟩⟩) (fun h2=>tail _ _ ⟨rfl,?_⟩)
    .show [some (V.int a),some (V.int b),some (V.int (-(qBs a b:Int)))]=_;delta dv;rw[if_pos (of_decide_eq_true h2)]
    .show [some (V.int a),some (V.int b),some (V.int (qBs a b:Int))]=_;delta dv;rw[if_neg (fun z=>h2 (decide_eq_true z))]
noncomputable def bF(n:Nat)(f:Nat->Int):List V:=(qAk n).map fun j=>V.int (f j)
theorem aL(n:Nat)(f:Nat->Int):(bF n f).length=n:=by delta bF;rw[qAa,qAu]
theorem dQ{n j:Nat}{f:Nat->Int}(h:j<n):(bF n f)[j]?=some (.int (f j)):=by delta bF;rw[qAn,qCw h];rfl
theorem eQ{n j:Nat}{f:Nat->Int}{v:V}(h:(bF n f)[j]?=some v):j<n/\v = .int (f j):=by
 obtain⟨z,_⟩:=List.getElem?_eq_some_iff.mp h;rw[aL] at z;rw[dQ z] at h;exact⟨z,(Option.some.inj h).symm⟩
theorem bR{n j:Nat}{f:Nat->Int}(h:j<n):eV (bF n f) (j:Int)=some (.int (f j)):=fA (dQ h)
theorem dR{n:Nat}{f g:Nat->Int}(h:∀j,j<n->f j=g j):bF n f=bF n g:=qIw fun j hj=>by rw[h j (List.mem_range.mp hj)]
theorem iM(n:Nat)(f:Nat->Int):bF n f=((qAk n).map f).map V.int:=by delta bF;rw[qCn];rfl
theorem jU(n:Nat)(f:Nat->Int):eV (bF (n+1) f) (-1)=some (.int (f n)):=by
 delta eV;have e:Bc (bF (n+1) f).length (-1)=some n:=by
  rw[aL];delta Bc;rw[if_neg (by lia),if_pos (by lia)];congr 1;lia
 rw[e];exact dQ (by lia)
theorem nH(n:Nat)(f:Nat->Int):((qAk n).map f).sum=Wg.sm n f:=by
 induction n with
 | zero=>rfl
 | succ n ih =>
  rw[qBm,qAr,qFf,ih];show Wg.sm n f+(f n+0)=Wg.sm n f+f n;rw[qDn]
theorem oM{n p:Nat}{f:Nat->Int}(v:Int):(bF n f).set p (.int v)=bF n fun j=>if j=p then v else f j:=by
 refine qEn fun i=>?_;rw[qHr,aL];rcases qAm i n with h | h
 .rw[dQ h,dQ h];by_cases e:i=p
  .rw[if_pos e.symm,if_pos (by omega),if_pos e]
  .rw[if_neg (fun z=>e z.symm),if_neg e]
 .rw[qAv (by rw[aL];exact h),qAv (by rw[aL];exact h)];split
  .split
   .lia
   .rfl
  .rfl
theorem mC(n k:Nat)(f g:Nat->Int):bF n f++bF k g=bF (n+k) fun j=>if j<n then f j else g (j-n):=by
 refine qEn fun i=>?_;rcases qAm i n with h | h
 .rw[qAy (by rw[aL];exact h),dQ h,dQ (by lia),if_pos h]
 .rw[qAz (by rw[aL];exact h),aL];rcases qAm i (n+k) with h2 | h2
  .rw[dQ (by lia),dQ h2,if_neg (by lia)]
  .rw[qAv (by rw[aL];lia),qAv (by rw[aL];lia)]
theorem iN{xs:List V}{n:Nat}(F:Nat->V)(h:xs.length=n):((qAk n).filterMap fun i=>(xs[i]?).bind fun _=>some (F i))=(qAk n).map F:=by
 rw[<- qGj];refine dI fun i hi=>?_;rw[qAc (by rw[h];exact List.mem_range.mp hi)];rfl
theorem tV{xs ys:List V}{n:Nat}(F:Nat->V)(h:xs.length=n)(h2:ys.length=n):((qAk n).filterMap fun i=>(xs[i]?).bind fun _=>(ys[i]?).bind fun _=>some (F i))=(qAk n).map F:=by
 rw[<- qGj];refine dI fun i hi=>?_;rw[qAc (by rw[h];exact List.mem_range.mp hi),qAc (l:=ys) (by rw[h2];exact List.mem_range.mp hi)];rfl
theorem gW(h:j<n):Bc n (j:Int)=some j:=by
 delta Bc;rw[if_pos (by lia),if_pos (by lia)];congr 1
def oB(x y:Addr)(H H':Hp):Prop:=∀b o,b≠x->b≠y->H b=some o->H' b=some o
theorem oB.refl(H:Hp):oB x y H H:=fun _ _ _ _ e=>e
theorem Hl(s:aH H H')(x y:Addr):oB x y H H':=fun b o _ _ e=>s b o e
theorem oB.then(a:oB x y H H1)(b:aH H1 H2):oB x y H H2:=fun c o n n2 e=>b c o (a c o n n2 e)
theorem oB.trans(a:oB x y H H1)(b:oB x y H1 H2):oB x y H H2:=fun c o n n2 e=>b c o n n2 (a c o n n2 e)
theorem oB.nY(a:oB x y H H1)(u:HO):oB x y H (upd H1 x u):=fun c o n n2 e=>by rw[aR n];exact a c o n n2 e
theorem oB.PM(a:oB x y H H1)(u:HO):oB x y H (upd H1 y u):=fun c o n n2 e=>by rw[aR n2];exact a c o n n2 e
structure Inst (m n:Nat) (A:Nat->Nat->Int) (due:Nat->Int):Prop where
 m1:1<=m
 m8:m<=8
 pP:n<=70
 bA:∀j i,Sm 700 (A j i)
 bD:∀i,Sm 700 (due i)
theorem gX(x y:Int):(Wg.sgn x*y).natAbs=y.natAbs:=by
 rw[qDv];rcases Wg.tO x with e | e <;> rw[e] <;> simp
theorem Inst.gK(h:Inst m n A due)(j r:Nat):(Wg.gK m n A due j r).natAbs<=2^700:=by
 have one:(1:Int).natAbs<=2^700:=Nat.one_le_two_pow;have zero:(0:Int).natAbs<=2^700:=qBn _;delta Wg.gK;split
 .split
  .rw[gX];exact qAo (h.bA j r)
  .split
   .split
    .exact one
    .exact zero
   .split
    .rw[gX];exact qAo (h.bD r)
    .exact zero
 .exact zero
theorem PN:∀m:_root_.Fin 9,Wg.qH m.1*(2^700)^m.1<2^6000:=by decide +kernel
theorem Inst.size(h:Inst m n A due){S:Wg.St}(ok:S.ok m (Wg.gK m n A due)):Sm 6000 S.d/\∀k,k<m->∀j,Sm 6000 (S.R k j):=by
 have z:=Wg.Fr.bound ok h.gK;have f:=PN ⟨m,by have:=h.m8;lia⟩;exact⟨qBp z.1 f,fun k hk j=>qBp (z.2 k hk j) f⟩
def pQ(m:Nat)(A:Nat->Nat->Int)(due:Nat->Int)(d:Int):Prop:=∀B:Nat,1<=B->(∀j i,(A j i).natAbs<=B)->(∀i,(due i).natAbs<=B)->d.natAbs<=Wg.qH m*B^m
theorem Inst.small(h:Inst m n A due){S:Wg.St}(ok:S.ok m (Wg.gK m n A due)):pQ m A due S.d:=fun B hB hA hD=>by
 refine(Wg.Fr.bound (X:=B) ok fun j r=>?_).1;have zero:(0:Int).natAbs<=B:=qBn _;delta Wg.gK;split
 .split
  .rw[gX];exact hA j r
  .split
   .split
    .exact hB
    .exact zero
   .split
    .rw[gX];exact hD r
    .exact zero
 .exact zero
def yS(m:Nat)(A:Nat->Nat->Int)(due g Y:Nat->Int):Prop:=∀B G:Nat,1<=B->(∀j i,(A j i).natAbs<=B)->(∀i,(due i).natAbs<=B)->(∀j,(g j).natAbs<=G)->∀i,(Y i).natAbs<=m*(G*(Wg.qH m*B^m))
theorem rS{f:Nat->Int}{C:Nat}:∀{n:Nat},(∀k,k<n->(f k).natAbs<=C)->(Wg.sm n f).natAbs<=n*C
 | 0,_=>qBn _
 | n+1,h=>by
  have i:=rS (n:=n) fun k hk=>h k (by lia);have z:=h n (by lia);show(Wg.sm n f+f n).natAbs<=(n+1)*C;rw[qNg,qIz];have:=qOc (Wg.sm n f) (f n);lia
theorem Inst.KQ(h:Inst m n A due){S:Wg.St}(ok:S.ok m (Wg.gK m n A due)):yS m A due g (fun i=>Wg.sgn (due i)*Wg.fT m n (fun j=>if j<n then g j else 0) S i):=fun B G hB hA hD hG i=>by
 rw[gX];refine rS fun k hk=>?_;rw[qDv];refine qOz ?_ ?_
 .show(if S.ch k<n then g (S.ch k) else 0).natAbs<=G;split
  .exact hG _
  .exact qBn _
 .refine(Wg.Fr.bound (X:=B) ok fun j r=>?_).2 k hk _;have zero:(0:Int).natAbs<=B:=qBn _;delta Wg.gK;split
  .split
   .rw[gX];exact hA j r
   .split
    .split
     .exact hB
     .exact zero
    .split
     .rw[gX];exact hD r
     .exact zero
  .exact zero
def Ae:Sp:=fun vs H Q _=>∃i:Int,vs=[.int i]/\Q (.int (Wg.sgn i)) H
theorem NQ:aV ["number"] ["number"] (aI JJ):=#[1,2]
theorem KR(t:Tx K mg "sign_of" JJ ["number"] f fd):#[5] 1 "sign_of" ["number"] Ae f fd:=by
 refine t.gO NQ (by rintro _ _ _ _⟨i,rfl,_⟩;rfl) fun _ _ _ _ H vs Q E hr h=>?_;obtain⟨i,rfl,k⟩:=h;exists _,(aF (aT (oT (aU jH (pv 0) aE (aW _)) (jG gH aE) aE)));refine⟨_,rfl,_,_,rfl,rfl,_,rfl,cK (fun z=>?_) (fun z=>?_)⟩
 .have e:Wg.sgn i=-1:=by delta Wg.sgn;rw[if_pos (of_decide_eq_true z)]
  rw[e] at k;exact⟨_,rfl,k⟩
 .have e:Wg.sgn i=1:=by delta Wg.sgn;rw[if_neg (fun y=>z (decide_eq_true y))]
  rw[e] at k;exact k
structure tW (m n:Nat) (A:Nat->Nat->Int) (due:Nat->Int) (H:Hp) (pc pd:Addr) (cs:List Addr):Prop where
 hc:H pc=some (.lst (cs.map V.ref))
 len:cs.length=n
 at_:∀j c,cs[j]?=some c->H c=some (.lst (bF m (A j)))
 hd:H pd=some (.lst (bF m due))
theorem tW.same(h:tW m n A due H pc pd cs)(s:aH H H'):tW m n A due H' pc pd cs :=
 ⟨s _ _ h.hc,h.len,fun j c e=>s _ _ (h.at_ j c e),s _ _ h.hd⟩
theorem dB{as:List Addr}{i:Nat}{x:V}(h:(as.map V.ref)[i]?=some x):∃a,as[i]?=some a/\x = .ref a:=by
 rw[qAn] at h;cases e:as[i]? with
 | none=>rw[e] at h;cases h
 | some a=>rw[e] at h;exact⟨a,rfl,(Option.some.inj h).symm⟩
def Hm:Sp:=fun vs H Q _=>∃(m n:Nat) (A:Nat->Nat->Int) (due:Nat->Int) (pc pd:Addr) (cs:List Addr) (i:Nat),vs=[.ref pc,.ref pd,.int (i:Int)]/\Inst m n A due/\tW m n A due H pc pd cs/\i<m /\
 ∀(r:Addr) (H':Hp),aH H H'->H r=none->H' r=some (.lst (bF (n+m+1) fun j=>Wg.gK m n A due j i))->Q (.ref r) H'
theorem DW:aV ["columns","due","place","sign","spares"] ["columns","due","place"] (aI JK):=#[1,2]
theorem tX(x:Int):Sm 2 (Wg.sgn x):=by
 have:(Wg.sgn x).natAbs=1:=by rcases Wg.tO x with e | e <;> rw[e] <;> rfl
 show(Wg.sgn x).natAbs<2^2;lia
theorem KS{f1:Addr}{fd1:qCo}(t:Tx K mg "first_row" JK ["columns","due","place"] f fd)(T:#[4])(D_sign_of:#[5] 1 "sign_of" ["number"] Ae f1 fd1):
  #[5] 2 "first_row" ["columns","due","place"] Hm f fd:=by
 refine t.gO DW (fun vs H Q E h=>?_) (fun cdv _A outer s H vs Q E hr h=>?_)
 .obtain⟨m,n,A,due,pc,pd,cs,i,rfl,_⟩:=h;rfl
 .obtain⟨m,n,A,due,pc,pd,cs,i,rfl,ins,co,hi,k⟩:=h;have m8:=ins.m8;have pP:=ins.pP;refine⟨_,(aC (aP (i:=3) DW.nd rfl #[3] (aY D_sign_of hr #[1] #[0] (aA (aQ a8 (pv 1) (pv 2) #[6]) aB)))
   (aC (eJ (NB:=["other","place"]) (pick:=[none,some 2]) (i:=4) DW.nd rfl bN #[0] (bG #[7] (by exact(And.intro rfl trivial)) rfl #[2] #[2] #[0] #[0]) rfl
     (bY #[0] T.bW (aA (aJ aN #[0] T.bV bH (aA (pv 1) aB)) aB)) (fun _ _ _=>aO (i:=0) #[8,["other","place"]] rfl bN)
     (fun _ _ _=>bJ) (fun _ _ _=>(oT (aU dE (pv 0) (pv 1) (aW _)) aE aE)))
   (aF (aT (aM eM (aM eM (bM (NB:=["column","place","sign"]) (pick:=[none,some 2,some 3]) (bG #[7] (by exact(And.intro rfl (And.intro rfl trivial))) rfl #[2] #[2] #[0] #[0]) rfl
     (bL (pv 0)) (fun _ _ _=>aO (i:=0) #[8,["column","place","sign"]] rfl bN)
     (fun _ _ _=>bJ) (fun _ _ _=>(aM bK (pv 2) (aQ (bU K) (pv 0) (pv 1) #[6])))) (pv 4)) (bQ (aA (aM bK (pv 3) (aQ a8 (pv 1) (pv 2) #[6])) aB))))))),?_⟩
  exists _,rfl,_,rfl,pd,_,_,_,rfl,rfl,aS.of co.hd,bR hi,_,rfl;exists _,rfl,pd,_,rfl,.inl (aS.of co.hd);rw[aL];refine⟨m,rfl,by lia,by lia,?_⟩;refine fN (n:=m) (fun j=>some (.int (if j=i then 1 else 0))) (qAo (aK (by lia))) (fun j H2 kk kk0 s2 hj g1 g2=>?_) fun D H2 hD s2 hd=>?_
  .refine⟨_,rfl,_,rfl,rfl,_,rfl,cK (fun z=>?_) (fun z=>?_)⟩
   .have e:j=i:=by have:=V.int.inj (of_decide_eq_true z);lia
    exact g1 _ (by rw[if_pos e]) _ (.refl _)
   .have e:j≠i:=fun q=>z (decide_eq_true (by rw[q];congr 1;lia));exact g1 _ (by rw[if_neg e]) _ (.refl _)
  .have hs:H2 D=some (.lst (bF m fun j=>if j=i then 1 else 0)):=by
    rw[hd];delta bF;rw[qDo]
   have co2:=co.same s2;exists _,rfl,pc,rfl,⟨_,aS.of co2.hc⟩;refine cC (xs:=cs.map V.ref) (fun j _=>some (.int (Wg.sgn (due i)*A j i))) (aS.of co2.hc) (by rw[qAa,co.len];exact qAo (aK (by lia))) (fun j y H3 kk kk0 s3 hy g1 g2=>?_) fun D2 H3 hD2 s3 hd2=>?_
   .obtain⟨c,hc,rfl⟩:=dB hy;exact⟨_,rfl,_,rfl,_,rfl,c,_,_,_,rfl,rfl,aS.of (s3 _ _ (co2.at_ j c hc)),bR hi,_,_,rfl,rfl,(tX _).mb (ins.bA j i),g1 _ rfl _ (.refl _)⟩
   .have hd2':H3 D2=some (.lst (bF n fun j=>Wg.sgn (due i)*A j i)):=by
     rw[hd2,qAa,co.len,iN _ (by rw[qAa,co.len])];rfl
    have hs3:=s3 _ _ hs;refine⟨_,rfl,D2,D,_,_,rfl,rfl,aS.of hd2',aS.of hs3,by rw[aL,aL];exact qAo (aK (by lia)),fun p1 hp1=>?_⟩;have u1:=aH.aG (o:=.lst (bF n (fun j=>Wg.sgn (due i)*A j i)++bF m fun j=>if j=i then 1 else 0)) hp1;have e1:upd H3 p1 (.lst (bF n (fun j=>Wg.sgn (due i)*A j i)++bF m fun j=>if j=i then 1 else 0)) p1=_:=aD;generalize upd H3 p1 (.lst (bF n (fun j=>Wg.sgn (due i)*A j i)++bF m fun j=>if j=i then 1 else 0))=H4 at u1 e1|-;have s4:=s2.trans (s3.trans u1);refine⟨_,rfl,_,rfl,_,rfl,pd,_,_,_,rfl,rfl,aS.of (s4 _ _ co.hd),bR hi,_,_,rfl,rfl,(tX _).mb (ins.bD i),kE,fun p2 hp2=>?_⟩;have u2:=aH.aG (o:=.lst [V.int (Wg.sgn (due i)*due i)]) hp2;have e2:upd H4 p2 (.lst [V.int (Wg.sgn (due i)*due i)]) p2=_:=aD;generalize upd H4 p2 (.lst [V.int (Wg.sgn (due i)*due i)])=H5 at u2 e2|-;have s5:=s4.trans u2;refine⟨p1,p2,_,_,rfl,rfl,aS.of (u2 _ _ e1),aS.of e2,by rw[qAj,aL,aL];exact qAo (aK (by show n+m+1<=1000;lia)),fun p3 hp3=>?_⟩;refine k p3 _ (s5.trans (.aG hp3)) (s5.free hp3) ?_;rw[aD,mC,show [V.int (Wg.sgn (due i)*due i)]=bF 1 fun _=>Wg.sgn (due i)*due i from rfl,mC];congr 2;refine dR fun j hj=>?_;delta Wg.gK;rw[if_pos hi];by_cases h1:j<n
    .rw[if_pos (by lia),if_pos h1,if_pos h1]
    .by_cases h2:j<n+m
     .rw[if_pos h2,if_neg h1,if_neg h1,if_pos h2];by_cases h3:j=n+i
      .rw[if_pos h3,if_pos (by lia)]
      .rw[if_neg h3,if_neg (by lia)]
     .rw[if_neg h2,if_neg h1,if_neg h2,if_pos (by lia)]
def Hn:Sp:=fun vs H Q _=>∃(r l:Addr) (W q:Nat) (fr fl:Nat->Int) (d:Int),vs=[.ref r,.ref l,.int (q:Int),.int d]/\H r=some (.lst (bF W fr))/\H l=some (.lst (bF W fl))/\q<W/\W<=100/\0<d/\Sm 6000 d/\(∀j,j<W->Sm 6000 (fr j))/\(∀j,j<W->Sm 6000 (fl j)) /\
 ∀(D:Addr) (H':Hp),aH H H'->H D=none->H' D=some (.lst (bF W fun j=>(fr j*fl q-fr q*fl j)/d))->Q (.ref D) H'
theorem NS:aV ["row","lead","column","bottom"] ["row","lead","column","bottom"] (aI JL):=#[1,2]
theorem KU(t:Tx K mg "cleared" JL ["row","lead","column","bottom"] f fd)(T:#[4]):#[5] 1 "cleared" ["row","lead","column","bottom"] Hn f fd:=by
 refine t.gO NS (fun vs H Q E h=>?_) (fun cdv _A outer s H vs Q E hr h=>?_)
 .obtain⟨r,l,W,q,fr,fl,d,rfl,_⟩:=h;rfl
 .obtain⟨r,l,W,q,fr,fl,d,rfl,hr1,hl1,hq,hW,d0,ds,sr,sl,k⟩:=h;refine⟨_,(aF (aT (bM (NB:=["number","other","bottom","column","lead","row"]) (pick:=[none,none,some 3,some 2,some 1,some 0]) (bG #[7] (by exact(And.intro rfl (And.intro rfl (And.intro rfl (And.intro rfl trivial))))) rfl #[2] #[2] #[0] #[0]) rfl
     (g8 #[0] T.hZ (aA (pv 0) (aA (pv 1) aB))) (fun _ _ _=>(show PG _ _ (sI K 2 (fZ (aX 0) (fZ (aX 1) sE))) from fM rfl (bP (aO (i:=0) #[8,["number","other","bottom","column","lead","row"]] rfl bN) (bP (aO (i:=1) #[8,["number","other","bottom","column","lead","row"]] rfl bN) dP))))
     (fun _ _ _=>bJ) (fun _ _ _=>(aM gB (aM fG (aM bK (pv 0) (aQ (bU K) (pv 4) (pv 3) #[6])) (aM bK (aQ (bU K) (pv 5) (pv 3) #[6]) (pv 1))) (pv 2)))))),?_⟩
  exists _,rfl,_,rfl,r,l,rfl,⟨_,aS.of hr1⟩,⟨_,aS.of hl1⟩;refine j5 (xs:=bF W fr) (ys:=bF W fl) (fun σ'=>∃o0 o1:Option V,σ'=[o0,o1,some (.int d),some (.int (q:Int)),some (.ref l),some (.ref r)]) (fun j _ _=>some (.int ((fr j*fl q-fr q*fl j)/d))) ⟨_,_,rfl⟩ (aS.of hr1) (aS.of hl1) (by rw[aL,aL]) (by rw[aL];exact qAo (aK (by lia))) (fun i x y tt σ1 H2 kk kk0 hσ s2 hx hy ht h1 h2=>?_) fun D H2 hD s2 hd=>?_
  .obtain⟨o0,o1,rfl⟩:=hσ;obtain⟨hi,rfl⟩:=eQ hx;obtain⟨_,rfl⟩:=eQ hy;exists tt,_,rfl,cE.of ht,rfl,_,_,rfl,_,_,rfl,rfl;refine⟨_,rfl,_,rfl,_,rfl,l,_,_,_,rfl,rfl,aS.of (s2 _ _ hl1),bR hq,_,_,rfl,rfl,(sr i hi).mb (sl q hq),_,rfl,_,rfl,r,_,_,_,rfl,rfl,aS.of (s2 _ _ hr1),bR hq,_,rfl,_,_,rfl,rfl,(sr q hq).mb (sl i hi),_,_,rfl,rfl,_,rfl,_,_,rfl,rfl,ds.db (by lia),?_⟩;show kk _ (.int ((fr i*fl q-fr q*fl i).fdiv d)) H2;rw[qFk _ (qCf d0)];exact h1 _ _ ⟨_,_,rfl⟩ rfl _ (.refl _)
  .refine k D H2 s2 hD ?_;rw[hd,aL,tV _ (aL _ _) (aL _ _)];rfl
noncomputable def tY(m n:Nat)(S:Wg.St)(k:Nat):List V:=bF (n+m+1) (S.R k)
noncomputable def uH(m:Nat)(S:Wg.St):List V:=bF m fun k=>(S.ch k:Int)
structure Rows (m n:Nat) (S:Wg.St) (H:Hp) (lr:Addr) (ras:List Addr):Prop where
 hr:H lr=some (.lst (ras.map V.ref))
 len:ras.length=m
 at_:∀k r,ras[k]?=some r->H r=some (.lst (tY m n S k))
theorem Rows.get(h:Rows m n S H lr ras){k:Nat}(hk:k<m):∃r,ras[k]?=some r/\eV (ras.map V.ref) (k:Int)=some (.ref r)/\H r=some (.lst (tY m n S k)):=by
 have e:ras[k]?=some (ras[k]'(by rw[h.len];exact hk)):=qAc _;exact⟨_,e,fA (by rw[qAn,e];rfl),h.at_ k _ e⟩
def iH(FR:Addr)(m n:Nat)(H:Hp)(x lc:Addr)(S:Wg.St):Prop:=∃(dx lr:Addr) (ras:List Addr),H x=some (.ins FR dx [("many",.int (n:Int)),("bottom",.int S.d),("rows",.ref lr),("chosen",.ref lc)])/\Rows m n S H lr ras/\H lc=some (.lst (uH m S))
theorem iH.same(h:iH FR m n H x lc S)(s:aH H H'):iH FR m n H' x lc S:=by
 obtain⟨dx,lr,ras,h1,h2,h3⟩:=h;exact⟨dx,lr,ras,s _ _ h1,⟨s _ _ h2.hr,h2.len,fun k r e=>s _ _ (h2.at_ k r e)⟩,s _ _ h3⟩
structure Good (m n:Nat) (A:Nat->Nat->Int) (due:Nat->Int) (S:Wg.St):Prop where
 ins:Inst m n A due
 ok:S.ok m (Wg.gK m n A due)
 ch:∀k,k<m->S.ch k<n+m
theorem Good.start(h:Inst m n A due):Good m n A due (Wg.start m n A due) :=
 ⟨h,Wg.Dx,fun k hk=>by show n+k<n+m;lia⟩
theorem Good.next(h:Good m n A due S){p q:Nat}(hp:p<m)(hq:q<n)(nz:S.R p q≠0):Good m n A due (S.next p q) :=
 ⟨h.ins,Wg.St.z6 h.ok hp nz,fun k hk=>by
  by_cases e:k=p
  .rw[e,Wg.St.hV];lia
  .rw[Wg.St.fQ e];exact h.ch k hk⟩
def NU(FR:Addr):Sp:=fun vs H Q _=>∃(m n:Nat) (A:Nat->Nat->Int) (due:Nat->Int) (x dx pc pd:Addr) (cs:List Addr),vs=[.ref x,.ref pc,.ref pd]/\H x=some (.ins FR dx [])/\Inst m n A due/\tW m n A due H pc pd cs /\
 ∀(lc:Addr) (H':Hp),SameBut x H H'->H lc=none->iH FR m n H' x lc (Wg.start m n A due)->Q .non H'
theorem PQ:aV ["self","columns","due"] ["self","columns","due"] (aI MF):=#[1,2]
theorem NV(t:Mx K "__init__" "Frame.__init__" MF ["self","columns","due"] f fd)(T:#[4])(D_first_row:#[5] 2 "first_row" ["columns","due","place"] Hm f1 fd1):
  #[1,0] 3 ["self","columns","due"] (NU FR) f:=by
 refine t.ME PQ (fun vs H Q E h=>?_) (fun cdv _A outer s H vs Q E hr h=>?_)
 .obtain⟨m,n,A,due,x,dx,pc,pd,cs,rfl,_⟩:=h;rfl
 .obtain⟨m,n,A,due,x,dx,pc,pd,cs,rfl,hx,ins,co,k⟩:=h;have m8:=ins.m8;have pP:=ins.pP;refine⟨_,(aC (mV (pv 0) (aJ aN #[0] T.bV bH (aA (pv 1) aB)) rfl)
   (aC (mV (pv 0) aE rfl)
   (aC (mV (pv 0) (bM (NB:=["place","columns","due"]) (pick:=[none,some 1,some 2]) (bG #[7] (by exact(And.intro rfl (And.intro rfl trivial))) rfl #[2] #[2] #[0] #[0]) rfl
     (bY #[0] T.bW (aA (aJ aN #[0] T.bV bH (aA (pv 2) aB)) aB)) (fun _ _ _=>aO (i:=0) #[8,["place","columns","due"]] rfl bN)
     (fun _ _ _=>bJ) (fun _ _ _=>(aY D_first_row hr #[1] #[0] (aA (pv 1) (aA (pv 2) (aA (pv 0) aB)))))) rfl)
   (aF (mV (pv 0) (bM (NB:=["place","self"]) (pick:=[none,some 0]) (bG #[7] (by exact(And.intro rfl trivial)) rfl #[2] #[2] #[0] #[0]) rfl
     (bY #[0] T.bW (aA (aJ aN #[0] T.bV bH (aA (pv 2) aB)) aB)) (fun _ _ _=>aO (i:=0) #[8,["place","self"]] rfl bN)
     (fun _ _ _=>bJ) (fun _ _ _=>(aM fF (lR K (pv 1) rfl) (pv 0)))) rfl))))),?_⟩
  have npc:pc≠x:=kJ co.hc hx (by intro z;cases z);have npd:pd≠x:=kJ co.hd hx (by intro z;cases z);refine⟨_,rfl,pc,_,rfl,.inl (aS.of co.hc),_,rfl,x,FR,dx,_,rfl,hx,T.cQ.oc.cl,T.cQ.nm,by decide,?_⟩;rw[qAa,co.len];have e1:upd H x (.ins FR dx (dM "many" (V.int (n:Int)) [])) x=some (.ins FR dx [("many",.int (n:Int))]):=aD;have b1:SameBut x H (upd H x (.ins FR dx (dM "many" (V.int (n:Int)) []))):=((aH.refl H).but x).nY _;generalize upd H x (.ins FR dx (dM "many" (V.int (n:Int)) []))=H1 at e1 b1|-;refine⟨_,rfl,x,FR,dx,_,rfl,e1,T.cQ.oc.cl,T.cQ.nb,by show 1<1000;decide,?_⟩;have e2:upd H1 x (.ins FR dx (dM "bottom" (V.int 1) [("many",.int (n:Int))])) x=some (.ins FR dx [("many",.int (n:Int)),("bottom",.int 1)]):=aD;have b2:SameBut x H (upd H1 x (.ins FR dx (dM "bottom" (V.int 1) [("many",.int (n:Int))]))):=b1.nY _;generalize upd H1 x (.ins FR dx (dM "bottom" (V.int 1) [("many",.int (n:Int))]))=H2 at e2 b2|-;have ncs:∀j c,cs[j]?=some c->c≠x:=fun j c e=>kJ (co.at_ j c e) hx (by intro z;cases z);have co2:tW m n A due H2 pc pd cs:=⟨b2 _ _ npc co.hc,co.len,fun j c e=>b2 _ _ (ncs j c e) (co.at_ j c e),b2 _ _ npd co.hd⟩;exists _,rfl,pd,_,rfl,.inl (aS.of co2.hd);rw[aL];refine⟨m,rfl,by lia,by lia,?_⟩;refine Br (n:=m) (fun i=>bF (n+m+1) fun j=>Wg.gK m n A due j i) (qAo (aK (by lia))) (fun i H3 kk kk0 s3 hi g1=>?_) fun D ras H3 hD s3 hl nw hd=>?_
  .refine⟨_,rfl,_,rfl,_,rfl,m,n,A,due,pc,pd,cs,i,?_,ins,co2.same s3,hi,fun r H4 s4 hr4 e4=>g1 r H4 s4 hr4 e4⟩;rw[qCe];rfl
  .refine⟨_,rfl,x,FR,dx,_,rfl,s3 _ _ e2,T.cQ.oc.cl,T.cQ.nr,by show 2<1000;decide,?_⟩;have nD:D≠x:=fun z=>by rw[z,e2] at hD;cases hD
   have e3:upd H3 x (.ins FR dx (dM "rows" (V.ref D) [("many",.int (n:Int)),("bottom",.int 1)])) x=some (.ins FR dx [("many",.int (n:Int)),("bottom",.int 1),("rows",.ref D)]):=aD;have b3:SameBut x H (upd H3 x (.ins FR dx (dM "rows" (V.ref D) [("many",.int (n:Int)),("bottom",.int 1)]))):=(b2.then s3).nY _;have rw3:Rows m n (Wg.start m n A due) (upd H3 x (.ins FR dx (dM "rows" (V.ref D) [("many",.int (n:Int)),("bottom",.int 1)]))) D ras:=by
    refine⟨by rw[aR nD];exact hd,hl,fun k' r e=>?_⟩;obtain⟨a1,a2,a3⟩:=nw.at_ k' r e;have nr:r≠x:=fun z=>by rw[z,e2] at a1;cases a1
    rw[aR nr];exact a3
   generalize upd H3 x (.ins FR dx (dM "rows" (V.ref D) [("many",.int (n:Int)),("bottom",.int 1)]))=H4 at e3 b3 rw3|-;exists _,rfl,pd,_,rfl,.inl (aS.of (b3 _ _ npd co.hd));rw[aL];refine⟨m,rfl,by lia,by lia,?_⟩;refine fN (n:=m) (fun i=>some (.int ((n+i:Nat):Int))) (qAo (aK (by lia))) (fun i H5 kk kk0 s5 hi g1 g2=>?_) fun D2 H5 hD2 s5 hd2=>?_
   .exists _,rfl,x,FR,dx,_,_,rfl,s5 _ _ e3,T.cQ.oc.cl,T.cQ.nm,rfl,_,rfl,_,_,rfl,rfl;rw[qCe];exact g1 _ (by rw[qOr]) _ (.refl _)
   .have nD2:D2≠x:=fun z=>by rw[z,e3] at hD2;cases hD2
    refine⟨_,rfl,x,FR,dx,_,rfl,s5 _ _ e3,T.cQ.oc.cl,T.cQ.nc,by show 3<1000;decide,?_⟩;refine k D2 _ ((b3.then s5).nY _) ?_ ⟨dx,D,ras,aD,⟨?_,rw3.len,fun k' r e=>?_⟩,?_⟩
    .cases e:H D2 with
     | none=>rfl
     | some o =>
      have z:=b3 _ _ nD2 e;rw[hD2] at z;cases z
    .rw[aR nD];exact s5 _ _ rw3.hr
    .have z:=rw3.at_ k' r e;have nr:r≠x:=fun y=>by rw[y,e3] at z;cases z
     rw[aR nr];exact s5 _ _ z
    .rw[aR nD2,hd2,qDo];rfl
theorem KW(h:Rows m n S H lr ras){C dx:Addr}{fs:List (Str×V)}(hx:H x=some (.ins C dx fs)):lr≠x/\∀(k:Nat) (r:Addr),ras[k]?=some r->r≠x :=
 ⟨kJ h.hr hx (by intro z;cases z),fun k r e=>kJ (h.at_ k r e) hx (by intro z;cases z)⟩
def DX(FR:Addr):Sp:=fun vs H Q _=>∃(m n:Nat) (A:Nat->Nat->Int) (due:Nat->Int) (x lc:Addr) (S:Wg.St) (p q:Nat),vs=[.ref x,.int (p:Int),.int (q:Int)]/\iH FR m n H x lc S/\Good m n A due S/\p<m/\q<n/\S.R p q≠0 /\
 ∀H',oB x lc H H'->iH FR m n H' x lc (S.next p q)->Q .non H'
theorem Af:aV ["self","place","column","sign","lead","rows"] ["self","place","column"] (aI BI):=#[1,2]
theorem KY{f1 f2:Addr}{fd1 fd2:qCo}(t:Mx K "choose" "Frame.choose" BI ["self","place","column"] f fd)(T:#[4])(D_sign_of:#[5] 1 "sign_of" ["number"] Ae f1 fd1)(D_cleared:#[5] 1 "cleared" ["row","lead","column","bottom"] Hn f2 fd2):
  #[1,0] 2 ["self","place","column"] (DX FR) f:=by
 refine t.ME Af (fun vs H Q E h=>?_) (fun cdv _A outer s H vs Q E hr h=>?_)
 .obtain⟨m,n,A,due,x,lc,S,p,q,rfl,_⟩:=h;rfl
 .obtain⟨m,n,A,due,x,lc,S,p,q,rfl,⟨dx,lr,ras,hx,rs,hlc⟩,gd,hp,hq,nz,k⟩:=h;have m8:=gd.ins.m8;have pP:=gd.ins.pP;obtain⟨sd,sR⟩:=gd.ins.size gd.ok;have d0:=Wg.Fr.pos gd.ok;refine⟨_,(aC (aP (i:=3) Af.nd rfl #[3] (aY D_sign_of hr #[1] #[0] (aA (aQ a8 (aQ a8 (cB (pv 0) rfl) (pv 1) #[6]) (pv 2) #[6]) aB)))
   (aC (aP (i:=4) Af.nd rfl #[3] (bM (NB:=["number","sign"]) (pick:=[none,some 3]) (bG #[7] (by exact(And.intro rfl trivial)) rfl #[2] #[2] #[0] #[0]) rfl
     (bL (aQ a8 (cB (pv 0) rfl) (pv 1) #[6])) (fun _ _ _=>aO (i:=0) #[8,["number","sign"]] rfl bN)
     (fun _ _ _=>bJ) (fun _ _ _=>(aM bK (pv 1) (pv 0)))))
   (aC (eJ (NB:=["row","column","lead","self"]) (pick:=[none,some 2,some 4,some 0]) (i:=5) Af.nd rfl bN #[0] (bG #[7] (by exact(And.intro rfl (And.intro rfl (And.intro rfl trivial)))) rfl #[2] #[2] #[0] #[0]) rfl
     (bL (cB (pv 0) rfl)) (fun _ _ _=>aO (i:=0) #[8,["row","column","lead","self"]] rfl bN)
     (fun _ _ _=>bJ) (fun _ _ _=>(aY D_cleared hr #[1] #[0] (aA (pv 0) (aA (pv 2) (aA (pv 1) (aA (lR K (pv 3) rfl) aB)))))))
   (aC (gG (pv 4) (gF (pv 5) (pv 1) set_list))
   (aC (mV (pv 0) (pv 5) rfl)
   (aC (mV (pv 0) (aQ a8 (pv 4) (pv 2) #[6]) rfl)
   (aF (gG (pv 2) (gF (cB (pv 0) rfl) (pv 1) set_list))))))))),?_⟩
  obtain⟨rp,erp,arp,hrp⟩:=rs.get hp;exists _,rfl,x,FR,dx,_,_,rfl,hx,T.cQ.oc.cl,T.cQ.nr,rfl,_,rfl,lr,_,_,_,rfl,rfl,aS.of rs.hr,arp,_,rfl,rp,_,_,_,rfl,rfl,aS.of hrp,bR (by lia),_,rfl;exists _,rfl,x,FR,dx,_,_,rfl,hx,T.cQ.oc.cl,T.cQ.nr,rfl,_,rfl,lr,_,_,_,rfl,rfl,aS.of rs.hr,arp,rp,rfl,⟨_,aS.of hrp⟩;refine cC (xs:=tY m n S p) (fun j _=>some (.int (Wg.sgn (S.R p q)*S.R p j))) (aS.of hrp) (by delta tY;rw[aL];exact qAo (aK (by lia))) (fun j y H2 kk kk0 s2 hy g1 g2=>?_) fun D H2 hD s2 hd=>?_
  .obtain⟨hj,rfl⟩:=eQ hy;exact⟨_,rfl,_,rfl,_,_,rfl,rfl,(tX _).mb (sR p hp j),g1 _ rfl _ (.refl _)⟩
  have hL:H2 D=some (.lst (bF (n+m+1) fun j=>Wg.sgn (S.R p q)*S.R p j)):=by
   rw[hd];delta tY;rw[aL,iN _ (aL _ _)];rfl
  have sl:∀j,Sm 6000 (Wg.sgn (S.R p q)*S.R p j):=fun j=>(sR p hp j).le (by rw[gX];exact qAg _);exists _,rfl,x,FR,dx,_,_,rfl,s2 _ _ hx,T.cQ.oc.cl,T.cQ.nr,rfl,lr,rfl,⟨_,aS.of (s2 _ _ rs.hr)⟩;refine m9 (xs:=ras.map V.ref) (fun k'=>bF (n+m+1) fun j=>(S.R k' j*(Wg.sgn (S.R p q)*S.R p q)-S.R k' q*(Wg.sgn (S.R p q)*S.R p j))/S.d) (aS.of (s2 _ _ rs.hr)) (by rw[qAa,rs.len];exact qAo (aK (by lia))) (fun k' y H3 kk kk0 s3 hy g1=>?_) fun D2 ras2 H3 hD2 s3 hl2 nw hd2=>?_
  .obtain⟨r,hr',rfl⟩:=dB hy;have hk':k'<m:=by
    obtain⟨z,_⟩:=List.getElem?_eq_some_iff.mp hr';rw[rs.len] at z;exact z
   refine⟨_,rfl,_,rfl,_,rfl,_,rfl,x,FR,dx,_,_,rfl,s3 _ _ (s2 _ _ hx),T.cQ.oc.cl,T.cQ.nb,rfl,r,D,n+m+1,q,S.R k',fun j=>Wg.sgn (S.R p q)*S.R p j,S.d,rfl,s3 _ _ (s2 _ _ (rs.at_ k' r hr')),s3 _ _ hL,by lia,by lia,d0,sd,fun j _=>sR k' hk' j,fun j _=>sl j,fun r2 H4 s4 hr4 e4=>g1 r2 H4 s4 hr4 e4⟩
  rw[qAa,rs.len] at hl2;have hL3:=s3 _ _ hL;have hx3:=s3 _ _ (s2 _ _ hx);have hlc3:=s3 _ _ (s2 _ _ hlc);refine⟨_,rfl,_,rfl,_,rfl,D2,_,_,p,rfl,rfl,hd2,by rw[qAa,hl2];exact gW hp,?_⟩;have s23:=s2.trans s3;have b4:oB x lc H (upd H3 D2 (.lst ((ras2.map V.ref).set p (V.ref D)))):=fun b o n1 n2 e=>by
   rw[aR (fun z=>by rw[z] at e;exact absurd (s2 _ _ e) (by rw[hD2];intro q;cases q))];exact s23 _ _ e
  have hx4:upd H3 D2 (.lst ((ras2.map V.ref).set p (V.ref D))) x=_:=(aR (fun z=>by rw[<- z,s2 _ _ hx] at hD2;cases hD2)).trans hx3;have hlc4:upd H3 D2 (.lst ((ras2.map V.ref).set p (V.ref D))) lc=_:=(aR (fun z=>by rw[<- z,s2 _ _ hlc] at hD2;cases hD2)).trans hlc3;have hL4:upd H3 D2 (.lst ((ras2.map V.ref).set p (V.ref D))) D=_:=(aR (fun z=>by rw[<- z,hL] at hD2;cases hD2)).trans hL3;have rs4:Rows m n (S.next p q) (upd H3 D2 (.lst ((ras2.map V.ref).set p (V.ref D)))) D2 (ras2.set p D):=by
   refine⟨by rw[aD,qMb],by rw[qIf];exact hl2,fun k' r e=>?_⟩;rw[qHr] at e;by_cases ek:p=k'
   .rw[if_pos ek] at e;subst ek;rw[if_pos (by rw[hl2];exact hp)] at e;cases e;rw[hL4];congr 2;refine dR fun j _=>?_;show _=Wg.iT S.d S.R p q p j;delta Wg.iT;rw[if_pos rfl]
   .rw[if_neg ek] at e;obtain⟨a1,a2,a3⟩:=nw.at_ k' r e;rw[aR a2,a3];congr 2;refine dR fun j _=>?_;show _=Wg.iT S.d S.R p q k' j;delta Wg.iT;rw[if_neg (fun z=>ek z.symm)]
  have nDx:D≠x:=fun z=>by rw[z,hx] at hD;cases hD
  have nDl:D≠lc:=fun z=>by rw[z,hlc] at hD;cases hD
  have nD2l:D2≠lc:=fun z=>by rw[z,s2 _ _ hlc] at hD2;cases hD2
  have nrl:∀k' r,(ras2.set p D)[k']?=some r->r≠lc:=fun k' r e=>by
   rw[qHr] at e;by_cases ek:p=k'
   .rw[if_pos ek] at e;subst ek;rw[if_pos (by rw[hl2];exact hp)] at e;cases e;exact nDl
   .rw[if_neg ek] at e;obtain⟨a1,_,_⟩:=nw.at_ k' r e;exact fun z=>by rw[z,s2 _ _ hlc] at a1;cases a1
  generalize upd H3 D2 (.lst ((ras2.map V.ref).set p (V.ref D)))=H4 at b4 hx4 hlc4 hL4 rs4|-;obtain⟨nrx1,nrx2⟩:=KW rs4 hx4;refine⟨_,rfl,_,rfl,x,FR,dx,_,rfl,hx4,T.cQ.oc.cl,T.cQ.nr,by show 4<1000;decide,?_⟩;have nlx:lc≠x:=kJ hlc hx (by intro z;cases z);have e5:upd H4 x (.ins FR dx (dM "rows" (V.ref D2) [("many",V.int (n:Int)),("bottom",.int S.d),("rows",.ref lr),("chosen",.ref lc)])) x=some (.ins FR dx [("many",V.int (n:Int)),("bottom",.int S.d),("rows",.ref D2),("chosen",.ref lc)]):=aD;have b5:oB x lc H (upd H4 x (.ins FR dx (dM "rows" (V.ref D2) [("many",V.int (n:Int)),("bottom",.int S.d),("rows",.ref lr),("chosen",.ref lc)]))):=b4.nY _;have hL5:=(aR (H:=H4) (o:=.ins FR dx (dM "rows" (V.ref D2) [("many",V.int (n:Int)),("bottom",.int S.d),("rows",.ref lr),("chosen",.ref lc)])) nDx).trans hL4;have rs5:Rows m n (S.next p q) (upd H4 x (.ins FR dx (dM "rows" (V.ref D2) [("many",V.int (n:Int)),("bottom",.int S.d),("rows",.ref lr),("chosen",.ref lc)]))) D2 (ras2.set p D) :=
   ⟨by rw[aR nrx1];exact rs4.hr,rs4.len,fun k' r e=>by rw[aR (nrx2 k' r e)];exact rs4.at_ k' r e⟩
  have hlc5:=(aR (H:=H4) (o:=.ins FR dx (dM "rows" (V.ref D2) [("many",V.int (n:Int)),("bottom",.int S.d),("rows",.ref lr),("chosen",.ref lc)])) nlx).trans hlc4;generalize upd H4 x (.ins FR dx (dM "rows" (V.ref D2) [("many",V.int (n:Int)),("bottom",.int S.d),("rows",.ref lr),("chosen",.ref lc)]))=H5 at e5 b5 hL5 rs5 hlc5|-;refine⟨_,rfl,_,rfl,D,_,_,_,rfl,rfl,aS.of hL5,bR (by lia),_,rfl,x,FR,dx,_,rfl,e5,T.cQ.oc.cl,T.cQ.nb,by show 4<1000;decide,?_⟩;have e6:upd H5 x (.ins FR dx (dM "bottom" (V.int (Wg.sgn (S.R p q)*S.R p q)) [("many",V.int (n:Int)),("bottom",.int S.d),("rows",.ref D2),("chosen",.ref lc)])) x=some (.ins FR dx [("many",V.int (n:Int)),("bottom",.int (Wg.sgn (S.R p q)*S.R p q)),("rows",.ref D2),("chosen",.ref lc)]):=aD;have b6:oB x lc H (upd H5 x (.ins FR dx (dM "bottom" (V.int (Wg.sgn (S.R p q)*S.R p q)) [("many",V.int (n:Int)),("bottom",.int S.d),("rows",.ref D2),("chosen",.ref lc)]))):=b5.nY _;have rs6:Rows m n (S.next p q) (upd H5 x (.ins FR dx (dM "bottom" (V.int (Wg.sgn (S.R p q)*S.R p q)) [("many",V.int (n:Int)),("bottom",.int S.d),("rows",.ref D2),("chosen",.ref lc)]))) D2 (ras2.set p D) :=
   ⟨by rw[aR nrx1];exact rs5.hr,rs5.len,fun k' r e=>by rw[aR (nrx2 k' r e)];exact rs5.at_ k' r e⟩
  have hlc6:=(aR (H:=H5) (o:=.ins FR dx (dM "bottom" (V.int (Wg.sgn (S.R p q)*S.R p q)) [("many",V.int (n:Int)),("bottom",.int S.d),("rows",.ref D2),("chosen",.ref lc)])) nlx).trans hlc5;generalize upd H5 x (.ins FR dx (dM "bottom" (V.int (Wg.sgn (S.R p q)*S.R p q)) [("many",V.int (n:Int)),("bottom",.int S.d),("rows",.ref D2),("chosen",.ref lc)]))=H6 at e6 b6 rs6 hlc6|-;refine⟨_,rfl,_,rfl,x,FR,dx,_,_,rfl,e6,T.cQ.oc.cl,T.cQ.nc,rfl,_,rfl,lc,_,_,p,rfl,rfl,hlc6,by delta uH;rw[aL];exact gW hp,?_⟩;refine k _ (b6.PM _) ⟨dx,D2,_,(aR (fun z=>nlx z.symm)).trans e6,⟨(aR nD2l).trans rs6.hr,rs6.len,fun k' r e=>(aR (nrl k' r e)).trans (rs6.at_ k' r e)⟩,?_⟩;rw[aD];delta uH;rw[oM];congr 2;refine dR fun k' _=>?_;show _=((Wg.FZ S.ch p q k':Nat):Int);delta Wg.FZ;split <;> rfl
structure BX (m n:Nat) (c:Nat->Int) (H:Hp) (pg:Addr):Prop where
 hg:H pg=some (.lst (bF (n+m) c))
 sz:∀j,Sm 100000 (c j)
theorem BX.same(h:BX m n c H pg)(s:aH H H'):BX m n c H' pg:=⟨s _ _ h.hg,h.sz⟩
theorem tZ(rs:Rows m n S H lr ras):(uH m S).length=(ras.map V.ref).length:=by delta uH;rw[aL,qAa,rs.len]
def Ho(FR:Addr):Sp:=fun vs H Q _=>∃(m n:Nat) (A:Nat->Nat->Int) (due:Nat->Int) (c:Nat->Int) (x lc pg:Addr) (S:Wg.St) (q:Nat),vs=[.ref x,.int (q:Int),.ref pg]/\iH FR m n H x lc S/\Good m n A due S/\BX m n c H pg/\q<n /\
 ∀H',aH H H'->Q (.bl (decide (0<S.red m c q))) H'
theorem Hq:aV ["self","column","gains","given_up"] ["self","column","gains"] (aI BJ):=#[1,2]
theorem KZ(t:Mx K "gains_more" "Frame.gains_more" BJ ["self","column","gains"] f fd)(T:#[4]):#[1,0] 1 ["self","column","gains"] (Ho FR) f:=by
 refine t.ME Hq (fun vs H Q E h=>?_) (fun cdv _A outer s H vs Q E hr h=>?_)
 .obtain⟨m,n,A,due,c,x,lc,pg,S,q,rfl,_⟩:=h;rfl
 .obtain⟨m,n,A,due,c,x,lc,pg,S,q,rfl,⟨dx,lr,ras,hx,rs,hlc⟩,gd,gn,hq,k⟩:=h;have m8:=gd.ins.m8;have pP:=gd.ins.pP;obtain⟨sd,sR⟩:=gd.ins.size gd.ok;refine⟨_,(aC (aP (i:=3) Hq.nd rfl bN (aJ (dG rfl) #[0] T.gL gJ (aA (bM (NB:=["chosen","row","column","gains"]) (pick:=[none,none,some 1,some 2]) (bG #[7] (by exact(And.intro rfl (And.intro rfl trivial))) rfl #[2] #[2] #[0] #[0]) rfl
     (g8 #[0] T.hZ (aA (cB (pv 0) rfl) (aA (cB (pv 0) rfl) aB))) (fun _ _ _=>(show PG _ _ (sI K 2 (fZ (aX 0) (fZ (aX 1) sE))) from fM rfl (bP (aO (i:=0) #[8,["chosen","row","column","gains"]] rfl bN) (bP (aO (i:=1) #[8,["chosen","row","column","gains"]] rfl bN) dP))))
     (fun _ _ _=>bJ) (fun _ _ _=>(aM bK (aQ (bU K) (pv 3) (pv 0) #[6]) (aQ (bU K) (pv 1) (pv 2) #[6])))) aB)))
   (aF (aT (eD jH (pv 3) (aM bK (aQ a8 (pv 2) (pv 1) #[6]) (cB (pv 0) rfl)) (aW _))))),?_⟩
  exists _,rfl,x,FR,dx,_,_,rfl,hx,T.cQ.oc.cl,T.cQ.nc,rfl,_,rfl,x,FR,dx,_,_,rfl,hx,T.cQ.oc.cl,T.cQ.nr,rfl,lc,lr,rfl,⟨_,aS.of hlc⟩,⟨_,aS.of rs.hr⟩;refine j5 (xs:=uH m S) (ys:=ras.map V.ref) (fun σ'=>∃o0 o1:Option V,σ'=[o0,o1,some (.int (q:Int)),some (.ref pg)]) (fun k' _ _=>some (.int (c (S.ch k')*S.R k' q))) ⟨_,_,rfl⟩ (aS.of hlc) (aS.of rs.hr) (tZ rs) (by delta uH;rw[aL];exact qAo (aK (by lia))) (fun k' x' y' tt σ1 H2 kk kk0 hσ s2 hx' hy' ht h1 h2=>?_) fun D H2 hD s2 hd=>?_
  .obtain⟨o0,o1,rfl⟩:=hσ;obtain⟨hk',rfl⟩:=eQ hx';obtain⟨r,er,rfl⟩:=dB hy';have hch:=gd.ch k' hk';exists tt,_,rfl,cE.of ht,rfl,_,_,rfl,_,_,rfl,rfl;exact⟨_,rfl,_,rfl,pg,_,_,_,rfl,rfl,aS.of (s2 _ _ gn.hg),bR hch,_,rfl,_,rfl,r,_,_,_,rfl,rfl,aS.of (s2 _ _ (rs.at_ k' r er)),bR (by lia),_,_,rfl,rfl,(gn.sz _).mb (sR k' hk' q),h1 _ _ ⟨_,_,rfl⟩ rfl _ (.refl _)⟩
  .have hd':H2 D=some (.lst (((qAk m).map fun k'=>c (S.ch k')*S.R k' q).map V.int)):=by
    have e:(uH m S).length=m:=aL _ _;rw[hd,e,tV _ e (by rw[qAa,rs.len]),qCn];rfl
   exists D,_,rfl,.inl (aS.of hd');exists _,rfl,_,rfl,_,rfl,pg,_,_,_,rfl,rfl,aS.of (s2 _ _ gn.hg),bR (by lia),_,rfl,x,FR,dx,_,_,rfl,s2 _ _ hx,T.cQ.oc.cl,T.cQ.nb,rfl,_,_,rfl,rfl,(gn.sz q).mb sd,_,_,rfl,rfl;rw[nH];have e:decide (Wg.sm m (fun k'=>c (S.ch k')*S.R k' q)<c q*S.d)=decide (0<S.red m c q):=by
    refine decide_eq_decide.mpr ?_;delta Wg.St.red Wg.red;lia
   show Q (.bl (decide (Wg.sm m (fun k'=>c (S.ch k')*S.R k' q)<c q*S.d))) H2;rw[e];exact k H2 s2
def DY(FR:Addr):Sp:=fun vs H Q _=>∃(m n:Nat) (A:Nat->Nat->Int) (due:Nat->Int) (c:Nat->Int) (x lc pg:Addr) (S:Wg.St),vs=[.ref x,.ref pg]/\iH FR m n H x lc S/\Good m n A due S/\BX m n c H pg /\
 ∀H',aH H H'->((∀j,j<n->S.red m c j<=0)->Q .non H')/\∀q:Nat,q<n->0<S.red m c q->(∀j,j<q->S.red m c j<=0)->Q (.int (q:Int)) H'
theorem Hr:aV ["self","gains","column"] ["self","gains"] (aI BK):=#[1,2]
theorem La(t:Mx K "column_to_choose" "Frame.column_to_choose" BK ["self","gains"] f fd)(T:#[4])(DG:#[1,0] 1 ["self","column","gains"] (Ho FR) fGM):#[1,0] 2 ["self","gains"] (DY FR) f:=by
 refine t.ME Hr (fun vs H Q E h=>?_) (fun cdv _A outer s H vs Q E hr h=>?_)
 .obtain⟨m,n,A,due,c,x,lc,pg,S,rfl,_⟩:=h;rfl
 .obtain⟨m,n,A,due,c,x,lc,pg,S,rfl,fo,gd,gn,k⟩:=h;have pP:=gd.ins.pP;obtain⟨dx,lr,ras,hx,rs,hlc⟩:=id fo;refine⟨_,(aC (cF #[9] rfl (bY #[0] T.bW (aA (cB (pv 0) rfl) aB)) (aO (i:=2) Hr.nd rfl bN)
    (aF (bO (bX (g9 (k:=1) cI (pv 0) hr #[1] (aA (pv 2) (aA (pv 1) aB)))) (aF (aT (pv 2))) aZ)))
   (aF (aT dU))),?_⟩
  refine⟨_,rfl,x,FR,dx,_,_,rfl,hx,T.cQ.oc.cl,T.cQ.nm,rfl,n,rfl,by lia,by lia,?_⟩;refine dJ (n:=n) (fun i σ H2=>aH H H2/\(∃o:Option V,σ=[some (.ref x),some (.ref pg),o])/\∀j,j<i->S.red m c j<=0) ⟨.refl _,⟨_,rfl⟩,fun j hj=>by lia⟩ (fun i σ H2 hi z9=>?_) (fun σ H2 z9=>?_)
  .obtain⟨s2,⟨o,eσ⟩,le⟩:=z9;subst eσ;exists _,rfl,x,FR,dx,_,fGM,_,rfl,s2 _ _ hx,rfl,T.cQ.oc.cl,T.cQ.QJ,⟨_,DG⟩;refine⟨_,rfl,_,rfl,m,n,A,due,c,x,lc,pg,S,i,?_,fo.same s2,gd,gn.same s2,hi,fun H3 s3=>?_⟩
   .rw[qCe]
   .refine⟨_,rfl,cK (fun z=>⟨_,rfl,?_⟩) (fun z=>⟨s2.trans s3,⟨_,rfl⟩,fun j hj=>?_⟩)⟩
    .rw[qCe];exact(k H3 (s2.trans s3)).2 i hi (of_decide_eq_true z) le
    .by_cases e:j=i
     .subst e;have:¬(0<S.red m c j):=fun y=>z (decide_eq_true y);lia
     .exact le j (by lia)
  .obtain⟨s2,⟨o,eσ⟩,le⟩:=z9;exact(k H2 s2).1 le
def Hs(FR:Addr):Sp:=fun vs H Q _=>∃(m n:Nat) (A:Nat->Nat->Int) (due:Nat->Int) (x lc:Addr) (S:Wg.St) (a b q:Nat),vs=[.ref x,.int (a:Int),.int (b:Int),.int (q:Int)]/\iH FR m n H x lc S/\Good m n A due S/\a<m/\b<m/\q<n /\
 Q (.bl (decide (S.R a (n+m)*S.R b q<S.R b (n+m)*S.R a q\/(S.R a (n+m)*S.R b q=S.R b (n+m)*S.R a q/\S.ch a<S.ch b)))) H
theorem DZ:aV ["self","one","other","column","first","second"] ["self","one","other","column"] (aI BL):=#[1,2]
theorem Lb(t:Mx K "comes_ahead" "Frame.comes_ahead" BL ["self","one","other","column"] f fd)(T:#[4]):#[1,0] 1 ["self","one","other","column"] (Hs FR) f:=by
 refine t.ME DZ (fun vs H Q E h=>?_) (fun cdv _A outer s H vs Q E hr h=>?_)
 .obtain⟨m,n,A,due,x,lc,S,a,b,q,rfl,_⟩:=h;rfl
 .obtain⟨m,n,A,due,x,lc,S,a,b,q,rfl,⟨dx,lr,ras,hx,rs,hlc⟩,gd,ha,hb,hq,k⟩:=h;obtain⟨sd,sR⟩:=gd.ins.size gd.ok;obtain⟨ra,ea,aa,hra⟩:=rs.get ha;obtain⟨rb,eb,ab,hrb⟩:=rs.get hb;refine⟨_,(aC (aP (i:=4) DZ.nd rfl bN (aM bK (aQ a8 (aQ a8 (cB (pv 0) rfl) (pv 1) #[6]) (jG gH aE) #[6]) (aQ a8 (aQ a8 (cB (pv 0) rfl) (pv 2) #[6]) (pv 3) #[6])))
   (aC (aP (i:=5) DZ.nd rfl bN (aM bK (aQ a8 (aQ a8 (cB (pv 0) rfl) (pv 2) #[6]) (jG gH aE) #[6]) (aQ a8 (aQ a8 (cB (pv 0) rfl) (pv 1) #[6]) (pv 3) #[6])))
   (aF (aT (MN (eD jH (pv 4) (pv 5) (aW _)) (jK (kU (eD dE (pv 4) (pv 5) (aW _)) (jK (eD jH (aQ a8 (cB (pv 0) rfl) (pv 1) #[6]) (aQ a8 (cB (pv 0) rfl) (pv 2) #[6]) (aW _)))))))))),?_⟩
  have la:eV (tY m n S a) (-1)=some (.int (S.R a (n+m))):=jU (n+m) _;have lb:eV (tY m n S b) (-1)=some (.int (S.R b (n+m))):=jU (n+m) _;exists _,rfl,x,FR,dx,_,_,rfl,hx,T.cQ.oc.cl,T.cQ.nr,rfl,_,rfl,lr,_,_,_,rfl,rfl,aS.of rs.hr,aa,_,rfl,ra,_,_,_,rfl,rfl,aS.of hra,la;exists _,rfl,x,FR,dx,_,_,rfl,hx,T.cQ.oc.cl,T.cQ.nr,rfl,_,rfl,lr,_,_,_,rfl,rfl,aS.of rs.hr,ab,_,rfl,rb,_,_,_,rfl,rfl,aS.of hrb,bR (by lia),_,_,rfl,rfl,(sR a ha _).mb (sR b hb _);exists _,rfl,x,FR,dx,_,_,rfl,hx,T.cQ.oc.cl,T.cQ.nr,rfl,_,rfl,lr,_,_,_,rfl,rfl,aS.of rs.hr,ab,_,rfl,rb,_,_,_,rfl,rfl,aS.of hrb,lb;exists _,rfl,x,FR,dx,_,_,rfl,hx,T.cQ.oc.cl,T.cQ.nr,rfl,_,rfl,lr,_,_,_,rfl,rfl,aS.of rs.hr,aa,_,rfl,ra,_,_,_,rfl,rfl,aS.of hra,bR (by lia),_,_,rfl,rfl,(sR b hb _).mb (sR a ha _);refine⟨_,rfl,_,rfl,_,_,rfl,rfl,_,rfl,cK (fun z=>?_) (fun z=>?_)⟩
  .rw[decide_eq_true (.inl (of_decide_eq_true z))] at k;exact k
  .have z1:¬S.R a (n+m)*S.R b q<S.R b (n+m)*S.R a q:=fun y=>z (decide_eq_true y);refine⟨_,rfl,_,rfl,rfl,_,rfl,cK (fun z2=>?_) (fun z2=>?_)⟩
   .have e:=V.int.inj (of_decide_eq_true z2);exists _,rfl,x,FR,dx,_,_,rfl,hx,T.cQ.oc.cl,T.cQ.nc,rfl,_,rfl,lc,_,_,_,rfl,rfl,aS.of hlc,bR ha,_,rfl,x,FR,dx,_,_,rfl,hx,T.cQ.oc.cl,T.cQ.nc,rfl,_,rfl,lc,_,_,_,rfl,rfl,aS.of hlc,bR hb,_,_,rfl,rfl;have e2:decide (((S.ch a:Nat):Int)<((S.ch b:Nat):Int))=decide (S.R a (n+m)*S.R b q<S.R b (n+m)*S.R a q\/S.R a (n+m)*S.R b q=S.R b (n+m)*S.R a q/\S.ch a<S.ch b):=by
     refine decide_eq_decide.mpr ⟨fun y=>.inr ⟨e,by lia⟩,fun y=>?_⟩;rcases y with y | ⟨_,y⟩ <;> lia
    rw[<- e2] at k;exact k
   .have e:¬S.R a (n+m)*S.R b q=S.R b (n+m)*S.R a q:=fun y=>z2 (decide_eq_true (congrArg V.int y));rw[decide_eq_false (fun y=>by rcases y with y | ⟨y,_⟩ <;> contradiction)] at k;exact k
def Ht(FR:Addr):Sp:=fun vs H Q _=>∃(m n:Nat) (A:Nat->Nat->Int) (due:Nat->Int) (x lc:Addr) (S:Wg.St) (q:Nat),vs=[.ref x,.int (q:Int)]/\iH FR m n H x lc S/\Good m n A due S/\q<n /\
 ∀H',aH H H'->((∀k,k<m->S.R k q<=0)->Q .non H')/\∀p:Nat,p<m->0<S.R p q->(∀k,k<m->0<S.R k q->Wg.Ah (n+m) q S p k)->Q (.int (p:Int)) H'
def PR(L q:Nat)(S:Wg.St)(i:Nat)(v:V):Prop:=(v = .non/\∀k,k<i->S.R k q<=0)\/∃p:Nat,v = .int (p:Int)/\p<i/\0<S.R p q/\∀k,k<i->0<S.R k q->Wg.Ah L q S p k
theorem wB:aV ["self","column","found","place","row"] ["self","column"] (aI BM):=#[1,2]
theorem Lc(t:Mx K "place_to_leave" "Frame.place_to_leave" BM ["self","column"] f fd)(T:#[4])(DA:#[1,0] 1 ["self","one","other","column"] (Hs FR) fCA):#[1,0] 2 ["self","column"] (Ht FR) f:=by
 refine t.ME wB (fun vs H Q E h=>?_) (fun cdv _A outer s H vs Q E hr h=>?_)
 .obtain⟨m,n,A,due,x,lc,S,q,rfl,_⟩:=h;rfl
 .obtain⟨m,n,A,due,x,lc,S,q,rfl,fo,gd,hq,k⟩:=h;obtain⟨dx,lr,ras,hx,rs,hlc⟩:=id fo;refine⟨_,(aC (aP (i:=2) wB.nd rfl bN dU)
   (aC (cF #[9] rfl (tD #[0] T.k7 (aA (cB (pv 0) rfl) aB)) (fM rfl (bP (aO (i:=3) wB.nd rfl bN) (bP (aO (i:=4) wB.nd rfl bN) dP)))
    (aF (bO (PW.pt (pw_and (aU qR (aQ a8 (pv 4) (pv 1) #[6]) aE (aW _)) (pw_and1 (PW.pt (pw_or (aU sN (pv 2) dU (aW _)) (pw_or1 (bX (g9 (k:=1) cI (pv 0) hr #[1] (aA (pv 3) (aA (pv 2) (aA (pv 1) aB))))))))))) (aF (aP (i:=2) wB.nd rfl bN (pv 3))) aZ)))
   (aF (aT (pv 2))))),?_⟩
  exists _,rfl,x,FR,dx,_,_,rfl,hx,T.cQ.oc.cl,T.cQ.nr,rfl,lr,rfl,⟨_,aS.of rs.hr⟩;refine vC (xs:=ras.map V.ref) (fun i σ H2=>aH H H2/\∃(v:V) (o3 o4:Option V),σ=[some (.ref x),some (.int (q:Int)),some v,o3,o4]/\PR (n+m) q S i v) ⟨.refl _,.non,_,_,rfl,.inl ⟨rfl,fun k' hk'=>by lia⟩⟩ (by rintro i σ H2 _ ⟨s2,_⟩;exact aS.of (s2 _ _ rs.hr)) (fun i y tt σ H2 hy ht z9=>?_) (fun σ H2 z9=>?_)
  .obtain⟨s2,v,o3,o4,eσ,fn⟩:=z9;subst eσ;obtain⟨r,er,rfl⟩:=dB hy;have hi:i<m:=by
    obtain⟨z,_⟩:=List.getElem?_eq_some_iff.mp er;rw[rs.len] at z;exact z
   have u2:=aH.aG (o:=.tup [.int (i:Int),.ref r]) ht;have e2:upd H2 tt (.tup [.int (i:Int),.ref r]) tt=some (.tup [.int (i:Int),.ref r]):=aD;generalize upd H2 tt (.tup [.int (i:Int),.ref r])=H3 at u2 e2|-;have s3:=s2.trans u2;exists tt,_,rfl,cE.of e2,rfl,_,_,rfl,_,_,rfl,rfl;have goOn:∀(v':V),(∀w',v'=w'->True)->PR (n+m) q S (i+1) v'->aH H H3/\∃(v:V) (o3 o4:Option V),[some (V.ref x),some (V.int (q:Int)),some v',some (V.int (i:Int)),some (V.ref r)]=[some (.ref x),some (.int (q:Int)),some v,o3,o4]/\PR (n+m) q S (i+1) v:=fun v' _ h=>⟨s3,v',_,_,rfl,h⟩;refine⟨_,rfl,_,rfl,r,_,_,_,rfl,rfl,aS.of (s3 _ _ (rs.at_ i r er)),bR (by lia),_,_,rfl,rfl,_,rfl,cK (fun z=>?_) (fun z=>?_)⟩
   .have pos:0<S.R i q:=of_decide_eq_true z;rcases fn with ⟨rfl,no⟩ | ⟨p,rfl,hp,pp,ah⟩
    .refine⟨_,rfl,rfl,_,rfl,iY ?_⟩;refine⟨_,rfl,goOn _ (fun _ _=>trivial) (.inr ⟨i,rfl,by lia,pos,fun k' hk' pk=>?_⟩)⟩;by_cases e:k'=i
     .rw[e];exact .refl _
     .have:=no k' (by lia);lia
    .refine⟨_,rfl,rfl,_,rfl,cM ?_⟩;exists _,rfl,x,FR,dx,_,fCA,_,rfl,s3 _ _ hx,rfl,T.cQ.oc.cl,T.cQ.QK,⟨_,DA⟩;exists _,rfl,_,rfl,_,rfl,m,n,A,due,x,lc,S,i,p,q,rfl,fo.same s3,gd,hi,by lia,hq;refine⟨_,rfl,cK (fun y=>?_) (fun y=>?_)⟩
     .refine⟨_,rfl,goOn _ (fun _ _=>trivial) (.inr ⟨i,rfl,by lia,pos,fun k' hk' pk=>?_⟩)⟩;by_cases e:k'=i
      .rw[e];exact .refl _
      .exact .trans pos pp pk (.of (of_decide_eq_true y)) (ah k' (by lia) pk)
     .refine goOn _ (fun _ _=>trivial) (.inr ⟨p,rfl,by lia,pp,fun k' hk' pk=>?_⟩);by_cases e:k'=i
      .rw[e];exact .JB (fun z=>y (decide_eq_true z))
      .exact ah k' (by lia) pk
   .have le:S.R i q<=0:=by
     have:¬(0<S.R i q):=fun y=>z (decide_eq_true y);lia
    refine goOn _ (fun _ _=>trivial) ?_;rcases fn with ⟨rfl,no⟩ | ⟨p,rfl,hp,pp,ah⟩
    .refine .inl ⟨rfl,fun k' hk'=>?_⟩;by_cases e:k'=i
     .rw[e];exact le
     .exact no k' (by lia)
    .refine .inr ⟨p,rfl,by lia,pp,fun k' hk' pk=>?_⟩;by_cases e:k'=i
     .rw[e] at pk;lia
     .exact ah k' (by lia) pk
  .obtain⟨s2,v,o3,o4,eσ,fn⟩:=z9;subst eσ;rw[qAa,rs.len] at fn;exists _,rfl;rcases fn with ⟨rfl,no⟩ | ⟨p,rfl,hp,pp,ah⟩
   .exact(k H2 s2).1 no
   .exact(k H2 s2).2 p hp pp ah
def Hu(FR:Addr):Sp:=fun vs H Q _=>∃(m n:Nat) (A:Nat->Nat->Int) (due:Nat->Int) (c:Nat->Int) (x lc pg:Addr) (S:Wg.St),vs=[.ref x,.ref pg]/\iH FR m n H x lc S/\Good m n A due S/\(∀k,k<m->0<=S.R k (n+m))/\BX m n c H pg/\pg≠lc /\
 ∀(S':Wg.St) (H':Hp),oB x lc H H'->iH FR m n H' x lc S'->Good m n A due S'->(∃T st p q,Wg.Run m n (n+m) (Wg.gK m n A due) c T st p q/\st 0=S/\st T=S') ->
  ((∀j,j<n->S'.red m c j<=0)->Q .non H')/\∀q:Nat,q<n->0<S'.red m c q->(∀k,k<m->S'.R k q<=0)->Q (.int (q:Int)) H'
def PU(m n:Nat)(c:Nat->Int)(S:Wg.St)(v:V):Prop:=(v = .non/\∀j,j<n->S.red m c j<=0)\/∃q:Nat,v = .int (q:Int)/\q<n/\0<S.red m c q/\∀j,j<q->S.red m c j<=0
theorem Ai:aV ["frame","gains","column","place"] ["frame","gains"] (aI JM):=#[1,2]
theorem Ld(t:Tx K mg "climb" JM ["frame","gains"] f fd)(T:#[4])(DC:#[1,0] 2 ["self","gains"] (DY FR) fCC)(DP:#[1,0] 2 ["self","column"] (Ht FR) fPL)(DH:#[1,0] 2 ["self","place","column"] (DX FR) fCh):
  #[5] 3 "climb" ["frame","gains"] (Hu FR) f fd:=by
 refine t.gO Ai (fun vs H Q E h=>?_) (fun cdv _A outer s H vs Q E hr h=>?_)
 .obtain⟨m,n,A,due,c,x,lc,pg,S,rfl,_⟩:=h;rfl
 .obtain⟨m,n,A,due,c,x,lc,pg,S,rfl,fo,gd,fe,gn,npl,k⟩:=h;have hch:=gd.ch;refine⟨_,(aC (aP (i:=2) Ai.nd rfl bN (g9 (k:=2) cI (pv 0) hr #[1] (aA (pv 1) aB)))
   (aC (iV #[9] (aU zF (pv 2) dU (aW _))
    (aC (aP (i:=3) Ai.nd rfl bN (g9 (k:=2) cI (pv 0) hr #[1] (aA (pv 2) aB)))
    (aC (bO (aU sN (pv 3) dU (aW _)) (aF (aT (pv 2))) aZ)
    (aC (dO (g9 (k:=2) cI (pv 0) hr #[1] (aA (pv 3) (aA (pv 2) aB))))
    (aF (aP (i:=2) Ai.nd rfl bN (g9 (k:=2) cI (pv 0) hr #[1] (aA (pv 1) aB))))))))
   (aF (aT dU)))),?_⟩
  have ask:∀{S1:Wg.St}{H1:Hp}{R:VK}{E':XK},iH FR m n H1 x lc S1->Good m n A due S1->BX m n c H1 pg->(∀v H2,aH H1 H2->PU m n c S1 v->R v H2)->DY FR [.ref x,.ref pg] H1 R E':=fun {S1 H1 R E'} f1 g1 n1 kk =>
   ⟨m,n,A,due,c,x,lc,pg,S1,rfl,f1,g1,n1,fun H2 s2=>⟨fun no=>kk _ H2 s2 (.inl ⟨rfl,no⟩),fun q hq pos le=>kk _ H2 s2 (.inr ⟨q,rfl,hq,pos,le⟩)⟩⟩
  obtain⟨dx,lr,ras,hx,rs,hlc⟩:=id fo;refine⟨_,rfl,x,FR,dx,_,fCC,_,rfl,hx,rfl,T.cQ.oc.cl,T.cQ.Qp,⟨_,DC⟩,_,rfl,?_⟩;dsimp only[iR];refine ask fo gd gn fun v0 H1 s1 nx0=>?_;refine⟨fun mm σ H2=>∃(TT:Nat) (st:Nat->Wg.St) (p q:Nat->Nat) (v:V) (o:Option V),Wg.Run m n (n+m) (Wg.gK m n A due) c TT st p q/\st 0=S/\mm=(n+m)^m-TT/\oB x lc H H2/\iH FR m n H2 x lc (st TT)/\Good m n A due (st TT)/\σ=[some (.ref x),some (.ref pg),some v,o]/\PU m n c (st TT) v,
   ⟨_,0,fun _=>S,fun _=>0,fun _=>0,v0,none,.none gd.ok fe,rfl,rfl,Hl s1 x lc,fo.same s1,gd,rfl,nx0⟩,?_⟩
  rintro mm σ H2 ⟨TT,st,p,q,v,o,run,e0,rfl,sb,f2,g2,rfl,nx⟩;have hpx:pg≠x:=kJ gn.hg hx (by intro z;cases z);have gn2:BX m n c H2 pg:=⟨sb _ _ hpx npl gn.hg,gn.sz⟩;obtain⟨dx2,lr2,ras2,hx2,rs2,hlc2⟩:=id f2;exists _,rfl,rfl,_,rfl;rcases nx with ⟨rfl,no⟩ | ⟨q0,rfl,hq0,pos,le⟩
  .exact cM ((k (st TT) H2 sb f2 g2 ⟨TT,st,p,q,run,e0,rfl⟩).1 no)
  .refine iY ⟨fun σ' H'=>∃(TT':Nat) (st':Nat->Wg.St) (p' q':Nat->Nat) (v:V) (o:Option V),Wg.Run m n (n+m) (Wg.gK m n A due) c TT' st' p' q'/\st' 0=S/\TT'=TT+1/\oB x lc H H'/\iH FR m n H' x lc (st' TT')/\Good m n A due (st' TT')/\σ'=[some (.ref x),some (.ref pg),some v,o]/\PU m n c (st' TT') v,?_,?_⟩
   .rintro σ' H' ⟨TT',st',p',q',v,o,run',e0',rfl,sb',f',g',eσ,nx'⟩;have z:=run'.ends (N:=n+m) (by lia) (by rw[e0'];exact hch);exact⟨_,by lia,TT+1,st',p',q',v,o,run',e0',rfl,sb',f',g',eσ,nx'⟩
   .refine⟨_,rfl,x,FR,dx2,_,fPL,_,rfl,hx2,rfl,T.cQ.oc.cl,T.cQ.QL,⟨_,DP⟩,_,rfl,m,n,A,due,x,lc,st TT,q0,rfl,f2,g2,hq0,fun H3 s3=>⟨fun no=>?_,fun p0 hp0 pp ah=>?_⟩⟩
    .refine⟨_,rfl,rfl,_,rfl,iY ⟨_,rfl,?_⟩⟩;exact(k (st TT) H3 (sb.then s3) (f2.same s3) g2 ⟨TT,st,p,q,run,e0,rfl⟩).2 q0 hq0 pos no
    .have go:Wg.Goes m n (n+m) c (st TT) p0 q0:=⟨hq0,pos,le,hp0,pp,ah⟩;obtain⟨st',p',q',run',e0',e1'⟩:=run.more go;have g3:Good m n A due ((st TT).next p0 q0):=g2.next hp0 hq0 (by lia);refine⟨_,rfl,rfl,_,rfl,cM ?_⟩;have hx3:=s3 _ _ hx2;refine⟨_,rfl,x,FR,dx2,_,fCh,_,rfl,hx3,rfl,T.cQ.oc.cl,T.cQ.Qo,⟨_,DH⟩,_,rfl,_,rfl,m,n,A,due,x,lc,st TT,p0,q0,rfl,f2.same s3,g2,hp0,hq0,by lia,fun H4 s4 f4=>?_⟩;obtain⟨dx4,lr4,ras4,hx4,rs4,hlc4⟩:=id f4;have sb4:=(sb.then s3).trans s4;exists _,rfl,x,FR,dx4,_,fCC,_,rfl,hx4,rfl,T.cQ.oc.cl,T.cQ.Qp,⟨_,DC⟩,_,rfl;dsimp only[iR];refine ask f4 g3 ⟨sb4 _ _ hpx npl gn.hg,gn.sz⟩ fun v5 H5 s5 nx5=>?_;exists TT+1,st',p',q',v5,_,run',e0'.trans e0,rfl,sb4.then s5,?_,?_,rfl
     .rw[e1'];exact f4.same s5
     .rw[e1'];exact g3
     .rw[e1'];exact nx5
noncomputable def uI(m n:Nat)(S:Wg.St):List Nat:=(qAk m).filter fun k=>decide (n<=S.ch k)
theorem mD:k∈uI m n S↔k<m/\n<=S.ch k:=by
 delta uI;rw[qKt,List.mem_range,decide_eq_true_iff]
noncomputable def a9(ks:List Nat):List V:=ks.map fun(k:Nat)=>V.int (k:Int)
theorem Aj{ks:List Nat}{i:Nat}{v:V}(h:(a9 ks)[i]?=some v):∃k,ks[i]?=some k/\v = .int (k:Int):=by
 delta a9 at h;rw[qAn] at h;cases e:ks[i]? with
 | none=>rw[e] at h;cases h
 | some a=>rw[e] at h;exact⟨a,rfl,(Option.some.inj h).symm⟩
def Ea(FR:Addr):Sp:=fun vs H Q _=>∃(m n:Nat) (A:Nat->Nat->Int) (due:Nat->Int) (x lc:Addr) (S:Wg.St),vs=[.ref x]/\iH FR m n H x lc S/\Good m n A due S/\∀D H',H D=none->aH H H'->H' D=some (.lst (a9 (uI m n S)))->Q (.ref D) H'
theorem NW:aV ["frame"] ["frame"] (aI JN):=#[1,2]
theorem Le(t:Tx K mg "spare_places" JN ["frame"] f fd)(T:#[4]):#[5] 1 "spare_places" ["frame"] (Ea FR) f fd:=by
 refine t.gO NW (fun vs H Q E h=>?_) (fun cdv _A outer s H vs Q E hr h=>?_)
 .obtain⟨m,n,A,due,x,lc,S,rfl,_⟩:=h;rfl
 .obtain⟨m,n,A,due,x,lc,S,rfl,⟨dx,lr,ras,hx,rs,hlc⟩,gd,k⟩:=h;have m8:=gd.ins.m8;refine⟨_,(aF (aT (bM (NB:=["place","column","frame"]) (pick:=[none,none,some 0]) (bG #[7] (by exact(And.intro rfl trivial)) rfl #[2] #[2] #[0] #[0]) rfl
     (tD #[0] T.k7 (aA (cB (pv 0) rfl) aB)) (fun _ _ _=>(show PG _ _ (sI K 2 (fZ (aX 0) (fZ (aX 1) sE))) from fM rfl (bP (aO (i:=0) #[8,["place","column","frame"]] rfl bN) (bP (aO (i:=1) #[8,["place","column","frame"]] rfl bN) dP))))
     (fun _ _ _=>eF (aU zE (pv 1) (lR K (pv 2) rfl) (aW _))) (fun _ _ _=>(pv 0))))),?_⟩
  exists _,rfl,x,FR,dx,_,_,rfl,hx,T.cQ.oc.cl,T.cQ.nc,rfl,lc,rfl,⟨_,aS.of hlc⟩;refine xV (xs:=uH m S) (fun σ'=>∃o0 o1:Option V,σ'=[o0,o1,some (.ref x)]) (fun k' _=>if n<=S.ch k' then some (.int (k':Int)) else none) ⟨_,_,rfl⟩ (aS.of hlc) (by delta uH;rw[aL];exact qAo (aK (by lia))) (fun i y tt σ1 H2 kk kk0 hσ s2 hy ht h1 h2=>?_) fun D H2 hD s2 hd=>?_
  .obtain⟨o0,o1,rfl⟩:=hσ;obtain⟨hi,rfl⟩:=eQ hy;exists tt,_,rfl,cE.of ht,rfl,_,_,rfl,_,_,rfl,rfl;refine⟨_,rfl,_,rfl,x,FR,dx,_,_,rfl,s2 _ _ hx,T.cQ.oc.cl,T.cQ.nm,rfl,_,_,rfl,rfl,_,rfl,cK (fun z=>?_) (fun z=>?_)⟩
   .have z':n<=S.ch i:=by have:((n:Nat):Int)<=((S.ch i:Nat):Int):=of_decide_eq_true z;lia
    exact⟨_,rfl,h1 _ _ ⟨_,_,rfl⟩ (if_pos z') _ (.refl _)⟩
   .have z':¬n<=S.ch i:=fun y=>z (decide_eq_true (by show((n:Nat):Int)<=((S.ch i:Nat):Int);lia));exact h2 _ ⟨_,_,rfl⟩ (if_neg z') _ (.refl _)
  .refine k D H2 hD s2 ?_;rw[hd];have e:(uH m S).length=m:=aL _ _;rw[e];congr 2;delta a9 uI;rw[<- qGj,qMd];refine dI fun i hi=>?_;rw[qAc (by rw[e];exact List.mem_range.mp hi)];show(if n<=S.ch i then some (V.int (i:Int)) else none)=if decide (n<=S.ch i)=true then some (V.int (i:Int)) else none;by_cases z:n<=S.ch i
   .rw[if_pos z,if_pos (decide_eq_true z)]
   .rw[if_neg z,if_neg (fun y=>z (of_decide_eq_true y))]
def Hv(FR:Addr):Sp:=fun vs H Q _=>∃(m n:Nat) (A:Nat->Nat->Int) (due:Nat->Int) (x lc:Addr) (S:Wg.St),vs=[.ref x]/\iH FR m n H x lc S/\Good m n A due S/\(∀k,k<m->0<=S.R k (n+m))/\(∀k,k<m->n<=S.ch k->S.R k (n+m)=0) /\
 ∀(S':Wg.St) (H':Hp),oB x lc H H'->iH FR m n H' x lc S'->Good m n A due S'->(∀k,k<m->0<=S'.R k (n+m))->Wg.Clean m n S'->Q .non H'
structure Lg (m n:Nat) (S:Wg.St) (ps:List Nat):Prop where
 fe:∀k,k<m->0<=S.R k (n+m)
 z0:∀k,k<m->n<=S.ch k->S.R k (n+m)=0
 Gi:∀k∈ps,k<m/\n<=S.ch k
 done:∀k,k<m->n<=S.ch k->k∉ps->∀j,j<n->S.R k j=0
 nd:ps.Nodup
theorem Lg.skip(h:Lg m n S (p::ps))(r0:∀j,j<n->S.R p j=0):Lg m n S ps :=
 ⟨h.fe,h.z0,fun k hk=>h.Gi k (qBr _ hk),fun k hk sp no=>by
  by_cases e:k=p
  .rw[e];exact r0
  .exact h.done k hk sp (fun z=>by rcases List.mem_cons.mp z with y | y <;> contradiction),(List.nodup_cons.mp h.nd).2⟩
theorem Lg.go(h:Lg m n S (p::ps))(ok:S.ok m M)(hq:q<n)(nz:S.R p q≠0):Lg m n (S.next p q) ps:=by
 obtain⟨hp,spp⟩:=h.Gi p (qCi ..);obtain⟨z1,z2⟩:=Wg.BC ok hp nz (h.z0 p hp spp) h.fe;have nd:=List.nodup_cons.mp h.nd;have back:∀k,n<=(S.next p q).ch k->k≠p/\n<=S.ch k:=fun k sp=>by
  have ne:k≠p:=fun e=>by rw[e,Wg.St.hV] at sp;lia
  rw[Wg.St.fQ ne] at sp;exact⟨ne,sp⟩
 refine⟨z1,fun k hk sp=>z2 k hk (h.z0 k hk (back k sp).2),fun k hk=>?_,fun k hk sp no=>?_,nd.2⟩
 .obtain⟨a,b⟩:=h.Gi k (qBr _ hk);have ne:k≠p:=fun e=>nd.1 (e▸hk);exact⟨a,by rw[Wg.St.fQ ne];exact b⟩
 .obtain⟨ne,sp'⟩:=back k sp;exact Wg.DB ok hp hq nz hk ne (h.done k hk sp' (fun z=>by rcases List.mem_cons.mp z with y | y <;> contradiction))
noncomputable def NX(n:Nat)(f:Nat->Int):List Nat:=(qAk n).filter fun j=>decide (f j≠0)
theorem Eb:aV ["frame","place","others"] ["frame"] (aI JO):=#[1,2]
theorem Lh{f1:Addr}{fd1:qCo}(t:Tx K mg "leave_spares" JO ["frame"] f fd)(T:#[4])(D_spare_places:#[5] 1 "spare_places" ["frame"] (Ea FR) f1 fd1)(DH:#[1,0] 2 ["self","place","column"] (DX FR) fCh):
  #[5] 3 "leave_spares" ["frame"] (Hv FR) f fd:=by
 refine t.gO Eb (fun vs H Q E h=>?_) (fun cdv _A outer s H vs Q E hr h=>?_)
 .obtain⟨m,n,A,due,x,lc,S,rfl,_⟩:=h;rfl
 .obtain⟨m,n,A,due,x,lc,S,rfl,fo,gd,fe,z0,k⟩:=h;have pP:=gd.ins.pP;refine⟨_,(aF (cF #[9] rfl (bL (aY D_spare_places hr #[1] #[0] (aA (pv 0) aB))) (aO (i:=1) Eb.nd rfl #[3])
    (aC (eJ (NB:=["column","frame","place"]) (pick:=[none,some 0,some 1]) (i:=2) Eb.nd rfl bN #[0] (bG #[7] (by exact(And.intro rfl (And.intro rfl trivial))) rfl #[2] #[2] #[0] #[0]) rfl
     (bY #[0] T.bW (aA (cB (pv 0) rfl) aB)) (fun _ _ _=>aO (i:=0) #[8,["column","frame","place"]] rfl bN)
     (fun _ _ _=>eF (aU fI (aQ (bU K) (aQ (bU K) (lR K (pv 1) rfl) (pv 2) #[6]) (pv 0) #[6]) aE (aW _))) (fun _ _ _=>(pv 0)))
    (aF (bO (aU qR (aJ aN #[0] T.bV bH (aA (pv 2) aB)) aE (aW _)) (aF (dO (g9 (k:=2) cI (pv 0) hr #[1] (aA (pv 1) (aA (aQ a8 (pv 2) aE #[6]) aB))))) aZ))))),?_⟩
  refine⟨_,rfl,m,n,A,due,x,lc,S,rfl,fo,gd,fun D H1 hD s1 hd=>⟨D,rfl,⟨_,aS.of hd⟩,?_⟩⟩;obtain⟨dx0,lr0,ras0,hx0,rs0,hlc0⟩:=id fo;have nDx:D≠x:=fun z=>by rw[z,hx0] at hD;cases hD
  have nDl:D≠lc:=fun z=>by rw[z,hlc0] at hD;cases hD
  refine dX (xs:=a9 (uI m n S)) (fun i σ H2=>∃(S2:Wg.St) (o1 o2:Option V),σ=[some (.ref x),o1,o2]/\oB x lc H1 H2/\iH FR m n H2 x lc S2/\Good m n A due S2/\Lg m n S2 ((uI m n S).drop i)) ⟨S,_,_,rfl,.refl _,fo.same s1,gd,⟨fe,z0,fun k' hk'=>mD.mp hk',fun k' hk' sp no=>absurd (mD.mpr ⟨hk',sp⟩) no,List.nodup_range.filter _⟩⟩ (by rintro i σ H2 _ ⟨S2,o1,o2,_,sb,_⟩;exact aS.of (sb _ _ nDx nDl hd)) (fun i y σ H2 hy z9=>?_) (fun σ H2 z9=>?_)
  .obtain⟨S2,o1,o2,eσ,sb,f2,g2,lv⟩:=z9;subst eσ;obtain⟨p,ep,rfl⟩:=Aj hy;obtain⟨hi,ep'⟩:=List.getElem?_eq_some_iff.mp ep;rw[List.drop_eq_getElem_cons hi,ep'] at lv;obtain⟨hp,spp⟩:=lv.Gi p (qCi ..);obtain⟨dx,lr,ras,hx,rs,hlc⟩:=id f2;obtain⟨rp,erp,arp,hrp⟩:=rs.get hp;refine⟨_,rfl,x,FR,dx,_,_,rfl,hx,T.cQ.oc.cl,T.cQ.nm,rfl,n,rfl,by lia,by lia,?_⟩;refine fN (n:=n) (fun j=>if S2.R p j≠0 then some (.int (j:Int)) else none) (qAo (aK (by lia))) (fun j H3 kk kk0 s3 hj g1 g2=>?_) fun D2 H3 hD2 s3 hd2=>?_
   .refine⟨_,rfl,x,FR,dx,_,_,rfl,s3 _ _ hx,T.cQ.oc.cl,T.cQ.nr,rfl,_,rfl,lr,_,_,_,rfl,rfl,aS.of (s3 _ _ rs.hr),arp,_,rfl,rp,_,_,_,rfl,rfl,aS.of (s3 _ _ hrp),(show eV (tY m n S2 p) (0+(j:Int))=some (.int (S2.R p j)) by rw[qCe];exact bR (by lia)),rfl,_,rfl,cK (fun z=>?_) (fun z=>?_)⟩
    .have z':S2.R p j≠0:=fun y=>by rw[y] at z;exact absurd z #[1]
     exact⟨_,rfl,g1 _ (by rw[if_pos z',qCe]) _ (.refl _)⟩
    .have z':¬S2.R p j≠0:=fun y=>z (by rw[decide_eq_false (fun q=>y (V.int.inj q))];rfl);exact g2 (if_neg z') _ (.refl _)
   .have hd3:H3 D2=some (.lst (a9 (NX n (S2.R p)))):=by
     rw[hd2];congr 2;delta a9 NX;rw[<- qGj,qMd];refine dI fun j hj=>?_;by_cases z:S2.R p j≠0
     .rw[if_pos z,if_pos (decide_eq_true z)];rfl
     .rw[if_neg z,if_neg (fun y=>z (of_decide_eq_true y))]
    exists _,rfl,D2,_,rfl,.inl (aS.of hd3),_,_,rfl,rfl,_,rfl;cases en:NX n (S2.R p) with
    | nil =>
     rw[en] at hd3;refine cK (fun z=>absurd z #[1]) (fun _=>⟨S2,_,_,rfl,sb.then s3,f2.same s3,g2,lv.skip fun j hj=>qBd fun nz=>?_⟩);have:j∈NX n (S2.R p):=List.mem_filter.mpr ⟨List.mem_range.mpr hj,decide_eq_true nz⟩;rw[en] at this;cases this
    | cons q qs =>
     rw[en] at hd3;have hqm:q∈NX n (S2.R p):=by rw[en];exact qCi ..
     obtain⟨hq,nz⟩:=List.mem_filter.mp hqm;have hq:=List.mem_range.mp hq;have nz:S2.R p q≠0:=of_decide_eq_true nz;refine cK (fun _=>?_) (fun z=>absurd (decide_eq_true (by show(0:Int)<(((a9 (q::qs)).length:Nat):Int);exact Int.natCast_pos.mpr (qPq _))) z);refine⟨_,rfl,x,FR,dx,_,fCh,_,rfl,s3 _ _ hx,rfl,T.cQ.oc.cl,T.cQ.Qo,⟨_,DH⟩,_,rfl,_,rfl,D2,_,_,_,rfl,rfl,aS.of hd3,(show eV (a9 (q::qs)) ((0:Nat):Int)=some (.int (q:Int)) from fA rfl),m,n,A,due,x,lc,S2,p,q,rfl,f2.same s3,g2,hp,hq,nz,fun H4 s4 f4=>?_⟩;exact⟨S2.next p q,_,_,rfl,(sb.then s3).trans s4,f4,g2.next hp hq nz,lv.go g2.ok hq nz⟩
  .obtain⟨S2,o1,o2,eσ,sb,f2,g2,lv⟩:=z9;subst eσ;have el:(a9 (uI m n S)).length=(uI m n S).length:=by delta a9;rw[qAa]
   rw[el,qOb] at lv;exact k S2 H2 ((Hl s1 x lc).trans sb) f2 g2 lv.fe fun k' hk' sp=>⟨lv.z0 k' hk' sp,lv.done k' hk' sp (qDe)⟩
noncomputable abbrev gC(a d:Int):HO:=.tup [.int (a.fdiv (dv a d)),.int (d.fdiv (dv a d))]
theorem wC(h:0<d):gC 0 d = .tup [.int 0,.int 1]:=by
 have e:dv 0 d=d:=by
  delta dv;rw[if_neg (by lia),Int.gcd_zero_left];lia
 delta gC;rw[e,Int.zero_fdiv,qPm (by lia)]
theorem Gj(h:0<d):gC d d = .tup [.int 1,.int 1]:=by
 have e:dv d d=d:=by
  delta dv;rw[if_neg (by lia),Int.gcd_self];lia
 delta gC;rw[e,qPm (by lia)]
structure kC (n:Nat) (X:Nat->Int) (d:Int) (H:Hp) (l:Addr) (ws:List Addr):Prop where
 hr:H l=some (.lst (ws.map V.ref))
 len:ws.length=n
 at_:∀j w,ws[j]?=some w->H w=some (gC (X j) d)
theorem kC.same(h:kC n X d H l ws)(s:aH H H'):kC n X d H' l ws:=⟨s _ _ h.hr,h.len,fun j w e=>s _ _ (h.at_ j w e)⟩
theorem kC.ext(h:kC n X d H l ws)(e:∀j,j<n->X j=Y j):kC n Y d H l ws:=⟨h.hr,h.len,fun j w ej=>by
 obtain⟨z,_⟩:=List.getElem?_eq_some_iff.mp ej;rw[<- e j (by rw[<- h.len];exact z)];exact h.at_ j w ej⟩
theorem kC.put(h:kC n X d H l ws){o:HO}{q:Nat}{a:Int}(ho:o=gC a d)(hp:H p=none):kC n (fun j=>if j=q then a else X j) d (upd (upd H p o) l (.lst ((ws.map V.ref).set q (.ref p)))) l (ws.set q p):=by
 have npl:p≠l:=fun z=>by rw[z,h.hr] at hp;cases hp
 refine⟨by rw[aD,qMb],by rw[qIf];exact h.len,fun j w e=>?_⟩;rw[qHr] at e;by_cases ej:q=j
 .rw[if_pos ej] at e;by_cases ql:q<ws.length
  .rw[if_pos ql] at e;cases e;rw[aR npl,aD,if_pos ej.symm,ho]
  .rw[if_neg ql] at e;cases e
 .rw[if_neg ej] at e;have z:=h.at_ j w e;have n1:w≠l:=kJ z h.hr (by intro z;cases z);have n2:w≠p:=bE z hp;rw[aR n1,aR n2,if_neg (fun y=>ej y.symm)];exact z
theorem Li(a:Int)(hb:b≠0)(z:kX (.int a)=false\/kX (.int b)=false\/V.int b = .int 0):False:=by
 rcases z with z | z | z
 .cases z
 .cases z
 .exact hb (V.int.inj z)
theorem pR(hb:b≠0)(sb:Sm 8000 b)(k:∀p,H p=none->R (.ref p) (upd H p (gC a b))):tU K NN [.int a,.int b] H R E :=
 ⟨_,_,rfl,.int _,.int _,fun z=>(Li a hb z).elim,fun a' b' h1 h2 _=>by
  cases h1
  cases h2
  exact⟨sb,k⟩⟩
theorem oN(ok:S.ok m M)(hi:i<m)(f:Nat->Int)(j:Nat):Wg.wt (i+1) f S j=if j=S.ch i then f i else Wg.wt i f S j:=by
 show Wg.wt i f S j+(if S.ch i=j then f i else 0)=_;by_cases e:j=S.ch i
 .rw[if_pos e,if_pos e.symm,Wg.Hi f fun k hk z=>?_,qCe];have:=Wg.Fr.inj ok (by lia) hi (z.trans e);lia
 .rw[if_neg e,if_neg (fun z=>e z.symm),qDn]
theorem wD(n:Nat)(t:Addr):(qBk n [V.ref t]).flatten=(qBk n t).map V.ref:=by
 induction n with
 | zero=>rfl
 | succ n ih=>rw[qEb,qFj,ih,qEb];rfl
theorem gD(n:Nat)(v:Int):(qBk n [V.int v]).flatten=bF n fun _=>v:=by
 delta bF;induction n with
 | zero=>rfl
 | succ n ih =>
  rw[qEb,qFj,ih];refine qEn fun i=>?_;cases i with
  | zero=>rw[qAn,qCw (by lia)];rfl
  | succ i =>
   show((qAk n).map fun _=>V.int v)[i]?=_;rw[qAn,qAn];rcases qAm i n with h | h
   .rw[qCw h,qCw (by lia)];rfl
   .rw[qAv (by rw[qAu];exact h),qAv (by rw[qAu];lia)]
def Hw(FR:Addr):Sp:=fun vs H Q _=>∃(m n:Nat) (A:Nat->Nat->Int) (due:Nat->Int) (x lc:Addr) (S:Wg.St),vs=[.ref x]/\iH FR m n H x lc S/\Good m n A due S /\
 ∀(l:Addr) (ws:List Addr) (H':Hp),H l=none->aH H H'->kC n (Wg.wt m (fun k=>S.R k (n+m)) S) S.d H' l ws->Q (.ref l) H'
theorem Ak:aV ["frame","weights","column","row"] ["frame"] (aI JP):=#[1,2]
theorem Lj(t:Tx K mg "weights_of" JP ["frame"] f fd)(T:#[4])(D_fraction:#[1,1] 2 "fraction" ["top","bottom"] (tU K NN) f1 fd1):#[5] 3 "weights_of" ["frame"] (Hw FR) f fd:=by
 refine t.gO Ak (fun vs H Q E h=>?_) (fun cdv _A outer s H vs Q E hr h=>?_)
 .obtain⟨m,n,A,due,x,lc,S,rfl,_⟩:=h;rfl
 .obtain⟨m,n,A,due,x,lc,S,rfl,⟨dx,lr,ras,hx,rs,hlc⟩,gd,k⟩:=h;have m8:=gd.ins.m8;have pP:=gd.ins.pP;have d0:=Wg.Fr.pos gd.ok;obtain⟨sd,sR⟩:=gd.ins.size gd.ok;refine⟨_,(aC (aP (i:=1) Ak.nd rfl bN (aM gI (bQ (aA (dN (aA aE (aA aE aB))) aB)) (cB (pv 0) rfl)))
   (aC (cF #[9] rfl (g8 #[0] T.hZ (aA (cB (pv 0) rfl) (aA (cB (pv 0) rfl) aB))) (fM rfl (bP (aO (i:=2) Ak.nd rfl bN) (bP (aO (i:=3) Ak.nd rfl bN) dP)))
    (aF (bO (aU jH (pv 2) (cB (pv 0) rfl) (aW _)) (aF (gG (fS cI D_fraction hr #[1] #[0] (aA (aQ a8 (pv 3) (jG gH aE) #[6]) (aA (cB (pv 0) rfl) aB))) (gF (pv 1) (pv 2) set_list))) aZ)))
   (aF (aT (pv 1))))),?_⟩
  refine⟨qE,fun t0 ht0=>⟨kE,fun l0 hl0=>?_⟩⟩;have u0:=aH.aG (o:=.tup [.int 0,.int 1]) ht0;have e0:upd H t0 (.tup [.int 0,.int 1]) t0=some (.tup [.int 0,.int 1]):=aD;generalize upd H t0 (.tup [.int 0,.int 1])=H0 at u0 e0 hl0|-;have u1:=aH.aG (o:=.lst [.ref t0]) hl0;have e1:upd H0 l0 (.lst [.ref t0]) l0=some (.lst [.ref t0]):=aD;generalize upd H0 l0 (.lst [.ref t0])=H1 at u1 e1|-;have s1:=u0.trans u1;refine⟨_,rfl,x,FR,dx,_,_,rfl,s1 _ _ hx,T.cQ.oc.cl,T.cQ.nm,rfl,l0,_,_,rfl,rfl,e1,by lia,by lia,?_,fun l hl=>?_⟩
  .show 1*((n:Int)).toNat<=qAi;exact qAo (aK (by lia))
  rw[qBb,wD];have u2:=aH.aG (o:=.lst ((qBk n t0).map V.ref)) hl;have e2:upd H1 l (.lst ((qBk n t0).map V.ref)) l=_:=aD;have et0:=u2 _ _ (u1 _ _ e0);generalize upd H1 l (.lst ((qBk n t0).map V.ref))=H2 at u2 e2 et0|-;have s2:=s1.trans u2;have hlc2:=s2 _ _ hlc;have hlr2:=s2 _ _ rs.hr;have hx2:=s2 _ _ hx;have nlc:lc≠l:=fun z=>by rw[<- z,s1 _ _ hlc] at hl;cases hl
  have nlr:lr≠l:=fun z=>by rw[<- z,s1 _ _ rs.hr] at hl;cases hl
  have nx:x≠l:=fun z=>by rw[<- z,s1 _ _ hx] at hl;cases hl
  exists _,rfl,x,FR,dx,_,_,rfl,hx2,T.cQ.oc.cl,T.cQ.nc,rfl,_,rfl,x,FR,dx,_,_,rfl,hx2,T.cQ.oc.cl,T.cQ.nr,rfl,lc,lr,rfl,⟨_,aS.of hlc2⟩,⟨_,aS.of hlr2⟩;refine oH (K:=K) (l1:=lc) (l2:=lr) (xs:=uH m S) (ys:=ras.map V.ref) (fun i σ H3=>∃(ws:List Addr) (o2 o3:Option V),σ=[some (.ref x),some (.ref l),o2,o3]/\SameBut l H2 H3/\kC n (Wg.wt i (fun k=>S.R k (n+m)) S) S.d H3 l ws) ⟨qBk n t0,_,_,rfl,(aH.refl _).but l,e2,qIg ..,fun j w e=>?_⟩ (by rintro i σ H3 _ ⟨ws,o2,o3,_,sb,_⟩;exact ⟨aS.of (sb _ _ nlc hlc2),aS.of (sb _ _ nlr hlr2)⟩) (tZ rs) (fun i y1 y2 tt σ H3 hy1 hy2 ht z9=>?_) (fun σ H3 z9=>?_)
  .obtain⟨_,rfl⟩:=List.mem_replicate.mp (qAx e);show _=some (gC 0 S.d);rw[wC d0];exact et0
  .obtain⟨ws,o2,o3,eσ,sb,fl⟩:=z9;subst eσ;obtain⟨hi,rfl⟩:=eQ hy1;obtain⟨r,er,rfl⟩:=dB hy2;have u4:=aH.aG (o:=.tup [.int ((S.ch i:Nat):Int),.ref r]) ht;have e4:upd H3 tt (.tup [.int ((S.ch i:Nat):Int),.ref r]) tt=_:=aD;generalize upd H3 tt (.tup [.int ((S.ch i:Nat):Int),.ref r])=H4 at u4 e4|-;have sb4:=sb.then u4;have fl4:=fl.same u4;exists tt,_,rfl,cE.of e4,rfl,_,_,rfl,_,_,rfl,rfl;refine⟨_,rfl,_,rfl,x,FR,dx,_,_,rfl,sb4 _ _ nx hx2,T.cQ.oc.cl,T.cQ.nm,rfl,_,_,rfl,rfl,_,rfl,cK (fun z=>?_) (fun z=>?_)⟩
   .have hc:S.ch i<n:=by have:((S.ch i:Nat):Int)<((n:Nat):Int):=of_decide_eq_true z;lia
    have hrow:=s2 _ _ (rs.at_ i r er);have nrl:r≠l:=bE (s1 _ _ (rs.at_ i r er)) hl;exists _,rfl,_,rfl,r,_,_,_,rfl,rfl,aS.of (sb4 _ _ nrl hrow),jU (n+m) _,_,rfl,x,FR,dx,_,_,rfl,sb4 _ _ nx hx2,T.cQ.oc.cl,T.cQ.nb,rfl;dsimp only[iR,qCj,qCl];refine pR (by lia) (sd.mono #[1]) fun p hp=>?_;have npl:p≠l:=fun z=>by rw[z,fl4.hr] at hp;cases hp
    refine⟨_,rfl,_,rfl,l,_,_,S.ch i,rfl,rfl,(aR (fun z=>npl z.symm)).trans fl4.hr,by rw[qAa,fl4.len];exact gW hc,?_⟩;refine⟨ws.set (S.ch i) p,_,_,rfl,(sb4.then (.aG hp)).nY _,(fl4.put rfl hp).ext fun j hj=>?_⟩;rw[oN gd.ok hi]
   .have hc:¬S.ch i<n:=fun y=>z (decide_eq_true (by show((S.ch i:Nat):Int)<((n:Nat):Int);lia));refine⟨ws,_,_,rfl,sb4,fl4.ext fun j hj=>?_⟩;rw[oN gd.ok hi,if_neg (by lia)]
  .obtain⟨ws,o2,o3,eσ,sb,fl⟩:=z9;subst eσ;rw[show(uH m S).length=m from aL _ _] at fl;exact⟨_,rfl,k l ws H3 (s1.free hl) (fun b o e=>sb b o (fun z=>by rw[z] at e;rw[s1 _ _ e] at hl;cases hl) (s2 _ _ e)) fl⟩
def Hy(FR:Addr):Sp:=fun vs H Q _=>∃(m n:Nat) (A:Nat->Nat->Int) (due:Nat->Int) (x lc:Addr) (S:Wg.St) (q:Nat),vs=[.ref x,.int (q:Int)]/\iH FR m n H x lc S/\Good m n A due S/\q<n /\
 ∀(l:Addr) (ws:List Addr) (H':Hp),H l=none->aH H H'->kC n (Wg.way m q S) S.d H' l ws->Q (.ref l) H'
theorem Al:aV ["frame","growing","way","column","row"] ["frame","growing"] (aI JR):=#[1,2]
theorem Lk(t:Tx K mg "way_of" JR ["frame","growing"] f fd)(T:#[4])(D_fraction:#[1,1] 2 "fraction" ["top","bottom"] (tU K NN) f1 fd1):#[5] 3 "way_of" ["frame","growing"] (Hy FR) f fd:=by
 refine t.gO Al (fun vs H Q E h=>?_) (fun cdv _A outer s H vs Q E hr h=>?_)
 .obtain⟨m,n,A,due,x,lc,S,q,rfl,_⟩:=h;rfl
 .obtain⟨m,n,A,due,x,lc,S,q,rfl,⟨dx,lr,ras,hx,rs,hlc⟩,gd,hq,k⟩:=h;have m8:=gd.ins.m8;have pP:=gd.ins.pP;have d0:=Wg.Fr.pos gd.ok;obtain⟨sd,sR⟩:=gd.ins.size gd.ok;refine⟨_,(aC (aP (i:=2) Al.nd rfl bN (aM gI (bQ (aA (dN (aA aE (aA aE aB))) aB)) (cB (pv 0) rfl)))
   (aC (cF #[9] rfl (g8 #[0] T.hZ (aA (cB (pv 0) rfl) (aA (cB (pv 0) rfl) aB))) (fM rfl (bP (aO (i:=3) Al.nd rfl bN) (bP (aO (i:=4) Al.nd rfl bN) dP)))
    (aF (bO (aU jH (pv 3) (cB (pv 0) rfl) (aW _)) (aF (gG (fS cI D_fraction hr #[1] #[0] (aA (jG gH (aQ a8 (pv 4) (pv 1) #[6])) (aA (cB (pv 0) rfl) aB))) (gF (pv 2) (pv 3) set_list))) aZ)))
   (aC (gG (dN (aA aE (aA aE aB))) (gF (pv 2) (pv 1) set_list))
   (aF (aT (pv 2)))))),?_⟩
  refine⟨qE,fun t0 ht0=>⟨kE,fun l0 hl0=>?_⟩⟩;have u0:=aH.aG (o:=.tup [.int 0,.int 1]) ht0;have e0:upd H t0 (.tup [.int 0,.int 1]) t0=some (.tup [.int 0,.int 1]):=aD;generalize upd H t0 (.tup [.int 0,.int 1])=H0 at u0 e0 hl0|-;have u1:=aH.aG (o:=.lst [.ref t0]) hl0;have e1:upd H0 l0 (.lst [.ref t0]) l0=some (.lst [.ref t0]):=aD;generalize upd H0 l0 (.lst [.ref t0])=H1 at u1 e1|-;have s1:=u0.trans u1;refine⟨_,rfl,x,FR,dx,_,_,rfl,s1 _ _ hx,T.cQ.oc.cl,T.cQ.nm,rfl,l0,_,_,rfl,rfl,e1,by lia,by lia,?_,fun l hl=>?_⟩
  .show 1*((n:Int)).toNat<=qAi;exact qAo (aK (by lia))
  rw[qBb,wD];have u2:=aH.aG (o:=.lst ((qBk n t0).map V.ref)) hl;have e2:upd H1 l (.lst ((qBk n t0).map V.ref)) l=_:=aD;have et0:=u2 _ _ (u1 _ _ e0);generalize upd H1 l (.lst ((qBk n t0).map V.ref))=H2 at u2 e2 et0|-;have s2:=s1.trans u2;have hlc2:=s2 _ _ hlc;have hlr2:=s2 _ _ rs.hr;have hx2:=s2 _ _ hx;have nlc:lc≠l:=fun z=>by rw[<- z,s1 _ _ hlc] at hl;cases hl
  have nlr:lr≠l:=fun z=>by rw[<- z,s1 _ _ rs.hr] at hl;cases hl
  have nx:x≠l:=fun z=>by rw[<- z,s1 _ _ hx] at hl;cases hl
  exists _,rfl,x,FR,dx,_,_,rfl,hx2,T.cQ.oc.cl,T.cQ.nc,rfl,_,rfl,x,FR,dx,_,_,rfl,hx2,T.cQ.oc.cl,T.cQ.nr,rfl,lc,lr,rfl,⟨_,aS.of hlc2⟩,⟨_,aS.of hlr2⟩;refine oH (K:=K) (l1:=lc) (l2:=lr) (xs:=uH m S) (ys:=ras.map V.ref) (fun i σ H3=>∃(ws:List Addr) (o2 o3:Option V),σ=[some (.ref x),some (.int (q:Int)),some (.ref l),o2,o3]/\SameBut l H2 H3/\kC n (Wg.wt i (fun k=>- S.R k q) S) S.d H3 l ws) ⟨qBk n t0,_,_,rfl,(aH.refl _).but l,e2,qIg ..,fun j w e=>?_⟩ (by rintro i σ H3 _ ⟨ws,o2,o3,_,sb,_⟩;exact ⟨aS.of (sb _ _ nlc hlc2),aS.of (sb _ _ nlr hlr2)⟩) (tZ rs) (fun i y1 y2 tt σ H3 hy1 hy2 ht z9=>?_) (fun σ H3 z9=>?_)
  .obtain⟨_,rfl⟩:=List.mem_replicate.mp (qAx e);show _=some (gC 0 S.d);rw[wC d0];exact et0
  .obtain⟨ws,o2,o3,eσ,sb,fl⟩:=z9;subst eσ;obtain⟨hi,rfl⟩:=eQ hy1;obtain⟨r,er,rfl⟩:=dB hy2;have u4:=aH.aG (o:=.tup [.int ((S.ch i:Nat):Int),.ref r]) ht;have e4:upd H3 tt (.tup [.int ((S.ch i:Nat):Int),.ref r]) tt=_:=aD;generalize upd H3 tt (.tup [.int ((S.ch i:Nat):Int),.ref r])=H4 at u4 e4|-;have sb4:=sb.then u4;have fl4:=fl.same u4;exists tt,_,rfl,cE.of e4,rfl,_,_,rfl,_,_,rfl,rfl;refine⟨_,rfl,_,rfl,x,FR,dx,_,_,rfl,sb4 _ _ nx hx2,T.cQ.oc.cl,T.cQ.nm,rfl,_,_,rfl,rfl,_,rfl,cK (fun z=>?_) (fun z=>?_)⟩
   .have hc:S.ch i<n:=by have:((S.ch i:Nat):Int)<((n:Nat):Int):=of_decide_eq_true z;lia
    have hrow:=s2 _ _ (rs.at_ i r er);have nrl:r≠l:=bE (s1 _ _ (rs.at_ i r er)) hl;exists _,rfl,_,rfl,r,_,_,_,rfl,rfl,aS.of (sb4 _ _ nrl hrow),bR (by lia),_,rfl,_,rfl,x,FR,dx,_,_,rfl,sb4 _ _ nx hx2,T.cQ.oc.cl,T.cQ.nb,rfl;dsimp only[iR,qCj,qCl];refine pR (by lia) (sd.mono #[1]) fun p hp=>?_;have npl:p≠l:=fun z=>by rw[z,fl4.hr] at hp;cases hp
    refine⟨_,rfl,_,rfl,l,_,_,S.ch i,rfl,rfl,(aR (fun z=>npl z.symm)).trans fl4.hr,by rw[qAa,fl4.len];exact gW hc,?_⟩;refine⟨ws.set (S.ch i) p,_,_,rfl,(sb4.then (.aG hp)).nY _,(fl4.put rfl hp).ext fun j hj=>?_⟩;rw[oN gd.ok hi]
   .have hc:¬S.ch i<n:=fun y=>z (decide_eq_true (by show((S.ch i:Nat):Int)<((n:Nat):Int);lia));refine⟨ws,_,_,rfl,sb4,fl4.ext fun j hj=>?_⟩;rw[oN gd.ok hi,if_neg (by lia)]
  .obtain⟨ws,o2,o3,eσ,sb,fl⟩:=z9;subst eσ;rw[show(uH m S).length=m from aL _ _] at fl;refine⟨qE,fun p hp=>?_⟩;have npl:p≠l:=fun z=>by rw[z,fl.hr] at hp;cases hp
   refine⟨_,rfl,_,rfl,l,_,_,q,rfl,rfl,(aR (fun z=>npl z.symm)).trans fl.hr,by rw[qAa,fl.len];exact gW hq,?_⟩;have f5:=fl.put (q:=q) (a:=S.d) (Gj d0).symm hp;refine⟨_,rfl,k l _ _ (s1.free hl) (fun b o e=>?_) (f5.ext fun j hj=>rfl)⟩;have nb:b≠l:=fun z=>by rw[z] at e;rw[s1 _ _ e] at hl;cases hl
   rw[aR nb];exact aH.aG hp _ _ (sb b o nb (s2 _ _ e))
theorem rT{a:Nat}{f:Nat->Int}:∀m,(∀k,k<m->Sm a (f k))->Sm (a+m) (Wg.sm m f)
 | 0,_=>Sm.zero
 | m+1,h=>(rT m fun k hk=>h k (by lia)).add ((h m (by lia)).mono (by lia))
def Hz(FR:Addr):Sp:=fun vs H Q _=>∃(m n:Nat) (A:Nat->Nat->Int) (due:Nat->Int) (c:Nat->Int) (x lc pg pd:Addr) (S:Wg.St),vs=[.ref x,.ref pg,.ref pd]/\iH FR m n H x lc S/\Good m n A due S/\BX m n c H pg/\H pd=some (.lst (bF m due)) /\
 ∀(l:Addr) (ws:List Addr) (H':Hp),H l=none->aH H H'->kC m (fun i=>Wg.sgn (due i)*Wg.fT m n c S i) S.d H' l ws->Q (.ref l) H'
theorem rV:aV ["frame","gains","due","prices","place","number","column","price"] ["frame","gains","due"] (aI JQ):=#[1,2]
theorem Ll(t:Tx K mg "prices_of" JQ ["frame","gains","due"] f fd)(T:#[4])(D_fraction:#[1,1] 2 "fraction" ["top","bottom"] (tU K NN) f1 fd1)(D_sign_of:#[5] 1 "sign_of" ["number"] Ae f2 fd2):#[5] 3 "prices_of" ["frame","gains","due"] (Hz FR) f fd:=by
 refine t.gO rV (fun vs H Q E h=>?_) (fun cdv _A outer s H vs Q E hr h=>?_)
 .obtain⟨m,n,A,due,c,x,lc,pg,pd,S,rfl,_⟩:=h;rfl
 .obtain⟨m,n,A,due,c,x,lc,pg,pd,S,rfl,fo,gd,gn,hpd,k⟩:=h;have m8:=gd.ins.m8;have pP:=gd.ins.pP;have d0:=Wg.Fr.pos gd.ok;obtain⟨sd,sR⟩:=gd.ins.size gd.ok;obtain⟨dx,lr,ras,hx,rs,hlc⟩:=id fo;refine⟨_,(aC (aP (i:=3) rV.nd rfl bN (bQ aB))
   (aC (cF #[9] rfl (tD #[0] T.k7 (aA (pv 2) aB)) (fM rfl (bP (aO (i:=4) rV.nd rfl bN) (bP (aO (i:=5) rV.nd rfl bN) dP)))
    (aC (aP (i:=6) rV.nd rfl #[3] (aM fF (cB (pv 0) rfl) (pv 4)))
    (aC (aP (i:=7) rV.nd rfl bN (aJ (dG rfl) #[0] T.gL gJ (aA (bM (NB:=["chosen","row","column","gains"]) (pick:=[none,none,some 6,some 1]) (bG #[7] (by exact(And.intro rfl (And.intro rfl trivial))) rfl #[2] #[2] #[0] #[0]) rfl
     (g8 #[0] T.hZ (aA (cB (pv 0) rfl) (aA (cB (pv 0) rfl) aB))) (fun _ _ _=>(show PG _ _ (sI K 2 (fZ (aX 0) (fZ (aX 1) sE))) from fM rfl (bP (aO (i:=0) #[8,["chosen","row","column","gains"]] rfl bN) (bP (aO (i:=1) #[8,["chosen","row","column","gains"]] rfl bN) dP))))
     (fun _ _ _=>bJ) (fun _ _ _=>(aM bK (aQ (bU K) (pv 3) (pv 0) #[6]) (aQ (bU K) (pv 1) (pv 2) #[6])))) aB)))
    (aF (dO (lK qCr qDt qDs fH (pv 3) (aA (fS cI D_fraction hr #[1] #[0] (aA (aM bK (aY D_sign_of hr #[1] #[0] (aA (pv 5) aB)) (pv 7)) (aA (cB (pv 0) rfl) aB))) aB)))))))
   (aF (aT (pv 3))))),?_⟩
  refine⟨by show 0<=qAi;decide,fun l hl=>?_⟩;have u1:=aH.aG (o:=.lst []) hl;have e1:upd H l (.lst []) l=some (.lst []):=aD;generalize upd H l (.lst [])=H1 at u1 e1|-;have npd:pd≠l:=bE hpd hl;have npg:pg≠l:=bE gn.hg hl;have nx:x≠l:=bE hx hl;have nlc:lc≠l:=bE hlc hl;have nlr:lr≠l:=bE rs.hr hl;exists _,rfl,pd,rfl,⟨_,aS.of (u1 _ _ hpd)⟩;refine vC (xs:=bF m due) (fun i σ H2=>∃(ws:List Addr) (o4 o5 o6 o7:Option V),σ=[some (.ref x),some (.ref pg),some (.ref pd),some (.ref l),o4,o5,o6,o7]/\SameBut l H H2/\kC i (fun i=>Wg.sgn (due i)*Wg.fT m n c S i) S.d H2 l ws) ⟨[],_,_,_,_,rfl,u1.but l,e1,rfl,fun j w e=>by cases e⟩ (by rintro i σ H2 _ ⟨ws,o4,o5,o6,o7,_,sb,_⟩;exact aS.of (sb _ _ npd hpd)) (fun i y tt σ H2 hy ht z9=>?_) (fun σ H2 z9=>?_)
  .obtain⟨ws,o4,o5,o6,o7,eσ,sb,fl⟩:=z9;subst eσ;obtain⟨hi,rfl⟩:=eQ hy;have u2:=aH.aG (o:=.tup [.int (i:Int),.int (due i)]) ht;have e2:upd H2 tt (.tup [.int (i:Int),.int (due i)]) tt=_:=aD;generalize upd H2 tt (.tup [.int (i:Int),.int (due i)])=H3 at u2 e2|-;have sb3:=sb.then u2;have fl3:=fl.same u2;have hx3:=sb3 _ _ nx hx;exists tt,_,rfl,cE.of e2,rfl,_,_,rfl,_,_,rfl,rfl;exists _,rfl,x,FR,dx,_,_,rfl,hx3,T.cQ.oc.cl,T.cQ.nm,rfl,_,rfl,_,_,rfl,rfl;exists _,rfl,x,FR,dx,_,_,rfl,hx3,T.cQ.oc.cl,T.cQ.nc,rfl,_,rfl,x,FR,dx,_,_,rfl,hx3,T.cQ.oc.cl,T.cQ.nr,rfl,lc,lr,rfl,⟨_,aS.of (sb3 _ _ nlc hlc)⟩,⟨_,aS.of (sb3 _ _ nlr rs.hr)⟩;refine j5 (xs:=uH m S) (ys:=ras.map V.ref) (fun σ'=>∃o0 o1:Option V,σ'=[o0,o1,some (.int ((n:Int)+(i:Int))),some (.ref pg)]) (fun k' _ _=>some (.int (c (S.ch k')*S.R k' (n+i)))) ⟨_,_,rfl⟩ (aS.of (sb3 _ _ nlc hlc)) (aS.of (sb3 _ _ nlr rs.hr)) (tZ rs) (by delta uH;rw[aL];exact qAo (aK (by lia))) (fun k' x' y' tt2 σ1 H4 kk kk0 hσ s4 hx' hy' ht2 h1 h2=>?_) fun D H4 hD s4 hd=>?_
   .obtain⟨o0,o1,rfl⟩:=hσ;obtain⟨hk',rfl⟩:=eQ hx';obtain⟨r,er,rfl⟩:=dB hy';have hch:=gd.ch k' hk';have nrl:r≠l:=bE (rs.at_ k' r er) hl;exists tt2,_,rfl,cE.of ht2,rfl,_,_,rfl,_,_,rfl,rfl;refine⟨_,rfl,_,rfl,pg,_,_,_,rfl,rfl,aS.of (s4 _ _ (sb3 _ _ npg gn.hg)),bR hch,_,rfl,_,rfl,r,_,_,_,rfl,rfl,aS.of (s4 _ _ (sb3 _ _ nrl (rs.at_ k' r er))),(show eV (tY m n S k') ((n:Int)+(i:Int))=some (.int (S.R k' (n+i))) by rw[<- qOr];exact bR (by lia)),_,_,rfl,rfl,(gn.sz _).mb (sR k' hk' _),h1 _ _ ⟨_,_,rfl⟩ rfl _ (.refl _)⟩
   .have hd':H4 D=some (.lst (((qAk m).map fun k'=>c (S.ch k')*S.R k' (n+i)).map V.int)):=by
     have e:(uH m S).length=m:=aL _ _;rw[hd,e,tV _ e (by rw[qAa,rs.len]),qCn];rfl
    exists D,_,rfl,.inl (aS.of hd');rw[nH];have sp:Sm 200000 (Wg.fT m n c S i):=(rT (a:=106000) m fun k' hk'=>((gn.sz _).mul (sR k' hk' _)).mono #[1]).mono (by lia);have fl4:=fl3.same s4;have sb4:=sb3.then s4;exists _,rfl,.inl ⟨rfl,_,aS.of fl4.hr⟩;exists _,rfl,_,rfl,_,rfl,_,_,rfl,rfl,(tX _).mb sp,_,rfl,x,FR,dx,_,_,rfl,sb4 _ _ nx hx,T.cQ.oc.cl,T.cQ.nb,rfl;dsimp only[iR,qCj,qCl];refine pR (by lia) (sd.mono #[1]) fun p hp=>?_;have npl:p≠l:=fun z=>by rw[z,fl4.hr] at hp;cases hp
    refine⟨l,_,_,rfl,rfl,(aR (fun z=>npl z.symm)).trans fl4.hr,by rw[qAa,fl4.len];exact aK (by lia),?_⟩;refine⟨ws++[p],_,_,_,_,rfl,(sb4.then (.aG hp)).nY _,by rw[aD,qAr];rfl,by rw[qAj,fl4.len];rfl,fun j w e=>?_⟩;rcases qAm j ws.length with z1 | z1
    .rw[qAy z1] at e;have z:=fl4.at_ j w e;rw[aR (kJ z fl4.hr (by intro z;cases z)),aR (bE z hp)];exact z
    .rw[qAz z1] at e;obtain⟨rfl,rfl⟩:j=i/\p=w:=by
      rcases qEx (j-ws.length) with q | q
      .rw[q] at e;exact⟨by rw[fl4.len] at z1 q;lia,Option.some.inj e⟩
      .rw[qAv (by show 1<=_;lia)] at e;cases e
     rw[aR npl,aD];rfl
  .obtain⟨ws,o4,o5,o6,o7,eσ,sb,fl⟩:=z9;subst eσ;rw[aL] at fl;exact⟨_,rfl,k l ws H2 hl (fun b o e=>sb b o (bE e hl) e) fl⟩
noncomputable def jV(lo hi:Nat)(xs:List V):Bool:=decide (lo<=xs.length)&&decide (xs.length<=hi)&&xs.all kX
def Ec(K:qAd):Sp:=fun vs H Q _=>∃(p:Addr) (xs:List V) (lo hi:Nat),vs=[.ref p,.int (lo:Int),.int (hi:Int)]/\H p=some (.lst xs)/\(∀v∈xs,Pl K H v)/\xs.length<=1000/\∀H',aH H H'->Q (.bl (jV lo hi xs)) H'
theorem Lm:aV ["thing","least","most"] ["thing","least","most"] (aI DJ):=#[1,2]
theorem Gk(t:Tx K mg "are_numbers" DJ ["thing","least","most"] f fd)(T:#[4])(D_is_number:#[5] 1 "is_number" ["thing"] (mB K) f1 fd1):
  #[5] 2 "are_numbers" ["thing","least","most"] (Ec K) f fd:=by
 refine t.gO Lm (fun vs H Q E h=>?_) (fun cdv _A outer s H vs Q E hr h=>?_)
 .obtain⟨p,xs,lo,hi,rfl,_⟩:=h;rfl
 .obtain⟨p,xs,lo,hi,rfl,hp,pl,hlen,k⟩:=h;refine⟨_,(aC (bO (PW.pt (pw_or (bZ (bX (aJ cN #[0] T.eX dY (aA (pv 0) (aA (cV (v:=.ty "list") #[0] T.cR cW rfl) aB))))) (pw_or1 (bZ (Cj uP uP (pv 1) (aJ aN #[0] T.bV bH (aA (pv 0) aB)) (pv 2)))))) (aF (aT fL)) aZ)
   (aF (aT (aJ (pB rfl) #[0] T.pM xU (aA (bM (NB:=["number"]) (pick:=[none]) (bG #[7] (by exact trivial) rfl #[2] #[2] #[0] #[0]) rfl
     (bL (pv 0)) (fun _ _ _=>aO (i:=0) #[8,["number"]] rfl bN)
     (fun _ _ _=>bJ) (fun _ _ _=>(aY D_is_number hr #[1] #[0] (aA (pv 0) aB)))) aB))))),?_⟩
  refine⟨_,rfl,.ref p,.ty "list",_,_,_,rfl,rfl,.of (.lst hp),Kd.lst.nO K,_,rfl,cM ?_⟩;have out:jV lo hi xs=false->∀H',aH H H'->Q (.bl false) H':=fun e H' s'=>by
   have z:=k H' s';rw[e] at z;exact z
  exists _,rfl,_,rfl,p,_,rfl,.inl (aS.of hp),_,_,rfl,rfl,_,rfl;refine cK (fun z1=>?_) (fun z1=>?_)
  .have h1:lo<=xs.length:=by have:((lo:Nat):Int)<=((xs.length:Nat):Int):=of_decide_eq_true z1;lia
   exists _,rfl,_,_,rfl,rfl,_,rfl;cases e2:decide (((xs.length:Nat):Int)<=((hi:Nat):Int)) with
   | false =>
    refine iY (out ?_ H (.refl _));have:¬xs.length<=hi:=fun y=>(of_decide_eq_false e2) (by lia);delta jV;rw[decide_eq_false this,qIv,qGe]
   | true =>
    have h2:xs.length<=hi:=by have:=of_decide_eq_true e2;lia
    refine cM ⟨_,rfl,p,rfl,⟨xs,aS.of hp⟩,?_⟩;refine cC (xs:=xs) (fun _ x=>some (.bl (kX x))) (aS.of hp) (qAo (aK hlen)) (fun i x H2 kk kk0 s2 hx h1 h2=>?_) fun D H2 hD s2 hd=>?_
    .exact⟨_,rfl,x,rfl,(pl x (qAx hx)).same s2,h1 _ rfl _ (.refl _)⟩
    .have ed:((qAk xs.length).filterMap fun i=>(xs[i]?).bind fun x=>some (V.bl (kX x)))=(xs.map kX).map V.bl:=by
      rw[qCn,<- sW];rfl
     rw[ed] at hd;exists D,_,rfl,aS.of hd;have ea:(xs.map kX).all id=jV lo hi xs:=by
      delta jV;rw[qPl,decide_eq_true h1,decide_eq_true h2];rfl
     rw[ea];exact k H2 s2
  .refine⟨_,rfl,iY (out ?_ H (.refl _))⟩;have:¬lo<=xs.length:=fun y=>z1 (decide_eq_true (by show((lo:Nat):Int)<=((xs.length:Nat):Int);lia));delta jV;rw[decide_eq_false this,qGe,qGe]
structure BO (K:qAd) (H:Hp) (pc pd pg:Addr) (cs:List Addr) (col:Nat->List V) (ds gs:List V):Prop where
 hc:H pc=some (.lst (cs.map V.ref))
 lc:cs.length<=1000
 at_:∀j c,cs[j]?=some c->H c=some (.lst (col j))/\(∀v∈col j,Pl K H v)/\(col j).length<=1000
 hd:H pd=some (.lst ds)
 Qq:∀v∈ds,Pl K H v
 ld:ds.length<=1000
 hg:H pg=some (.lst gs)
 Qr:∀v∈gs,Pl K H v
 lg:gs.length<=1000
theorem BO.same(h:BO K H pc pd pg cs col ds gs)(s:aH H H'):BO K H' pc pd pg cs col ds gs :=
 ⟨s _ _ h.hc,h.lc,fun j c e=>⟨s _ _ (h.at_ j c e).1,fun v hv=>((h.at_ j c e).2.1 v hv).same s,(h.at_ j c e).2.2⟩,s _ _ h.hd,fun v hv=>(h.Qq v hv).same s,h.ld,s _ _ h.hg,fun v hv=>(h.Qr v hv).same s,h.lg⟩
noncomputable def jW(n:Nat)(col:Nat->List V)(ds gs:List V):Bool:=jV 1 8 ds&&(decide (n<=70)&&(((qAk n).map fun j=>jV ds.length ds.length (col j)).all id&&jV n n gs))
def HA(K:qAd)(NR:Addr):Sp:=fun vs H Q E=>∃(pc pd pg:Addr) (cs:List Addr) (col:Nat->List V) (ds gs:List V),vs=[.ref pc,.ref pd,.ref pg]/\BO K H pc pd pg cs col ds gs/\(jW cs.length col ds gs=false->∀H',aH H H'->E (.ref NR) none H')/\(jW cs.length col ds gs=true->∀H',aH H H'->Q .non H')
theorem NY:aV ["columns","due","gains"] ["columns","due","gains"] (aI JI):=#[1,2]
theorem Ln{f1:Addr}{fd1:qCo}(t:Tx K mg "check_rows" JI ["columns","due","gains"] f fd)(T:#[4])(D_are_numbers:#[5] 2 "are_numbers" ["thing","least","most"] (Ec K) f1 fd1):
  #[1,1] 3 "check_rows" ["columns","due","gains"] (HA K NR) f fd:=by
 refine t.Jc NY (fun vs H Q E h=>?_) (fun cdv _A outer s H vs Q E hr h=>?_)
 .obtain⟨pc,pd,pg,cs,col,ds,gs,rfl,_⟩:=h;rfl
 .obtain⟨pc,pd,pg,cs,col,ds,gs,rfl,rw0,k0,k⟩:=h;obtain⟨tkMP,hMP⟩:=T.mp;obtain⟨tkMC,hMC⟩:=T.mc;refine⟨_,(aC (bO (bZ (bX (aY D_are_numbers hr #[1] #[0] (aA (pv 1) (aA aE (aA (fY (v:=.int 8) #[0] hMP ⟨tkMP,rfl⟩) aB)))))) (aF (gA dF rfl #[0] T.Hj T.Hk (aA g5 aB))) aZ)
   (aC (bO (PW.pt (pw_or (bZ (bX (aJ cN #[0] T.eX dY (aA (pv 0) (aA (cV (v:=.ty "list") #[0] T.cR cW rfl) aB))))) (pw_or1 (aU qR (aJ aN #[0] T.bV bH (aA (pv 0) aB)) (fY (v:=.int 70) #[0] hMC ⟨tkMC,rfl⟩) (aW _))))) (aF (gA dF rfl #[0] T.Hj T.Hk (aA g5 aB))) aZ)
   (aC (bO (bZ (bX (aJ (pB rfl) #[0] T.pM xU (aA (bM (NB:=["column","due"]) (pick:=[none,some 1]) (bG #[7] (by exact(And.intro rfl trivial)) rfl #[2] #[2] #[0] #[0]) rfl
     (bL (pv 0)) (fun _ _ _=>aO (i:=0) #[8,["column","due"]] rfl bN)
     (fun _ _ _=>bJ) (fun _ _ _=>(aY D_are_numbers hr #[1] #[0] (aA (pv 0) (aA (aJ (qX K) #[0] T.bV bH (aA (pv 1) aB)) (aA (aJ (qX K) #[0] T.bV bH (aA (pv 1) aB)) aB)))))) aB)))) (aF (gA dF rfl #[0] T.Hj T.Hk (aA g5 aB))) aZ)
   (aF (bO (bZ (bX (aY D_are_numbers hr #[1] #[0] (aA (pv 2) (aA (aJ aN #[0] T.bV bH (aA (pv 0) aB)) (aA (aJ aN #[0] T.bV bH (aA (pv 0) aB)) aB)))))) (aF (gA dF rfl #[0] T.Hj T.Hk (aA g5 aB))) aZ))))),?_⟩
  refine⟨_,rfl,pd,ds,1,8,rfl,rw0.hd,rw0.Qq,rw0.ld,fun H1 s1=>⟨_,rfl,?_⟩⟩;cases e1:jV 1 8 ds with
  | false=>exact iY ⟨kE,k0 (by delta jW;rw[e1];rfl) H1 s1⟩
  | true =>
   have rw1:=rw0.same s1;refine cM ⟨_,rfl,.ref pc,.ty "list",_,_,_,rfl,rfl,.of (.lst rw1.hc),Kd.lst.nO K,_,rfl,cM ?_⟩;exists _,rfl,pc,_,rfl,.inl (aS.of rw1.hc),_,_,rfl,rfl,_,rfl;rw[qAa];have ec:decide (((cs.length:Nat):Int)>70) = !decide (cs.length<=70):=by
    by_cases z:cs.length<=70
    .rw[decide_eq_true z,decide_eq_false (by lia)];rfl
    .rw[decide_eq_false z,decide_eq_true (by lia)];rfl
   show if decide (((cs.length:Nat):Int)>70)=true then _ else _;rw[ec];cases e2:decide (cs.length<=70) with
   | false=>exact iY ⟨kE,k0 (by delta jW;rw[e1,e2];rfl) H1 s1⟩
   | true =>
    refine cM ⟨_,rfl,pc,rfl,⟨_,aS.of rw1.hc⟩,?_⟩;refine cC (xs:=cs.map V.ref) (fun j _=>some (.bl (jV ds.length ds.length (col j)))) (aS.of rw1.hc) (by rw[qAa];exact qAo (aK rw0.lc)) (fun j y H2 kk kk0 s2 hy h1 h2=>?_) fun D H2 hD s2 hd=>?_
    .obtain⟨c,hc,rfl⟩:=dB hy;have rw2:=rw1.same s2;obtain⟨a1,a2,a3⟩:=rw2.at_ j c hc;exact⟨_,rfl,_,rfl,pd,_,rfl,.inl (aS.of rw2.hd),_,rfl,pd,_,rfl,.inl (aS.of rw2.hd),c,col j,ds.length,ds.length,rfl,a1,a2,a3,fun H3 s3=>h1 _ rfl _ s3⟩
    .have hd':H2 D=some (.lst (((qAk cs.length).map fun j=>jV ds.length ds.length (col j)).map V.bl)):=by
      rw[hd,qAa,iN _ (qAa ..),qCn];rfl
     exists D,_,rfl,aS.of hd',_,rfl;cases e3:((qAk cs.length).map fun j=>jV ds.length ds.length (col j)).all id with
     | false=>exact iY ⟨kE,k0 (by delta jW;rw[e1,e2,e3];rfl) H2 (s1.trans s2)⟩
     | true =>
      have rw2:=rw1.same s2;refine cM ⟨_,rfl,_,rfl,pc,_,rfl,.inl (aS.of rw2.hc),_,rfl,pc,_,rfl,.inl (aS.of rw2.hc),pg,gs,cs.length,cs.length,by rw[qAa];rfl,rw2.hg,rw2.Qr,rw2.lg,fun H3 s3=>⟨_,rfl,?_⟩⟩;cases e4:jV cs.length cs.length gs with
      | false=>exact iY ⟨kE,k0 (by delta jW;rw[e1,e2,e3,e4];rfl) H3 (s1.trans (s2.trans s3))⟩
      | true=>exact cM (k (by delta jW;rw[e1,e2,e3,e4];rfl) H3 (s1.trans (s2.trans s3)))
theorem t4(hq:H q=some o)(hx:H x=none)(hd:H dx=none):upd (upd H dx u) x v q=some o:=by
 rw[aR (bE hq hx),aR (bE hq hd)];exact hq
structure NZ (m n:Nat) (A:Nat->Nat->Int) (due g:Nat->Int) (H H':Hp) (r lw lp:Addr) (ws ps:List Addr) (d:Int) (X Y:Nat->Int):Prop where
 tup:H' r=some (.tup [.str "best",.ref lw,.ref lp])
 d0:0<d
 ds:Sm 6000 d
 dm:pQ m A due d
 ym:yS m A due g Y
 fw:kC n X d H' lw ws
 fp:kC m Y d H' lp ps
 nw:H lw=none
 np:H lp=none
 sX:∀j,Sm 300000 (X j)
 sY:∀j,Sm 300000 (Y j)
 x0:∀j,0<=X j
 meets:∀i,i<m->(Wg.sm n fun j=>A j i*X j)=due i*d
 cols:∀j,j<n->g j*d<=Wg.sm m fun i=>A j i*Y i
 same:(Wg.sm m fun i=>due i*Y i)=Wg.sm n fun j=>g j*X j
structure Oa (m n:Nat) (A:Nat->Nat->Int) (due:Nat->Int) (H H':Hp) (r lp:Addr) (ps:List Addr) (d:Int) (Y:Nat->Int):Prop where
 tup:H' r=some (.tup [.str "none",.ref lp])
 d0:0<d
 ds:Sm 6000 d
 fp:kC m Y d H' lp ps
 np:H lp=none
 sY:∀j,Sm 300000 (Y j)
 cols:∀j,j<n->0<=Wg.sm m fun i=>A j i*Y i
 neg:(Wg.sm m fun i=>due i*Y i)<0
structure PV (m n:Nat) (A:Nat->Nat->Int) (due g:Nat->Int) (H H':Hp) (r lw lv:Addr) (ws vs:List Addr) (d:Int) (X Z:Nat->Int):Prop where
 tup:H' r=some (.tup [.str "endless",.ref lw,.ref lv])
 d0:0<d
 ds:Sm 6000 d
 fw:kC n X d H' lw ws
 fv:kC n Z d H' lv vs
 nw:H lw=none
 nv:H lv=none
 sX:∀j,Sm 300000 (X j)
 sZ:∀j,Sm 300000 (Z j)
 x0:∀j,0<=X j
 meets:∀i,i<m->(Wg.sm n fun j=>A j i*X j)=due i*d
 z0:∀j,0<=Z j
 away:∀i,i<m->(Wg.sm n fun j=>A j i*Z j)=0
 more:0<Wg.sm n fun j=>g j*Z j
def Told(m n:Nat)(A:Nat->Nat->Int)(due g:Nat->Int)(H H':Hp)(r:Addr):Prop :=
 (∃lw lp ws ps d X Y,NZ m n A due g H H' r lw lp ws ps d X Y)\/(∃lp ps d Y,Oa m n A due H H' r lp ps d Y)\/(∃lw lv ws vs d X Z,PV m n A due g H H' r lw lv ws vs d X Z)
def wF(K:qAd)(NR:Addr):Sp:=fun vs H Q E=>∃(pc pd pg:Addr) (cs:List Addr) (col:Nat->List V) (ds gs:List V),vs=[.ref pc,.ref pd,.ref pg]/\BO K H pc pd pg cs col ds gs/\(jW cs.length col ds gs=false->∀H',aH H H'->E (.ref NR) none H') /\
 (jW cs.length col ds gs=true->∃(m n:Nat) (A:Nat->Nat->Int) (due g:Nat->Int),Inst m n A due/\cs.length=n/\(∀j,j<n->col j=bF m (A j))/\ds=bF m due/\gs=bF n g/\(∀j,Sm 90000 (g j))/\∀(r:Addr) (H':Hp),aH H H'->Told m n A due g H H' r->Q (.ref r) H')
theorem Clean.run(h:∃T st p q,Wg.Run m n (n+m) M c T st p q/\st 0=S/\st T=S')(cl:Wg.Clean m n S):Wg.Clean m n S':=by
 obtain⟨TT,st,p,q,r,rfl,rfl⟩:=h;exact r.keeps (P:=Wg.Clean m n) cl fun S p q ok _ g cl=>Wg.yO ok g.pm g.qn (by have:=g.pos;lia) cl
theorem wG(h:∃T st p q,Wg.Run m n (n+m) M c T st p q/\st 0=S/\st T=S'):∀k,k<m->0<=S'.R k (n+m):=by
 obtain⟨TT,st,p,q,r,rfl,rfl⟩:=h;exact(r.rJ TT (qAg _)).2
theorem wH:aV ["columns","due","gains","frame","leaving","all_gains","growing"] ["columns","due","gains"] (aI JS):=#[1,2]
theorem Ed{m n:Nat}{A:Nat->Nat->Int}{due:Nat->Int}{S:Wg.St}(gd:Good m n A due S)(f:Nat->Int)(h:∀k,k<m->Sm 6000 (f k))(j:Nat):Sm 300000 (Wg.wt m f S j):=by
 delta Wg.wt;refine(rT (a:=6000) m fun k hk=>?_).mono (by have:=gd.ins.m8;lia);split
 .exact h k hk
 .exact Sm.zero
theorem wI{m n:Nat}{A:Nat->Nat->Int}{due c:Nat->Int}{S:Wg.St}(gd:Good m n A due S)(h:∀j,Sm 100000 (c j))(i:Nat):Sm 300000 (Wg.sgn (due i)*Wg.fT m n c S i):=by
 obtain⟨sd,sR⟩:=gd.ins.size gd.ok;have m8:=gd.ins.m8;have z:Sm 300000 (Wg.fT m n c S i):=(rT (a:=106000) m fun k hk=>((h _).mul (sR k hk _)).mono #[1]).mono (by lia);exact z.le (by rw[gX];exact qAg _)
theorem Lo{f1 f2 f3 f4 f5 f6 f7:Addr}{fd1 fd2 fd3 fd4 fd5 fd6 fd7:qCo}(t:Tx K mg "weigh" JS ["columns","due","gains"] f fd)(T:#[4])(D_check_rows:#[1,1] 3 "check_rows" ["columns","due","gains"] (HA K NR) f1 fd1)(D_FI:#[1,0] 3 ["self","columns","due"] (NU FR) iF)
  (D_climb:#[5] 3 "climb" ["frame","gains"] (Hu FR) f2 fd2) (D_spare_places:#[5] 1 "spare_places" ["frame"] (Ea FR) f3 fd3) (D_leave_spares:#[5] 3 "leave_spares" ["frame"] (Hv FR) f4 fd4) (D_weights_of:#[5] 3 "weights_of" ["frame"] (Hw FR) f5 fd5)
  (D_prices_of:#[5] 3 "prices_of" ["frame","gains","due"] (Hz FR) f6 fd6) (D_way_of:#[5] 3 "way_of" ["frame","growing"] (Hy FR) f7 fd7) :
  #[1,1] 5 "weigh" ["columns","due","gains"] (wF K NR) f fd:=by
 refine t.Jc wH (fun vs H Q E h=>?_) (fun cdv _A outer s H vs Q E hr h=>?_)
 .obtain⟨pc,pd,pg,cs,col,ds,gs,rfl,_⟩:=h;rfl
 .obtain⟨pc,pd,pg,cs,col,ds,gs,rfl,rw0,k0,k⟩:=h;refine⟨_,(aC (dO (fS dF.toPass D_check_rows hr #[1] #[0] (aA (pv 0) (aA (pv 1) (aA (pv 2) aB)))))
   (aC (aP (i:=3) wH.nd rfl #[3] (CM dF.toPass T.QN D_FI hr #[1] #[0] T.NI (aA (pv 0) (aA (pv 1) aB))))
   (aC (aP (i:=4) wH.nd rfl bN (aM eM (aM gI (bQ (aA aE aB)) (aJ aN #[0] T.bV bH (aA (pv 0) aB))) (aM gI (bQ (aA (jG gH aE) aB)) (aJ aN #[0] T.bV bH (aA (pv 1) aB)))))
   (aC (dO (aY D_climb hr #[1] #[0] (aA (pv 3) (aA (pv 4) aB))))
   (aC (bO (bX (aJ (CN rfl) #[0] T.vZ Ji (aA (bM (NB:=["place","frame"]) (pick:=[none,some 3]) (bG #[7] (by exact(And.intro rfl trivial)) rfl #[2] #[2] #[0] #[0]) rfl
     (bL (aY D_spare_places hr #[1] #[0] (aA (pv 3) aB))) (fun _ _ _=>aO (i:=0) #[8,["place","frame"]] rfl bN)
     (fun _ _ _=>bJ) (fun _ _ _=>(eD fI (aQ (bU K) (aQ (bU K) (lR K (pv 1) rfl) (pv 0) #[6]) (jG gH aE) #[6]) aE (aW _)))) aB))) (aF (aT (dN (aA g5 (aA (aY D_prices_of hr #[1] #[0] (aA (pv 3) (aA (pv 4) (aA (pv 1) aB)))) aB))))) aZ)
   (aC (dO (aY D_leave_spares hr #[1] #[0] (aA (pv 3) aB)))
   (aC (aP (i:=5) wH.nd rfl bN (aM eM (pv 2) (aM gI (bQ (aA aE aB)) (aJ aN #[0] T.bV bH (aA (pv 1) aB)))))
   (aC (aP (i:=6) wH.nd rfl bN (aY D_climb hr #[1] #[0] (aA (pv 3) (aA (pv 5) aB))))
   (aC (bO (aU sN (pv 6) dU (aW _)) (aF (aT (dN (aA g5 (aA (aY D_weights_of hr #[1] #[0] (aA (pv 3) aB)) (aA (aY D_prices_of hr #[1] #[0] (aA (pv 3) (aA (pv 5) (aA (pv 1) aB)))) aB)))))) aZ)
   (aF (aT (dN (aA g5 (aA (aY D_weights_of hr #[1] #[0] (aA (pv 3) aB)) (aA (aY D_way_of hr #[1] #[0] (aA (pv 3) (aA (pv 6) aB))) aB))))))))))))))),?_⟩
  refine⟨_,rfl,_,rfl,_,rfl,pc,pd,pg,cs,col,ds,gs,rfl,rw0,k0,fun yes H1 s1=>?_⟩;obtain⟨m,n,A,due,g,ins,hn,hcol,rfl,rfl,sg,k⟩:=k yes;have m8:=ins.m8;have pP:=ins.pP;have co:tW m n A due H pc pd cs:=⟨rw0.hc,hn,fun j c e=>by
   have hj:j<n:=by rw[<- hn];exact(List.getElem?_eq_some_iff.mp e).1
   rw[<- hcol j hj];exact(rw0.at_ j c e).1,rw0.hd⟩
  have co1:=co.same s1;have hg1:=s1 _ _ rw0.hg;refine⟨_,rfl,_,rfl,fun x dx hx hdx ne=>?_⟩;refine⟨m,n,A,due,x,dx,pc,pd,cs,rfl,aD,ins,⟨t4 co1.hc hx hdx,hn,fun j c e=>t4 (co1.at_ j c e) hx hdx,t4 co1.hd hx hdx⟩,fun lc H2 sb2 hlc0 fo2=>?_⟩;have s2:aH H1 H2:=sb2.made hx hdx ne;have hlc1:H1 lc=none:=by
   have nl:lc≠x:=fun z=>by rw[z,aD] at hlc0;cases hlc0
   have nd:lc≠dx:=fun z=>by rw[z,aR ne,aD] at hlc0;cases hlc0
   rw[aR nl,aR nd] at hlc0;exact hlc0
  have co2:=co1.same s2;have gd0:=Good.start ins;refine⟨rfl,kE,fun a1 ha1=>?_⟩;have u3:=aH.aG (o:=.lst [.int 0]) ha1;have e3:upd H2 a1 (.lst [.int 0]) a1=some (.lst [.int 0]):=aD;generalize upd H2 a1 (.lst [.int 0])=H3 at u3 e3|-;refine⟨_,rfl,pc,_,rfl,.inl (aS.of (u3 _ _ co2.hc)),a1,_,_,rfl,rfl,e3,by rw[qAa];lia,by rw[qAa];lia,?_,fun a2 ha2=>?_⟩
  .rw[qAa,hn];show 1*((n:Int)).toNat<=qAi;exact qAo (aK (by lia))
  rw[qAa,hn,qBb,gD];have u4:=aH.aG (o:=.lst (bF n fun _=>0)) ha2;have e4:upd H3 a2 (.lst (bF n fun _=>0)) a2=_:=aD;generalize upd H3 a2 (.lst (bF n fun _=>0))=H4 at u4 e4|-;refine⟨_,rfl,kE,fun a3 ha3=>?_⟩;have u5:=aH.aG (o:=.lst [.int (-1)]) ha3;have e5:upd H4 a3 (.lst [.int (-1)]) a3=some (.lst [.int (-1)]):=aD;generalize upd H4 a3 (.lst [.int (-1)])=H5 at u5 e5|-;have s5:=s2.trans (u3.trans (u4.trans u5));refine⟨_,rfl,pd,_,rfl,.inl (aS.of (s5 _ _ co1.hd)),a3,_,_,rfl,rfl,e5,by rw[aL];lia,by rw[aL];lia,?_,fun a4 ha4=>?_⟩
  .rw[aL];show 1*((m:Int)).toNat<=qAi;exact qAo (aK (by lia))
  rw[aL,qBb,gD];have u6:=aH.aG (o:=.lst (bF m fun _=>-1)) ha4;have e6:upd H5 a4 (.lst (bF m fun _=>-1)) a4=_:=aD;generalize upd H5 a4 (.lst (bF m fun _=>-1))=H6 at u6 e6|-;refine⟨a2,a4,_,_,rfl,rfl,aS.of (u6 _ _ (u5 _ _ e4)),aS.of e6,by rw[aL,aL];exact qAo (aK (by lia)),fun pl hpl=>?_⟩;rw[mC];have u7:=aH.aG (o:=.lst (bF (n+m) fun j=>if j<n then 0 else -1)) hpl;have e7:upd H6 pl (.lst (bF (n+m) fun j=>if j<n then 0 else -1)) pl=_:=aD;generalize upd H6 pl (.lst (bF (n+m) fun j=>if j<n then 0 else -1))=H7 at u7 e7|-;have s26:=u3.trans (u4.trans (u5.trans u6));have s27:=s26.trans u7;have s7:=s2.trans s27;have fo7:=fo2.same s27;obtain⟨dx2,lr2,ras2,hx2,rs2,hlc2⟩:=id fo2;have gn7:BX m n (Wg.lv m n) H7 pl:=⟨by
   rw[e7];congr 2;refine dR fun j hj=>?_;delta Wg.lv;by_cases z:j<n
   .rw[if_pos z,if_neg (by lia)]
   .rw[if_neg z,if_pos ⟨by lia,hj⟩],fun j=>by
   delta Wg.lv;split
   .exact Sm.of 1 #[1] #[1]
   .exact Sm.zero⟩
  have npl:pl≠lc:=fun z=>by rw[z,s26 _ _ hlc2] at hpl;cases hpl
  have npx:pl≠x:=fun z=>by rw[z,s26 _ _ hx2] at hpl;cases hpl
  have old:∀{b o},H1 b=some o->b≠x/\b≠lc:=fun {b o} e=>⟨bE e hx,bE e hlc1⟩;refine⟨_,rfl,_,rfl,m,n,A,due,_,x,lc,pl,_,rfl,fo7,gd0,Wg.yM,gn7,npl,fun S1 H8 sb8 fo8 gd1 run1=>?_⟩;have fe1:=wG run1;have s18:aH H1 H8:=fun b o e=>sb8 b o (old e).1 (old e).2 (s7 _ _ e);refine⟨fun le=>?_,fun q hq gr nn=>(Wg.tR gd1.ok hq gr nn).elim⟩;refine⟨_,rfl,m,n,A,due,x,lc,S1,rfl,fo8,gd1,fun D H9 hD s9 hd=>⟨D,rfl,⟨_,aS.of hd⟩,?_⟩⟩;obtain⟨dx8,lr8,ras8,hx8,rs8,hlc8⟩:=id fo8;refine cC (xs:=a9 (uI m n S1)) (fun i _=>((uI m n S1)[i]?).map fun p=>V.bl (!decide (V.int (S1.R p (n+m))=V.int 0))) (aS.of hd) (by delta a9 uI;rw[qAa];exact qCy (qEw ..) (by rw[qAu];exact qAo (aK (by lia)))) (fun i y H10 kk kk0 s10 hy h1 h2=>?_) fun D2 H10 hD2 s10 hd2=>?_
  .obtain⟨p,ep,rfl⟩:=Aj hy;have hp:=(mD.mp (qAx ep)).1;obtain⟨rp,erp,arp,hrp⟩:=rs8.get hp;have s810:=s9.trans s10;exists _,rfl,x,FR,dx8,_,_,rfl,s810 _ _ hx8,T.cQ.oc.cl,T.cQ.nr,rfl,_,rfl,lr8,_,_,_,rfl,rfl,aS.of (s810 _ _ rs8.hr),arp,_,rfl,rp,_,_,_,rfl,rfl,aS.of (s810 _ _ hrp),jU (n+m) _,rfl;exact h1 _ (by rw[ep];rfl) _ (.refl _)
  have el:(a9 (uI m n S1)).length=(uI m n S1).length:=by delta a9;rw[qAa]
  have hd3:H10 D2=some (.lst (((uI m n S1).map fun p=>!decide (V.int (S1.R p (n+m))=V.int 0)).map V.bl)):=by
   rw[hd2,el,qCn];congr 2;refine Eq.trans (dI (g:=fun i=>((uI m n S1)[i]?).bind fun p=>some (V.bl (!decide (V.int (S1.R p (n+m))=V.int 0)))) fun i hi=>?_) ?_
   .have hi:=List.mem_range.mp hi;rw[qAc (l:=a9 (uI m n S1)) (by rw[el];exact hi),qAc hi];rfl
   .rw[zP,qDo];rfl
  exists D2,_,rfl,aS.of hd3,_,rfl;have s810:=s9.trans s10;have fo10:=fo8.same s810;have s110:=s18.trans s810;have gn10:BX m n (Wg.lv m n) H10 pl:=⟨s810 _ _ (sb8 _ _ npx npl gn7.hg),gn7.sz⟩;obtain⟨sd1,sR1⟩:=ins.size gd1.ok;cases ea:((uI m n S1).map fun p=>!decide (V.int (S1.R p (n+m))=V.int 0)).any id with
  | true =>
   refine iY ?_;obtain⟨b,hb,eb⟩:=List.any_eq_true.mp ea;obtain⟨p,hp,rfl⟩:=List.mem_map.mp hb;obtain⟨hpm,sp⟩:=mD.mp hp;have nz:S1.R p (n+m)≠0:=fun z=>by rw[z] at eb;exact absurd eb #[1]
   obtain⟨t1,t2⟩:=Wg.BD gd1.ok fe1 le gd1.ch hpm sp nz;refine⟨_,rfl,_,rfl,_,rfl,m,n,A,due,_,x,lc,pl,pd,S1,rfl,fo10,gd1,gn10,s110 _ _ co1.hd,fun lp ps H11 hlp s11 fl=>⟨qE,fun r hr=>?_⟩⟩;have u12:=aH.aG (o:=.tup [.str "none",.ref lp]) hr;exact k r _ (s1.trans (s110.trans (s11.trans u12))) (.inr (.inl ⟨lp,ps,S1.d,_,aD,Wg.Fr.pos gd1.ok,sd1,fl.same u12,(s1.trans s110).free hlp,wI gd1 gn7.sz,t1,t2⟩))
  | false =>
   refine cM ?_;have z1:∀k',k'<m->n<=S1.ch k'->S1.R k' (n+m)=0:=fun k' hk' sp=>qBd fun nz=>by
    have:((uI m n S1).map fun p=>!decide (V.int (S1.R p (n+m))=V.int 0)).any id=true:=List.any_eq_true.mpr ⟨_,List.mem_map.mpr ⟨k',mD.mpr ⟨hk',sp⟩,rfl⟩,by
     rw[decide_eq_false (fun y=>nz (V.int.inj y))];rfl⟩
    rw[ea] at this;cases this
   refine⟨_,rfl,m,n,A,due,x,lc,S1,rfl,fo10,gd1,fe1,z1,fun S2 H11 sb11 fo11 gd2 fe2 cl2=>?_⟩;have s111:aH H1 H11:=fun b o e=>sb11 b o (old e).1 (old e).2 (s110 _ _ e);have hg11:=s111 _ _ hg1;refine⟨_,rfl,kE,fun b1 hb1=>?_⟩;have v1:=aH.aG (o:=.lst [.int 0]) hb1;have w1:upd H11 b1 (.lst [.int 0]) b1=some (.lst [.int 0]):=aD;generalize upd H11 b1 (.lst [.int 0])=H12 at v1 w1|-;refine⟨_,rfl,pd,_,rfl,.inl (aS.of (v1 _ _ (s111 _ _ co1.hd))),b1,_,_,rfl,rfl,w1,by rw[aL];lia,by rw[aL];lia,?_,fun b2 hb2=>?_⟩
   .rw[aL];show 1*((m:Int)).toNat<=qAi;exact qAo (aK (by lia))
   rw[aL,qBb,gD];have v2:=aH.aG (o:=.lst (bF m fun _=>0)) hb2;have w2:upd H12 b2 (.lst (bF m fun _=>0)) b2=_:=aD;generalize upd H12 b2 (.lst (bF m fun _=>0))=H13 at v2 w2|-;refine⟨pg,b2,_,_,rfl,rfl,aS.of (v2 _ _ (v1 _ _ hg11)),aS.of w2,by rw[aL,aL];exact qAo (aK (by lia)),fun pa hpa=>?_⟩;rw[mC];have v3:=aH.aG (o:=.lst (bF (n+m) fun j=>if j<n then g j else 0)) hpa;have w3:upd H13 pa (.lst (bF (n+m) fun j=>if j<n then g j else 0)) pa=_:=aD;generalize upd H13 pa (.lst (bF (n+m) fun j=>if j<n then g j else 0))=H14 at v3 w3|-;have v13:=v1.trans (v2.trans v3);have fo14:=fo11.same v13;have s114:=s111.trans v13;obtain⟨dx11,lr11,ras11,hx11,rs11,hlc11⟩:=id fo11;have npal:pa≠lc:=fun z=>by rw[z,v2 _ _ (v1 _ _ hlc11)] at hpa;cases hpa
   have npax:pa≠x:=fun z=>by rw[z,v2 _ _ (v1 _ _ hx11)] at hpa;cases hpa
   have gn14:BX m n (fun j=>if j<n then g j else 0) H14 pa:=⟨w3,fun j=>by
    show Sm 100000 (if j<n then g j else 0);split
    .exact(sg j).mono #[1]
    .exact Sm.zero⟩
   have g0:∀j,n<=j->(if j<n then g j else 0)=0:=fun j hj=>if_neg (by lia);refine⟨_,rfl,_,rfl,m,n,A,due,_,x,lc,pa,S2,rfl,fo14,gd2,fe2,gn14,npal,fun S3 H15 sb15 fo15 gd3 run3=>?_⟩;have fe3:=wG run3;have cl3:=Clean.run run3 cl2;have s115:aH H1 H15:=fun b o e=>sb15 b o (old e).1 (old e).2 (s114 _ _ e);obtain⟨sd3,sR3⟩:=ins.size gd3.ok;have d3:=Wg.Fr.pos gd3.ok;have gsum:∀X:Nat->Int,(Wg.sm n fun j=>(if j<n then g j else 0)*X j)=Wg.sm n fun j=>g j*X j:=fun X=>Wg.bC fun j hj=>by rw[if_pos hj]
   refine⟨fun le3=>?_,fun q hq gr nn=>?_⟩
   .obtain⟨t1,t2⟩:=Wg.BE gd3.ok cl3 le3 g0;refine⟨_,rfl,rfl,_,rfl,iY ?_⟩;refine⟨_,rfl,m,n,A,due,x,lc,S3,rfl,fo15,gd3,fun lw ws H16 hlw s16 fw=>?_⟩;have s116:=s115.trans s16;refine⟨_,rfl,_,rfl,_,rfl,m,n,A,due,_,x,lc,pa,pd,S3,rfl,fo15.same s16,gd3,⟨s16 _ _ (sb15 _ _ npax npal gn14.hg),gn14.sz⟩,s116 _ _ co1.hd,fun lp ps H17 hlp s17 fp=>⟨OF,fun r hr=>?_⟩⟩;have u18:=aH.aG (o:=.tup [.str "best",.ref lw,.ref lp]) hr;refine k r _ (s1.trans (s116.trans (s17.trans u18))) (.inl ⟨lw,lp,ws,ps,S3.d,_,_,aD,d3,sd3,ins.small gd3.ok,ins.KQ gd3.ok,(fw.same s17).same u18,fp.same u18,(s1.trans s115).free hlw,(s1.trans s116).free hlp,Ed gd3 _ fun k' hk'=>sR3 k' hk' _,wI gd3 gn14.sz,Wg.Dz fe3 S3,fun i hi=>Wg.meets gd3.ok cl3 hi,fun j hj=>?_,?_⟩)
    .have z:=t1 j hj;rw[if_pos hj] at z;exact z
    .rw[t2,gsum]
   .obtain⟨t1,t2,t3⟩:=Wg.tS gd3.ok cl3 g0 hq gr nn;refine⟨_,rfl,rfl,_,rfl,cM ?_⟩;refine⟨_,rfl,m,n,A,due,x,lc,S3,rfl,fo15,gd3,fun lw ws H16 hlw s16 fw=>?_⟩;have s116:=s115.trans s16;refine⟨_,rfl,_,rfl,m,n,A,due,x,lc,S3,q,rfl,fo15.same s16,gd3,hq,fun lv vs' H17 hlv s17 fv=>⟨OF,fun r hr=>?_⟩⟩;have u18:=aH.aG (o:=.tup [.str "endless",.ref lw,.ref lv]) hr;rw[gsum] at t3;refine k r _ (s1.trans (s116.trans (s17.trans u18))) (.inr (.inr ⟨lw,lv,ws,vs',S3.d,_,_,aD,d3,sd3,(fw.same s17).same u18,fv.same u18,(s1.trans s115).free hlw,(s1.trans s116).free hlv,Ed gd3 _ fun k' hk'=>sR3 k' hk' _,fun j=>?_,Wg.Dz fe3 S3,fun i hi=>Wg.meets gd3.ok cl3 hi,t1,t2,t3⟩));delta Wg.way;split
    .exact sd3.mono #[1]
    .exact Ed gd3 _ (fun k' hk'=>(sR3 k' hk' q).le (by rw[qLj];exact qAg _)) j
theorem Gm(hl:0<l)(hb:0<b)(h1:l∣d)(h2:b∣d):0<l/qIm l b*b/\l/qIm l b*b∣d/\l∣l/qIm l b*b/\b∣l/qIm l b*b:=by
 have e:l/qIm l b*b=Nat.lcm l b:=by
  delta Nat.lcm;exact Nat.div_mul_right_comm (qKh l b) b
 rw[e];exact⟨Nat.lcm_pos hl hb,Nat.lcm_dvd h1 h2,Nat.dvd_lcm_left l b,Nat.dvd_lcm_right l b⟩
theorem Ee{l b d:Int}(hl:0<l)(hb:0<b)(hd:0<d)(h1:l∣d)(h2:b∣d):0<l.fdiv (qBs l b:Int)*b/\l.fdiv (qBs l b:Int)*b∣d/\l∣l.fdiv (qBs l b:Int)*b/\b∣l.fdiv (qBs l b:Int)*b:=by
 obtain⟨l,rfl⟩:=qFy (qCf hl);obtain⟨b,rfl⟩:=qFy (qCf hb);obtain⟨d,rfl⟩:=qFy (qCf hd);have z:=Gm (l:=l) (b:=b) (d:=d) (by lia) (by lia) (Int.natCast_dvd_natCast.mp h1) (Int.natCast_dvd_natCast.mp h2);have e:(l:Int).fdiv (qBs (l:Int) (b:Int):Int)*(b:Int)=((l/qIm l b*b:Nat):Int):=by
  rw[qFk _ (by lia),Int.gcd_natCast_natCast,Int.natCast_mul,Int.natCast_ediv]
 rw[e];exact⟨by lia,Int.natCast_dvd_natCast.mpr z.2.1,Int.natCast_dvd_natCast.mpr z.2.2.1,Int.natCast_dvd_natCast.mpr z.2.2.2⟩
noncomputable abbrev ta(X d:Int):Int:=X.fdiv (dv X d)
noncomputable abbrev tb(X d:Int):Int:=d.fdiv (dv X d)
theorem Lp(h:0<d):dv X d=(qBs X d:Int):=by delta dv;rw[if_neg (by lia)]
theorem dD(h:0<d):ta X d*d=X*tb X d/\1<=tb X d/\qBs (ta X d) (tb X d)=1/\tb X d∣d:=by
 obtain⟨_,a,b,c⟩:=Ab X d (by lia);obtain⟨_,_,_,_,e,_⟩:=DM (t:=X) (b:=d) (by lia);exists a,b,c;show d.fdiv (dv X d)∣d;rw[Lp h];exact e
theorem kR(h:0<d){n:Nat}(s:Sm n d):Sm n (tb X d):=s.le (by
 have a:=dD (X:=X) h;have:=qEe h a.2.2.2;omega)
theorem mE(s:Sm n X):Sm n (ta X d):=s.fdiv
structure Gn (n:Nat) (X:Nat->Int) (d L:Int):Prop where
 pos:0<L
 dvd:L∣d
 all:∀j,j<n->tb (X j) d∣L
theorem wJ{n:Nat}{X:Nat->Int}{d L:Int}(d0:0<d)(h:Gn n X d L):Gn (n+1) X d (L.fdiv (qBs L (tb (X n) d):Int)*tb (X n) d):=by
 obtain⟨_,y1,_,yd⟩:=dD (X:=X n) d0;obtain⟨a,b,c,e⟩:=Ee h.pos (show 0<tb (X n) d by lia) d0 h.dvd yd;refine⟨a,b,fun j hj=>?_⟩;by_cases z:j=n
 .rw[z];exact e
 .exact Int.dvd_trans (h.all j (by lia)) c
theorem pS{n:Nat}{a t X:Nat->Int}{d L:Int}(e:∀j,j<n->t j*d=X j*L):(Wg.sm n fun j=>a j*t j)*d=(Wg.sm n fun j=>a j*X j)*L:=by
 rw[qCt,<- Wg.bT,qCt (Wg.sm n fun j=>a j*X j),<- Wg.bT];refine Wg.bC fun j hj=>?_;have:=e j hj;grind
theorem Am(h:k∣m*n)(g:qBs k m=1):k∣n:=by
 rw[<- qMp,qDv] at h;rw[<- qMp];exact Nat.Coprime.dvd_of_dvd_mul_left (show Nat.Coprime k.natAbs m.natAbs from g) h
theorem Ef:∀(cs:List Addr) (D:Nat->qGo) (b:Nat),(∀j c,cs[j]?=some c->iG K H (.ref c) (D j))->(∀j,(D j).depth<=b)->∃ds,ds=(qAk cs.length).map D/\cJ K H (cs.map V.ref) ds/\PyData.depthAll ds<=b+1
 | [],_,_,_,_=>⟨[],rfl,.nil,by simp[PyData.depthAll]⟩
 | c::cs,D,b,h,hd=>by
  obtain⟨ds,e,h1,h2⟩:=Ef cs (fun j=>D (j+1)) b (fun j c' e=>h (j+1) c' e) (fun j=>hd (j+1));exists D 0::ds,?_,.cons (h 0 c rfl) h1
  .rw[qBq,qIa,qCz,qCn,e];rfl
  .have e2:PyData.depthAll (D 0::ds)=max (PyData.depth (D 0)) (PyData.depthAll ds):=rfl;rw[e2];have:=hd 0;lia
theorem t5(h1:lo<=n)(h2:n<=hi):jV lo hi (bF n a)=true:=by
 delta jV;rw[aL,decide_eq_true h1,decide_eq_true h2];show(bF n a).all kX=true;rw[qKa];intro v hv;obtain⟨j,_,rfl⟩:=List.mem_map.mp hv;rfl
theorem An:∀v∈bF n a,Pl K H v:=fun v hv=>by
 obtain⟨j,_,rfl⟩:=List.mem_map.mp hv;exact .int _
theorem Ob(ins:Inst m n A due)(co:tW m n A due H pc pd cs)(hg:H pg=some (.lst (bF n g))):BO K H pc pd pg cs (fun j=>bF m (A j)) (bF m due) (bF n g):=by
 have m8:=ins.m8;have pP:=ins.pP;exact⟨co.hc,by rw[co.len];lia,fun j c e=>⟨co.at_ j c e,An,by rw[aL];lia⟩,co.hd,An,by rw[aL];lia,hg,An,by rw[aL];lia⟩
theorem Eg(ins:Inst m n A due):jW n (fun j=>bF m (A j)) (bF m due) (bF n g)=true:=by
 delta jW;rw[t5 ins.m1 ins.m8,decide_eq_true ins.pP,t5 (qAg _) (qAg _),aL];have e:((qAk n).map fun j=>jV m m (bF m (A j))).all id=true:=by
  rw[qKa];intro b hb;obtain⟨j,_,rfl⟩:=List.mem_map.mp hb;exact t5 (qAg _) (qAg _)
 rw[e];rfl
theorem yT(ins:Inst m n A due)(co:tW m n A due H pc pd cs)(hg:H pg=some (.lst (bF n g)))(sg:∀j,Sm 90000 (g j))(k:∀(r:Addr) (H':Hp),aH H H'->Told m n A due g H H' r->R (.ref r) H'):wF K NR [.ref pc,.ref pd,.ref pg] H R E:=by
 refine⟨pc,pd,pg,cs,_,_,_,rfl,Ob ins co hg,fun no=>?_,fun _=>⟨m,n,A,due,g,ins,co.len,fun j _=>rfl,rfl,rfl,sg,k⟩⟩;rw[co.len,Eg ins] at no;cases no
def Eh(K:qAd):Sp:=fun vs H Q _=>∃(v:V) (lo hi:Int),vs=[v,.int lo,.int hi]/\Pl K H v/\Q (.bl (FG lo hi v)) H
theorem Lq:aV ["thing","least","most"] ["thing","least","most"] (aI DK):=#[1,2]
theorem Gp(t:Tx K mg "is_number_within" DK ["thing","least","most"] f fd)(D:#[5] 1 "is_number" ["thing"] (mB K) f1 fd1):
  #[5] 2 "is_number_within" ["thing","least","most"] (Eh K) f fd:=by
 refine t.gO Lq (by rintro _ _ _ _⟨v,lo,hi,rfl,_⟩;rfl) fun _ _ _ _ H vs Q E hr h=>?_;obtain⟨v,lo,hi,rfl,pl,k⟩:=h;refine⟨_,aF (aT (kU (aY D hr (qAg _) #[0] (aA (pv 0) aB)) (jK (Ci uP uP (pv 1) (pv 0) (pv 2))))),?_⟩;exists _,rfl,v,rfl,pl,_,rfl;cases v with
 | int i =>
  refine iY ⟨_,rfl,_,rfl,lo,i,rfl,rfl,_,rfl,?_⟩;refine cK (fun h1=>⟨_,rfl,i,hi,rfl,rfl,?_⟩) (fun h1=>?_)
  .have e:decide (i<=hi)=FG lo hi (.int i):=by
    show _=(decide (lo<=i)&&decide (i<=hi));rw[h1,Bool.true_and]
   show Q (.bl (decide (i<=hi))) H;rw[e];exact k
  .have e:false=FG lo hi (.int i):=by
    show _=(decide (lo<=i)&&decide (i<=hi));rw[Bool.eq_false_iff.mpr h1,qGe]
   rw[e];exact k
 | _=>exact cM k
def Gq:Sp:=fun vs H Q _=>∃m:Nat,vs=[.int (m:Int)]/\m<=6/\∀H',aH H H'->Q (.int (2^m-1)) H'
theorem BP:∀m:_root_.Fin 7,(jD.take m.1).sum=2^m.1-1:=by decide
theorem PX:aV ["many"] ["many"] (aI PD):=#[1,2]
theorem Oc(t:Tx K mg "whole_company" PD ["many"] f fd)(T:#[4]):#[5] 1 "whole_company" ["many"] Gq f fd:=by
 refine t.gO PX (by rintro _ _ _ _⟨m,rfl,_⟩;rfl) fun _ _ _ s H vs Q E hr h=>?_;obtain⟨m,rfl,hm,k⟩:=h;refine⟨_,(aF (aT (aJ (dG rfl) #[0] T.gL gJ (aA (g7 zQ (fY (v:=.ref AL) #[0] T.Fb rfl) lF (gM (pv 0))) aB)))),?_⟩;refine⟨_,rfl,_,rfl,AL,_,rfl,T.al _,fun p H' s hq=>⟨p,jD.take m,rfl,.inr ?_,?_⟩⟩
 .rw[DS,<- qLm] at hq;exact hq
 .rw[BP ⟨m,by lia⟩];exact k H' s
def HB(K:qAd)(NG:Addr):Sp:=fun vs H Q E=>∃(v:V) (m:Nat),vs=[v,.int (m:Int)]/\m<=6/\Pl K H v/\(FG 0 (2^m-1) v=false->∀H',aH H H'->E (.ref NG) none H')/\(FG 0 (2^m-1) v=true->∀H',aH H H'->Q .non H')
theorem Od:aV ["group","many"] ["group","many"] (aI JX):=#[1,2]
theorem Lr(t:Tx K mg "check_group" JX ["group","many"] f fd)(T:#[4])(D_is_number_within:#[5] 2 "is_number_within" ["thing","least","most"] (Eh K) f1 fd1)
  (D_whole_company:#[5] 1 "whole_company" ["many"] Gq f2 fd2):#[1,1] 3 "check_group" ["group","many"] (HB K NG) f fd:=by
 refine t.Jc Od (by rintro _ _ _ _⟨v,m,rfl,_⟩;rfl) fun _ _ _ s H vs Q E hr h=>?_;obtain⟨v,m,rfl,hm,pl,k0,k⟩:=h;refine⟨_,(aF (bO (bZ (bX (aY D_is_number_within hr #[1] #[0] (aA (pv 0) (aA aE (aA (aY D_whole_company hr #[1] #[0] (aA (pv 1) aB)) aB)))))) (aF (gA dF rfl #[0] T.NJ T.NL (aA g5 aB))) aZ)),?_⟩;refine⟨_,rfl,_,rfl,m,rfl,hm,fun H' s=>⟨v,0,_,rfl,pl.same s,_,rfl,?_⟩⟩;cases e:FG 0 (2^m-1) v with
 | true=>exact cM (k e H' s)
 | false=>exact iY ⟨kE,k0 e H' s⟩
theorem pT(h0:0<=i)(h5:i<=5):eV (jD.map V.int) i=some (.int (alone i.toNat)):=by
 have h:i.toNat<6:=by lia
 have all:∀j:_root_.Fin 6,(jD.map V.int)[j.1]?=some (.int (alone j.1)):=by decide
 have z:=fA (all ⟨i.toNat,h⟩);rw[show(((⟨i.toNat,h⟩:_root_.Fin 6).1:Nat):Int)=i from qCx h0] at z;exact z
def HC(K:qAd)(NG:Addr):Sp:=fun vs H Q E=>∃v,vs=[v]/\Pl K H v/\(FG 0 (2^6-1) v=false->∀H',aH H H'->E (.ref NG) none H') /\
 ∀(g:Nat) (l:Addr) (H':Hp),v = .int (g:Int)->g<64->H l=none->aH H H'->H' l=some (.lst ((i6 g).map V.int))->Q (.ref l) H'
theorem Oe:aV ["group"] ["group"] (aI JY):=#[1,2]
theorem Ls(t:Tx K mg "hands_of" JY ["group"] f fd)(T:#[4])(D_check_group:#[1,1] 3 "check_group" ["group","many"] (HB K NG) f1 fd1):
  #[1,1] 4 "hands_of" ["group"] (HC K NG) f fd:=by
 refine t.Jc Oe (by rintro _ _ _ _⟨v,rfl,_⟩;rfl) fun _ _ _ _ H vs Q E hr h=>?_;obtain⟨v,rfl,pl,k0,k⟩:=h;refine⟨_,(aC (dO (fS dF.toPass D_check_group hr #[1] #[0] (aA (pv 0) (aA (aJ aN #[0] T.bV bH (aA (fY (v:=.ref AL) #[0] T.Fb rfl) aB)) aB))))
  (aF (aT (bM (NB:=["hand","group"]) (pick:=[none,some 0]) (bG #[7] (by exact(And.intro rfl trivial)) rfl #[2] #[2] #[0] #[0]) rfl
    (bY #[0] T.bW (aA (aJ aN #[0] T.bV bH (aA (fY (v:=.ref AL) #[0] T.Fb rfl) aB)) aB)) (fun _ _ _=>aO (i:=0) #[8,["hand","group"]] rfl bN)
    (fun _ _ _=>eF (aU fI (aM jB (pv 1) (aQ (fC K) (fY (v:=.ref AL) #[0] T.Fb rfl) (pv 0) #[6])) aE (aW _))) (fun _ _ _=>(pv 0)))))),?_⟩
 refine⟨_,rfl,AL,_,rfl,.inr (T.al _),v,6,rfl,by decide,pl,k0,fun h1 H' s1=>?_⟩;obtain⟨g,rfl,hg⟩:=DN h1;have hg:g<64:=hg;refine⟨AL,_,rfl,.inr (T.al _),_,rfl,by decide,by decide,?_⟩;refine CJ (rP g) #[1] (fun i H2 kk kk0 hi h1 h2=>?_) fun D hD=>?_
 .obtain⟨j,rfl⟩:∃j:Nat,j=i:=⟨i,rfl⟩;have e0:(0:Int)+(j:Int)=(j:Int):=qCe _;have hat:eV (jD.map V.int) ((0:Int)+(j:Int))=some (.int (alone j)):=by
   rw[e0];have z:=pT (i:=(j:Int)) (by lia) (by have:j<6:=hi;lia);simpa using z
  exists _,rfl,_,rfl,AL,_,_,_,rfl,rfl,T.al _,hat,_,_,rfl,rfl,rfl,_,rfl;refine cK (fun h3=>⟨_,rfl,h1 _ ?_⟩) (fun h3=>h2 ?_)
  .have z:¬V.int (qCu (g:Int) (alone j))=V.int 0:=of_decide_eq_false (by
    have z:(!decide (V.int (qCu (g:Int) (alone j))=V.int 0))=true:=h3;simpa using z)
   rw[e0];delta rP;rw[if_neg fun q=>z (congrArg V.int q)]
  .delta rP;refine if_pos (qBd fun q=>h3 ?_);show(!decide (V.int (qCu (g:Int) (alone j))=V.int 0))=true;rw[decide_eq_false fun z=>q (V.int.inj z)];rfl
 .have e':(qAk 6).filterMap (rP g)=(i6 g).map V.int:=yQ ⟨g,hg⟩;show Q _ (upd H' D (.lst ((qAk 6).filterMap (rP g))));rw[e'];exact k g D _ rfl hg (s1.free hD) (s1.trans (.aG hD)) aD
noncomputable def jX(xs:List V):Bool:=[2,4,8,16,32,64].contains xs.length&&xs.all kX&&decide (xs[0]?=some (.int 0))
def HD(K:qAd):Sp:=fun vs H Q _=>∃(p:Addr) (xs:List V),vs=[.ref p]/\H p=some (.lst xs)/\(∀v∈xs,Pl K H v)/\xs.length<=1000/\∀H',aH H H'->Q (.bl (jX xs)) H'
theorem Of:aV ["thing"] ["thing"] (aI Ka):=#[1,2]
theorem Gr(n:Nat):(!Hb (.int (n:Int)) (fR (pL.map V.int) (some 1) none)) = !([2,4,8,16,32,64].contains n):=by
 have e:fR (pL.map V.int) (some 1) none=[V.int 2,.int 4,.int 8,.int 16,.int 32,.int 64]:=by decide
 rw[e];have q:∀k:Nat,Fw (.int (k:Int)) (.int (n:Int))=(n == k):=fun k=>by
  show((k:Int) == (n:Int))=(n == k);rw[qGy,beq_iff_eq,beq_iff_eq];lia
 have:=q 2;have:=q 4;have:=q 8;have:=q 16;have:=q 32;have:=q 64;simp_all [Hb];rfl
theorem Lu(t:Tx K mg "is_table" Ka ["thing"] f fd)(T:#[4])(D_is_number:#[5] 1 "is_number" ["thing"] (mB K) f1 fd1):
  #[5] 2 "is_table" ["thing"] (HD K) f fd:=by
 refine t.gO Of (by rintro _ _ _ _⟨p,xs,rfl,_⟩;rfl) fun _ _ _ _ H vs Q E hr h=>?_;obtain⟨p,xs,rfl,hp,pl,hlen,k⟩:=h;refine⟨_,(aC (bO (PW.pt (pw_or (bZ (bX (aJ cN #[0] T.eX dY (aA (pv 0) (aA (cV (v:=.ty "list") #[0] T.cR cW rfl) aB))))) (pw_or1 (aU lJ (aJ aN #[0] T.bV bH (aA (pv 0) aB)) (g7 zQ (fY (v:=.ref LN) #[0] T.MG rfl) (gM aE) lF) #[0])))) (aF (aT fL)) aZ)
  (aF (aT (kU (aJ (pB rfl) #[0] T.pM xU (aA (bM (NB:=["number"]) (pick:=[none]) (bG #[7] (by exact trivial) rfl #[2] #[2] #[0] #[0]) rfl
    (bL (pv 0)) (fun _ _ _=>aO (i:=0) #[8,["number"]] rfl bN)
    (fun _ _ _=>bJ) (fun _ _ _=>(aY D_is_number hr #[1] #[0] (aA (pv 0) aB)))) aB)) (jK (eD dE (aQ a8 (pv 0) aE #[6]) aE (aW _))))))),?_⟩
 refine⟨_,rfl,.ref p,.ty "list",_,_,_,rfl,rfl,.of (.lst hp),Kd.lst.nO K,_,rfl,cM ?_⟩;refine⟨_,rfl,p,_,rfl,.inl (aS.of hp),_,rfl,LN,_,rfl,T.ln _,fun q H1 s1 hq=>⟨q,_,rfl,.inr hq,rfl,by decide,_,rfl,?_⟩⟩;show if (!Hb (.int (xs.length:Int)) (fR (pL.map V.int) (some 1) none))=true then _ else _;rw[Gr];cases ec:[2,4,8,16,32,64].contains xs.length with
 | false =>
  have e:false=jX xs:=by delta jX;rw[ec];rfl
  refine iY ?_;have z:=k H1 s1;rw[<- e] at z;exact z
 | true =>
  refine cM ⟨_,rfl,p,rfl,⟨xs,aS.of (s1 _ _ hp)⟩,?_⟩;refine cC (xs:=xs) (fun _ x=>some (.bl (kX x))) (aS.of (s1 _ _ hp)) (qAo (aK hlen)) (fun i x H2 kk kk0 s2 hx h1 h2=>?_) fun D H2 hD s2 hd=>?_
  .exact⟨_,rfl,x,rfl,(pl x (qAx hx)).same (s1.trans s2),h1 _ rfl _ (.refl _)⟩
  .have ed:((qAk xs.length).filterMap fun i=>(xs[i]?).bind fun x=>some (V.bl (kX x)))=(xs.map kX).map V.bl:=by
    rw[qCn,<- sW];rfl
   rw[ed] at hd;exists D,_,rfl,aS.of hd,_,rfl;have ea:(xs.map kX).all id=xs.all kX:=by rw[qPl];rfl
   rw[ea];cases eb:xs.all kX with
   | false =>
    have e:false=jX xs:=by delta jX;rw[ec,eb];rfl
    refine cM ?_;have z:=k H2 (s1.trans s2);rw[<- e] at z;exact z
   | true =>
    have hpos:0<xs.length:=by
     cases xs with
     | nil=>exact absurd ec #[1]
     | cons _ _=>exact qPq _
    obtain⟨i,hi⟩:∃i,xs[0]?=some (.int i):=by
     have hm:=List.all_eq_true.mp eb xs[0] (qDa hpos);cases e0:xs[0] with
     | int i=>exact⟨i,by rw[qAc hpos,e0]⟩
     | _=>rw[e0] at hm;exact(qAq hm).elim
    refine iY ⟨_,rfl,p,_,_,_,rfl,rfl,aS.of (s2 _ _ (s1 _ _ hp)),fA hi,rfl,?_⟩;have e:decide (V.int i=V.int 0)=jX xs:=by delta jX;rw[ec,eb,hi];simp
    show Q (.bl (decide (V.int i=V.int 0))) H2;rw[e];exact k H2 (s1.trans s2)
def HE(K:qAd)(NT:Addr):Sp:=fun vs H Q E=>∃(p:Addr) (xs:List V),vs=[.ref p]/\H p=some (.lst xs)/\(∀v∈xs,Pl K H v)/\xs.length<=1000/\(jX xs=false->∀H',aH H H'->E (.ref NT) none H') /\
 ∀m:Nat,1<=m->m<=6->xs.length=2^m->jX xs=true->∀H',aH H H'->Q (.int (m:Int)) H'
theorem Og:aV ["table"] ["table"] (aI Kb):=#[1,2]
theorem Gs(h:jX xs=true):∃m:Nat,1<=m/\m<=6/\xs.length=2^m:=by
 have z:[2,4,8,16,32,64].contains xs.length=true:=by
  delta jX at h;rw[qCd,qCd] at h;exact h.1.1
 have z:xs.length∈[2,4,8,16,32,64]:=by simpa using z
 simp only[qEd,qDe,or_false] at z;rcases z with z | z | z | z | z | z
 .exact⟨1,by decide,by decide,z⟩
 .exact⟨2,by decide,by decide,z⟩
 .exact⟨3,by decide,by decide,z⟩
 .exact⟨4,by decide,by decide,z⟩
 .exact⟨5,by decide,by decide,z⟩
 .exact⟨6,by decide,by decide,z⟩
theorem Gu:∀m:_root_.Fin 7,pL[m.1]?=some ((2:Int)^m.1)/\∀j:_root_.Fin 7,j.1<m.1->pL[j.1]?≠some ((2:Int)^m.1):=by decide
theorem Lv(t:Tx K mg "hands_in" Kb ["table"] f fd)(T:#[4])(D_is_table:#[5] 2 "is_table" ["thing"] (HD K) f1 fd1):
  #[1,1] 3 "hands_in" ["table"] (HE K NT) f fd:=by
 refine t.Jc Og (by rintro _ _ _ _⟨p,xs,rfl,_⟩;rfl) fun _ _ _ _ H vs Q E hr h=>?_;obtain⟨p,xs,rfl,hp,pl,hlen,k0,k⟩:=h;refine⟨_,(aC (bO (bZ (bX (aY D_is_table hr #[1] #[0] (aA (pv 0) aB)))) (aF (gA dF rfl #[0] T.NK T.NM (aA g5 aB))) aZ)
  (aF (aT (lK PySem.F.plainAttrs_tuple PySem.F.slot_tuple_index PySem.F.type_tuple_index CO (fY (v:=.ref LN) #[0] T.MG rfl) (aA (aJ aN #[0] T.bV bH (aA (pv 0) aB)) aB))))),?_⟩
 refine⟨_,rfl,p,xs,rfl,hp,pl,hlen,fun H1 s1=>⟨_,rfl,?_⟩⟩;cases e:jX xs with
 | false=>exact iY ⟨kE,k0 e H1 s1⟩
 | true =>
  obtain⟨m,h1,h6,hm⟩:=Gs e;obtain⟨l1,l2⟩:=Gu ⟨m,by lia⟩;refine cM ⟨.inr (.inl ⟨rfl,T.QM⟩),_,rfl,p,_,rfl,.inl (aS.of (s1 _ _ hp)),LN,pL,_,m,rfl,rfl,T.ln _,?_,?_,k m h1 h6 hm e H1 s1⟩
  .rw[hm,l1];push_cast;rfl
  .intro j hj;have z:=l2 ⟨j,by lia⟩ hj;rw[hm];intro q;refine z (q.trans ?_);push_cast;rfl
def PY(m:Nat)(rs:List Int):Prop:=1<=m/\m<=6/\rs.length=2^m/\rs[0]?=some 0
theorem Gv(t:PY m rs):jX (rs.map V.int)=true:=by
 obtain⟨m1,m6,h,h0⟩:=t;have hc:[2,4,8,16,32,64].contains (2^m)=true:=by
  have all:∀k:_root_.Fin 7,1<=k.1->[2,4,8,16,32,64].contains (2^k.1)=true:=by decide
  exact all ⟨m,by lia⟩ m1
 delta jX;rw[qAa,h,hc,all_ints,qAn,h0];rfl
noncomputable def bt(g i:Nat):Int:=((g/2^i%2:Nat):Int)
theorem wK(g i:Nat):bt g i=0\/bt g i=1:=by delta bt;lia
theorem rW(g i:Nat):Sm 2 (bt g i):=by
 show(bt g i).natAbs<2^2;rcases wK g i with e | e <;> rw[e] <;> decide
theorem Ei:∀(g:_root_.Fin 64) (i:_root_.Fin 6),(if (!decide (V.int (qCu ((g.1:Nat):Int) (alone i.1))=V.int 0))=true then (1:Int) else 0)=bt g.1 i.1:=by decide +kernel
def wL:Sp:=fun vs H Q _=>∃g m:Nat,vs=[.int (g:Int),.int (m:Int)]/\g<64/\m<=6/\∀D H',H D=none->aH H H'->H' D=some (.lst (bF m (bt g)))->Q (.ref D) H'
theorem Oh:aV ["group","many"] ["group","many"] (aI JZ):=#[1,2]
theorem Lw(t:Tx K mg "marks_of" JZ ["group","many"] f fd)(T:#[4]):#[5] 1 "marks_of" ["group","many"] wL f fd:=by
 refine t.gO Oh (fun vs H Q E h=>?_) (fun cdv _A outer s H vs Q E hr h=>?_)
 .obtain⟨g,m,rfl,_⟩:=h;rfl
 .obtain⟨g,m,rfl,hg,hm,k⟩:=h;refine⟨_,(aF (aT (bM (NB:=["hand","group"]) (pick:=[none,some 0]) (bG #[7] (by exact(And.intro rfl trivial)) rfl #[2] #[2] #[0] #[0]) rfl
     (bY #[0] T.bW (aA (pv 1) aB)) (fun _ _ _=>aO (i:=0) #[8,["hand","group"]] rfl bN)
     (fun _ _ _=>bJ) (fun _ _ _=>(oT (aU fI (aM jB (pv 1) (aQ (fC K) (fY (v:=.ref AL) #[0] T.Fb rfl) (pv 0) #[6])) aE (aW _)) aE aE))))),?_⟩
  refine⟨_,rfl,m,rfl,by lia,by lia,?_⟩;refine fN (n:=m) (fun j=>some (.int (bt g j))) (qAo (aK (by lia))) (fun j H2 kk kk0 s2 hj g1 g2=>?_) fun D H2 hD s2 hd=>?_
  .have e0:(0:Int)+(j:Int)=(j:Int):=qCe _;have hat:eV (jD.map V.int) ((0:Int)+(j:Int))=some (.int (alone j)):=by
    rw[e0];have z:=pT (i:=(j:Int)) (by lia) (by lia);simpa using z
   have z:=Ei ⟨g,hg⟩ ⟨j,by lia⟩;dsimp only at z;refine⟨_,rfl,_,rfl,AL,_,_,_,rfl,rfl,T.al _,hat,_,_,rfl,rfl,rfl,_,rfl,cK (fun h3=>?_) (fun h3=>?_)⟩
   .rw[if_pos h3] at z;exact g1 _ (by rw[<- z]) _ (.refl _)
   .rw[if_neg h3] at z;exact g1 _ (by rw[<- z]) _ (.refl _)
  .refine k D H2 hD s2 ?_;rw[hd,qDo];rfl
theorem Ej{l b:Int}(hl:0<l)(hb:0<b):l*b.fdiv (qBs l b:Int)=l.fdiv (qBs l b:Int)*b:=by
 have g0:(0:Int)<(qBs l b:Int):=by
  have:=qHd b (show l≠0 by lia);lia
 obtain⟨c,hc⟩:=qKi (a:=l) (b:=b);obtain⟨e,he⟩:=qJu (a:=l) (b:=b);generalize hG:(qBs l b:Int)=G at *;have e1:b.fdiv G=e:=by rw[he];exact qCp _ (by lia)
 have e2:l.fdiv G=c:=by rw[hc];exact qCp _ (by lia)
 rw[e1,e2,hc];grind
def Ek:Sp:=fun vs H Q _=>∃(l:Addr) (n:Nat) (X:Nat->Int) (d:Int) (ws:List Addr),vs=[.ref l]/\kC n X d H l ws/\0<d/\Sm 6000 d/\∀L,Gn n X d L->Q (.int L) H
theorem Ao:aV ["fractions","common","one"] ["fractions"] (aI JV):=#[1,2]
theorem Lx{f1:Addr}{fd1:qCo}(t:Tx K mg "common_bottom" JV ["fractions"] f fd)(T:#[4])(D_greatest_divisor:#[5] 1 "greatest_divisor" ["one","other"] DU f1 fd1):
  #[5] 2 "common_bottom" ["fractions"] Ek f fd:=by
 refine t.gO Ao (by rintro _ _ _ _⟨l,n,X,d,ws,rfl,_⟩;rfl) fun _ _ _ _ H vs Q E hr h=>?_;obtain⟨l,n,X,d,ws,rfl,fl,d0,sd,k⟩:=h;refine⟨_,(aC (aP (i:=1) Ao.nd rfl bN aE)
  (aC (cF #[9] rfl (bL (pv 0)) (aO (i:=2) Ao.nd rfl bN)
   (aF (aP (i:=1) Ao.nd rfl bN (aM bK (pv 1) (aM gB (aQ bB (pv 2) aE #[6]) (aY D_greatest_divisor hr #[1] #[0] (aA (pv 1) (aA (aQ bB (pv 2) aE #[6]) aB))))))))
  (aF (aT (pv 1))))),?_⟩
 exists _,rfl,l,rfl,⟨_,aS.of fl.hr⟩;refine dX (xs:=ws.map V.ref) (fun i σ H2=>H2=H/\∃(L:Int) (o:Option V),σ=[some (.ref l),some (.int L),o]/\Gn i X d L) ⟨rfl,1,_,rfl,by decide,qPy _,fun j hj=>by omega⟩ (fun i σ H2 _ ⟨e,_⟩=>by rw[e];exact aS.of fl.hr) (fun i y σ H2 hy z9=>?_) (fun σ H2 z9=>?_)
 .obtain⟨eH,L,o,eσ,lo⟩:=z9;subst eH eσ;obtain⟨p,hp,rfl⟩:=dB hy;have hpt:=fl.at_ i p hp;obtain⟨_,y1,_,yd⟩:=dD (X:=X i) d0;have sL:Sm 6000 L:=sd.le (by have:=qEe d0 lo.dvd;have:=lo.pos;omega);have sb:=kR (X:=X i) d0 sd;have g0:(qBs L (tb (X i) d):Int)≠0:=by
   have:=qHd (tb (X i) d) (show L≠0 by have:=lo.pos;omega);omega
  have sg:Sm 6000 ((qBs L (tb (X i) d):Nat):Int):=sL.le (by
   rw[qNu];exact qJn (by have:=lo.pos;omega) (qKh _ _))
  have st:=wJ d0 lo;rw[<- Ej lo.pos (show 0<tb (X i) d by omega)] at st;exact⟨_,rfl,_,rfl,p,_,_,_,rfl,rfl,cE.of hpt,rfl,_,rfl,_,rfl,p,_,_,_,rfl,rfl,cE.of hpt,rfl,_,_,rfl,_,_,rfl,rfl,sg.db g0,_,_,rfl,rfl,sL.mb sb.fdiv,rfl,_,_,rfl,st⟩
 .obtain⟨eH,L,o,eσ,lo⟩:=z9;subst eH eσ;rw[qAa,fl.len] at lo;exact⟨_,rfl,k L lo⟩
def El:Sp:=fun vs H Q _=>∃(l:Addr) (n:Nat) (X:Nat->Int) (d L:Int) (ws:List Addr),vs=[.int L,.ref l]/\kC n X d H l ws/\n<=100/\0<d/\Sm 6000 d/\(∀j,Sm 300000 (X j))/\Gn n X d L /\
 ∀(D:Addr) (H':Hp) (tt:Nat->Int),H D=none->aH H H'->H' D=some (.lst (bF n tt))->(∀j,j<n->tt j*d=X j*L)->(∀j,Sm 320000 (tt j))->Q (.ref D) H'
theorem Oi:aV ["bottom","fractions"] ["bottom","fractions"] (aI JW):=#[1,2]
theorem Ly(t:Tx K mg "tops_over" JW ["bottom","fractions"] f fd)(T:#[4]):#[5] 1 "tops_over" ["bottom","fractions"] El f fd:=by
 refine t.gO Oi (by rintro _ _ _ _⟨l,n,X,d,L,ws,rfl,_⟩;rfl) fun _ _ _ _ H vs Q E hr h=>?_;obtain⟨l,n,X,d,L,ws,rfl,fl,n1,d0,sd,sX,lo,k⟩:=h;refine⟨_,(aF (aT (bM (NB:=["one","bottom"]) (pick:=[none,some 0]) (bG #[7] (by exact(And.intro rfl trivial)) rfl #[2] #[2] #[0] #[0]) rfl
    (bL (pv 1)) (fun _ _ _=>aO (i:=0) #[8,["one","bottom"]] rfl bN)
    (fun _ _ _=>bJ) (fun _ _ _=>(aM bK (aQ (fC K) (pv 0) aE #[6]) (aM gB (pv 1) (aQ (fC K) (pv 0) aE #[6]))))))),?_⟩
 have sL:Sm 6000 L:=sd.le (by have:=qEe d0 lo.dvd;have:=lo.pos;lia);exists _,rfl,l,rfl,⟨_,aS.of fl.hr⟩;refine cC (xs:=ws.map V.ref) (fun j _=>some (.int (ta (X j) d*L.fdiv (tb (X j) d)))) (aS.of fl.hr) (by rw[qAa,fl.len];exact qAo (aK (by lia))) (fun j y H2 kk kk0 s2 hy g1 g2=>?_) fun D H2 hD s2 hd=>?_
 .obtain⟨p,hp,rfl⟩:=dB hy;have hpt:=s2 _ _ (fl.at_ j p hp);obtain⟨_,y1,_,yd⟩:=dD (X:=X j) d0;exact⟨_,rfl,p,_,_,_,rfl,rfl,cE.of hpt,rfl,_,rfl,_,rfl,p,_,_,_,rfl,rfl,cE.of hpt,rfl,_,_,rfl,rfl,(kR (X:=X j) d0 sd).db (show tb (X j) d≠0 by lia),_,_,rfl,rfl,(mE (sX j)).mb sL.fdiv,g1 _ rfl _ (.refl _)⟩
 .refine k D H2 (fun j=>ta (X j) d*L.fdiv (tb (X j) d)) hD s2 ?_ (fun j hj=>?_) fun j=>((mE (sX j)).mul sL.fdiv).mono #[1]
  .rw[hd,qAa,fl.len,iN _ (by rw[qAa,fl.len])];rfl
  .obtain⟨e,y1,_,yd⟩:=dD (X:=X j) d0;obtain⟨c,hc⟩:=lo.all j hj;have e2:L.fdiv (tb (X j) d)=c:=by
    rw[hc];exact qCp _ (by lia)
   rw[e2,hc];generalize ta (X j) d=a at e;generalize tb (X j) d=b at e;grind
theorem jY(hy:0<y)(hd:0<d)(e:x*d=X*y):gC x y=gC X d:=by
 obtain⟨a1,b1,c1,_⟩:=dD (X:=x) hy;obtain⟨a2,b2,c2,_⟩:=dD (X:=X) hd;generalize hp1:ta x y=p1 at *;generalize hq1:tb x y=q1 at *;generalize hp2:ta X d=p2 at *;generalize hq2:tb X d=q2 at *;have cross:p1*q2=p2*q1:=by
  have hne:y*d≠0:=qLb (by lia) (by lia);refine qEu hne ?_;have e1:p1*q2*(y*d)=(p1*y)*q2*d:=by grind
  have e2:p2*q1*(y*d)=(p2*d)*q1*y:=by grind
  rw[e1,e2,a1,a2];have e3:x*q1*q2*d=x*d*(q1*q2):=by grind
  have e4:X*q2*q1*y=X*y*(q1*q2):=by grind
  rw[e3,e4,e]
 have d12:q1∣q2:=Am (m:=p1) (by rw[cross];exact qOo ..) (by rw[qMq];exact c1);have d21:q2∣q1:=Am (m:=p2) (by rw[<- cross];exact qOo ..) (by rw[qMq];exact c2);have qq:q1=q2:=by
  have l1:=qEe (by lia) d12;have l2:=qEe (by lia) d21;lia
 have pp:p1=p2:=by
  rw[qq] at cross;exact qEu (by lia) cross
 show HO.tup [V.int (ta x y),V.int (tb x y)]=HO.tup [V.int (ta X d),V.int (tb X d)];rw[hp1,hq1,hp2,hq2,pp,qq]
def HF:Sp:=fun vs H Q _=>∃(p q:Addr) (a b d:Int),vs=[.ref p,.ref q]/\H p=some (gC a d)/\H q=some (gC b d)/\0<d/\Sm 3000 d/\Sm 400000 a/\Sm 400000 b/\∀r H',aH H H'->H' r=some (gC (a+b) d)->Q (.ref r) H'
theorem Oj:aV ["one","other"] ["one","other"] (aI JT):=#[1,2]
theorem Lz(t:Tx K mg "plus" JT ["one","other"] f fd)(T:#[4])(D_fraction:#[1,1] 2 "fraction" ["top","bottom"] (tU K NN) f1 fd1):
  #[5] 3 "plus" ["one","other"] HF f fd:=by
 refine t.gO Oj (by rintro _ _ _ _⟨p,q,a,b,d,rfl,_⟩;rfl) fun _ _ _ _ H vs Q E hr h=>?_;obtain⟨p,q,a,b,d,rfl,hp,hq,d0,sd,sa,sb,k⟩:=h;obtain⟨e1,y1,_,_⟩:=dD (X:=a) d0;obtain⟨e2,y2,_,_⟩:=dD (X:=b) d0;have n2:1*1<=tb a d*tb b d:=qPb y1 y2 #[1] (by omega);have s1:=kR (X:=a) d0 sd;have s2:=kR (X:=b) d0 sd;refine⟨_,(aF (aT (fS cI D_fraction hr #[1] #[0] (aA (aM fF (aM bK (aQ bB (pv 0) aE #[6]) (aQ bB (pv 1) aE #[6])) (aM bK (aQ bB (pv 1) aE #[6]) (aQ bB (pv 0) aE #[6]))) (aA (aM bK (aQ bB (pv 0) aE #[6]) (aQ bB (pv 1) aE #[6])) aB))))),?_⟩;exists _,rfl,p,_,_,_,rfl,rfl,cE.of hp,rfl,_,rfl,q,_,_,_,rfl,rfl,cE.of hq,rfl,_,_,rfl,rfl,(mE sa).mb s2,_,rfl,q,_,_,_,rfl,rfl,cE.of hq,rfl,_,rfl,p,_,_,_,rfl,rfl,cE.of hp,rfl,_,_,rfl,rfl,(mE sb).mb s1,_,_,rfl,rfl,_,rfl,p,_,_,_,rfl,rfl,cE.of hp,rfl,_,rfl,q,_,_,_,rfl,rfl,cE.of hq,rfl,_,_,rfl,rfl,s1.mb s2;dsimp only[iR,qCj,qCl];refine pR (by show tb a d*tb b d≠0;omega) ((s1.mul s2).mono #[1]) fun r hr=>k r _ (.aG hr) ?_;rw[aD];have e:gC (ta a d*tb b d+ta b d*tb a d) (tb a d*tb b d)=gC (a+b) d:=by
  refine jY (by omega) d0 ?_;have z1:(ta a d*tb b d+ta b d*tb a d)*d=(ta a d*d)*tb b d+(ta b d*d)*tb a d:=by grind
  rw[z1,e1,e2];grind
 exact congrArg some e
theorem HG(g:Nat)(Y:Nat->Int):∀i,((hN g i).map fun h=>Y h.toNat).sum=Wg.sm i fun h=>bt g h*Y h
 | 0=>rfl
 | i+1=>by
  have ih:=HG g Y i;show _=(Wg.sm i fun h=>bt g h*Y h)+bt g i*Y i;rw[<- ih];have eh:hN g (i+1)=if g/2^i%2=1 then hN g i++[(i:Int)] else hN g i:=rfl;rw[eh];delta bt;split
  .rename_i e;rw[e,qAr,qFf,qCz,qEv,qGs,qMa,qDn,qBb];simp
  .have e:g/2^i%2=0:=by lia
   rw[e];simp
theorem Ol(hg:g<2^m)(hi:m<=i):bt g i=0:=by
 delta bt;rw[qOm (qBc hg (qBh #[1] hi))];rfl
theorem Ap{m g:Nat}{Y:Nat->Int}(hg:g<2^m):∀k,(Wg.sm (m+k) fun h=>bt g h*Y h)=Wg.sm m fun h=>bt g h*Y h
 | 0=>rfl
 | k+1=>by
  show(Wg.sm (m+k) fun h=>bt g h*Y h)+bt g (m+k)*Y (m+k)=_;rw[Ap hg k,Ol hg (by lia),qBi,qDn]
theorem Em(a b c e:Int):PyData.eqv (.tuple [.int a,.int b]) (.tuple [.int c,.int e])=(decide (a=c)&&decide (b=e)):=by
 simp[PyData.eqv,PyData.eqvAll];rfl
theorem mF(a b:Int):(PyData.tuple [.int a,.int b]).depth<=64:=by simp[PyData.depth,PyData.depthAll]
theorem yU{K:qAd}{H:Hp}{w:Addr}{X d:Int}(h:H w=some (gC X d)):iG K H (.ref w) (.tuple [.int (ta X d),.int (tb X d)]):=.tup (cE.of h) (.cons (.int _) (.cons (.int _) .nil))
theorem En(d0:0<d):(decide (ta X d=c)&&decide (tb X d=1))=decide (X=c*d):=by
 obtain⟨e1,y1,_,yd⟩:=dD (X:=X) d0;by_cases h:X=c*d
 .have z:gC X d=gC c 1:=jY d0 #[1] (by rw[h];grind);have z1:gC c 1 = .tup [.int c,.int 1]:=by
   have e:dv c 1=1:=by delta dv;rw[if_neg #[1],qQb];rfl
   delta gC;rw[e,qKd,qKd]
  rw[z1] at z;have z:HO.tup [V.int (ta X d),V.int (tb X d)]=HO.tup [V.int c,V.int 1]:=z;injection z with z;injection z with a b;injection b with b _;rw[decide_eq_true h,V.int.inj a,V.int.inj b];simp
 .rw[decide_eq_false h];by_cases h1:tb X d=1
  .rw[h1,qHc] at e1;rw[decide_eq_false fun z=>h (by rw[<- e1,z])];rfl
  .rw[decide_eq_false h1,qIv]
def eB(H:Hp)(d:Int):List V->List (Int×Int)->Prop
 | [],[]=>True
 | v::vs,p::ps=>(∃a w,v = .ref a/\H a=some (.tup [.int p.1,.ref w])/\H w=some (gC p.2 d))/\eB H d vs ps
 | _,_=>False
theorem eB.t(s:lO H H'):∀{vs:List V}{ps:List (Int×Int)},eB H d vs ps->eB H' d vs ps
 | [],[],_=>trivial
 | v::vs,p::ps,⟨⟨a,w,e,h,h'⟩,r⟩=>⟨⟨a,w,e,s _ _ h,s _ _ h'⟩,r.t s⟩
 | [],_::_,h=>h.elim
 | _::_,[],h=>h.elim
theorem eB.app{H:Hp}{d:Int}{a w:Addr}{p:Int×Int}(h:H a=some (.tup [.int p.1,.ref w]))(h':H w=some (gC p.2 d)):∀{vs:List V}{ps:List (Int×Int)},eB H d vs ps->eB H d (vs++[.ref a]) (ps++[p])
 | [],[],_=>⟨⟨a,w,rfl,h,h'⟩,trivial⟩
 | v::vs,q::ps,⟨x,r⟩=>⟨x,r.app h h'⟩
 | [],_::_,h=>h.elim
 | _::_,[],h=>h.elim
theorem eB.len:∀{vs:List V}{ps:List (Int×Int)},eB H d vs ps->vs.length=ps.length
 | [],[],_=>rfl
 | v::vs,q::ps,⟨_,r⟩=>by rw[qBq,qBq,r.len]
 | [],_::_,h=>h.elim
 | _::_,[],h=>h.elim
theorem eB.get:∀{vs:List V}{ps:List (Int×Int)},eB H d vs ps->∀{i:Nat}{v:V},vs[i]?=some v->∃a w p,ps[i]?=some p/\v = .ref a/\H a=some (.tup [.int p.1,.ref w])/\H w=some (gC p.2 d)
 | [],[],_,i,v,e=>by cases i <;> cases e
 | v::vs,q::ps,⟨⟨a,w,e1,h1,h2⟩,r⟩,0,v',e=>⟨a,w,q,rfl,by rw[<- e1];exact(Option.some.inj e).symm,h1,h2⟩
 | v::vs,q::ps,⟨_,r⟩,i+1,v',e=>r.get (i:=i) e
 | [],_::_,h,_,_,_=>h.elim
 | _::_,[],h,_,_,_=>h.elim
theorem Gw:∀a b:_root_.Fin 7,2^a.1=2^b.1->a.1=b.1:=by decide
theorem PZ:∀m:_root_.Fin 7,Wg.qH m.1*1^m.1<2^3000:=by decide +kernel
theorem Eo(m6:m<=6)(dm:pQ m A due d)(hA:∀j i,(A j i).natAbs<=1)(hd:∀i,(due i).natAbs<=1):Sm 3000 d :=
 qBp (dm 1 (qAg _) hA hd) (PZ ⟨m,by lia⟩)
theorem pU(g i:Nat):(bt g i).natAbs<=1:=by rcases wK g i with e | e <;> rw[e] <;> decide
theorem mG:∀(m:_root_.Fin 7) (i:_root_.Fin 6),i.1<m.1->bt (2^m.1-1) i.1=1:=by decide +kernel
theorem Ep(m6:m<=6)(Y:Nat->Int):(Wg.sm m fun i=>bt (2^m-1) i*Y i)=Wg.sm m Y:=Wg.bC fun i hi=>by
 rw[show bt (2^m-1) i=1 from mG ⟨m,by lia⟩ ⟨i,by lia⟩ hi,qCm]
theorem BQ:∀(m:_root_.Fin 7) (g:_root_.Fin 64),1<=g.1->g.1<2^m.1->∃i:_root_.Fin 6,i.1<m.1/\bt g.1 i.1=1:=by decide +kernel
theorem pJ{n:Nat}{f:Nat->Int}(h:∀j,j<n->0<=f j):0<=Wg.sm n f:=by
 have z:(Wg.sm n fun _=>(0:Int))=0:=Wg.cL fun _ _=>rfl;rw[<- z];exact Wg.vR h
theorem yV{n:Nat}{f:Nat->Int}(h:∀j,j<n->0<=f j)(e:Wg.sm n f=0):∀j,j<n->f j=0:=by
 induction n with
 | zero=>intro j hj;lia
 | succ n ih =>
  have e:Wg.sm n f+f n=0:=e;have a:=pJ (n:=n) fun j hj=>h j (by lia);have b:=h n (by lia);intro j hj;by_cases z:j=n
  .subst z;lia
  .exact ih (fun j hj=>h j (by lia)) (by lia) j (by lia)
theorem pV(d0:0<d):(!PyData.eqv (.tuple [.int (ta X d),.int (tb X d)]) (.tuple [.int 0,.int 1]))=decide (X≠0):=by
 rw[Em,En d0,qBi];by_cases h:X=0
 .rw[decide_eq_true h,decide_eq_false (fun z=>z h)];rfl
 .rw[decide_eq_false h,decide_eq_true h];rfl
def Er:Sp:=fun vs H Q _=>∃(p q:Addr) (a b d:Int),vs=[.ref p,.ref q]/\H p=some (gC a d)/\H q=some (gC b d)/\0<d/\Sm 3000 d/\Sm 400000 a/\Sm 400000 b/\∀r H',aH H H'->H' r=some (gC (a-b) d)->Q (.ref r) H'
theorem Om:aV ["one","other"] ["one","other"] (aI JU):=#[1,2]
theorem LA(t:Tx K mg "minus" JU ["one","other"] f fd)(T:#[4])(D_fraction:#[1,1] 2 "fraction" ["top","bottom"] (tU K NN) f1 fd1):
  #[5] 3 "minus" ["one","other"] Er f fd:=by
 refine t.gO Om (by rintro _ _ _ _⟨p,q,a,b,d,rfl,_⟩;rfl) fun _ _ _ _ H vs Q E hr h=>?_;obtain⟨p,q,a,b,d,rfl,hp,hq,d0,sd,sa,sb,k⟩:=h;obtain⟨e1,y1,_,_⟩:=dD (X:=a) d0;obtain⟨e2,y2,_,_⟩:=dD (X:=b) d0;have n2:1*1<=tb a d*tb b d:=qPb y1 y2 #[1] (by lia);have s1:=kR (X:=a) d0 sd;have s2:=kR (X:=b) d0 sd;refine⟨_,(aF (aT (fS cI D_fraction hr #[1] #[0] (aA (aM fG (aM bK (aQ bB (pv 0) aE #[6]) (aQ bB (pv 1) aE #[6])) (aM bK (aQ bB (pv 1) aE #[6]) (aQ bB (pv 0) aE #[6]))) (aA (aM bK (aQ bB (pv 0) aE #[6]) (aQ bB (pv 1) aE #[6])) aB))))),?_⟩;exists _,rfl,p,_,_,_,rfl,rfl,cE.of hp,rfl,_,rfl,q,_,_,_,rfl,rfl,cE.of hq,rfl,_,_,rfl,rfl,(mE sa).mb s2,_,rfl,q,_,_,_,rfl,rfl,cE.of hq,rfl,_,rfl,p,_,_,_,rfl,rfl,cE.of hp,rfl,_,_,rfl,rfl,(mE sb).mb s1,_,_,rfl,rfl,_,rfl,p,_,_,_,rfl,rfl,cE.of hp,rfl,_,rfl,q,_,_,_,rfl,rfl,cE.of hq,rfl,_,_,rfl,rfl,s1.mb s2;dsimp only[iR,qCj,qCl];refine pR (by show tb a d*tb b d≠0;lia) ((s1.mul s2).mono #[1]) fun r hr=>k r _ (.aG hr) ?_;rw[aD];have e:gC (ta a d*tb b d-ta b d*tb a d) (tb a d*tb b d)=gC (a-b) d:=by
  refine jY (by lia) d0 ?_;have z1:(ta a d*tb b d-ta b d*tb a d)*d=(ta a d*d)*tb b d-(ta b d*d)*tb a d:=by grind
  rw[z1,e1,e2];grind
 exact congrArg some e
def Es:Sp:=fun vs H Q _=>∃(p:Addr) (n:Nat) (g:Nat->Int),vs=[.ref p]/\H p=some (.lst (bF n g))/\n<=100/\∀D H',H D=none->aH H H'->H' D=some (.lst (bF n fun i=>-g i))->Q (.ref D) H'
theorem Oo:aV ["column"] ["column"] (aI Kc):=#[1,2]
theorem LB(t:Tx K mg "below_nought" Kc ["column"] f fd)(T:#[4]):#[5] 1 "below_nought" ["column"] Es f fd:=by
 refine t.gO Oo (fun vs H Q E h=>?_) (fun cdv _A outer s H vs Q E hr h=>?_)
 .obtain⟨p,n,g,rfl,_⟩:=h;rfl
 .obtain⟨p,n,g,rfl,hp,hn,k⟩:=h;refine⟨_,(aF (aT (bM (NB:=["number"]) (pick:=[none]) (bG #[7] (by exact trivial) rfl #[2] #[2] #[0] #[0]) rfl
     (bL (pv 0)) (fun _ _ _=>aO (i:=0) #[8,["number"]] rfl bN)
     (fun _ _ _=>bJ) (fun _ _ _=>(jG gH (pv 0)))))),?_⟩
  exists _,rfl,p,rfl,⟨_,aS.of hp⟩;refine cC (xs:=bF n g) (fun i _=>some (.int (-g i))) (aS.of hp) (by rw[aL];exact qAo (aK (by lia))) (fun i x H2 kk kk0 s2 hx g1 g2=>?_) fun D H2 hD s2 hd=>?_
  .obtain⟨hi,rfl⟩:=eQ hx;exists _,rfl,_,rfl;exact g1 _ rfl _ (.refl _)
  .refine k D H2 hD s2 ?_;rw[hd,aL,iN _ (aL _ _)];rfl
theorem Oq(x:Int):(!decide (V.int x=V.int 0))=decide (x≠0):=by
 by_cases e:x=0
 .rw[decide_eq_true (show V.int x=V.int 0 by rw[e]),decide_eq_false (Classical.not_not.mpr e)];rfl
 .rw[decide_eq_false (fun z=>e (V.int.inj z)),decide_eq_true e];rfl
noncomputable def Gx:Nat->Nat
 | 0=>0
 | k+1=>2*Gx k+3
theorem pW:∀{j k:Nat},j<=k->Gx j<=Gx k
 | j,0,h=>by rw[Nat.le_zero.mp h];exact qAg _
 | j,k+1,h=>by
  rcases qAm k j with z | z
  .rw[show j=k+1 by lia];exact qAg _
  .have:=pW (j:=j) (k:=k) z;show Gx j<=2*Gx k+3;lia
structure Ot (m:Nat) (rs:List (Nat->Int)) (H:Hp) (q:Addr) (as:List Addr):Prop where
 hq:H q=some (.lst (as.map V.ref))
 len:as.length=rs.length
 at_:∀(k:Nat) (a:Addr) (r:Nat->Int),as[k]?=some a->rs[k]?=some r->H a=some (.lst (bF m r))
theorem Ot.same{m:Nat}{rs:List (Nat->Int)}{H H':Hp}{q:Addr}{as:List Addr}(h:Ot m rs H q as)(s:aH H H'):Ot m rs H' q as:=⟨s _ _ h.hq,h.len,fun k a r e1 e2=>s _ _ (h.at_ k a r e1 e2)⟩
def Qa(rs:List (Nat->Int)):Prop:=∀(k:Nat) (r:Nat->Int),rs[k]?=some r->∀i,Sm (2+Gx k) (r i)
theorem yW(h:Qa rs){g:Nat->Int}(hg:∀i,Sm 2 (g i)):∀(k:Nat),k<=rs.length->∀i,Sm (2+Gx k) (Cm.dA m (rs.take k) g i)
 | 0,_,i=>hg i
 | k+1,hk,i=>by
  have e:=qAc (l:=rs) (i:=k) (by lia);have ih:=yW (m:=m) h hg k (by lia);have et:rs.take (k+1)=rs.take k++[rs[k]]:=by rw[qEy,e];rfl
  rw[et,Cm.cT];have a1:=(ih i).mul (h k _ e (Cm.jA m rs[k]));have a2:=(h k _ e i).mul (ih (Cm.jA m rs[k]));refine Sm.mono (a1.sub (a2.mono (by lia))) ?_;show _<=2+(2*Gx k+3);lia
def HH:Sp:=fun vs H Q _=>∃(p q:Addr) (m:Nat) (g:Nat->Int) (rs:List (Nat->Int)) (as:List Addr),vs=[.ref p,.ref q]/\H p=some (.lst (bF m g))/\Ot m rs H q as/\m<=6/\rs.length<=6/\(∀r,r∈rs->Cm.jA m r<m)/\(∀i,Sm 2 (g i))/\Qa rs /\
 ∀D H',aH H H'->H' D=some (.lst (bF m (Cm.dA m rs g)))->Q (.ref D) H'
theorem rX:aV ["row","rows","rest","lead","place","factor"] ["row","rows"] (aI Ke):=#[1,2]
theorem LC(t:Tx K mg "rest_of" Ke ["row","rows"] f fd)(T:#[4]):#[5] 1 "rest_of" ["row","rows"] HH f fd:=by
 refine t.gO rX (fun vs H Q E h=>?_) (fun cdv _A outer s H vs Q E hr h=>?_)
 .obtain⟨p,q,m,g,rs,as,rfl,_⟩:=h;rfl
 .obtain⟨p,q,m,g,rs,as,rfl,hp,rw_,hm,hl,hpv,sg,sr,k⟩:=h;refine⟨_,(aC (aP (i:=2) rX.nd rfl #[3] (pv 0))
   (aC (cF #[9] rfl (bL (pv 1)) (aO (i:=3) rX.nd rfl #[3])
    (aC (aP (i:=4) rX.nd rfl #[3] (Jm K rfl qCr PySem.F.slot_list_index PySem.F.type_list_index (Bs K rfl) (bM (NB:=["number"]) (pick:=[none]) (bG #[7] (by exact trivial) rfl #[2] #[2] #[0] #[0]) rfl
     (bL (pv 3)) (fun _ _ _=>aO (i:=0) #[8,["number"]] rfl bN)
     (fun _ _ _=>bJ) (fun _ _ _=>(eD fI (pv 0) aE (aW _)))) (aA fL aB)))
    (aC (aP (i:=5) rX.nd rfl #[3] (aQ a8 (pv 2) (pv 4) #[6]))
    (aF (eJ (NB:=["number","other","factor","lead","place"]) (pick:=[none,none,some 5,some 3,some 4]) (i:=2) rX.nd rfl #[3] #[0] (bG #[7] (by exact(And.intro rfl (And.intro rfl (And.intro rfl trivial)))) rfl #[2] #[2] #[0] #[0]) rfl
     (g8 #[0] T.hZ (aA (pv 2) (aA (pv 3) aB))) (fun _ _ _=>(show PG _ _ (sI K 2 (fZ (aX 0) (fZ (aX 1) sE))) from fM rfl (bP (aO (i:=0) #[8,["number","other","factor","lead","place"]] rfl bN) (bP (aO (i:=1) #[8,["number","other","factor","lead","place"]] rfl bN) dP))))
     (fun _ _ _=>bJ) (fun _ _ _=>(aM fG (aM bK (pv 0) (aQ (bU K) (pv 3) (pv 4) #[6])) (aM bK (pv 1) (pv 2)))))))))
   (aF (aT (pv 2))))),?_⟩
  exists _,rfl,_,rfl,q,rfl,⟨_,aS.of rw_.hq⟩;refine dX (xs:=as.map V.ref) (fun j σ' H'=>aH H H'/\∃(r:Addr) (o3 o4 o5:Option V),H' r=some (.lst (bF m (Cm.dA m (rs.take j) g)))/\σ'=[some (.ref p),some (.ref q),some (.ref r),o3,o4,o5]) ⟨.refl _,p,_,_,_,hp,rfl⟩ ?_ ?_ ?_
  .rintro j σ' H' _ ⟨s2,_⟩;exact aS.of (s2 _ _ rw_.hq)
  .rintro j x σ' H2 hx ⟨s2,r,o3,o4,o5,hr2,rfl⟩;obtain⟨a,ha,rfl⟩:=dB hx;have hj:j<rs.length:=by
    rw[<- rw_.len];exact(List.getElem?_eq_some_iff.mp ha).1
   have er:=qAc hj;have hla:=s2 _ _ (rw_.at_ j a _ ha er);have hpj:=hpv _ (qAx er);generalize rs[j]=lead at er hla hpj;have s1:=yW (m:=m) sr sg j (by lia);have sl:=sr j _ er;have hb:Gx j<=200:=qCy (pW (j:=j) (k:=6) (by lia)) #[1];have s1':∀i,Sm 202 (Cm.dA m (rs.take j) g i):=fun i=>(s1 i).mono (by lia);have sl':∀i,Sm 202 (lead i):=fun i=>(sl i).mono (by lia);exists _,rfl,a,rfl,⟨_,aS.of hla⟩;refine cC (xs:=bF m lead) (fun i _=>some (.bl (decide (lead i≠0)))) (aS.of hla) (by rw[aL];exact qAo (aK (by lia))) (fun i x H3 kk kk0 s3 hx g1 g2=>?_) fun D H3 hD s3 hd=>?_
   .obtain⟨hi,rfl⟩:=eQ hx;exists _,rfl,rfl;exact g1 _ (by rw[Oq]) _ (.refl _)
   .rw[aL,iN _ (aL _ _)] at hd;refine⟨.inl ⟨rfl,_,aS.of hd⟩,D,(qAk m).map fun i=>decide (lead i≠0),Cm.jA m lead,rfl,rfl,?_,?_,fun i hi=>?_,?_⟩
    .rw[qCn];exact aS.of hd
    .rw[qAn,qCw hpj];exact congrArg some (decide_eq_true (Cm.nE hpj))
    .rw[qAn,qCw (by lia)];exact congrArg some (decide_eq_false (Classical.not_not.mpr (Cm.i4 hi (by lia))))
    dsimp only[aX];have hr3:=s3 _ _ hr2;have hl3:=s3 _ _ hla;exists _,rfl,_,rfl,r,_,_,_,rfl,rfl,aS.of hr3,bR hpj;dsimp only[aX];exists _,rfl,_,rfl,r,a,rfl,⟨_,aS.of hr3⟩,⟨_,aS.of hl3⟩;refine j5 (xs:=bF m (Cm.dA m (rs.take j) g)) (ys:=bF m lead) (fun σ'=>∃o0 o1:Option V,σ'=[o0,o1,some (.int (Cm.dA m (rs.take j) g (Cm.jA m lead))),some (.ref a),some (.int (Cm.jA m lead:Nat))]) (fun i _ _=>some (.int (Cm.jR m lead (Cm.dA m (rs.take j) g) i))) ⟨_,_,rfl⟩ (aS.of hr3) (aS.of hl3) (by rw[aL,aL]) (by rw[aL];exact qAo (aK (by lia))) (fun i x y tt σ1 H4 kk kk0 hσ s4 hx hy ht h1 h2=>?_) fun D2 H4 hD2 s4 hd4=>?_
    .obtain⟨o0,o1,rfl⟩:=hσ;obtain⟨hi,rfl⟩:=eQ hx;obtain⟨_,rfl⟩:=eQ hy;exists tt,_,rfl,cE.of ht,rfl,_,_,rfl,_,_,rfl,rfl;exists _,rfl,_,rfl,_,rfl,a,_,_,_,rfl,rfl,aS.of (s4 _ _ hl3),bR hpj,_,_,rfl,rfl,(s1' i).mb (sl' _),_,rfl,_,rfl,_,_,rfl,rfl,(sl' i).mb (s1' _),_,_,rfl,rfl;exact h1 _ _ ⟨_,_,rfl⟩ rfl _ (.refl _)
    .refine⟨s2.trans (s3.trans s4),D2,_,_,_,?_,rfl⟩;have et:rs.take (j+1)=rs.take j++[lead]:=by rw[qEy,er];rfl
     rw[hd4,aL,tV _ (aL _ _) (aL _ _),et,Cm.cT];rfl
  .rintro σ' H2 ⟨s2,r,o3,o4,o5,hr2,rfl⟩;refine⟨_,rfl,k r H2 s2 ?_⟩;rw[hr2,qAa,rw_.len,qEg]
theorem fE{l:List Nat}{i:Nat}{x:V}(h:(a9 l)[i]?=some x):∃g,l[i]?=some g/\x = .int (g:Int):=by
 delta a9 at h;rw[qAn] at h;cases e:l[i]? with
 | none=>rw[e] at h;cases h
 | some g=>rw[e] at h;exact⟨g,rfl,(Option.some.inj h).symm⟩
theorem Et(h:∀v,v∈vs->∀i,Sm 2 (v i)):Qa (Cm.iU m vs):=by
 induction vs using Cm.snocInd with
 | nil=>intro k r e;cases e
 | append_singleton vs v ih =>
  have i1:=ih fun u hu=>h u (qCb _ hu);intro k r e i;rw[Cm.dZ] at e;rcases qAm k (Cm.iU m vs).length with z | z
  .rw[qAy z] at e;exact i1 k r e i
  .rw[qAz z] at e;have hk:k-(Cm.iU m vs).length=0:=by
    have:=(List.getElem?_eq_some_iff.mp e).1;rw[qBf] at this;lia
   rw[hk] at e;obtain rfl:=Option.some.inj e;have q:=yW (m:=m) i1 (h v (qBa _ (List.mem_singleton.mpr rfl))) (Cm.iU m vs).length (qAg _) i;rw[qEg] at q;exact q.mono (by have:=pW (j:=(Cm.iU m vs).length) (k:=k) z;lia)
theorem pX{m:Nat}{r:Nat->Int}{as:List Addr}(h:0<m):bF m r≠as.map V.ref:=fun e=>by
 have h0:=dQ (f:=r) h;rw[e,qAn] at h0;cases ha:as[0]? with
 | none=>rw[ha] at h0;cases h0
 | some a=>rw[ha] at h0;cases h0
noncomputable def gE(ks:List Nat):List (Nat->Int):=ks.map bt
noncomputable def iI(m:Nat)(ks:List Nat)(g:Nat):Bool:=decide (bF m (Cm.dA m (Cm.iU m (gE ks)) (bt g))=bF m fun _=>0)
theorem gY:iI m ks g=true↔Cm.Told m (gE ks) (bt g):=by
 delta iI;rw[decide_eq_true_iff];constructor
 .intro e i hi;have h0:=dQ (f:=Cm.dA m (Cm.iU m (gE ks)) (bt g)) hi;rw[e,dQ hi] at h0;exact(V.int.inj (Option.some.inj h0)).symm
 .intro h;exact dR fun j hj=>h j hj
theorem HI:∀v,v∈gE ks->∀i,Sm 2 (v i):=fun v hv i=>by
 obtain⟨g,_,rfl⟩:=List.mem_map.mp hv;exact rW g i
theorem Eu(h:Cm.i5 m (gE ks)):∀j,Cm.i5 m (gE (ks.take j)):=by
 induction ks using Cm.snocInd with
 | nil=>intro j;rw[List.take_nil];exact h
 | append_singleton ks k ih =>
  intro j;have e:gE (ks++[k])=gE ks++[bt k]:=by delta gE;rw[qAr];rfl
  rcases qAm ks.length j with z | z
  .rw[qFa (by rw[qAj,qBf];lia)];exact h
  .rw[List.take_append_of_le_length z];rw[e] at h;exact ih h.kB.1 j
theorem LD(m:Nat):(qBk m [V.int 0]).flatten=bF m fun _=>0:=by
 induction m with
 | zero=>rfl
 | succ m ih =>
  unfold bF at ih|-;rw[List.replicate_succ',List.flatten_append,ih,qBm,qAr];rfl
theorem LF:decide ((qAk m).map u=(qAk m).map v)=decide (bF m u=bF m v):=by
 rw[iM,iM];refine decide_eq_decide.mpr ⟨fun e=>by rw[e],fun e=>?_⟩;exact(List.map_inj_right fun a b h=>V.int.inj h).mp e
theorem pZ{α β:Type}(F:α->Option β)(l:List α):((qAk l.length).filterMap fun i=>(l[i]?).bind F)=l.filterMap F:=by
 induction l using Cm.snocInd with
 | nil=>rfl
 | append_singleton l x ih =>
  rw[qAj,qBf,qBm,qBx,qBx,<- ih];congr 1
  .refine dI fun i hi=>?_;rw[qAy (List.mem_range.mp hi)]
  .rw[qCh,qCh,qAz (qAg _),qMj];rfl
theorem BR(gs:List Nat)(b:Nat->Bool):(gs.filterMap fun g=>if b g=true then none else some (V.int (g:Int)))=a9 (gs.filter fun g=>!b g):=by
 delta a9;induction gs with
 | nil=>rfl
 | cons g gs ih =>
  rw[qCh,qDw];cases b g with
  | true=>simpa using ih
  | false=>simpa using ih
theorem LG(gs:List Nat)(b:Nat->Bool):((qAk (a9 gs).length).filterMap fun i=>((a9 gs)[i]?).bind fun _=>(gs[i]?).bind fun g=>if b g=true then none else some (V.int (g:Int)))=a9 (gs.filter fun g=>!b g):=by
 have e:(a9 gs).length=gs.length:=by delta a9;rw[qAa]
 rw[e];have e2:((qAk gs.length).filterMap fun i=>((a9 gs)[i]?).bind fun _=>(gs[i]?).bind fun g=>if b g=true then none else some (V.int (g:Int)))=(qAk gs.length).filterMap fun i=>(gs[i]?).bind fun g=>if b g=true then none else some (V.int (g:Int)):=by
  refine dI fun i hi=>?_;have hi:=List.mem_range.mp hi;delta a9;rw[qAn,qAc hi];rfl
 rw[e2,pZ,BR]
def Ew:Sp:=fun vs H Q _=>∃(p q:Addr) (m:Nat) (gs ks:List Nat),vs=[.ref p,.ref q,.int (m:Int)]/\H p=some (.lst (a9 gs))/\H q=some (.lst (a9 ks))/\0<m/\m<=6/\gs.length<=64/\(∀g,g∈gs->g<64)/\(∀k,k∈ks->k<64)/\Cm.i5 m (gE ks) /\
 ∀D H',H D=none->aH H H'->H' D=some (.lst (a9 (gs.filter fun g=>!iI m ks g)))->Q (.ref D) H'
theorem Aq:aV ["groups","kept","many","rows","group","nothing"] ["groups","kept","many"] (aI Kf):=#[1,2]
theorem LH{f1 f2:Addr}{fd1 fd2:qCo}(t:Tx K mg "untold" Kf ["groups","kept","many"] f fd)(T:#[4])(D_marks_of:#[5] 1 "marks_of" ["group","many"] wL f1 fd1)(D_rest_of:#[5] 1 "rest_of" ["row","rows"] HH f2 fd2):
  #[5] 2 "untold" ["groups","kept","many"] Ew f fd:=by
 refine t.gO Aq (fun vs H Q E h=>?_) (fun cdv _A outer s H vs Q E hr h=>?_)
 .obtain⟨p,q,m,gs,ks,rfl,_⟩:=h;rfl
 .obtain⟨p,q,m,gs,ks,rfl,hp,hq,m0,m6,gl,g64,Fc,ind,k⟩:=h;refine⟨_,(aC (aP (i:=3) Aq.nd rfl #[3] (bQ aB))
   (aC (cF #[9] rfl (bL (pv 1)) (aO (i:=4) Aq.nd rfl #[3])
    (aF (dO (lK qCr qDt qDs fH (pv 3) (aA (aY D_rest_of hr #[1] #[0] (aA (aY D_marks_of hr #[1] #[0] (aA (pv 4) (aA (pv 2) aB))) (aA (pv 3) aB))) aB)))))
   (aC (aP (i:=5) Aq.nd rfl #[3] (aM gI (bQ (aA aE aB)) (pv 2)))
   (aF (aT (bM (NB:=["group","many","nothing","rows"]) (pick:=[none,some 2,some 5,some 3]) (bG #[7] (by exact(And.intro rfl (And.intro rfl (And.intro rfl trivial)))) rfl #[2] #[2] #[0] #[0]) rfl
     (bL (pv 0)) (fun _ _ _=>aO (i:=0) #[8,["group","many","nothing","rows"]] rfl bN)
     (fun _ _ _=>eF (aU (FQ K hr.units) (aY D_rest_of hr #[1] #[0] (aA (aY D_marks_of hr #[1] #[0] (aA (pv 0) (aA (pv 1) aB))) (aA (pv 3) aB))) (pv 2) (aW _))) (fun _ _ _=>(pv 0)))))))),?_⟩
  have kl:=ind.len;unfold gE at kl;rw[qAa] at kl;refine⟨by simp[qCc],fun lr hlr=>?_⟩;dsimp only[aX];have u0:aH H (upd H lr (.lst [])):=.aG hlr;exists _,rfl,q,rfl,⟨_,aS.of (u0 _ _ hq)⟩;refine dX (xs:=a9 ks) (fun j σ' H'=>aH H H'/\∃(as:List Addr) (o4 o5:Option V),Ot m (Cm.iU m (gE (ks.take j))) H' lr as/\σ'=[some (.ref p),some (.ref q),some (.int (m:Int)),some (.ref lr),o4,o5]) ⟨u0,[],_,_,⟨aD,rfl,fun k a r e=>by cases e⟩,rfl⟩ ?_ ?_ ?_
  .rintro j σ' H' _ ⟨s2,_⟩;exact aS.of (s2 _ _ hq)
  .rintro j x σ' H2 hx ⟨s2,as,o4,o5,rl,rfl⟩;obtain⟨g,hg,rfl⟩:=fE hx;have hgm:g∈ks:=qAx hg;have hj:j<ks.length:=(List.getElem?_eq_some_iff.mp hg).1;have et:ks.take (j+1)=ks.take j++[g]:=by rw[qEy,hg];rfl
   have ev:gE (ks.take (j+1))=gE (ks.take j)++[bt g]:=by rw[et];unfold gE;rw[qAr];rfl
   have elen:(Cm.iU m (gE (ks.take j))).length=j:=by
    rw[Cm.lY];unfold gE;rw[qAa,qEh];lia
   have hind:Cm.i5 m (gE (ks.take j)):=Eu ind j;have hsm:∀v,v∈gE (ks.take j)->∀i,Sm 2 (v i):=HI;dsimp only[aX];refine⟨_,rfl,.inl ⟨rfl,_,aS.of rl.hq⟩,_,rfl,_,rfl,g,m,rfl,Fc g hgm,m6,fun D H3 hD s3 hd=>?_⟩;have rl3:=rl.same s3;refine⟨_,rfl,D,lr,m,bt g,_,as,rfl,hd,rl3,m6,by lia,hind,rW g,Et hsm,fun D2 H4 s4 h4=>?_⟩;have rl4:=rl3.same s4;have hlen:=rl4.len;refine⟨lr,_,_,rfl,rfl,rl4.hq,by rw[qAa];exact qBp (show as.length<=6 by lia) (by rw[qCc];decide),?_⟩;refine⟨(s2.trans (s3.trans s4)).upd_ne' hlr,as++[D2],_,_,⟨?_,?_,fun k' a' r' e1 e2=>?_⟩,rfl⟩
   .rw[aD,qAr];rfl
   .rw[ev,Cm.dZ,qAj,qAj,hlen];rfl
   .have hne:∀(b:Addr) (r:Nat->Int),H4 b=some (.lst (bF m r))->b≠lr:=fun b r e z=>by
     rw[z,rl4.hq] at e;exact pX m0 (HO.lst.inj (Option.some.inj e)).symm
    rw[ev,Cm.dZ] at e2;rcases qAm k' as.length with z | z
    .rw[qAy z] at e1;rw[qAy (by lia)] at e2;have q:=rl4.at_ k' a' r' e1 e2;rw[aR (hne _ _ q)];exact q
    .rw[qAz z] at e1;rw[qAz (by lia)] at e2;have hk:k'-as.length=0:=by
      have:=(List.getElem?_eq_some_iff.mp e1).1;rw[qBf] at this;lia
     rw[hk] at e1;rw[<- hlen,hk] at e2;obtain rfl:=Option.some.inj e1;obtain rfl:=Option.some.inj e2;rw[aR (hne _ _ h4)];exact h4
  .rintro σ' H2 ⟨s2,as,o4,o5,rl,rfl⟩;refine⟨by simp[qCc],fun l0 h0=>?_⟩;have h2t:((m:Int)).toNat=m:=qBb m;refine⟨_,rfl,l0,_,_,rfl,rfl,aD,by lia,by lia,by rw[h2t,qCc];simp;lia,fun ln hln=>?_⟩;dsimp only[aX];have s3:aH H2 (upd (upd H2 l0 (.lst [V.int 0])) ln (.lst (qBk ((m:Int)).toNat [V.int 0]).flatten)):=(aH.aG h0).trans (.aG hln);have hz:upd (upd H2 l0 (.lst [V.int 0])) ln (.lst (qBk ((m:Int)).toNat [V.int 0]).flatten) ln=some (.lst (bF m fun _=>0)):=by
    rw[aD,h2t,LD]
   generalize upd (upd H2 l0 (.lst [V.int 0])) ln (.lst (qBk ((m:Int)).toNat [V.int 0]).flatten)=H3 at s3 hz|-;have rl3:=rl.same s3;rw[show(a9 ks).length=ks.length by unfold a9;rw[qAa],qEg] at rl3;have elen:(Cm.iU m (gE ks)).length=ks.length:=by rw[Cm.lY];unfold gE;rw[qAa]
   exists _,rfl,p,rfl,⟨_,aS.of (s3 _ _ (s2 _ _ hp))⟩;refine cC (xs:=a9 gs) (fun i _=>(gs[i]?).bind fun g=>if iI m ks g=true then none else some (.int (g:Int))) (aS.of (s3 _ _ (s2 _ _ hp))) (by unfold a9;rw[qAa];exact qAo (aK (by lia))) (fun i x H4 kk kk0 s4 hx g1 g2=>?_) fun D H4 hD s4 hd=>?_
   .obtain⟨g,hg,rfl⟩:=fE hx;rw[hg] at g1 g2;refine⟨_,rfl,_,rfl,g,m,rfl,g64 g (qAx hg),m6,fun D5 H5 hD5 s5 hd5=>?_⟩;refine⟨_,rfl,D5,lr,m,bt g,_,as,rfl,hd5,(rl3.same s4).same s5,m6,by lia,ind,rW g,Et HI,fun D6 H6 s6 h6=>?_⟩;rw[iM] at h6;have hz6:=s6 _ _ (s5 _ _ (s4 _ _ hz));rw[iM] at hz6;exists _,rfl,D6,ln,_,_,rfl,rfl,aS.of h6,aS.of hz6,_,rfl;have hb:(!decide ((qAk m).map (Cm.dA m (Cm.iU m (gE ks)) (bt g))=(qAk m).map fun _=>(0:Int))) = !iI m ks g:=by
     rw[LF];rfl
    dsimp only;rw[hb];cases ht:iI m ks g with
    | true =>
     rw[if_neg (by simp)];exact g2 (by simp[ht]) _ (s5.trans s6)
    | false =>
     rw[if_pos (by simp)];exact⟨_,rfl,g1 _ (by simp[ht]) _ (s5.trans s6)⟩
   .have hD0:H D=none:=by
     cases e:H D with
     | none=>rfl
     | some o=>rw[(s2.trans s3) _ _ e] at hD;cases hD
    refine k D H4 hD0 (s2.trans (s3.trans s4)) ?_;rw[hd,LG]
noncomputable def p4(m:Nat)(gs:List Nat):List Nat:=gs.foldl (fun acc g=>acc++[g].filter fun g=>!iI m acc g) []
theorem jZ(m:Nat)(gs:List Nat)(g:Nat):p4 m (gs++[g])=p4 m gs++[g].filter fun g'=>!iI m (p4 m gs) g':=by
 delta p4;rw[qHs];rfl
theorem p5(g:Nat)(b:Nat->Bool):[g].filter b=if b g=true then [g] else []:=by
 rw[qDw];rfl
theorem kD(m:Nat)(gs:List Nat):Cm.i5 m (gE (p4 m gs)):=by
 induction gs using Cm.snocInd with
 | nil=>intro r hr;cases hr
 | append_singleton gs g ih =>
  rw[jZ,p5];cases ht:iI m (p4 m gs) g with
  | true=>simpa using ih
  | false =>
   have e:gE (p4 m gs++if (!false)=true then [g] else [])=gE (p4 m gs)++[bt g]:=by delta gE;rw[qAr];rfl
   rw[e];exact ih.snoc (Cm.rN fun z=>by rw[gY.mpr z] at ht;cases ht)
theorem Gy:∀g,g∈p4 m gs->g∈gs:=by
 induction gs using Cm.snocInd with
 | nil=>intro g hg;cases hg
 | append_singleton gs g ih =>
  intro g' hg';rw[jZ] at hg';rcases List.mem_append.mp hg' with z | z
  .exact qCb _ (ih _ z)
  .exact qBa _ (List.mem_filter.mp z).1
theorem Ey:∀g,g∈gs->Cm.Told m (gE (p4 m gs)) (bt g):=by
 induction gs using Cm.snocInd with
 | nil=>intro g hg;cases hg
 | append_singleton gs g ih =>
  intro g' hg';have hind:=kD m (gs++[g]);rw[jZ,p5] at hind|-;cases ht:iI m (p4 m gs) g with
  | true =>
   rw[ht] at hind;simp only[qPc,qFv,if_false,qDp] at hind|-;rcases List.mem_append.mp hg' with z | z
   .exact ih _ z
   .rw[List.mem_singleton.mp z];exact gY.mp ht
  | false =>
   rw[ht] at hind;have e:gE (p4 m gs++if (!false)=true then [g] else [])=gE (p4 m gs)++[bt g]:=by delta gE;rw[qAr];rfl
   rw[e] at hind|-;rcases List.mem_append.mp hg' with z | z
   .exact(ih _ z).snoc
   .rw[List.mem_singleton.mp z];exact Cm.Told.self hind (qBa _ (List.mem_singleton.mpr rfl))
def HJ:Sp:=fun vs H Q _=>∃(p:Addr) (m:Nat) (gs:List Nat),vs=[.ref p,.int (m:Int)]/\H p=some (.lst (a9 gs))/\0<m/\m<=6/\gs.length<=64/\(∀g,g∈gs->g<64) /\
 ∀D H',H D=none->aH H H'->H' D=some (.lst (a9 (p4 m gs)))->Q (.ref D) H'
theorem Ar:aV ["groups","many","found","group"] ["groups","many"] (aI Kg):=#[1,2]
theorem Ez(a b:List Nat):a9 (a++b)=a9 a++a9 b:=by delta a9;rw[qAr]
theorem bI(a:List Nat):(a9 a).length=a.length:=by delta a9;rw[qAa]
theorem LI{f1:Addr}{fd1:qCo}(t:Tx K mg "sifted" Kg ["groups","many"] f fd)(T:#[4])(D_untold:#[5] 2 "untold" ["groups","kept","many"] Ew f1 fd1):
  #[5] 3 "sifted" ["groups","many"] HJ f fd:=by
 refine t.gO Ar (fun vs H Q E h=>?_) (fun cdv _A outer s H vs Q E hr h=>?_)
 .obtain⟨p,m,gs,rfl,_⟩:=h;rfl
 .obtain⟨p,m,gs,rfl,hp,m0,m6,gl,g64,k⟩:=h;refine⟨_,(aC (aP (i:=2) Ar.nd rfl bN (bQ aB))
   (aC (cF #[9] rfl (bL (pv 0)) (aO (i:=3) Ar.nd rfl bN)
    (aF (sJ (i:=2) Ar.nd rfl bN (aY D_untold hr #[1] #[0] (aA (bQ (aA (pv 3) aB)) (aA (pv 2) (aA (pv 1) aB)))) oJ)))
   (aF (aT (pv 2))))),?_⟩
  refine⟨by simp[qCc],fun lf hlf=>?_⟩;dsimp only[aX];have u0:aH H (upd H lf (.lst [])):=.aG hlf;exists _,rfl,p,rfl,⟨_,aS.of (u0 _ _ hp)⟩;refine dX (xs:=a9 gs) (fun j σ' H'=>aH H H'/\∃(o3:Option V),H' lf=some (.lst (a9 (p4 m (gs.take j))))/\σ'=[some (.ref p),some (.int (m:Int)),some (.ref lf),o3]) ⟨u0,_,aD,rfl⟩ ?_ ?_ ?_
  .rintro j σ' H' _ ⟨s2,_⟩;exact aS.of (s2 _ _ hp)
  .rintro j x σ' H2 hx ⟨s2,o3,hf,rfl⟩;obtain⟨g,hg,rfl⟩:=fE hx;have et:gs.take (j+1)=gs.take j++[g]:=by rw[qEy,hg];rfl
   have hm64:∀k',k'∈p4 m (gs.take j)->k'<64:=fun k' hk'=>g64 k' (qMl (Gy k' hk'));have hkl:=(kD m (gs.take j)).len;unfold gE at hkl;rw[qAa] at hkl;dsimp only[aX];refine⟨_,rfl,_,rfl,by simp[qCc],fun l1 h1=>?_⟩;have s3:aH H2 (upd H2 l1 (.lst [V.int (g:Int)])):=.aG h1;have hl1:upd H2 l1 (.lst [V.int (g:Int)]) l1=some (.lst (a9 [g])):=aD;generalize upd H2 l1 (.lst [V.int (g:Int)])=H3 at s3 hl1|-;refine⟨_,rfl,_,rfl,l1,lf,m,[g],p4 m (gs.take j),rfl,hl1,s3 _ _ hf,m0,m6,by simp,fun g' hg'=>?_,hm64,kD m _,fun D H4 hD s4 hd=>?_⟩
   .rw[List.mem_singleton.mp hg'];exact g64 g (qAx hg)
   have hf4:=s4 _ _ (s3 _ _ hf);have hfl:([g].filter fun g'=>!iI m (p4 m (gs.take j)) g').length<=1:=qEw _ _;refine⟨lf,D,_,_,rfl,rfl,hf4,hd,by rw[bI,bI,qCc];lia,?_⟩;refine⟨(s2.trans (s3.trans s4)).upd_ne' hlf,_,?_,rfl⟩;rw[aD,et,jZ,Ez]
  .rintro σ' H2 ⟨s2,o3,hf,rfl⟩;rw[bI,qEg] at hf;exact⟨_,rfl,k lf H2 hlf s2 hf⟩
noncomputable def gN(gs:List Nat)(j:Nat):Nat:=gs.getD j 0
theorem fU{gs:List Nat}{j g:Nat}(h:gs[j]?=some g):gN gs j=g:=by delta gN;rw[qAf,h];rfl
noncomputable def mH(gs:List Nat)(i:Nat):Int:=Wg.sm gs.length fun j=>bt (gN gs j) i
noncomputable def wA(gs:List Nat)(j i:Nat):Int:=match j with
 | 0=>mH gs i
 | j+1=>bt (gN gs j) i
def Qs(m:Nat)(gs:List Nat):Prop:=∀y:Nat->Int,(∀g,g∈gs->0<=Wg.sm m fun i=>bt g i*y i)->Wg.sm m y<=0->Wg.sm m y=0/\∀g,g∈gs->(Wg.sm m fun i=>bt g i*y i)=0
noncomputable def As(gs:List Nat)(X:Nat->Int)(k:Nat):List (Int×Int):=(qAk k).map fun(j:Nat)=>((gN gs j:Int),X 0+X (j+1))
theorem Au(F:Nat->Int):((qAk n).map F).sum=Wg.sm n F:=by
 induction n with
 | zero=>rfl
 | succ n ih=>rw[qBm,qAr,qFf,ih];show _+(F n+0)=_+F n;lia
theorem EA(gs:List Nat)(i:Nat):0<=mH gs i/\mH gs i<=gs.length:=by
 delta mH;have h:∀n,0<=(Wg.sm n fun j=>bt (gN gs j) i)/\(Wg.sm n fun j=>bt (gN gs j) i)<=n:=by
  intro n;induction n with
  | zero=>exact⟨qDi _,qDi _⟩
  | succ n ih =>
   have e:(Wg.sm (n+1) fun j=>bt (gN gs j) i)=(Wg.sm n fun j=>bt (gN gs j) i)+bt (gN gs n) i:=rfl;rw[e];rcases wK (gN gs n) i with z | z <;> rw[z] <;> lia
 exact h _
theorem EB(gl:gs.length<=64)(j i:Nat):(wA gs j i).natAbs<=64:=by
 cases j with
 | zero =>
  have:=EA gs i;show(mH gs i).natAbs<=64;lia
 | succ j=>exact qCy (pU _ _) #[1]
theorem Gz(m0:0<m)(m6:m<=6)(gl:gs.length<=64):Inst m (gs.length+1) (wA gs) (fun _=>1):=⟨m0,by lia,by lia,fun j i=>qBp (EB gl j i) #[1],fun _=>Sm.of 2 #[1] #[1]⟩
theorem LJ(n:Nat):([V.int 1]++bF n fun _=>0)=bF (n+1) fun j=>if j=0 then 1 else 0:=by
 have h:=mC 1 n (fun _=>1) (fun _=>0);have e:bF 1 (fun _=>1)=[V.int 1]:=rfl;rw[e] at h;rw[h,qJx];refine dR fun j _=>?_;by_cases z:j=0
 .rw[if_pos z,if_pos (by lia)]
 .rw[if_neg z,if_neg (by lia)]
theorem Ou:∀m:_root_.Fin 8,Wg.qH m.1*64^m.1<2^3000:=by decide +kernel
theorem yX(m7:m<=7)(dm:pQ m A due d)(hA:∀j i,(A j i).natAbs<=64)(hd:∀i,(due i).natAbs<=64):Sm 3000 d :=
 qBp (dm 64 #[1] hA hd) (Ou ⟨m,by lia⟩)
theorem GA(gs:List Nat)(Y:Nat->Int):(Wg.sm m fun i=>mH gs i*Y i)=Wg.sm gs.length fun j=>Wg.sm m fun i=>bt (gN gs j) i*Y i:=by
 rw[Wg.lW];refine Wg.bC fun i _=>?_;delta mH;rw[qCt,<- Wg.bT];exact Wg.bC fun j _=>qCt _ _
theorem Ov(gs:List Nat)(j i:Nat):0<=wA gs j i:=by
 cases j with
 | zero=>exact(EA gs i).1
 | succ j=>show 0<=bt _ _;rcases wK (gN gs j) i with e | e <;> rw[e] <;> decide
theorem HK{f:Nat->Int}:∀{n k:Nat},(∀j,j<n->0<=f j)->k<n->f k<=Wg.sm n f
 | 0,k,_,h=>absurd h (qFx _)
 | n+1,k,h,hk=>by
  show f k<=Wg.sm n f+f n;rcases qAm k n with z | z
  .have:=HK (n:=n) (k:=k) (fun j hj=>h j (by lia)) z;have:=h n (by lia);lia
  .have e:k=n:=by lia
   subst e;have:=pJ (n:=k) (f:=f) fun j hj=>h j (by lia);lia
theorem wM(f:Nat->Int):∀n,Wg.sm (n+1) f=f 0+Wg.sm n fun j=>f (j+1)
 | 0=>by show 0+f 0=f 0+0;lia
 | n+1=>by
  show Wg.sm (n+1) f+f (n+1)=f 0+(Wg.sm n (fun j=>f (j+1))+f (n+1));rw[wM f n];lia
theorem wN(gs:List Nat)(X:Nat->Int)(k:Nat):As gs X (k+1)=As gs X k++[((gN gs k:Int),X 0+X (k+1))]:=by
 delta As;rw[qBm,qAr];rfl
def HL:Sp:=fun vs H Q _=>∃(p:Addr) (m:Nat) (gs:List Nat),vs=[.ref p,.int (m:Int)]/\H p=some (.lst (a9 gs))/\0<m/\m<=6/\gs.length<=64/\0<gs.length/\(∀g,g∈gs->1<=g/\g<2^m)/\Qs m gs /\
 ∀D H' ys (d:Int) (X:Nat->Int),H D=none->aH H H'->H' D=some (.lst ys)->eB H' d ys (As gs X gs.length)->0<d->Sm 6000 d->(∀j,Sm 300000 (X j))->0<X 0->(∀j,0<=X j)->(∀i,i<m->(Wg.sm gs.length fun j=>bt (gN gs j) i*(X 0+X (j+1)))=d)->Q (.ref D) H'
theorem wO:aV ["groups","many","marks","together","told","least"] ["groups","many"] (aI Kj):=#[1,2]
theorem LK{f1 f2 f3:Addr}{fd1 fd2 fd3:qCo}(t:Tx K mg "weighing_of" Kj ["groups","many"] f fd)(T:#[4])(D_marks_of:#[5] 1 "marks_of" ["group","many"] wL f1 fd1)(D_weigh:#[1,1] 5 "weigh" ["columns","due","gains"] (wF K NR) f2 fd2)(D_plus:#[5] 3 "plus" ["one","other"] HF f3 fd3):
  #[5] 6 "weighing_of" ["groups","many"] HL f fd:=by
 refine t.gO wO (fun vs H Q E h=>?_) (fun cdv _A outer s H vs Q E hr h=>?_)
 .obtain⟨p,m,gs,rfl,_⟩:=h;rfl
 .obtain⟨p,m,gs,rfl,hp,m0,m6,gl,gp,g64,bal,k⟩:=h;refine⟨_,(aC (aP (i:=2) wO.nd rfl #[3] (bM (NB:=["group","many"]) (pick:=[none,some 1]) (bG #[7] (by exact(And.intro rfl trivial)) rfl #[2] #[2] #[0] #[0]) rfl
     (bL (pv 0)) (fun _ _ _=>aO (i:=0) #[8,["group","many"]] rfl bN)
     (fun _ _ _=>bJ) (fun _ _ _=>(aY D_marks_of hr #[1] #[0] (aA (pv 0) (aA (pv 1) aB))))))
   (aC (CW (y0:="hand") (NB:=["hand","marks"]) (pick:=[none,some 2]) (i:=3) wO.nd rfl bN #[0] (FN #[7] (by exact(And.intro rfl trivial)) rfl (fun _=>rfl) (fun _=>rfl) #[2] (fun _=>rfl) #[0] #[0]) rfl
     (bY #[0] T.bW (aA (pv 1) aB)) (fun _ _ _=>aO (i:=0) #[8,["hand","marks"]] rfl (Or.inr rfl))
     (fun _ _ _=>bJ) (fun _ _ _=>(aJ (Bj K rfl) #[0] T.gL gJ (aA (bM (NB:=["mark","hand"]) (pick:=[none,some 0]) (bG #[7] (by exact(And.intro rfl trivial)) rfl #[2] #[2] #[0] #[0]) rfl
     (CP K (pv 1)) (fun _ _ _=>aO (i:=0) #[8,["mark","hand"]] rfl bN)
     (fun _ _ _=>bJ) (fun _ _ _=>(aQ (bU K) (pv 0) (pv 1) #[6]))) aB))))
   (aC (aP (i:=4) wO.nd rfl #[3] (fS cI D_weigh hr #[1] #[0] (aA (aM eM (bQ (aA (pv 3) aB)) (pv 2)) (aA (aM gI (bQ (aA aE aB)) (pv 1)) (aA (aM eM (bQ (aA aE aB)) (aM gI (bQ (aA aE aB)) (aJ aN #[0] T.bV bH (aA (pv 0) aB)))) aB)))))
   (aC (aP (i:=5) wO.nd rfl #[3] (aQ a8 (aQ bB (pv 4) aE #[6]) aE #[6]))
   (aF (aT (bM (NB:=["group","more","least"]) (pick:=[none,none,some 5]) (bG #[7] (by exact(And.intro rfl trivial)) rfl #[2] #[2] #[0] #[0]) rfl
     (g8 #[0] T.hZ (aA (pv 0) (aA (g7 lG (aQ bB (pv 4) aE #[6]) (gM aE) lF) aB))) (fun _ _ _=>(show PG _ _ (sI K 2 (fZ (aX 0) (fZ (aX 1) sE))) from fM rfl (bP (aO (i:=0) #[8,["group","more","least"]] rfl bN) (bP (aO (i:=1) #[8,["group","more","least"]] rfl bN) dP))))
     (fun _ _ _=>bJ) (fun _ _ _=>(dN (aA (pv 0) (aA (aY D_plus hr #[1] #[0] (aA (pv 2) (aA (pv 1) aB))) aB))))))))))),?_⟩
  have h64:∀g,g∈gs->g<64:=fun g hg=>qBc (g64 g hg).2 (qCy (qBh #[1] m6) #[1]);exists _,rfl,p,rfl,⟨_,aS.of hp⟩;refine m9 (xs:=a9 gs) (fun j=>bF m (bt (gN gs j))) (aS.of hp) (by rw[bI];exact qAo (aK (by lia))) (fun j y H4 kk kk0 s4 hy g1=>?_) fun lm cs H1 hlm s1 hcs ncs hD=>?_
  .obtain⟨g,hg,rfl⟩:=fE hy;refine⟨_,rfl,_,rfl,g,m,rfl,h64 g (qAx hg),m6,fun D H5 hD5 s5 h5=>g1 D H5 s5 hD5 ?_⟩;rw[fU hg];exact h5
  rw[bI] at hcs;have hcA:∀j c,cs[j]?=some c->H1 c=some (.lst (bF m (bt (gN gs j)))):=fun j c e=>(ncs.at_ j c e).2.2;dsimp only[aX];refine⟨_,rfl,m,rfl,by lia,by lia,?_⟩;refine fN (n:=m) (fun i=>some (.int (mH gs i))) (qAo (aK (by lia))) (fun i H2 kk kk0 s2 hi g1 g2=>?_) fun lt H2 hlt s2 hd2=>?_
  .exists _,rfl,lm,rfl,⟨_,aS.of (s2 _ _ hD)⟩;refine cC (xs:=cs.map V.ref) (fun j _=>some (.int (bt (gN gs j) i))) (aS.of (s2 _ _ hD)) (by rw[qAa,hcs];exact qAo (aK (by lia))) (fun j x H3 kk' kk0' s3 hx g1' g2'=>?_) fun li H3 hli s3 hd3=>?_
   .obtain⟨c,hc,rfl⟩:=dB hx;have hat:eV (bF m (bt (gN gs j))) ((0:Int)+(i:Int))=some (.int (bt (gN gs j) i)):=by rw[qCe];exact bR hi
    exists _,rfl,_,rfl,c,_,_,_,rfl,rfl,aS.of (s3 _ _ (s2 _ _ (hcA j c hc))),hat;exact g1' _ rfl _ (.refl _)
   .rw[qAa,hcs,iN _ (by rw[qAa,hcs])] at hd3;refine⟨li,(qAk gs.length).map fun j=>bt (gN gs j) i,rfl,.inl (aS.of (by rw[hd3,qCn];rfl)),?_⟩;exact g1 _ (by rw[Au];rfl) _ s3
  rw[qDo] at hd2;have hd2:H2 lt=some (.lst (bF m (mH gs))):=hd2;have hp2:=s2 _ _ (s1 _ _ hp);have hD2:=s2 _ _ hD;refine⟨_,rfl,kE,fun l3 hl3=>?_⟩;have u3:=aH.aG (o:=.lst [.ref lt]) hl3;have e3:upd H2 l3 (.lst [.ref lt]) l3=_:=aD;generalize upd H2 l3 (.lst [.ref lt])=H3 at u3 e3|-;refine⟨_,rfl,l3,lm,_,_,rfl,rfl,aS.of e3,aS.of (u3 _ _ hD2),by rw[qAa,hcs,qCc];simp;lia,fun pc hpc=>?_⟩;have u4:=aH.aG (o:=.lst ([V.ref lt]++cs.map V.ref)) hpc;have e4:upd H3 pc (.lst ([V.ref lt]++cs.map V.ref)) pc=some (.lst ((lt::cs).map V.ref)):=aD;generalize upd H3 pc (.lst ([V.ref lt]++cs.map V.ref))=H4 at u4 e4|-;refine⟨kE,fun a1 ha1=>?_⟩;have u5:=aH.aG (o:=.lst [.int 1]) ha1;have e5:upd H4 a1 (.lst [.int 1]) a1=_:=aD;generalize upd H4 a1 (.lst [.int 1])=H5 at u5 e5|-;refine⟨_,rfl,a1,_,_,rfl,rfl,e5,by lia,by lia,?_,fun pd hpd=>?_⟩
  .show 1*((m:Nat):Int).toNat<=qAi;exact qAo (aK (by lia))
  rw[qBb,gD];have u6:=aH.aG (o:=.lst (bF m fun _=>1)) hpd;have e6:upd H5 pd (.lst (bF m fun _=>1)) pd=_:=aD;generalize upd H5 pd (.lst (bF m fun _=>1))=H6 at u6 e6|-;refine⟨kE,fun b1 hb1=>?_⟩;have u7:=aH.aG (o:=.lst [.int 1]) hb1;have e7:upd H6 b1 (.lst [.int 1]) b1=_:=aD;generalize upd H6 b1 (.lst [.int 1])=H7 at u7 e7|-;refine⟨kE,fun b2 hb2=>?_⟩;have u8:=aH.aG (o:=.lst [.int 0]) hb2;have e8:upd H7 b2 (.lst [.int 0]) b2=_:=aD;generalize upd H7 b2 (.lst [.int 0])=H8 at u8 e8|-;have s28:=u3.trans (u4.trans (u5.trans (u6.trans (u7.trans u8))));refine⟨_,rfl,p,_,rfl,.inl (aS.of (s28 _ _ hp2)),b2,_,_,rfl,rfl,e8,by lia,by rw[bI];lia,?_,fun b3 hb3=>?_⟩
  .rw[bI];show 1*((gs.length:Nat):Int).toNat<=qAi;exact qAo (aK (by lia))
  rw[bI,qBb,gD];have u9:=aH.aG (o:=.lst (bF gs.length fun _=>0)) hb3;have e9:upd H8 b3 (.lst (bF gs.length fun _=>0)) b3=_:=aD;generalize upd H8 b3 (.lst (bF gs.length fun _=>0))=H9 at u9 e9|-;refine⟨b1,b3,_,_,rfl,rfl,aS.of (u9 _ _ (u8 _ _ e7)),aS.of e9,by rw[aL,qCc];simp;lia,fun pg hpg=>?_⟩;have u10:=aH.aG (o:=.lst ([V.int 1]++bF gs.length fun _=>0)) hpg;have e10:upd H9 pg (.lst ([V.int 1]++bF gs.length fun _=>0)) pg=some (.lst (bF (gs.length+1) fun j=>if j=0 then 1 else 0)):=by
   rw[aD,LJ]
  generalize upd H9 pg (.lst ([V.int 1]++bF gs.length fun _=>0))=H10 at u10 e10|-;have u410:=u5.trans (u6.trans (u7.trans (u8.trans (u9.trans u10))));have s210:=u3.trans (u4.trans u410);dsimp only[iR,qCj,qCl];refine yT (m:=m) (n:=gs.length+1) (A:=wA gs) (due:=fun _=>1) (g:=fun j=>if j=0 then 1 else 0) (Gz m0 m6 gl) (cs:=lt::cs) ⟨u410 _ _ e4,by rw[qBq,hcs],fun j c e=>?_,u10 _ _ (u9 _ _ (u8 _ _ (u7 _ _ e6)))⟩ e10 (fun j=>by split <;> exact Sm.of 2 #[1] #[1]) fun r H11 s11 told=>?_
  .cases j with
   | zero =>
    obtain rfl:=Option.some.inj e;exact s210 _ _ hd2
   | succ j=>exact s210 _ _ (s2 _ _ (hcA j c e))
  have sm1:∀Y:Nat->Int,(Wg.sm m fun i=>1*Y i)=Wg.sm m Y:=fun Y=>Wg.bC fun i _=>qCm _;have gm:∀Z:Nat->Int,(Wg.sm (gs.length+1) fun j=>(if j=0 then 1 else 0)*Z j)=Z 0:=fun Z=>by
   rw[Wg.fX (k:=0) (by lia) fun i _ z=>by rw[if_neg z,qBi]];rw[if_pos rfl,qCm]
  rcases told with ⟨lw,lp,ws,ps,d,X,Y,to⟩ | ⟨lp,ps,d,Y,to⟩ | ⟨lw,lp,ws,ps,d,X,Z,to⟩
  .have d0:=to.d0;have same:=to.same;rw[sm1,gm] at same;have yg:∀g,g∈gs->0<=Wg.sm m fun i=>bt g i*Y i:=fun g hg=>by
    obtain⟨j,hj,e⟩:=qCv hg;have z:=to.cols (j+1) (by lia);rw[if_neg (by lia),qBi] at z;have e':gN gs j=g:=fU (by rw[qAc hj,e]);have ew:∀i,wA gs (j+1) i=bt g i:=fun i=>by show bt (gN gs j) i=_;rw[e']
    rw[Wg.bC fun i _=>by rw[ew i]] at z;exact z
   have x0:0<X 0:=by
    rcases qNv (to.x0 0) with z | z
    .exact z
    .exfalso;obtain⟨_,b2⟩:=bal Y yg (by rw[same,<- z];exact qDi _);have c0:=to.cols 0 (by lia);rw[if_pos rfl,qCm] at c0;have c1:(Wg.sm m fun i=>wA gs 0 i*Y i)=0:=by
      show(Wg.sm m fun i=>mH gs i*Y i)=0;rw[GA];refine Wg.cL fun j hj=>b2 _ ?_;delta gN;rw[qAf,qAc hj];exact qDa hj
     lia
   have sd:=yX (by lia) to.dm (EB gl) (fun _=>by decide);have a1:eV [V.str "best",V.ref lw,V.ref lp] 1=some (.ref lw):=rfl;have wl:ws.length=gs.length+1:=to.fw.len;have ew0:ws[0]?=some ws[0]:=qAc (by lia);have a0:eV (ws.map V.ref) 0=some (.ref ws[0]):=fA (j:=0) (by rw[qAn,ew0];rfl);dsimp only[aX];exists _,rfl,r,_,_,_,rfl,rfl,cE.of to.tup,a1,lw,_,_,_,rfl,rfl,aS.of to.fw.hr,a0;dsimp only[aX];have hp11:=s11 _ _ (s210 _ _ hp2);refine⟨_,rfl,_,rfl,r,_,_,_,rfl,rfl,cE.of to.tup,a1,_,rfl,lw,_,rfl,aS.of to.fw.hr,fun lz hlz=>?_⟩;have u12:=aH.aG (o:=.lst (fR (ws.map V.ref) (some 1) none)) hlz;have e12:upd H11 lz (.lst (fR (ws.map V.ref) (some 1) none)) lz=some (.lst ((ws.drop 1).map V.ref)):=by
    rw[aD,show(1:Int)=((1:Nat):Int) from rfl,DQ,qLn]
   generalize upd H11 lz (.lst (fR (ws.map V.ref) (some 1) none))=H12 at u12 e12|-;exists p,lz,rfl,⟨_,aS.of (u12 _ _ hp11)⟩,⟨_,aS.of e12⟩;refine rC (xs:=a9 gs) (xs':=(ws.drop 1).map V.ref) (fun σ'=>∃o0 o1:Option V,σ'=[o0,o1,some (.ref ws[0])]) (fun i ys H'=>eB H' d ys (As gs X i)) (fun i ys H1 H2 st h=>h.t st) ⟨_,_,rfl⟩ trivial (aS.of (u12 _ _ hp11)) (aS.of e12) (by rw[bI,qAa,qEt];lia) (by rw[bI];exact qAo (aK (by lia))) (fun i x y tt σ1 H13 kk kk0 ys hσ s13 hx hy ht iv g1 g2=>?_) fun D ys H13 hD13 s13 iv hd13=>?_
   .obtain⟨o0,o1,rfl⟩:=hσ;obtain⟨g,hg,rfl⟩:=fE hx;obtain⟨w',hw',rfl⟩:=dB hy;have hw1:ws[i+1]?=some w':=by rw[qHh] at hw';rw[qJx];exact hw'
    have hf0:=s13 _ _ (u12 _ _ (to.fw.at_ 0 _ ew0));have hf1:=s13 _ _ (u12 _ _ (to.fw.at_ (i+1) w' hw1));exists tt,_,rfl,cE.of ht,rfl,_,_,rfl,_,_,rfl,rfl;refine⟨_,rfl,_,rfl,_,rfl,ws[0],w',X 0,X (i+1),d,rfl,hf0,hf1,d0,sd,(to.sX 0).mono #[1],(to.sX _).mono #[1],fun rr H14 s14 h14=>?_⟩;refine⟨qE,fun z2 hz2=>?_⟩;have u15:=aH.aG (o:=.tup [.int (g:Int),.ref rr]) hz2;refine g1 _ _ _ ⟨_,_,rfl⟩ (s14.trans u15) ?_;rw[wN,fU hg];exact eB.app (p:=((g:Int),X 0+X (i+1))) aD (u15 _ _ h14) (iv.t (s14.trans u15).t)
   .rw[bI] at iv;have sA:=s1.trans (s2.trans (s210.trans (s11.trans u12)));refine k D H13 ys d X (sA.free hD13) (sA.trans s13) hd13 iv d0 to.ds to.sX x0 to.x0 fun i hi=>?_;have mt:=to.meets i hi;rw[qCm,wM] at mt;have e1:(Wg.sm gs.length fun j=>bt (gN gs j) i*(X 0+X (j+1)))=mH gs i*X 0+Wg.sm gs.length fun j=>bt (gN gs j) i*X (j+1):=by
     rw[show(fun j=>bt (gN gs j) i*(X 0+X (j+1)))=fun j=>X 0*bt (gN gs j) i+bt (gN gs j) i*X (j+1) from funext fun j=>by grind,Wg.fO,Wg.bT];delta mH;rw[qCt]
    rw[e1];exact mt
  .exfalso;have ng:=to.neg;rw[sm1] at ng;have yg:∀g,g∈gs->0<=Wg.sm m fun i=>bt g i*Y i:=fun g hg=>by
    obtain⟨j,hj,e⟩:=qCv hg;have z:=to.cols (j+1) (by lia);have e':gN gs j=g:=fU (by rw[qAc hj,e]);have ew:∀i,wA gs (j+1) i=bt g i:=fun i=>by show bt (gN gs j) i=_;rw[e']
    rw[Wg.bC fun i _=>by rw[ew i]] at z;exact z
   have:=(bal Y yg (by lia)).1;lia
  .exfalso;have mo:=to.more;rw[gm] at mo;have hg0:gs[0]?=some gs[0]:=qAc gp;obtain⟨q1,q2⟩:=g64 _ (qDa gp);obtain⟨i,hi,hb⟩:=BQ ⟨m,by lia⟩ ⟨gs[0],h64 _ (qDa gp)⟩ q1 q2;have zz:=yV (fun j _=>qEo (Ov gs j i.1) (to.z0 j)) (to.away i.1 hi) 0 (by lia);have t1:1<=mH gs i.1:=by
    have z1:=HK (f:=fun j=>bt (gN gs j) i.1) (n:=gs.length) (fun j _=>by rcases wK (gN gs j) i.1 with e | e <;> rw[e] <;> decide) gp
    have e':gN gs 0=gs[0]:=fU hg0;dsimp only at z1 hb;rw[e',hb] at z1;exact z1
   rcases Int.mul_eq_zero.mp zz with z | z
   .have z:mH gs i.1=0:=z;lia
   .lia
noncomputable def kA(gs:List Nat)(c i:Nat):Int:=if c%2=0 then bt (gN gs (c/2)) i else -bt (gN gs (c/2)) i
theorem yY(gs:List Nat)(c i:Nat):(kA gs c i).natAbs<=1:=by
 delta kA;split
 .exact pU _ _
 .rw[qLj];exact pU _ _
theorem GB(m0:0<m)(m6:m<=6)(gl:gs.length<=6):Inst m (2*gs.length) (kA gs) (bt (2^h)):=⟨m0,by lia,by lia,fun j i=>qBp (yY gs j i) #[1],fun i=>(rW _ i).mono #[1]⟩
structure wQ (m k:Nat) (A:Nat->Nat->Int) (H:Hp) (q:Addr) (cs:List Addr):Prop where
 hq:H q=some (.lst (cs.map V.ref))
 len:cs.length=k
 at_:∀(c:Nat) (a:Addr),cs[c]?=some a->H a=some (.lst (bF m (A c)))
theorem wQ.add{m k:Nat}{A:Nat->Nat->Int}{H:Hp}{q a b:Addr}{cs:List Addr}(m0:0<m)(h:wQ m k A H q cs)(ha:H a=some (.lst (bF m (A k))))(hb:H b=some (.lst (bF m (A (k+1))))):
  wQ m (k+2) A (upd H q (.lst (cs.map V.ref++[V.ref a,V.ref b]))) q (cs++[a,b]):=by
 have hne:∀(x:Addr) (r:Nat->Int),H x=some (.lst (bF m r))->x≠q:=fun x r e z=>by
  rw[z,h.hq] at e;exact pX m0 (HO.lst.inj (Option.some.inj e)).symm
 refine⟨by rw[aD,qAr];rfl,by rw[qAj,h.len];rfl,fun c x e=>?_⟩;rcases qAm c cs.length with z | z
 .rw[qAy z] at e;have w:=h.at_ c x e;rw[aR (hne _ _ w)];exact w
 .rw[qAz z,h.len] at e;rw[h.len] at z;rcases qAm k c with z' | z'
  .have hc:c-k=1:=by
    have:=(List.getElem?_eq_some_iff.mp e).1;simp only[qBq,qKu] at this;lia
   rw[hc] at e;obtain rfl:b=x:=Option.some.inj e;rw[aR (hne _ _ hb),show c=k+1 by lia];exact hb
  .rw[show c-k=0 by lia] at e;obtain rfl:a=x:=Option.some.inj e;rw[aR (hne _ _ ha),show c=k by lia];exact ha
theorem wQ.same{m k:Nat}{A:Nat->Nat->Int}{H H':Hp}{q:Addr}{cs:List Addr}(h:wQ m k A H q cs)(s:aH H H'):wQ m k A H' q cs:=⟨s _ _ h.hq,h.len,fun c a e=>s _ _ (h.at_ c a e)⟩
noncomputable def j0(gs:List Nat)(F:Nat->Int)(k:Nat):List (Int×Int):=((qAk k).filter fun j=>decide (F j≠0)).map fun(j:Nat)=>((gN gs j:Int),F j)
theorem nI(gs:List Nat)(F:Nat->Int)(k:Nat):j0 gs F (k+1)=if F k≠0 then j0 gs F k++[((gN gs k:Int),F k)] else j0 gs F k:=by
 delta j0;rw[qBm,qHi,qAr,qDw,qIh];by_cases h:F k≠0
 .rw[if_pos (decide_eq_true h),if_pos h];rfl
 .rw[if_neg (by rw[decide_eq_false h];exact qAq),if_neg h,qEv,qDp]
theorem oO(gs:List Nat)(j:Nat):kA gs (2*j)=bt (gN gs j):=by
 funext i;delta kA;rw[if_pos (by lia),show 2*j/2=j by lia]
theorem t6(gs:List Nat)(j:Nat):kA gs (2*j+1)=fun i=>-bt (gN gs j) i:=by
 funext i;delta kA;rw[if_neg (by lia),show(2*j+1)/2=j by lia]
theorem BS:∀h:_root_.Fin 6,alone h.1=((2^h.1:Nat):Int):=by decide +kernel
theorem wR(f:Nat->Int):∀n,Wg.sm (2*n) f=Wg.sm n fun j=>f (2*j)+f (2*j+1)
 | 0=>rfl
 | n+1=>by
  show Wg.sm (2*n) f+f (2*n)+f (2*n+1)=(Wg.sm n fun j=>f (2*j)+f (2*j+1))+(f (2*n)+f (2*n+1));rw[wR f n];lia
def HM:Sp:=fun vs H Q _=>∃(p:Addr) (h m:Nat) (gs:List Nat),vs=[.int (h:Int),.ref p,.int (m:Int)]/\H p=some (.lst (a9 gs))/\h<m/\m<=6/\gs.length=m/\(∀g,g∈gs->g<64)/\Cm.i5 m (gE gs) /\
 ∀D H' ys (d:Int) (F:Nat->Int),H D=none->aH H H'->H' D=some (.lst ys)->eB H' d ys (j0 gs F gs.length)->0<d->Sm 6000 d->(∀j,Sm 310000 (F j))->(∀i,i<m->(Wg.sm gs.length fun j=>bt (gN gs j) i*F j)=bt (2^h) i*d)->Q (.ref D) H'
theorem p6:aV ["hand","groups","many","columns","group","column","weights","factors"] ["hand","groups","many"] (aI Km):=#[1,2]
theorem LL{f1 f2 f3 f4:Addr}{fd1 fd2 fd3 fd4:qCo}(t:Tx K mg "key_of" Km ["hand","groups","many"] f fd)(T:#[4])(D_marks_of:#[5] 1 "marks_of" ["group","many"] wL f1 fd1)(D_below_nought:#[5] 1 "below_nought" ["column"] Es f2 fd2)(D_weigh:#[1,1] 5 "weigh" ["columns","due","gains"] (wF K NR) f3 fd3)(D_minus:#[5] 3 "minus" ["one","other"] Er f4 fd4):
  #[5] 6 "key_of" ["hand","groups","many"] HM f fd:=by
 refine t.gO p6 (fun vs H Q E h=>?_) (fun cdv _A outer s H vs Q E hr h=>?_)
 .obtain⟨p,h,m,gs,rfl,_⟩:=h;rfl
 .obtain⟨p,h,m,gs,rfl,hp,hm,m6,gl,g64,ind,k⟩:=h;refine⟨_,(aC (aP (i:=3) p6.nd rfl bN (bQ aB))
   (aC (cF #[9] rfl (bL (pv 1)) (aO (i:=4) p6.nd rfl #[3])
    (aC (aP (i:=5) p6.nd rfl bN (aY D_marks_of hr #[1] #[0] (aA (pv 4) (aA (pv 2) aB))))
    (aF (sJ (i:=3) p6.nd rfl bN (bQ (aA (pv 5) (aA (aY D_below_nought hr #[1] #[0] (aA (pv 5) aB)) aB))) oJ))))
   (aC (aP (i:=6) p6.nd rfl #[3] (aQ bB (fS cI D_weigh hr #[1] #[0] (aA (pv 3) (aA (aY D_marks_of hr #[1] #[0] (aA (aQ bB (fY (v:=.ref AL) #[0] T.Fb rfl) (pv 0) #[6]) (aA (pv 2) aB))) (aA (aM gI (bQ (aA aE aB)) (aJ aN #[0] T.bV bH (aA (pv 3) aB))) aB)))) aE #[6]))
   (aC (eJ (NB:=["place","weights"]) (pick:=[none,some 6]) (i:=7) p6.nd rfl #[3] #[0] (bG #[7] (by exact(And.intro rfl trivial)) rfl #[2] #[2] #[0] #[0]) rfl
     (bY #[0] T.bW (aA (aJ aN #[0] T.bV bH (aA (pv 1) aB)) aB)) (fun _ _ _=>aO (i:=0) #[8,["place","weights"]] rfl bN)
     (fun _ _ _=>bJ) (fun _ _ _=>(aY D_minus hr #[1] #[0] (aA (aQ (bU K) (pv 1) (aM bK aE (pv 0)) #[6]) (aA (aQ (bU K) (pv 1) (aM fF (aM bK aE (pv 0)) aE) #[6]) aB)))))
   (aF (aT (bM (NB:=["group","factor"]) (pick:=[none,none]) (bG #[7] (by exact trivial) rfl #[2] #[2] #[0] #[0]) rfl
     (g8 #[0] T.hZ (aA (pv 1) (aA (pv 7) aB))) (fun _ _ _=>(show PG _ _ (sI K 2 (fZ (aX 0) (fZ (aX 1) sE))) from fM rfl (bP (aO (i:=0) #[8,["group","factor"]] rfl bN) (bP (aO (i:=1) #[8,["group","factor"]] rfl bN) dP))))
     (fun _ _ _=>eF (aU (vF K hr.units) (pv 1) (dN (aA aE (aA aE aB))) (aW _))) (fun _ _ _=>(dN (aA (pv 0) (aA (pv 1) aB))))))))))),?_⟩
  have m0:0<m:=by lia
  refine⟨by simp[qCc],fun lc hlc=>?_⟩;dsimp only[aX];have u0:aH H (upd H lc (.lst [])):=.aG hlc;exists _,rfl,p,rfl,⟨_,aS.of (u0 _ _ hp)⟩;refine dX (xs:=a9 gs) (fun j σ' H'=>aH H H'/\∃(cs:List Addr) (o4 o5 o6 o7:Option V),wQ m (2*j) (kA gs) H' lc cs/\σ'=[some (.int (h:Int)),some (.ref p),some (.int (m:Int)),some (.ref lc),o4,o5,o6,o7]) ⟨u0,[],_,_,_,_,⟨aD,rfl,fun c a e=>by cases e⟩,rfl⟩ ?_ ?_ ?_
  .rintro j σ' H' _ ⟨s2,_⟩;exact aS.of (s2 _ _ hp)
  .rintro j x σ' H2 hx ⟨s2,cs,o4,o5,o6,o7,kc,rfl⟩;obtain⟨g,hg,rfl⟩:=fE hx;have hj:j<gs.length:=(List.getElem?_eq_some_iff.mp hg).1;dsimp only[aX];refine⟨_,rfl,_,rfl,g,m,rfl,g64 g (qAx hg),m6,fun D H3 hD s3 hd=>?_⟩;dsimp only[aX];refine⟨_,rfl,_,rfl,_,rfl,D,m,bt g,rfl,hd,by lia,fun D2 H4 hD2 s4 hd4=>?_⟩;have eg:gN gs j=g:=fU hg;refine⟨qE,fun l5 h5=>?_⟩;have u5:=aH.aG (o:=.lst [.ref D,.ref D2]) h5;have e5:upd H4 l5 (.lst [.ref D,.ref D2]) l5=_:=aD;generalize upd H4 l5 (.lst [.ref D,.ref D2])=H5 at u5 e5|-;have kc5:=kc.same (s3.trans (s4.trans u5));refine⟨lc,l5,_,_,rfl,rfl,kc5.hq,e5,by rw[qAa,kc5.len,qCc];simp;lia,?_⟩;refine⟨(s2.trans (s3.trans (s4.trans u5))).upd_ne' hlc,cs++[D,D2],_,_,_,_,kc5.add m0 ?_ ?_,rfl⟩
   .show H5 D=some (.lst (bF m (kA gs (2*j))));rw[oO,eg];exact u5 _ _ (s4 _ _ hd)
   .show H5 D2=some (.lst (bF m (kA gs (2*j+1))));rw[t6,eg];exact u5 _ _ hd4
  .rintro σ' H2 ⟨s2,cs,o4,o5,o6,o7,kc,rfl⟩;rw[bI] at kc;have hat:eV (jD.map V.int) (h:Int)=some (.int (alone h)):=by
    have z:=pT (i:=(h:Int)) (by lia) (by lia);simpa using z
   have eal:alone h=((2^h:Nat):Int):=BS ⟨h,by lia⟩;refine⟨_,rfl,_,rfl,AL,_,_,_,rfl,rfl,T.al _,hat,_,rfl,2^h,m,by rw[eal];rfl,qIt (n:=6) #[1] (by lia),m6,fun pd H3 hpd s3 hd3=>?_⟩;refine⟨kE,fun b2 hb2=>?_⟩;have u8:=aH.aG (o:=.lst [.int 0]) hb2;have e8:upd H3 b2 (.lst [.int 0]) b2=_:=aD;generalize upd H3 b2 (.lst [.int 0])=H8 at u8 e8|-;have kc8:=kc.same (s3.trans u8);have cl:(cs.map V.ref).length=2*gs.length:=by rw[qAa,kc.len]
   refine⟨_,rfl,lc,_,rfl,.inl (aS.of kc8.hq),b2,_,_,rfl,rfl,e8,by lia,by rw[cl];lia,?_,fun b3 hb3=>?_⟩
   .rw[cl];show 1*((2*gs.length:Nat):Int).toNat<=qAi;exact qAo (aK (by lia))
   rw[cl,qBb,gD];have u9:=aH.aG (o:=.lst (bF (2*gs.length) fun _=>0)) hb3;have e9:upd H8 b3 (.lst (bF (2*gs.length) fun _=>0)) b3=_:=aD;generalize upd H8 b3 (.lst (bF (2*gs.length) fun _=>0))=H9 at u9 e9|-;have kc9:=kc8.same u9;dsimp only[iR,qCj,qCl];refine yT (m:=m) (n:=2*gs.length) (A:=kA gs) (due:=bt (2^h)) (g:=fun _=>0) (GB m0 m6 (by lia)) (cs:=cs) ⟨kc9.hq,kc9.len,kc9.at_,u9 _ _ (u8 _ _ hd3)⟩ e9 (fun j=>Sm.of 2 #[1] #[1]) fun r H11 s11 told=>?_;have s211:=s3.trans (u8.trans (u9.trans s11));rcases told with ⟨lw,lp,ws,ps,d,X,Y,to⟩ | ⟨lp,ps,d,Y,to⟩ | ⟨lw,lp,ws,ps,d,X,Z,to⟩
   .have a1:eV [V.str "best",V.ref lw,V.ref lp] 1=some (.ref lw):=rfl;have d0:=to.d0;have sd:=Eo m6 to.dm (fun j i=>yY gs j i) (fun i=>pU _ _);have wl:ws.length=2*gs.length:=to.fw.len;exists r,_,_,_,rfl,rfl,cE.of to.tup,a1;dsimp only[aX];have hp11:=s211 _ _ (s2 _ _ hp);refine⟨_,rfl,p,_,rfl,.inl (aS.of hp11),gs.length,by rw[bI],by lia,by lia,?_⟩;refine j6 (n:=gs.length) (fun i ys H'=>∃fs:List Addr,ys=fs.map V.ref/\fs.length=i/\∀(j:Nat) (w:Addr),fs[j]?=some w->H' w=some (gC (X (2*j)-X (2*j+1)) d)) ?_ ⟨[],rfl,rfl,fun j w e=>by cases e⟩ (qAo (aK (by lia))) (fun i H12 kk kk0 ys s12 hi iv g1 g2=>?_) fun lf ys H12 hlf s12 iv hd12=>?_
    .rintro i ys H1 H2 st ⟨fs,e1,e2,e3⟩;exact⟨fs,e1,e2,fun j w e=>st _ _ (e3 j w e)⟩
    .obtain⟨fs,rfl,fl,fa⟩:=iv;have hw:=s12 _ _ to.fw.hr;have at1:∀c:Nat,c<2*gs.length->∃w,ws[c]?=some w/\eV (ws.map V.ref) (c:Int)=some (.ref w)/\H12 w=some (gC (X c) d):=fun c hc=>by
      have e:=qAc (l:=ws) (i:=c) (by lia);exact⟨_,e,fA (by rw[qAn,e];rfl),s12 _ _ (to.fw.at_ c _ e)⟩
     obtain⟨w1,_,t1,q1⟩:=at1 (2*i) (by lia);obtain⟨w2,_,t2,q2⟩:=at1 (2*i+1) (by lia);have i1:((2*i:Nat):Int)=2*(0+(i:Int)):=by lia
     have i2:((2*i+1:Nat):Int)=2*(0+(i:Int))+1:=by lia
     rw[i1] at t1;rw[i2] at t2;have sm2:Sm 10 (2:Int):=by show(2:Int).natAbs<2^10;decide
     have smi:Sm 10 (0+(i:Int)):=by show(0+(i:Int)).natAbs<2^10;lia
     refine⟨_,rfl,_,rfl,_,_,rfl,rfl,sm2.mb smi,lw,_,_,_,rfl,rfl,aS.of hw,t1,_,rfl,_,rfl,_,_,rfl,rfl,sm2.mb smi,_,_,rfl,rfl,lw,_,_,_,rfl,rfl,aS.of hw,t2,w1,w2,X (2*i),X (2*i+1),d,rfl,q1,q2,d0,sd,(to.sX _).mono #[1],(to.sX _).mono #[1],fun rr H13 s13 h13=>?_⟩;refine g1 _ _ s13 ⟨fs++[rr],by rw[qAr];rfl,by rw[qAj,fl];rfl,fun j w e=>?_⟩;rcases qAm j fs.length with z | z
     .rw[qAy z] at e;exact s13 _ _ (fa j w e)
     .rw[qAz z] at e;have hj:j-fs.length=0:=by
       have:=(List.getElem?_eq_some_iff.mp e).1;rw[qBf] at this;lia
      rw[hj] at e;obtain rfl:=Option.some.inj e;rw[show j=i by lia];exact h13
    .obtain⟨fs,rfl,fl,fa⟩:=iv;have hp12:=s12 _ _ hp11;exists _,rfl,_,rfl,p,lf,rfl,⟨_,aS.of hp12⟩,⟨_,aS.of hd12⟩;refine rC (xs:=a9 gs) (xs':=fs.map V.ref) (fun σ'=>∃o0 o1:Option V,σ'=[o0,o1]) (fun i ys H'=>eB H' d ys (j0 gs (fun j=>X (2*j)-X (2*j+1)) i)) (fun i ys H1 H2 st h=>h.t st) ⟨_,_,rfl⟩ trivial (aS.of hp12) (aS.of hd12) (by rw[bI,qAa,fl]) (by rw[bI];exact qAo (aK (by lia))) (fun i x y tt σ1 H13 kk kk0 ys hσ s13 hx hy ht iv g1 g2=>?_) fun D ys H13 hD13 s13 iv hd13=>?_
     .obtain⟨o0,o1,rfl⟩:=hσ;obtain⟨g,hg,rfl⟩:=fE hx;obtain⟨w',hw',rfl⟩:=dB hy;have hfw:=s13 _ _ (fa i w' hw');exists tt,_,rfl,cE.of ht,rfl;refine⟨_,_,rfl,_,_,rfl,rfl,_,rfl,qE,fun z1 hz1=>?_⟩;have u13:=aH.aG (o:=.tup [.int 0,.int 1]) hz1;have x13:upd H13 z1 (.tup [.int 0,.int 1]) z1=_:=aD;generalize upd H13 z1 (.tup [.int 0,.int 1])=H14 at u13 x13|-;exists _,_,yU (u13 _ _ hfw),.tup (cE.of x13) (.cons (.int _) (.cons (.int _) .nil)),mF _ _,mF _ _,_,rfl;rw[pV d0];by_cases e:X (2*i)-X (2*i+1)≠0
      .refine cK (fun _=>?_) (fun no=>absurd (decide_eq_true e) no);refine⟨_,rfl,_,rfl,qE,fun z2 hz2=>?_⟩;have u14:=aH.aG (o:=.tup [.int (g:Int),.ref w']) hz2;refine g1 _ _ _ ⟨_,_,rfl⟩ (u13.trans u14) ?_;rw[nI,if_pos e,fU hg];exact eB.app (p:=((g:Int),X (2*i)-X (2*i+1))) aD (u14 _ _ (u13 _ _ hfw)) (iv.t (u13.trans u14).t)
      .refine cK (fun y=>absurd (of_decide_eq_true y) e) (fun _=>g2 _ _ ⟨_,_,rfl⟩ u13 ?_);rw[nI,if_neg e];exact iv.t u13.t
     .rw[bI] at iv;have sA:=s2.trans (s211.trans s12);refine k D H13 ys d _ (sA.free hD13) (sA.trans s13) hd13 iv d0 to.ds (fun j=>((to.sX _).sub (to.sX _)).mono #[1]) fun i hi=>?_;have mt:=to.meets i hi;rw[wR] at mt;rw[<- mt];refine Wg.bC fun j _=>?_;rw[oO,t6];grind
   .exfalso;have ng:=to.neg;have yz:∀v,v∈gE gs->Cm.dot m Y v=0:=fun v hv=>by
     obtain⟨g,hg,rfl⟩:=List.mem_map.mp hv;obtain⟨j,hj,e⟩:=qCv hg;have e':gN gs j=g:=fU (by rw[qAc hj,e]);have z1:=to.cols (2*j) (by lia);have z2:=to.cols (2*j+1) (by lia);rw[oO,e'] at z1;rw[t6,e'] at z2;have z3:(Wg.sm m fun i=>-bt g i*Y i)=-Wg.sm m fun i=>bt g i*Y i:=by
      have:=Wg.bT m (-1) fun i=>bt g i*Y i;rw[show(-Wg.sm m fun i=>bt g i*Y i)=-1*Wg.sm m fun i=>bt g i*Y i by lia,<- this];exact Wg.bC fun i _=>by grind
     rw[z3] at z2;have z4:Cm.dot m Y (bt g)=Wg.sm m fun i=>bt g i*Y i:=Wg.bC fun i _=>qCt _ _;rw[z4];lia
    have z:=Cm.Told.dot ind (Cm.BG ind (by delta gE;rw[qAa,gl]) (bt (2^h))) yz;have z4:Cm.dot m Y (bt (2^h))=Wg.sm m fun i=>bt (2^h) i*Y i:=Wg.bC fun i _=>qCt _ _;rw[z4] at z;lia
   .exfalso;have mo:=to.more;rw[Wg.cL fun j _=>qBi _] at mo;exact absurd mo #[1]
noncomputable def oP(m:Nat)(tb Y:Nat->Int)(b:Int)(g:Nat):Int:=tb g*b-Wg.sm m fun i=>bt g i*Y i
noncomputable def k8(m:Nat)(tb Y:Nat->Int)(b:Int)(k:Nat):List (Key×V):=(qAk k).map fun(j:Nat)=>(Sum.inl ((j+1:Nat):Int),V.int (oP m tb Y b (j+1)))
theorem EC(l:List Int)(F:Int->V):((qAk (l.map V.int).length).filterMap fun i=>((l.map V.int)[i]?).bind fun _=>(l[i]?).map F)=l.map F:=by
 rw[qAa];have e:((qAk l.length).filterMap fun i=>((l.map V.int)[i]?).bind fun _=>(l[i]?).map F)=(qAk l.length).filterMap fun i=>(l[i]?).bind fun h=>some (F h):=by
  refine dI fun i hi=>?_;have hi:=List.mem_range.mp hi;rw[qAn,qAc hi];rfl
 rw[e,pZ,qDo]
theorem ED(m:Nat)(tb Y:Nat->Int)(b:Int)(j:Nat):putK (k8 m tb Y b j) (Sum.inl ((j+1:Nat):Int):Key) (V.int (tb (j+1)*b-Wg.sm m fun i=>bt (j+1) i*Y i))=k8 m tb Y b (j+1):=by
 delta putK;rw[if_neg]
 .delta k8;rw[qBm,qAr];rfl
 .intro z;obtain⟨kv,hkv,e⟩:=List.any_eq_true.mp z;obtain⟨i,hi,rfl⟩:=List.mem_map.mp hkv;have hi:=List.mem_range.mp hi;have e:=Sum.inl.inj (of_decide_eq_true e);omega
def HN(K:qAd):Sp:=fun vs H Q _=>∃(p q:Addr) (m n:Nat) (tb Y:Nat->Int) (b:Int),vs=[.ref p,.ref q,.int b]/\H p=some (.lst (bF n tb))/\H q=some (.lst (bF m Y))/\1<=m/\m<=6/\n=2^m/\Sm 6000 b/\(∀j,Sm 300000 (Y j))/\(∀j,Sm 80000 (tb j)) /\
 ∀D H' ob,H D=none->aH H H'->H' D=some (.frz ob (.dK (k8 m tb Y b (n-2))))->Q (.ref D) H'
theorem EE:aV ["table","tops","bottom","lacks","group"] ["table","tops","bottom"] (aI Kk):=#[1,2]
theorem LM(t:Tx K mg "lacks_of" Kk ["table","tops","bottom"] f fd)(T:#[4])(D_hands_of:#[1,1] 4 "hands_of" ["group"] (HC K NG) f1 fd1):
  #[5] 5 "lacks_of" ["table","tops","bottom"] (HN K) f fd:=by
 refine t.gO EE (fun vs H Q E h=>?_) (fun cdv _A outer s H vs Q E hr h=>?_)
 .obtain⟨p,q,m,n,tb,Y,b,rfl,_⟩:=h;rfl
 .obtain⟨p,q,m,n,tb,Y,b,rfl,hp,hq,m1,m6,hn,sb,sY,st,k⟩:=h;refine⟨_,(aC (aP (i:=3) EE.nd rfl bN CI)
   (aC (cF #[9] rfl (gZ #[0] T.bW (aA aE (aA (aM fG (aJ aN #[0] T.bV bH (aA (pv 0) aB)) aE) aB))) (aO (i:=4) EE.nd rfl #[3])
    (aF (zR (Cy hr) (pv 3) (pv 4) (aM fG (aM bK (aQ a8 (pv 0) (pv 4) #[6]) (pv 2)) (aJ (dG rfl) #[0] T.gL gJ (aA (bM (NB:=["hand","tops"]) (pick:=[none,some 1]) (bG #[7] (by exact(And.intro rfl trivial)) rfl #[2] #[2] #[0] #[0]) rfl
     (bL (fS cI D_hands_of hr #[1] #[0] (aA (pv 4) aB))) (fun _ _ _=>aO (i:=0) #[8,["hand","tops"]] rfl bN)
     (fun _ _ _=>bJ) (fun _ _ _=>(aQ (bU K) (pv 1) (pv 0) #[6]))) aB))) rfl)))
   (aF (aT (FW (pv 3)))))),?_⟩
  refine fun D hD=>?_;dsimp only[aX];have u0:aH H (upd H D (.dK [])):=.aG hD;have n64:n<=64:=by rw[hn];exact BN m6
  have n2:2<=n:=by rw[hn];exact qBh (n:=2) (i:=1) #[1] m1
  exists _,rfl,p,_,rfl,.inl (aS.of (u0 _ _ hp)),_,_,rfl,rfl,1,_,rfl,?_
  .rw[aL];lia
  rw[aL,show(((n:Nat):Int)-1-1).toNat=n-2 by lia];refine dJ (lo:=1) (n:=n-2) (fun j σ' H'=>aH H H'/\∃(o4:Option V),H' D=some (.dK (k8 m tb Y b j))/\σ'=[some (.ref p),some (.ref q),some (.int b),some (.ref D),o4]) ⟨u0,_,aD,rfl⟩ ?_ ?_
  .rintro j σ' H2 hj ⟨s2,o4,hd,rfl⟩;have e1:(1:Int)+(j:Int)=((j+1:Nat):Int):=by lia
   rw[e1];dsimp only[aX];have hp2:=s2 _ _ hp;have hq2:=s2 _ _ hq;have gm:j+1<2^m:=by lia
   have h64:j+1<64:=by lia
   exists _,rfl,_,rfl,p,_,_,_,rfl,rfl,aS.of hp2,bR (by lia),_,rfl,_,_,rfl,rfl,(st _).mb sb;refine⟨_,rfl,_,rfl,.int _,fun no=>?_,fun g' la H3 hv _ hla s3 hl3=>?_⟩
   .exact absurd no (by rw[Gh (m:=6) h64];decide)
   obtain rfl:j+1=g':=by have:=V.int.inj hv;lia
   have hal:∀h∈i6 (j+1),0<=h/\h<m:=fun h hh=>yR gm 6 h hh;have hlen:(i6 (j+1)).length<=6:=DO (j+1) 6;exists la,rfl,⟨_,aS.of hl3⟩;refine cC (xs:=(i6 (j+1)).map V.int) (fun i _=>((i6 (j+1))[i]?).map fun h=>V.int (Y h.toNat)) (aS.of hl3) (by rw[qAa];exact qAo (aK (by lia))) (fun i x H4 kk kk0 s4 hx g1 g2=>?_) fun l4 H4 hl4 s4 hd4=>?_
   .rw[qAn] at hx;cases e:(i6 (j+1))[i]? with
    | none=>rw[e] at hx;cases hx
    | some h =>
     rw[e] at hx g1;obtain rfl:V.int h=x:=Option.some.inj hx;obtain⟨z0,zm⟩:=hal h (qAx e);have hat:eV (bF m Y) h=some (.int (Y h.toNat)):=by
      have z:=bR (f:=Y) (n:=m) (j:=h.toNat) (by lia);rw[qCx z0] at z;exact z
     exists _,rfl,_,rfl,q,_,_,_,rfl,rfl,aS.of (s4 _ _ (s3 _ _ hq2)),hat;exact g1 _ rfl _ (.refl _)
   .rw[EC] at hd4;have es:((i6 (j+1)).map fun h=>Y h.toNat).sum=Wg.sm m fun i=>bt (j+1) i*Y i:=by
     delta i6;rw[HG];have z:=Ap (Y:=Y) gm (6-m);rw[show m+(6-m)=6 by lia] at z;exact z
    have hdD:=s4 _ _ (s3 _ _ hd);refine⟨l4,(i6 (j+1)).map fun h=>Y h.toNat,rfl,.inl (aS.of (by rw[hd4,qCn];rfl)),_,_,rfl,rfl,_,rfl,_,rfl,D,_,rfl,.inl ⟨_,.inl ((j+1:Nat):Int),hdD,rfl,by delta k8;rw[qAa,qAu,qCc];lia,rfl⟩,(s2.trans (s3.trans s4)).upd_ne' hD,_,?_,rfl⟩;rw[aD,es,ED]
  .rintro σ' H2 ⟨s2,o4,hd,rfl⟩;refine⟨_,rfl,D,_,rfl,hd,fun ob=>?_⟩;exact k D _ ob hD (s2.upd_ne' hD) aD
theorem p7(x:Int):gC x 1 = .tup [.int x,.int 1]:=by
 have e:dv x 1=1:=by delta dv;rw[if_neg #[1],qQb];rfl
 delta gC;rw[e,qKd,qKd]
theorem GC{a b y dw L r:Int}(h:a*dw=y*b):a*(dw*(L*r))=r*y*(b*L):=by
 have z:a*(dw*(L*r))=a*dw*(L*r):=by grind
 rw[z,h];grind
structure Kp (ks:List Nat) (X:Nat->Int) (d:Int) (H:Hp) (p:Addr) (ws:List Addr):Prop where
 hd:H p=some (.dK ((ks.zip ws).map fun kw=>(Sum.inl (kw.1:Int),V.ref kw.2)))
 len:ws.length=ks.length
 at_:∀(j:Nat) (w:Addr),ws[j]?=some w->H w=some (gC (X (gN ks j)) d)
theorem Kp.same{ks:List Nat}{X:Nat->Int}{d:Int}{H H':Hp}{p:Addr}{ws:List Addr}(h:Kp ks X d H p ws)(s:aH H H'):Kp ks X d H' p ws:=⟨s _ _ h.hd,h.len,fun j w e=>s _ _ (h.at_ j w e)⟩
theorem Kp.keys{ks:List Nat}{ws:List Addr}(h:ws.length=ks.length):(((ks.zip ws).map fun kw=>((Sum.inl (kw.1:Int):Key),V.ref kw.2)).map fun kv=>kV kv.1)=a9 ks:=by
 rw[qCn];delta a9;have e:(ks.zip ws).map Prod.fst=ks:=List.map_fst_zip (by lia);rw[show((fun kv:Key×V=>kV kv.1)∘fun kw:Nat×Addr=>((Sum.inl (kw.1:Int):Key),V.ref kw.2))=(fun(g:Nat)=>V.int (g:Int))∘Prod.fst from rfl,<- qCn,e]
theorem Kp.vals{ks:List Nat}{ws:List Addr}(h:ws.length=ks.length):(((ks.zip ws).map fun kw=>((Sum.inl (kw.1:Int):Key),V.ref kw.2)).map fun kv=>kv.2)=ws.map V.ref:=by
 rw[qCn];have e:(ks.zip ws).map Prod.snd=ws:=List.map_snd_zip (by lia);rw[show((fun kv:Key×V=>kv.2)∘fun kw:Nat×Addr=>((Sum.inl (kw.1:Int):Key),V.ref kw.2))=V.ref∘Prod.snd from rfl,<- qCn,e]
noncomputable def sA(m:Nat)(fr ks:List Nat)(c i:Nat):Int:=if c<fr.length then (if i<m then bt (gN fr c) i else if i=m then 1 else 0) else if i<m then kA ks (c-fr.length) i else 0
noncomputable def sG(tb:Nat->Int)(L:Int)(fr:List Nat)(tp:Nat->Int)(c:Nat):Int:=if c<fr.length then tb (gN fr c)*L else if (c-fr.length)%2=0 then tp ((c-fr.length)/2) else -tp ((c-fr.length)/2)
noncomputable def sD(m i:Nat):Int:=if i<m then 0 else if i=m then 1 else 0
theorem yZ(m:Nat)(fr ks:List Nat)(c i:Nat):(sA m fr ks c i).natAbs<=1:=by
 delta sA;split
 .split
  .exact pU _ _
  .split <;> decide
 .split
  .exact yY _ _ _
  .decide
theorem y3(m i:Nat):(sD m i).natAbs<=1:=by
 delta sD;split
 .decide
 .split <;> decide
theorem iB(m:Nat)(fr ks:List Nat):Cm.oA m bt fr ks (sA m fr ks) where
 f0:=fun c hc=>⟨fun i hi=>by delta sA;rw[if_pos hc,if_pos hi];rfl,by delta sA;rw[if_pos hc,if_neg (qDk _),if_pos rfl]⟩
 k0:=fun j _=>⟨fun i hi=>by delta sA;rw[if_neg (by lia),if_pos hi,show fr.length+2*j-fr.length=2*j by lia,oO];rfl,by delta sA;rw[if_neg (by lia),if_neg (qDk _)]⟩
 k1:=fun j _=>⟨fun i hi=>by delta sA;rw[if_neg (by lia),if_pos hi,show fr.length+(2*j+1)-fr.length=2*j+1 by lia,t6];rfl,by delta sA;rw[if_neg (by lia),if_neg (qDk _)]⟩
theorem Av(tb:Nat->Int)(L:Int)(fr ks:List Nat)(tp:Nat->Int):Cm.PB tb L fr ks tp (sG tb L fr tp) where
 f0:=fun c hc=>by delta sG;rw[if_pos hc];rfl
 k0:=fun j _=>by delta sG;rw[if_neg (by omega),if_pos (by omega),show(fr.length+2*j-fr.length)/2=j by omega]
 k1:=fun j _=>by delta sG;rw[if_neg (by omega),if_neg (by omega),show(fr.length+(2*j+1)-fr.length)/2=j by omega]
theorem GD{m:Nat}{fr ks:List Nat}(m6:m<=6)(h:fr.length+2*ks.length<=70):Inst (m+1) (fr.length+2*ks.length) (sA m fr ks) (sD m) :=
 ⟨by lia,by lia,h,fun j i=>qBp (yZ m fr ks j i) #[1],fun i=>qBp (y3 m i) #[1]⟩
theorem Ow:∀m:_root_.Fin 8,Wg.qH m.1*1^m.1<2^13/\m.1*(Wg.qH m.1*1^m.1)<2^16:=by decide +kernel
theorem EF{m n:Nat}{A:Nat->Nat->Int}{due:Nat->Int}{d:Int}(m7:m<=7)(dm:pQ m A due d)(hA:∀j i,(A j i).natAbs<=1)(hd:∀i,(due i).natAbs<=1):Sm 13 d :=
 qBp (dm 1 (qAg _) hA hd) (Ow ⟨m,by lia⟩).1
theorem EG{m b:Nat}{A:Nat->Nat->Int}{due g Y:Nat->Int}{r:Int}(m7:m<=7)(ps:yS m A due g Y)(hA:∀j i,(A j i).natAbs<=1)(hd:∀i,(due i).natAbs<=1)(r0:0<r)(hg:∀j,Sm b (r*g j))(i:Nat):Sm (b+16) (r*Y i):=by
 have h:=ps 1 ((2^b)/r.natAbs) (qAg _) hA hd (fun j=>by
  have z:(r*g j).natAbs<2^b:=hg j;rw[qDv] at z;exact(Nat.le_div_iff_mul_le (by lia)).mpr (by rw[qMk];exact qAo z)) i
 have f:=(Ow ⟨m,by lia⟩).2;show(r*Y i).natAbs<2^(b+16);rw[qDv];have z1:r.natAbs*(2^b/r.natAbs)<=2^b:=Nat.mul_div_le _ _;have z2:r.natAbs*(Y i).natAbs<=r.natAbs*(m*(2^b/r.natAbs*(Wg.qH m*1^m))):=Nat.mul_le_mul_left _ h;have z3:r.natAbs*(m*(2^b/r.natAbs*(Wg.qH m*1^m)))=r.natAbs*(2^b/r.natAbs)*(m*(Wg.qH m*1^m)):=by
  generalize 2^b/r.natAbs=q;generalize Wg.qH m*1^m=u;generalize r.natAbs=a;simp only[qNx,qPk]
 rw[z3] at z2;have z4:r.natAbs*(2^b/r.natAbs)*(m*(Wg.qH m*1^m))<=2^b*(m*(Wg.qH m*1^m)):=qMu _ z1;have z5:2^b*(m*(Wg.qH m*1^m))<2^b*2^16:=Nat.mul_lt_mul_of_pos_left f (qHa b);rw[qPv];exact qBp z2 (qBp z4 z5)
theorem LO(k:Nat)(g:Nat->Int):bF k g++[.int (g k),.int (g (k+1))]=bF (k+2) g:=by
 delta bF;rw[qBm,qBm,qAr,qAr,qHt];rfl
theorem y4(m:Nat)(f:Nat->Int):bF m f++[.int (f m)]=bF (m+1) f:=by
 delta bF;rw[qBm,qAr];rfl
noncomputable def fK(fr:List Nat)(lam:Nat->Int)(k:Nat):List Nat:=((qAk k).filter fun c=>decide (lam c≠0)).map (gN fr)
theorem rY(fr:List Nat)(lam:Nat->Int)(k:Nat):fK fr lam (k+1)=if lam k≠0 then fK fr lam k++[gN fr k] else fK fr lam k:=by
 delta fK;rw[qBm,qHi,qAr,qDw,qIh];by_cases h:lam k≠0
 .rw[if_pos (decide_eq_true h),if_pos h];rfl
 .rw[if_neg (by rw[decide_eq_false h];exact qAq),if_neg h,qEv,qDp]
theorem iC:g∈fK fr lam k↔∃c,c<k/\lam c≠0/\gN fr c=g:=by
 delta fK;rw[qGi];constructor
 .rintro⟨c,hc,e⟩;obtain⟨a,b⟩:=List.mem_filter.mp hc;exact⟨c,List.mem_range.mp a,of_decide_eq_true b,e⟩
 .rintro⟨c,a,b,e⟩;exact⟨c,List.mem_filter.mpr ⟨List.mem_range.mpr a,decide_eq_true b⟩,e⟩
def HP:Sp:=fun vs H Q _=>∃(p q r:Addr) (m n c:Nat) (tb X:Nat->Int) (d:Int) (ks fr:List Nat) (ws:List Addr),vs=[.ref p,.int (m:Int),.ref q,.ref r]/\H p=some (.lst (bF n tb))/\Kp ks X d H q ws/\H r=some (.lst (a9 fr))/\1<=m/\m<=6/\n=2^m/\0<d/\c<=1000/\Sm c d/\(∀k,Sm (80000+c) (X k))/\(∀j,Sm 80000 (tb j))/\fr.length+2*ks.length<=70/\(∀g,g∈fr->g<n)/\(∀k,k∈ks->k<64)/\Cm.i5 m (gE ks) /\
 (∀y:Nat->Int,(∀k,k∈ks->Cm.pt m bt y k=0)->∃g,g∈fr/\Cm.pt m bt y g<=0) /\
 ∀(R lp le lh:Addr) (H':Hp) (ps:List Addr) (dw:Int) (Z lam mu:Nat->Int),H lp=none->aH H H'->H' R=some (.tup [.ref lp,.ref le,.ref lh])->kC m Z (dw*d) H' lp ps->H' le=some (gC (Z m) (dw*d))->H' lh=some (.lst (a9 (fK fr lam fr.length)))->Sm 13 dw->(∀i,Sm (80000+c+16) (Z i))->Cm.Cert m bt fr ks (fun g=>tb g*(dw*d)-Cm.pt m bt Z g) dw (Z m) lam mu->(∀k,k∈ks->Cm.pt m bt Z k=dw*X k)->Q (.ref R) H'
theorem jI:aV ["table","many","kept","free","bottom","columns","gains","group","top","column","told","prices","holding"] ["table","many","kept","free"] (aI Kh):=#[1,2]
theorem LP{f1 f2 f3 f4 f5 f6:Addr}{fd1 fd2 fd3 fd4 fd5 fd6:qCo}(t:Tx K mg "least_lack" Kh ["table","many","kept","free"] f fd)(T:#[4])(D_common_bottom:#[5] 2 "common_bottom" ["fractions"] Ek f1 fd1)(D_marks_of:#[5] 1 "marks_of" ["group","many"] wL f2 fd2)(D_tops_over:#[5] 1 "tops_over" ["bottom","fractions"] El f3 fd3)(D_below_nought:#[5] 1 "below_nought" ["column"] Es f4 fd4)(D_weigh:#[1,1] 5 "weigh" ["columns","due","gains"] (wF K NR) f5 fd5)(D_fraction:#[1,1] 2 "fraction" ["top","bottom"] (tU K NN) f6 fd6):
  #[5] 6 "least_lack" ["table","many","kept","free"] HP f fd:=by
 refine t.gO jI (fun vs H Q E h=>?_) (fun cdv _A outer s H vs Q E hr h=>?_)
 .obtain⟨p,q,r,m,n,c,tbl,X,d,ks,fr,ws,rfl,_⟩:=h;rfl
 .obtain⟨p,q,r,m,n,c,tbl,X,d,ks,fr,ws,rfl,hp,kp,hfr,m1,m6,hn,d0,c1,sd,sX,st,cnt,frn,Fc,ind,no,k⟩:=h;refine⟨_,(aC (aP (i:=4) jI.nd rfl #[3] (aY D_common_bottom hr #[1] #[0] (aA (iS #[0] T.cR rfl (pv 2)) aB)))
   (aC (eJ (NB:=["group","many"]) (pick:=[none,some 1]) (i:=5) jI.nd rfl bN #[0] (bG #[7] (by exact(And.intro rfl trivial)) rfl #[2] #[2] #[0] #[0]) rfl
     (bL (pv 3)) (fun _ _ _=>aO (i:=0) #[8,["group","many"]] rfl bN)
     (fun _ _ _=>bJ) (fun _ _ _=>(aM (Dc K) (aY D_marks_of hr #[1] #[0] (aA (pv 0) (aA (pv 1) aB))) (bQ (aA aE aB)))))
   (aC (eJ (NB:=["group","bottom","table"]) (pick:=[none,some 4,some 0]) (i:=6) jI.nd rfl bN #[0] (bG #[7] (by exact(And.intro rfl (And.intro rfl trivial))) rfl #[2] #[2] #[0] #[0]) rfl
     (bL (pv 3)) (fun _ _ _=>aO (i:=0) #[8,["group","bottom","table"]] rfl bN)
     (fun _ _ _=>bJ) (fun _ _ _=>(aM bK (aQ (bU K) (pv 2) (pv 0) #[6]) (pv 1))))
   (aC (cF #[9] rfl (g8 #[0] T.hZ (aA (cZ (gR rfl) #[0] T.cR cW (aA (pv 2) aB)) (aA (aY D_tops_over hr #[1] #[0] (aA (pv 4) (aA (iS #[0] T.cR rfl (pv 2)) aB))) aB))) (fM rfl (bP (aO (i:=7) jI.nd rfl #[3]) (bP (aO (i:=8) jI.nd rfl bN) dP)))
    (aC (aP (i:=9) jI.nd rfl bN (aM eM (aY D_marks_of hr #[1] #[0] (aA (pv 7) (aA (pv 1) aB))) (bQ (aA aE aB))))
    (aC (sJ (i:=5) jI.nd rfl bN (bQ (aA (pv 9) (aA (aY D_below_nought hr #[1] #[0] (aA (pv 9) aB)) aB))) oJ)
    (aF (sJ (i:=6) jI.nd rfl bN (bQ (aA (pv 8) (aA (jG gH (pv 8)) aB))) oJ)))))
   (aC (aP (i:=10) jI.nd rfl #[3] (fS cI D_weigh hr #[1] #[0] (aA (pv 5) (aA (aM eM (aM gI (bQ (aA aE aB)) (pv 1)) (bQ (aA aE aB))) (aA (pv 6) aB)))))
   (aC (eJ (NB:=["price","bottom"]) (pick:=[none,some 4]) (i:=11) jI.nd rfl bN #[0] (bG #[7] (by exact(And.intro rfl trivial)) rfl #[2] #[2] #[0] #[0]) rfl
     (bL (aQ bB (pv 10) aE #[6])) (fun _ _ _=>aO (i:=0) #[8,["price","bottom"]] rfl bN)
     (fun _ _ _=>bJ) (fun _ _ _=>(fS cI D_fraction hr #[1] #[0] (aA (aQ (fC K) (pv 0) aE #[6]) (aA (aM bK (aQ (fC K) (pv 0) aE #[6]) (pv 1)) aB)))))
   (aC (eJ (NB:=["group","weight"]) (pick:=[none,none]) (i:=12) jI.nd rfl bN #[0] (bG #[7] (by exact trivial) rfl #[2] #[2] #[0] #[0]) rfl
     (g8 #[0] T.hZ (aA (pv 3) (aA (aQ bB (pv 10) aE #[6]) aB))) (fun _ _ _=>(show PG _ _ (sI K 2 (fZ (aX 0) (fZ (aX 1) sE))) from fM rfl (bP (aO (i:=0) #[8,["group","weight"]] rfl bN) (bP (aO (i:=1) #[8,["group","weight"]] rfl bN) dP))))
     (fun _ _ _=>eF (aU (vF K hr.units) (pv 1) (dN (aA aE (aA aE aB))) (aW _))) (fun _ _ _=>(pv 0)))
   (aF (aT (dN (aA (g7 lG (pv 11) lF (gM (pv 1))) (aA (aQ a8 (pv 11) (pv 1) #[6]) (aA (pv 12) aB))))))))))))),?_⟩
  have hn64:n<=64:=by rw[hn];exact qBh (n:=2) #[1] m6
  have f64:∀g,g∈fr->g<64:=fun g hg=>qBc (frn g hg) hn64;refine⟨_,rfl,q,_,rfl,.inl kp.hd,fun l1 hl1=>?_⟩;rw[Kp.vals kp.len];have u1:=aH.aG (o:=.lst (ws.map V.ref)) hl1;have e1:upd H l1 (.lst (ws.map V.ref)) l1=_:=aD;generalize upd H l1 (.lst (ws.map V.ref))=H1 at u1 e1|-;refine⟨l1,ks.length,fun j=>X (gN ks j),d,ws,rfl,⟨e1,kp.len,fun j w e=>u1 _ _ (kp.at_ j w e)⟩,d0,sd.mono (by lia),fun L lo=>?_⟩;have L0:=lo.pos;obtain⟨rr,hrr⟩:=lo.dvd;have r0:0<rr:=by
   refine Int.not_le.mp fun z=>?_;have:=qCs z (qCf L0);rw[<- hrr,qBu] at this;lia
  have sL:Sm c L:=sd.le (by have:=qEe d0 lo.dvd;lia);dsimp only[aX];exists _,rfl,r,rfl,⟨_,aS.of (u1 _ _ hfr)⟩;refine m9 (xs:=a9 fr) (fun j=>bF (m+1) (sA m fr ks j)) (aS.of (u1 _ _ hfr)) (by rw[bI];exact qAo (aK (by lia))) (fun j y H4 kk kk0 s4 hy g1=>?_) fun lc cs H2 hlc s2 hcs ncs hD=>?_
  .obtain⟨g,hg,rfl⟩:=fE hy;have hj:j<fr.length:=(List.getElem?_eq_some_iff.mp hg).1;refine⟨_,rfl,_,rfl,g,m,rfl,f64 g (qAx hg),m6,fun D H5 hD5 s5 h5=>?_⟩;refine⟨kE,fun l6 h6=>?_⟩;have u6:=aH.aG (o:=.lst [.int 1]) h6;have e6:upd H5 l6 (.lst [.int 1]) l6=_:=aD;generalize upd H5 l6 (.lst [.int 1])=H6 at u6 e6|-;refine⟨D,l6,_,_,rfl,rfl,aS.of (u6 _ _ h5),aS.of e6,by rw[aL,qCc];simp;lia,fun l7 h7=>?_⟩;have u7:=aH.aG (o:=.lst (bF m (bt g)++[.int 1])) h7;refine g1 l7 _ (s5.trans (u6.trans u7)) ((s5.trans u6).free h7) ?_;rw[aD];have z:=y4 m (sA m fr ks j);rw[((iB m fr ks).f0 j hj).2] at z;rw[<- z];congr 3;refine dR fun i hi=>?_;rw[((iB m fr ks).f0 j hj).1 i hi];show bt g i=bt (gN fr j) i;rw[fU hg]
  rw[bI] at hcs;dsimp only[aX];have s02:=u1.trans s2;exists _,rfl,r,rfl,⟨_,aS.of (s02 _ _ hfr)⟩;refine cC (xs:=a9 fr) (fun j _=>some (.int (tbl (gN fr j)*L))) (aS.of (s02 _ _ hfr)) (by rw[bI];exact qAo (aK (by lia))) (fun j y H4 kk kk0 s4 hy g1 g2=>?_) fun lg H3 hlg s3 hdg=>?_
  .obtain⟨g,hg,rfl⟩:=fE hy;have hgn:=frn g (qAx hg);refine⟨_,rfl,_,rfl,p,_,_,_,rfl,rfl,aS.of (s4 _ _ (s02 _ _ hp)),bR hgn,_,rfl,_,_,rfl,rfl,(st _).mb sL #[1] (by lia),?_⟩;exact g1 _ (by rw[fU hg]) _ (.refl _)
  rw[bI,iN _ (bI _)] at hdg;have s03:=s02.trans s3;dsimp only[aX];have kp3:=kp.same s03;refine⟨_,rfl,q,_,rfl,.inl kp3.hd,fun la hla=>?_⟩;rw[Kp.keys kp.len];have u4:=aH.aG (o:=.lst (a9 ks)) hla;have e4:upd H3 la (.lst (a9 ks)) la=_:=aD;generalize upd H3 la (.lst (a9 ks))=H4 at u4 e4|-;have kp4:=kp3.same u4;refine⟨_,rfl,_,rfl,q,_,rfl,.inl kp4.hd,fun lb hlb=>?_⟩;rw[Kp.vals kp.len];have u5:=aH.aG (o:=.lst (ws.map V.ref)) hlb;have e5:upd H4 lb (.lst (ws.map V.ref)) lb=_:=aD;generalize upd H4 lb (.lst (ws.map V.ref))=H5 at u5 e5|-;have kp5:=kp4.same u5;have kl:ks.length<=35:=by lia
  refine⟨lb,ks.length,fun j=>X (gN ks j),d,L,ws,rfl,⟨e5,kp.len,kp5.at_⟩,by lia,d0,sd.mono (by lia),fun j=>(sX _).mono (by lia),lo,fun lt H6 tt hlt s6 hd6 htt _=>?_⟩;have sg:∀j,j<ks.length->rr*tt j=X (gN ks j):=fun j hj=>by
   have z:=htt j hj;rw[hrr] at z;have:L*(rr*tt j)=L*X (gN ks j):=by grind
   exact qFn (by lia) this
  let tp:Nat->Int:=fun j=>if j<ks.length then tt j else 0
  have ett:bF ks.length tt=bF ks.length tp:=dR fun j hj=>by show tt j=if j<ks.length then tt j else 0;rw[if_pos hj]
  rw[ett] at hd6;have sG':∀c',Sm (80000+c) (rr*sG tbl L fr tp c'):=fun c'=>by
   delta sG;have stp:∀j,Sm (80000+c) (rr*tp j):=fun j=>by
    show Sm (80000+c) (rr*if j<ks.length then tt j else 0);split
    .rename_i hj;rw[sg j hj];exact sX _
    .rw[qBu];exact Sm.zero
   split
   .rw[show rr*(tbl (gN fr c')*L)=tbl (gN fr c')*d by rw[hrr];grind];exact(st _).mul sd
   .split
    .exact stp _
    .rw[qNi];exact(stp _).le (by rw[qLj];exact qAg _)
  have sgn:∀c',Sm 90000 (sG tbl L fr tp c'):=fun c'=>Sm.mono (Sm.le (sG' c') (by rw[qDv];exact qLz _ (by lia))) (by lia);have hdg3:H3 lg=some (.lst (bF fr.length (sG tbl L fr tp))):=by
   rw[hdg];exact congrArg (fun l=>some (HO.lst l)) (dR (f:=fun j=>tbl (gN fr j)*L) fun j hj=>by delta sG;rw[if_pos hj])
  have s36:=u4.trans (u5.trans s6);have lglc:lg≠lc:=fun z=>by rw[z,hD] at hlg;cases hlg
  have lalc:la≠lc:=fun z=>by rw[z,s3 _ _ hD] at hla;cases hla
  have lalg:la≠lg:=fun z=>by rw[z,hdg3] at hla;cases hla
  have ltlc:lt≠lc:=fun z=>by rw[z,u5 _ _ (u4 _ _ (s3 _ _ hD))] at hlt;cases hlt
  have ltlg:lt≠lg:=fun z=>by rw[z,u5 _ _ (u4 _ _ hdg3)] at hlt;cases hlt
  have h0c:H lc=none:=u1.free hlc;have h0g:H lg=none:=s02.free hlg;exists la,lt,rfl,⟨_,aS.of (s6 _ _ (u5 _ _ e4))⟩,⟨_,aS.of hd6⟩;refine oH (xs:=a9 ks) (ys:=bF ks.length tp) (fun j σ' H'=>aH H H'/\H' la=some (.lst (a9 ks))/\H' lt=some (.lst (bF ks.length tp))/\∃(cs':List Addr) (o7 o8 o9:Option V),wQ (m+1) (fr.length+2*j) (sA m fr ks) H' lc cs'/\(∀a,a∈cs'->a≠lg)/\H' lg=some (.lst (bF (fr.length+2*j) (sG tbl L fr tp)))/\σ'=[some (.ref p),some (.int (m:Int)),some (.ref q),some (.ref r),some (.int L),some (.ref lc),some (.ref lg),o7,o8,o9,none,none,none])
   ⟨s03.trans s36,s6 _ _ (u5 _ _ e4),hd6,cs,_,_,_,⟨s36 _ _ (s3 _ _ hD),by rw[hcs];rfl,fun c' a e=>s36 _ _ (s3 _ _ (ncs.at_ c' a e).2.2)⟩,fun a ha z=>?_,s36 _ _ hdg3,rfl⟩ (by rintro j σ' H' _ ⟨_,ha,hb,_⟩;exact ⟨aS.of ha,aS.of hb⟩) (by rw[bI,aL]) (fun j x y tq σ' H' hx hy ht z9=>?_) (fun σ' H' z9=>?_)
  .obtain⟨i,hi,e⟩:=qCv ha;have e:=ncs.at_ i a (by rw[qAc hi,e]);rw[z,hlg] at e;cases e.2.2
  .obtain⟨s',ha,hb,cs',o7,o8,o9,kc,nlg,hg',eσ⟩:=z9;subst eσ;obtain⟨g,hg,rfl⟩:=fE hx;obtain⟨hj,rfl⟩:=eQ hy;have eg:gN ks j=g:=fU hg;have u7:=aH.aG (o:=.tup [.int (g:Int),.int (tp j)]) ht;have e7:upd H' tq (.tup [.int (g:Int),.int (tp j)]) tq=_:=aD;generalize upd H' tq (.tup [.int (g:Int),.int (tp j)])=H7 at u7 e7|-;exists tq,_,rfl,cE.of e7,rfl,_,_,rfl,_,_,rfl,rfl;dsimp only[aX];refine⟨_,rfl,_,rfl,g,m,rfl,Fc g (qAx hg),m6,fun D H8 hD8 s8 h8=>?_⟩;refine⟨kE,fun l9 h9=>?_⟩;have u9:=aH.aG (o:=.lst [.int 0]) h9;have e9:upd H8 l9 (.lst [.int 0]) l9=_:=aD;generalize upd H8 l9 (.lst [.int 0])=H9 at u9 e9|-;refine⟨D,l9,_,_,rfl,rfl,aS.of (u9 _ _ h8),aS.of e9,by rw[aL,qCc];simp;lia,fun l10 h10=>?_⟩;have u10:=aH.aG (o:=.lst (bF m (bt g)++[.int 0])) h10;have e10:upd H9 l10 (.lst (bF m (bt g)++[.int 0])) l10=some (.lst (bF (m+1) (sA m fr ks (fr.length+2*j)))):=by
    rw[aD];have z:=y4 m (sA m fr ks (fr.length+2*j));rw[((iB m fr ks).k0 j hj).2] at z;rw[<- z];congr 3;refine dR fun i hi=>?_;rw[((iB m fr ks).k0 j hj).1 i hi];show bt g i=bt (gN ks j) i;rw[eg]
   generalize upd H9 l10 (.lst (bF m (bt g)++[.int 0]))=H10 at u10 e10|-;dsimp only[aX];refine⟨_,rfl,_,rfl,_,rfl,l10,m+1,_,rfl,e10,by lia,fun D2 H11 hD2 s11 hd11=>?_⟩;have e11:H11 D2=some (.lst (bF (m+1) (sA m fr ks (fr.length+(2*j+1))))):=by
    rw[hd11];refine congrArg (fun l=>some (HO.lst l)) (dR fun i hi=>?_);rcases qAm i m with z | z
    .rw[((iB m fr ks).k0 j hj).1 i z,((iB m fr ks).k1 j hj).1 i z]
    .rw[show i=m by lia,((iB m fr ks).k0 j hj).2,((iB m fr ks).k1 j hj).2];rfl
   refine⟨qE,fun l12 h12=>?_⟩;have u12:=aH.aG (o:=.lst [.ref l10,.ref D2]) h12;have e12:upd H11 l12 (.lst [.ref l10,.ref D2]) l12=_:=aD;generalize upd H11 l12 (.lst [.ref l10,.ref D2])=H12 at u12 e12|-;have s711:=s8.trans (u9.trans (u10.trans s11));have s12:=u7.trans (s711.trans u12);have kc12:=kc.same s12;have n10:l10≠lg:=fun z=>by rw[z,u9 _ _ (s8 _ _ (u7 _ _ hg'))] at h10;cases h10
   have n11:D2≠lg:=fun z=>by rw[z,u10 _ _ (u9 _ _ (s8 _ _ (u7 _ _ hg')))] at hD2;cases hD2
   refine⟨lc,l12,_,_,rfl,rfl,kc12.hq,e12,by rw[qAa,kc12.len,qCc];simp;lia,?_⟩;have kc13:=kc12.add (by lia) (u12 _ _ (s11 _ _ e10)) (u12 _ _ e11);have s13:aH H (upd H12 lc (.lst (cs'.map V.ref++[V.ref l10,V.ref D2]))):=(s'.trans s12).upd_ne' h0c;have ha13:upd H12 lc (.lst (cs'.map V.ref++[V.ref l10,V.ref D2])) la=some (.lst (a9 ks)):=by rw[aR lalc];exact s12 _ _ ha
   have hb13:upd H12 lc (.lst (cs'.map V.ref++[V.ref l10,V.ref D2])) lt=some (.lst (bF ks.length tp)):=by rw[aR ltlc];exact s12 _ _ hb
   have hg13:upd H12 lc (.lst (cs'.map V.ref++[V.ref l10,V.ref D2])) lg=some (.lst (bF (fr.length+2*j) (sG tbl L fr tp))):=by rw[aR lglc];exact s12 _ _ hg'
   generalize upd H12 lc (.lst (cs'.map V.ref++[V.ref l10,V.ref D2]))=H13 at kc13 s13 ha13 hb13 hg13|-;refine⟨_,rfl,_,rfl,_,rfl,_,rfl,qE,fun l14 h14=>?_⟩;have u14:=aH.aG (o:=.lst [.int (tp j),.int (-tp j)]) h14;have e14:upd H13 l14 (.lst [.int (tp j),.int (-tp j)]) l14=_:=aD;generalize upd H13 l14 (.lst [.int (tp j),.int (-tp j)])=H14 at u14 e14|-;refine⟨lg,l14,_,_,rfl,rfl,u14 _ _ hg13,e14,by rw[aL,qCc];simp;lia,?_⟩;have kc14:=kc13.same u14;have nlg':∀a,a∈cs'++[l10,D2]->a≠lg:=fun a ha z=>by
    rcases List.mem_append.mp ha with q | q
    .exact nlg a q z
    .rcases List.mem_cons.mp q with q | q
     .exact n10 (q.symm.trans z)
     .exact n11 ((List.mem_singleton.mp q).symm.trans z)
   refine⟨(s13.trans u14).upd_ne' h0g,by rw[aR lalg];exact u14 _ _ ha13,by rw[aR ltlg];exact u14 _ _ hb13,cs'++[l10,D2],_,_,_,⟨by rw[aR (Ne.symm lglc)];exact kc14.hq,kc14.len,fun c' a e=>by rw[aR (nlg' a (qAx e))];exact kc14.at_ c' a e⟩,nlg',?_,rfl⟩;rw[aD];have z:=LO (fr.length+2*j) (sG tbl L fr tp);rw[(Av tbl L fr ks tp).k0 j hj,show fr.length+2*j+1=fr.length+(2*j+1) by lia,(Av tbl L fr ks tp).k1 j hj] at z;rw[z];rfl
  .obtain⟨s',ha,hb,cs',o7,o8,o9,kc,nlg,hg',eσ⟩:=z9;subst eσ;rw[bI] at kc hg';refine⟨_,rfl,kE,fun b2 hb2=>?_⟩;have u8:=aH.aG (o:=.lst [.int 0]) hb2;have e8:upd H' b2 (.lst [.int 0]) b2=_:=aD;generalize upd H' b2 (.lst [.int 0])=H8 at u8 e8|-;refine⟨_,rfl,b2,_,_,rfl,rfl,e8,by lia,by lia,?_,fun b3 hb3=>?_⟩
   .show 1*((m:Nat):Int).toNat<=qAi;exact qAo (aK (by lia))
   rw[qBb,gD];have u9:=aH.aG (o:=.lst (bF m fun _=>0)) hb3;have e9:upd H8 b3 (.lst (bF m fun _=>0)) b3=_:=aD;generalize upd H8 b3 (.lst (bF m fun _=>0))=H9 at u9 e9|-;refine⟨kE,fun b4 hb4=>?_⟩;have u10:=aH.aG (o:=.lst [.int 1]) hb4;have e10:upd H9 b4 (.lst [.int 1]) b4=_:=aD;generalize upd H9 b4 (.lst [.int 1])=H10 at u10 e10|-;refine⟨b3,b4,_,_,rfl,rfl,aS.of (u10 _ _ e9),aS.of e10,by rw[aL,qCc];simp;lia,fun pd hpd=>?_⟩;have u11:=aH.aG (o:=.lst ((bF m fun _=>0)++[.int 1])) hpd;have e11:upd H10 pd (.lst ((bF m fun _=>0)++[.int 1])) pd=some (.lst (bF (m+1) (sD m))):=by
    rw[aD];have z:=y4 m (sD m);rw[show sD m m=1 by delta sD;rw[if_neg (qDk _),if_pos rfl]] at z;rw[<- z];congr 3;exact dR fun i hi=>by delta sD;rw[if_pos hi]
   generalize upd H10 pd (.lst ((bF m fun _=>0)++[.int 1]))=H11 at u11 e11|-;have s811:=u8.trans (u9.trans (u10.trans u11));have kc11:=kc.same s811;exists _,rfl;dsimp only[iR,qCj,qCl];refine yT (m:=m+1) (n:=fr.length+2*ks.length) (A:=sA m fr ks) (due:=sD m) (g:=sG tbl L fr tp) (GD m6 cnt) (cs:=cs') ⟨kc11.hq,kc11.len,kc11.at_,e11⟩ (s811 _ _ hg') sgn fun R H12 s12 told=>?_;have sd0:∀i,i<m->sD m i=0:=fun i hi=>by delta sD;rw[if_pos hi]
   have sd1:sD m m=1:=by delta sD;rw[if_neg (qDk _),if_pos rfl]
   have s812:=s811.trans s12;rcases told with ⟨lw,lp,wts,ps,dw,XX,Y,to⟩ | ⟨lp,ps,dw,Y,to⟩ | ⟨lw,lp,wts,ps,dw,XX,ZZ,to⟩
   .obtain⟨ce,hk⟩:=Cm.Gf (iB m fr ks) (Av tbl L fr ks tp) r0 to.d0 sd0 sd1 to.x0 to.meets to.cols to.same;have Aa:=to.d0;have sdw:Sm 13 dw:=EF (n:=0) (by lia) to.dm (yZ m fr ks) (y3 m);have sZ:∀i,Sm (80000+c+16) (rr*Y i):=fun i=>EG (by lia) to.ym (yZ m fr ks) (y3 m) r0 sG' i;have a1:eV [V.str "best",V.ref lw,V.ref lp] 1=some (.ref lw):=rfl;have a2:eV [V.str "best",V.ref lw,V.ref lp] 2=some (.ref lp):=rfl;have dd0:0<dw*d:=qHb Aa d0;dsimp only[aX];exists _,rfl,R,_,_,_,rfl,rfl,cE.of to.tup,a2,lp,rfl,⟨_,aS.of to.fp.hr⟩;refine rB (xs:=ps.map V.ref) (fun i ys H'=>∃fs:List Addr,ys=fs.map V.ref/\fs.length=i/\∀(j:Nat) (w:Addr),fs[j]?=some w->H' w=some (gC (rr*Y j) (dw*d))) ?_ ⟨[],rfl,rfl,fun j w e=>by cases e⟩ (aS.of to.fp.hr) (by rw[qAa,to.fp.len];exact qAo (aK (by lia))) (fun i y H13 kk kk0 ys s13 hy iv g1 g2=>?_) fun lq ys H13 hlq s13 iv hd13=>?_
    .rintro i ys H1 H2 st ⟨fs,e1,e2,e3⟩;exact⟨fs,e1,e2,fun j w e=>st _ _ (e3 j w e)⟩
    .obtain⟨fs,rfl,fl,fa⟩:=iv;obtain⟨wq,hw',rfl⟩:=dB hy;have hf:=s13 _ _ (to.fp.at_ i wq hw');obtain⟨t1,t2,_,t3⟩:=dD (X:=Y i) Aa;have stb:Sm 13 (tb (Y i) dw):=kR (X:=Y i) Aa sdw;refine⟨_,rfl,wq,_,_,_,rfl,rfl,cE.of hf,rfl,_,rfl,wq,_,_,_,rfl,rfl,cE.of hf,rfl,_,rfl,_,_,rfl,rfl,stb.mb sL #[1] (by lia),?_⟩;dsimp only[iR,qCj,qCl];have tb0:0<tb (Y i) dw*L:=qHb (by lia) L0;refine pR (Int.ne_of_gt tb0) ((stb.mul sL).mono (by lia)) fun pf hpf=>?_;have u14:=aH.aG (o:=gC (ta (Y i) dw) (tb (Y i) dw*L)) hpf;refine g1 _ _ u14 ⟨fs++[pf],by rw[qAr];rfl,by rw[qAj,fl];rfl,fun j w e=>?_⟩;rcases qAm j fs.length with z | z
     .rw[qAy z] at e;exact u14 _ _ (fa j w e)
     .rw[qAz z] at e;have hj:j-fs.length=0:=by
       have:=(List.getElem?_eq_some_iff.mp e).1;rw[qBf] at this;lia
      rw[hj] at e;obtain rfl:=Option.some.inj e;rw[show j=i by lia,aD];refine congrArg some (jY tb0 dd0 ?_);rw[hrr];exact GC t1
    .obtain⟨fs,rfl,fl,fa⟩:=iv;rw[qAa,to.fp.len] at fl;have hfr13:=s13 _ _ (s812 _ _ (s' _ _ hfr));have hw13:=s13 _ _ to.fw.hr;have wl:wts.length=fr.length+2*ks.length:=to.fw.len;exists _,rfl,_,rfl,R,_,_,_,rfl,rfl,cE.of (s13 _ _ to.tup),a1,r,lw,rfl,⟨_,aS.of hfr13⟩,⟨_,aS.of hw13⟩;refine Bz (xs:=a9 fr) (xs':=wts.map V.ref) (fun σ'=>∃o0 o1:Option V,σ'=[o0,o1]) (fun i ys H'=>ys=a9 (fK fr XX i)) (fun i ys H1 H2 st h=>h) ⟨_,_,rfl⟩ rfl (aS.of hfr13) (aS.of hw13) (by rw[bI,qAa];lia) (by rw[bI];exact qAo (aK (by lia))) (fun i x y tt' σ1 H14 kk kk0 ys hσ s14 hx hy ht iv g1 g2=>?_) fun lh ys H14 hlh s14 iv hd14=>?_
     .obtain⟨o0,o1,rfl⟩:=hσ;obtain⟨g,hg,rfl⟩:=fE hx;obtain⟨w',hw',rfl⟩:=dB hy;have hfw:=s14 _ _ (s13 _ _ (to.fw.at_ i w' hw'));exists tt',_,rfl,cE.of ht,rfl;refine⟨_,_,rfl,_,_,rfl,rfl,_,rfl,qE,fun z1 hz1=>?_⟩;have u15:=aH.aG (o:=.tup [.int 0,.int 1]) hz1;have x15:upd H14 z1 (.tup [.int 0,.int 1]) z1=_:=aD;generalize upd H14 z1 (.tup [.int 0,.int 1])=H15 at u15 x15|-;exists _,_,yU (u15 _ _ hfw),.tup (cE.of x15) (.cons (.int _) (.cons (.int _) .nil)),mF _ _,mF _ _,_,rfl;rw[pV Aa];by_cases e:XX i≠0
      .refine cK (fun _=>?_) (fun no=>absurd (decide_eq_true e) no);refine⟨_,rfl,g1 _ _ _ ⟨_,_,rfl⟩ u15 ?_⟩;rw[rY,if_pos e,fU hg,iv];delta a9;rw[qAr];rfl
      .refine cK (fun y=>absurd (of_decide_eq_true y) e) (fun _=>g2 _ _ ⟨_,_,rfl⟩ u15 ?_);rw[rY,if_neg e];exact iv
     .rw[bI] at iv;subst iv;have hq14:=s14 _ _ hd13;refine⟨_,rfl,_,rfl,_,rfl,lq,_,rfl,aS.of hq14,fun lz hlz=>?_⟩;have u15:=aH.aG (o:=.lst (fR (fs.map V.ref) none (some (m:Int)))) hlz;have e15:upd H14 lz (.lst (fR (fs.map V.ref) none (some (m:Int)))) lz=some (.lst ((fs.take m).map V.ref)):=by
       rw[aD,DS,qLm]
      generalize upd H14 lz (.lst (fR (fs.map V.ref) none (some (m:Int))))=H15 at u15 e15|-;have efm:fs[m]?=some fs[m]:=qAc (by lia);have am:eV (fs.map V.ref) (m:Int)=some (.ref fs[m]):=fA (by rw[qAn,efm];rfl);refine⟨_,rfl,_,rfl,lq,_,_,_,rfl,rfl,aS.of (u15 _ _ hq14),am,_,rfl,OF,fun R2 hR2=>?_⟩;have u16:=aH.aG (o:=.tup [.ref lz,.ref fs[m],.ref lh]) hR2;have s1316:=s14.trans (u15.trans u16);have sAll:=s'.trans (s812.trans (s13.trans s1316));refine k R2 lz fs[m] lh _ (fs.take m) dw (fun i=>rr*Y i) XX (fun j=>XX (fr.length+2*j)-XX (fr.length+(2*j+1))) ((s'.trans (s812.trans (s13.trans s14))).free hlz) sAll aD ⟨u16 _ _ e15,by rw[qEh];lia,fun j w e=>?_⟩ (s1316 _ _ (fa m _ efm)) (u16 _ _ (u15 _ _ hd14)) sdw sZ ?_ fun q' hq'=>?_
      .have hj:j<m:=by
        have:=(List.getElem?_eq_some_iff.mp e).1;rw[qEh] at this;lia
       rw[qHq hj] at e;exact s1316 _ _ (fa j w e)
      .rw[hrr];exact ce
      .obtain⟨j,hj,ej⟩:=qCv hq';have eg:gN ks j=q':=fU (by rw[qAc hj,ej]);have z:=hk j hj;have e2:ks.getD j 0=q':=eg;rw[e2] at z;rw[z,<- eg,<- sg j hj,show tp j=tt j from if_pos hj,qCt (tt j)]
   .exact(Cm.Gg (iB m fr ks) sd0 sd1 no to.cols to.neg).elim
   .exact(Cm.JF (iB m fr ks) (Av tbl L fr ks tp) ind to.z0 to.away to.more).elim
theorem EH(m:Nat)(y:Nat->Int)(g:Nat):Cm.pt m bt y g=Cm.dot m y (bt g):=Wg.bC fun i _=>qCt _ _
theorem mI(ind:Cm.i5 m (gE ks))(h:iI m ks g=true):Cm.Tl m bt ks g:=fun y hy=>by
 rw[EH];refine Cm.Told.dot ind (gY.mp h) fun v hv=>?_;obtain⟨k,hk,rfl⟩:=List.mem_map.mp hv;rw[<- EH];exact hy k hk
theorem Aw:∀(m:_root_.Fin 7) (g:_root_.Fin 64) (i:_root_.Fin 6),g.1<2^m.1->i.1<m.1->bt g.1 i.1=1*bt (2^m.1-1) i.1 + -1*bt (2^m.1-1-g.1) i.1:=by decide +kernel
theorem i8(m6:m<=6):2^m<=64:=qBh (n:=2) #[1] m6
theorem p8(m6:m<=6)(hg:g<2^m)(ind:Cm.i5 m (gE ks))(hN:2^m-1∈ks)(h:iI m ks (2^m-1-g)=true):iI m ks g=true:=by
 rw[gY] at h|-;have t:=Cm.Told.QI 1 (-1) (Cm.Told.self ind (v:=bt (2^m-1)) (List.mem_map.mpr ⟨_,hN,rfl⟩)) h;intro i hi;have:=i8 m6;rw[Cm.tT ind (f:=bt g) (g:=fun i=>1*bt (2^m-1) i + -1*bt (2^m-1-g) i) (fun i hi=>Aw ⟨m,by lia⟩ ⟨g,by lia⟩ ⟨i,by lia⟩ hg hi) i hi];exact t i hi
def Pr(m g:Nat):Prop:=1<=g/\g<2^m-1
noncomputable def j3(m:Nat):List Nat:=(qAk (2^m-2)).map (· + 1)
theorem eY:g∈j3 m↔Pr m g:=by
 delta j3 Pr;rw[qGi];constructor
 .rintro⟨j,hj,rfl⟩;have:=List.mem_range.mp hj;omega
 .rintro⟨a,b⟩;exact⟨g-1,List.mem_range.mpr (by omega),by omega⟩
theorem GF(m:Nat):(j3 m).Nodup:=List.pairwise_map.mpr (List.nodup_range.imp fun h e=>h (by lia))
theorem p9(m6:m<=6):(j3 m).length<=62:=by
 delta j3;rw[qAa,qAu];have:=i8 m6;omega
noncomputable def cY(m:Nat)(ks:List Nat):List Nat:=(j3 m).filter fun g=>!iI m ks g
theorem dS:g∈cY m ks↔Pr m g/\iI m ks g=false:=by
 delta cY;rw[qKt,eY];cases iI m ks g <;> simp
theorem GG{l:List Nat}(nd:l.Nodup){p q:Nat->Bool}{a b:Nat}(ab:a≠b)(ha:a∈l)(hb:b∈l)(pa:p a=true)(pb:p b=true)(qa:q a=false)(qb:q b=false)(sub:∀x,q x=true->p x=true):(l.filter q).length+2<=(l.filter p).length:=by
 have h:=Cm.sub_len (l:=a::b::l.filter q) (l':=l.filter p) ?_ ?_
 .simpa using h
 .refine List.nodup_cons.mpr ⟨fun z=>?_,List.nodup_cons.mpr ⟨fun z=>?_,nd.filter _⟩⟩
  .rcases List.mem_cons.mp z with z | z
   .exact ab z
   .rw[(List.mem_filter.mp z).2] at qa;cases qa
  .rw[(List.mem_filter.mp z).2] at qb;cases qb
 .intro x hx;rcases List.mem_cons.mp hx with rfl | hx
  .exact List.mem_filter.mpr ⟨ha,pa⟩
  .rcases List.mem_cons.mp hx with rfl | hx
   .exact List.mem_filter.mpr ⟨hb,pb⟩
   .obtain⟨a,b⟩:=List.mem_filter.mp hx;exact List.mem_filter.mpr ⟨a,sub x b⟩
noncomputable def eZ(m:Nat)(ks hl:List Nat):List Nat:=hl.foldl (fun acc g=>if iI m acc g=true then acc else acc++[g]) ks
theorem g4(m:Nat)(ks hl:List Nat)(g:Nat):eZ m ks (hl++[g])=if iI m (eZ m ks hl) g=true then eZ m ks hl else eZ m ks hl++[g]:=by
 delta eZ;rw[qHs];rfl
theorem Ax(ks:List Nat)(k:Nat):gE (ks++[k])=gE ks++[bt k]:=by delta gE;rw[qAr];rfl
theorem mJ(ind:Cm.i5 m (gE ks))(h:¬iI m ks g=true):Cm.i5 m (gE (ks++[g])):=by
 rw[Ax];exact ind.snoc (Cm.rN fun z=>h (gY.mpr z))
theorem qA(h:iI m ks g=true):iI m (ks++[k]) g=true:=by
 rw[gY] at h|-;rw[Ax];exact h.snoc
theorem qB(ind:Cm.i5 m (gE ks))(h:g∈ks):iI m ks g=true:=gY.mpr (Cm.Told.self ind (List.mem_map.mpr ⟨g,h,rfl⟩))
theorem mK(m:Nat)(ks hl:List Nat):∃t,eZ m ks hl=ks++t/\∀k,k∈t->k∈hl:=by
 induction hl using Cm.snocInd with
 | nil=>exact⟨[],(qDp _).symm,fun k hk=>by cases hk⟩
 | append_singleton hl g ih =>
  obtain⟨t,e,h⟩:=ih;rw[g4];split
  .exact⟨t,e,fun k hk=>qCb _ (h k hk)⟩
  .refine⟨t++[g],by rw[e,qHt],fun k hk=>?_⟩;rcases List.mem_append.mp hk with z | z
   .exact qCb _ (h k z)
   .exact qBa _ z
theorem mL(ind:Cm.i5 m (gE ks))(hl:List Nat):Cm.i5 m (gE (eZ m ks hl)):=by
 induction hl using Cm.snocInd with
 | nil=>exact ind
 | append_singleton hl g ih =>
  rw[g4];split
  .exact ih
  .rename_i h;exact mJ ih h
theorem rZ(h:iI m ks g=true)(hl:List Nat):iI m (eZ m ks hl) g=true:=by
 induction hl using Cm.snocInd with
 | nil=>exact h
 | append_singleton hl g ih =>
  rw[g4];split
  .exact ih
  .exact qA ih
theorem nJ(ind:Cm.i5 m (gE ks)){hl:List Nat}:∀g,g∈hl->iI m (eZ m ks hl) g=true:=by
 induction hl using Cm.snocInd with
 | nil=>intro g hg;cases hg
 | append_singleton hl q ih =>
  intro g hg;have i2:=mL ind (hl++[q]);rw[g4] at i2|-;rcases List.mem_append.mp hg with z | z
  .split
   .exact ih g z
   .exact qA (ih g z)
  .obtain rfl:=List.mem_singleton.mp z;split
   .assumption
   .rename_i h;rw[if_neg h] at i2;exact qB i2 (qBa _ (List.mem_singleton.mpr rfl))
theorem EI{m:Nat}{ks:List Nat}(m6:m<=6)(ind:Cm.i5 m (gE ks))(hN:2^m-1∈ks)(c:(cY m ks).length+2*ks.length<=64){hl:List Nat}(hp:∀g,g∈hl->Pr m g):(cY m (eZ m ks hl)).length+2*(eZ m ks hl).length<=64:=by
 induction hl using Cm.snocInd with
 | nil=>exact c
 | append_singleton hl g ih =>
  have ih:=ih fun q hq=>hp q (qCb _ hq);have i1:=mL ind hl;obtain⟨t,e,_⟩:=mK m ks hl;have hN1:2^m-1∈eZ m ks hl:=by rw[e];exact qCb _ hN
  rw[g4];split
  .exact ih
  .rename_i no;have pg:Pr m g:=hp g (qBa _ (List.mem_singleton.mpr rfl));have i2:=mJ i1 no;have g2:g<2^m:=by have:=pg.2;omega
   have hN2:2^m-1∈eZ m ks hl++[g]:=qCb _ hN1;have self:iI m (eZ m ks hl++[g]) g=true:=qB i2 (qBa _ (List.mem_singleton.mpr rfl));have pc:Pr m (2^m-1-g):=⟨by have:=pg.2;omega,by have:=pg.1;have:=pg.2;omega⟩;have nc:¬iI m (eZ m ks hl) (2^m-1-g)=true:=fun z=>no (p8 m6 g2 i1 hN1 z);have sc:iI m (eZ m ks hl++[g]) (2^m-1-g)=true:=by
    refine p8 m6 (by have:=pc.2;omega) i2 hN2 ?_;rw[show 2^m-1-(2^m-1-g)=g by have:=pg.2;omega];exact self
   have ne:g≠2^m-1-g:=fun z=>by
    have m1:1<=m:=by
     refine qNq fun z=>?_;rw[z] at pg;have:=pg.1;have:=pg.2;omega
    have:=pg.2;obtain⟨u,rfl⟩:∃u,m=u+1:=⟨m-1,by omega⟩;rw[qIk] at z this;omega
   have z:=GG (GF m) (p:=fun x=>!iI m (eZ m ks hl) x) (q:=fun x=>!iI m (eZ m ks hl++[g]) x) ne (eY.mpr pg) (eY.mpr pc) (by rw[qKe] at no;rw[no];rfl) (by rw[qKe] at nc;rw[nc];rfl) (by rw[self];rfl) (by rw[sc];rfl) fun x hx=>by
    cases q:iI m (eZ m ks hl) x with
    | false=>rfl
    | true=>rw[qA q] at hx;cases hx
   have z:(cY m (eZ m ks hl++[g])).length+2<=(cY m (eZ m ks hl)).length:=z;rw[qAj,qBf];omega
theorem Ay:(cY m ks).filter (fun g=>!iI m (eZ m ks hl) g)=cY m (eZ m ks hl):=by
 delta cY;rw[List.filter_filter];refine qNt fun g _=>?_;cases q:iI m ks g with
 | false=>simp
 | true=>rw[rZ q];rfl
theorem BU:∀(m:_root_.Fin 7) (g:_root_.Fin 64),1<=g.1->g.1<2^m.1-1->Cm.pt m.1 bt (fun i=>bt g.1 i*m.1-Cm.pt m.1 bt (fun _=>1) g.1) (2^m.1-1)=0/\Cm.pt m.1 bt (fun i=>bt g.1 i*m.1-Cm.pt m.1 bt (fun _=>1) g.1) g.1≠0:=by decide +kernel
theorem r6(m6:m<=6)(pg:Pr m g):¬Cm.Tl m bt [2^m-1] g:=fun z=>by
 have:=i8 m6;obtain⟨a,b⟩:=BU ⟨m,by omega⟩ ⟨g,by have:=pg.2;omega⟩ pg.1 pg.2;exact b (z _ fun k hk=>by rw[List.mem_singleton.mp hk];exact a)
theorem EJ:∀(m:_root_.Fin 7) (g:_root_.Fin 64),1<=g.1->g.1<2^m.1->1<=Cm.pt m.1 bt (fun _=>1) g.1:=by decide +kernel
structure mP (m:Nat) (tb:Nat->Int) (ks:List Nat) (Z:Nat->Int) (d ev:Int):Prop where
 ind:Cm.i5 m (gE ks)
 hN:2^m-1∈ks
 kP:∀k,k∈ks->k=2^m-1\/Pr m k
 cnt:(cY m ks).length+2*ks.length<=64
 d0:0<d
 sd:Sm (24*ks.length) d
 sZ:∀i,Sm (80000+24*ks.length-8) (Z i)
 whole:Cm.pt m bt Z (2^m-1)=tb (2^m-1)*d
 Qb:Cm.Pz m bt (2^m-1) (Pr m) ks fun g=>tb g*d-Cm.pt m bt Z g
 low:∀g,g∈cY m ks->tb g*d-Cm.pt m bt Z g<=ev
 old:∀k,k∈ks->k≠2^m-1->ev<=tb k*d-Cm.pt m bt Z k
theorem t7(m:Nat)(y z:Nat->Int)(c:Int)(g:Nat):Cm.pt m bt (fun i=>z i-c*y i) g=Cm.pt m bt z g-c*Cm.pt m bt y g:=by
 have e:Cm.pt m bt (fun i=>z i-c*y i) g=Wg.sm m (fun i=>bt g i*z i + -c*(bt g i*y i)):=Wg.bC fun i _=>by grind
 rw[e,Wg.fO,Wg.bT];delta Cm.pt;grind
theorem mP.Qc{m:Nat}{tb:Nat->Int}{ks:List Nat}{Z:Nat->Int}{d ev:Int}(h:mP m tb ks Z d ev):1<=ks.length:=qGc h.hN
theorem mP.Fc{m:Nat}{tb:Nat->Int}{ks:List Nat}{Z:Nat->Int}{d ev:Int}(m6:m<=6)(h:mP m tb ks Z d ev):∀k,k∈ks->k<64:=fun k hk=>by
 have:=i8 m6;have:=qHa m;rcases h.kP k hk with z | z
 .lia
 .have:=z.2;omega
theorem mP.sP{m:Nat}{tb:Nat->Int}{ks:List Nat}{Z:Nat->Int}{d ev:Int}(m6:m<=6)(h:mP m tb ks Z d ev)(g:Nat):Sm (80000+24*ks.length) (Cm.pt m bt Z g):=by
 have l1:=h.Qc;refine(rT (a:=2+(80000+24*ks.length-8)) m fun i _=>(rW g i).mul (h.sZ i)).mono (by lia)
theorem mP.no{m:Nat}{tb:Nat->Int}{ks:List Nat}{Z:Nat->Int}{d ev:Int}(m6:m<=6)(h:mP m tb ks Z d ev)(fn:cY m ks≠[])(y:Nat->Int)(hy:∀k,k∈ks->Cm.pt m bt y k=0):∃g,g∈cY m ks/\Cm.pt m bt y g<=0:=by
 obtain⟨g,hg⟩:=List.exists_mem_of_ne_nil _ fn;obtain⟨pg,tg⟩:=dS.mp hg;have:=i8 m6;have g2:g<2^m:=by have:=pg.2;lia
 have pc:Pr m (2^m-1-g):=⟨by have:=pg.2;lia,by have:=pg.1;have:=pg.2;lia⟩;by_cases z:Cm.pt m bt y g<=0
 .exact⟨g,hg,z⟩
 .exists 2^m-1-g,dS.mpr ⟨pc,?_⟩
  .cases q:iI m ks (2^m-1-g) with
   | false=>rfl
   | true=>rw[p8 m6 g2 h.ind h.hN q] at tg;cases tg
  .have e:Cm.pt m bt y g=Cm.pt m bt y (2^m-1) + -1*Cm.pt m bt y (2^m-1-g):=by
    delta Cm.pt;rw[<- Wg.bT,<- Wg.fO];exact Wg.bC fun i hi=>by rw[Aw ⟨m,by lia⟩ ⟨g,by lia⟩ ⟨i,by lia⟩ g2 hi];grind
   rw[hy _ h.hN] at e;lia
theorem k9(h:j<gs.length):gN gs j∈gs:=Cm.mem_getD h
theorem mP.grow{m:Nat}{tb:Nat->Int}{ks:List Nat}{Z:Nat->Int}{d ev:Int}(h:mP m tb ks Z d ev){lk lam mu:Nat->Int}{dw e2:Int}(ce:Cm.Cert m bt (cY m ks) ks lk dw e2 lam mu):ks.length<(eZ m ks (fK (cY m ks) lam (cY m ks).length)).length:=by
 obtain⟨c,hc,ne⟩:=ce.some;have hm:gN (cY m ks) c∈fK (cY m ks) lam (cY m ks).length:=iC.mpr ⟨c,hc,ne,rfl⟩;have t:=nJ h.ind _ hm;obtain⟨t',e,_⟩:=mK m ks (fK (cY m ks) lam (cY m ks).length);cases t' with
 | nil =>
  rw[e,qDp,(dS.mp (k9 hc)).2] at t;cases t
 | cons x xs=>rw[e,qAj,qBq];lia
theorem mP.step{m:Nat}{tb:Nat->Int}{ks:List Nat}{Z Z':Nat->Int}{d ev dw:Int}{lam mu:Nat->Int}(m1:1<=m)(m6:m<=6)(h:mP m tb ks Z d ev)(ce:Cm.Cert m bt (cY m ks) ks (fun g=>tb g*(dw*d)-Cm.pt m bt Z' g) dw (Z' m) lam mu)
  (same:∀k,k∈ks->Cm.pt m bt Z' k=dw*Cm.pt m bt Z k) (sw:Sm 13 dw) (sZ':∀i,Sm (80000+24*ks.length+16) (Z' i)) :
  mP m tb (eZ m ks (fK (cY m ks) lam (cY m ks).length)) Z' (dw*d) (Z' m):=by
 have hlP:∀g,g∈fK (cY m ks) lam (cY m ks).length->Pr m g:=fun g hg=>by
  obtain⟨c,hc,_,rfl⟩:=iC.mp hg;exact(dS.mp (k9 hc)).1
 have gr:=h.grow ce;have told:∀g,g∈fK (cY m ks) lam (cY m ks).length->iI m (eZ m ks (fK (cY m ks) lam (cY m ks).length)) g=true:=nJ h.ind;have hmem:∀c,c<(cY m ks).length->lam c≠0->(cY m ks).getD c 0∈fK (cY m ks) lam (cY m ks).length:=fun c hc ne=>iC.mpr ⟨c,hc,ne,rfl⟩;have idx:∀g,g∈fK (cY m ks) lam (cY m ks).length->∃c,c<(cY m ks).length/\lam c≠0/\(cY m ks).getD c 0=g:=fun g hg=>iC.mp hg;have hold:∀g,g∈fK (cY m ks) lam (cY m ks).length->tb g*(dw*d)-Cm.pt m bt Z' g=Z' m:=fun g hg=>by
  obtain⟨c,hc,ne,rfl⟩:=iC.mp hg;exact ce.hold c hc ne
 obtain⟨t,e,ht⟩:=mK m ks (fK (cY m ks) lam (cY m ks).length);have ind':=mL h.ind (fK (cY m ks) lam (cY m ks).length);have cnt':=EI m6 h.ind h.hN h.cnt hlP;have more:=fun g (z:iI m ks g=true)=>rZ z (fK (cY m ks) lam (cY m ks).length);generalize eZ m ks (fK (cY m ks) lam (cY m ks).length)=ks' at *;generalize fK (cY m ks) lam (cY m ks).length=hl at *;have sub:∀k,k∈ks->k∈ks':=fun k hk=>by rw[e];exact qCb _ hk
 have new:∀k,k∈ks'->k∈ks\/k∈hl:=fun k hk=>by
  rw[e] at hk;rcases List.mem_append.mp hk with z | z
  .exact .inl z
  .exact .inr (ht k z)
 have JD:Z' m<=dw*ev:=by
  refine ce.JD (y:=fun i=>Z' i-dw*Z i) (fun k hk=>?_) fun g hg=>?_
  .rw[t7,same k hk];lia
  .rw[t7];have:=qCs (h.low g hg) (qCf ce.Aa);rw[Int.mul_sub] at this;have e1:tb g*(dw*d)=dw*(tb g*d):=by grind
   show Cm.pt m bt Z' g-dw*Cm.pt m bt Z g+(tb g*(dw*d)-Cm.pt m bt Z' g)<=dw*ev;lia
 have teq:∀g,Cm.Tl m bt ks g->Cm.pt m bt Z' g=dw*Cm.pt m bt Z g:=fun g hg=>by
  have:=hg (fun i=>Z' i-dw*Z i) fun k hk=>by rw[t7,same k hk];lia
  rw[t7] at this;lia
 have lks:∀g,Cm.Tl m bt ks g->tb g*(dw*d)-Cm.pt m bt Z' g=dw*(tb g*d-Cm.pt m bt Z g):=fun g hg=>by rw[teq g hg];grind
 have old1:∀k,k∈ks->k≠2^m-1->Z' m<=tb k*(dw*d)-Cm.pt m bt Z' k:=fun k hk ne=>by
  rw[lks k (Cm.Tl.self hk)];exact qKc JD (qCs (h.old k hk ne) (qCf ce.Aa))
 have p64:=i8 m6;refine⟨ind',sub _ h.hN,fun k hk=>?_,cnt',qHb ce.Aa h.d0,?_,fun i=>(sZ' i).mono (by lia),?_,?_,fun g hg=>?_,fun k hk ne=>?_⟩
 .rcases new k hk with z | z
  .exact h.kP k z
  .exact .inr (hlP k z)
 .exact(sw.mul h.sd).mono (by lia)
 .rw[teq _ (Cm.Tl.self h.hN),h.whole];grind
 .refine ce.step h.Qb sub (fun k hk=>?_) (fun c hc ne=>mI ind' (told _ (hmem c hc ne))) (fun g hg=>(dS.mp hg).1) (fun g pg nt=>?_) (fun g _ tg=>lks g tg) h.kP h.hN old1 (fun g pg=>?_) ?_
  .rcases new k hk with z | z
   .exact .inl z
   .exact .inr (idx k z)
  .refine dS.mpr ⟨pg,?_⟩;cases q:iI m ks g with
   | false=>rfl
   | true=>exact absurd (mI h.ind q) nt
  .exact EJ ⟨m,by lia⟩ ⟨g,by have:=pg.2;lia⟩ pg.1 (by show g<2^m;have:=pg.2;lia)
  .have:2<=2^m:=qBh (n:=2) (i:=1) #[1] m1;have:=EJ ⟨m,by lia⟩ ⟨2^m-1,by lia⟩ (by show 1<=2^m-1;lia) (by show 2^m-1<2^m;lia);show 0<Cm.pt m bt (fun _=>1) (2^m-1);exact Int.lt_of_lt_of_le #[1] this
 .obtain⟨pg,tg⟩:=dS.mp hg;refine ce.low g (dS.mpr ⟨pg,?_⟩);cases q:iI m ks g with
  | false=>rfl
  | true=>rw[more g q] at tg;cases tg
 .rcases new k hk with z | z
  .exact old1 k z ne
  .rw[hold k z];exact qDi _
theorem GH(m:Nat):gQ 1 (2^m-2)=a9 (j3 m):=by
 delta gQ a9 j3;rw[qCn];refine qIw fun j _=>?_;show V.int (1+(j:Int))=V.int ((j+1:Nat):Int);congr 1;lia
theorem Kp.add{ks:List Nat}{X:Nat->Int}{d:Int}{H:Hp}{q w:Addr}{ws:List Addr}{k:Nat}(h:Kp ks X d H q ws)(nk:k∉ks)(hw:H w=some (gC (X k) d)):Kp (ks++[k]) X d (upd H q (.dK (putK ((ks.zip ws).map fun kw=>((Sum.inl (kw.1:Int):Key),V.ref kw.2)) (Sum.inl (k:Int)) (.ref w)))) q (ws++[w]):=by
 have no:¬(((ks.zip ws).map fun kw=>((Sum.inl (kw.1:Int):Key),V.ref kw.2)).any fun kv=>decide (kv.1=Sum.inl (k:Int)))=true:=fun z=>by
  obtain⟨kv,hkv,e⟩:=List.any_eq_true.mp z;obtain⟨kw,hkw,rfl⟩:=List.mem_map.mp hkv;have e:(kw.1:Int)=(k:Int):=Sum.inl.inj (of_decide_eq_true e);have e:kw.1=k:=by lia
  exact nk (e▸(qGw (a:=kw.1) (b:=kw.2) hkw).1)
 have ne:∀(a:Addr) (y:Int),H a=some (gC y d)->a≠q:=fun a y e z=>by rw[z,h.hd] at e;cases e
 refine⟨?_,by rw[qAj,qAj,h.len];rfl,fun j a e=>?_⟩
 .rw[aD];delta putK;rw[if_neg no,qKs h.len.symm,qAr];rfl
 .rcases qAm j ws.length with z | z
  .rw[qAy z] at e;have w':=h.at_ j a e;rw[aR (ne _ _ w'),w'];delta gN;rw[qAf,qAf,qAy (by rw[<- h.len];exact z)]
  .rw[qAz z] at e;have hj:j-ws.length=0:=by
    have:=(List.getElem?_eq_some_iff.mp e).1;rw[qBf] at this;lia
   rw[hj] at e;obtain rfl:=Option.some.inj e;rw[aR (ne _ _ hw),hw];delta gN;rw[qAf,qAz (by rw[<- h.len];exact z),<- h.len,hj];rfl
noncomputable def z0(x:Int)(i:Nat):Int:=if i=0 then x else 0
theorem HQ(m1:1<=m)(m6:m<=6)(x:Int):Cm.pt m bt (z0 x) (2^m-1)=x:=by
 delta Cm.pt;rw[Wg.fX (k:=0) (by lia) fun i _ ne=>by show bt _ i*(if i=0 then x else 0)=0;rw[if_neg ne,qBu],mG ⟨m,by lia⟩ ⟨0,by lia⟩ (by show 0<m;lia)];show 1*(if 0=0 then x else 0)=x;rw[if_pos rfl,qCm]
theorem Qd{m:Nat}{tb:Nat->Int}(m1:1<=m)(m6:m<=6)(st:∀j,Sm 80000 (tb j)):∃ev,mP m tb [2^m-1] (z0 (tb (2^m-1))) 1 ev:=by
 obtain⟨ev,hev⟩:∃ev,∀g,g∈cY m [2^m-1]->tb g*1-Cm.pt m bt (z0 (tb (2^m-1))) g<=ev:=by
  by_cases e:cY m [2^m-1]=[]
  .exact⟨0,fun g hg=>by rw[e] at hg;cases hg⟩
  .obtain⟨g,_,mx⟩:=Cm.pH (fun g=>tb g*1-Cm.pt m bt (z0 (tb (2^m-1))) g) e;exact⟨_,mx⟩
 have ind:Cm.i5 m (gE [2^m-1]):=mJ (ks:=[]) (fun r hr=>by cases hr) fun z=>by
  have z:=gY.mp z 0 (by lia);have z:bt (2^m-1) 0=0:=z;rw[mG ⟨m,by lia⟩ ⟨0,by lia⟩ (by show 0<m;lia)] at z;cases z
 refine⟨ev,ind,List.mem_singleton.mpr rfl,fun k hk=>.inl (List.mem_singleton.mp hk),?_,by decide,Sm.of 2 #[1] (by show 2<=24*1;decide),fun i=>?_,by rw[HQ m1 m6,qHc],?_,hev,fun k hk ne=>absurd (List.mem_singleton.mp hk) ne⟩
 .have:=qEw (fun g=>!iI m [2^m-1] g) (j3 m);have:=p9 m6;show(List.filter (fun g=>!iI m [2^m-1] g) (j3 m)).length+2*1<=64;lia
 .show Sm _ (if i=0 then tb (2^m-1) else 0);split
  .exact(st _).mono (by show 80000<=80000+24*1-8;decide)
  .exact Sm.zero
 .intro S _ y _ _ g pg tg _;exact absurd tg (r6 m6 pg)
theorem GI(m1:1<=m)(m6:m<=6)(ind:Cm.i5 m (gE [2^m-1]))(e:cY m [2^m-1]=[]):m=1:=by
 rcases qAm 1 m with z | z
 .have h2:2^2<=2^m:=qBh #[1] z;have p1:Pr m 1:=⟨by decide,by omega⟩;have:1∈cY m [2^m-1]:=dS.mpr ⟨p1,by
   cases q:iI m [2^m-1] 1 with
   | false=>rfl
   | true=>exact absurd (mI ind q) (r6 m6 p1)⟩
  rw[e] at this;cases this
 .lia
def HR:Sp:=fun vs H Q _=>∃(p:Addr) (m n:Nat) (tb:Nat->Int),vs=[.ref p,.int (m:Int)]/\H p=some (.lst (bF n tb))/\1<=m/\m<=6/\n=2^m/\(∀j,Sm 80000 (tb j)) /\
 ∀(l:Addr) (H':Hp) (ps:List Addr) (ks:List Nat) (Z:Nat->Int) (d ev:Int),H l=none->aH H H'->kC m Z d H' l ps->mP m tb ks Z d ev->cY m ks=[]->Q (.ref l) H'
theorem mM:aV ["table","many","whole","kept","shares","free","found","group"] ["table","many"] (aI Ki):=#[1,2]
theorem LQ{f1 f2 f3 f4:Addr}{fd1 fd2 fd3 fd4:qCo}(t:Tx K mg "calm_shares" Ki ["table","many"] f fd)(T:#[4])(D_whole_company:#[5] 1 "whole_company" ["many"] Gq f1 fd1)(D_untold:#[5] 2 "untold" ["groups","kept","many"] Ew f2 fd2)(D_least_lack:#[5] 6 "least_lack" ["table","many","kept","free"] HP f3 fd3)(D_minus:#[5] 3 "minus" ["one","other"] Er f4 fd4):
  #[5] 7 "calm_shares" ["table","many"] HR f fd:=by
 refine t.gO mM (fun vs H Q E h=>?_) (fun cdv _A outer s H vs Q E hr h=>?_)
 .obtain⟨p,m,n,tbl,rfl,_⟩:=h;rfl
 .obtain⟨p,m,n,tbl,rfl,hp,m1,m6,hn,st,k⟩:=h;refine⟨_,(aC (aP (i:=2) mM.nd rfl bN (aY D_whole_company hr #[1] #[0] (aA (pv 1) aB)))
   (aC (aP (i:=3) mM.nd rfl bN (Dq (pv 2) (dN (aA (aQ a8 (pv 0) (pv 2) #[6]) (aA aE aB)))))
   (aC (aP (i:=4) mM.nd rfl bN (bQ (aA (dN (aA (aQ a8 (pv 0) (pv 2) #[6]) (aA aE aB))) aB)))
   (aC (aP (i:=5) mM.nd rfl bN (aY D_untold hr #[1] #[0] (aA (qM #[0] T.cR #[0] T.bW rfl (aA aE (aA (pv 2) aB))) (aA (cZ (gR rfl) #[0] T.cR cW (aA (pv 3) aB)) (aA (pv 1) aB)))))
   (aC (iV #[9] (aU qR (aJ aN #[0] T.bV bH (aA (pv 5) aB)) aE (aW _))
    (aC (aP (i:=6) mM.nd rfl bN (aY D_least_lack hr #[1] #[0] (aA (pv 0) (aA (pv 1) (aA (pv 3) (aA (pv 5) aB))))))
    (aC (aP (i:=4) mM.nd rfl bN (aQ bB (pv 6) aE #[6]))
    (aC (cF #[9] rfl (bL (aQ bB (pv 6) aE #[6])) (aO (i:=7) mM.nd rfl bN)
     (aF (bO (aU qR (aJ aN #[0] T.bV bH (aA (aY D_untold hr #[1] #[0] (aA (bQ (aA (pv 7) aB)) (aA (cZ (gR rfl) #[0] T.cR cW (aA (pv 3) aB)) (aA (pv 1) aB)))) aB)) aE (aW _)) (aF (zR (Cy hr) (pv 3) (pv 7) (aY D_minus hr #[1] #[0] (aA (dN (aA (aQ a8 (pv 0) (pv 7) #[6]) (aA aE aB))) (aA (aQ bB (pv 6) aE #[6]) aB))) rfl)) aZ)))
    (aF (aP (i:=5) mM.nd rfl bN (aY D_untold hr #[1] #[0] (aA (pv 5) (aA (cZ (gR rfl) #[0] T.cR cW (aA (pv 3) aB)) (aA (pv 1) aB))))))))))
   (aF (aT (pv 4)))))))),?_⟩
  have n2:2<=n:=by rw[hn];exact qBh (n:=2) (i:=1) #[1] m1
  have eN:((2^m:Int)-1)=((n-1:Nat):Int):=by
   have:((2^m:Nat):Int)=2^m:=by exact_mod_cast rfl
   rw[<- this,<- hn];lia
  refine⟨_,rfl,m,rfl,m6,fun H1 s1=>?_⟩;rw[eN];dsimp only[aX];have hp1:=s1 _ _ hp;refine fun q hq=>?_;have u1:=aH.aG (o:=.dK []) hq;have e1:upd H1 q (.dK []) q=_:=aD;generalize upd H1 q (.dK [])=H1' at u1 e1|-;refine⟨_,rfl,_,rfl,_,rfl,p,_,_,_,rfl,rfl,aS.of (u1 _ _ hp1),bR (by lia),qE,fun l2 hl2=>?_⟩;have u2:=aH.aG (o:=.tup [.int (tbl (n-1)),.int 1]) hl2;have e2:upd H1' l2 (.tup [.int (tbl (n-1)),.int 1]) l2=_:=aD;generalize upd H1' l2 (.tup [.int (tbl (n-1)),.int 1])=H2 at u2 e2|-;exists u2 _ _ e1,_,rfl;dsimp only[aX];have h0q:H q=none:=s1.free hq;have s02:aH H H2:=s1.trans (u1.trans u2);have s3:aH H (upd H2 q (.dK [(Sum.inl ((n-1:Nat):Int),.ref l2)])):=s02.upd_ne' h0q;have l2q:l2≠q:=fun z=>by rw[z,e1] at hl2;cases hl2
  have e3:upd H2 q (.dK [(Sum.inl ((n-1:Nat):Int),.ref l2)]) q=_:=aD;have e32:upd H2 q (.dK [(Sum.inl ((n-1:Nat):Int),.ref l2)]) l2=_:=(aR l2q).trans e2;generalize upd H2 q (.dK [(Sum.inl ((n-1:Nat):Int),.ref l2)])=H3 at s3 e3 e32|-;refine⟨_,rfl,_,rfl,p,_,_,_,rfl,rfl,aS.of (s3 _ _ hp),bR (by lia),qE,fun l4 hl4=>?_⟩;have u4:=aH.aG (o:=.tup [.int (tbl (n-1)),.int 1]) hl4;have e4:upd H3 l4 (.tup [.int (tbl (n-1)),.int 1]) l4=_:=aD;generalize upd H3 l4 (.tup [.int (tbl (n-1)),.int 1])=H4 at u4 e4|-;refine⟨kE,fun l5 hl5=>?_⟩;have u5:=aH.aG (o:=.lst [.ref l4]) hl5;have e5:upd H4 l5 (.lst [.ref l4]) l5=_:=aD;generalize upd H4 l5 (.lst [.ref l4])=H5 at u5 e5|-;dsimp only[aX];have s5:aH H H5:=s3.trans (u4.trans u5);have n64:n<=64:=by rw[hn];exact i8 m6
  refine⟨_,rfl,1,_,n-2,rfl,by lia,by lia,by decide,by decide,fun l6 hl6=>?_⟩;rw[show n-2=2^m-2 by rw[hn],GH];have u6:=aH.aG (o:=.lst (a9 (j3 m))) hl6;have e6:upd H5 l6 (.lst (a9 (j3 m))) l6=_:=aD;generalize upd H5 l6 (.lst (a9 (j3 m)))=H6 at u6 e6|-;have hq6:=u6 _ _ (u5 _ _ (u4 _ _ e3));refine⟨_,rfl,q,_,rfl,.inl hq6,fun l7 hl7=>?_⟩;have u7:=aH.aG (o:=.lst (a9 [n-1])) hl7;have e7:upd H6 l7 (.lst (a9 [n-1])) l7=_:=aD;show Co _ _ _ (upd H6 l7 (.lst (a9 [n-1]))) _;generalize upd H6 l7 (.lst (a9 [n-1]))=H7 at u7 e7|-;obtain⟨ev,cs0⟩:=Qd m1 m6 st;rw[hn] at e7;refine⟨_,rfl,l6,l7,m,j3 m,[2^m-1],rfl,u7 _ _ e6,e7,by lia,m6,by have:=p9 m6;lia,fun g hg=>by have:=(eY.mp hg).2;lia,cs0.Fc m6,cs0.ind,fun l8 H8 hl8 s8 e8=>?_⟩;dsimp only[aX];have s38:=u4.trans (u5.trans (u6.trans (u7.trans s8)));refine⟨fun μ σ' H'=>∃(ks:List Nat) (Z:Nat->Int) (d ev:Int) (ws:List Addr) (lsh lfr:Addr) (o6 o7:Option V),μ=(cY m ks).length/\aH H H'/\mP m tbl ks Z d ev/\Kp ks (Cm.pt m bt Z) d H' q ws/\H' lfr=some (.lst (a9 (cY m ks)))/\H lsh=none/\(cY m ks=[]->∃ps,kC m Z d H' lsh ps)/\σ'=[some (.ref p),some (.int (m:Int)),some (.int ((n-1:Nat):Int)),some (.ref q),some (.ref lsh),some (.ref lfr),o6,o7],
   ⟨_,[2^m-1],_,_,_,[l2],l5,l8,_,_,rfl,s3.trans s38,cs0,⟨?_,rfl,fun j w e=>?_⟩,e8,(s3.trans u4).free hl5,fun fe=>⟨[l4],?_,?_,fun j w e=>?_⟩,rfl⟩,?_⟩
  .rw[s38 _ _ e3,<- hn];rfl
  .have hj:j=0:=by have:=(List.getElem?_eq_some_iff.mp e).1;rw[qBf] at this;lia
   subst hj;obtain rfl:=Option.some.inj e;rw[s38 _ _ e32];show _=some (gC (Cm.pt m bt (z0 (tbl (2^m-1))) (2^m-1)) 1);rw[HQ m1 m6,p7,hn]
  .exact s8 _ _ (u7 _ _ (u6 _ _ e5))
  .rw[GI m1 m6 cs0.ind fe];rfl
  .have hj:j=0:=by have:=(List.getElem?_eq_some_iff.mp e).1;rw[qBf] at this;lia
   subst hj;obtain rfl:=Option.some.inj e;rw[s8 _ _ (u7 _ _ (u6 _ _ (u5 _ _ e4)))];show _=some (gC (tbl (2^m-1)) 1);rw[p7,hn]
  rintro μ σ' H' ⟨ks,Z,d,ev,ws,lsh,lfr,o6,o7,rfl,s',cst,kp,hfr,hsh,fin,rfl⟩;exists _,rfl,lfr,_,rfl,.inl (aS.of hfr),_,_,rfl,rfl,_,rfl;rw[bI];refine cK (fun h1=>?_) (fun h1=>?_)
  .have fn:cY m ks≠[]:=fun z=>by rw[z] at h1;exact absurd h1 #[1]
   refine⟨fun σ' H'=>∃(ks':List Nat) (Z:Nat->Int) (d ev:Int) (ws:List Addr) (lsh lfr:Addr) (o6 o7:Option V),(cY m ks').length<(cY m ks).length/\aH H H'/\mP m tbl ks' Z d ev/\Kp ks' (Cm.pt m bt Z) d H' q ws/\H' lfr=some (.lst (a9 (cY m ks')))/\H lsh=none/\(cY m ks'=[]->∃ps,kC m Z d H' lsh ps)/\σ'=[some (.ref p),some (.int (m:Int)),some (.int ((n-1:Nat):Int)),some (.ref q),some (.ref lsh),some (.ref lfr),o6,o7],
    (by rintro σ' H' ⟨ks',Z,d,ev,ws,lsh,lfr,o6,o7,lt,r⟩;exact ⟨_,lt,ks',Z,d,ev,ws,lsh,lfr,o6,o7,rfl,r⟩),?_⟩
   have kl:ks.length<=32:=by have:=cst.cnt;lia
   have hp':=s' _ _ hp;refine⟨_,rfl,_,rfl,_,rfl,_,rfl,?_⟩;dsimp only[iR,qCj,qCl];refine⟨p,q,lfr,m,n,24*ks.length,tbl,Cm.pt m bt Z,d,ks,cY m ks,ws,rfl,hp',kp,hfr,m1,m6,hn,cst.d0,by lia,cst.sd,cst.sP m6,st,by have:=cst.cnt;lia,fun g hg=>by have:=(dS.mp hg).1.2;lia,cst.Fc m6,cst.ind,cst.no m6 fn,fun R lp le lh H9 ps dw Z' lam mu hlp s9 hR fl he hh sdw sZ' ce same=>?_⟩;have cst':=cst.step m1 m6 ce same sdw sZ';have dd0:=cst'.d0;have a0:eV [V.ref lp,V.ref le,V.ref lh] 0=some (.ref lp):=rfl;have a1:eV [V.ref lp,V.ref le,V.ref lh] 1=some (.ref le):=rfl;have a2:eV [V.ref lp,V.ref le,V.ref lh] 2=some (.ref lh):=rfl;dsimp only[aX];refine⟨_,rfl,R,_,_,_,rfl,rfl,cE.of hR,a0,?_⟩;dsimp only[aX];refine⟨_,rfl,R,_,_,_,rfl,rfl,cE.of hR,a2,lh,rfl,⟨_,aS.of hh⟩,?_⟩;have kp9:Kp ks (Cm.pt m bt Z') (dw*d) H9 q ws:=⟨s9 _ _ kp.hd,kp.len,fun j w e=>by
    rw[s9 _ _ (kp.at_ j w e)];have hj:j<ks.length:=by rw[<- kp.len];exact(List.getElem?_eq_some_iff.mp e).1
    refine congrArg some (jY cst.d0 dd0 ?_);rw[same _ (k9 hj)];grind⟩
   have hlP:∀g,g∈fK (cY m ks) lam (cY m ks).length->Pr m g/\tbl g*(dw*d)-Cm.pt m bt Z' g=Z' m:=fun g hg=>by
    obtain⟨c,hc,ne,rfl⟩:=iC.mp hg;exact⟨(dS.mp (k9 hc)).1,ce.hold c hc ne⟩
   have grow:=cst.grow ce;have ind0:=cst.ind;have s09:=s'.trans s9;have nR:R≠q:=fun z=>by rw[z,kp9.hd] at hR;cases hR
   have nlh:lh≠q:=fun z=>by rw[z,kp9.hd] at hh;cases hh
   have nle:le≠q:=fun z=>by rw[z,kp9.hd] at he;cases he
   have nlf:lfr≠q:=fun z=>by rw[z,kp.hd] at hfr;cases hfr
   have np:p≠q:=fun z=>by rw[z,kp.hd] at hp';cases hp'
   have told:=nJ (m:=m) cst.ind (hl:=fK (cY m ks) lam (cY m ks).length);have sdd:Sm 3000 (dw*d):=(sdw.mul cst.sd).mono (by lia);generalize hhl:fK (cY m ks) lam (cY m ks).length=hl at *;refine dX (xs:=a9 hl) (fun j σ' H'=>SameBut q H9 H'/\aH H H'/\∃(ws':List Addr) (o7:Option V),Kp (eZ m ks (hl.take j)) (Cm.pt m bt Z') (dw*d) H' q ws'/\σ'=[some (.ref p),some (.int (m:Int)),some (.int ((n-1:Nat):Int)),some (.ref q),some (.ref lp),some (.ref lfr),some (.ref R),o7]) ⟨(aH.refl _).but q,s09,ws,_,kp9,rfl⟩ ?_ ?_ ?_
   .rintro j σ' H' _ ⟨sb,_⟩;exact aS.of (sb _ _ nlh hh)
   .rintro j x σ' H10 hx ⟨sb,s10,ws',o7,kp10,rfl⟩;obtain⟨g,hg,rfl⟩:=fE hx;obtain⟨pg,hold⟩:=hlP g (qAx hg);have et:hl.take (j+1)=hl.take j++[g]:=by rw[qEy,hg];rfl
    have i10:=mL ind0 (hl.take j);rw[et,g4];dsimp only[aX];generalize hks:eZ m ks (hl.take j)=kj at *;have kjl:kj.length<=6:=by
     have z:=i10.len;unfold gE at z;rw[qAa] at z;lia
    have Fc:∀k,k∈kj->k<64:=fun k hk=>by
     obtain⟨t',e',ht'⟩:=mK m ks (hl.take j);rw[hks] at e';rw[e'] at hk;rcases List.mem_append.mp hk with z | z
     .exact cst.Fc m6 k z
     .have:=(hlP k (qMl (ht' k z))).1.2;lia
    refine⟨_,rfl,kE,fun l11 h11=>?_⟩;have u11:=aH.aG (o:=.lst (a9 [g])) h11;have e11:upd H10 l11 (.lst (a9 [g])) l11=_:=aD;show Co _ _ _ (upd H10 l11 (.lst (a9 [g]))) _;generalize upd H10 l11 (.lst (a9 [g]))=H11 at u11 e11|-;have kp11:=kp10.same u11;refine⟨_,rfl,q,_,rfl,.inl kp11.hd,fun l12 h12=>?_⟩;rw[Kp.keys kp11.len];have u12:=aH.aG (o:=.lst (a9 kj)) h12;have e12:upd H11 l12 (.lst (a9 kj)) l12=_:=aD;generalize upd H11 l12 (.lst (a9 kj))=H12 at u12 e12|-;refine⟨_,rfl,l11,l12,m,[g],kj,rfl,u12 _ _ e11,e12,by lia,m6,by show 1<=64;decide,fun k hk=>by rw[List.mem_singleton.mp hk];have:=pg.2;lia,Fc,i10,fun l13 H13 h13 s13 e13=>?_⟩;have s1013:=u11.trans (u12.trans s13);have kp13:=kp10.same s1013;exists l13,_,rfl,.inl (aS.of e13),_,_,rfl,rfl,_,rfl;rw[bI];by_cases tg:iI m kj g=true
    .rw[if_pos tg];refine cK (fun z=>?_) fun _=>⟨sb.then s1013,s10.trans s1013,ws',_,kp13,rfl⟩;rw[qDw,tg] at z;simp at z
    .rw[if_neg tg];refine cK (fun _=>?_) fun z=>?_
     .have sb13:=sb.then s1013;have hgn:g<n:=by have:=pg.2;lia
      have hp13:=(s10.trans s1013) _ _ hp;refine⟨_,rfl,_,rfl,p,_,_,_,rfl,rfl,aS.of hp13,bR hgn,qE,fun l14 h14=>?_⟩;have u14:=aH.aG (o:=.tup [.int (tbl g),.int 1]) h14;have e14:upd H13 l14 (.tup [.int (tbl g),.int 1]) l14=_:=aD;generalize upd H13 l14 (.tup [.int (tbl g),.int 1])=H14 at u14 e14|-;have f14:H14 l14=some (gC (tbl g*(dw*d)) (dw*d)):=by
       rw[e14,<- p7];exact congrArg some (jY #[1] dd0 (by rw[qHc]))
      exists _,rfl,R,_,_,_,rfl,rfl,cE.of (u14 _ _ (sb13 _ _ nR hR)),a1;dsimp only[iR,qCj,qCl];refine⟨l14,le,_,_,dw*d,rfl,f14,u14 _ _ (sb13 _ _ nle he),dd0,sdd,((st g).mul sdd).mono #[1],(sZ' m).mono (by lia),fun l15 H15 s15 e15=>?_⟩;rw[show tbl g*(dw*d)-Z' m=Cm.pt m bt Z' g by lia] at e15;have kp15:=kp13.same (u14.trans s15);have nk:g∉kj:=fun z=>tg (qB i10 z);refine⟨_,rfl,_,rfl,q,_,rfl,.inl ⟨_,.inl (g:Int),kp15.hd,rfl,?_,rfl⟩,(sb13.then (u14.trans s15)).nY _,((s10.trans s1013).trans (u14.trans s15)).upd_ne' h0q,ws'++[l15],_,kp15.add nk e15,rfl⟩;rw[qAa,List.length_zip,kp15.len,qCc];lia
     .rw[qDw] at z;rw[qKe] at tg;rw[tg] at z;exact absurd (by simp) z
   .rintro σ' H10 ⟨sb,s10,ws',o7,kp10,rfl⟩;rw[bI,qEg] at kp10;rw[<- hhl] at kp10;have hfr10:=sb _ _ nlf (s9 _ _ hfr);refine⟨_,rfl,_,rfl,q,_,rfl,.inl kp10.hd,fun l12 h12=>?_⟩;rw[Kp.keys kp10.len];have u12:=aH.aG (o:=.lst (a9 (eZ m ks (fK (cY m ks) lam (cY m ks).length)))) h12;have e12:upd H10 l12 (.lst (a9 (eZ m ks (fK (cY m ks) lam (cY m ks).length)))) l12=_:=aD;generalize upd H10 l12 (.lst (a9 (eZ m ks (fK (cY m ks) lam (cY m ks).length))))=H12 at u12 e12|-;rw[<- hhl] at cst' grow told;refine⟨_,rfl,lfr,l12,m,cY m ks,_,rfl,u12 _ _ hfr10,e12,by lia,m6,by have:=cst.cnt;lia,fun g hg=>by have:=(dS.mp hg).1.2;lia,cst'.Fc m6,cst'.ind,fun l13 H13 h13 s13 e13=>?_⟩;rw[Ay] at e13;have s1013:=u12.trans s13;refine⟨_,Z',dw*d,Z' m,ws',lp,l13,_,_,?_,s10.trans s1013,cst',kp10.same s1013,e13,s'.free hlp,fun _=>⟨ps,?_⟩,rfl⟩
    .obtain⟨c,hc,ne⟩:=ce.some;have hm:gN (cY m ks) c∈fK (cY m ks) lam (cY m ks).length:=iC.mpr ⟨c,hc,ne,rfl⟩;have z:=told _ hm;rw[<- Ay];refine List.length_filter_lt_length_iff_exists.mpr ⟨_,k9 hc,?_⟩;rw[z];decide
    .have nlp:lp≠q:=fun z=>by rw[z,kp.hd] at hlp;cases hlp
     refine⟨s1013 _ _ (sb _ _ nlp fl.hr),fl.len,fun j w e=>?_⟩;have hw:=fl.at_ j w e;have nw:w≠q:=fun z=>by rw[z,kp9.hd] at hw;cases hw
     exact s1013 _ _ (sb _ _ nw hw)
  .have fe:cY m ks=[]:=by
    cases e:cY m ks with
    | nil=>rfl
    | cons a b=>rw[e] at h1;exact absurd (by simp) h1
   obtain⟨ps,fl⟩:=fin fe;exact⟨_,rfl,k lsh H' ps ks Z d ev hsh s' fl cst fe⟩
noncomputable def iO(m:Nat)(lk:Nat->Int)(l:Int):List Nat:=(j3 m).filter fun g=>decide (l<=lk g)
theorem iP:g∈iO m lk l↔Pr m g/\l<=lk g:=by
 delta iO;rw[qKt,eY,decide_eq_true_iff]
theorem LR{m:Nat}{tb:Nat->Int}{ks:List Nat}{Z:Nat->Int}{d ev:Int}(m6:m<=6)(h:mP m tb ks Z d ev)(fr:cY m ks=[]){l:Int}{g0:Nat}(hg0:Pr m g0)(hl0:l<=tb g0*d-Cm.pt m bt Z g0):Qs m (iO m (fun g=>tb g*d-Cm.pt m bt Z g) l):=by
 intro y y0 yN;have tl:∀g,Pr m g->Cm.Tl m bt ks g:=fun g pg=>by
  cases q:iI m ks g with
  | true=>exact mI h.ind q
  | false =>
   have:=dS.mpr ⟨pg,q⟩;rw[fr] at this;cases this
 have wh:=Ep m6 y;have st:=h.Qb (fun g=>l<=tb g*d-Cm.pt m bt Z g) (fun g h _ _ _ _ a b=>qKc a b) y (by unfold Cm.pt;rw[wh];exact yN) fun g pg _ sg=>y0 g (iP.mpr ⟨pg,sg⟩);refine⟨?_,fun g hg=>?_⟩
 .have:=(st g0 hg0 (tl g0 hg0) hl0).1;unfold Cm.pt at this;rw[wh] at this;exact this
 .obtain⟨pg,sg⟩:=iP.mp hg;exact(st g pg (tl g pg) sg).2
theorem t8(m:Nat)(gs:List Nat):(p4 m gs).Sublist gs:=by
 induction gs using Cm.snocInd with
 | nil=>exact List.Sublist.refl _
 | append_singleton gs g ih =>
  rw[jZ];exact ih.append List.filter_sublist
theorem t9:∀(p i:_root_.Fin 6),bt (2^p.1) i.1=Cm.e1 p.1 i.1:=by decide +kernel
theorem EK(m6:m<=6)(h:∀p,p<m->2^p∈gs):(p4 m gs).length=m:=by
 have z:=Cm.BH (kD m gs) fun p hp i hi=>by
  have t:=Ey (m:=m) (2^p) (h p hp);rw[Cm.tT (kD m gs) (f:=Cm.e1 p) (g:=bt (2^p)) (fun i hi=>(t9 ⟨p,by lia⟩ ⟨i,by lia⟩).symm) i hi];exact t i hi
 unfold gE at z;rw[qAa] at z;exact z
theorem GJ(m:Nat):(j3 m).Pairwise (· < ·):=List.pairwise_map.mpr (List.pairwise_lt_range.imp fun h=>by lia)
theorem EL(m:Nat)(lk:Nat->Int)(l:Int):(iO m lk l).Pairwise (· < ·):=(GJ m).filter _
theorem up_eq:∀{a b:List Int},a.Pairwise (· < ·)->b.Pairwise (· < ·)->(∀k,k∈a↔k∈b)->a=b
 | [],[],_,_,_=>rfl
 | [],y::b,_,_,h=>absurd ((h y).mpr (qCi ..)) (by simp)
 | x::a,[],_,_,h=>absurd ((h x).mp (qCi ..)) (by simp)
 | x::a,y::b,.cons ha pa,.cons hb pb,h=>by
  have e:x=y:=by
   rcases List.mem_cons.mp ((h x).mp (qCi ..)) with z | z
   .exact z
   .rcases List.mem_cons.mp ((h y).mpr (qCi ..)) with z' | z'
    .exact z'.symm
    .have:=hb x z;have:=ha y z';lia
  subst e;congr 1;refine up_eq pa pb fun k=>⟨fun hk=>?_,fun hk=>?_⟩
  .rcases List.mem_cons.mp ((h k).mp (qBr _ hk)) with z | z
   .have:=ha k hk;lia
   .exact z
  .rcases List.mem_cons.mp ((h k).mpr (qBr _ hk)) with z | z
   .have:=hb k hk;lia
   .exact z
theorem wU{m:Nat}{tb tt Z:Nat->Int}{d L:Int}(e:∀j,j<m->tt j*d=Z j*L)(g:Nat):oP m tb tt L g*d=(tb g*d-Cm.pt m bt Z g)*L:=by
 have z:=pS (n:=m) (a:=bt g) (t:=tt) (X:=Z) (d:=d) (L:=L) e;delta oP;rw[qPx,z,qPx];delta Cm.pt;grind
def BY(m:Nat)(lk:Nat->Int)(ds:List Int):Prop:=ds.Pairwise (· < ·)/\∀k,k∈ds↔∃g,Pr m g/\lk g=k
theorem BY.scale(d0:0<d)(L0:0<L)(h:BY m lk' ss)(h2:BY m lk ds)(e:∀g,lk' g*d=lk g*L):ss.map (· * d)=ds.map (· * L):=by
 refine up_eq (List.pairwise_map.mpr (h.1.imp fun z=>qEp z d0)) (List.pairwise_map.mpr (h2.1.imp fun z=>qEp z L0)) fun k=>?_;rw[qGi,qGi];constructor
 .rintro⟨a,ha,rfl⟩;obtain⟨g,pg,rfl⟩:=(h.2 a).mp ha;exact⟨lk g,(h2.2 _).mpr ⟨g,pg,rfl⟩,(e g).symm⟩
 .rintro⟨a,ha,rfl⟩;obtain⟨g,pg,rfl⟩:=(h2.2 a).mp ha;exact⟨lk' g,(h.2 _).mpr ⟨g,pg,rfl⟩,e g⟩
theorem BY.back(d0:0<d)(L0:0<L)(h:BY m lk' ss)(e:∀g,lk' g*d=lk g*L):BY m lk (ss.map fun s=>s*d/L):=by
 have key:∀g,lk' g*d/L=lk g:=fun g=>by rw[e g];exact qNj _ (by lia)
 refine⟨List.pairwise_map.mpr ?_,fun k=>?_⟩
 .have:∀{l:List Int},l.Pairwise (· < ·)->(∀a,a∈l->∃g,lk' g=a)->l.Pairwise fun a b=>a*d/L<b*d/L:=by
   intro l hl hm;induction hl with
   | nil=>exact .nil
   | cons ha _ ih =>
    refine .cons (fun b hb=>?_) (ih fun a h=>hm a (qBr _ h));obtain⟨g1,rfl⟩:=hm _ (qCi ..);obtain⟨g2,rfl⟩:=hm b (qBr _ hb);rw[key,key];have z:=qEp (ha _ hb) d0;rw[e,e] at z;exact Int.lt_of_mul_lt_mul_right z (qCf L0)
  exact this h.1 fun a ha=>by
   obtain⟨g,_,e⟩:=(h.2 a).mp ha;exact⟨g,e⟩
 .rw[qGi];constructor
  .rintro⟨a,ha,rfl⟩;obtain⟨g,pg,rfl⟩:=(h.2 a).mp ha;exact⟨g,pg,(key g).symm⟩
  .rintro⟨g,pg,rfl⟩;exact⟨lk' g,(h.2 _).mpr ⟨g,pg,rfl⟩,key g⟩
theorem r8(d0:0<d)(L0:0<L)(e:∀g,lk' g*d=lk g*L)(h:s*d=l*L):iO m lk' s=iO m lk l:=by
 delta iO;refine qNt fun g _=>decide_eq_decide.mpr ?_;constructor
 .intro z;have z:=qDd z (qCf d0);rw[e,h] at z;exact qLf z L0
 .intro z;have z:=qDd z (qCf L0);rw[<- e,<- h] at z;exact qLf z d0
theorem uA(m6:m<=6)(lk:Nat->Int)(l:Int):(iO m lk l).length<=62:=qCy (qEw _ _) (p9 m6)
theorem uB(m2:2<=m)(hp:p<m):Pr m (2^p):=by
 have h0:=qHa p;have h1:2^p<=2^(m-1):=qBh #[1] (by lia);have h2:2^1<=2^(m-1):=qBh #[1] (by lia);have h3:2^m=2^(m-1)*2:=by rw[<- qIk,show(m-1).succ=m by lia]
 exact⟨h0,by lia⟩
def GK(m:Nat)(lk:Nat->Int)(d:Int)(H:Hp)(D:Addr)(l:Int)(e:Addr):Prop:=∃(fa wa:Addr) (ys:List V) (dx:Int) (X:Nat->Int),H e=some (.tup [.ref fa,.ref wa])/\H fa=some (gC l d)/\H wa=some (.lst ys)/\wa≠D/\eB H dx ys (As (iO m lk l) X (iO m lk l).length)/\0<dx/\Sm 6000 dx/\(∀j,Sm 300000 (X j))/\0<X 0/\(∀j,0<=X j)/\∀i,i<m->(Wg.sm (iO m lk l).length fun j=>bt (gN (iO m lk l) j) i*(X 0+X (j+1)))=dx
theorem GK.same{m:Nat}{lk:Nat->Int}{d:Int}{H H':Hp}{D:Addr}{l:Int}{e:Addr}(h:GK m lk d H D l e)(s:aH H H'):GK m lk d H' D l e:=by
 obtain⟨fa,wa,ys,dx,X,a,b,c,n,r,q⟩:=h;exact⟨fa,wa,ys,dx,X,s _ _ a,s _ _ b,s _ _ c,n,r.t s.t,q⟩
theorem GK.upd{m:Nat}{lk:Nat->Int}{d:Int}{H:Hp}{D:Addr}{l:Int}{e:Addr}{xs ys:List V}(h:GK m lk d H D l e)(hD:H D=some (.lst xs)):GK m lk d (upd H D (.lst ys)) D l e:=by
 obtain⟨fa,wa,zs,dx,X,a,b,c,n,r,q⟩:=h;refine⟨fa,wa,zs,dx,X,?_,?_,?_,n,r.t (.lst hD),q⟩
 .rw[aR fun z=>by rw[z,hD] at a;cases a];exact a
 .rw[aR fun z=>by rw[z,hD] at b;cases b];exact b
 .rw[aR n];exact c
structure BZ (m:Nat) (lk:Nat->Int) (d:Int) (ds:List Int) (H:Hp) (D:Addr) (es:List Addr) (tl:List Nat):Prop where
 hl:H D=some (.lst (es.map V.ref))
 le:es.length<=ds.length
 at_:∀(i:Nat) (e:Addr),es[i]?=some e->∃l,ds[ds.length-1-i]?=some l/\GK m lk d H D l e
 t0:es=[]->tl=[2^m-1]
 t1:∀l,es≠[]->ds[ds.length-es.length]?=some l->tl=p4 m (iO m lk l)
theorem BZ.same{m:Nat}{lk:Nat->Int}{d:Int}{ds:List Int}{H H':Hp}{D:Addr}{es:List Addr}{tl:List Nat}(h:BZ m lk d ds H D es tl)(s:aH H H'):BZ m lk d ds H' D es tl :=
 ⟨s _ _ h.hl,h.le,fun i e z=>by obtain⟨l,a,b⟩:=h.at_ i e z;exact⟨l,a,b.same s⟩,h.t0,h.t1⟩
theorem BZ.more{m:Nat}{lk:Nat->Int}{d:Int}{ds:List Int}{H:Hp}{D:Addr}{es:List Addr}{tl:List Nat}(h:BZ m lk d ds H D es tl){l:Int}{e:Addr}(hl:ds[ds.length-1-es.length]?=some l)(lt:es.length<ds.length)(he:GK m lk d H D l e):
  BZ m lk d ds (upd H D (.lst (es.map V.ref++[.ref e]))) D (es++[e]) (p4 m (iO m lk l)):=by
 refine⟨by rw[aD,qAr];rfl,by rw[qAj,qBf];lia,fun i x z=>?_,fun z=>by simp at z,fun l' _ z=>?_⟩
 .rcases qAm i es.length with q | q
  .rw[qAy q] at z;obtain⟨l,a,b⟩:=h.at_ i x z;exact⟨l,a,b.upd h.hl⟩
  .rw[qAz q] at z;have hi:i-es.length=0:=by
    have:=(List.getElem?_eq_some_iff.mp z).1;rw[qBf] at this;lia
   rw[hi] at z;obtain rfl:e=x:=Option.some.inj z;rw[show i=es.length by lia];exact⟨l,hl,he.upd h.hl⟩
 .rw[qAj,qBf,show ds.length-(es.length+1)=ds.length-1-es.length by lia,hl] at z;rw[Option.some.inj z]
theorem BV(m:Nat)(tb Y:Nat->Int)(b:Int)(k:Nat):((k8 m tb Y b k).map fun kv=>kv.2)=((qAk k).map fun j=>oP m tb Y b (j+1)).map V.int:=by
 delta k8;rw[qCn,qCn];rfl
theorem wV:∀{l l':List Int},l.Nodup->(∀x,x∈l->x∈l')->l.length<=l'.length
 | [],_,_,_=>qBn _
 | x::l,l',hn,h=>by
  obtain⟨n1,n2⟩:=List.nodup_cons.mp hn;have hx:=h x (.head _);have z:=wV (l:=l) (l':=l'.erase x) n2 fun y hy=>(qMm (fun e=>by subst e;exact n1 hy)).mpr (h y (.tail _ hy));rw[qLi hx] at z;have:=qGc hx;rw[qBq];lia
theorem EM{m:Nat}{tb Y:Nat->Int}{b:Int}{k j:Nat}(hj:j<k):nZ (k8 m tb Y b k) (Sum.inl ((j+1:Nat):Int):Key)=some (V.int (oP m tb Y b (j+1))):=by
 delta nZ k8;have e:((qAk k).map fun(j:Nat)=>((Sum.inl ((j+1:Nat):Int):Key),V.int (oP m tb Y b (j+1)))).find? (fun kv=>decide (kv.1=(Sum.inl ((j+1:Nat):Int):Key)))=some (Sum.inl ((j+1:Nat):Int),V.int (oP m tb Y b (j+1))):=by
  induction k with
  | zero=>omega
  | succ k ih =>
   rw[qBm,qAr,List.find?_append];rcases qAm j k with z | z
   .rw[ih z];rfl
   .obtain rfl:j=k:=by omega
    rw[List.find?_eq_none.mpr]
    .rw[qCz,qEv,qFg];simp
    .intro kv hkv;obtain⟨i,hi,rfl⟩:=List.mem_map.mp hkv;have hi:=List.mem_range.mp hi;intro z;have z:=Sum.inl.inj (of_decide_eq_true z);omega
 rw[e];rfl
theorem GL{m:Nat}{tb Y:Nat->Int}{b:Int}{k i:Nat}{kv:Key×V}(h:(k8 m tb Y b k)[i]?=some kv):i<k/\kv=(Sum.inl ((i+1:Nat):Int),V.int (oP m tb Y b (i+1))):=by
 delta k8 at h;rw[qAn] at h;rcases qAm i k with z | z
 .rw[qCw z] at h;exact⟨z,(Option.some.inj h).symm⟩
 .rw[qAv (by rw[qAu];exact z)] at h;cases h
noncomputable def Fd(lk:Nat->Int)(l:Int)(k:Nat):List Nat:=((qAk k).map (· + 1)).filter fun g=>decide (l<=lk g)
theorem qC(lk:Nat->Int)(l:Int)(k:Nat):Fd lk l (k+1)=if l<=lk (k+1) then Fd lk l k++[k+1] else Fd lk l k:=by
 delta Fd;rw[qBm,qAr,qHi];by_cases z:l<=lk (k+1)
 .rw[if_pos z,qCz,qEv,qDw,if_pos (decide_eq_true z)];rfl
 .rw[if_neg z,qCz,qEv,qDw,if_neg (by rw[decide_eq_false z];exact qAq),qIh,qDp]
def HS(K:qAd):Sp:=fun vs H Q _=>∃(p q:Addr) (m n:Nat) (tb Z:Nat->Int) (d ev:Int) (ks:List Nat) (ps:List Addr),vs=[.ref p,.int (m:Int),.ref q]/\H p=some (.lst (bF n tb))/\n=2^m/\1<=m/\m<=6/\(∀j,Sm 80000 (tb j))/\mP m tb ks Z d ev/\cY m ks=[]/\kC m Z d H q ps /\
 ∀(R lv lt:Addr) (H':Hp) (es:List Addr) (ds:List Int) (tl:List Nat),aH H H'->H lv=none->H' R=some (.tup [.ref lv,.ref lt])->BY m (fun g=>tb g*d-Cm.pt m bt Z g) ds->BZ m (fun g=>tb g*d-Cm.pt m bt Z g) d ds H' lv es tl->H' lt=some (.lst (a9 tl))->tl.length=m->Q (.ref R) H'
theorem nT:aV ["table","many","shares","bottom","lacks","levels","telling","lack","groups"] ["table","many","shares"] (aI Kl):=#[1,2]
theorem LS{f1 f2 f3 f4 f5 f6 f7:Addr}{fd1 fd2 fd3 fd4 fd5 fd6 fd7:qCo}(t:Tx K mg "levels_of" Kl ["table","many","shares"] f fd)(T:#[4])(D_common_bottom:#[5] 2 "common_bottom" ["fractions"] Ek f1 fd1)(D_tops_over:#[5] 1 "tops_over" ["bottom","fractions"] El f2 fd2)(D_lacks_of:#[5] 5 "lacks_of" ["table","tops","bottom"] (HN K) f3 fd3)(D_whole_company:#[5] 1 "whole_company" ["many"] Gq f4 fd4)(D_fraction:#[1,1] 2 "fraction" ["top","bottom"] (tU K NN) f5 fd5)(D_weighing_of:#[5] 6 "weighing_of" ["groups","many"] HL f6 fd6)(D_sifted:#[5] 3 "sifted" ["groups","many"] HJ f7 fd7):
  #[5] 7 "levels_of" ["table","many","shares"] (HS K) f fd:=by
 refine t.gO nT (fun vs H Q E h=>?_) (fun cdv _A outer s H vs Q E hr h=>?_)
 .obtain⟨p,q,m,n,tbl,Z,d,ev,ks,ps,rfl,_⟩:=h;rfl
 .obtain⟨p,q,m,n,tbl,Z,d,ev,ks,ps,rfl,hp,hn,m1,m6,st,cst,fe,fl,k⟩:=h;refine⟨_,(aC (aP (i:=3) nT.nd rfl bN (aY D_common_bottom hr #[1] #[0] (aA (pv 2) aB)))
   (aC (aP (i:=4) nT.nd rfl #[3] (aY D_lacks_of hr #[1] #[0] (aA (pv 0) (aA (aY D_tops_over hr #[1] #[0] (aA (pv 3) (aA (pv 2) aB))) (aA (pv 3) aB)))))
   (aC (aP (i:=5) nT.nd rfl bN (bQ aB))
   (aC (aP (i:=6) nT.nd rfl bN (bQ (aA (aY D_whole_company hr #[1] #[0] (aA (pv 1) aB)) aB)))
   (aC (cF #[9] rfl (Jt #[0] T.iA (aA (lV #[0] T.i7 #[0] T.rQ rfl (aA (iS #[0] T.cR rfl (pv 4)) aB)) aB)) (aO (i:=7) nT.nd rfl #[3])
    (aC (bO (aU dE (aJ aN #[0] T.bV bH (aA (pv 6) aB)) (pv 1) (aW _)) (aF Cc) aZ)
    (aC (eJ (NB:=["group","lack","lacks"]) (pick:=[none,some 7,some 4]) (i:=8) nT.nd rfl bN #[0] (bG #[7] (by exact(And.intro rfl (And.intro rfl trivial))) rfl #[2] #[2] #[0] #[0]) rfl
     (Dn (pv 4)) (fun _ _ _=>aO (i:=0) #[8,["group","lack","lacks"]] rfl bN)
     (fun _ _ _=>eF (aU zE (FK (Cy hr) (pv 2) (pv 0) #[6]) (pv 1) (aW _))) (fun _ _ _=>(pv 0)))
    (aC (dO (lK qCr qDt qDs fH (pv 5) (aA (dN (aA (fS cI D_fraction hr #[1] #[0] (aA (pv 7) (aA (pv 3) aB))) (aA (aY D_weighing_of hr #[1] #[0] (aA (pv 8) (aA (pv 1) aB))) aB))) aB)))
    (aF (aP (i:=6) nT.nd rfl bN (aY D_sifted hr #[1] #[0] (aA (pv 8) (aA (pv 1) aB)))))))))
   (aF (aT (dN (aA (pv 5) (aA (pv 6) aB)))))))))),?_⟩
  have d0:=cst.d0;have kl:ks.length<=32:=by have:=cst.cnt;lia
  have sd:Sm 6000 d:=cst.sd.mono (by lia);have sZ:∀i,Sm 300000 (Z i):=fun i=>(cst.sZ i).mono (by lia);have n64:n<=64:=by rw[hn];exact i8 m6
  have n2:2<=n:=by rw[hn];exact qBh (n:=2) (i:=1) #[1] m1
  refine⟨_,rfl,q,m,Z,d,ps,rfl,fl,d0,sd,fun L lo=>?_⟩;have L0:=lo.pos;have sL:Sm 6000 L:=sd.le (by have:=qEe d0 lo.dvd;lia);dsimp only[aX];refine⟨_,rfl,_,rfl,_,rfl,q,m,Z,d,L,ps,rfl,fl,by lia,d0,sd,sZ,lo,fun lt H1 tt hlt s1 hd1 htt stt=>?_⟩;obtain⟨tp,etp⟩:∃tp:Nat->Int,∀j,tp j=if j<m then tt j else 0:=⟨_,fun _=>rfl⟩;have stt':∀j,Sm 300000 (tp j):=fun j=>by
   rw[etp];split
   .rename_i hj;refine(sZ j).le ?_;have z:=htt j hj;obtain⟨rr,hrr⟩:=lo.dvd;have r0:rr≠0:=fun z=>by rw[z,qBu] at hrr;lia
    have:rr*tt j=Z j:=by
     have:L*(rr*tt j)=L*Z j:=by rw[hrr] at z;grind
     exact qFn (by lia) this
    rw[<- this,qDv];exact qLz _ (by lia)
   .exact Sm.zero
  refine⟨_,rfl,p,lt,m,n,tbl,tp,L,rfl,s1 _ _ hp,?_,m1,m6,hn,sL,stt',st,fun ld H2 ob hld s2 hd2=>?_⟩
  .rw[hd1];exact congrArg (fun l=>some (HO.lst l)) (dR fun j hj=>by rw[etp,if_pos hj])
  have htt':∀j,j<m->tp j*d=Z j*L:=fun j hj=>by rw[etp,if_pos hj];exact htt j hj
  have sc:=wU (tb:=tbl) htt';have s02:=s1.trans s2;dsimp only[aX];refine⟨by simp[qCc],fun lv hlv=>?_⟩;have u3:=aH.aG (o:=.lst []) hlv;have e3:upd H2 lv (.lst []) lv=_:=aD;generalize upd H2 lv (.lst [])=H3 at u3 e3|-;dsimp only[aX];refine⟨_,rfl,m,rfl,m6,fun H4 s4=>?_⟩;have eN:((2^m:Int)-1)=((n-1:Nat):Int):=by
   have:((2^m:Nat):Int)=2^m:=by exact_mod_cast rfl
   rw[<- this,<- hn];lia
  rw[eN];refine⟨kE,fun l5 hl5=>?_⟩;have u5:=aH.aG (o:=.lst (a9 [n-1])) hl5;have e5:upd H4 l5 (.lst (a9 [n-1])) l5=_:=aD;show aX _ _ _ (upd H4 l5 (.lst (a9 [n-1]))) _;generalize upd H4 l5 (.lst (a9 [n-1]))=H5 at u5 e5|-;dsimp only[aX];have s25:=u3.trans (s4.trans u5);have hd5:=s25 _ _ hd2;refine⟨_,rfl,ld,_,rfl,.inr ⟨ob,hd5⟩,fun l6 hl6=>?_⟩;rw[BV];have u6:=aH.aG (o:=.lst (((qAk (n-2)).map fun j=>oP m tbl tp L (j+1)).map V.int)) hl6;have e6:upd H5 l6 (.lst (((qAk (n-2)).map fun j=>oP m tbl tp L (j+1)).map V.int)) l6=_:=aD;generalize upd H5 l6 (.lst (((qAk (n-2)).map fun j=>oP m tbl tp L (j+1)).map V.int))=H6 at u6 e6|-;refine⟨l6,_,rfl,aS.of e6,by rw[qAa,qAu];lia,fun l7 ss hl7 ms up=>?_⟩;have u7:=aH.aG (o:=.lst (ss.map V.int)) hl7;have e7:upd H6 l7 (.lst (ss.map V.int)) l7=_:=aD;generalize upd H6 l7 (.lst (ss.map V.int))=H7 at u7 e7|-;have ls:BY m (oP m tbl tp L) ss:=⟨up,fun kk=>by
   rw[ms,qGi];constructor
   .rintro⟨j,hj,rfl⟩;have hj:=List.mem_range.mp hj;exact⟨j+1,⟨by lia,by lia⟩,rfl⟩
   .rintro⟨g,pg,rfl⟩;refine⟨g-1,List.mem_range.mpr (by have:=pg.1;have:=pg.2;lia),?_⟩;rw[show g-1+1=g by have:=pg.1;lia]⟩
  have ldd:=ls.back d0 L0 sc;have ssl:ss.length<=62:=by
   have z:=wV (up.imp fun h=>Int.ne_of_lt h) fun a ha=>(ms a).mp ha;rw[qAa,qAu] at z;lia
  exists l7,_,rfl,aS.of e7;have s27:=s25.trans (u6.trans u7);have h0v:H lv=none:=s02.free hlv;have n5:l5≠lv:=fun z=>by rw[z,s4 _ _ e3] at hl5;cases hl5
  have nd:ld≠lv:=fun z=>by rw[z] at hd2;rw[hd2] at hlv;cases hlv
  have n7:l7≠lv:=fun z=>by rw[z,u6 _ _ (u5 _ _ (s4 _ _ e3))] at hl7;cases hl7
  refine FX (xs:=ss.map V.int) (fun j σ' H'=>SameBut lv H7 H'/\aH H H'/\∃(es:List Addr) (tl:List Nat) (lt':Addr) (o7 o8:Option V),es.length=j/\BZ m (fun g=>tbl g*d-Cm.pt m bt Z g) d (ss.map fun s=>s*d/L) H' lv es tl/\H' lt'=some (.lst (a9 tl))/\σ'=[some (.ref p),some (.int (m:Int)),some (.ref q),some (.int L),some (.ref ld),some (.ref lv),some (.ref lt'),o7,o8]) ⟨(aH.refl _).but lv,s02.trans s27,[],[2^m-1],l5,_,_,rfl,⟨(u7 _ _ (u6 _ _ (u5 _ _ (s4 _ _ e3)))),qBn _,(fun i e z=>by cases z),fun _=>rfl,fun l z=>absurd rfl z⟩,by rw[u7 _ _ (u6 _ _ e5),hn],rfl⟩ (by rintro j σ' H' _ ⟨sb,_⟩;exact aS.of (sb _ _ n7 e7)) (fun j x σ' H8 hx hj z9=>?_) (fun σ' H8 z9=>?_)
  .obtain⟨sb,s8,es,tl,lt',o7,o8,el,qQ,ht,eσ⟩:=z9;subst eσ;rw[qAa] at hx hj;obtain⟨sv,hsv,rfl⟩:∃sv,ss[ss.length-1-j]?=some sv/\x = .int sv:=by
    rw[qAn] at hx;cases e:ss[ss.length-1-j]? with
    | none=>rw[e] at hx;cases hx
    | some sv=>rw[e] at hx;exact⟨sv,rfl,(Option.some.inj hx).symm⟩
   dsimp only[aX];exists _,rfl,lt',_,rfl,.inl (aS.of ht),_,rfl,rfl,_,rfl;rw[bI];refine cK (fun h1=>?_) (fun h1=>?_)
   .have full:tl.length=m:=by
     have z:=V.int.inj (of_decide_eq_true h1);lia
    refine⟨_,rfl,_,rfl,qE,fun R hR=>?_⟩;have u9:=aH.aG (o:=.tup [.ref lv,.ref lt']) hR;exact k R lv lt' _ es _ tl (s8.trans u9) h0v aD ldd (qQ.same u9) (u9 _ _ ht) full
   .have hd8:=sb _ _ nd (u7 _ _ (u6 _ _ hd5));exists _,rfl,ld,ob,_,rfl,hd8;refine yH (fun i ys H'=>ys=a9 (Fd (oP m tbl tp L) sv i)) (fun i ys H1 H2 st h=>h) rfl hd8 (by delta k8;rw[qAa,qAu,qCc];lia) (fun i kv H9 kk kk0 ys s9 hkv iv g1 g2=>?_) fun lg ys H9 hlg s9 iv hd9=>?_
    .obtain⟨hi,rfl⟩:=GL hkv;exists _,rfl,_,rfl,ld,_,rfl,.inl ⟨_,_,.inr ⟨ob,s9 _ _ hd8⟩,rfl,(EM hi).symm⟩,_,rfl,_,_,rfl,rfl,_,rfl;refine cK (fun z=>?_) (fun z=>?_)
     .refine⟨_,rfl,g1 _ _ (.refl _) ?_⟩;rw[qC,if_pos (of_decide_eq_true z),iv];delta a9;rw[qAr];rfl
     .refine g2 _ (.refl _) ?_;rw[qC,if_neg fun y=>z (decide_eq_true y)];exact iv
    .obtain⟨g0,pg0,eg0⟩:=(ls.2 sv).mp (qAx hsv);have hbal:=LR m6 cst fe pg0 (qDi _);have hsd:sv*d=(tbl g0*d-Cm.pt m bt Z g0)*L:=by rw[<- eg0];exact sc g0
     have eG:Fd (oP m tbl tp L) sv (n-2)=iO m (fun g=>tbl g*d-Cm.pt m bt Z g) (tbl g0*d-Cm.pt m bt Z g0):=by
      have z:Fd (oP m tbl tp L) sv (n-2)=iO m (oP m tbl tp L) sv:=by rw[hn];rfl
      rw[z];exact r8 d0 L0 sc hsd
     have eK:(k8 m tbl tp L (n-2)).length=n-2:=by delta k8;rw[qAa,qAu]
     rw[eK,eG] at iv;subst iv;have hat:(ss.map fun s=>s*d/L)[(ss.map fun s=>s*d/L).length-1-es.length]?=some (tbl g0*d-Cm.pt m bt Z g0):=by
      rw[qAa,qAn,el,hsv];show some (sv*d/L)=_;rw[hsd,qNj _ (by lia)]
     have efr:gC sv L=gC (tbl g0*d-Cm.pt m bt Z g0) d:=jY L0 d0 hsd;have gm:g0∈iO m (fun g=>tbl g*d-Cm.pt m bt Z g) (tbl g0*d-Cm.pt m bt Z g0):=iP.mpr ⟨pg0,qDi _⟩;have gl:=uA m6 (fun g=>tbl g*d-Cm.pt m bt Z g) (tbl g0*d-Cm.pt m bt Z g0);have gP:∀g,g∈iO m (fun g=>tbl g*d-Cm.pt m bt Z g) (tbl g0*d-Cm.pt m bt Z g0)->Pr m g:=fun g hg=>(iP.mp hg).1;have lvs9:=qQ.same s9;generalize hGs:iO m (fun g=>tbl g*d-Cm.pt m bt Z g) (tbl g0*d-Cm.pt m bt Z g0)=gs at *;exists _,rfl,.inl ⟨rfl,_,aS.of lvs9.hl⟩,_,rfl,_,rfl;dsimp only[iR,qCj,qCl];refine pR (by lia) (sL.mono #[1]) fun fa hfa=>?_;have u10:=aH.aG (o:=gC sv L) hfa;have e10:upd H9 fa (gC sv L) fa=some (gC (tbl g0*d-Cm.pt m bt Z g0) d):=by rw[aD,efr]
     generalize upd H9 fa (gC sv L)=H10 at u10 e10|-;refine⟨_,rfl,_,rfl,lg,m,gs,rfl,u10 _ _ hd9,by lia,m6,by lia,qGc gm,fun g hg=>⟨(gP g hg).1,by have:=(gP g hg).2;lia⟩,hbal,fun wa H11 ys dx X hwa s11 hd11 rw11 dx0 sdx sX x0 xn hsum=>?_⟩;refine⟨qE,fun te hte=>?_⟩;have u12:=aH.aG (o:=.tup [.ref fa,.ref wa]) hte;have e12:upd H11 te (.tup [.ref fa,.ref wa]) te=_:=aD;generalize upd H11 te (.tup [.ref fa,.ref wa])=H12 at u12 e12|-;have s912:=u10.trans (s11.trans u12);have lvs12:=lvs9.same s912;have nwa:wa≠lv:=fun z=>by rw[z,u10 _ _ lvs9.hl] at hwa;cases hwa
     have ele:es.length<(ss.map fun s=>s*d/L).length:=by rw[qAa];lia
     have lve:GK m (fun g=>tbl g*d-Cm.pt m bt Z g) d H12 lv (tbl g0*d-Cm.pt m bt Z g0) te:=⟨fa,wa,ys,dx,X,e12,u12 _ _ (s11 _ _ e10),u12 _ _ hd11,nwa,by rw[hGs];exact rw11.t u12.t,dx0,sdx,sX,x0,xn,by rw[hGs];exact hsum⟩;refine⟨lv,_,_,rfl,rfl,lvs12.hl,by rw[qAa];exact qBc ele (by rw[qAa,qCc];lia),?_⟩;have lvs13:=lvs12.more hat ele lve;rw[hGs] at lvs13;have nlg:lg≠lv:=fun z=>by rw[z,qQ.hl] at hlg;cases hlg
     refine⟨_,rfl,_,rfl,lg,m,gs,rfl,?_,by lia,m6,by lia,fun g hg=>by have:=(gP g hg).2;lia,fun lt2 H14 hlt2 s14 hd14=>?_⟩
     .show upd _ _ _ lg=_;rw[aR nlg];exact s912 _ _ hd9
     refine⟨(((sb.then s9).then s912).nY _).then s14,((s8.trans (s9.trans s912)).upd_ne' h0v).trans s14,es++[te],p4 m gs,lt2,_,_,by rw[qAj,el];rfl,lvs13.same s14,hd14,rfl⟩
  .obtain⟨sb,s8,es,tl,lt',o7,o8,el,qQ,ht,eσ⟩:=z9;subst eσ;rw[qAa] at el;have full:tl.length=m:=by
    rcases qAm 1 m with z | z
    .have ne:ss≠[]:=fun e=>by
      have:=(ls.2 (oP m tbl tp L (2^0))).mpr ⟨2^0,uB z (by lia),rfl⟩;rw[e] at this;cases this
     have sl:0<ss.length:=List.length_pos_iff.mpr ne;obtain⟨l0,hl0⟩:∃l0,(ss.map fun s=>s*d/L)[0]?=some l0:=⟨_,qAc (by rw[qAa];exact sl)⟩;have tle:=qQ.t1 l0 (fun e=>by rw[e] at el;simp at el;lia) (by rw[qAa,el,qMj];exact hl0);rw[tle];refine EK m6 fun p' hp'=>iP.mpr ⟨uB z hp',?_⟩;have hmem:=(ldd.2 _).mpr ⟨2^p',uB z hp',rfl⟩;obtain⟨i,hi,ei⟩:=qCv hmem;refine qKc ?_ (qGl ei);have hl0':=(List.getElem?_eq_some_iff.mp hl0);obtain⟨h0,e0⟩:=hl0';rw[<- e0];rcases qEx i with y | y
     .subst y;exact qDi _
     .exact qCf (List.pairwise_iff_getElem.mp ldd.1 0 i h0 hi y)
    .have e1:ss=[]:=by
      cases e:ss with
      | nil=>rfl
      | cons a b =>
       obtain⟨g,pg,_⟩:=(ls.2 a).mp (by rw[e];exact qCi ..);have:=pg.1;have:=pg.2;rw[show m=1 by lia] at this;lia
     have ee:es=[]:=qGn (by rw[el,e1];rfl);rw[qQ.t0 ee];show 1=m;lia
   refine⟨_,rfl,_,rfl,qE,fun R hR=>?_⟩;have u9:=aH.aG (o:=.tup [.ref lv,.ref lt']) hR;exact k R lv lt' _ es _ tl (s8.trans u9) h0v aD ldd (qQ.same u9) (u9 _ _ ht) full
section
variable {lo:Int}{n:Nat}{σ0:St}{H1:Hp}{i0:Nat}{c:TT}{te:TE}{Q:Addr->Hp->Prop}
theorem BW(Iv:Addr->Nat->List V->Hp->Prop)(mono:∀D i ys xs H o,H D=some (.lst xs)->Iv D i ys H->Iv D i ys (upd H D (.lst o)))(h0:∀D H,Iv D 0 [] H)(hn:n<=qAi)
  (step:∀(D:Addr) (i:Nat) (H2:Hp) (k:VK) (k0:Hp->Prop) (ys:List V),aH H1 H2->i<n->H2 D=some (.lst ys)->Iv D i ys H2->(∀y H3,aH H2 H3->Iv D (i+1) (ys++[y]) H3->k y H3)->(∀H3,aH H2 H3->Iv D (i+1) ys H3->k0 H3) ->
   c (σ0.set i0 (some (.int (lo+(i:Int))))) H2 fun b H4=>if b=true then te (σ0.set i0 (some (.int (lo+(i:Int))))) H4 k else k0 H4)
  (h:∀D ys H2,H1 D=none->aH H1 H2->Iv D n ys H2->H2 D=some (.lst ys)->Q D H2) :
  ∀D,H1 D=none->∃W:Nat->Nat->St->Hp->Prop,(∃m,W 0 m σ0 (upd H1 D (.lst [])))/\∀i m σ1 H2,W i m σ1 H2 ->
   ((qG lo n).stop i H2/\Q D H2)\/((qG lo n).go i H2/\∃N:St->Hp->Prop,(∀σ' H',N σ' H'->∃m',m'<m/\W (i+1) m' σ' H') /\
    ∀x H',(qG lo n).qF i H2 x H'->aX i0 x σ1 H' fun σ2 H3=>c σ2 H3 fun b H4=>if b=true then te σ2 H4 fun y H5=>∃xs,H5 D=some (.lst xs)/\xs.length<qAi/\N σ2 (upd H5 D (.lst (xs++[y]))) else N σ2 H4):=by
 intro D hD;exists fun i m σ1 H2=>σ1.set i0 none=σ0.set i0 none/\aH H1 H2/\(∃ys,ys.length<=i/\Iv D i ys H2/\H2 D=some (.lst ys))/\i<=n/\m=n-i,⟨n,rfl,.aG hD,⟨[],qAg _,h0 _ _,aD⟩,qBn _,rfl⟩;rintro i m σ1 H2 ⟨hσ,hs,⟨ys,hy,hR,hd⟩,hi,rfl⟩;have hset:∀v:Option V,σ1.set i0 v=σ0.set i0 v:=fun v=>by
  have z:=congrArg (fun l=>qHv l i0 v) hσ;simpa using z
 rcases qAm i n with hlt | hge
 .right
  refine⟨hlt,fun σ' H'=>σ'.set i0 none=σ0.set i0 none/\aH H1 H'/\∃ys,ys.length<=i+1/\Iv D (i+1) ys H'/\H' D=some (.lst ys),(by rintro σ' H' ⟨a,b,c⟩;exact ⟨n-(i+1),by omega,a,b,c,hlt,rfl⟩),?_⟩;rintro x H' ⟨rfl,rfl⟩;show c (σ1.set i0 (some (.int (lo+(i:Int))))) _ _;rw[hset];refine step D i _ _ _ ys hs hlt hd hR (fun y H3 hs3 hR3=>⟨_,hs3 _ _ hd,by omega,?_,(hs.trans hs3).upd_ne' hD,ys++[y],by rw[qAj];show _+1<=_;omega,mono _ _ _ _ _ _ (hs3 _ _ hd) hR3,aD⟩) fun H3 hs3 hR3=>⟨?_,hs.trans hs3,ys,by omega,hR3,hs3 _ _ hd⟩
  .simp
  .simp
 .left
  obtain rfl:i=n:=qDc hi hge;exact⟨qAg _,h D ys _ hD hs hR hd⟩
end
def LU(m:Nat)(tl:List Nat)(H:Hp)(D:Addr)(h:Nat)(e:Addr):Prop:=∃(ys:List V) (d:Int) (F:Nat->Int),H e=some (.lst ys)/\e≠D/\eB H d ys (j0 tl F tl.length)/\0<d/\Sm 6000 d/\(∀j,Sm 310000 (F j))/\∀i,i<m->(Wg.sm tl.length fun j=>bt (gN tl j) i*F j)=bt (2^h) i*d
theorem LU.same{m:Nat}{tl:List Nat}{H H':Hp}{D:Addr}{h:Nat}{e:Addr}(k:LU m tl H D h e)(s:aH H H'):LU m tl H' D h e:=by
 obtain⟨ys,d,F,a,b,c,r⟩:=k;exact⟨ys,d,F,s _ _ a,b,c.t s.t,r⟩
theorem LU.upd{m:Nat}{tl:List Nat}{H:Hp}{D:Addr}{h:Nat}{e:Addr}{xs o:List V}(k:LU m tl H D h e)(hD:H D=some (.lst xs)):LU m tl (upd H D (.lst o)) D h e:=by
 obtain⟨ys,d,F,a,b,c,r⟩:=k;exact⟨ys,d,F,by rw[aR b];exact a,b,c.t (.lst hD),r⟩
structure Qe (m k:Nat) (tl:List Nat) (H:Hp) (D:Addr) (es:List Addr):Prop where
 len:es.length=k
 at_:∀(j:Nat) (e:Addr),es[j]?=some e->LU m tl H D j e
structure nU (m:Nat) (tb:Nat->Int) (H H':Hp) (R lp lv lk:Addr) (ps es kes:List Addr) (Z:Nat->Int) (d ev:Int) (ks:List Nat) (ds:List Int) (tl:List Nat):Prop where
 tup:H' R=some (.tup [.ref lp,.ref lv,.ref lk])
 np:H lp=none
 nv:H lv=none
 nk:H lk=none
 fl:kC m Z d H' lp ps
 cst:mP m tb ks Z d ev
 fe:cY m ks=[]
 GN:BY m (fun g=>tb g*d-Cm.pt m bt Z g) ds
 qQ:BZ m (fun g=>tb g*d-Cm.pt m bt Z g) d ds H' lv es tl
 Ox:tl.length=m
 hk:H' lk=some (.lst (kes.map V.ref))
 Qf:Qe m m tl H' lk kes
theorem nU.same{m:Nat}{tb:Nat->Int}{H0 H H':Hp}{R lp lv lk:Addr}{ps es kes:List Addr}{Z:Nat->Int}{d ev:Int}{ks:List Nat}{ds:List Int}{tl:List Nat}(h:nU m tb H0 H R lp lv lk ps es kes Z d ev ks ds tl)(s:aH H H'):nU m tb H0 H' R lp lv lk ps es kes Z d ev ks ds tl :=
 ⟨s _ _ h.tup,h.np,h.nv,h.nk,h.fl.same s,h.cst,h.fe,h.GN,h.qQ.same s,h.Ox,s _ _ h.hk,⟨h.Qf.len,fun j e z=>(h.Qf.at_ j e z).same s⟩⟩
theorem BZ.LV{m:Nat}{tb:Nat->Int}{Z:Nat->Int}{d:Int}{ds:List Int}{H:Hp}{D:Addr}{es:List Addr}{tl:List Nat}(m1:1<=m)(m6:m<=6)(GN:BY m (fun g=>tb g*d-Cm.pt m bt Z g) ds)(h:BZ m (fun g=>tb g*d-Cm.pt m bt Z g) d ds H D es tl):Cm.i5 m (gE tl)/\∀g,g∈tl->g<64:=by
 have p64:=i8 m6;have:=qHa m;by_cases e:es=[]
 .rw[h.t0 e];refine⟨?_,fun g hg=>by rw[List.mem_singleton.mp hg];omega⟩;refine mJ (ks:=[]) (fun r hr=>by cases hr) fun z=>?_;have z:=gY.mp z 0 (by omega);have z:bt (2^m-1) 0=0:=z;rw[mG ⟨m,by omega⟩ ⟨0,by omega⟩ (by show 0<m;omega)] at z;cases z
 .have hl:=List.length_pos_iff.mpr e;have le:=h.le;obtain⟨l,hl⟩:∃l,ds[ds.length-es.length]?=some l:=⟨_,qAc (by omega)⟩;rw[h.t1 l e hl];refine⟨kD m _,fun g hg=>?_⟩;have:=(iP.mp ((t8 m _).subset hg)).1.2;omega
def EN(K:qAd)(NT:Addr):Sp:=fun vs H Q E=>∃(p:Addr) (xs:List V),vs=[.ref p]/\H p=some (.lst xs)/\(∀v∈xs,Pl K H v)/\xs.length<=1000/\(jX xs=false->∀H',aH H H'->E (.ref NT) none H') /\
 (jX xs=true->∃(m n:Nat) (tb:Nat->Int),1<=m/\m<=6/\n=2^m/\xs=bF n tb/\(∀j,Sm 80000 (tb j))/\∀(R lp lv lk:Addr) (H':Hp) (ps es kes:List Addr) (Z:Nat->Int) (d ev:Int) (ks:List Nat) (ds:List Int) (tl:List Nat),aH H H'->nU m tb H H' R lp lv lk ps es kes Z d ev ks ds tl->Q (.ref R) H')
theorem Az:aV ["table","many","shares","told"] ["table"] (aI Kn):=#[1,2]
theorem LW{f1 f2 f3 f4:Addr}{fd1 fd2 fd3 fd4:qCo}(t:Tx K mg "calm" Kn ["table"] f fd)(T:#[4])(D_hands_in:#[1,1] 3 "hands_in" ["table"] (HE K NT) f1 fd1)(D_calm_shares:#[5] 7 "calm_shares" ["table","many"] HR f2 fd2)(D_levels_of:#[5] 7 "levels_of" ["table","many","shares"] (HS K) f3 fd3)(D_key_of:#[5] 6 "key_of" ["hand","groups","many"] HM f4 fd4):
  #[1,1] 8 "calm" ["table"] (EN K NT) f fd:=by
 refine t.Jc Az (fun vs H Q E h=>?_) (fun cdv _A outer s H vs Q E hr h=>?_)
 .obtain⟨p,xs,rfl,_⟩:=h;rfl
 .obtain⟨p,xs,rfl,hp,pl,hl,k0,k⟩:=h;refine⟨_,(aC (aP (i:=1) Az.nd rfl #[3] (fS dF.toPass D_hands_in hr #[1] #[0] (aA (pv 0) aB)))
   (aC (aP (i:=2) Az.nd rfl bN (aY D_calm_shares hr #[1] #[0] (aA (pv 0) (aA (pv 1) aB))))
   (aC (aP (i:=3) Az.nd rfl #[3] (aY D_levels_of hr #[1] #[0] (aA (pv 0) (aA (pv 1) (aA (pv 2) aB)))))
   (aF (aT (dN (aA (pv 2) (aA (aQ bB (pv 3) aE #[6]) (aA (bM (NB:=["hand","many","told"]) (pick:=[none,some 1,some 3]) (bG #[7] (by exact(And.intro rfl (And.intro rfl trivial))) rfl #[2] #[2] #[0] #[0]) rfl
     (bY #[0] T.bW (aA (pv 1) aB)) (fun _ _ _=>aO (i:=0) #[8,["hand","many","told"]] rfl bN)
     (fun _ _ _=>bJ) (fun _ _ _=>(aY D_key_of hr #[1] #[0] (aA (pv 0) (aA (aQ (fC K) (pv 2) aE #[6]) (aA (pv 1) aB)))))) aB))))))))),?_⟩
  refine⟨_,rfl,p,xs,rfl,hp,pl,hl,k0,fun m' m1' m6' hm' yes H1 s1=>?_⟩;obtain⟨m,n,tbl,m1,m6,hn,rfl,st,k⟩:=k yes;rw[aL,hn] at hm';obtain rfl:m=m':=Gw ⟨m,by lia⟩ ⟨m',by lia⟩ hm';dsimp only[aX];have hp1:=s1 _ _ hp;refine⟨_,rfl,_,rfl,p,m,n,tbl,rfl,hp1,m1,m6,hn,st,fun lp H2 ps ks Z d ev hlp s2 fl cst fe=>?_⟩;dsimp only[aX];refine⟨_,rfl,_,rfl,_,rfl,p,lp,m,n,tbl,Z,d,ev,ks,ps,rfl,s2 _ _ hp1,hn,m1,m6,st,cst,fe,fl,fun R lv lt H3 es ds tl s3 hlv hR GN qQ ht Ox=>?_⟩;dsimp only[aX];obtain⟨ind,t64⟩:=qQ.LV m1 m6 GN;have a0:eV [V.ref lv,V.ref lt] 0=some (.ref lv):=rfl;have a1:eV [V.ref lv,V.ref lt] 1=some (.ref lt):=rfl;refine⟨_,rfl,_,rfl,R,_,_,_,rfl,rfl,cE.of hR,a0,_,rfl,m,rfl,by lia,by lia,?_⟩;refine BW (n:=m) (fun D i ys H'=>∃kes:List Addr,ys=kes.map V.ref/\Qe m i tl H' D kes) ?_ (fun D H=>⟨[],rfl,rfl,fun j e z=>by cases z⟩) (qAo (aK (by lia))) (fun D i H4 kk kk0 ys s4 hi hD iv g1 g2=>?_) fun lk ys H4 hlk s4 iv hd4=>?_
  .rintro D i ys xs H o hD ⟨kes,e,ky⟩;exact⟨kes,e,ky.len,fun j e z=>(ky.at_ j e z).upd hD⟩
  .obtain⟨kes,rfl,ky⟩:=iv;refine⟨_,rfl,_,rfl,R,_,_,_,rfl,rfl,cE.of (s4 _ _ hR),a1,_,rfl,lt,i,m,tl,by rw[qCe];rfl,s4 _ _ ht,hi,m6,Ox,t64,ind,fun D2 H5 ys2 d2 F hD2 s5 hd5 rw5 d20 sd2 sF hs=>?_⟩;have ne:D2≠D:=fun z=>by rw[z,hD] at hD2;cases hD2
   refine g1 _ _ s5 ⟨kes++[D2],by rw[qAr];rfl,by rw[qAj,ky.len];rfl,fun j e z=>?_⟩;rcases qAm j kes.length with q | q
   .rw[qAy q] at z;exact(ky.at_ j e z).same s5
   .rw[qAz q] at z;have hj:j-kes.length=0:=by
     have:=(List.getElem?_eq_some_iff.mp z).1;rw[qBf] at this;lia
    rw[hj] at z;obtain rfl:=Option.some.inj z;rw[show j=i by have:=ky.len;lia];exact⟨ys2,d2,F,hd5,ne,rw5,d20,sd2,sF,hs⟩
  .obtain⟨kes,rfl,ky⟩:=iv;refine⟨OF,fun R2 hR2=>?_⟩;have u5:=aH.aG (o:=.tup [.ref lp,.ref lv,.ref lk]) hR2;have s45:=s4.trans u5;exact k R2 lp lv lk _ ps es kes Z d ev ks ds tl (s1.trans (s2.trans (s3.trans s45))) ⟨aD,s1.free hlp,(s1.trans s2).free hlv,(s1.trans (s2.trans s3)).free hlk,fl.same (s3.trans s45),cst,fe,GN,qQ.same s45,Ox,u5 _ _ hd4,ky.len,fun j e z=>(ky.at_ j e z).same u5⟩
theorem EO(m6:m<=6)(hp:p<m)(y:Nat->Int):Cm.pt m bt y (2^p)=y p:=by
 delta Cm.pt;rw[Wg.fX hp fun i hi ne=>by rw[t9 ⟨p,by lia⟩ ⟨i,by lia⟩];show(if i=p then (1:Int) else 0)*y i=0;rw[if_neg ne,qBi]];rw[t9 ⟨p,by lia⟩ ⟨p,by lia⟩];show(if p=p then (1:Int) else 0)*y p=y p;rw[if_pos rfl,qCm]
theorem mP.tl{m:Nat}{tb:Nat->Int}{ks:List Nat}{Z:Nat->Int}{d ev:Int}(h:mP m tb ks Z d ev)(fr:cY m ks=[]):∀g,Pr m g->Cm.Tl m bt ks g:=fun g pg=>by
 cases q:iI m ks g with
 | true=>exact mI h.ind q
 | false =>
  have:=dS.mpr ⟨pg,q⟩;rw[fr] at this;cases this
theorem mP.word{m:Nat}{tb:Nat->Int}{ks:List Nat}{Z:Nat->Int}{d ev:Int}(h:mP m tb ks Z d ev)(fr:cY m ks=[]){c l:Int}(c0:0<c){y:Nat->Int}(yN:Cm.pt m bt y (2^m-1)<=0)(y0:∀g,Pr m g->l<=(tb g*d-Cm.pt m bt Z g)*c->0<=Cm.pt m bt y g){g:Nat}(pg:Pr m g)(lg:l<=(tb g*d-Cm.pt m bt Z g)*c):Cm.pt m bt y g=0 :=
 (h.Qb (fun g=>l<=(tb g*d-Cm.pt m bt Z g)*c) (fun g h _ _ _ _ a b=>qKc a (qDd b (qCf c0))) y yN (fun g pg _ sg=>y0 g pg sg) g pg (h.tl fr g pg) lg).2
theorem LX(m1:1<=m)(m6:m<=6){y:Nat->Int}(yN:Cm.pt m bt y (2^m-1)=0)(h:∀g,Pr m g->Cm.pt m bt y g=0):∀i,i<m->y i=0:=fun i hi=>by
 rcases qAm 1 m with z | z
 .have:=h _ (uB z hi);rw[EO m6 hi] at this;exact this
 .obtain rfl:m=1:=by lia
  obtain rfl:i=0:=by lia
  have:=EO m6 hi y;rw[show(2:Nat)^0=2^1-1 from rfl,yN] at this;exact this.symm
theorem uC(m:Nat)(y z:Nat->Int)(a b:Int)(g:Nat):Cm.pt m bt (fun i=>z i*a-y i*b) g=Cm.pt m bt z g*a-Cm.pt m bt y g*b:=by
 have e:Cm.pt m bt (fun i=>z i*a-y i*b) g=Wg.sm m (fun i=>a*(bt g i*z i) + -b*(bt g i*y i)):=Wg.bC fun i _=>by grind
 rw[e,Wg.fO,Wg.bT,Wg.bT];delta Cm.pt;grind
theorem mP.uniq{m:Nat}{tb:Nat->Int}{ks ks':List Nat}{Z Z':Nat->Int}{d d' ev ev':Int}(m1:1<=m)(m6:m<=6)(h:mP m tb ks Z d ev)(fr:cY m ks=[])(h':mP m tb ks' Z' d' ev')(fr':cY m ks'=[]):∀i,i<m->Z i*d'=Z' i*d:=by
 have d0:=h.d0;have d0':=h'.d0;have yN:Cm.pt m bt (fun i=>Z' i*d-Z i*d') (2^m-1)=0:=by rw[uC,h.whole,h'.whole];grind
 have key:=Cm.uniq (all:=j3 m) (a:=fun g=>(tb g*d-Cm.pt m bt Z g)*d') (b:=fun g=>(tb g*d'-Cm.pt m bt Z' g)*d) (c:=fun g=>Cm.pt m bt (fun i=>Z' i*d-Z i*d') g) (fun g _=>by rw[uC];grind)
  (fun l hl g hg lg=>h.word fr d0' (qGl yN) (fun g pg z=>hl g (eY.mpr pg) z) (eY.mp hg) lg)
  (fun l hl g hg lg=>by
   have neg:∀g,Cm.pt m bt (fun i=>Z i*d'-Z' i*d) g=-Cm.pt m bt (fun i=>Z' i*d-Z i*d') g:=fun g=>by rw[uC,uC];lia
   have:=h'.word fr' d0 (y:=fun i=>Z i*d'-Z' i*d) (by rw[neg,yN];exact qDi _) (fun g pg z=>by rw[neg];have:=hl g (eY.mpr pg) z;lia) (eY.mp hg) lg;rw[neg] at this;lia)
 intro i hi;have:=LX m1 m6 yN (fun g pg=>key g (eY.mpr pg)) i hi;lia
theorem Oy:aV ["_law_found"] ["_law_found"] (aI Kr):=#[1,2]
theorem LY(t:Tx K mg "_law_whole" Kr ["_law_found"] f fd)(T:#[4]):#[5] 1 "_law_whole" ["_law_found"] (mB K) f fd:=by
 refine t.gO Oy (by rintro _ _ _ _⟨v,rfl,_⟩;rfl) fun _ _ _ _ H vs Q E hr h=>?_;obtain⟨v,rfl,pl,k⟩:=h;obtain⟨Ty,ty,kd⟩:=pl.ex;refine⟨_,aF (aT (kU (aJ cN #[0] T.eX dY (aA (pv 0) (aA (cV (v:=.ty "int") #[0] T.kQ mX rfl) aB)))
  (jK (Cb (aJ cN #[0] T.eX dY (aA (pv 0) (aA (cV (v:=.ty "bool") #[0] T.nG zN rfl) aB))))))),?_⟩
 exists _,rfl,v,.ty "int",_,_,_,rfl,rfl,.of ty,kd.Np K,_,rfl;refine cK (fun h1=>?_) (fun h1=>?_)
 .exists _,rfl,v,.ty "bool",_,_,_,rfl,rfl,.of ty,kd.Hd K,_,rfl;have e:(!(Ty == "bool"))=kX v:=by
   rw[Pl.kX ty];cases kd <;> first | rfl | (exact absurd h1 #[1])
  rw[e];exact k
 .have e:false=kX v:=by
   rw[Pl.kX ty];cases kd <;> first | rfl | (exact absurd rfl h1)
  rw[e];exact k
theorem HU:aV ["_law_one","_law_other"] ["_law_one","_law_other"] (aI Ks):=#[1,2]
theorem GO(a:Int){b:Int}:qBs b (a%b)=qBs a b:=by
 have z:=Int.gcd_mul_right_add_left b (a%b) (a/b);rw[qCt,Int.mul_ediv_add_emod] at z;rw[qMq b,z]
def ER:Sp:=fun vs H Q _=>∃(a:Int) (b:Int),vs=[.int a,.int b]/\0<=b/\Q (.int (qBs a b:Int)) H
theorem LZ(t:Tx K mg "_law_divisor" Ks ["_law_one","_law_other"] f fd)(T:#[4]):#[5] 1 "_law_divisor" ["_law_one","_law_other"] ER f fd:=by
 refine t.gO HU (by rintro _ _ _ _⟨a,b,rfl,_⟩;rfl) fun _ _ _ _ H vs Q E hr h=>?_;obtain⟨a,b,rfl,hb,k⟩:=h;refine⟨_,(aC (iV #[9] (aU fI (pv 1) aE (aW _))
   (aF (IG (i:=0) (j:=1) rfl HU.nd rfl rfl #[1] rfl rfl (aA (pv 1) (aA (aM cH (pv 0) (pv 1)) aB)) #[0])))
  (aF (aT (aJ oU #[0] T.pN xT (aA (pv 0) aB))))),?_⟩
 refine⟨fun m σ H2=>H2=H/\∃(x:Int) (r:Nat),m=r/\σ=[some (.int x),some (.int (r:Int))]/\qBs x r=qBs a b,⟨b.toNat,rfl,a,b.toNat,rfl,by rw[qCx hb];rfl,by rw[qCx hb]⟩,?_⟩;rintro m σ H2 ⟨rfl,x,r,rfl,rfl,hg⟩;exists _,rfl,rfl,_,rfl;refine cK (fun h1=>?_) (fun h1=>?_)
 .have hr0:=pO h1;refine⟨fun σ' H'=>H'=H2/\∃(x':Int) (r':Nat),r'<m/\σ'=[some (.int x'),some (.int (r':Int))]/\qBs x' r'=qBs a b,(by rintro σ' H' ⟨e,x',r',h1,h2,h3⟩;exact ⟨r',h1,e,x',r',rfl,h2,h3⟩),?_⟩;exists _,rfl,_,rfl,_,rfl,_,_,rfl,rfl,(by show(0:Int)<(m:Int);lia),_,_,rfl,rfl,(m:Int),(x%(m:Int)).toNat,?_,?_
  .have:=qEi x (show(0:Int)<m by lia);lia
  .rw[qCx (qEq _ (by lia))];rfl
  .rw[qCx (qEq _ (by lia)),GO x];exact hg
 .have hr0:=Ad h1;subst hr0;exists _,rfl,x,rfl;have e:qBs x ((0:Nat):Int)=x.natAbs:=by show qBs x 0=_;rw[Int.gcd_zero_right]
  rw[e] at hg;rw[abs_eq,hg];exact k
def wW:Sp:=fun vs H Q _=>∃(p:Addr) (X d:Int),vs=[.ref p]/\H p=some (gC X d)/\0<d/\Q (.bl true) H
theorem Oz:aV ["_law_found"] ["_law_found"] (aI Kt):=#[1,2]
theorem Ma(t:Tx K mg "_law_fraction" Kt ["_law_found"] f fd)(T:#[4])(D_law_whole:#[5] 1 "_law_whole" ["_law_found"] (mB K) f1 fd1)(D_law_divisor:#[5] 1 "_law_divisor" ["_law_one","_law_other"] ER f2 fd2):
  #[5] 2 "_law_fraction" ["_law_found"] wW f fd:=by
 refine t.gO Oz (by rintro _ _ _ _⟨p,X,d,rfl,_⟩;rfl) fun _ _ _ _ H vs Q E hr h=>?_;obtain⟨p,X,d,rfl,hp,d0,k⟩:=h;refine⟨_,(aC (bO (PW.pt (pw_or (bZ (bX (aJ cN #[0] T.eX dY (aA (pv 0) (aA (cV (v:=.ty "tuple") #[0] T.gU jQ rfl) aB))))) (pw_or1 (aU fI (aJ aN #[0] T.bV bH (aA (pv 0) aB)) aE (aW _))))) (aF (aT fL)) aZ)
  (aC (bO (PW.pt (pw_or (bZ (bX (aY D_law_whole hr #[1] #[0] (aA (aQ bB (pv 0) aE #[6]) aB)))) (pw_or (bZ (bX (aY D_law_whole hr #[1] #[0] (aA (aQ bB (pv 0) aE #[6]) aB)))) (pw_or1 (aU jH (aQ bB (pv 0) aE #[6]) aE (aW _)))))) (aF (aT fL)) aZ)
  (aF (aT (eD dE (aY D_law_divisor hr #[1] #[0] (aA (aQ bB (pv 0) aE #[6]) (aA (aQ bB (pv 0) aE #[6]) aB))) aE (aW _)))))),?_⟩
 obtain⟨_,y1,g1,_⟩:=dD (X:=X) d0;exists _,rfl,.ref p,.ty "tuple",_,_,_,rfl,rfl,.of (.tup hp),Kd.tup.pA K,_,rfl;refine cM ⟨_,rfl,p,_,rfl,.inr (cE.of hp),rfl,_,rfl,?_⟩;refine iZ rfl ?_;exists _,rfl,p,_,_,_,rfl,rfl,cE.of hp,rfl,_,rfl,.int _,_,rfl;refine cM ⟨_,rfl,p,_,_,_,rfl,rfl,cE.of hp,rfl,_,rfl,.int _,_,rfl,?_⟩;refine cM ⟨_,rfl,p,_,_,_,rfl,rfl,cE.of hp,rfl,_,_,rfl,rfl,_,rfl,?_⟩;rw[decide_eq_false (show ¬(tb X d<1) by lia)];refine cM ?_;exists _,rfl,p,_,_,_,rfl,rfl,cE.of hp,rfl,_,rfl,p,_,_,_,rfl,rfl,cE.of hp,rfl,_,_,rfl,(show 0<=tb X d by lia),rfl;show Q (V.bl (decide (V.int ((qBs (ta X d) (tb X d):Nat):Int)=V.int 1))) H;rw[g1,show decide (V.int ((1:Nat):Int)=V.int 1)=true from by decide];exact k
def HV:Sp:=fun vs H Q _=>∃(l:Addr) (n:Nat) (X:Nat->Int) (d:Int) (ws:List Addr),vs=[.ref l,.int (n:Int)]/\kC n X d H l ws/\0<d/\Q (.bl true) H
theorem HW:aV ["_law_found","_law_many","_law_one"] ["_law_found","_law_many"] (aI Ku):=#[1,2]
theorem Mb(t:Tx K mg "_law_fractions" Ku ["_law_found","_law_many"] f fd)(T:#[4])(D_law_fraction:#[5] 2 "_law_fraction" ["_law_found"] wW f1 fd1):
  #[5] 3 "_law_fractions" ["_law_found","_law_many"] HV f fd:=by
 refine t.gO HW (by rintro _ _ _ _⟨l,n,X,d,ws,rfl,_⟩;rfl) fun _ _ _ _ H vs Q E hr h=>?_;obtain⟨l,n,X,d,ws,rfl,fl,d0,k⟩:=h;refine⟨_,(aC (bO (PW.pt (pw_or (bZ (bX (aJ cN #[0] T.eX dY (aA (pv 0) (aA (cV (v:=.ty "list") #[0] T.cR cW rfl) aB))))) (pw_or1 (aU fI (aJ aN #[0] T.bV bH (aA (pv 0) aB)) (pv 1) (aW _))))) (aF (aT fL)) aZ)
  (aC (cF #[9] rfl (bL (pv 0)) (aO (i:=2) HW.nd rfl bN)
   (aF (bO (bZ (bX (aY D_law_fraction hr #[1] #[0] (aA (pv 2) aB)))) (aF (aT fL)) aZ)))
  (aF (aT fL)))),?_⟩
 exists _,rfl,.ref l,.ty "list",_,_,_,rfl,rfl,.of (.lst fl.hr),Kd.lst.nO K,_,rfl;refine cM ⟨_,rfl,l,_,rfl,.inl (aS.of fl.hr),_,rfl,rfl,_,rfl,?_⟩;refine iZ (by rw[qAa,fl.len]) ?_;exists _,rfl,l,rfl,⟨_,aS.of fl.hr⟩;refine dX (xs:=ws.map V.ref) (fun i σ H2=>H2=H/\∃o:Option V,σ=[some (.ref l),some (.int (n:Int)),o]) ⟨rfl,_,rfl⟩ (fun i σ H2 _ ⟨e,_⟩=>by rw[e];exact aS.of fl.hr) (fun i y σ H2 hy z9=>?_) (fun σ H2 z9=>?_)
 .obtain⟨eH,o,eσ⟩:=z9;subst eH eσ;obtain⟨p,hp,rfl⟩:=dB hy;exact⟨_,rfl,p,_,d,rfl,fl.at_ i p hp,d0,_,rfl,cM ⟨rfl,_,rfl⟩⟩
 .obtain⟨eH,o,eσ⟩:=z9;subst eH;exact k
def AA:Sp:=fun vs H Q _=>∃(l:Addr) (n:Nat) (X:Nat->Int) (d:Int) (ws:List Addr),vs=[.ref l]/\kC n X d H l ws/\0<d/\Sm 6000 d/\∀L,Gn n X d L->Q (.int L) H
theorem AB:aV ["_law_numbers","_law_low_here","_law_number_here"] ["_law_numbers"] (aI Kv):=#[1,2]
theorem Mc(t:Tx K mg "_law_low" Kv ["_law_numbers"] f fd)(T:#[4])(D_law_divisor:#[5] 1 "_law_divisor" ["_law_one","_law_other"] ER f1 fd1):
  #[5] 2 "_law_low" ["_law_numbers"] AA f fd:=by
 refine t.gO AB (by rintro _ _ _ _⟨l,n,X,d,ws,rfl,_⟩;rfl) fun _ _ _ _ H vs Q E hr h=>?_;obtain⟨l,n,X,d,ws,rfl,fl,d0,sd,k⟩:=h;refine⟨_,(aC (aP (i:=1) AB.nd rfl bN aE)
  (aC (cF #[9] rfl (bL (pv 0)) (aO (i:=2) AB.nd rfl bN)
   (aF (aP (i:=1) AB.nd rfl bN (aM bK (aM gB (pv 1) (aY D_law_divisor hr #[1] #[0] (aA (pv 1) (aA (aQ bB (pv 2) aE #[6]) aB)))) (aQ bB (pv 2) aE #[6])))))
  (aF (aT (pv 1))))),?_⟩
 exists _,rfl,l,rfl,⟨_,aS.of fl.hr⟩;refine dX (xs:=ws.map V.ref) (fun i σ H2=>H2=H/\∃(L:Int) (o:Option V),σ=[some (.ref l),some (.int L),o]/\Gn i X d L) ⟨rfl,1,_,rfl,by decide,qPy _,fun j hj=>by omega⟩ (fun i σ H2 _ ⟨e,_⟩=>by rw[e];exact aS.of fl.hr) (fun i y σ H2 hy z9=>?_) (fun σ H2 z9=>?_)
 .obtain⟨eH,L,o,eσ,lo⟩:=z9;subst eH eσ;obtain⟨p,hp,rfl⟩:=dB hy;have hpt:=fl.at_ i p hp;obtain⟨_,y1,_,yd⟩:=dD (X:=X i) d0;have sL:Sm 6000 L:=sd.le (by have:=qEe d0 lo.dvd;have:=lo.pos;omega);have sb:=kR (X:=X i) d0 sd;have g0:(qBs L (tb (X i) d):Int)≠0:=by
   have:=qHd (tb (X i) d) (show L≠0 by have:=lo.pos;omega);omega
  have sg:Sm 6000 ((qBs L (tb (X i) d):Nat):Int):=sL.le (by
   rw[qNu];exact qJn (by have:=lo.pos;omega) (qKh _ _))
  refine⟨_,rfl,_,rfl,_,rfl,p,_,_,_,rfl,rfl,cE.of hpt,rfl,_,_,rfl,(show 0<=tb (X i) d by omega),?_⟩;refine⟨_,_,rfl,rfl,sg.db g0,_,rfl,p,_,_,_,rfl,rfl,cE.of hpt,rfl,_,_,rfl,rfl,sL.fdiv.mb sb,rfl,_,_,rfl,wJ d0 lo⟩
 .obtain⟨eH,L,o,eσ,lo⟩:=z9;subst eH eσ;rw[qAa,fl.len] at lo;exact⟨_,rfl,k L lo⟩
def AD:Sp:=fun vs H Q _=>∃(l:Addr) (n:Nat) (X:Nat->Int) (d L:Int) (ws:List Addr),vs=[.ref l,.int L]/\kC n X d H l ws/\n<=100/\0<d/\Sm 6000 d/\(∀j,Sm 310000 (X j))/\Gn n X d L /\
 ∀(D:Addr) (H':Hp) (tt:Nat->Int),H D=none->aH H H'->H' D=some (.lst (bF n tt))->(∀j,j<n->tt j*d=X j*L)->(∀j,Sm 320000 (tt j))->Q (.ref D) H'
theorem OA:aV ["_law_numbers","_law_low_here"] ["_law_numbers","_law_low_here"] (aI Kw):=#[1,2]
theorem Me(t:Tx K mg "_law_tops" Kw ["_law_numbers","_law_low_here"] f fd)(T:#[4]):#[5] 1 "_law_tops" ["_law_numbers","_law_low_here"] AD f fd:=by
 refine t.gO OA (by rintro _ _ _ _⟨l,n,X,d,L,ws,rfl,_⟩;rfl) fun _ _ _ _ H vs Q E hr h=>?_;obtain⟨l,n,X,d,L,ws,rfl,fl,n1,d0,sd,sX,lo,k⟩:=h;refine⟨_,(aF (aT (bM (NB:=["_law_number_here","_law_low_here"]) (pick:=[none,some 1]) (bG #[7] (by exact(And.intro rfl trivial)) rfl #[2] #[2] #[0] #[0]) rfl
    (bL (pv 0)) (fun _ _ _=>aO (i:=0) #[8,["_law_number_here","_law_low_here"]] rfl bN)
    (fun _ _ _=>bJ) (fun _ _ _=>(aM bK (aQ (fC K) (pv 0) aE #[6]) (aM gB (pv 1) (aQ (fC K) (pv 0) aE #[6]))))))),?_⟩
 have sL:Sm 6000 L:=sd.le (by have:=qEe d0 lo.dvd;have:=lo.pos;lia);exists _,rfl,l,rfl,⟨_,aS.of fl.hr⟩;refine cC (xs:=ws.map V.ref) (fun j _=>some (.int (ta (X j) d*L.fdiv (tb (X j) d)))) (aS.of fl.hr) (by rw[qAa,fl.len];exact qAo (aK (by lia))) (fun j y H2 kk kk0 s2 hy g1 g2=>?_) fun D H2 hD s2 hd=>?_
 .obtain⟨p,hp,rfl⟩:=dB hy;have hpt:=s2 _ _ (fl.at_ j p hp);obtain⟨_,y1,_,yd⟩:=dD (X:=X j) d0;exact⟨_,rfl,p,_,_,_,rfl,rfl,cE.of hpt,rfl,_,rfl,_,rfl,p,_,_,_,rfl,rfl,cE.of hpt,rfl,_,_,rfl,rfl,(kR (X:=X j) d0 sd).db (show tb (X j) d≠0 by lia),_,_,rfl,rfl,(mE (sX j)).mb sL.fdiv,g1 _ rfl _ (.refl _)⟩
 .refine k D H2 (fun j=>ta (X j) d*L.fdiv (tb (X j) d)) hD s2 ?_ (fun j hj=>?_) fun j=>((mE (sX j)).mul sL.fdiv).mono #[1]
  .rw[hd,qAa,fl.len,iN _ (by rw[qAa,fl.len])];rfl
  .obtain⟨e,y1,_,yd⟩:=dD (X:=X j) d0;obtain⟨c,hc⟩:=lo.all j hj;have e2:L.fdiv (tb (X j) d)=c:=by
    rw[hc];exact qCp _ (by lia)
   rw[e2,hc];generalize ta (X j) d=a at e;generalize tb (X j) d=b at e;grind
theorem y6(g i:Nat):qCu ((g:Int)/2^i) 1=((g/2^i%2:Nat):Int):=by
 have e:(g:Int)/2^i=((g/2^i:Nat):Int):=by push_cast;rfl
 rw[e];show((g/2^i &&& 1:Nat):Int)=_;rw[Nat.and_one_is_mod]
theorem jE(R:St->Hp->Prop)(h1:(∀σ' H',R σ' H'->b D σ' H')->a { D with nx:=b D } σ H)(h2:∀σ' H',R σ' H'->b D σ' H'):Fj a b D σ H:=h1 h2
noncomputable def ON(n g:Nat)(w:Nat->Int):List Int:=(qAk n).filterMap fun i=>if g/2^i%2=1 then some (w i) else none
theorem Mf(n g:Nat)(w:Nat->Int):((qAk n).filterMap fun i=>if g/2^i%2=1 then some (V.int (w i)) else none)=(ON n g w).map V.int:=by
 delta ON;rw[qJh];refine dI fun i _=>?_;split <;> rfl
theorem AE(g:Nat)(w:Nat->Int):∀n,(ON n g w).sum=Wg.sm n fun i=>bt g i*w i
 | 0=>rfl
 | n+1=>by
  have ih:=AE g w n;unfold ON at ih|-;rw[qBm,qBx,qFf,ih];show _=(Wg.sm n fun i=>bt g i*w i)+bt g n*w n;congr 1;rw[qCh,qJj];unfold bt;by_cases z:g/2^n%2=1
  .rw[if_pos z,z];simp
  .have z0:g/2^n%2=0:=by lia
   rw[if_neg z,z0];simp
def HX(K:qAd):Sp:=fun vs H Q _=>∃(q:Addr) (n g:Nat) (w:Nat->Int),vs=[.ref q,.int (g:Int)]/\H q=some (.lst (bF n w))/\n<=60/\∀H',aH H H'->Q (.int (Wg.sm n fun i=>bt g i*w i)) H'
theorem OB:aV ["_law_tops_here","_law_group"] ["_law_tops_here","_law_group"] (aI Ky):=#[1,2]
theorem Mg(t:Tx K mg "_law_share" Ky ["_law_tops_here","_law_group"] f fd)(T:#[4]):#[5] 1 "_law_share" ["_law_tops_here","_law_group"] (HX K) f fd:=by
 refine t.gO OB (by rintro _ _ _ _⟨q,n,g,w',rfl,_⟩;rfl) fun _ _ _ _ H vs Q E hr h=>?_;obtain⟨q,n,g,w',rfl,hq,hn,k⟩:=h;refine⟨_,(aF (aT (aJ (dG rfl) #[0] T.gL gJ (aA (bM (NB:=["_law_hand","_law_group","_law_tops_here"]) (pick:=[none,some 1,some 0]) (bG #[7] (by exact(And.intro rfl (And.intro rfl trivial))) rfl #[2] #[2] #[0] #[0]) rfl
    (bY #[0] T.bW (aA (aJ aN #[0] T.bV bH (aA (pv 0) aB)) aB)) (fun _ _ _=>aO (i:=0) #[8,["_law_hand","_law_group","_law_tops_here"]] rfl bN)
    (fun _ _ _=>eF (aU dE (aM jB (aM kW (pv 1) (pv 0)) aE) aE (aW _))) (fun _ _ _=>(aQ (bU K) (pv 2) (pv 0) #[6]))) aB)))),?_⟩
 exists _,rfl,q,_,rfl,.inl (aS.of hq);rw[aL];refine⟨n,rfl,by lia,by lia,?_⟩;refine fN (n:=n) (fun i=>if g/2^i%2=1 then some (V.int (w' i)) else none) (qAo (aK (by lia))) (fun i H2 kk kk0 s2 hi h1 h2=>?_) fun D H2 hD s2 hd=>?_
 .rw[qCe (i:Int)];have eb:qCu ((g:Int)/2^(i:Int).toNat) 1=((g/2^i%2:Nat):Int):=by rw[qBb,y6]
  refine⟨_,rfl,_,rfl,_,_,rfl,rfl,(by show 0<=(i:Int);lia),_,_,rfl,rfl,rfl,_,rfl,cK (fun h3=>?_) (fun h3=>h2 ?_ _ (.refl _))⟩
  .have z:=V.int.inj (of_decide_eq_true h3);rw[eb] at z;exact⟨_,rfl,_,rfl,q,_,_,_,rfl,rfl,aS.of (s2 _ _ hq),bR hi,h1 _ (if_pos (by lia)) _ (.refl _)⟩
  .refine if_neg fun z=>h3 ?_;show decide (V.int (qCu ((g:Int)/2^(i:Int).toNat) 1)=V.int 1)=true;rw[eb,z];rfl
 .rw[Mf] at hd;exists D,_,rfl,.inl (aS.of hd);rw[AE];exact k H2 s2
structure Qt (m n:Nat) (tb:Nat->Int) (d:Int) (ps:List (Int×Int)):Prop where
 len:ps.length<=64
 mem:∀p∈ps,1<=p.1/\p.1<(n:Int)/\1<=p.2/\Sm 310000 p.2
 inc:ps.Pairwise fun a b=>a.1<b.1
 i6:∀i,i<m->(ps.map fun p=>bt p.1.toNat i*p.2).sum=d
 more:tb (n-1)*d<(ps.map fun p=>tb p.1.toNat*p.2).sum
theorem AF(ps:List (Int×Int))(F:Int×Int->Int):(Wg.sm ps.length fun j=>F (ps.getD j (0,0)))=(ps.map F).sum:=by
 rw[<- nH];congr 1;refine qJz (by rw[qAa,qAa,qAu]) fun i a b=>?_;rw[qAa] at b;rw[qGm,qGm,qJi,qAf,qAc b];rfl
def HY(K:qAd):Sp:=fun vs H Q _=>∃(l lg:Addr) (m n:Nat) (tb:Nat->Int) (d:Int) (ys:List V) (ps:List (Int×Int)),vs=[.ref l,.int (m:Int),.ref lg]/\H l=some (.lst ys)/\eB H d ys ps/\H lg=some (.lst (ps.map fun p=>V.int p.1))/\m<=6/\n<=64/\0<d/\Sm 6000 d/\Qt m n tb d ps /\
 ∀(D DT:Addr) (H':Hp) (L:Int) (tt:Nat->Int),aH H H'->H' D=some (.lst [.ref DT,.int L])->H' DT=some (.lst (bF ps.length tt))->0<L->Sm 6000 L->(∀j,j<ps.length->tt j*d=(ps.getD j (0,0)).2*L)->(∀j,Sm 320000 (tt j))->Q (.ref D) H'
theorem qD:aV ["_law_found","_law_many","_law_groups","_law_weights","_law_row","_law_group","_law_low_here","_law_tops_here","_law_hand"] ["_law_found","_law_many","_law_groups"] (aI Kz):=#[1,2]
theorem Mh(t:Tx K mg "_law_weighing" Kz ["_law_found","_law_many","_law_groups"] f fd)(T:#[4])(D_law_whole:#[5] 1 "_law_whole" ["_law_found"] (mB K) f1 fd1)(D_law_fraction:#[5] 2 "_law_fraction" ["_law_found"] wW f2 fd2)(D_law_low:#[5] 2 "_law_low" ["_law_numbers"] AA f3 fd3)(D_law_tops:#[5] 1 "_law_tops" ["_law_numbers","_law_low_here"] AD f4 fd4):
  #[5] 3 "_law_weighing" ["_law_found","_law_many","_law_groups"] (HY K) f fd:=by
 refine t.gO qD (by rintro _ _ _ _⟨l,lg,m,n,tb',d,ys,ps,rfl,_⟩;rfl) fun _ _ _ _ H vs Q E hr h=>?_;obtain⟨l,lg,m,n,tb',d,ys,ps,rfl,hl,ra,hg,m6,n64,d0,sd,wp,k⟩:=h;have hlen:=ra.len;refine⟨_,(aC (bO (PW.pt (pw_or (bZ (bX (aJ cN #[0] T.eX dY (aA (pv 0) (aA (cV (v:=.ty "list") #[0] T.cR cW rfl) aB))))) (pw_or1 (aU fI (aJ aN #[0] T.bV bH (aA (pv 0) aB)) (aJ aN #[0] T.bV bH (aA (pv 2) aB)) (aW _))))) (aF (aT dU)) aZ)
  (aC (aP (i:=3) qD.nd rfl bN (bQ aB))
  (aC (cF #[9] rfl (g8 #[0] T.hZ (aA (pv 0) (aA (pv 2) aB))) (fM rfl (bP (aO (i:=4) qD.nd rfl bN) (bP (aO (i:=5) qD.nd rfl bN) dP)))
   (aC (bO (PW.pt (pw_or (bZ (bX (aJ cN #[0] T.eX dY (aA (pv 4) (aA (cV (v:=.ty "tuple") #[0] T.gU jQ rfl) aB))))) (pw_or (aU fI (aJ aN #[0] T.bV bH (aA (pv 4) aB)) aE (aW _)) (pw_or (bZ (bX (aY D_law_whole hr #[1] #[0] (aA (aQ bB (pv 4) aE #[6]) aB)))) (pw_or1 (aU fI (aQ bB (pv 4) aE #[6]) (pv 5) (aW _))))))) (aF (aT dU)) aZ)
   (aC (bO (PW.pt (pw_or (bZ (bX (aY D_law_fraction hr #[1] #[0] (aA (aQ bB (pv 4) aE #[6]) aB)))) (pw_or1 (aU jH (aQ bB (aQ bB (pv 4) aE #[6]) aE #[6]) aE (aW _))))) (aF (aT dU)) aZ)
   (aF (dO (lK qCr qDt qDs fH (pv 3) (aA (aQ bB (pv 4) aE #[6]) aB)))))))
  (aC (aP (i:=6) qD.nd rfl bN (aY D_law_low hr #[1] #[0] (aA (pv 3) aB)))
  (aC (aP (i:=7) qD.nd rfl #[3] (aY D_law_tops hr #[1] #[0] (aA (pv 3) (aA (pv 6) aB))))
  (aC (cF #[9] rfl (bY #[0] T.bW (aA (pv 1) aB)) (aO (i:=8) qD.nd rfl #[3])
   (aF (bO (aU fI (aJ (dG rfl) #[0] T.gL gJ (aA (bM (NB:=["_law_k","_law_groups","_law_hand","_law_tops_here"]) (pick:=[none,some 2,some 8,some 7]) (bG #[7] (by exact(And.intro rfl (And.intro rfl (And.intro rfl trivial)))) rfl #[2] #[2] #[0] #[0]) rfl
    (bY #[0] T.bW (aA (aJ aN #[0] T.bV bH (aA (pv 2) aB)) aB)) (fun _ _ _=>aO (i:=0) #[8,["_law_k","_law_groups","_law_hand","_law_tops_here"]] rfl bN)
    (fun _ _ _=>eF (aU dE (aM jB (aM kW (aQ (bU K) (pv 1) (pv 0) #[6]) (pv 2)) aE) aE (aW _))) (fun _ _ _=>(aQ (bU K) (pv 3) (pv 0) #[6]))) aB)) (pv 6) (aW _)) (aF (aT dU)) aZ)))
  (aF (aT (bQ (aA (pv 7) (aA (pv 6) aB))))))))))),?_⟩
 refine⟨_,rfl,.ref l,.ty "list",_,_,_,rfl,rfl,.of (.lst hl),Kd.lst.nO K,_,rfl,cM ?_⟩;refine⟨_,rfl,l,_,rfl,.inl (aS.of hl),_,rfl,lg,_,rfl,.inl (aS.of hg),rfl,_,rfl,iZ (by rw[qAa,hlen]) ?_⟩;refine⟨by show 0<=qAi;decide,fun D hD=>?_⟩;have u1:=aH.aG (o:=.lst []) hD;have x1:upd H D (.lst []) D=some (.lst (([]:List Addr).map V.ref)):=aD;generalize upd H D (.lst [])=H1 at u1 x1|-;exists _,rfl,_,rfl,l,lg,rfl,⟨_,aS.of (u1 _ _ hl)⟩,⟨_,aS.of (u1 _ _ hg)⟩;refine oH (xs:=ys) (ys:=ps.map fun p=>V.int p.1) (fun j σ H'=>aH H H'/\∃(ws:List Addr) (o4 o5:Option V),H' D=some (.lst (ws.map V.ref))/\ws.length=j/\(∀i w,ws[i]?=some w->H' w=some (gC (ps.getD i (0,0)).2 d))/\σ=[some (.ref l),some (.int (m:Int)),some (.ref lg),some (.ref D),o4,o5,none,none,none]) ⟨u1,[],_,_,x1,rfl,(fun i w e=>by cases e),rfl⟩ (by rintro j σ H' _ ⟨s',_⟩;exact ⟨aS.of (s' _ _ hl),aS.of (s' _ _ hg)⟩) (by rw[qAa,hlen]) (fun j x y tt σ H' hx hy ht z9=>?_) (fun σ H' z9=>?_)
 .obtain⟨s',ws,o4,o5,hd,hwl,hw,eσ⟩:=z9;subst eσ;obtain⟨rb,w',p,hp,rfl,hra,hfr⟩:=ra.get hx;have hpj:ps.getD j (0,0)=p:=by rw[qAf,hp];rfl
  obtain rfl:y = .int p.1:=by
   rw[qAn,hp] at hy;exact(Option.some.inj hy).symm
  obtain⟨p1,pn,p2,_⟩:=wp.mem p (qAx hp);have u2:=aH.aG (o:=.tup [.ref rb,.int p.1]) ht;have x2:upd H' tt (.tup [.ref rb,.int p.1]) tt=_:=aD;have hd2:=u2 _ _ hd;generalize upd H' tt (.tup [.ref rb,.int p.1])=H2 at u2 x2 hd2|-;have s2:=s'.trans u2;have hra2:=s2 _ _ hra;have hfr2:=s2 _ _ hfr;have g1:eV [V.int p.1,V.ref w'] 1=some (.ref w'):=rfl;exists tt,_,rfl,cE.of x2,rfl;exists _,_,rfl,_,_,rfl,rfl;refine⟨_,rfl,.ref rb,.ty "tuple",_,_,_,rfl,rfl,.of (.tup hra2),Kd.tup.pA K,_,rfl,cM ⟨_,rfl,rb,_,rfl,.inr (cE.of hra2),rfl,_,rfl,iZ rfl ?_⟩⟩;refine⟨_,rfl,rb,_,_,_,rfl,rfl,cE.of hra2,rfl,_,rfl,.int _,_,rfl,cM ⟨_,rfl,rb,_,_,_,rfl,rfl,cE.of hra2,rfl,_,rfl,rfl,_,rfl,iZ rfl ?_⟩⟩;refine⟨_,rfl,rb,_,_,_,rfl,rfl,cE.of hra2,g1,w',_,d,rfl,hfr2,d0,_,rfl,cM ⟨_,rfl,rb,_,_,_,rfl,rfl,cE.of hra2,g1,w',_,_,_,rfl,rfl,cE.of hfr2,rfl,_,_,rfl,rfl,_,rfl,?_⟩⟩;have ta1:¬(ta p.2 d<1):=by
   obtain⟨e,y1,_,_⟩:=dD (X:=p.2) d0;have:0<ta p.2 d*d:=by rw[e];exact qHb (by lia) (by lia)
   have:=Int.pos_of_mul_pos_left this d0;lia
  show if decide (ta p.2 d<1)=true then _ else _;rw[decide_eq_false ta1];refine cM ⟨_,rfl,.inl ⟨rfl,_,aS.of hd2⟩,_,rfl,rb,_,_,_,rfl,rfl,cE.of hra2,g1,D,_,_,rfl,rfl,hd2,by rw[qAa,hwl];exact aK (by have:=wp.len;have:=(List.getElem?_eq_some_iff.mp hp).1;lia),?_⟩;have nD:∀{b o},H b=some o->b≠D:=fun {b o} e z=>by rw[z,hD] at e;cases e
  refine⟨s2.upd_ne' hD,ws++[w'],_,_,?_,by rw[qAj,hwl];rfl,fun i w'' e=>?_,rfl⟩
  .rw[aD,qAr];rfl
  .rcases qAm i ws.length with z | z
   .rw[qAy z] at e;have q:=u2 _ _ (hw i w'' e);rw[aR (fun zz=>by rw[zz,hd2] at q;cases q)];exact q
   .rw[qAz z] at e;rcases qEx (i-ws.length) with q | q
    .rw[q] at e;obtain rfl:w'=w'':=Option.some.inj e;obtain rfl:i=j:=by lia
     rw[hpj,aR (nD hfr)];exact hfr2
    .rw[qAv (by show 1<=_;lia)] at e;cases e
 .obtain⟨s',ws,o4,o5,hd,hwl,hw,eσ⟩:=z9;subst eσ;rw[hlen] at hwl;have fl:kC ps.length (fun j=>(ps.getD j (0,0)).2) d H' D ws:=⟨hd,hwl,hw⟩;have plen:=wp.len;have sZ:∀j,Sm 310000 (ps.getD j (0,0)).2:=fun j=>by
   rcases qAm j ps.length with z | z
   .rw[qAf,qAc z];exact(wp.mem _ (qDa z)).2.2.2
   .rw[qAf,qAv z];exact Sm.zero
  refine⟨_,rfl,D,ps.length,_,d,ws,rfl,fl,d0,sd,fun L lo=>?_⟩;have sL:Sm 6000 L:=sd.le (by have:=qEe d0 lo.dvd;have:=lo.pos;lia);refine⟨_,rfl,_,rfl,D,ps.length,_,d,L,ws,rfl,fl,by lia,d0,sd,sZ,lo,fun DT H2 tt hDT s2 hdt et st=>?_⟩;have s2':=s'.trans s2;refine⟨_,rfl,m,rfl,by lia,by lia,?_⟩;refine dJ (n:=m) (fun h σ H3=>aH H2 H3/\∃o:Option V,σ=[some (.ref l),some (.int (m:Int)),some (.ref lg),some (.ref D),o4,o5,some (.int L),some (.ref DT),o]) ⟨.refl _,_,rfl⟩ (fun h σ H3 hh z9=>?_) (fun σ H3 z9=>?_)
  .obtain⟨s3,o,eσ⟩:=z9;subst eσ;have hg3:=s3 _ _ (s2' _ _ hg);have hdt3:=s3 _ _ hdt;exists _,rfl,lg,_,rfl,.inl (aS.of hg3);rw[qAa];refine⟨ps.length,rfl,by lia,by lia,?_⟩;have hat:∀i,i<ps.length->eV (ps.map fun p=>V.int p.1) ((0:Int)+(i:Int))=some (.int (((ps.getD i (0,0)).1.toNat:Nat):Int)):=fun i hi=>by
    rw[qCe];refine fA ?_;have p1:=(wp.mem _ (qDa hi)).1;rw[qAn,qAf,qAc hi];show some (V.int ps[i].1)=some (V.int ((ps[i].1.toNat:Nat):Int));rw[qCx (by lia)]
   refine fN (n:=ps.length) (fun i=>if (ps.getD i (0,0)).1.toNat/2^h%2=1 then some (V.int (tt i)) else none) (qAo (aK (by lia))) (fun i H4 kk kk0 s4 hi h1 h2=>?_) fun Ds H4 hDs s4 hds=>?_
   .have e0h:(0:Int)+(h:Int)=(h:Int):=qCe _;have eb:qCu ((((ps.getD i (0,0)).1.toNat:Nat):Int)/2^((0:Int)+(h:Int)).toNat) 1=(((ps.getD i (0,0)).1.toNat/2^h%2:Nat):Int):=by rw[e0h,qBb,y6]
    refine⟨_,rfl,_,rfl,lg,_,_,_,rfl,rfl,aS.of (s4 _ _ hg3),hat i hi,_,rfl,_,_,rfl,rfl,(by show 0<=(0:Int)+(h:Int);lia),_,_,rfl,rfl,rfl,_,rfl,cK (fun h3=>?_) (fun h3=>h2 ?_ _ (.refl _))⟩
    .have z:=V.int.inj (of_decide_eq_true h3);rw[eb] at z;exact⟨_,rfl,_,rfl,DT,_,_,_,rfl,rfl,aS.of (s4 _ _ hdt3),(by rw[qCe];exact bR hi),h1 _ (if_pos (by lia)) _ (.refl _)⟩
    .refine if_neg fun z=>h3 ?_;show decide (V.int (qCu ((((ps.getD i (0,0)).1.toNat:Nat):Int)/2^((0:Int)+(h:Int)).toNat) 1)=V.int 1)=true;rw[eb,z];rfl
   .have hds':H4 Ds=some (.lst (((qAk ps.length).filterMap fun i=>if (ps.getD i (0,0)).1.toNat/2^h%2=1 then some (tt i) else none).map V.int)):=by
     rw[hds,qJh];congr 2;refine dI fun i _=>?_;split <;> rfl
    have esum:∀N,((qAk N).filterMap fun i=>if (ps.getD i (0,0)).1.toNat/2^h%2=1 then some (tt i) else none).sum=Wg.sm N fun i=>bt (ps.getD i (0,0)).1.toNat h*tt i:=by
     intro N;induction N with
     | zero=>rfl
     | succ N ih =>
      rw[qBm,qBx,qFf,ih];show _=(Wg.sm N fun i=>bt (ps.getD i (0,0)).1.toNat h*tt i)+bt (ps.getD N (0,0)).1.toNat h*tt N;congr 1;rw[qCh,qJj];delta bt;by_cases z:(ps.getD N (0,0)).1.toNat/2^h%2=1
      .rw[if_pos z,z];simp
      .have z0:(ps.getD N (0,0)).1.toNat/2^h%2=0:=by lia
       rw[if_neg z,z0];simp
    have eL:(Wg.sm ps.length fun i=>bt (ps.getD i (0,0)).1.toNat h*tt i)=L:=by
     have z:=pS (a:=fun i=>bt (ps.getD i (0,0)).1.toNat h) et;have z2:=AF ps fun p=>bt p.1.toNat h*p.2;rw[wp.i6 h hh] at z2;rw[z2,qCt d L] at z;exact qEu (by lia) z
    exists Ds,_,rfl,.inl (aS.of hds'),_,rfl,rfl,_,rfl;rw[esum,eL];exact iZ rfl ⟨s3.trans s4,_,rfl⟩
  .obtain⟨s3,o,eσ⟩:=z9;subst eσ;refine⟨_,rfl,_,rfl,qE,fun DR hDR=>?_⟩;have u4:=aH.aG (o:=.lst [.ref DT,.int L]) hDR;exact k DR DT _ L tt (s2'.trans (s3.trans u4)) aD (u4 _ _ (s3 _ _ hdt)) lo.pos sL et st
theorem eB.ws:∀{vs:List V}{ps:List (Int×Int)},eB H d vs ps->∃ws:List Addr,ws.length=ps.length/\∀(i:Nat) (v:V),vs[i]?=some v->∃a w p,ps[i]?=some p/\ws[i]?=some w/\v = .ref a/\H a=some (.tup [.int p.1,.ref w])/\H w=some (gC p.2 d)
 | [],[],_=>⟨[],rfl,fun i v h=>by cases h⟩
 | [],_::_,h=>h.elim
 | _::_,[],h=>h.elim
 | v::vs,p::ps,h=>by
  obtain⟨⟨a,w,e1,e2,e3⟩,r⟩:=h;obtain⟨ws,hl,hw⟩:=eB.ws r;refine⟨w::ws,by rw[qBq,qBq,hl],fun i u hu=>?_⟩;cases i with
  | zero =>
   obtain rfl:v=u:=Option.some.inj hu;exact⟨a,w,p,rfl,rfl,e1,e2,e3⟩
  | succ i=>exact hw i u hu
noncomputable def pY(ps:List (Int×Int))(j:Nat):Int:=(ps.getD j (0,0)).2
theorem AG(h:ps[j]?=some p):pY ps j=p.2:=by delta pY;rw[qAf,h];rfl
theorem OC(ps:List (Int×Int)):Wg.sm ps.length (pY ps)=(ps.map Prod.snd).sum:=AF ps Prod.snd
theorem wX(gs:List Nat)(F c:Nat->Int):∀k,((j0 gs F k).map fun p=>c p.1.toNat*p.2).sum=Wg.sm k fun j=>c (gN gs j)*F j
 | 0=>rfl
 | k+1=>by
  have ih:=wX gs F c k;show _=(Wg.sm k fun j=>c (gN gs j)*F j)+c (gN gs k)*F k;rw[nI];by_cases h:F k≠0
  .rw[if_pos h,qAr,qFf,ih,qCz,qEv,qGs,qMa,qDn];show _+c ((gN gs k:Nat):Int).toNat*F k=_;rw[qBb]
  .rw[if_neg h,ih,show F k=0 from qBd h,qBu,qDn]
theorem AH(i:Nat):∀ps:List (Int×Int),(∀p,p∈ps->0<=p.1)->((ps.filter fun p=>decide (p.1.toNat/2^i%2=1)).map Prod.snd).sum=(ps.map fun p=>bt p.1.toNat i*p.2).sum
 | [],_=>rfl
 | p::ps,h=>by
  have ih:=AH i ps fun q hq=>h q (qBr _ hq);rw[qDw,qCz,qGs,<- ih];delta bt;by_cases z:p.1.toNat/2^i%2=1
  .rw[if_pos (decide_eq_true z),z,qCz,qGs];simp
  .have z0:p.1.toNat/2^i%2=0:=by lia
   rw[if_neg (by rw[decide_eq_false z];exact qAq),z0];simp
theorem ES(hk:k<=gs.length)(h:p∈j0 gs F k):∃j,j<k/\p=((gN gs j:Int),F j)/\F j≠0/\gN gs j∈gs:=by
 delta j0 at h;obtain⟨j,hj,rfl⟩:=List.mem_map.mp h;obtain⟨a,b⟩:=List.mem_filter.mp hj;have a:=List.mem_range.mp a;exact⟨j,a,rfl,of_decide_eq_true b,k9 (by lia)⟩
theorem GP(up:gs.Pairwise (· < ·)){k:Nat}(hk:k<=gs.length):(j0 gs F k).Pairwise fun a b=>a.1<b.1:=by
 delta j0;rw[qNr];refine List.Pairwise.imp_of_mem (fun {a b} ha hb h=>?_) ((qIb (n:=k)).filter _);have ha:=List.mem_range.mp (List.mem_filter.mp ha).1;have hb:=List.mem_range.mp (List.mem_filter.mp hb).1;have z:=List.pairwise_iff_getElem.mp up a b (by lia) (by lia) h;have e1:gN gs a=gs[a]:=fU (qAc (by lia));have e2:gN gs b=gs[b]:=fU (qAc (by lia));show((gN gs a:Nat):Int)<((gN gs b:Nat):Int);rw[e1,e2];lia
theorem Mi(h:i.toNat∈gs)(h0:0<=i):Hb (V.int i) (a9 gs)=true:=by
 delta Hb a9;rw[List.any_eq_true];exists _,List.mem_map.mpr ⟨_,h,rfl⟩;show decide (((i.toNat:Nat):Int)=i)=true;rw[qCx h0];exact decide_eq_true rfl
theorem ET(gs:List Nat):(a9 gs).all lI=true:=by
 rw[qKa];intro v hv;obtain⟨g,_,rfl⟩:=List.mem_map.mp hv;rfl
noncomputable def fB(h:Nat)(ps:List (Int×Int)):List (Int×Int):=ps.filter fun p=>decide (p.1.toNat/2^h%2=1)
theorem oQ(h:Nat)(ps:List (Int×Int))(p:Int×Int):fB h (ps++[p])=if p.1.toNat/2^h%2=1 then fB h ps++[p] else fB h ps:=by
 delta fB;rw[qHi,qDw,qIh];by_cases z:p.1.toNat/2^h%2=1
 .rw[if_pos z,if_pos (decide_eq_true z)]
 .rw[if_neg z,if_neg (by rw[decide_eq_false z];exact qAq),qDp]
theorem HZ(h:j<ps.length):∃p,p∈ps/\pY ps j=p.2:=⟨ps[j],qDa h,AG (qAc h)⟩
theorem GQ{i:Int}{h:Nat}(h0:0<=i):qCu (i/2^((0:Int)+(h:Int)).toNat) 1=((i.toNat/2^h%2:Nat):Int):=by
 obtain⟨n,rfl⟩:=qFy h0;rw[qCe,qBb,qBb,y6]
def Ia(K:qAd):Sp:=fun vs H Q _=>∃(l lg D:Addr) (m:Nat) (kes:List Addr) (tl gs:List Nat),vs=[.ref l,.int (m:Int),.ref lg]/\H l=some (.lst (kes.map V.ref))/\Qe m m tl H D kes/\H lg=some (.lst (a9 gs))/\(∀g,g∈tl->g∈gs/\1<=g/\g<64)/\tl.Pairwise (· < ·)/\gs.length<=64/\m<=6/\tl.length<=6/\∀H',aH H H'->Q (.bl true) H'
theorem nV:aV ["_law_found","_law_many","_law_groups","_law_hand","_law_before","_law_row","_law_low_here","_law_other","_law_tops_here"] ["_law_found","_law_many","_law_groups"] (aI KA):=#[1,2]
theorem Mj(t:Tx K mg "_law_keys" KA ["_law_found","_law_many","_law_groups"] f fd)(T:#[4])(D_law_whole:#[5] 1 "_law_whole" ["_law_found"] (mB K) f1 fd1)(D_law_fraction:#[5] 2 "_law_fraction" ["_law_found"] wW f2 fd2)(D_law_low:#[5] 2 "_law_low" ["_law_numbers"] AA f3 fd3)(D_law_tops:#[5] 1 "_law_tops" ["_law_numbers","_law_low_here"] AD f4 fd4):
  #[5] 3 "_law_keys" ["_law_found","_law_many","_law_groups"] (Ia K) f fd:=by
 refine t.gO nV (by rintro _ _ _ _⟨l,lg,D,m,kes,tl,gs,rfl,_⟩;rfl) fun _ _ _ _ H vs Q E hr h=>?_;obtain⟨l,lg,D,m,kes,tl,gs,rfl,hl,ky,hg,tm,up,gl,m6,tl6,k⟩:=h;refine⟨_,(aC (bO (PW.pt (pw_or (bZ (bX (aJ cN #[0] T.eX dY (aA (pv 0) (aA (cV (v:=.ty "list") #[0] T.cR cW rfl) aB))))) (pw_or1 (aU fI (aJ aN #[0] T.bV bH (aA (pv 0) aB)) (pv 1) (aW _))))) (aF (aT fL)) aZ)
  (aC (cF #[9] rfl (bY #[0] T.bW (aA (pv 1) aB)) (aO (i:=3) nV.nd rfl #[3])
   (aC (bO (bZ (bX (aJ cN #[0] T.eX dY (aA (aQ a8 (pv 0) (pv 3) #[6]) (aA (cV (v:=.ty "list") #[0] T.cR cW rfl) aB))))) (aF (aT fL)) aZ)
   (aC (aP (i:=4) nV.nd rfl bN aE)
   (aC (cF #[9] rfl (bL (aQ a8 (pv 0) (pv 3) #[6])) (aO (i:=5) nV.nd rfl #[3])
    (aC (bO (PW.pt (pw_or (bZ (bX (aJ cN #[0] T.eX dY (aA (pv 5) (aA (cV (v:=.ty "tuple") #[0] T.gU jQ rfl) aB))))) (pw_or (aU fI (aJ aN #[0] T.bV bH (aA (pv 5) aB)) aE (aW _)) (pw_or (bZ (bX (aY D_law_whole hr #[1] #[0] (aA (aQ bB (pv 5) aE #[6]) aB)))) (pw_or1 (aU uP (aQ bB (pv 5) aE #[6]) (pv 4) (aW _))))))) (aF (aT fL)) aZ)
    (aC (bO (PW.pt (pw_or (aU lJ (aQ bB (pv 5) aE #[6]) (pv 2) #[0]) (pw_or (bZ (bX (aY D_law_fraction hr #[1] #[0] (aA (aQ bB (pv 5) aE #[6]) aB)))) (pw_or1 (aU dE (aQ bB (aQ bB (pv 5) aE #[6]) aE #[6]) aE (aW _)))))) (aF (aT fL)) aZ)
    (aF (aP (i:=4) nV.nd rfl bN (aQ bB (pv 5) aE #[6]))))))
   (aC (aP (i:=6) nV.nd rfl bN (aY D_law_low hr #[1] #[0] (aA (bM (NB:=["_law_row"]) (pick:=[none]) (bG #[7] (by exact trivial) rfl #[2] #[2] #[0] #[0]) rfl
    (bL (aQ a8 (pv 0) (pv 3) #[6])) (fun _ _ _=>aO (i:=0) #[8,["_law_row"]] rfl bN)
    (fun _ _ _=>bJ) (fun _ _ _=>(aQ (fC K) (pv 0) aE #[6]))) aB)))
   (aF (cF #[9] rfl (bY #[0] T.bW (aA (pv 1) aB)) (aO (i:=7) nV.nd rfl #[3])
    (aC (aP (i:=8) nV.nd rfl bN (aY D_law_tops hr #[1] #[0] (aA (bM (NB:=["_law_row","_law_other"]) (pick:=[none,some 7]) (bG #[7] (by exact(And.intro rfl trivial)) rfl #[2] #[2] #[0] #[0]) rfl
    (bL (aQ a8 (pv 0) (pv 3) #[6])) (fun _ _ _=>aO (i:=0) #[8,["_law_row","_law_other"]] rfl bN)
    (fun _ _ _=>eF (aU dE (aM jB (aM kW (aQ (fC K) (pv 0) aE #[6]) (pv 1)) aE) aE (aW _))) (fun _ _ _=>(aQ (fC K) (pv 0) aE #[6]))) (aA (pv 6) aB))))
    (aF (bO (aU fI (aJ (dG rfl) #[0] T.gL gJ (aA (pv 8) aB)) (aM bK (pv 6) (cZ j4 #[0] T.kQ mX (aA (eD dE (pv 7) (pv 3) (aW _)) aB))) (aW _)) (aF (aT fL)) aZ))))))))))
  (aF (aT fL)))),?_⟩
 have kl:=ky.len;refine⟨_,rfl,.ref l,.ty "list",_,_,_,rfl,rfl,.of (.lst hl),Kd.lst.nO K,_,rfl,cM ?_⟩;refine⟨_,rfl,l,_,rfl,.inl (aS.of hl),_,rfl,rfl,_,rfl,iZ (by rw[qAa,kl]) ?_⟩;refine⟨_,rfl,m,rfl,by lia,by lia,?_⟩;refine dJ (n:=m) (fun h σ' H'=>aH H H'/\∃o3 o4 o5 o6 o7 o8:Option V,σ'=[some (.ref l),some (.int (m:Int)),some (.ref lg),o3,o4,o5,o6,o7,o8]) ⟨.refl _,_,_,_,_,_,_,rfl⟩ (fun h σ' H1 hh z9=>?_) (fun σ' H1 z9=>?_)
 .obtain⟨s1,o3,o4,o5,o6,o7,o8,eσ⟩:=z9;subst eσ;have eh:=qAc (l:=kes) (i:=h) (by lia);obtain⟨ys,d,F,he,_,rw0,d0,sd,sF,hs⟩:=ky.at_ h _ eh;generalize kes[h]=ke at eh he;have hl1:=s1 _ _ hl;have he1:=s1 _ _ he;have rw1:=rw0.t s1.t;have hat:eV (kes.map V.ref) ((0:Int)+(h:Int))=some (.ref ke):=by rw[qCe];exact fA (by rw[qAn,eh];rfl)
  refine⟨_,rfl,_,rfl,l,_,_,_,rfl,rfl,aS.of hl1,hat,.ref ke,.ty "list",_,_,_,rfl,rfl,.of (.lst he1),Kd.lst.nO K,_,rfl,cM ?_⟩;dsimp only[aX];exists _,rfl,_,rfl,l,_,_,_,rfl,rfl,aS.of hl1,hat,ke,rfl,⟨_,aS.of he1⟩;have ylen:=rw0.len;have psm:∀p,p∈j0 tl F tl.length->p.2≠0/\1<=p.1/\p.1<64/\p.1.toNat∈gs/\Sm 310000 p.2:=fun p hp=>by
   obtain⟨j,hj,rfl,ne,mem⟩:=ES (qAg _) hp;obtain⟨a,b,c⟩:=tm _ mem;exact⟨ne,by show(1:Int)<=((gN tl j:Nat):Int);lia,by show((gN tl j:Nat):Int)<64;lia,by show((gN tl j:Nat):Int).toNat∈gs;rw[qBb];exact a,sF j⟩
  have pup:=GP (F:=F) up (qAg tl.length);have psl:(j0 tl F tl.length).length<=6:=by
   delta j0;rw[qAa];have:=qEw (fun j=>decide (F j≠0)) (qAk tl.length);rw[qAu] at this;lia
  have ksum:∀i,i<m->((j0 tl F tl.length).map fun p=>bt p.1.toNat i*p.2).sum=bt (2^h) i*d:=fun i hi=>by
   rw[wX tl F (fun g=>bt g i)];exact hs i hi
  generalize j0 tl F tl.length=ps at rw0 rw1 ylen psm pup psl ksum;refine dX (xs:=ys) (fun j σ' H'=>aH H1 H'/\∃(b:Int) (o5:Option V),(∀p,ps[j]?=some p->b<p.1)/\σ'=[some (.ref l),some (.int (m:Int)),some (.ref lg),some (.int (0+(h:Int))),some (.int b),o5,o6,o7,o8]) ⟨.refl _,0,_,fun p hp=>by have:=(psm p (qAx hp)).2.1;lia,rfl⟩ ?_ ?_ ?_
  .rintro j σ' H' _ ⟨s',_⟩;exact aS.of (s' _ _ he1)
  .rintro j x σ' H2 hx ⟨s2,b,o5,hb,rfl⟩;obtain⟨a,w',p,hp,rfl,ha,hw⟩:=(rw1.t s2.t).get hx;obtain⟨ne,p1,p64,pg,sp⟩:=psm p (qAx hp);have g1:eV [V.int p.1,V.ref w'] 1=some (.ref w'):=rfl;dsimp only[aX];refine⟨_,rfl,.ref a,.ty "tuple",_,_,_,rfl,rfl,.of (.tup ha),Kd.tup.pA K,_,rfl,cM ⟨_,rfl,a,_,rfl,.inr (cE.of ha),rfl,_,rfl,iZ rfl ?_⟩⟩;refine⟨_,rfl,a,_,_,_,rfl,rfl,cE.of ha,rfl,_,rfl,.int _,_,rfl,cM ⟨_,rfl,a,_,_,_,rfl,rfl,cE.of ha,rfl,_,rfl,_,_,rfl,rfl,_,rfl,?_⟩⟩;have nb:¬p.1<=b:=by have:=hb p hp;lia
   show if decide (p.1<=b)=true then _ else _;rw[decide_eq_false nb];refine cM ?_;have inn:Hb (V.int p.1) (a9 gs)=true:=Mi pg (by lia);exists _,rfl,a,_,_,_,rfl,rfl,cE.of ha,rfl,_,rfl,lg,_,rfl,.inl (aS.of (s2 _ _ (s1 _ _ hg))),rfl,ET gs,_,rfl;rw[if_pos rfl,inn];refine cM ⟨_,rfl,a,_,_,_,rfl,rfl,cE.of ha,g1,w',_,d,rfl,hw,d0,_,rfl,cM ⟨_,rfl,a,_,_,_,rfl,rfl,cE.of ha,g1,w',_,_,_,rfl,rfl,cE.of hw,rfl,rfl,_,rfl,?_⟩⟩;have tne:ta p.2 d≠0:=fun z=>by
    obtain⟨e,y1,_,_⟩:=dD (X:=p.2) d0;rw[z,qBi] at e;rcases Int.mul_eq_zero.mp e.symm with q | q
    .exact ne q
    .lia
   show if decide (V.int (ta p.2 d)=V.int 0)=true then _ else _;rw[decide_eq_false fun z=>tne (V.int.inj z)];refine cM ⟨_,rfl,a,_,_,_,rfl,rfl,cE.of ha,rfl,s2,p.1,_,fun q hq=>?_,rfl⟩;obtain⟨h1,e1⟩:=List.getElem?_eq_some_iff.mp hp;obtain⟨h2,e2⟩:=List.getElem?_eq_some_iff.mp hq;have z:=List.pairwise_iff_getElem.mp pup j (j+1) h1 h2 (by lia);rw[e1,e2] at z;exact z
  .rintro σ' H2 ⟨s2,b,o5,_,rfl⟩;have rw2:=rw1.t s2.t;obtain⟨ws,wl,hws⟩:=rw2.ws;have hl2:=s2 _ _ hl1;have he2:=s2 _ _ he1;have ys6:ys.length<=6:=by rw[ylen];exact psl
   exists _,rfl,_,rfl,l,_,_,_,rfl,rfl,aS.of hl2,hat,ke,rfl,⟨_,aS.of he2⟩;refine cC (xs:=ys) (fun j _=>(ws[j]?).map V.ref) (aS.of he2) (qAo (aK (by lia))) (fun j x H4 kk kk0 s4 hx g1 g2=>?_) fun lw H3 hlw s3 hd3=>?_
   .obtain⟨a,w',p,hp,hw',rfl,ha,hw⟩:=hws j x hx;have g1':eV [V.int p.1,V.ref w'] 1=some (.ref w'):=rfl;exists _,rfl,a,_,_,_,rfl,rfl,cE.of (s4 _ _ ha),g1';exact g1 _ (by rw[hw'];rfl) _ (.refl _)
   have e3:H3 lw=some (.lst (ws.map V.ref)):=by
    rw[hd3];refine congrArg (fun l=>some (HO.lst l)) ?_;have e:((qAk ys.length).filterMap fun i=>(ys[i]?).bind fun _=>(ws[i]?).map V.ref)=(qAk ws.length).filterMap fun i=>(ws[i]?).bind fun w=>some (V.ref w):=by
     rw[ylen,<- wl];refine dI fun i hi=>?_;have hi:=List.mem_range.mp hi;rw[qAc (l:=ys) (by lia),qAc hi];rfl
    rw[e,pZ,qDo]
   have fl:kC ps.length (pY ps) d H3 lw ws:=⟨e3,wl,fun j w' hw'=>by
    have hj:j<ys.length:=by rw[ylen,<- wl];exact(List.getElem?_eq_some_iff.mp hw').1
    obtain⟨a,w2,p,hp,hw2,_,_,hw⟩:=hws j _ (qAc hj);rw[hw'] at hw2;obtain rfl:=Option.some.inj hw2;rw[s3 _ _ hw,AG hp]⟩
   refine⟨lw,ps.length,_,d,ws,rfl,fl,d0,sd,fun L lo=>?_⟩;have L0:=lo.pos;have sL:Sm 6000 L:=sd.le (by have:=qEe d0 lo.dvd;lia);dsimp only[aX];refine⟨_,rfl,m,rfl,by lia,by lia,?_⟩;refine dJ (n:=m) (fun h' σ' H'=>aH H3 H'/\∃o7 o8:Option V,σ'=[some (.ref l),some (.int (m:Int)),some (.ref lg),some (.int (0+(h:Int))),some (.int b),o5,some (.int L),o7,o8]) ⟨.refl _,_,_,rfl⟩ (fun h' σ' H4 hh' z9=>?_) (fun σ' H4 z9=>?_)
   .obtain⟨s4,o7,o8,eσ⟩:=z9;subst eσ;dsimp only[aX];have hl4:=s4 _ _ (s3 _ _ hl2);have he4:=s4 _ _ (s3 _ _ he2);have rw4:=(rw2.t s3.t).t s4.t;exists _,rfl,_,rfl,l,_,_,_,rfl,rfl,aS.of hl4,hat,ke,rfl,⟨_,aS.of he4⟩;refine rB (xs:=ys) (fun i zs H'=>∃ws':List Addr,zs=ws'.map V.ref/\ws'.length=(fB h' (ps.take i)).length/\∀(j:Nat) (w:Addr),ws'[j]?=some w->H' w=some (gC (pY (fB h' (ps.take i)) j) d)) ?_ ⟨[],rfl,rfl,fun j w e=>by cases e⟩ (aS.of he4) (qAo (aK (by lia))) (fun i x H5 kk kk0 zs s5 hx iv g1 g2=>?_) fun lz zs H5 hlz s5 iv hd5=>?_
    .rintro i zs H1 H2 st ⟨ws',e1,e2,e3⟩;exact⟨ws',e1,e2,fun j w e=>st _ _ (e3 j w e)⟩
    .obtain⟨ws',rfl,wl',hw'⟩:=iv;obtain⟨a,w',p,hp,rfl,ha,hw⟩:=(rw4.t s5.t).get hx;have p1:=(psm p (qAx hp)).2.1;have g1':eV [V.int p.1,V.ref w'] 1=some (.ref w'):=rfl;have et:ps.take (i+1)=ps.take i++[p]:=by rw[qEy,hp];rfl
     have eb:=GQ (i:=p.1) (h:=h') (by lia);refine⟨_,rfl,a,_,_,_,rfl,rfl,cE.of ha,rfl,_,rfl,_,_,rfl,rfl,(by show 0<=(0:Int)+(h':Int);lia),_,_,rfl,rfl,rfl,_,rfl,cK (fun h3=>?_) (fun h3=>?_)⟩
     .have z:=V.int.inj (of_decide_eq_true h3);rw[eb] at z;have z:p.1.toNat/2^h'%2=1:=by lia
      refine⟨_,rfl,a,_,_,_,rfl,rfl,cE.of ha,g1',g1 _ _ (.refl _) ⟨ws'++[w'],by rw[qAr];rfl,?_,fun j u e=>?_⟩⟩
      .rw[et,oQ,if_pos z,qAj,qAj,wl'];rfl
      .rw[et,oQ,if_pos z];rcases qAm j ws'.length with q | q
       .rw[qAy q] at e;rw[hw' j u e];delta pY;rw[qAf,qAf,qAy (by rw[<- wl'];exact q)]
       .rw[qAz q] at e;have hj:j-ws'.length=0:=by
         have:=(List.getElem?_eq_some_iff.mp e).1;rw[qBf] at this;lia
        rw[hj] at e;obtain rfl:=Option.some.inj e;rw[hw,AG (p:=p)];rw[qAz (by rw[<- wl'];exact q),<- wl',hj];rfl
     .have z:¬p.1.toNat/2^h'%2=1:=fun z=>h3 (decide_eq_true (by show V.int (qCu _ 1)=V.int 1;rw[eb,z];rfl));refine g2 _ (.refl _) ⟨ws',rfl,?_,?_⟩
      .rw[et,oQ,if_neg z];exact wl'
      .rw[et,oQ,if_neg z];exact hw'
    .obtain⟨ws',rfl,wl',hw'⟩:=iv;rw[ylen,qEg] at wl' hw';have fsub:∀p,p∈fB h' ps->p∈ps:=fun p hp=>(List.mem_filter.mp hp).1;have fl6:(fB h' ps).length<=6:=qCy (qEw _ _) psl;have lo':Gn (fB h' ps).length (pY (fB h' ps)) d L:=⟨L0,lo.dvd,fun j hj=>by
      obtain⟨p,hp,e⟩:=HZ hj;obtain⟨i,hi,ei⟩:=qCv (fsub p hp);have z:=lo.all i hi;rw[AG (qAc hi),ei] at z;rw[e];exact z⟩
     have sY:∀j,Sm 310000 (pY (fB h' ps) j):=fun j=>by
      rcases qAm j (fB h' ps).length with q | q
      .obtain⟨p,hp,e⟩:=HZ q;rw[e];exact(psm p (fsub p hp)).2.2.2.2
      .delta pY;rw[qAf,qAv q];exact Sm.zero
     refine⟨_,rfl,lz,(fB h' ps).length,pY (fB h' ps),d,L,ws',rfl,⟨hd5,wl',hw'⟩,by lia,d0,sd,sY,lo',fun DT H6 tt hDT s6 hdt et st=>?_⟩;dsimp only[aX];refine⟨_,rfl,DT,(qAk (fB h' ps).length).map tt,rfl,.inl (aS.of (by rw[hdt,iM])),?_⟩;have eS:((qAk (fB h' ps).length).map tt).sum=L*(if decide (V.int (0+(h':Int))=V.int (0+(h:Int)))=true then 1 else 0):=by
      rw[Au];have z:=pS (n:=(fB h' ps).length) (a:=fun _=>1) (t:=tt) (X:=pY (fB h' ps)) (d:=d) (L:=L) et;have o1:∀G:Nat->Int,(Wg.sm (fB h' ps).length fun j=>1*G j)=Wg.sm (fB h' ps).length G:=fun G=>Wg.bC fun j _=>qCm _;rw[o1,o1,OC] at z;have b1:=AH h' ps fun p hp=>by have:=(psm p hp).2.1;lia
      have b1:((fB h' ps).map Prod.snd).sum=bt (2^h) h'*d:=b1.trans (ksum h' hh');rw[b1,t9 ⟨h,by lia⟩ ⟨h',by lia⟩] at z;have eI:(if decide (V.int (0+(h':Int))=V.int (0+(h:Int)))=true then (1:Int) else 0)=Cm.e1 h h':=by
       show _=if h'=h then (1:Int) else 0;by_cases q:h'=h
       .rw[if_pos q,q,if_pos (decide_eq_true rfl)]
       .rw[if_neg q,if_neg fun y=>q (by have:=V.int.inj (of_decide_eq_true y);lia)]
      rw[eI];refine qEu (show d≠0 by lia) ?_;rw[z];show Cm.e1 h h'*d*L=L*Cm.e1 h h'*d;generalize Cm.e1 h h'=e;rw[qCt L e,qEm,qEm,qCt d L]
     have mbb:uZ L (if decide (V.int (0+(h':Int))=V.int (0+(h:Int)))=true then (1:Int) else 0):=sL.mb (n:=2) (by split <;> exact Sm.of 2 #[1] #[1])
     refine⟨_,rfl,_,rfl,_,rfl,rfl,.inr ⟨_,rfl,_,_,rfl,rfl,mbb,rfl,_,rfl,iZ (congrArg V.int eS) ?_⟩⟩;exact⟨s4.trans (s5.trans s6),_,_,rfl⟩
   .obtain⟨s4,o7,o8,eσ⟩:=z9;subst eσ;exact⟨s1.trans (s2.trans (s3.trans s4)),_,_,_,_,_,_,rfl⟩
 .obtain⟨s1,o3,o4,o5,o6,o7,o8,eσ⟩:=z9;subst eσ;exact k H1 s1
theorem Ml(h:2<=n):fR (bF n g) (some 1) (some (-1))=bF (n-2) fun j=>g (j+1):=by
 delta fR;have e1:HT.eU (bF n g).length 0 (some 1)=1:=by
  rw[show(1:Int)=((1:Nat):Int) from rfl,HT.lD,aL];lia
 have e2:HT.eU (bF n g).length (bF n g).length (some (-1))=n-1:=by
  rw[aL];delta HT.eU;simp;lia
 rw[e1,e2];refine qEn fun i=>?_;rcases qAm i (n-2) with h | h
 .rw[qHq (by lia),qHh,dQ (by lia),dQ h,qJx]
 .rw[qAv (by rw[qEh,qEt,aL];lia),qAv (by rw[aL];lia)]
theorem Ib(lf:Nat->Int)(s:Int):∀k,((qAk k).filterMap fun i=>if s<=lf (i+1) then some (V.int (1+(i:Int))) else none)=a9 (Fd lf s k)
 | 0=>rfl
 | k+1=>by
  rw[qBm,qBx,Ib lf s k,qC,qCh,qJj];by_cases z:s<=lf (k+1)
  .rw[if_pos z,if_pos z];delta a9;rw[qAr];show _++[V.int (1+(k:Int))]=_++[V.int ((k+1:Nat):Int)];rw[show(1+(k:Int))=((k+1:Nat):Int) by lia]
  .rw[if_neg z,if_neg z,qDp]
theorem GR(gs:List Nat)(X:Nat->Int):((As gs X gs.length).map fun p=>V.int p.1)=a9 gs:=by
 delta As a9;rw[qCn];refine qEn fun i=>?_;rw[qAn,qAn];rcases qAm i gs.length with h | h
 .rw[qCw h,qAc h];show some (V.int ((gN gs i:Nat):Int))=some (V.int ((gs[i]:Nat):Int));rw[fU (qAc h)]
 .rw[qAv (by rw[qAu];exact h),qAv h];rfl
theorem uD(gs:List Nat)(X c:Nat->Int):∀k,((As gs X k).map fun p=>c p.1.toNat*p.2).sum=Wg.sm k fun j=>c (gN gs j)*(X 0+X (j+1))
 | 0=>rfl
 | k+1=>by
  have ih:=uD gs X c k;show _=(Wg.sm k fun j=>c (gN gs j)*(X 0+X (j+1)))+c (gN gs k)*(X 0+X (k+1));rw[wN,qAr,qFf,ih,qCz,qEv,qGs,qMa,qDn];show _+c ((gN gs k:Nat):Int).toNat*(X 0+X (k+1))=_;rw[qBb]
theorem Mm(m1:1<=m)(m6:m<=6)(hn:n=2^m)(sX:∀j,Sm 300000 (X j))(x0:0<X 0)(xn:∀j,0<=X j)(dx0:0<dx)(hs:∀i,i<m->(Wg.sm (iO m lk l).length fun j=>bt (gN (iO m lk l) j) i*(X 0+X (j+1)))=dx):
  Qt m n (fun g=>if g=n-1 then -1 else 0) dx (As (iO m lk l) X (iO m lk l).length):=by
 have p64:=i8 m6;have gl:=uA m6 lk l;have mem:∀p,p∈As (iO m lk l) X (iO m lk l).length->∃j,j<(iO m lk l).length/\p=((gN (iO m lk l) j:Int),X 0+X (j+1)):=fun p hp=>by
  delta As at hp;obtain⟨j,hj,e⟩:=List.mem_map.mp hp;exact⟨j,List.mem_range.mp hj,e.symm⟩
 have gp:∀j,j<(iO m lk l).length->Pr m (gN (iO m lk l) j):=fun j hj=>(iP.mp (k9 hj)).1;refine⟨by delta As;rw[qAa,qAu];lia,fun p hp=>?_,?_,fun i hi=>?_,?_⟩
 .obtain⟨j,hj,rfl⟩:=mem p hp;have pg:=gp j hj;have:=xn (j+1);refine⟨by show(1:Int)<=((gN (iO m lk l) j:Nat):Int);have:=pg.1;lia,by show((gN (iO m lk l) j:Nat):Int)<(n:Int);have:=pg.2;lia,by show 1<=X 0+X (j+1);lia,((sX 0).add (sX (j+1))).mono #[1]⟩
 .delta As;rw[qNr];refine List.Pairwise.imp_of_mem (fun {a b} ha hb h=>?_) (qIb (n:=(iO m lk l).length));have ha:=List.mem_range.mp ha;have hb:=List.mem_range.mp hb;have z:=List.pairwise_iff_getElem.mp (EL m lk l) a b ha hb h;have e1:gN (iO m lk l) a=(iO m lk l)[a]:=fU (qAc ha);have e2:gN (iO m lk l) b=(iO m lk l)[b]:=fU (qAc hb);show((gN (iO m lk l) a:Nat):Int)<((gN (iO m lk l) b:Nat):Int);rw[e1,e2];lia
 .rw[uD _ X (fun g=>bt g i)];exact hs i hi
 .rw[uD _ X (fun g=>if g=n-1 then -1 else 0),if_pos rfl,Wg.cL fun j hj=>by
   have:=(gp j hj).2;rw[if_neg (by lia),qBi]]
  lia
theorem GS(d0:0<d)(e:s*d=l*L):ta l d*L=s*tb l d:=by
 obtain⟨t1,_,_,_⟩:=dD (X:=l) d0;refine qEu (show d≠0 by lia) ?_;generalize ta l d=a at t1;generalize tb l d=b at t1;have e1:a*L*d=a*d*L:=by rw[qEm,qCt L d,<- qEm]
 have e2:s*b*d=s*d*b:=by rw[qEm,qCt b d,<- qEm]
 rw[e1,e2,t1,e,qEm,qCt b L,<- qEm]
def Ic(K:qAd):Sp:=fun vs H Q _=>∃(l ll:Addr) (m n:Nat) (lk lf:Nat->Int) (d L:Int) (ds:List Int) (es:List Addr) (tl:List Nat),vs=[.ref l,.ref ll,.int L,.int (m:Int)]/\H ll=some (.lst (bF n lf))/\n=2^m/\1<=m/\m<=6/\0<d/\Sm 6000 d/\0<L/\Sm 6000 L/\(∀g,lf g*d=lk g*L)/\(∀g,Sm 400000 (lf g))/\(∀g,Sm 400000 (lk g))/\BY m lk ds/\BZ m lk d ds H l es tl /\
 ∀(lg:Addr) (H':Hp) (gs:List Nat),aH H H'->H' lg=some (.lst (a9 gs))->(es=[]->gs=[])->(∀x,es≠[]->ds[ds.length-es.length]?=some x->gs=iO m lk x)->Q (.ref lg) H'
theorem r9:aV ["_law_found","_law_lacks","_law_low_here","_law_many","_law_due","_law_groups","_law_row","_law_lack"] ["_law_found","_law_lacks","_law_low_here","_law_many"] (aI KC):=#[1,2]
theorem Mn(t:Tx K mg "_law_levels" KC ["_law_found","_law_lacks","_law_low_here","_law_many"] f fd)(T:#[4])(D_law_fraction:#[5] 2 "_law_fraction" ["_law_found"] wW f1 fd1)(D_law_weighing:#[5] 3 "_law_weighing" ["_law_found","_law_many","_law_groups"] (HY K) f2 fd2):
  #[5] 4 "_law_levels" ["_law_found","_law_lacks","_law_low_here","_law_many"] (Ic K) f fd:=by
 refine t.gO r9 (by rintro _ _ _ _⟨l,ll,m,n,lk,lf,d,L,ds,es,tl,rfl,_⟩;rfl) fun _ _ _ s H vs Q E hr h=>?_;obtain⟨l,ll,m,n,lk,lf,d,L,ds,es,tl,rfl,hll,hn,m1,m6,d0,sd,L0,sL,sc,slf,slk,GN,qQ,k⟩:=h;refine⟨_,(aC (bO (bZ (bX (aJ cN #[0] T.eX dY (aA (pv 0) (aA (cV (v:=.ty "list") #[0] T.cR cW rfl) aB))))) (aF (aT dU)) aZ)
  (aC (aP (i:=4) r9.nd rfl bN (lV #[0] T.i7 #[0] T.rQ rfl (aA (g7 lG (pv 1) (gM aE) (gM (jG gH aE))) aB)))
  (aC (aP (i:=5) r9.nd rfl bN (bQ aB))
  (aC (cF #[9] rfl (bL (pv 0)) (aO (i:=6) r9.nd rfl bN)
   (aC (bO (PW.pt (pw_or (aU (CG hr.units) (pv 4) (bQ aB) (aW _)) (pw_or (bZ (bX (aJ cN #[0] T.eX dY (aA (pv 6) (aA (cV (v:=.ty "tuple") #[0] T.gU jQ rfl) aB))))) (pw_or (aU fI (aJ aN #[0] T.bV bH (aA (pv 6) aB)) aE (aW _)) (pw_or1 (bZ (bX (aY D_law_fraction hr #[1] #[0] (aA (aQ bB (pv 6) aE #[6]) aB))))))))) (aF (aT dU)) aZ)
   (aC (aP (i:=7) r9.nd rfl #[3] (Cs qCr PySem.F.slot_list_pop PySem.F.type_list_pop FL (pv 4)))
   (aC (bO (aU fI (aM bK (aQ bB (aQ bB (pv 6) aE #[6]) aE #[6]) (pv 2)) (aM bK (pv 7) (aQ bB (aQ bB (pv 6) aE #[6]) aE #[6])) (aW _)) (aF (aT dU)) aZ)
   (aC (eJ (NB:=["_law_group","_law_lack","_law_lacks"]) (pick:=[none,some 7,some 1]) (i:=5) r9.nd rfl bN #[0] (bG #[7] (by exact(And.intro rfl (And.intro rfl trivial))) rfl #[2] #[2] #[0] #[0]) rfl
    (gZ #[0] T.bW (aA aE (aA (aM fG (aJ aN #[0] T.bV bH (aA (pv 1) aB)) aE) aB))) (fun _ _ _=>aO (i:=0) #[8,["_law_group","_law_lack","_law_lacks"]] rfl bN)
    (fun _ _ _=>eF (aU zE (aQ (bU K) (pv 2) (pv 0) #[6]) (pv 1) (aW _))) (fun _ _ _=>(pv 0)))
   (aF (bO (aU sN (aY D_law_weighing hr #[1] #[0] (aA (aQ bB (pv 6) aE #[6]) (aA (pv 3) (aA (pv 5) aB)))) dU (aW _)) (aF (aT dU)) aZ)))))))
  (aF (aT (pv 5))))))),?_⟩
 have hl:=qQ.hl;have n64:n<=64:=by rw[hn];exact i8 m6
 have n2:2<=n:=by rw[hn];exact qBh (n:=2) (i:=1) #[1] m1
 refine⟨_,rfl,.ref l,.ty "list",_,_,_,rfl,rfl,.of (.lst hl),Kd.lst.nO K,_,rfl,cM ?_⟩;refine⟨_,rfl,_,rfl,_,rfl,_,rfl,ll,_,rfl,aS.of hll,fun l1 hl1=>?_⟩;show iR _ (upd H l1 (.lst (fR (bF n lf) (some 1) (some (-1))))) _;rw[Ml n2,iM];have u1:=aH.aG (o:=.lst (((qAk (n-2)).map fun j=>lf (j+1)).map V.int)) hl1;have e1:upd H l1 (.lst (((qAk (n-2)).map fun j=>lf (j+1)).map V.int)) l1=_:=aD;generalize upd H l1 (.lst (((qAk (n-2)).map fun j=>lf (j+1)).map V.int))=H1 at u1 e1|-;refine⟨l1,_,rfl,aS.of e1,by rw[qAa,qAu];lia,fun ld ms hld mm up=>?_⟩;have u2:=aH.aG (o:=.lst (ms.map V.int)) hld;have e2:upd H1 ld (.lst (ms.map V.int)) ld=_:=aD;generalize upd H1 ld (.lst (ms.map V.int))=H2 at u2 e2|-;have ls:BY m lf ms:=⟨up,fun kk=>by
  rw[mm,qGi];constructor
  .rintro⟨j,hj,rfl⟩;have hj:=List.mem_range.mp hj;exact⟨j+1,⟨by lia,by lia⟩,rfl⟩
  .rintro⟨g,pg,rfl⟩;refine⟨g-1,List.mem_range.mpr (by have:=pg.1;have:=pg.2;lia),?_⟩;rw[show g-1+1=g by have:=pg.1;lia]⟩
 have eqs:=ls.scale d0 L0 GN sc;have lenE:ms.length=ds.length:=by
  have:=congrArg qMv eqs;rwa [qAa,qAa] at this
 have atE:∀(i:Nat) (s l:Int),ms[i]?=some s->ds[i]?=some l->s*d=l*L:=fun i s l h1 h2=>by
  have z:=congrArg (fun(q:List Int)=>q[i]?) eqs;rw[qAn,qAn,h1,h2] at z;exact Option.some.inj z
 dsimp only[aX];refine⟨by simp[qCc],fun l3 hl3=>?_⟩;have u3:=aH.aG (o:=.lst (a9 [])) hl3;have e3:upd H2 l3 (.lst (a9 [])) l3=_:=aD;show aX _ _ _ (upd H2 l3 (.lst (a9 []))) _;generalize upd H2 l3 (.lst (a9 []))=H3 at u3 e3|-;dsimp only[aX];have s03:=u1.trans (u2.trans u3);have h0d:H ld=none:=u1.free hld;exists _,rfl,l,rfl,⟨_,aS.of (s03 _ _ hl)⟩;refine dX (xs:=es.map V.ref) (fun j σ' H'=>aH H H'/\∃(lg:Addr) (gs:List Nat) (o6 o7:Option V),H' ld=some (.lst ((ms.take (ms.length-j)).map V.int))/\H' lg=some (.lst (a9 gs))/\lg≠ld/\(j=0->gs=[])/\(∀x,j≠0->ds[ds.length-j]?=some x->gs=iO m lk x)/\σ'=[some (.ref l),some (.ref ll),some (.int L),some (.int (m:Int)),some (.ref ld),some (.ref lg),o6,o7]) ⟨s03,l3,[],_,_,by rw[qMi,qEg];exact u3 _ _ e2,e3,(fun z=>by rw[z,e2] at hl3;cases hl3),fun _=>rfl,fun _ z=>absurd rfl z,rfl⟩ ?_ ?_ ?_
 .rintro j σ' H' _ ⟨s',_⟩;exact aS.of (s' _ _ hl)
 .rintro j x σ' H4 hx ⟨s4,lg,gs,o6,o7,hd4,hg4,ne4,g0,g1,rfl⟩;obtain⟨e,he,rfl⟩:=dB hx;have hj:j<es.length:=(List.getElem?_eq_some_iff.mp he).1;have hle:=qQ.le;obtain⟨lv,hlv,lve⟩:=qQ.at_ j e he;obtain⟨fa,wa,ys,dx,X,le1,le2,le3,_,rw0,dx0,sdx,sX,x0,xn,hs⟩:=lve.same s4;obtain⟨sv,hsv⟩:∃sv,ms[ms.length-1-j]?=some sv:=⟨_,qAc (by lia)⟩;have hsd:sv*d=lv*L:=atE _ sv lv hsv (by rw[lenE];exact hlv);dsimp only[aX];refine⟨_,rfl,by simp[qCc],fun l5 hl5=>?_⟩;have u5:=aH.aG (o:=.lst (([]:List Int).map V.int)) hl5;have e5:upd H4 l5 (.lst (([]:List Int).map V.int)) l5=_:=aD;show FF _ _ _ _ (upd H4 l5 (.lst (([]:List Int).map V.int))) _;generalize upd H4 l5 (.lst (([]:List Int).map V.int))=H5 at u5 e5|-;exists ld,l5,_,_,rfl,rfl,aS.of (u5 _ _ hd4),aS.of e5,_,rfl;have ndue:ms.take (ms.length-j)≠[]:=fun z=>by
   have:=congrArg qMv z;rw[qEh] at this;simp at this;lia
  show if decide (ms.take (ms.length-j)=[])=true then _ else _;rw[decide_eq_false ndue];refine cM ?_;have le1':=u5 _ _ le1;have le2':=u5 _ _ le2;have a0:eV [V.ref fa,V.ref wa] 0=some (.ref fa):=rfl;have a1:eV [V.ref fa,V.ref wa] 1=some (.ref wa):=rfl;refine⟨_,rfl,.ref e,.ty "tuple",_,_,_,rfl,rfl,.of (.tup le1'),Kd.tup.pA K,_,rfl,cM ⟨_,rfl,e,_,rfl,.inr (cE.of le1'),rfl,_,rfl,iZ rfl ?_⟩⟩;refine⟨_,rfl,e,_,_,_,rfl,rfl,cE.of le1',a0,fa,_,d,rfl,le2',d0,_,rfl,cM ?_⟩;have hd5:=u5 _ _ hd4;have tk:ms.take (ms.length-j)=ms.take (ms.length-(j+1))++[sv]:=by
   have:ms.length-j=ms.length-(j+1)+1:=by lia
   rw[this,qEy,show ms.length-(j+1)=ms.length-1-j by lia,hsv];rfl
  have hy:((ms.take (ms.length-j)).map V.int)[((ms.take (ms.length-j)).map V.int).length-1]?=some (V.int sv):=by
   rw[tk,qAr,qAj];simp
  have hdl:((ms.take (ms.length-j)).map V.int).dropLast=(ms.take (ms.length-(j+1))).map V.int:=by
   rw[tk,qAr];simp
  exists _,rfl,.inl ⟨rfl,_,aS.of hd5⟩,ld,_,_,rfl,rfl,hd5,hy;rw[hdl];have nD:∀{b o},H b=some o->b≠ld:=fun {b o} e z=>by rw[z,h0d] at e;cases e
  have s5:=s4.trans u5;have s6:aH H (upd H5 ld (.lst ((ms.take (ms.length-(j+1))).map V.int))):=s5.upd_ne' h0d;have e6:upd H5 ld (.lst ((ms.take (ms.length-(j+1))).map V.int)) ld=_:=aD;generalize upd H5 ld (.lst ((ms.take (ms.length-(j+1))).map V.int))=H6 at s6 e6|-;obtain⟨fa',wa',ys',dx',X',m1',m2',m3',_,rw6,dx6,sdx6,sX6,x06,xn6,hs6⟩:=lve.same s6;dsimp only[aX];have a0':eV [V.ref fa',V.ref wa'] 0=some (.ref fa'):=rfl;have a1':eV [V.ref fa',V.ref wa'] 1=some (.ref wa'):=rfl;obtain⟨gv,_,egv⟩:=(ls.2 sv).mp (qAx hsv);have ssv:Sm 400000 sv:=by rw[<- egv];exact slf gv
  obtain⟨gl,_,egl⟩:=(GN.2 lv).mp (qAx hlv);have slv:Sm 400000 lv:=by rw[<- egl];exact slk gl
  refine⟨_,rfl,e,_,_,_,rfl,rfl,cE.of m1',a0',fa',_,_,_,rfl,rfl,cE.of m2',rfl,_,rfl,_,_,rfl,rfl,(mE slv).mb sL,_,rfl,_,rfl,e,_,_,_,rfl,rfl,cE.of m1',a0',fa',_,_,_,rfl,rfl,cE.of m2',rfl,_,_,rfl,rfl,ssv.mb (kR d0 sd),rfl,_,rfl,iZ (congrArg V.int (GS d0 hsd)) ?_⟩;have hll6:=s6 _ _ hll;exists _,rfl,ll,_,rfl,.inl (aS.of hll6),_,_,rfl,rfl,1,_,rfl,?_
  .rw[aL];lia
  rw[aL,show(((n:Nat):Int)-1-1).toNat=n-2 by lia];refine fN (lo:=1) (n:=n-2) (fun i=>if sv<=lf (i+1) then some (V.int (1+(i:Int))) else none) (qAo (aK (by lia))) (fun i H7 kk kk0 s7 hi h1 h2=>?_) fun lgN H7 hlgN s7 hd7=>?_
  .have hat:eV (bF n lf) (1+(i:Int))=some (.int (lf (i+1))):=by
    have z:=bR (f:=lf) (n:=n) (j:=i+1) (by lia);rw[show((i+1:Nat):Int)=1+(i:Int) by lia] at z;exact z
   refine⟨_,rfl,_,rfl,ll,_,_,_,rfl,rfl,aS.of (s7 _ _ hll6),hat,_,rfl,_,_,rfl,rfl,_,rfl,cK (fun h3=>?_) (fun h3=>?_)⟩
   .exact⟨_,rfl,h1 _ (by rw[if_pos (of_decide_eq_true h3)]) _ (.refl _)⟩
   .exact h2 (by rw[if_neg fun y=>h3 (decide_eq_true y)]) _ (.refl _)
  rw[Ib] at hd7;have eG:Fd lf sv (n-2)=iO m lk lv:=by
   have z:Fd lf sv (n-2)=iO m lf sv:=by rw[hn];rfl
   rw[z];exact r8 d0 L0 sc hsd
  rw[eG] at hd7;refine⟨_,rfl,e,_,_,_,rfl,rfl,cE.of (s7 _ _ m1'),a1',_,rfl,_,rfl,wa',lgN,m,n,_,dx',ys',_,rfl,s7 _ _ m3',rw6.t s7.t,by rw[GR];exact hd7,m6,n64,dx6,sdx6,Mm m1 m6 hn sX6 x06 xn6 dx6 hs6,fun D DT H8 L' tt s8 hD8 _ _ _ _ _=>?_⟩;exists rfl,_,rfl;show if decide (V.ref D=V.non)=true then _ else _;rw[decide_eq_false fun z=>by cases z];have s68:=s7.trans s8;refine cM ⟨s6.trans s68,lgN,iO m lk lv,_,_,s68 _ _ e6,s8 _ _ hd7,(fun z=>by rw[z,e6] at hlgN;cases hlgN),(fun z=>by lia),fun x _ hx=>?_,rfl⟩;rw[show ds.length-(j+1)=ds.length-1-j by lia,hlv] at hx;rw[Option.some.inj hx]
 .rintro σ' H4 ⟨s4,lg,gs,o6,o7,hd4,hg4,_,g0,g1,rfl⟩;rw[qAa] at g0 g1;exact⟨_,rfl,k lg H4 gs s4 hg4 (fun z=>g0 (by rw[z];rfl)) fun x ne hx=>g1 x (fun z=>ne (qGn z)) hx⟩
theorem nU.tl{m:Nat}{tb:Nat->Int}{H H':Hp}{R lp lv lk:Addr}{ps es kes:List Addr}{Z:Nat->Int}{d ev:Int}{ks:List Nat}{ds:List Int}{tl gs:List Nat}(m1:1<=m)(m6:m<=6)(c:nU m tb H H' R lp lv lk ps es kes Z d ev ks ds tl)(g0:es=[]->gs=[])(g1:∀x,es≠[]->ds[ds.length-es.length]?=some x->gs=iO m (fun g=>tb g*d-Cm.pt m bt Z g) x):
  (∀g,g∈tl->g∈gs++[2^m-1]/\1<=g/\g<64)/\tl.Pairwise (· < ·)/\gs.length<=62:=by
 have p64:=i8 m6;have p2:2<=2^m:=qBh (n:=2) (i:=1) #[1] m1;by_cases e:es=[]
 .rw[c.qQ.t0 e,g0 e];exact⟨fun g hg=>⟨hg,by rw[List.mem_singleton.mp hg];omega⟩,List.pairwise_singleton _ _,by decide⟩
 .have hl:=List.length_pos_iff.mpr e;have le:=c.qQ.le;obtain⟨x,hx⟩:∃x,ds[ds.length-es.length]?=some x:=⟨_,qAc (by omega)⟩;rw[c.qQ.t1 x e hx,g1 x e hx];refine⟨fun g hg=>?_,(EL m _ x).sublist (t8 m _),uA m6 _ _⟩;have hm:=(t8 m _).subset hg;have pg:=(iP.mp hm).1;exact⟨qCb _ hm,pg.1,by have:=pg.2;omega⟩
def Ie(K:qAd):Sp:=fun vs H Q _=>∃(R lt:Addr) (m n:Nat) (tb:Nat->Int) (H0:Hp) (lp lv lk:Addr) (ps es kes:List Addr) (Z:Nat->Int) (d ev:Int) (ks:List Nat) (ds:List Int) (tl:List Nat),vs=[.ref R,.ref lt,.int (m:Int)]/\H lt=some (.lst (bF n tb))/\n=2^m/\1<=m/\m<=6/\(∀j,Sm 80000 (tb j))/\nU m tb H0 H R lp lv lk ps es kes Z d ev ks ds tl/\∀H',aH H H'->Q (.bl true) H'
theorem wY:aV ["_law_found","_law_table","_law_many","_law_low_here","_law_tops_here","_law_lacks","_law_groups"] ["_law_found","_law_table","_law_many"] (aI KD):=#[1,2]
theorem Mo{f1 f2 f3 f4 f5 f6:Addr}{fd1 fd2 fd3 fd4 fd5 fd6:qCo}(t:Tx K mg "_law_calm" KD ["_law_found","_law_table","_law_many"] f fd)(T:#[4])(D_law_fractions:#[5] 3 "_law_fractions" ["_law_found","_law_many"] HV f1 fd1)(D_law_low:#[5] 2 "_law_low" ["_law_numbers"] AA f2 fd2)(D_law_tops:#[5] 1 "_law_tops" ["_law_numbers","_law_low_here"] AD f3 fd3)(D_law_share:#[5] 1 "_law_share" ["_law_tops_here","_law_group"] (HX K) f4 fd4)(D_law_levels:#[5] 4 "_law_levels" ["_law_found","_law_lacks","_law_low_here","_law_many"] (Ic K) f5 fd5)(D_law_keys:#[5] 3 "_law_keys" ["_law_found","_law_many","_law_groups"] (Ia K) f6 fd6):
  #[5] 5 "_law_calm" ["_law_found","_law_table","_law_many"] (Ie K) f fd:=by
 refine t.gO wY (by rintro _ _ _ _⟨R,lt,m,n,tbl,H0,lp,lv,lk,ps,es,kes,Z,d,ev,ks,ds,tl,rfl,_⟩;rfl) fun _ _ _ _ H vs Q E hr h=>?_;obtain⟨R,lt,m,n,tbl,H0,lp,lv,lk,ps,es,kes,Z,d,ev,ks,ds,tl,rfl,hlt,hn,m1,m6,st,c,k⟩:=h;refine⟨_,(aC (bO (PW.pt (pw_or (bZ (bX (aJ cN #[0] T.eX dY (aA (pv 0) (aA (cV (v:=.ty "tuple") #[0] T.gU jQ rfl) aB))))) (pw_or (aU fI (aJ aN #[0] T.bV bH (aA (pv 0) aB)) aE (aW _)) (pw_or1 (bZ (bX (aY D_law_fractions hr #[1] #[0] (aA (aQ bB (pv 0) aE #[6]) (aA (pv 2) aB))))))))) (aF (aT fL)) aZ)
  (aC (aP (i:=3) wY.nd rfl #[3] (aY D_law_low hr #[1] #[0] (aA (aQ bB (pv 0) aE #[6]) aB)))
  (aC (aP (i:=4) wY.nd rfl #[3] (aY D_law_tops hr #[1] #[0] (aA (aQ bB (pv 0) aE #[6]) (aA (pv 3) aB))))
  (aC (eJ (NB:=["_law_group","_law_low_here","_law_table","_law_tops_here"]) (pick:=[none,some 3,some 1,some 4]) (i:=5) wY.nd rfl bN #[0] (bG #[7] (by exact(And.intro rfl (And.intro rfl (And.intro rfl trivial)))) rfl #[2] #[2] #[0] #[0]) rfl
    (bY #[0] T.bW (aA (aJ aN #[0] T.bV bH (aA (pv 1) aB)) aB)) (fun _ _ _=>aO (i:=0) #[8,["_law_group","_law_low_here","_law_table","_law_tops_here"]] rfl bN)
    (fun _ _ _=>bJ) (fun _ _ _=>(aM fG (aM bK (aQ (bU K) (pv 2) (pv 0) #[6]) (pv 1)) (aY D_law_share hr #[1] #[0] (aA (pv 3) (aA (pv 0) aB))))))
  (aC (bO (aU fI (aQ a8 (pv 5) (jG gH aE) #[6]) aE (aW _)) (aF (aT fL)) aZ)
  (aC (aP (i:=6) wY.nd rfl bN (aY D_law_levels hr #[1] #[0] (aA (aQ bB (pv 0) aE #[6]) (aA (pv 5) (aA (pv 3) (aA (pv 2) aB))))))
  (aF (aT (kU (eD zF (pv 6) dU (aW _)) (jK (aY D_law_keys hr #[1] #[0] (aA (aQ bB (pv 0) aE #[6]) (aA (pv 2) (aA (aM eM (pv 6) (bQ (aA (aM fG (aJ aN #[0] T.bV bH (aA (pv 1) aB)) aE) aB))) aB)))))))))))))),?_⟩
 have n64:n<=64:=by rw[hn];exact i8 m6
 have n2:2<=n:=by rw[hn];exact qBh (n:=2) (i:=1) #[1] m1
 have cst:=c.cst;have d0:=cst.d0;have kl:ks.length<=32:=by have:=cst.cnt;lia
 have sd:Sm 6000 d:=cst.sd.mono (by lia);have sZ:∀i,Sm 310000 (Z i):=fun i=>(cst.sZ i).mono (by lia);have htup:=c.tup;have a0:eV [V.ref lp,V.ref lv,V.ref lk] 0=some (.ref lp):=rfl;have a1:eV [V.ref lp,V.ref lv,V.ref lk] 1=some (.ref lv):=rfl;have a2:eV [V.ref lp,V.ref lv,V.ref lk] 2=some (.ref lk):=rfl;refine⟨_,rfl,.ref R,.ty "tuple",_,_,_,rfl,rfl,.of (.tup htup),Kd.tup.pA K,_,rfl,cM ⟨_,rfl,R,_,rfl,.inr (cE.of htup),rfl,_,rfl,iZ rfl ?_⟩⟩;refine⟨_,rfl,R,_,_,_,rfl,rfl,cE.of htup,a0,_,rfl,lp,m,Z,d,ps,rfl,c.fl,d0,_,rfl,cM ?_⟩;refine⟨_,rfl,R,_,_,_,rfl,rfl,cE.of htup,a0,lp,m,Z,d,ps,rfl,c.fl,d0,sd,fun L lo=>?_⟩;have L0:=lo.pos;have sL:Sm 6000 L:=sd.le (by have:=qEe d0 lo.dvd;lia);dsimp only[aX];refine⟨_,rfl,R,_,_,_,rfl,rfl,cE.of htup,a0,_,rfl,lp,m,Z,d,L,ps,rfl,c.fl,by lia,d0,sd,sZ,lo,fun DT H1 tt hDT s1 hdt htt stt=>?_⟩;dsimp only[aX];have hlt1:=s1 _ _ hlt;have sc:=wU (tb:=tbl) htt;exists _,rfl,lt,_,rfl,.inl (aS.of hlt1);rw[aL];refine⟨n,rfl,by lia,by lia,?_⟩;refine fN (n:=n) (fun i=>some (.int (oP m tbl tt L i))) (qAo (aK (by lia))) (fun i H2 kk kk0 s2 hi g1 g2=>?_) fun ll H2 hll s2 hd2=>?_
 .have hat:eV (bF n tbl) ((0:Int)+(i:Int))=some (.int (tbl i)):=by rw[qCe];exact bR hi
  refine⟨_,rfl,_,rfl,lt,_,_,_,rfl,rfl,aS.of (s2 _ _ hlt1),hat,_,rfl,_,_,rfl,rfl,(st i).mb sL,_,rfl,_,rfl,DT,m,i,tt,by rw[qCe];rfl,s2 _ _ hdt,by lia,fun H3 s3=>?_⟩;exact⟨_,_,rfl,rfl,g1 _ rfl _ s3⟩
 rw[qDo] at hd2;have hd2:H2 ll=some (.lst (bF n (oP m tbl tt L))):=hd2;dsimp only[aX];have lz:oP m tbl tt L (n-1)=0:=by
  have z:=sc (n-1);rw[hn,cst.whole,Int.sub_self,qBi] at z;rw[hn];exact(Int.mul_eq_zero.mp z).resolve_right (by lia)
 have hlast:eV (bF n (oP m tbl tt L)) (-1)=some (.int (oP m tbl tt L (n-1))):=by
  obtain⟨n',rfl⟩:∃n',n=n'+1:=⟨n-1,by lia⟩;exact jU n' _
 refine⟨_,rfl,_,rfl,ll,_,_,_,rfl,rfl,aS.of hd2,hlast,rfl,_,rfl,iZ (by rw[lz]) ?_⟩;have s02:=s1.trans s2;have slf:∀g,Sm 400000 (oP m tbl tt L g):=fun g=>by
  delta oP;have z1:Sm 86000 (tbl g*L):=((st g).mul sL).mono #[1];have z2:Sm 330000 (Wg.sm m fun i=>bt g i*tt i):=(rT (a:=320002) m fun i _=>((rW g i).mul (stt i)).mono #[1]).mono (by lia);exact((z1.mono #[1]).sub z2).mono #[1]
 have slk:∀g,Sm 400000 (tbl g*d-Cm.pt m bt Z g):=fun g=>by
  have z1:Sm 86000 (tbl g*d):=((st g).mul sd).mono #[1];exact((z1.mono #[1]).sub ((cst.sP m6 g).mono (show 80000+24*ks.length<=90000 by lia))).mono #[1]
 have c2:=c.same s02;refine⟨_,rfl,R,_,_,_,rfl,rfl,cE.of c2.tup,a1,_,rfl,_,rfl,_,rfl,lv,ll,m,n,fun g=>tbl g*d-Cm.pt m bt Z g,_,d,L,ds,es,tl,rfl,hd2,hn,m1,m6,d0,sd,L0,sL,sc,slf,slk,c2.GN,c2.qQ,fun lg H3 gs s3 hg g0 g1=>?_⟩;dsimp only[aX];obtain⟨t1,t2,t3⟩:=c.tl m1 m6 g0 g1;have c3:=c2.same s3;have hlt3:=s3 _ _ (s2 _ _ hlt1);exists _,rfl,rfl;exists _,rfl;rw[if_pos (show(!decide (V.ref lg=V.non))=true by rw[decide_eq_false fun z=>by cases z];rfl)];refine⟨_,rfl,R,_,_,_,rfl,rfl,cE.of c3.tup,a2,_,rfl,_,rfl,_,rfl,lt,_,rfl,.inl (aS.of hlt3),_,_,rfl,rfl,kE,fun l4 hl4=>?_⟩;rw[aL];show zM _ _ _ (upd H3 l4 (.lst [V.int (((n:Nat):Int)-1)])) _;rw[show((n:Nat):Int)-1=((n-1:Nat):Int) by lia];have u4:=aH.aG (o:=.lst (a9 [n-1])) hl4;have e4:upd H3 l4 (.lst (a9 [n-1])) l4=_:=aD;show zM _ _ _ (upd H3 l4 (.lst (a9 [n-1]))) _;generalize upd H3 l4 (.lst (a9 [n-1]))=H4 at u4 e4|-;refine⟨lg,l4,_,_,rfl,rfl,aS.of (u4 _ _ hg),aS.of e4,by rw[bI,bI,qCc];simp;lia,fun l5 hl5=>?_⟩;have u5:=aH.aG (o:=.lst (a9 gs++a9 [n-1])) hl5;have e5:upd H4 l5 (.lst (a9 gs++a9 [n-1])) l5=some (.lst (a9 (gs++[2^m-1]))):=by
  rw[aD,hn];delta a9;rw[qAr]
 generalize upd H4 l5 (.lst (a9 gs++a9 [n-1]))=H5 at u5 e5|-;have c5:=c3.same (u4.trans u5);dsimp only[iR,qCj,qCl];exact⟨lk,l5,lk,m,kes,tl,gs++[2^m-1],rfl,c5.hk,c5.Qf,e5,t1,t2,by rw[qAj];simp;lia,m6,by have:=c.Ox;lia,fun H6 s6=>k H6 (s02.trans (s3.trans ((u4.trans u5).trans s6)))⟩
theorem wZ:(0:Int)<10^20+39:=by decide
theorem EU(i:Int):vA i (10^20+39):=⟨by decide,qBc (show(10^20+39:Int).natAbs<2^70 by decide) (qBh #[1] #[1])⟩
theorem iD{C:List Int}{j:Nat}(h:j<C.length):eV (C.map V.int) (j:Int)=some (.int (C.getD j 0)):=fA (by rw[qAn,qAf,qAc h];rfl)
def Ig(K:qAd):Sp:=fun vs H Q _=>∃(a:Addr) (ns:List Int),vs=[.ref a]/\aS K H a (ns.map V.int)/\ns.length<=63/\∀(l:Addr) (D:List Int) (H':Hp),H l=none->aH H H'->64<=D.length->D.length<=127->H' l=some (.lst (D.map V.int))->Q (.ref l) H'
theorem mO:aV ["_law_script","_law_cells","_law_many","_law_base","_law_draws_here","_law_left","_law_k","_law_number_here"] ["_law_script"] (aI Kq):=#[1,2]
theorem Mp(t:Tx K mg "_law_draws" Kq ["_law_script"] f fd)(T:#[4]):#[5] 1 "_law_draws" ["_law_script"] (Ig K) f fd:=by
 refine t.gO mO (by rintro _ _ _ _⟨a,ns,rfl,_⟩;rfl) fun _ _ _ _ H vs Q E hr h=>?_;obtain⟨a,ns,rfl,hq,hns,k⟩:=h;refine⟨_,(aC (aP (i:=1) mO.nd rfl bN (aM eM (pv 0) (aM gI (bQ (aA aE aB)) (cZ j4 #[0] T.kQ mX (aA (eD (CG hr.units) (pv 0) (bQ aB) (aW _)) aB)))))
  (aC (aP (i:=2) mO.nd rfl bN (aJ (AX rfl) #[0] T.v8 Jj (aA aE (aA (aJ aN #[0] T.bV bH (aA (pv 1) aB)) aB))))
  (aC (aP (i:=3) mO.nd rfl bN (aM fF (aM xE aE aE) aE))
  (aC (aP (i:=4) mO.nd rfl bN (bQ aB))
  (aC (bO (aU dE (aM cH (aQ a8 (pv 1) aE #[6]) aE) aE (aW _)) (aC (aP (i:=5) mO.nd rfl bN (aM eM (bQ (aA (aM iJ (aQ a8 (pv 1) aE #[6]) aE) aB)) (g7 lG (pv 1) (gM aE) lF)))
   (aC (iV #[9] (aU jH (aJ aN #[0] T.bV bH (aA (pv 4) aB)) (pv 2) (aW _))
    (aF (cF #[9] rfl (bY #[0] T.bW (aA (aJ aN #[0] T.bV bH (aA (pv 1) aB)) aB)) (aO (i:=6) mO.nd rfl bN)
     (aC (dO (lK qCr qDt qDs fH (pv 4) (aA (aM cH (aQ a8 (pv 5) (pv 6) #[6]) (pv 3)) aB)))
     (aF (gG (aM gB (aQ a8 (pv 5) (pv 6) #[6]) (pv 3)) (gF (pv 5) (pv 6) set_list)))))))
   (aF (aT (pv 4))))) aZ)
  (aC (cF #[9] rfl (bY #[0] T.bW (aA (pv 2) aB)) (aO (i:=6) mO.nd rfl bN)
   (aC (aP (i:=7) mO.nd rfl bN (aM cH (aM bK (aM fF (aM fF (aQ a8 (pv 1) (aM cH (pv 6) (aJ aN #[0] T.bV bH (aA (pv 1) aB))) #[6]) (aM bK (aM bK aE (pv 6)) (pv 6))) aE) aE) aE))
   (aF (dO (lK qCr qDt qDs fH (pv 4) (aA (aM cH (aM bK (aM bK (pv 7) (pv 7)) aE) (pv 3)) aB))))))
  (aF (aT (pv 4))))))))),?_⟩
 refine⟨_,rfl,kE,fun a1 ha1=>?_⟩;have u1:=aH.aG (o:=.lst [.int 0]) ha1;have e1:upd H a1 (.lst [.int 0]) a1=some (.lst [.int 0]):=aD;generalize upd H a1 (.lst [.int 0])=H1 at u1 e1|-;refine⟨_,rfl,by show 0<=qAi;decide,fun a2 ha2=>?_⟩;have u2:=aH.aG (o:=.lst []) ha2;have e2:upd H1 a2 (.lst []) a2=some (.lst (([]:List Int).map V.int)):=aD;generalize upd H1 a2 (.lst [])=H2 at u2 e2|-;have hq2:aS K H2 a (ns.map V.int):=(u1.trans u2).seq hq;refine⟨a,a2,ns,[],rfl,rfl,hq2,aS.of e2,.inr ⟨_,rfl,?_⟩⟩;have e1':=u2 _ _ e1;obtain⟨C0,hC0⟩:∃C0:List Int,(qBk (if decide (ns=[])=true then (1:Int) else 0).toNat [V.int 0]).flatten=C0.map V.int/\C0.length<=1/\(ns=[]->C0.length=1):=by
  by_cases e:ns=[]
  .exact⟨[0],by rw[decide_eq_true e,if_pos rfl];rfl,by decide,fun _=>rfl⟩
  .exact⟨[],by rw[decide_eq_false e,if_neg (by decide)];rfl,by decide,fun z=>absurd z e⟩
 refine⟨a1,_,_,rfl,rfl,e1',?_,?_,?_,fun a3 ha3=>?_⟩
 .show -(2^63)<=(if decide (ns=[])=true then (1:Int) else 0);split <;> decide
 .show(if decide (ns=[])=true then (1:Int) else 0)<2^63;split <;> decide
 .show 1*(if decide (ns=[])=true then (1:Int) else 0).toNat<=qAi;split <;> decide
 have hC1:(qBk (if id (decide (ns=[]))=true then (1:Int) else 0).toNat [V.int 0]).flatten=C0.map V.int:=hC0.1;rw[hC1];have u3:=aH.aG (o:=.lst (C0.map V.int)) ha3;have e3:upd H2 a3 (.lst (C0.map V.int)) a3=_:=aD;generalize upd H2 a3 (.lst (C0.map V.int))=H3 at u3 e3|-;refine⟨a,a3,_,_,rfl,rfl,u3.seq hq2,aS.of e3,by rw[qAa,qAa];exact qAo (aK (by lia)),fun lc hlc=>?_⟩;rw[<- qAr];have hc1:1<=(ns++C0).length:=by
  rw[qAj];by_cases e:ns=[]
  .have:=hC0.2.2 e;lia
  .have:=List.length_pos_iff.mpr e;lia
 have hc2:(ns++C0).length<=63:=by
  rw[qAj];by_cases e:ns=[]
  .rw[e];have:=hC0.2.1;show 0+_<=_;lia
  .have e0:C0=[]:=by
    have z:=hC0.1;rw[decide_eq_false e,if_neg (by decide)] at z;cases C0 with
    | nil=>rfl
    | cons _ _=>cases z
   rw[e0];exact hns
 generalize ns++C0=C at hc1 hc2|-;have u4:=aH.aG (o:=.lst (C.map V.int)) hlc;have kc:upd H3 lc (.lst (C.map V.int)) lc=_:=aD;generalize upd H3 lc (.lst (C.map V.int))=H4 at u4 kc|-;have s4:=u1.trans (u2.trans (u3.trans u4));exists _,rfl,lc,_,rfl,.inl (aS.of kc),64,_,rfl;have em:(if (((C.map V.int).length:Nat):Int)>64 then (((C.map V.int).length:Nat):Int) else 64)=64:=by
  rw[qAa,if_neg (by lia)]
 show aX 2 (V.int (if (((C.map V.int).length:Nat):Int)>64 then (((C.map V.int).length:Nat):Int) else 64)) _ _ _;rw[em];exists _,_,rfl,rfl,⟨by decide,by decide,by decide⟩,_,_,rfl,rfl;show aX 3 (V.int (10^20+39)) _ _ _;refine⟨by show 0<=qAi;decide,fun l hl=>?_⟩;have l0:H l=none:=s4.free hl;have u5:=aH.aG (o:=.lst []) hl;have kd:upd H4 l (.lst []) l=some (.lst (([]:List Int).map V.int)):=aD;have ncl:lc≠l:=bE kc hl;have kc5:=u5 _ _ kc;generalize upd H4 l (.lst [])=H5 at u5 kd kc5|-;have s5:=s4.trans u5;have c0:=iD (C:=C) (j:=0) (by lia);refine⟨_,rfl,lc,_,_,_,rfl,rfl,aS.of kc5,c0,_,_,rfl,rfl,(by show(0:Int)<2;decide),rfl,_,rfl,cK (fun _=>?_) (fun _=>?_)⟩
 .refine⟨_,rfl,lc,_,_,_,rfl,rfl,aS.of kc5,c0,_,_,rfl,rfl,⟨by decide,by decide⟩,kE,fun b1 hb1=>?_⟩;have v1:=aH.aG (o:=.lst [.int (C.getD 0 0/2)]) hb1;have w1:upd H5 b1 (.lst [.int (C.getD 0 0/2)]) b1=_:=aD;generalize upd H5 b1 (.lst [.int (C.getD 0 0/2)])=H6 at v1 w1|-;refine⟨_,rfl,_,rfl,lc,_,rfl,aS.of (v1 _ _ kc5),fun b2 hb2=>?_⟩;rw[show fR (C.map V.int) (some 1) none=(C.drop 1).map V.int by rw[show(1:Int)=((1:Nat):Int) from rfl,DQ,qLn]];have v2:=aH.aG (o:=.lst ((C.drop 1).map V.int)) hb2;have w2:upd H6 b2 (.lst ((C.drop 1).map V.int)) b2=_:=aD;generalize upd H6 b2 (.lst ((C.drop 1).map V.int))=H7 at v2 w2|-;refine⟨b1,b2,_,_,rfl,rfl,aS.of (v2 _ _ w1),aS.of w2,by rw[qAa,qEt];exact qAo (aK (by show 1+_<=1000;lia)),fun ll hll=>?_⟩;rw[show [V.int (C.getD 0 0/2)]++(C.drop 1).map V.int=((C.getD 0 0/2)::C.drop 1).map V.int from rfl];have el:((C.getD 0 0/2)::C.drop 1).length=C.length:=by rw[qBq,qEt];lia
  generalize (C.getD 0 0/2)::C.drop 1=L0 at el|-;have v3:=aH.aG (o:=.lst (L0.map V.int)) hll;have w3:upd H7 ll (.lst (L0.map V.int)) ll=_:=aD;have s7:=s5.trans (v1.trans v2);have ll0:H ll=none:=s7.free hll;have nll:ll≠l:=fun z=>by rw[z,(v1.trans v2) _ _ kd] at hll;cases hll
  have nlc:ll≠lc:=fun z=>by rw[z,(v1.trans v2) _ _ kc5] at hll;cases hll
  have kd8:=v3 _ _ ((v1.trans v2) _ _ kd);have kc8:=v3 _ _ ((v1.trans v2) _ _ kc5);generalize upd H7 ll (.lst (L0.map V.int))=H8 at v3 w3 kd8 kc8|-;have s8:=s7.trans v3;refine⟨fun mm σ H'=>∃(Dr Lf:List Int) (o:Option V),mm=200-Dr.length/\Dr.length<=126/\Lf.length=C.length/\aH H H'/\H' lc=some (.lst (C.map V.int))/\H' l=some (.lst (Dr.map V.int))/\H' ll=some (.lst (Lf.map V.int))/\σ=[some (.ref a),some (.ref lc),some (.int 64),some (.int (10^20+39)),some (.ref l),some (.ref ll),o,none],
   ⟨_,[],L0,none,rfl,by decide,el,s8,kc8,kd8,w3,rfl⟩,?_⟩
  rintro mm σ H9 ⟨Dr,Lf,o,rfl,hD,hLf,s9,c9,d9,f9,rfl⟩;exists _,rfl,l,_,rfl,.inl (aS.of d9),_,rfl,_,_,rfl,rfl,_,rfl;rw[qAa];refine cK (fun z=>?_) (fun z=>?_)
  .have z:((Dr.length:Nat):Int)<64:=of_decide_eq_true z;refine⟨fun σ' H'=>∃(Dr' Lf:List Int) (o:Option V),Dr'.length=Dr.length+C.length/\Lf.length=C.length/\aH H H'/\H' lc=some (.lst (C.map V.int))/\H' l=some (.lst (Dr'.map V.int))/\H' ll=some (.lst (Lf.map V.int))/\σ'=[some (.ref a),some (.ref lc),some (.int 64),some (.int (10^20+39)),some (.ref l),some (.ref ll),o,none],(by rintro σ' H' ⟨Dr',Lf',o',h1,h2,h3,h4,h5,h6,h7⟩;exact ⟨_,by lia,Dr',Lf',o',rfl,by lia,h2,h3,h4,h5,h6,h7⟩),?_⟩;exists _,rfl,lc,_,rfl,.inl (aS.of c9);rw[qAa];refine⟨C.length,rfl,by lia,by lia,?_⟩;refine dJ (n:=C.length) (fun i σ' H'=>∃(Dr' Lf:List Int) (o:Option V),Dr'.length=Dr.length+i/\Lf.length=C.length/\aH H H'/\H' lc=some (.lst (C.map V.int))/\H' l=some (.lst (Dr'.map V.int))/\H' ll=some (.lst (Lf.map V.int))/\σ'=[some (.ref a),some (.ref lc),some (.int 64),some (.int (10^20+39)),some (.ref l),some (.ref ll),o,none]) ⟨Dr,Lf,_,rfl,hLf,s9,c9,d9,f9,rfl⟩ (fun i σ' H' hi z9=>?_) (fun σ' H' h=>h);obtain⟨Dr',Lf',o',h1,h2,h3,h4,h5,h6,h7⟩:=z9;subst h7;have hat:eV (Lf'.map V.int) (0+(i:Int))=some (.int (Lf'.getD i 0)):=by rw[qCe];exact iD (by lia)
   refine⟨_,rfl,.inl ⟨rfl,_,aS.of h5⟩,_,rfl,_,rfl,ll,_,_,_,rfl,rfl,aS.of h6,hat,_,rfl,_,_,rfl,rfl,wZ,l,_,_,rfl,rfl,h5,by rw[qAa];exact aK (by lia),?_⟩;have h6':upd H' l (.lst (Dr'.map V.int++[V.int (Lf'.getD i 0%(10^20+39))])) ll=_:=(aR nll).trans h6;have h5':upd H' l (.lst (Dr'.map V.int++[V.int (Lf'.getD i 0%(10^20+39))])) l=some (.lst ((Dr'++[Lf'.getD i 0%(10^20+39)]).map V.int)):=by rw[aD,qAr];rfl
   have h4':upd H' l (.lst (Dr'.map V.int++[V.int (Lf'.getD i 0%(10^20+39))])) lc=_:=(aR ncl).trans h4;have h3':aH H (upd H' l (.lst (Dr'.map V.int++[V.int (Lf'.getD i 0%(10^20+39))]))):=h3.upd_ne' l0;generalize upd H' l (.lst (Dr'.map V.int++[V.int (Lf'.getD i 0%(10^20+39))]))=Hx at h6' h5' h4' h3'|-;refine⟨_,rfl,_,rfl,ll,_,_,_,rfl,rfl,aS.of h6',hat,_,rfl,_,_,rfl,rfl,EU _,_,rfl,_,rfl,ll,_,_,i,rfl,rfl,h6',by rw[qAa,qCe];exact gW (by lia),?_⟩;exact⟨_,Lf'.set i ((Lf'.getD i 0).fdiv (10^20+39)),_,by rw[qAj,h1];rfl,by rw[qIf];exact h2,h3'.upd_ne' ll0,(aR (fun z=>nlc z.symm)).trans h4',(aR (fun z=>nll z.symm)).trans h5',by rw[aD,qMb],rfl⟩
  .have z:¬((Dr.length:Nat):Int)<64:=fun y=>z (decide_eq_true y);exact⟨_,rfl,k l Dr H9 l0 s9 (by lia) (by lia) d9⟩
 .refine⟨_,rfl,64,rfl,by decide,by decide,?_⟩;refine dJ (n:=64) (fun i σ' H'=>∃(Dr:List Int) (o o':Option V),Dr.length=i/\aH H H'/\H' lc=some (.lst (C.map V.int))/\H' l=some (.lst (Dr.map V.int))/\σ'=[some (.ref a),some (.ref lc),some (.int 64),some (.int (10^20+39)),some (.ref l),none,o,o']) ⟨[],_,_,rfl,s5,kc5,kd,rfl⟩ (fun i σ' H' hi z9=>?_) (fun σ' H' z9=>?_)
  .obtain⟨Dr,o,o',h1,h3,h4,h5,h7⟩:=z9;subst h7;have hlen:(0:Int)<(((C.map V.int).length:Nat):Int):=by rw[qAa];lia
   obtain⟨x,hx,hxm⟩:=Jd (xs:=C.map V.int) (i:=(0+(i:Int))%(((C.map V.int).length:Nat):Int)) (qEq _ (by lia)) (qEi _ hlen);obtain⟨y,_,rfl⟩:=List.mem_map.mp hxm;refine⟨_,rfl,_,rfl,_,rfl,lc,_,rfl,.inl (aS.of h4),_,_,rfl,rfl,hlen,lc,_,_,_,rfl,rfl,aS.of h4,hx,_,rfl,_,_,rfl,rfl,.inl (.inl ⟨by decide,by decide⟩),_,rfl,_,_,rfl,rfl,.inl (.inr ⟨by lia,by lia⟩),_,_,rfl,rfl,_,_,rfl,rfl,_,_,rfl,rfl,.inl (.inr ⟨by decide,by decide⟩),_,_,rfl,rfl,(by show(0:Int)<2147483629;decide),?_⟩;have n0:=qEq ((y+7919*(0+(i:Int))*(0+(i:Int))+11)*48271) (b:=2147483629) #[1];have n1:=qEi ((y+7919*(0+(i:Int))*(0+(i:Int))+11)*48271) (b:=2147483629) #[1];refine⟨_,rfl,.inl ⟨rfl,_,aS.of h5⟩,_,rfl,_,rfl,_,_,rfl,rfl,.inl (.inl ⟨by lia,by lia⟩),_,_,rfl,rfl,.inl (.inr ⟨by decide,by decide⟩),_,rfl,_,_,rfl,rfl,wZ,l,_,_,rfl,rfl,h5,by rw[qAa];exact aK (by lia),?_⟩;exact⟨Dr++[_],_,_,by rw[qAj,h1];rfl,h3.upd_ne' l0,(aR ncl).trans h4,by rw[aD,qAr];rfl,rfl⟩
  .obtain⟨Dr,o,o',h1,h3,h4,h5,h7⟩:=z9;subst h7;exact⟨_,rfl,k l Dr H' l0 h3 (by lia) (by lia) h5⟩
def EV(K:qAd):Sp:=fun vs H Q _=>∃(a:Addr) (ns:List Int) (k:Nat),vs=[.ref a,.int (k:Int)]/\aS K H a (ns.map V.int)/\∀c:Int,Q (.int c) H
theorem OD:aV ["_law_script","_law_k"] ["_law_script","_law_k"] (aI Ko):=#[1,2]
theorem Mq(t:Tx K mg "_law_cell" Ko ["_law_script","_law_k"] f fd)(T:#[4]):#[5] 1 "_law_cell" ["_law_script","_law_k"] (EV K) f fd:=by
 refine t.gO OD (by rintro _ _ _ _⟨a,ns,k,rfl,_⟩;rfl) fun _ _ _ _ H vs Q E hr h=>?_;obtain⟨a,ns,j,rfl,hq,k⟩:=h;refine⟨_,(aC (bO (aU jH (pv 1) (aJ aN #[0] T.bV bH (aA (pv 0) aB)) (aW _)) (aF (aT (aQ a8 (pv 0) (pv 1) #[6]))) aZ)
  (aF (aT aE))),?_⟩
 refine⟨_,rfl,_,rfl,a,_,rfl,.inl hq,_,_,rfl,rfl,_,rfl,cK (fun h=>?_) (fun _=>k 0)⟩;have hlt:j<ns.length:=by
  have z:=of_decide_eq_true h;rw[qAa] at z;lia
 exact⟨_,rfl,_,rfl,a,_,_,_,rfl,rfl,hq,iD hlt,k _⟩
def Ih:Sp:=fun vs H Q _=>∃c:Int,vs=[.int c]/\∀n:Int,Sm 64 n->Q (.int n) H
theorem OE:aV ["_law_cell_here"] ["_law_cell_here"] (aI Kx):=#[1,2]
theorem Mr(t:Tx K mg "_law_number" Kx ["_law_cell_here"] f fd)(T:#[4]):#[5] 1 "_law_number" ["_law_cell_here"] Ih f fd:=by
 refine t.gO OE (by rintro _ _ _ _⟨c,rfl,_⟩;rfl) fun _ _ _ _ H vs Q E hr h=>?_;obtain⟨c,rfl,k⟩:=h;refine⟨_,(aC (bO (aU jH (aM cH (pv 0) aE) aE (aW _)) (aF (aT (aM fG (aM cH (aM iJ (pv 0) aE) aE) aE))) aZ)
  (aC (bO (aU dE (aM cH (pv 0) aE) aE (aW _)) (aF (aT (aM fG (aM cH (aM iJ (pv 0) aE) aE) aE))) aZ)
  (aF (aT (aM fG (aM cH (aM xD (aM iJ (pv 0) aE) aE) (aM fF (aM xD aE (aM xE aE aE)) aE)) (aM xE aE aE)))))),?_⟩
 refine⟨_,rfl,_,_,rfl,rfl,(by show(0:Int)<4;decide),_,_,rfl,rfl,_,rfl,cK (fun _=>?_) (fun _=>?_)⟩
 .refine⟨_,rfl,_,_,rfl,rfl,⟨by decide,by decide⟩,_,_,rfl,rfl,(by show(0:Int)<7;decide),_,_,rfl,rfl,k _ ?_⟩;have h0:=qEq (c/4) (b:=7) #[1];have h1:=qEi (c/4) (b:=7) #[1];exact Sm.of 10 (by omega) #[1]
 .refine⟨_,rfl,_,_,rfl,rfl,(by show(0:Int)<4;decide),rfl,_,rfl,cK (fun _=>?_) (fun _=>?_)⟩
  .refine⟨_,rfl,_,_,rfl,rfl,⟨by decide,by decide⟩,_,_,rfl,rfl,(by show(0:Int)<2001;decide),_,_,rfl,rfl,k _ ?_⟩;have h0:=qEq (c/4) (b:=2001) #[1];have h1:=qEi (c/4) (b:=2001) #[1];exact Sm.of 11 (by omega) #[1]
  .refine⟨_,rfl,_,_,rfl,rfl,⟨by decide,by decide⟩,_,_,rfl,rfl,.inr ⟨by decide,by decide⟩,?_⟩;refine⟨_,_,rfl,rfl,⟨by decide,by decide,by decide⟩,_,_,rfl,rfl,.inl ⟨by decide,by decide⟩,_,_,rfl,rfl,_,_,rfl,rfl,(by show(0:Int)<2*10^18+1;decide),_,_,rfl,rfl,⟨by decide,by decide,by decide⟩,_,_,rfl,rfl,k _ ?_⟩;have h0:=qEq (c/4*48271) (b:=2*10^18+1) #[1];have h1:=qEi (c/4*48271) (b:=2*10^18+1) #[1];show Sm 64 (c/4*48271%(2*10^18+1)-10^18);exact Sm.of 64 (by omega) #[1]
def Ii:Sp:=fun vs H Q _=>∃g:Nat,vs=[.int (g:Int)]/\∀c:Nat,c<=g->Q (.int (c:Int)) H
theorem AI:aV ["_law_number_here","_law_many"] ["_law_number_here"] (aI KG):=#[1,2]
theorem Ms(t:Tx K mg "_law_ones" KG ["_law_number_here"] f fd)(T:#[4]):#[5] 1 "_law_ones" ["_law_number_here"] Ii f fd:=by
 refine t.gO AI (by rintro _ _ _ _⟨g,rfl,_⟩;rfl) fun _ _ _ _ H vs Q E hr h=>?_;obtain⟨g,rfl,k⟩:=h;refine⟨_,(aC (aP (i:=1) AI.nd rfl bN aE)
  (aC (iV #[9] (aU qR (pv 0) aE (aW _))
   (aC (aP (i:=1) AI.nd rfl bN (aM fF (pv 1) (aM cH (pv 0) aE)))
   (aF (aP (i:=0) AI.nd rfl bN (aM iJ (pv 0) aE)))))
  (aF (aT (pv 1))))),?_⟩
 refine⟨fun m σ H2=>H2=H/\∃(x c:Nat),m=x/\σ=[some (.int (x:Int)),some (.int (c:Int))]/\c+x<=g,⟨g,rfl,g,0,rfl,rfl,by lia⟩,?_⟩;rintro m σ H2 ⟨rfl,x,c,rfl,rfl,hc⟩;exists _,rfl,_,_,rfl,rfl,_,rfl;refine cK (fun h1=>?_) (fun h1=>?_)
 .have h1:(m:Int)>0:=of_decide_eq_true h1;refine⟨fun σ' H'=>H'=H2/\∃(x' c':Nat),x'<m/\σ'=[some (.int (x':Int)),some (.int (c':Int))]/\c'+x'<=g,(by rintro σ' H' ⟨e,x',c',h1,h2,h3⟩;exact ⟨x',h1,e,x',c',rfl,h2,h3⟩),?_⟩;exists _,rfl,_,rfl,_,_,rfl,rfl,(by show(0:Int)<2;decide),_,_,rfl,rfl;refine⟨_,rfl,_,_,rfl,rfl,⟨by decide,by decide⟩,rfl,m/2,c+m%2,by lia,?_,by lia⟩;congr 2
 .exact⟨_,rfl,k c (by lia)⟩
def EW(K:qAd):Sp:=fun vs H Q _=>∃(a:Addr) (ns:List Int) (m:Nat),vs=[.ref a,.int (m:Int)]/\H a=some (.lst (ns.map V.int))/\ns.length<=127/\1<=m/\m<=6/\∀(D:Addr) (H':Hp) (tb:Nat->Int),H D=none->aH H H'->H' D=some (.lst (bF (2^m) tb))->tb 0=0->(∀j,Sm 200 (tb j))->Q (.ref D) H'
theorem AJ:aV ["_law_script","_law_many","_law_table","_law_k","_law_at"] ["_law_script","_law_many"] (aI KH):=#[1,2]
theorem Mt{f1:Addr}{fd1:qCo}(t:Tx K mg "_law_raw" KH ["_law_script","_law_many"] f fd)(T:#[4])(D_law_number:#[5] 1 "_law_number" ["_law_cell_here"] Ih f1 fd1):
  #[5] 2 "_law_raw" ["_law_script","_law_many"] (EW K) f fd:=by
 refine t.gO AJ (by rintro _ _ _ _⟨a,ns,m,rfl,_⟩;rfl) fun _ _ _ _ H vs Q E hr h=>?_;obtain⟨a,ns,m,rfl,ha,hns,m1,m6,k⟩:=h;have n64:2^m<=64:=BN m6;have n2:2<=2^m:=qBh (n:=2) (i:=1) #[1] m1;have e2:(1:Int)*2^((m:Nat):Int).toNat=((2^m:Nat):Int):=by rw[qBb,qCm];push_cast;rfl
 generalize hN:2^m=n at *;refine⟨_,(aC (aP (i:=2) AJ.nd rfl bN (aM gI (bQ (aA aE aB)) (aM sM aE (pv 1))))
  (aC (cF #[9] rfl (gZ #[0] T.bW (aA aE (aA (aJ aN #[0] T.bV bH (aA (pv 0) aB)) aB))) (aO (i:=3) AJ.nd rfl bN)
   (aC (aP (i:=4) AJ.nd rfl bN (aM fG (aM fG (aJ aN #[0] T.bV bH (aA (pv 2) aB)) aE) (aM cH (aM fG (pv 3) aE) (aM fG (aJ aN #[0] T.bV bH (aA (pv 2) aB)) aE))))
   (aF (gG (aM fF (aQ a8 (pv 2) (pv 4) #[6]) (aY D_law_number hr #[1] #[0] (aA (aQ a8 (pv 0) (pv 3) #[6]) aB))) (gF (pv 2) (pv 4) set_list)))))
  (aF (aT (pv 2))))),?_⟩
 refine⟨kE,fun a1 ha1=>?_⟩;have u1:=aH.aG (o:=.lst [.int 0]) ha1;have x1:upd H a1 (.lst [.int 0]) a1=some (.lst [.int 0]):=aD;generalize upd H a1 (.lst [.int 0])=H1 at u1 x1|-;refine⟨_,rfl,_,_,rfl,rfl,⟨by lia,by lia,by decide⟩,?_⟩;dsimp only;rw[e2];refine⟨a1,_,_,rfl,rfl,x1,by lia,by lia,?_,fun D hD=>?_⟩
 .show 1*((n:Nat):Int).toNat<=qAi;exact qAo (aK (by lia))
 rw[qBb,gD];have u2:=aH.aG (o:=.lst (bF n fun _=>0)) hD;have x2:upd H1 D (.lst (bF n fun _=>0)) D=_:=aD;generalize upd H1 D (.lst (bF n fun _=>0))=H2 at u2 x2|-;have hD0:=u1.free hD;have s2:=u1.trans u2;exists _,rfl,a,_,rfl,.inl (aS.of (s2 _ _ ha));rw[qAa];refine⟨1,(ns.length:Int),rfl,⟨by lia,by lia,by lia,by lia⟩,?_⟩;refine dJ (n:=((ns.length:Int)-1).toNat) (fun i σ H'=>aH H H'/\∃(tb:Nat->Int) (o3 o4:Option V),H' D=some (.lst (bF n tb))/\tb 0=0/\(∀j,Sm (64+i) (tb j))/\σ=[some (.ref a),some (.int (m:Int)),some (.ref D),o3,o4]) ⟨s2,fun _=>0,_,_,x2,rfl,fun _=>Sm.zero,rfl⟩ (fun i σ H' hi z9=>?_) (fun σ H' z9=>?_)
 .obtain⟨s',tb,o3,o4,hd,t0,ht,eσ⟩:=z9;subst eσ;exists _,rfl,D,_,rfl,.inl (aS.of hd),_,_,rfl,rfl,_,rfl,_,_,rfl,rfl,_,rfl,D,_,rfl,.inl (aS.of hd),_,_,rfl,rfl,_,_,rfl,rfl;rw[aL];exists (by show(0:Int)<((n:Nat):Int)-1;lia),_,_,rfl,rfl;have q0:=qEq ((1:Int)+(i:Int)-1) (b:=((n:Nat):Int)-1) (by lia);have q1:=qEi ((1:Int)+(i:Int)-1) (b:=((n:Nat):Int)-1) (by lia);obtain⟨g,eg⟩:∃g:Nat,((n:Nat):Int)-1-((1:Int)+(i:Int)-1)%(((n:Nat):Int)-1)=(g:Int):=⟨_,(qCx (by lia)).symm⟩;try dsimp only
  rw[eg];have hg1:1<=g:=by lia
  have hgn:g<n:=by lia
  have hk:eV (ns.map V.int) ((1:Int)+(i:Int))=some (.int (ns.getD (1+i) 0)):=by
   have z:=iD (C:=ns) (j:=1+i) (by lia);rw[<- z];congr 1
  refine⟨_,rfl,_,rfl,D,_,_,_,rfl,rfl,aS.of hd,bR hgn,_,rfl,_,rfl,a,_,_,_,rfl,rfl,aS.of (s' _ _ ha),hk,_,rfl,fun nb snb=>⟨_,_,rfl,rfl,_,rfl,_,rfl,D,_,_,g,rfl,rfl,hd,(by rw[aL];exact gW hgn),?_⟩⟩;refine⟨s'.upd_ne' hD0,_,_,_,by rw[aD,oM],?_,fun j=>?_,rfl⟩
  .show(if 0=g then _ else tb 0)=0;rw[if_neg (by lia)];exact t0
  .show Sm (64+(i+1)) (if j=g then tb g+nb else tb j);split
   .exact(ht g).add (snb.mono (by lia))
   .exact(ht j).mono (by lia)
 .obtain⟨s',tb,o3,o4,hd,t0,ht,eσ⟩:=z9;subst eσ;exact⟨_,rfl,k D H' tb hD0 s' hd t0 fun j=>(ht j).mono (by lia)⟩
theorem GU{m n:Nat}{tb:Nat->Int}(m1:1<=m)(m6:m<=6)(hn:n=2^m)(h0:tb 0=0):jX (bF n tb)=true:=by
 rw[iM];have n0:0<n:=by rw[hn];exact Nat.pow_pos #[1]
 exact Gv (m:=m) ⟨m1,m6,by rw[qAa,qAu,hn],by rw[qAn,qCw n0];exact congrArg some h0⟩
theorem uE{m n:Nat}{tb:Nat->Int}{H:Hp}{p:Addr}{R:VK}{E:XK}(m1:1<=m)(m6:m<=6)(hn:n=2^m)(h0:tb 0=0)(st:∀j,Sm 80000 (tb j))(hp:H p=some (.lst (bF n tb)))(k:∀(R' lp lv lk:Addr) (H':Hp) (ps es kes:List Addr) (Z:Nat->Int) (d ev:Int) (ks:List Nat) (ds:List Int) (tl:List Nat),aH H H'->nU m tb H H' R' lp lv lk ps es kes Z d ev ks ds tl->R (.ref R') H'):EN K NT [.ref p] H R E:=by
 have n64:n<=64:=by rw[hn];exact BN m6
 refine⟨p,_,rfl,hp,An,by rw[aL];lia,fun no=>?_,fun _=>⟨m,n,tb,m1,m6,hn,rfl,st,k⟩⟩;rw[GU m1 m6 hn h0] at no;cases no
theorem GV(xs:List V)(a b:Nat):fR xs (some (a:Int)) (some (b:Int))=(xs.drop a).take (b-a):=by
 delta fR;rw[HT.lD,HT.lD];refine qEn fun i=>?_;rw[qNh,qNh,qHh,qHh];by_cases h:i<b-a
 .rw[if_pos h];by_cases h2:a+i<xs.length
  .rw[if_pos (by omega),show min a xs.length=a by omega]
  .rw[qAv (i:=a+i) (by omega)];split
   .rw[qAv (by omega)]
   .rfl
 .rw[if_neg h];split
  .rw[qAv (by omega)]
  .rfl
theorem EX(h:b D (σ.set i (some v)) H):Fj (IF (tC v) (aX i)) b D σ H:=h
def Ij(K:qAd):Sp:=fun vs H Q _=>∃(a:Addr) (ns:List Int) (m:Nat),vs=[.ref a,.int (m:Int)]/\H a=some (.lst (ns.map V.int))/\ns.length<=127/\1<=m/\m<=6/\∀(D:Addr) (H':Hp) (tb:Nat->Int),H D=none->aH H H'->H' D=some (.lst (bF (2^m) tb))->tb 0=0->(∀j,Sm 300 (tb j))->Q (.ref D) H'
theorem EY{n:Nat}{tb:Nat->Int}{g b:Nat}{v:Int}(h:∀j,Sm b (tb j))(hv:Sm b v):∀j,Sm b (if j=g then v else tb j):=fun j=>by
 split
 .exact hv
 .exact h j
theorem uF:∀{vs:List Int},(∀v,v∈vs->Sm a v)->Sm (a+vs.length) vs.sum
 | [],_=>Sm.zero
 | v::vs,h=>by
  have ih:=uF (vs:=vs) fun x hx=>h x (qBr _ hx);rw[qGs];rw[qBq,<- Nat.add_assoc];exact Sm.add ((h v qCi).mono (qKg _ _)) ih
theorem Qg:∀(m:_root_.Fin 7) (g:_root_.Fin 64),1<=g.1->g.1<2^m.1->∃k:_root_.Fin 64,k.1<2^m.1/\qLc ((g.1:Nat)/2^2*2^2:Int) (qCu ((g.1:Nat):Int) 1+qCu (((g.1:Nat):Int)/2^1) 1)=((k.1:Nat):Int):=by decide +kernel
theorem w4:aV ["_law_script","_law_many","_law_raw_here","_law_way","_law_table","_law_group"] ["_law_script","_law_many"] (aI KI):=#[1,2]
theorem Mu{f1 f3 f4:Addr}{fd1 fd3 fd4:qCo}(t:Tx K mg "_law_drawn" KI ["_law_script","_law_many"] f fd)(T:#[4])(D_law_cell:#[5] 1 "_law_cell" ["_law_script","_law_k"] (EV K) f1 fd1)(D_law_ones:#[5] 1 "_law_ones" ["_law_number_here"] Ii f3 fd3)(D_law_raw:#[5] 2 "_law_raw" ["_law_script","_law_many"] (EW K) f4 fd4):
  #[5] 3 "_law_drawn" ["_law_script","_law_many"] (Ij K) f fd:=by
 refine t.gO w4 (by rintro _ _ _ _⟨a,ns,m,rfl,_⟩;rfl) fun _ _ _ s H vs Q E hr h=>?_;obtain⟨a,ns,m,rfl,ha,hns,m1,m6,k⟩:=h;have n64:2^m<=64:=BN m6;have n2:2<=2^m:=qBh (n:=2) (i:=1) #[1] m1;refine⟨_,(aC (aP (i:=2) w4.nd rfl #[3] (aY D_law_raw hr #[1] #[0] (aA (pv 0) (aA (pv 1) aB))))
  (aC (aP (i:=3) w4.nd rfl bN (aM cH (aM iJ (aY D_law_cell hr #[1] #[0] (aA (pv 0) (aA aE aB))) aE) aE))
  (aC (aP (i:=4) w4.nd rfl bN (cZ jC #[0] T.cR cW (aA (pv 2) aB)))
  (aC (cF #[9] rfl (gZ #[0] T.bW (aA aE (aA (aJ aN #[0] T.bV bH (aA (pv 4) aB)) aB))) (aO (i:=5) w4.nd rfl #[3])
   (aC (bO (aU dE (pv 3) aE (aW _)) (aF (gG (aQ a8 (pv 2) (aY D_law_ones hr #[1] #[0] (aA (pv 5) aB)) #[6]) (gF (pv 4) (pv 5) set_list))) aZ)
   (aC (bO (aU dE (pv 3) aE (aW _)) (aF (gG (aM fF (aJ (dG rfl) #[0] T.gL gJ (aA (bM (NB:=["_law_hand","_law_group","_law_raw_here"]) (pick:=[none,some 5,some 2]) (bG #[7] (by exact(And.intro rfl (And.intro rfl trivial))) rfl #[2] #[2] #[0] #[0]) rfl
    (bY #[0] T.bW (aA (pv 1) aB)) (fun _ _ _=>aO (i:=0) #[8,["_law_hand","_law_group","_law_raw_here"]] rfl bN)
    (fun _ _ _=>eF (aU dE (aM jB (aM kW (pv 1) (pv 0)) aE) aE (aW _))) (fun _ _ _=>(aQ (bU K) (pv 2) (aM sM aE (pv 0)) #[6]))) aB)) (aM cH (aQ a8 (pv 2) (pv 5) #[6]) aE)) (gF (pv 4) (pv 5) set_list))) aZ)
   (aC (bO (aU dE (pv 3) aE (aW _)) (aF (gG (aM cH (aQ a8 (pv 2) (pv 5) #[6]) aE) (gF (pv 4) (pv 5) set_list))) aZ)
   (aF (bO (aU dE (pv 3) aE (aW _)) (aF (gG (aQ a8 (pv 2) (aM MX (aM sM (aM kW (pv 5) aE) aE) (aM fF (aM jB (pv 5) aE) (aM jB (aM kW (pv 5) aE) aE))) #[6]) (gF (pv 4) (pv 5) set_list))) aZ))))))
  (aF (aT (pv 4))))))),?_⟩
 refine⟨_,rfl,_,rfl,a,ns,m,rfl,ha,hns,m1,m6,fun Dr H1 rw_ hDr s1 hd1 t0r str=>?_⟩;obtain⟨n,hN⟩:∃n,n=2^m:=⟨_,rfl⟩;rw[<- hN] at n64 n2 hd1 k;refine⟨_,rfl,a,ns,0,rfl,aS.of (s1 _ _ ha),fun c0=>⟨_,_,rfl,rfl,⟨by decide,by decide⟩,_,_,rfl,rfl,(by show(0:Int)<7;decide),?_⟩⟩;dsimp only[aX];generalize c0/12%7=way;refine⟨_,rfl,Dr,_,rfl,.inl (aS.of hd1),fun D hD=>?_⟩;have u2:=aH.aG (o:=.lst (bF n rw_)) hD;have e2:upd H1 D (.lst (bF n rw_)) D=_:=aD;generalize upd H1 D (.lst (bF n rw_))=H2 at u2 e2|-;have s2:=s1.trans u2;have hD0:=s1.free hD;have hdr2:=u2 _ _ hd1;have hne:Dr≠D:=bE hd1 hD;dsimp only[aX];exists _,rfl,D,_,rfl,.inl (aS.of e2);rw[aL];refine⟨1,(n:Int),rfl,⟨by lia,by lia,by lia,by lia⟩,?_⟩;refine dJ (n:=((n:Int)-1).toNat) (fun i σ H'=>aH H1 H'/\∃(tb:Nat->Int) (o5:Option V),H' D=some (.lst (bF n tb))/\tb 0=0/\(∀j,Sm 300 (tb j))/\σ=[some (.ref a),some (.int (m:Int)),some (.ref Dr),some (.int way),some (.ref D),o5]) ⟨u2,rw_,_,e2,t0r,fun j=>(str j).mono #[1],rfl⟩ (fun i σ H' hi z9=>?_) (fun σ H' z9=>?_)
 .obtain⟨s',tb,o5,hd,t0,ht,eσ⟩:=z9;subst eσ;have e1i:(1:Int)+(i:Int)=((1+i:Nat):Int):=by lia
  have hin:1+i<n:=by lia
  have hix:Bc n ((1:Int)+(i:Int))=some (1+i):=by rw[e1i];exact gW hin
  have hat:∀tb:Nat->Int,eV (bF n tb) ((1:Int)+(i:Int))=some (.int (tb (1+i))):=fun tb=>by rw[e1i];exact bR hin
  dsimp only[aX];let Iv:St->Hp->Prop:=fun σ H''=>aH H1 H''/\∃tb:Nat->Int,H'' D=some (.lst (bF n tb))/\tb 0=0/\(∀j,Sm 300 (tb j))/\σ=[some (.ref a),some (.int (m:Int)),some (.ref Dr),some (.int way),some (.ref D),some (.int ((1:Int)+(i:Int)))];have put:∀{H'':Hp}{tb:Nat->Int}{v:Int},aH H1 H''->H'' D=some (.lst (bF n tb))->tb 0=0->(∀j,Sm 300 (tb j))->Sm 300 v->Iv [some (.ref a),some (.int (m:Int)),some (.ref Dr),some (.int way),some (.ref D),some (.int ((1:Int)+(i:Int)))] (upd H'' D (.lst ((bF n tb).set (1+i) (.int v)))):=fun s hd t0 ht hv=>⟨s.upd_ne' hD,_,by rw[aD,oM],by rw[if_neg (by lia)];exact t0,EY (n:=n) ht hv,rfl⟩;refine jE Iv (fun kk=>?_) ?_
  .refine⟨_,rfl,rfl,_,rfl,cK (fun _=>?_) (fun _=>kk _ _ ⟨s',tb,hd,t0,ht,rfl⟩)⟩;refine⟨_,rfl,_,rfl,1+i,(by rw[e1i];rfl),fun c hc=>⟨Dr,_,_,_,rfl,rfl,aS.of (s' _ _ hd1),bR (by lia),_,rfl,_,rfl,D,_,_,1+i,rfl,rfl,hd,(by rw[aL];exact hix),?_⟩⟩;exact kk _ _ (put s' hd t0 ht ((str _).mono #[1]))
  rintro σ H3 ⟨s3,tb,hd,t0,ht,rfl⟩;have md2:∀v:Int,Sm 100 (v%2):=fun v=>Sm.of 2 (by lia) #[1];refine jE Iv (fun kk=>?_) ?_
  .refine⟨_,rfl,rfl,_,rfl,cK (fun _=>?_) (fun _=>kk _ _ ⟨s3,tb,hd,t0,ht,rfl⟩)⟩;refine⟨_,rfl,m,rfl,by lia,by lia,?_⟩;refine j6 (n:=m) (fun i ys _=>∃vs:List Int,ys=vs.map V.int/\vs.length<=i/\∀v,v∈vs->Sm 200 v) (fun _ _ _ _ _ h=>h) ⟨[],rfl,qAg _,fun v hv=>by cases hv⟩ (qAo (aK (by lia))) (fun h H4 k1 k10 ys s4 hh iv g1 g2=>?_) fun D2 ys H4 hD2 s4 iv hd4=>?_
   .obtain⟨vs,rfl,vl,sv⟩:=iv;refine⟨_,rfl,_,rfl,_,_,rfl,rfl,(by show 0<=(0:Int)+(h:Int);lia),_,_,rfl,rfl,rfl,_,rfl,cK (fun _=>?_) (fun _=>g2 _ (.refl _) ⟨vs,rfl,by lia,sv⟩)⟩;have hp:2^h<n:=by rw[hN];exact qIt #[1] hh
    have q1:eV (bF n rw_) (1*2^((0:Int)+(h:Int)).toNat)=some (.int (rw_ (2^h))):=by
     rw[qCe,qBb,qCm,show(2:Int)^h=((2^h:Nat):Int) by push_cast;rfl];exact bR hp
    refine⟨_,rfl,_,rfl,_,_,rfl,rfl,⟨by lia,by lia,by decide⟩,Dr,_,_,_,rfl,rfl,aS.of (s4 _ _ (s3 _ _ hd1)),q1,g1 _ _ (.refl _) ⟨vs++[_],by rw[qAr];rfl,by rw[qAj];exact qOj vl,fun y hy=>?_⟩⟩;rcases List.mem_append.mp hy with z | z
    .exact sv y z
    .rw[List.mem_singleton.mp z];exact str _
   obtain⟨vs,rfl,vl,sv⟩:=iv;refine⟨D2,vs,rfl,.inl (aS.of hd4),_,rfl,_,rfl,Dr,_,_,_,rfl,rfl,aS.of (s4 _ _ (s3 _ _ hd1)),hat _,_,_,rfl,rfl,(by show(0:Int)<2;decide),_,_,rfl,rfl,_,rfl,_,rfl,D,_,_,1+i,rfl,rfl,s4 _ _ hd,(by rw[aL];exact hix),?_⟩;exact kk _ _ (put (s3.trans s4) (s4 _ _ hd) t0 ht ((Sm.add (a:=206) ((uF sv).mono (by lia)) ((md2 _).mono #[1])).mono #[1]))
  rintro σ H4 ⟨s4,tb,hd,t0,ht,rfl⟩;refine jE Iv (fun kk=>?_) ?_
  .refine⟨_,rfl,rfl,_,rfl,cK (fun _=>?_) (fun _=>kk _ _ ⟨s4,tb,hd,t0,ht,rfl⟩)⟩;refine⟨_,rfl,_,rfl,Dr,_,_,_,rfl,rfl,aS.of (s4 _ _ hd1),hat _,_,_,rfl,rfl,(by show(0:Int)<2;decide),_,rfl,_,rfl,D,_,_,1+i,rfl,rfl,hd,(by rw[aL];exact hix),?_⟩;exact kk _ _ (put s4 hd t0 ht ((md2 _).mono #[1]))
  rintro σ H5 ⟨s5,tb,hd,t0,ht,rfl⟩;refine⟨_,rfl,rfl,_,rfl,cK (fun _=>?_) (fun _=>⟨s5,tb,_,hd,t0,ht,rfl⟩)⟩;obtain⟨q,hq,eq⟩:=Qg ⟨m,by lia⟩ ⟨1+i,by lia⟩ (by show 1<=1+i;lia) (by show 1+i<2^m;lia);have q1:eV (bF n rw_) (qLc (((1:Int)+(i:Int))/2^(2:Int).toNat*2^(2:Int).toNat) (qCu ((1:Int)+(i:Int)) 1+qCu (((1:Int)+(i:Int))/2^(1:Int).toNat) 1))=some (.int (rw_ q.1)):=by
   rw[e1i];refine Eq.trans (congrArg (eV (bF n rw_)) eq) (bR (by rw[hN];exact hq))
  refine⟨_,rfl,_,rfl,_,_,rfl,rfl,(by show(0:Int)<=2;decide),_,_,rfl,rfl,⟨by decide,by decide,by show(((1:Int)+(i:Int))/2^(2:Int).toNat).natAbs<_;rw[show(2:Int)^(2:Int).toNat=4 from rfl];lia⟩,_,rfl,_,_,rfl,rfl,_,rfl,_,_,rfl,rfl,(by show(0:Int)<=1;decide),_,_,rfl,rfl,_,_,rfl,rfl,_,_,rfl,rfl,Dr,_,_,_,rfl,rfl,aS.of (s5 _ _ hd1),q1,_,rfl,_,rfl,D,_,_,1+i,rfl,rfl,hd,(by rw[aL];exact hix),?_⟩;obtain⟨a1,tb',a2,a3,a4,a5⟩:=put (v:=rw_ q.1) s5 hd t0 ht ((str _).mono #[1]);exact⟨a1,tb',_,a2,a3,a4,a5⟩
 .obtain⟨s',tb,o5,hd,t0,ht,eσ⟩:=z9;subst eσ;exact⟨_,rfl,k D H' tb hD0 (s1.trans s') hd t0 ht⟩
theorem QP:∀{w:Nat},w<4->Sm n a->Sm n b->Sm n c->Sm n d->∃v:Int,Sm n v/\eV [V.int a,.int b,.int c,.int d] (w:Int)=some (.int v)
 | 0,_,h,_,_,_=>⟨_,h,rfl⟩
 | 1,_,_,h,_,_=>⟨_,h,rfl⟩
 | 2,_,_,_,h,_=>⟨_,h,rfl⟩
 | 3,_,_,_,_,h=>⟨_,h,rfl⟩
theorem AK(vs:List Int):vs.map V.int=bF vs.length fun j=>vs.getD j 0:=by
 delta bF;refine qJz (by rw[qAa,qAa,qAu]) fun i h1 h2=>?_;rw[qAa] at h1;rw[qGm,qGm,qJi];show V.int vs[i]=V.int (vs.getD i 0);rw[qAf,qAc h1];rfl
def Ik(K:qAd):Sp:=fun vs H Q _=>∃(a:Addr) (ns:List Int),vs=[.ref a]/\H a=some (.lst (ns.map V.int))/\ns.length<=127/\64<=ns.length/\∀(D:Addr) (H':Hp) (tb:Nat->Int),H D=none->aH H H'->H' D=some (.lst (bF 64 tb))->tb 0=0->(∀j,Sm 300 (tb j))->Q (.ref D) H'
theorem i9:aV ["_law_draws_here","_law_way","_law_plain","_law_raw_here","_law_weights","_law_quota","_law_table","_law_group","_law_hands","_law_own","_law_votes"] ["_law_draws_here"] (aI KJ):=#[1,2]
theorem Mv(t:Tx K mg "_law_six" KJ ["_law_draws_here"] f fd)(T:#[4])(D_law_raw:#[5] 2 "_law_raw" ["_law_script","_law_many"] (EW K) f4 fd4):
  #[5] 3 "_law_six" ["_law_draws_here"] (Ik K) f fd:=by
 refine t.gO i9 (by rintro _ _ _ _⟨a,ns,rfl,_⟩;rfl) fun _ _ _ _ H vs Q E hr h=>?_;obtain⟨a,ns,rfl,ha,hns,hn64,k⟩:=h;have e64:(2:Nat)^6=64:=rfl;have at0:eV (ns.map V.int) 0=some (.int (ns.getD 0 0)):=iD (C:=ns) (j:=0) (by lia);have at7:eV (ns.map V.int) 7=some (.int (ns.getD 7 0)):=iD (C:=ns) (j:=7) (by lia);refine⟨_,(aC (aP (i:=1) i9.nd rfl bN (aM cH (aM iJ (aQ a8 (pv 0) aE #[6]) aE) aE))
  (aC (aP (i:=2) i9.nd rfl bN (eD dE (aM cH (aM iJ (aQ a8 (pv 0) aE #[6]) aE) aE) aE (aW _)))
  (aC (aP (i:=3) i9.nd rfl #[3] (bM (NB:=["_law_number_here"]) (pick:=[none]) (bG #[7] (by exact trivial) rfl #[2] #[2] #[0] #[0]) rfl
    (bL (aY D_law_raw hr #[1] #[0] (aA (pv 0) (aA aE aB)))) (fun _ _ _=>aO (i:=0) #[8,["_law_number_here"]] rfl bN)
    (fun _ _ _=>bJ) (fun _ _ _=>(aM cH (pv 0) aE))))
  (aC (aP (i:=4) i9.nd rfl #[3] (bQ (aA aE (aA aE (aA aE (aA aE (aA aE (aA aE aB))))))))
  (aC (aP (i:=5) i9.nd rfl bN aE)
  (aC (bO (bX (pv 2)) (aC (aP (i:=4) i9.nd rfl #[3] (bM (NB:=["_law_number_here"]) (pick:=[none]) (bG #[7] (by exact trivial) rfl #[2] #[2] #[0] #[0]) rfl
    (bL (g7 lG (pv 0) (gM aE) (gM aE))) (fun _ _ _=>aO (i:=0) #[8,["_law_number_here"]] rfl bN)
    (fun _ _ _=>bJ) (fun _ _ _=>(aM fF aE (aM cH (pv 0) aE)))))
   (aF (aP (i:=5) i9.nd rfl bN (aM fF aE (aM cH (aQ a8 (pv 0) aE #[6]) (aJ (dG rfl) #[0] T.gL gJ (aA (pv 4) aB))))))) aZ)
  (aC (aP (i:=6) i9.nd rfl bN (bQ (aA aE aB)))
  (aC (cF #[9] rfl (gZ #[0] T.bW (aA aE (aA aE aB))) (aO (i:=7) i9.nd rfl #[3])
   (aC (eJ (NB:=["_law_hand","_law_group"]) (pick:=[none,some 7]) (i:=8) i9.nd rfl #[3] #[0] (bG #[7] (by exact(And.intro rfl trivial)) rfl #[2] #[2] #[0] #[0]) rfl
    (bY #[0] T.bW (aA aE aB)) (fun _ _ _=>aO (i:=0) #[8,["_law_hand","_law_group"]] rfl bN)
    (fun _ _ _=>eF (aU dE (aM jB (aM kW (pv 1) (pv 0)) aE) aE (aW _))) (fun _ _ _=>(pv 0)))
   (aC (aP (i:=9) i9.nd rfl bN (aM fF (aJ (dG rfl) #[0] T.gL gJ (aA (bM (NB:=["_law_hand","_law_raw_here"]) (pick:=[none,some 3]) (bG #[7] (by exact(And.intro rfl trivial)) rfl #[2] #[2] #[0] #[0]) rfl
    (bL (pv 8)) (fun _ _ _=>aO (i:=0) #[8,["_law_hand","_law_raw_here"]] rfl bN)
    (fun _ _ _=>bJ) (fun _ _ _=>(aQ (bU K) (pv 1) (aM sM aE (pv 0)) #[6]))) aB)) (aM xD (aM cH (aQ a8 (pv 3) (pv 7) #[6]) aE) (cZ j4 #[0] T.kQ mX (aA (pv 2) aB)))))
   (aC (aP (i:=10) i9.nd rfl bN (cZ j4 #[0] T.kQ mX (aA (eD zE (aJ (dG rfl) #[0] T.gL gJ (aA (bM (NB:=["_law_hand","_law_weights"]) (pick:=[none,some 4]) (bG #[7] (by exact(And.intro rfl trivial)) rfl #[2] #[2] #[0] #[0]) rfl
    (bL (pv 8)) (fun _ _ _=>aO (i:=0) #[8,["_law_hand","_law_weights"]] rfl bN)
    (fun _ _ _=>bJ) (fun _ _ _=>(aQ (bU K) (pv 1) (pv 0) #[6]))) aB)) (pv 5) (aW _)) aB)))
   (aF (dO (lK qCr qDt qDs fH (pv 6) (aA (aQ a8 (bQ (aA (aQ a8 (pv 3) (pv 7) #[6]) (aA (aQ a8 (pv 3) (aJ aN #[0] T.bV bH (aA (pv 8) aB)) #[6]) (aA (pv 9) (aA (pv 10) aB))))) (pv 1) #[6]) aB))))))))
  (aF (aT (pv 6))))))))))),?_⟩
 refine⟨_,rfl,a,_,_,_,rfl,rfl,aS.of ha,at0,_,_,rfl,rfl,⟨by decide,by decide⟩,_,_,rfl,rfl,(by show(0:Int)<4;decide),?_⟩;dsimp only[aX];have w0:=qEq (ns.getD 0 0/36) (b:=4) #[1];have w1:=qEi (ns.getD 0 0/36) (b:=4) #[1];obtain⟨way,hway⟩:∃way:Nat,ns.getD 0 0/36%4=(way:Int):=⟨_,(qCx w0).symm⟩;rw[hway];exists _,rfl,a,_,_,_,rfl,rfl,aS.of ha,at0,_,_,rfl,rfl,⟨by decide,by decide⟩,_,_,rfl,rfl,(by show(0:Int)<2;decide),rfl;dsimp only[aX];generalize decide (V.int (ns.getD 0 0/144%2)=V.int 0)=qOu;refine⟨_,rfl,a,ns,6,rfl,ha,hns,by decide,by decide,fun Dr H1 rw_ hDr s1 hd1 t0r str=>?_⟩;rw[e64] at hd1;exists Dr,rfl,⟨_,aS.of hd1⟩;refine cC (xs:=bF 64 rw_) (fun j _=>some (.int (rw_ j%3))) (aS.of hd1) (by rw[aL];exact qAo (aK (by lia))) (fun j y H3 k1 k10 s3 hy g1 g2=>?_) fun D3 H3 hD3 s3 hd3=>?_
 .obtain⟨hj,rfl⟩:=eQ hy;exact⟨_,rfl,_,_,rfl,rfl,(by show(0:Int)<3;decide),g1 _ rfl _ (.refl _)⟩
 rw[aL,iN _ (aL _ _)] at hd3;have hd3:H3 D3=some (.lst (bF 64 fun j=>rw_ j%3)):=hd3;have str3:∀j,Sm 100 (rw_ j%3):=fun j=>Sm.of 2 (by lia) #[1];obtain⟨rw3,erw⟩:∃rw3:Nat->Int,rw3=fun j=>rw_ j%3:=⟨_,rfl⟩;rw[<- erw] at hd3;have str3:∀j,Sm 100 (rw3 j):=fun j=>by rw[erw];exact str3 j
 have s13:=s1.trans s3;have ha3:=s13 _ _ ha;dsimp only[aX];refine⟨by show 6<=qAi;decide,fun Dw hDw=>?_⟩;have u4:=aH.aG (o:=.lst [.int 6,.int 2,.int 2,.int 2,.int 1,.int 1]) hDw;have e4:upd H3 Dw (.lst [.int 6,.int 2,.int 2,.int 2,.int 1,.int 1]) Dw=_:=aD;generalize upd H3 Dw (.lst [.int 6,.int 2,.int 2,.int 2,.int 1,.int 1])=H4 at u4 e4|-;have ha4:=u4 _ _ ha3;dsimp only[aX];refine EX ?_;refine jE (fun σ H'=>aH H3 H'/\∃(Dw:Addr) (wt:List Int) (qt:Int),H' Dw=some (.lst (wt.map V.int))/\wt.length=6/\σ=[some (.ref a),some (.int (way:Int)),some (.bl qOu),some (.ref D3),some (.ref Dw),some (.int qt),none,none,none,none,none]) (fun kk=>?_) ?_
 .refine⟨_,rfl,qOu,rfl,cK (fun _=>?_) (fun _=>kk _ _ ⟨u4,Dw,[6,2,2,2,1,1],_,e4,rfl,rfl⟩)⟩;refine⟨_,rfl,_,rfl,_,rfl,a,_,rfl,aS.of ha4,fun Ds hDs=>?_⟩;have ec:fR (ns.map V.int) (some 1) (some 7)=((ns.drop 1).take 6).map V.int:=by
   have z:=GV (ns.map V.int) 1 7;rw[<- qLn,<- qLm] at z;exact z
  rw[ec];have cl:((ns.drop 1).take 6).length=6:=by rw[qEh,qEt];lia
  generalize (ns.drop 1).take 6=cs at cl|-;have u5:=aH.aG (o:=.lst (cs.map V.int)) hDs;have e5:upd H4 Ds (.lst (cs.map V.int)) Ds=_:=aD;generalize upd H4 Ds (.lst (cs.map V.int))=H5 at u5 e5|-;exists Ds,rfl,⟨_,aS.of e5⟩;refine cC (xs:=cs.map V.int) (fun j _=>some (.int (1+cs.getD j 0%6))) (aS.of e5) (by rw[qAa];exact qAo (aK (by lia))) (fun j y H6 k1 k10 s6 hy g1 g2=>?_) fun D6 H6 hD6 s6 hd6=>?_
  .rw[qAn] at hy;obtain⟨v,hv,rfl⟩:=Option.map_eq_some_iff.mp hy;exact⟨_,rfl,_,_,rfl,rfl,(by show(0:Int)<6;decide),_,_,rfl,rfl,g1 _ (by rw[qAf,hv];rfl) _ (.refl _)⟩
  rw[qAa,iN _ (qAa _),cl] at hd6;have hd6:H6 D6=some (.lst (((qAk 6).map fun j=>1+cs.getD j 0%6).map V.int)):=by rw[hd6,qCn];rfl
  have wp:∀v,v∈((qAk 6).map fun j=>1+cs.getD j 0%6)->1<=v:=fun v hv=>by
   obtain⟨j,_,rfl⟩:=List.mem_map.mp hv;lia
  have wl:((qAk 6).map fun j=>1+cs.getD j 0%6).length=6:=rfl;generalize ((qAk 6).map fun j=>1+cs.getD j 0%6)=wt at hd6 wp wl;have wsum:0<wt.sum:=by
   match wt,wl with
   | [a,b,c,d,e,f],_ =>
    have h1:=wp a (by simp);have h2:=wp b (by simp);have h3:=wp c (by simp);have h4:=wp d (by simp);have h5:=wp e (by simp);have h6:=wp f (by simp);show 0<a+(b+(c+(d+(e+(f+0)))));lia
  dsimp only[aX];have s46:=u5.trans s6;exists _,rfl,a,_,_,_,rfl,rfl,aS.of (s46 _ _ ha4),at7,_,rfl,D6,wt,rfl,.inl (aS.of hd6),_,_,rfl,rfl,wsum,_,_,rfl,rfl;exact kk _ _ ⟨u4.trans s46,D6,wt,_,hd6,wl,rfl⟩
 rintro σ H5 ⟨s5,Dw,wt,qt,hdw,wl,rfl⟩;have hd5:=s5 _ _ hd3;refine⟨kE,fun DT hDT=>?_⟩;have u6:=aH.aG (o:=.lst [.int 0]) hDT;have e6:upd H5 DT (.lst [.int 0]) DT=_:=aD;generalize upd H5 DT (.lst [.int 0])=H6 at u6 e6|-;dsimp only[aX];refine⟨1,64,rfl,⟨by lia,by lia,by lia,by lia⟩,?_⟩;refine dJ (n:=((64:Int)-1).toNat) (fun i σ H'=>aH H5 H'/\∃(vs:List Int) (o7 o8 o9 o10:Option V),H' DT=some (.lst (vs.map V.int))/\vs.length=1+i/\vs.getD 0 0=0/\(∀v,v∈vs->Sm 300 v)/\σ=[some (.ref a),some (.int (way:Int)),some (.bl qOu),some (.ref D3),some (.ref Dw),some (.int qt),some (.ref DT),o7,o8,o9,o10]) ⟨u6,[0],_,_,_,_,e6,rfl,rfl,fun v hv=>by rw[List.mem_singleton.mp hv];exact Sm.zero,rfl⟩ (fun i σ H' hi z9=>?_) (fun σ H' z9=>?_)
 .obtain⟨s',vs,o7,o8,o9,o10,hd,vl,v0,sv,eσ⟩:=z9;subst eσ;have hi:i<63:=hi;refine⟨6,rfl,by lia,by lia,?_⟩;refine j6 (n:=6) (fun i ys _=>∃hs:List Nat,ys=hs.map (fun h:Nat=>V.int (h:Int))/\hs.length<=i/\∀h,h∈hs->h<6) (fun _ _ _ _ _ h=>h) ⟨[],rfl,qAg _,fun v hv=>by cases hv⟩ (qAo (aK (by lia))) (fun h H7 k1 k10 ys s7 hh iv g1 g2=>?_) fun Dh ys H7 hDh s7 iv hdh=>?_
  .obtain⟨hs,rfl,hl,hb⟩:=iv;refine⟨_,rfl,_,rfl,_,_,rfl,rfl,(by show 0<=(0:Int)+(h:Int);lia),_,_,rfl,rfl,rfl,_,rfl,cK (fun _=>⟨_,rfl,g1 _ _ (.refl _) ⟨hs++[h],by rw[qAr,qCe];rfl,by rw[qAj];exact qOj hl,fun y hy=>?_⟩⟩) (fun _=>g2 _ (.refl _) ⟨hs,rfl,by lia,hb⟩)⟩;rcases List.mem_append.mp hy with z | z
   .exact hb y z
   .rw[List.mem_singleton.mp z];exact hh
  obtain⟨hs,rfl,hl,hb⟩:=iv;have hgb:∀j,j<hs.length->hs.getD j 0<6:=fun j hj=>hb _ (by rw[qAf,qAc hj];exact qDa hj);have hy0:∀{j:Nat}{y:V},(hs.map (fun h:Nat=>V.int (h:Int)))[j]?=some y->j<hs.length/\y=V.int ((hs.getD j 0:Nat):Int):=fun {j y} hy=>by
   rw[qAn] at hy;obtain⟨v,hv,rfl⟩:=Option.map_eq_some_iff.mp hy;exact⟨(List.getElem?_eq_some_iff.mp hv).1,by rw[qAf,hv];rfl⟩
  dsimp only;exists _,rfl,Dh,rfl,⟨_,aS.of hdh⟩;refine cC (xs:=hs.map (fun h:Nat=>V.int (h:Int))) (fun j _=>some (.int (rw3 (2^hs.getD j 0)))) (aS.of hdh) (by rw[qAa];exact qAo (aK (by lia))) (fun j y H8 k1 k10 s8 hy g1 g2=>?_) fun D8 H8 hD8 s8 hd8=>?_
  .obtain⟨hj,rfl⟩:=hy0 hy;have h6:=hgb j hj;have hp:2^hs.getD j 0<64:=qIt (a:=2) (n:=6) #[1] h6;have q1:eV (bF 64 rw3) (1*2^((hs.getD j 0:Nat):Int).toNat)=some (.int (rw3 (2^hs.getD j 0))):=by
    rw[qBb,qCm,show(2:Int)^hs.getD j 0=((2^hs.getD j 0:Nat):Int) by push_cast;rfl];exact bR hp
   exact⟨_,rfl,_,rfl,_,_,rfl,rfl,⟨by lia,by lia,by decide⟩,D3,_,_,_,rfl,rfl,aS.of (s8 _ _ (s7 _ _ (s' _ _ hd5))),q1,g1 _ rfl _ (.refl _)⟩
  rw[qAa,iN _ (qAa _)] at hd8;have hd8:H8 D8=some (.lst (((qAk hs.length).map fun j=>rw3 (2^hs.getD j 0)).map V.int)):=by rw[hd8,qCn];rfl
  have sS:Sm 150 ((qAk hs.length).map fun j=>rw3 (2^hs.getD j 0)).sum:=(uF (a:=100) fun v hv=>by
   obtain⟨j,_,rfl⟩:=List.mem_map.mp hv;exact str3 _).mono (by rw[qAa,qAu];lia)
  generalize ((qAk hs.length).map fun j=>rw3 (2^hs.getD j 0))=ss at hd8 sS;have s78:=s7.trans s8;have hd38:=s78 _ _ (s' _ _ hd5);have q1:∀(f:Nat->Int),eV (bF 64 f) ((1:Int)+(i:Int))=some (.int (f (1+i))):=fun f=>by rw[show(1:Int)+(i:Int)=((1+i:Nat):Int) by lia];exact bR (by lia)
  refine⟨D8,ss,rfl,.inl (aS.of hd8),_,rfl,_,rfl,D3,_,_,_,rfl,rfl,aS.of hd38,q1 _,_,_,rfl,rfl,(by show(0:Int)<2;decide),_,rfl,.inr ⟨qOu,rfl,_,_,rfl,rfl,.inl ⟨by show -(2^64)<rw3 (1+i)%2;lia,by show rw3 (1+i)%2<2^64;lia⟩,_,_,rfl,rfl,?_⟩⟩;have so:Sm 300 (ss.sum+rw3 (1+i)%2*(if qOu=true then 1 else 0)):=(Sm.add sS (Sm.of 2 (by split <;> lia) #[1])).mono #[1];dsimp only[aX];generalize ss.sum+rw3 (1+i)%2*(if qOu=true then 1 else 0)=own at so|-;have hdh8:=s8 _ _ hdh;exists _,rfl,Dh,rfl,⟨_,aS.of hdh8⟩;refine cC (xs:=hs.map (fun h:Nat=>V.int (h:Int))) (fun j _=>some (.int (wt.getD (hs.getD j 0) 0))) (aS.of hdh8) (by rw[qAa];exact qAo (aK (by lia))) (fun j y H9 k1 k10 s9 hy g1 g2=>?_) fun D9 H9 hD9 s9 hd9=>?_
  .obtain⟨hj,rfl⟩:=hy0 hy;have h6:=hgb j hj;exact⟨_,rfl,_,rfl,Dw,_,_,_,rfl,rfl,aS.of (s9 _ _ (s78 _ _ (s' _ _ hdw))),iD (C:=wt) (j:=hs.getD j 0) (by lia),g1 _ rfl _ (.refl _)⟩
  rw[qAa,iN _ (qAa _)] at hd9;have hd9:H9 D9=some (.lst (((qAk hs.length).map fun j=>wt.getD (hs.getD j 0) 0).map V.int)):=by rw[hd9,qCn];rfl
  refine⟨D9,_,rfl,.inl (aS.of hd9),_,rfl,_,_,rfl,rfl,.inr ⟨_,rfl,?_⟩⟩;have sv4:∀b:Bool,Sm 300 (if b=true then (1:Int) else 0):=fun b=>by cases b <;> exact Sm.of 2 #[1] #[1]
  have svt:=sv4 (decide (qt<=(List.map (fun j=>wt.getD (hs.getD j 0) 0) (qAk hs.length)).sum));dsimp only[aX];have s79:=s78.trans s9;have hd39:=s9 _ _ hd38;have hdT9:=s79 _ _ hd;have hdh9:=s9 _ _ hdh8;exists _,rfl,.inl ⟨rfl,_,aS.of hdT9⟩,_,rfl,_,rfl,D3,_,_,_,rfl,rfl,aS.of hd39,q1 _,_,rfl,_,rfl,Dh,_,rfl,.inl (aS.of hdh9);rw[qAa];refine⟨D3,_,_,_,rfl,rfl,aS.of hd39,bR (by lia),_,rfl,_,rfl,by show 4<=qAi;decide,fun l hl=>?_⟩;generalize (if decide (qt<=(List.map (fun j=>wt.getD (hs.getD j 0) 0) (qAk hs.length)).sum)=true then (1:Int) else 0)=vt at svt|-;have u10:=aH.aG (o:=.lst [.int (rw3 (1+i)),.int (rw3 hs.length),.int own,.int vt]) hl;have e10:upd H9 l (.lst [.int (rw3 (1+i)),.int (rw3 hs.length),.int own,.int vt]) l=_:=aD;show IA _ _ (upd H9 l (.lst [.int (rw3 (1+i)),.int (rw3 hs.length),.int own,.int vt])) _;generalize upd H9 l (.lst [.int (rw3 (1+i)),.int (rw3 hs.length),.int own,.int vt])=H10 at u10 e10|-;obtain⟨v,sv',hv⟩:=QP (w:=way) (by lia) ((str3 (1+i)).mono (b:=300) #[1]) ((str3 hs.length).mono (b:=300) #[1]) so svt;refine⟨_,rfl,l,_,_,_,rfl,rfl,aS.of e10,hv,DT,_,_,rfl,rfl,u10 _ _ hdT9,by rw[qAa];exact aK (by lia),?_⟩;refine⟨(s'.trans (s79.trans u10)).upd_ne' hDT,vs++[v],_,_,_,_,by rw[aD,qAr];rfl,by rw[qAj,vl];rfl,?_,fun y hy=>?_,rfl⟩
  .rw[qAf,qAy (by lia),<- qAf];exact v0
  .rcases List.mem_append.mp hy with z | z
   .exact sv y z
   .rw[List.mem_singleton.mp z];exact sv'
 .obtain⟨s',vs,o7,o8,o9,o10,hd,vl,v0,sv,eσ⟩:=z9;subst eσ;refine⟨_,rfl,k DT H' (fun j=>vs.getD j 0) ((s13.trans s5).free hDT) ((s13.trans s5).trans s') ?_ v0 fun j=>?_⟩
  .rw[hd,AK,vl];rfl
  .rcases qAm j vs.length with z | z
   .exact sv _ (by rw[qAf,qAc z];exact qDa z)
   .show Sm 300 (vs.getD j 0);rw[qAf,qAv z];exact Sm.zero
theorem AM(fl:kC m Z d H l ws):∃D:qGo,D = .list ((qAk m).map fun j=>.tuple [.int (ta (Z j) d),.int (tb (Z j) d)])/\iG K H (.ref l) D/\D.depth<=64:=by
 obtain⟨ds,e,h1,h2⟩:=Ef (K:=K) (H:=H) ws (fun j=>.tuple [.int (ta (Z j) d),.int (tb (Z j) d)]) 5 (fun j c e=>yU (fl.at_ j c e)) (fun j=>by simp[PyData.depth,PyData.depthAll]);rw[fl.len] at e;exists .list ds,by rw[e],.lst (aS.of fl.hr) h1;have e2:PyData.depth (.list ds)=PyData.depthAll ds+1:=rfl;lia
theorem Mw{m:Nat}{Z Z':Nat->Int}{d d':Int}(d0:0<d)(d0':0<d')(h:∀i,i<m->Z i*d'=Z' i*d):(qAk m).map (fun j=>PyData.tuple [.int (ta (Z j) d),.int (tb (Z j) d)])=(qAk m).map fun j=>PyData.tuple [.int (ta (Z' j) d'),.int (tb (Z' j) d')]:=by
 refine qIw fun j hj=>?_;have z:HO.tup [.int (ta (Z j) d),.int (tb (Z j) d)]=HO.tup [.int (ta (Z' j) d'),.int (tb (Z' j) d')]:=jY d0 d0' (h j (List.mem_range.mp hj));injection z with z;injection z with z1 z2;injection z2 with z2 _;rw[V.int.inj z1,V.int.inj z2]
theorem Qh:∀i:_root_.Fin 3,∃k:_root_.Fin 4,qKj ((1:Int)+((i.1:Nat):Int)) 1=((k.1:Nat):Int):=by decide +kernel
def AN(K:qAd):Sp:=fun vs H Q _=>∃(a:Addr) (ns:List Int),vs=[.ref a]/\aS K H a (ns.map V.int)/\ns.length<=63/\∀H',Q (.bl true) H'
theorem iE:aV ["_law_script","_law_draws_here","_law_many","_law_table","_law_handed","_law_found","_law_other","_law_again","_law_part"] ["_law_script"] (aI KL):=#[1,2]
theorem My{f1 f2 f3 f4 f5 f6:Addr}{fd1 fd2 fd3 fd4 fd5 fd6:qCo}(t:Tx K mg "law" KL ["_law_script"] f fd)(T:#[4])(D_law_draws:#[5] 1 "_law_draws" ["_law_script"] (Ig K) f1 fd1)(D_law_cell:#[5] 1 "_law_cell" ["_law_script","_law_k"] (EV K) f2 fd2)(D_law_drawn:#[5] 3 "_law_drawn" ["_law_script","_law_many"] (Ij K) f3 fd3)(D_law_six:#[5] 3 "_law_six" ["_law_draws_here"] (Ik K) f4 fd4)(D_calm:#[1,1] 8 "calm" ["table"] (EN K NT) f5 fd5)(D_law_calm:#[5] 5 "_law_calm" ["_law_found","_law_table","_law_many"] (Ie K) f6 fd6):
  #[5] 10 "law" ["_law_script"] (AN K) f fd:=by
 refine t.gO iE (fun vs H Q E h=>?_) (fun cdv _A outer s H vs Q E hr h=>?_)
 .obtain⟨a,ns,rfl,_⟩:=h;rfl
 .obtain⟨a,ns,rfl,hq,hns,k⟩:=h;refine⟨_,(aC (aP (i:=1) iE.nd rfl bN (aY D_law_draws hr #[1] #[0] (aA (pv 0) aB)))
   (aC (aP (i:=2) iE.nd rfl bN aE)
   (aC (bO (aU dE (aM cH (aY D_law_cell hr #[1] #[0] (aA (pv 1) (aA aE aB))) aE) aE (aW _)) (aF (aP (i:=2) iE.nd rfl bN aE)) aZ)
   (aC (bO (aU dE (aM cH (aY D_law_cell hr #[1] #[0] (aA (pv 1) (aA aE aB))) aE) aE (aW _)) (aF (aP (i:=2) iE.nd rfl bN aE)) aZ)
   (aC (bO (aU dE (aM cH (aY D_law_cell hr #[1] #[0] (aA (pv 1) (aA aE aB))) aE) aE (aW _)) (aF (aP (i:=2) iE.nd rfl bN aE)) aZ)
   (aC (aP (i:=3) iE.nd rfl #[3] (aY D_law_drawn hr #[1] #[0] (aA (pv 1) (aA (pv 2) aB))))
   (aC (bO (aU dE (pv 2) aE (aW _)) (aF (aP (i:=3) iE.nd rfl #[3] (bM (NB:=["_law_number_here"]) (pick:=[none]) (bG #[7] (by exact trivial) rfl #[2] #[2] #[0] #[0]) rfl
     (bL (pv 3)) (fun _ _ _=>aO (i:=0) #[8,["_law_number_here"]] rfl bN)
     (fun _ _ _=>bJ) (fun _ _ _=>(aM cH (pv 0) aE))))) aZ)
   (aC (bO (aU dE (aM cH (aY D_law_cell hr #[1] #[0] (aA (pv 1) (aA aE aB))) aE) aE (aW _)) (aC (aP (i:=2) iE.nd rfl bN aE)
    (aF (aP (i:=3) iE.nd rfl #[3] (aY D_law_six hr #[1] #[0] (aA (pv 1) aB))))) aZ)
   (aC (aP (i:=4) iE.nd rfl bN (cZ jC #[0] T.cR cW (aA (pv 3) aB)))
   (aC (aP (i:=5) iE.nd rfl bN (fS cI D_calm hr #[1] #[0] (aA (pv 4) aB)))
   (aC (bO (PW.pt (pw_or (aU (CH hr.units) (pv 4) (pv 3) (aW _)) (pw_or1 (bZ (bX (aY D_law_calm hr #[1] #[0] (aA (pv 5) (aA (pv 3) (aA (pv 2) aB))))))))) (aF (aT fL)) aZ)
   (aC (aP (i:=6) iE.nd rfl bN (aM eM (bQ (aA aE aB)) (bM (NB:=["_law_group","_law_table"]) (pick:=[none,some 3]) (bG #[7] (by exact(And.intro rfl trivial)) rfl #[2] #[2] #[0] #[0]) rfl
     (gZ #[0] T.bW (aA aE (aA aE aB))) (fun _ _ _=>aO (i:=0) #[8,["_law_group","_law_table"]] rfl bN)
     (fun _ _ _=>bJ) (fun _ _ _=>(aQ (bU K) (pv 1) (aM IK (pv 0) aE) #[6])))))
   (aC (gG (aQ a8 (pv 3) aE #[6]) (gF (pv 6) aE set_list))
   (aC (bO (bZ (bX (aY D_law_calm hr #[1] #[0] (aA (fS cI D_calm hr #[1] #[0] (aA (cZ jC #[0] T.cR cW (aA (pv 6) aB)) aB)) (aA (pv 6) (aA aE aB)))))) (aF (aT fL)) aZ)
   (aC (aP (i:=7) iE.nd rfl bN (fS cI D_calm hr #[1] #[0] (aA (pv 4) aB)))
   (aC (bO (PW.pt (pw_or (aU (zS hr.units) (aQ bB (pv 7) aE #[6]) (aQ bB (pv 5) aE #[6]) (aW _)) (pw_or (bZ (bX (aY D_law_calm hr #[1] #[0] (aA (pv 7) (aA (pv 3) (aA (pv 2) aB)))))) (pw_or1 (bZ (bX (aY D_law_calm hr #[1] #[0] (aA (pv 5) (aA (pv 3) (aA (pv 2) aB)))))))))) (aF (aT fL)) aZ)
   (aC (cF #[9] rfl (II (pv 7)) (aO (i:=8) iE.nd rfl bN)
    (aF (dO (Cs qCr PySem.F.slot_list_clear PySem.F.type_list_clear Bo (pv 8)))))
   (aF (aT (kU (aY D_law_calm hr #[1] #[0] (aA (fS cI D_calm hr #[1] #[0] (aA (pv 4) aB)) (aA (pv 3) (aA (pv 2) aB)))) (jK (aY D_law_calm hr #[1] #[0] (aA (pv 5) (aA (pv 3) (aA (pv 2) aB))))))))))))))))))))))))),?_⟩
  refine⟨_,rfl,a,ns,rfl,hq,hns,fun l Dl H1 hl s1 d1 d2 hd=>?_⟩;dsimp only[aX];refine EX ?_;let Im:St->Hp->Prop:=fun σ' H'=>H'=H1/\∃m:Nat,2<=m/\m<=5/\σ'=[some (.ref a),some (.ref l),some (.int (m:Int)),none,none,none,none,none,none];refine jE Im (fun kk=>?_) ?_
  .exact⟨_,rfl,l,Dl,0,rfl,aS.of hd,fun c=>⟨_,_,rfl,rfl,(by show(0:Int)<6;decide),rfl,_,rfl,cK (fun _=>kk _ _ ⟨rfl,4,by lia,by lia,rfl⟩) (fun _=>kk _ _ ⟨rfl,3,by lia,by lia,rfl⟩)⟩⟩
  rintro σ' H' ⟨rfl,m,m2,m5,rfl⟩;refine jE Im (fun kk=>?_) ?_
  .exact⟨_,rfl,l,Dl,0,rfl,aS.of hd,fun c=>⟨_,_,rfl,rfl,(by show(0:Int)<12;decide),rfl,_,rfl,cK (fun _=>kk _ _ ⟨rfl,2,by lia,by lia,rfl⟩) (fun _=>kk _ _ ⟨rfl,m,m2,m5,rfl⟩)⟩⟩
  rintro σ' H' ⟨rfl,m,m2,m5,rfl⟩;refine jE Im (fun kk=>?_) ?_
  .exact⟨_,rfl,l,Dl,0,rfl,aS.of hd,fun c=>⟨_,_,rfl,rfl,(by show(0:Int)<36;decide),rfl,_,rfl,cK (fun _=>kk _ _ ⟨rfl,5,by lia,by lia,rfl⟩) (fun _=>kk _ _ ⟨rfl,m,m2,m5,rfl⟩)⟩⟩
  rintro σ' H' ⟨rfl,m,m2,m5,rfl⟩;have n64:2^m<=64:=BN (by lia);refine⟨_,rfl,_,rfl,l,Dl,m,rfl,hd,d2,by lia,by lia,fun pt H2 tb hpt s2 hdt t0 st=>?_⟩;dsimp only[aX];refine jE (fun σ' H3=>aH H' H3/\∃(pt:Addr) (tb:Nat->Int),H3 pt=some (.lst (bF (2^m) tb))/\tb 0=0/\(∀j,Sm 300 (tb j))/\σ'=[some (.ref a),some (.ref l),some (.int (m:Int)),some (.ref pt),none,none,none,none,none]) (fun kk=>?_) ?_
  .refine⟨_,rfl,rfl,_,rfl,cK (fun _=>?_) (fun _=>kk _ _ ⟨s2,pt,tb,hdt,t0,st,rfl⟩)⟩;exists _,rfl,pt,rfl,⟨_,aS.of hdt⟩;refine cC (xs:=bF (2^m) tb) (fun j _=>some (.int (tb j%3))) (aS.of hdt) (by rw[aL];exact qAo (aK (by lia))) (fun j y H3 k1 k10 s3 hy g1 g2=>?_) fun pt2 H3 hpt2 s3 hdt2=>?_
   .obtain⟨hj,rfl⟩:=eQ hy;exact⟨_,rfl,_,_,rfl,rfl,(by show(0:Int)<3;decide),g1 _ rfl _ (.refl _)⟩
   .refine kk _ _ ⟨s2.trans s3,pt2,fun j=>tb j%3,?_,by show tb 0%3=0;rw[t0];rfl,fun j=>(show Sm 300 (tb j%3) from Sm.of 2 (by lia) #[1]),rfl⟩;rw[hdt2,aL,iN _ (aL _ _)];rfl
  rintro σ' H3 ⟨s3,pt,tb,hdt,t0,st,rfl⟩;refine jE (fun σ' H4=>∃(m:Nat) (pt:Addr) (tb:Nat->Int),2<=m/\m<=6/\H4 pt=some (.lst (bF (2^m) tb))/\tb 0=0/\(∀j,Sm 300 (tb j))/\σ'=[some (.ref a),some (.ref l),some (.int (m:Int)),some (.ref pt),none,none,none,none,none]) (fun kk=>?_) ?_
  .refine⟨_,rfl,l,Dl,0,rfl,aS.of (s3 _ _ hd),fun c=>⟨_,_,rfl,rfl,(by show(0:Int)<36;decide),rfl,_,rfl,cK (fun _=>EX ?_) (fun _=>kk _ _ ⟨m,pt,tb,m2,by lia,hdt,t0,st,rfl⟩)⟩⟩;exact⟨_,rfl,l,Dl,rfl,s3 _ _ hd,d2,d1,fun pt H4 tb _ s4 hdt t0 st=>kk _ _ ⟨6,pt,tb,by lia,by lia,hdt,t0,st,rfl⟩⟩
  clear n64 m5 m2 hdt t0 st
  rintro σ' H4 ⟨m,pt,tb,m2,m6,hdt,t0,st,rfl⟩;obtain⟨n,hN⟩:∃n,n=2^m:=⟨_,rfl⟩;rw[<- hN] at hdt;have n64:n<=64:=by rw[hN];exact BN m6
  have n4:4<=n:=by rw[hN];exact qBh (n:=2) (i:=2) #[1] m2
  have st8:∀j,Sm 80000 (tb j):=fun j=>(st j).mono #[1];refine⟨_,rfl,pt,_,rfl,.inl (aS.of hdt),fun ph hph=>?_⟩;have u5:=aH.aG (o:=.lst (bF n tb)) hph;have e5:upd H4 ph (.lst (bF n tb)) ph=_:=aD;generalize upd H4 ph (.lst (bF n tb))=H5 at u5 e5|-;dsimp only[aX];exists _,rfl;dsimp only[iR,qCj,qCl];refine uE (m:=m) (n:=n) (tb:=tb) (by lia) m6 hN t0 st8 e5 fun R lp lv lk H6 ps es kes Z d ev ks ds tl s6 c=>?_;dsimp only[aX];have ht6:=s6 _ _ (u5 _ _ hdt);have hh6:=s6 _ _ e5;have ht6':=ht6;have hh6':=hh6;rw[iM] at ht6' hh6';exists _,rfl,_,rfl,ph,pt,_,_,rfl,rfl,aS.of hh6',aS.of ht6',_,rfl;rw[decide_eq_true rfl];refine cM ⟨_,rfl,_,rfl,_,rfl,R,pt,m,n,tb,_,lp,lv,lk,ps,es,kes,Z,d,ev,ks,ds,tl,rfl,ht6,hN,by lia,m6,st8,c,fun H7 s7=>⟨_,rfl,cM ?_⟩⟩;dsimp only[y9];have s67:=s7;have ht7:=s7 _ _ ht6;have hh7:=s7 _ _ hh6;have c7:=c.same s7;refine⟨kE,fun la hla=>?_⟩;have u8:=aH.aG (o:=.lst [.int 0]) hla;have e8:upd H7 la (.lst [.int 0]) la=_:=aD;generalize upd H7 la (.lst [.int 0])=H8 at u8 e8|-;refine⟨1,4,rfl,⟨by lia,by lia,by lia,by lia⟩,?_⟩;refine j6 (n:=((4:Int)-1).toNat) (fun i ys _=>∃vs:List Int,ys=vs.map V.int/\vs.length=i/\∀v,v∈vs->Sm 300 v) (fun _ _ _ _ _ h=>h) ⟨[],rfl,rfl,fun v hv=>by cases hv⟩ (qAo (aK #[1])) (fun i H9 k1 k10 ys s9 hi iv g1 g2=>?_) fun lb ys H9 hlb s9 iv hdb=>?_
  .obtain⟨vs,rfl,vl,sv⟩:=iv;obtain⟨q,eq⟩:=Qh ⟨i,hi⟩;have q1:eV (bF n tb) (qKj ((1:Int)+(i:Int)) 1)=some (.int (tb q.1)):=(congrArg (eV (bF n tb)) eq).trans (bR (by have:=q.2;lia));refine⟨_,rfl,_,rfl,_,_,rfl,rfl,pt,_,_,_,rfl,rfl,aS.of (s9 _ _ (u8 _ _ ht7)),q1,g1 _ _ (.refl _) ⟨vs++[_],by rw[qAr];rfl,by rw[qAj,vl];rfl,fun y hy=>?_⟩⟩;rcases List.mem_append.mp hy with z | z
   .exact sv y z
   .rw[List.mem_singleton.mp z];exact st _
  obtain⟨vs,rfl,vl,sv⟩:=iv;have vl:vs.length=3:=vl;refine⟨la,lb,[.int 0],vs.map V.int,rfl,rfl,aS.of (s9 _ _ e8),aS.of hdb,by rw[qAa];show 1+vs.length<=qAi;exact qAo (aK (by lia)),fun po hpo=>?_⟩;have eo:([V.int 0]++vs.map V.int)=bF 4 fun j=>(0::vs).getD j 0:=by
   have z:=AK (0::vs);rw[qBq,vl] at z;exact z
  rw[eo];have sv0:∀j,Sm 300 ((0::vs).getD j 0):=fun j=>by
   rcases qAm j (0::vs).length with z | z
   .rw[qAf,qAc z];rcases List.mem_cons.mp (qDa z) with q | q
    .show Sm 300 ((0::vs)[j]);rw[q];exact Sm.zero
    .exact sv _ q
   .rw[qAf,qAv z];exact Sm.zero
  obtain⟨ot,eot⟩:∃ot:Nat->Int,ot=fun j=>(0::vs).getD j 0:=⟨_,rfl⟩;have ot0:ot 0=0:=by rw[eot];rfl
  have sot:∀j,Sm 300 (ot j):=fun j=>by rw[eot];exact sv0 j
  rw[<- eot];have u10:=aH.aG (o:=.lst (bF 4 ot)) hpo;have e10:upd H9 po (.lst (bF 4 ot)) po=_:=aD;generalize upd H9 po (.lst (bF 4 ot))=H10 at u10 e10|-;have s710:=u8.trans (s9.trans u10);have hpo7:=(u8.trans s9).free hpo;have at2:eV (bF n tb) 2=some (.int (tb 2)):=bR (j:=2) (by lia);have ix1:Bc 4 1=some 1:=gW (j:=1) #[1];dsimp only[aX];refine⟨_,rfl,pt,_,_,_,rfl,rfl,aS.of (s710 _ _ ht7),at2,_,rfl,po,_,_,1,rfl,rfl,e10,(by rw[aL];exact ix1),?_⟩;rw[oM];obtain⟨oz,eoz⟩:∃oz:Nat->Int,oz=fun j=>if j=1 then tb 2 else ot j:=⟨_,rfl⟩;have oz0:oz 0=0:=by rw[eoz];exact ot0
  have soz:∀j,Sm 80000 (oz j):=fun j=>by rw[eoz];exact(EY (n:=4) sot (st 2) j).mono #[1]
  rw[<- eoz];have s711:=s710.upd_ne' (o:=.lst (bF 4 oz)) hpo7;have e11:upd H10 po (.lst (bF 4 oz)) po=_:=aD;generalize upd H10 po (.lst (bF 4 oz))=H11 at s711 e11|-;refine⟨_,rfl,po,_,rfl,.inl (aS.of e11),fun l12 hl12=>?_⟩;have u12:=aH.aG (o:=.lst (bF 4 oz)) hl12;have e12:upd H11 l12 (.lst (bF 4 oz)) l12=_:=aD;generalize upd H11 l12 (.lst (bF 4 oz))=H12 at u12 e12|-;dsimp only[iR,qCj,qCl];refine uE (m:=2) (n:=4) (tb:=oz) #[1] #[1] rfl oz0 soz e12 fun R3 lp3 lv3 lk3 H13 ps3 es3 kes3 Z3 d3 ev3 ks3 ds3 tl3 s13 c3=>?_;refine⟨_,rfl,R3,po,2,4,oz,_,lp3,lv3,lk3,ps3,es3,kes3,Z3,d3,ev3,ks3,ds3,tl3,rfl,s13 _ _ (u12 _ _ e11),rfl,by decide,by decide,soz,c3,fun H14 s14=>⟨_,rfl,cM ?_⟩⟩;dsimp only[y9];have s714:=s711.trans (u12.trans (s13.trans s14));have c14:=c7.same s714;have ht14:=s714 _ _ ht7;have hh14:=s714 _ _ hh7;exists _,rfl;dsimp only[iR,qCj,qCl];refine uE (m:=m) (n:=n) (tb:=tb) (by lia) m6 hN t0 st8 hh14 fun R' lp' lv' lk' H15 ps' es' kes' Z' d' ev' ks' ds' tl' s15 c'=>?_;dsimp only[aX];have c15:=c14.same s15;have ht15:=s15 _ _ ht14;have d0:=c.cst.d0;have d0':=c'.cst.d0;have uq:=mP.uniq (by lia) m6 c'.cst c'.fe c.cst c.fe;have a0:∀x y z:Addr,eV [V.ref x,V.ref y,V.ref z] 0=some (.ref x):=fun _ _ _=>rfl;obtain⟨D1,eD1,dat1,dp1⟩:=AM (K:=K) c'.fl;obtain⟨D2,eD2,dat2,dp2⟩:=AM (K:=K) c15.fl;exists _,rfl,R',_,_,_,rfl,rfl,cE.of c'.tup,a0 _ _ _,_,rfl,R,_,_,_,rfl,rfl,cE.of c15.tup,a0 _ _ _,D1,D2,dat1,dat2,dp1,dp2,_,rfl;have z1:∀b,b=true->(!b)=false:=fun b e=>by rw[e];rfl
  rw[show D1=D2 by rw[eD1,eD2,Mw d0' d0 uq],z1 _ dat2.lay.2];refine cM ⟨_,rfl,_,rfl,_,rfl,R',pt,m,n,tb,_,lp',lv',lk',ps',es',kes',Z',d',ev',ks',ds',tl',rfl,ht15,hN,by lia,m6,st8,c',fun H16 s16=>⟨_,rfl,cM ?_⟩⟩;refine⟨_,rfl,_,rfl,_,rfl,R,pt,m,n,tb,_,lp,lv,lk,ps,es,kes,Z,d,ev,ks,ds,tl,rfl,s16 _ _ ht15,hN,by lia,m6,st8,c15.same s16,fun H17 s17=>⟨_,rfl,cM ?_⟩⟩;dsimp only[y9];have s1517:=s16.trans s17;have tup17:=s1517 _ _ c'.tup;have l1:=s1517 _ _ c'.fl.hr;have l2:=s1517 _ _ c'.qQ.hl;have l3:=s1517 _ _ c'.hk;have s1417:=s15.trans s1517;have z:∀y:Addr,V.ref y∈[V.ref lp',V.ref lv',V.ref lk']->H14 y=none/\∃xs,H17 y=some (.lst xs):=fun y hy=>by
   rcases List.mem_cons.mp hy with e | hy
   .rw[V.ref.inj e];exact⟨c'.np,_,l1⟩
   rcases List.mem_cons.mp hy with e | hy
   .rw[V.ref.inj e];exact⟨c'.nv,_,l2⟩
   rw[V.ref.inj (List.mem_singleton.mp hy)];exact⟨c'.nk,_,l3⟩
  exists _,rfl,R',rfl,⟨_,cE.of tup17⟩;refine Fm (xs:=[V.ref lp',V.ref lv',V.ref lk']) (fun i σ H'=>(∃o8:Option V,σ=[some (.ref a),some (.ref l),some (.int (m:Int)),some (.ref pt),some (.ref ph),some (.ref R),some (.ref po),some (.ref R'),o8])/\aH H14 H'/\H' R'=some (.tup [V.ref lp',V.ref lv',V.ref lk'])/\∀y:Addr,V.ref y∈[V.ref lp',V.ref lv',V.ref lk']->∃xs,H' y=some (.lst xs)) ⟨⟨_,rfl⟩,s1417,tup17,fun y hy=>(z y hy).2⟩ (fun i σ H' _ h=>cE.of h.2.2.1) (fun i y σ H' hy z9=>?_) (fun σ H18 z9=>?_)
  .obtain⟨⟨o8,eσ⟩,sH,tH,lH⟩:=z9;subst eσ;obtain⟨y,rfl⟩:∃b:Addr,y=V.ref b:=by
    match i,hy with
    | 0,e=>exact⟨_,(Option.some.inj e).symm⟩
    | 1,e=>exact⟨_,(Option.some.inj e).symm⟩
    | 2,e=>exact⟨_,(Option.some.inj e).symm⟩
   have my:=qAx hy;obtain⟨xs,hxs⟩:=lH y my;dsimp only[aX];refine⟨_,rfl,.inl ⟨rfl,_,aS.of hxs⟩,y,xs,rfl,rfl,hxs,⟨_,rfl⟩,sH.upd_ne' (z y my).1,?_,fun b hb=>?_⟩
   .rw[aR fun e=>by rw[e,hxs] at tH;cases tH];exact tH
   .by_cases e:b=y
    .rw[e];exact⟨_,aD⟩
    .rw[aR e];exact lH b hb
  .obtain⟨⟨o8,eσ⟩,s18,_,_⟩:=z9;subst eσ;have ht18:=s18 _ _ ht14;exists _,rfl;dsimp only[iR,qCj,qCl];refine uE (m:=m) (n:=n) (tb:=tb) (by lia) m6 hN t0 st8 (s18 _ _ hh14) fun R4 lp4 lv4 lk4 H19 ps4 es4 kes4 Z4 d4 ev4 ks4 ds4 tl4 s19 c4=>?_;refine⟨_,rfl,_,rfl,R4,pt,m,n,tb,_,lp4,lv4,lk4,ps4,es4,kes4,Z4,d4,ev4,ks4,ds4,tl4,rfl,s19 _ _ ht18,hN,by lia,m6,st8,c4,fun H20 s20=>⟨_,rfl,iY ?_⟩⟩;exact⟨_,rfl,_,rfl,_,rfl,R,pt,m,n,tb,_,lp,lv,lk,ps,es,kes,Z,d,ev,ks,ds,tl,rfl,s20 _ _ (s19 _ _ ht18),hN,by lia,m6,st8,c14.same (s18.trans (s19.trans s20)),fun H21 s21=>k _⟩
end
end K45
namespace PySem.W.Fast
theorem tZ:True:=⟨⟩
theorem tw13319882768576998532:True:=tZ
theorem tw6482020422393224814:True:=tZ
theorem tw14288915163059324823:True:=tZ
theorem tw16771025672242589259:True:=tZ
theorem tw235443781354704493:True:=tZ
theorem tw7181506181834517730:True:=tZ
theorem tw9180467114451523719:True:=tZ
theorem tw319140551098818099:True:=tZ
theorem tw5220260277993684134:True:=tZ
theorem tw39803969485704833:True:=tZ
theorem tw14321024622395520182:True:=tZ
theorem tw14568070150071947846:True:=tZ
theorem tw3725649067526824160:True:=tZ
theorem tw14218890964418095990:True:=tZ
theorem tw1375106994830394181:True:=tZ
theorem tw67364993282711670:True:=tZ
theorem tw17108440813354062175:True:=tZ
theorem tw14711762524380896266:True:=tZ
theorem tw1934915458782965688:True:=tZ
theorem tw3073462366619852430:True:=tZ
theorem tw9382070001912492567:True:=tZ
theorem tw8028187769385555959:True:=tZ
theorem tw11989046010900491777:True:=tZ
theorem tw177394522024982148:True:=tZ
theorem tw2229601611553237778:True:=tZ
theorem tw12743232232428722696:True:=tZ
theorem tw17084683792944472976:True:=tZ
theorem tw10728239028042090647:True:=tZ
theorem tw15895270449607877163:True:=tZ
theorem tw1787991890551330851:True:=tZ
theorem tw14534346562720920734:True:=tZ
theorem tw14358121559077983945:True:=tZ
theorem tw15045919110059489747:True:=tZ
theorem tw2229638080615818280:True:=tZ
theorem tw16677170334729854194:True:=tZ
theorem tw8385111782278125594:True:=tZ
theorem tw1659139510964600854:True:=tZ
theorem tw13979364317036631765:True:=tZ
theorem tw13587645753185294625:True:=tZ
theorem tw16343293415160622101:True:=tZ
theorem tw11778122437463008175:True:=tZ
theorem tw2720901515442130514:True:=tZ
theorem tw8830381448535214011:True:=tZ
theorem tw12114386509307433898:True:=tZ
theorem tw15663913583806722712:True:=tZ
theorem tw16405612085889007662:True:=tZ
theorem tw9764932640991781078:True:=tZ
theorem tw9078390269707829588:True:=tZ
theorem tw16242074364180439752:True:=tZ
theorem tw9236289857659904733:True:=tZ
theorem tw3137792897980326317:True:=tZ
theorem tw9529651851423667697:True:=tZ
theorem tw14664120871817172708:True:=tZ
theorem tw8996226604615404811:True:=tZ
theorem tw15230139138930112675:True:=tZ
theorem tw8926537680616408570:True:=tZ
theorem tw11126026359729965590:True:=tZ
theorem tw11978880029953649210:True:=tZ
theorem tw7880607675284632075:True:=tZ
theorem tw3556864236769684589:True:=tZ
theorem tw1566906169427893813:True:=tZ
theorem tw204964168480829939:True:=tZ
theorem tw3724122392450078401:True:=tZ
theorem tw10099340789306124958:True:=tZ
theorem tw12582738487506993788:True:=tZ
theorem tw3918212656104462173:True:=tZ
theorem tw8528685000318424800:True:=tZ
theorem tw13741056361217018404:True:=tZ
theorem tw7147676412219983532:True:=tZ
theorem tw5374790472833159128:True:=tZ
theorem tw8637883031026897625:True:=tZ
theorem tw4650437031749349384:True:=tZ
theorem tw16139063942984106187:True:=tZ
theorem tw18381859402433714380:True:=tZ
theorem tw12546158648087693344:True:=tZ
theorem tw13959398482409516398:True:=tZ
theorem tw15844229629541127146:True:=tZ
theorem tw7296600837801225882:True:=tZ
theorem tw10087303573699395186:True:=tZ
theorem tw16278366004538606499:True:=tZ
theorem tw4495221788299274901:True:=tZ
theorem tw904210852536331291:True:=tZ
theorem tw4651564998131280491:True:=tZ
theorem tw11296063811264462201:True:=tZ
theorem tw16440548100350163459:True:=tZ
theorem tw416857112951886467:True:=tZ
theorem tw16700661258479642864:True:=tZ
theorem tw17858379156033087838:True:=tZ
theorem tw13246682487605759710:True:=tZ
theorem tw5822162913934413903:True:=tZ
theorem tw16470739031075472721:True:=tZ
theorem tw12798505741467488387:True:=tZ
theorem tw14861232911313263026:True:=tZ
theorem tw7059311261686519578:True:=tZ
theorem tw6896512535311054579:True:=tZ
theorem tw4790267124952164509:True:=tZ
theorem tw9458709335421671699:True:=tZ
theorem tw18231422457277029343:True:=tZ
theorem tw5967140603929438202:True:=tZ
theorem tw15534656039130211368:True:=tZ
theorem tw9631158999288948850:True:=tZ
theorem tw6615437215891986577:True:=tZ
theorem tw11687298691811996700:True:=tZ
theorem tw11412013728327678716:True:=tZ
theorem tw11181735604000740904:True:=tZ
theorem tw9959220327514634168:True:=tZ
theorem tw3364438052816409518:True:=tZ
theorem tw9271405028791806891:True:=tZ
theorem tw16921716883061874507:True:=tZ
theorem tw10248886107194766950:True:=tZ
theorem tw9676872520952299830:True:=tZ
theorem tw8710600969075001885:True:=tZ
theorem tw5663223014990766515:True:=tZ
theorem tw521536017011502004:True:=tZ
theorem tw7143316098507163163:True:=tZ
theorem tw3765715331048950076:True:=tZ
theorem tw15880025204287413972:True:=tZ
theorem tw14402370091879099059:True:=tZ
theorem tw15916344399327238663:True:=tZ
theorem tw1447768058286091679:True:=tZ
theorem tw16317648182542240319:True:=tZ
theorem tw14209562521566056501:True:=tZ
theorem tw15786236519981530007:True:=tZ
theorem tw7206055519605221291:True:=tZ
theorem tw3705931615602158277:True:=tZ
theorem tw6670781249845556278:True:=tZ
theorem tw4264764277142437988:True:=tZ
theorem tw2432216365850266395:True:=tZ
theorem tw12983017773215466496:True:=tZ
theorem tw17313717406567658512:True:=tZ
theorem tw1970013433558974555:True:=tZ
theorem tw9823761277836008384:True:=tZ
theorem tw4505631228562801113:True:=tZ
theorem tw15496409435791295216:True:=tZ
theorem tw9412071757021818421:True:=tZ
theorem tw8846316993921011649:True:=tZ
theorem tw3182242961196969942:True:=tZ
theorem tw9529084370302867387:True:=tZ
theorem tw8599165311300267238:True:=tZ
theorem tw7923594525424033667:True:=tZ
theorem tw643099913118278320:True:=tZ
theorem tw13747873678161769413:True:=tZ
theorem tw16409878619186122135:True:=tZ
theorem tw18405759077161982139:True:=tZ
theorem tw7591296676335913399:True:=tZ
theorem tw8078080668900562779:True:=tZ
theorem tw4549287303519134397:True:=tZ
theorem tw6157682134580680469:True:=tZ
theorem tw7606518550870539052:True:=tZ
theorem tw10644519811073666091:True:=tZ
theorem tw1497229419672786844:True:=tZ
theorem tw16020701991655091171:True:=tZ
theorem tw8004803273978646621:True:=tZ
theorem tw4139653415919452823:True:=tZ
theorem tw4322583268777922302:True:=tZ
theorem tw16893302888125619220:True:=tZ
theorem tw795867495562934410:True:=tZ
theorem tw7804533142098635243:True:=tZ
theorem tw11799032163712014334:True:=tZ
theorem tw9480576977628425336:True:=tZ
theorem tw1230092388612993858:True:=tZ
theorem tw13164990221534201102:True:=tZ
theorem tw1655792162646360871:True:=tZ
theorem tw9725221599791556770:True:=tZ
theorem tw18373589358706639441:True:=tZ
theorem tw964496533253971150:True:=tZ
theorem tw15266791644338241463:True:=tZ
theorem tw781987992715650200:True:=tZ
theorem tw15953341410197380715:True:=tZ
theorem tw7110662806998929322:True:=tZ
theorem tw12158591755351265752:True:=tZ
theorem tw1654605436871585855:True:=tZ
theorem tw4905500490544506930:True:=tZ
theorem tw9328776708095891949:True:=tZ
theorem tw10376933242226910458:True:=tZ
theorem tw15294602193993765233:True:=tZ
theorem tw476405806874961801:True:=tZ
theorem tw11639234371966811225:True:=tZ
theorem tw2813531148124446292:True:=tZ
theorem tw15655944159310635074:True:=tZ
theorem tw1016902552967549191:True:=tZ
theorem tw11112740491441940169:True:=tZ
theorem tw16688029755462739662:True:=tZ
theorem tw13526488335690424982:True:=tZ
theorem tw15531643010146577495:True:=tZ
theorem tw4391091120275353188:True:=tZ
theorem tw18149092169529189770:True:=tZ
theorem tw13786986018946827643:True:=tZ
theorem tw10553811405939602859:True:=tZ
theorem tw17319921064910691036:True:=tZ
theorem tw9822778426522525661:True:=tZ
theorem tw5776308123513426348:True:=tZ
theorem tw11048132835513296978:True:=tZ
theorem tw2824709718246552138:True:=tZ
theorem tw930665781573519578:True:=tZ
theorem tw17775306191729056170:True:=tZ
theorem tw11736181193866301682:True:=tZ
theorem tw2735602059706569977:True:=tZ
theorem tw2357935249014589824:True:=tZ
theorem tw10449676625112505449:True:=tZ
theorem tw12457012717959979450:True:=tZ
theorem tw9273938322814548386:True:=tZ
theorem tw2855882064289752095:True:=tZ
theorem tw1155235948050255030:True:=tZ
theorem tw9719290245638162955:True:=tZ
theorem tw2817863954823515736:True:=tZ
theorem tw67114165685339855:True:=tZ
theorem tw687490967508627654:True:=tZ
theorem tw10025734816688059364:True:=tZ
theorem tw13622257893447068957:True:=tZ
theorem tw3845591682170855974:True:=tZ
theorem tw14623381344767388611:True:=tZ
theorem tw8858881842113393579:True:=tZ
theorem tw12409066630508922433:True:=tZ
theorem tw7999229549640839557:True:=tZ
theorem tw18427553687872596558:True:=tZ
theorem tw4507520855752131020:True:=tZ
theorem tw13643216425905595508:True:=tZ
theorem tw2479574698006310295:True:=tZ
theorem tw2642426584869914046:True:=tZ
theorem tw8539418510138566610:True:=tZ
theorem tw7224716184394679883:True:=tZ
theorem tw10333292805250878323:True:=tZ
theorem tw6578683667455355167:True:=tZ
theorem tw3434673940175754205:True:=tZ
theorem tw17783891753710051972:True:=tZ
theorem tw2704762748930085341:True:=tZ
theorem tw8133313055630490010:True:=tZ
theorem tw8705909850136487093:True:=tZ
theorem tw4515210009147258555:True:=tZ
theorem tw8988627788106228823:True:=tZ
theorem tw11302027677449202955:True:=tZ
theorem tw15387082354383363882:True:=tZ
theorem tw9226171707875080192:True:=tZ
theorem tw10478127672010343830:True:=tZ
theorem tw13380630372996408844:True:=tZ
theorem tw17112810451966124858:True:=tZ
theorem tw6978133138569220393:True:=tZ
theorem tw13896838278397842497:True:=tZ
theorem tw15615562513362802730:True:=tZ
theorem tw13046248251297936966:True:=tZ
theorem tw12792405302281179042:True:=tZ
theorem tw18084506325216672285:True:=tZ
theorem tw9015967238812661398:True:=tZ
theorem tw9746333619768808635:True:=tZ
theorem tw2154634706377999123:True:=tZ
theorem tw17537988337417103221:True:=tZ
theorem tw8413872935293259446:True:=tZ
theorem tw17061054576306854074:True:=tZ
theorem tw2183437963620256813:True:=tZ
theorem tw12553249800043080534:True:=tZ
theorem tw7307181363404666469:True:=tZ
theorem tw7175730258814334255:True:=tZ
theorem tw18146370618312678935:True:=tZ
theorem tw8294554624708282073:True:=tZ
theorem tw12013454462124825291:True:=tZ
theorem tw13025673692512067626:True:=tZ
theorem tw9846828261184182566:True:=tZ
theorem tw11438204632648192631:True:=tZ
theorem tw12110206082874007333:True:=tZ
theorem tw10193127403255613545:True:=tZ
theorem tw9585211745967983006:True:=tZ
theorem tw2756365135020215577:True:=tZ
theorem tw9437723700055735002:True:=tZ
theorem tw8589427479085317106:True:=tZ
theorem tw12513936399677951635:True:=tZ
theorem tw9022796293681132917:True:=tZ
theorem tw17454146908865158005:True:=tZ
theorem tw10313119152459863115:True:=tZ
theorem tw7145915639205320532:True:=tZ
theorem tw14744596020039166554:True:=tZ
theorem tw8431685801110388402:True:=tZ
theorem tw14809590029052926095:True:=tZ
theorem tw7988418013012462501:True:=tZ
theorem tw6811345116193735971:True:=tZ
theorem tw1349515330203772237:True:=tZ
theorem tw5359085831663393017:True:=tZ
theorem tw11966026309675404412:True:=tZ
theorem tw16673372677573206200:True:=tZ
theorem tw12559981096498671203:True:=tZ
theorem tw9297386126144262387:True:=tZ
theorem tw770931445381872885:True:=tZ
theorem tw4779362173976154781:True:=tZ
theorem tw11273302223740555249:True:=tZ
theorem tw5482824428659171873:True:=tZ
theorem tw9497817729091128247:True:=tZ
theorem tw7301730572725711773:True:=tZ
theorem tw84452935371919448:True:=tZ
theorem tw3431681175771556834:True:=tZ
theorem tw10815712876881737442:True:=tZ
theorem tw4683513413853455907:True:=tZ
end PySem.W.Fast
set_option maxHeartbeats 8000000
namespace K45
open PySem L2
theorem Qi{K:qAd}{mg:Str->Option qAl}{h:Heap}{AL LN FR iF fCh fGM fCC fCA fPL SE NN NG NT NR:Addr}  {n_AL:Nat}{osl_AL:Array (Option qAl)}{t_AL0 t_AL1 t_AL2 t_AL3 t_AL4 t_AL5:Tok}  {n_LN:Nat}{osl_LN:Array (Option qAl)}{t_LN0 t_LN1 t_LN2 t_LN3 t_LN4 t_LN5 t_LN6:Tok}  {tk_mp:Tok}{tk_mc:Tok}    {oc_FI kV_FI doc_FI pm_FI cdv_FI ct_FI:qAl}{od_FI an_FI:Option Addr}{osl_FI:Array (Option qAl)}{oc_Cho kV_Cho doc_Cho pm_Cho cdv_Cho ct_Cho:qAl}{od_Cho an_Cho:Option Addr}{osl_Cho:Array (Option qAl)}{oc_GMo kV_GMo doc_GMo pm_GMo cdv_GMo ct_GMo:qAl}{od_GMo an_GMo:Option Addr}{osl_GMo:Array (Option qAl)}{oc_CTC kV_CTC doc_CTC pm_CTC cdv_CTC ct_CTC:qAl}{od_CTC an_CTC:Option Addr}{osl_CTC:Array (Option qAl)}{oc_CAh kV_CAh doc_CAh pm_CAh cdv_CAh ct_CAh:qAl}{od_CAh an_CAh:Option Addr}{osl_CAh:Array (Option qAl)}{oc_PTL kV_PTL doc_PTL pm_PTL cdv_PTL ct_PTL:qAl}{od_PTL an_PTL:Option Addr}{osl_PTL:Array (Option qAl)}(X:K.In h)(G:h.Ns qBl mg)
  (eX:qBw K qBl "isinstance"=some none)
  (kQ:qBw K qBl "int"=some none)
  (nG:qBw K qBl "bool"=some none)
  (bW:qBw K qBl "range"=some none)
  (bV:qBw K qBl "len"=some none)
  (cR:qBw K qBl "list"=some none)
  (gL:qBw K qBl "sum"=some none)
  (pM:qBw K qBl "all"=some none)
  (vZ:qBw K qBl "any"=some none)
  (gU:qBw K qBl "tuple"=some none)
  (hZ:qBw K qBl "zip"=some none)
  (pN:qBw K qBl "abs"=some none)
  (k7:qBw K qBl "enumerate"=some none)
  (v8:qBw K qBl "max"=some none)
  (Ac:qBw K qBl "str"=some none)
  (i7:qBw K qBl "sorted"=some none)
  (rQ:qBw K qBl "set"=some none)
  (iA:qBw K qBl "reversed"=some none)
  (Fb:qBw K qBl "ALONE"=some (some (.ref AL)))
  (lkAL:K.lookup AL=some ⟨.type "tuple",none,.seq #[.int 1 t_AL0,.int 2 t_AL1,.int 4 t_AL2,.int 8 t_AL3,.int 16 t_AL4,.int 32 t_AL5] n_AL,osl_AL⟩)
  (MG:qBw K qBl "LENGTHS"=some (some (.ref LN)))
  (lkLN:K.lookup LN=some ⟨.type "tuple",none,.seq #[.int 1 t_LN0,.int 2 t_LN1,.int 4 t_LN2,.int 8 t_LN3,.int 16 t_LN4,.int 32 t_LN5,.int 64 t_LN6] n_LN,osl_LN⟩)
  (mp:qBw K qBl "MOST_PLACES"=some (some (.int 8 tk_mp)))
  (mc:qBw K qBl "MOST_COLUMNS"=some (some (.int 70 tk_mc)))
  (NI:qBw K qBl "Frame"=some (some (.ref FR)))
  (pgFR:qGd K FR Str.empty=true)
  (hdFR:qHg K FR=true)
  (poFR:qIx K FR=true)
  (saFR:qBe K (.ref FR) "__setattr__"=some (some (.builtin "object.__setattr__")))
  (caFR:qBe K (.ref FR) "__class__"=some (some (.builtin "object.__class__")))
  (moFR:qDz K FR (.type "object")=some true)
  (nmFR:qBe K (.ref FR) "many"=some none)
  (nbFR:qBe K (.ref FR) "bottom"=some none)
  (nrFR:qBe K (.ref FR) "rows"=some none)
  (ncFR:qBe K (.ref FR) "chosen"=some none)
  (f1FR:qBe K (.ref FR) "choose"=some (some (.ref fCh)))
  (f2FR:qBe K (.ref FR) "gains_more"=some (some (.ref fGM)))
  (f3FR:qBe K (.ref FR) "column_to_choose"=some (some (.ref fCC)))
  (f4FR:qBe K (.ref FR) "comes_ahead"=some (some (.ref fCA)))
  (f5FR:qBe K (.ref FR) "place_to_leave"=some (some (.ref fPL)))
  (mkFR:qJs K FR=true)
  (fiFR:qBe K (.ref FR) "__init__"=some (some (.ref iF)))
  (kkFR:qDb K (.ref FR)=true)
  (lFI:K.lookup iF=some ⟨oc_FI,od_FI,.func (qDq "__init__" "Frame.__init__" (eE MF) (cS MF) (aI MF) .none kV_FI doc_FI pm_FI an_FI cdv_FI ct_FI),osl_FI⟩)
  (cdFI:qEa K cdv_FI "Frame.__init__"=true)
  (kpFI:qDb K (.ref iF)=true)
  (fnFI:qFb K (.ref iF)=true)
  (lCho:K.lookup fCh=some ⟨oc_Cho,od_Cho,.func (qDq "choose" "Frame.choose" (eE BI) (cS BI) (aI BI) .none kV_Cho doc_Cho pm_Cho an_Cho cdv_Cho ct_Cho),osl_Cho⟩)
  (cdCho:qEa K cdv_Cho "Frame.choose"=true)
  (kpCho:qDb K (.ref fCh)=true)
  (fnCho:qFb K (.ref fCh)=true)
  (lGMo:K.lookup fGM=some ⟨oc_GMo,od_GMo,.func (qDq "gains_more" "Frame.gains_more" (eE BJ) (cS BJ) (aI BJ) .none kV_GMo doc_GMo pm_GMo an_GMo cdv_GMo ct_GMo),osl_GMo⟩)
  (cdGMo:qEa K cdv_GMo "Frame.gains_more"=true)
  (kpGMo:qDb K (.ref fGM)=true)
  (fnGMo:qFb K (.ref fGM)=true)
  (lCTC:K.lookup fCC=some ⟨oc_CTC,od_CTC,.func (qDq "column_to_choose" "Frame.column_to_choose" (eE BK) (cS BK) (aI BK) .none kV_CTC doc_CTC pm_CTC an_CTC cdv_CTC ct_CTC),osl_CTC⟩)
  (cdCTC:qEa K cdv_CTC "Frame.column_to_choose"=true)
  (kpCTC:qDb K (.ref fCC)=true)
  (fnCTC:qFb K (.ref fCC)=true)
  (lCAh:K.lookup fCA=some ⟨oc_CAh,od_CAh,.func (qDq "comes_ahead" "Frame.comes_ahead" (eE BL) (cS BL) (aI BL) .none kV_CAh doc_CAh pm_CAh an_CAh cdv_CAh ct_CAh),osl_CAh⟩)
  (cdCAh:qEa K cdv_CAh "Frame.comes_ahead"=true)
  (kpCAh:qDb K (.ref fCA)=true)
  (fnCAh:qFb K (.ref fCA)=true)
  (lPTL:K.lookup fPL=some ⟨oc_PTL,od_PTL,.func (qDq "place_to_leave" "Frame.place_to_leave" (eE BM) (cS BM) (aI BM) .none kV_PTL doc_PTL pm_PTL an_PTL cdv_PTL ct_PTL),osl_PTL⟩)
  (cdPTL:qEa K cdv_PTL "Frame.place_to_leave"=true)
  (kpPTL:qDb K (.ref fPL)=true)
  (fnPTL:qFb K (.ref fPL)=true)
  (OM:qBw K qBl "ShareError"=some (some (.ref SE)))
  (MH:qBw K qBl "NoNumber"=some (some (.ref NN)))
  (NJ:qBw K qBl "NoGroup"=some (some (.ref NG)))
  (NK:qBw K qBl "NoTable"=some (some (.ref NT)))
  (Hj:qBw K qBl "NoRows"=some (some (.ref NR)))
  (c6:qFd K (.builtin "object.__class__") "__get__"=some (some (.builtin "getset_descriptor.__get__")))
  (c7:qFr K (.builtin "object.__class__")=some true)
  (SE2:qId K (.ref SE)=some (.type "type"))
  (SE3:qBe K (.ref SE) "__getattribute__"=some (some (.builtin "BaseException.__getattribute__")))
  (SE4:qBe K (.ref SE) "__getattr__"=some none)
  (SE5:qBe K (.ref SE) "__class__"=some (some (.builtin "object.__class__")))
  (SE8:qDz K SE (.type "object")=some true)
  (SE9:qDz K SE (.type "BaseException")=some true)
  (MI:qEk K NN FD "ValueError.__new__"=true)
  (Hk:qEk K NR FD "ValueError.__new__"=true)
  (NL:qEk K NG FD "ValueError.__new__"=true)
  (NM:qEk K NT FD "ValueError.__new__"=true) :
  ∃AL LN FR iF fCh fGM fCC fCA fPL SE NN NG NT NR,T K mg AL LN FR iF fCh fGM fCC fCA fPL SE NN NG NT NR :=
 ⟨AL,LN,FR,iF,fCh,fGM,fCC,fCA,fPL,SE,NN,NG,NT,NR,qBv X G eX,qBv X G kQ,qBv X G nG,qBv X G bW,qBv X G bV,qBv X G cR,qBv X G gL,qBv X G pM,qBv X G vZ,qBv X G gU,qBv X G hZ,qBv X G pN,qBv X G k7,qBv X G v8,qBv X G Ac,qBv X G i7,qBv X G rQ,qBv X G iA,qEj X G Fb,fun _=>.inr ⟨_,_,_,lkAL,rfl,rfl,by show 6<=qAi;decide,.cons ⟨_,rfl⟩ (.cons ⟨_,rfl⟩ (.cons ⟨_,rfl⟩ (.cons ⟨_,rfl⟩ (.cons ⟨_,rfl⟩ (.cons ⟨_,rfl⟩ .nil)))))⟩,qEj X G MG,fun _=>.inr ⟨_,_,_,lkLN,rfl,rfl,by show 7<=qAi;decide,.cons ⟨_,rfl⟩ (.cons ⟨_,rfl⟩ (.cons ⟨_,rfl⟩ (.cons ⟨_,rfl⟩ (.cons ⟨_,rfl⟩ (.cons ⟨_,rfl⟩ (.cons ⟨_,rfl⟩ .nil))))))⟩,⟨_,lkLN,rfl,rfl⟩,⟨tk_mp,qEj X G mp⟩,⟨tk_mc,qEj X G mc⟩,qEj X G NI,⟨⟨⟨pgFR,hdFR,poFR,saFR⟩,caFR,c6,c7,moFR⟩,nmFR,nbFR,nrFR,ncFR,⟨f1FR,fnCho,kpCho⟩,⟨f2FR,fnGMo,kpGMo⟩,⟨f3FR,fnCTC,kpCTC⟩,⟨f4FR,fnCAh,kpCAh⟩,⟨f5FR,fnPTL,kpPTL⟩⟩,⟨mkFR,fiFR,fnFI,kkFR⟩,qY lFI cdFI kpFI (fun _ _ _ _ _ _=>L2.uu3 fun _ _ _=>rfl),qY lCho cdCho kpCho (fun _ _ _ _ _ _=>L2.uu3 fun _ _ _=>rfl),qY lGMo cdGMo kpGMo (fun _ _ _ _ _ _=>L2.uu3 fun _ _ _=>rfl),qY lCTC cdCTC kpCTC (fun _ _ _ _ _ _=>L2.uu2 fun _ _=>rfl),qY lCAh cdCAh kpCAh (fun _ _ _ _ _ _=>L2.uu4 fun _ _ _ _=>rfl),qY lPTL cdPTL kpPTL (fun _ _ _ _ _ _=>L2.uu2 fun _ _=>rfl),qEj X G OM,qEj X G MH,qEj X G NJ,qEj X G NK,qEj X G Hj,Je SE2 SE3 SE4 SE5 c6 c7 SE8 SE9,MI,Hk,NL,NM⟩
theorem walk{l:qNc}{q:qBy}{loose:List Str}{XP:(Str->Option qAl)->Heap->Prop}{YP:qDg->Heap->Prop}{d:DefRec}{K:Params->qAd}(hn:l.most=some 63)(hdf:d.params.defaults=[])
  (hY:∀(w:qDg) (h:Heap),YP w h->(K w.params).In h)
  (F:∀(w:qDg) (mg:Str->Option qAl) (fa:Addr) (h:Heap),(K w.params).In h->h.Ns qBl mg->mg d.name=some (.ref fa) ->
   ∃fd:qCo,(∀(s:qAp) (u:qAl),qNp s fd ⟨[u],[]⟩ [("_law_script",u)])/\∀base:Heap,(K w.params).In base->base.Ns qBl mg->jP l.prog w (K w.params) mg base b0 10 fa fd ["_law_script"] (AN (K w.params))) :
  qNw q loose XP YP l.row.toRowW d [] (fun f vs=>PySem.call f vs) :=
 L2.Fz (n:=63) (k:=10) (x:="_law_script") (CX:=fun _=>b0) (sp:=fun w=>AN (K w.params)) hn #[1] hdf ⟨rfl,by decide,by decide⟩ hY F (fun _ _ a ns hl _ hS=>⟨a,ns,rfl,hS,hl,fun _=>rfl⟩) fun _ _ _ _ _ z=>z
theorem Mz{P:qBy}{w:qDg}{K:qAd}{mg:Str->Option qAl}{fa:Addr}(hfa:mg "law"=some (.ref fa))(hT:∃AL LN FR iF fCh fGM fCC fCA fPL SE NN NG NT NR,T K mg AL LN FR iF fCh fGM fCC fCA fPL SE NN NG NT NR)
  (t_sNum:∃f fd,Tx K mg "is_number" JG ["thing"] f fd)
  (t_sGcd:∃f fd,Tx K mg "greatest_divisor" JH ["one","other"] f fd)
  (t_sFr:∃f fd,Tx K mg "fraction" PC ["top","bottom"] f fd)
  (t_sAreN:∃f fd,Tx K mg "are_numbers" DJ ["thing","least","most"] f fd)
  (t_sCkR:∃f fd,Tx K mg "check_rows" JI ["columns","due","gains"] f fd)
  (t_sSgn:∃f fd,Tx K mg "sign_of" JJ ["number"] f fd)
  (t_sFRw:∃f fd,Tx K mg "first_row" JK ["columns","due","place"] f fd)
  (t_sClr:∃f fd,Tx K mg "cleared" JL ["row","lead","column","bottom"] f fd)
  (t_sClb:∃f fd,Tx K mg "climb" JM ["frame","gains"] f fd)
  (t_sSpP:∃f fd,Tx K mg "spare_places" JN ["frame"] f fd)
  (t_sLvS:∃f fd,Tx K mg "leave_spares" JO ["frame"] f fd)
  (t_sWtO:∃f fd,Tx K mg "weights_of" JP ["frame"] f fd)
  (t_sPrO:∃f fd,Tx K mg "prices_of" JQ ["frame","gains","due"] f fd)
  (t_sWyO:∃f fd,Tx K mg "way_of" JR ["frame","growing"] f fd)
  (t_sWgh:∃f fd,Tx K mg "weigh" JS ["columns","due","gains"] f fd)
  (t_sWith:∃f fd,Tx K mg "is_number_within" DK ["thing","least","most"] f fd)
  (t_sPlu:∃f fd,Tx K mg "plus" JT ["one","other"] f fd)
  (t_sMin:∃f fd,Tx K mg "minus" JU ["one","other"] f fd)
  (t_sCBt:∃f fd,Tx K mg "common_bottom" JV ["fractions"] f fd)
  (t_sTpO:∃f fd,Tx K mg "tops_over" JW ["bottom","fractions"] f fd)
  (t_sWC:∃f fd,Tx K mg "whole_company" PD ["many"] f fd)
  (t_sChk:∃f fd,Tx K mg "check_group" JX ["group","many"] f fd)
  (t_sHnd:∃f fd,Tx K mg "hands_of" JY ["group"] f fd)
  (t_sMrk:∃f fd,Tx K mg "marks_of" JZ ["group","many"] f fd)
  (t_sIsT:∃f fd,Tx K mg "is_table" Ka ["thing"] f fd)
  (t_sHin:∃f fd,Tx K mg "hands_in" Kb ["table"] f fd)
  (t_sBel:∃f fd,Tx K mg "below_nought" Kc ["column"] f fd)
  (t_sRst:∃f fd,Tx K mg "rest_of" Ke ["row","rows"] f fd)
  (t_sUnt:∃f fd,Tx K mg "untold" Kf ["groups","kept","many"] f fd)
  (t_sSif:∃f fd,Tx K mg "sifted" Kg ["groups","many"] f fd)
  (t_sLLa:∃f fd,Tx K mg "least_lack" Kh ["table","many","kept","free"] f fd)
  (t_sCaS:∃f fd,Tx K mg "calm_shares" Ki ["table","many"] f fd)
  (t_sWgO:∃f fd,Tx K mg "weighing_of" Kj ["groups","many"] f fd)
  (t_sLac:∃f fd,Tx K mg "lacks_of" Kk ["table","tops","bottom"] f fd)
  (t_sLvl:∃f fd,Tx K mg "levels_of" Kl ["table","many","shares"] f fd)
  (t_sKey:∃f fd,Tx K mg "key_of" Km ["hand","groups","many"] f fd)
  (t_sCal:∃f fd,Tx K mg "calm" Kn ["table"] f fd)
  (t_sCel:∃f fd,Tx K mg "_law_cell" Ko ["_law_script","_law_k"] f fd)
  (t_sDrw:∃f fd,Tx K mg "_law_draws" Kq ["_law_script"] f fd)
  (t_sWho:∃f fd,Tx K mg "_law_whole" Kr ["_law_found"] f fd)
  (t_sDiv:∃f fd,Tx K mg "_law_divisor" Ks ["_law_one","_law_other"] f fd)
  (t_sLFr:∃f fd,Tx K mg "_law_fraction" Kt ["_law_found"] f fd)
  (t_sLFs:∃f fd,Tx K mg "_law_fractions" Ku ["_law_found","_law_many"] f fd)
  (t_sLow:∃f fd,Tx K mg "_law_low" Kv ["_law_numbers"] f fd)
  (t_sTop:∃f fd,Tx K mg "_law_tops" Kw ["_law_numbers","_law_low_here"] f fd)
  (t_sNmb:∃f fd,Tx K mg "_law_number" Kx ["_law_cell_here"] f fd)
  (t_sShr:∃f fd,Tx K mg "_law_share" Ky ["_law_tops_here","_law_group"] f fd)
  (t_sWgi:∃f fd,Tx K mg "_law_weighing" Kz ["_law_found","_law_many","_law_groups"] f fd)
  (t_sLKy:∃f fd,Tx K mg "_law_keys" KA ["_law_found","_law_many","_law_groups"] f fd)
  (t_sLLv:∃f fd,Tx K mg "_law_levels" KC ["_law_found","_law_lacks","_law_low_here","_law_many"] f fd)
  (t_sLCa:∃f fd,Tx K mg "_law_calm" KD ["_law_found","_law_table","_law_many"] f fd)
  (t_sOne:∃f fd,Tx K mg "_law_ones" KG ["_law_number_here"] f fd)
  (t_sRaw:∃f fd,Tx K mg "_law_raw" KH ["_law_script","_law_many"] f fd)
  (t_sDrn:∃f fd,Tx K mg "_law_drawn" KI ["_law_script","_law_many"] f fd)
  (t_sSix:∃f fd,Tx K mg "_law_six" KJ ["_law_draws_here"] f fd)
  (t_sLaw:∃f fd,Tx K mg "law" KL ["_law_script"] f fd)
  : ∃fd:qCo,(∀(s:qAp) (u:qAl),qNp s fd ⟨[u],[]⟩ [("_law_script",u)])/\∀base:Heap,K.In base->base.Ns qBl mg->jP P w K mg base b0 10 fa fd ["_law_script"] (AN K):=by
 obtain⟨AL,LN,FR,iF,fCh,fGM,fCC,fCA,fPL,SE,NN,NG,NT,NR,T⟩:=hT;obtain⟨f_sNum,fd_sNum,t_sNum⟩:=t_sNum;obtain⟨f_sGcd,fd_sGcd,t_sGcd⟩:=t_sGcd;obtain⟨f_sFr,fd_sFr,t_sFr⟩:=t_sFr;obtain⟨f_sAreN,fd_sAreN,t_sAreN⟩:=t_sAreN;obtain⟨f_sCkR,fd_sCkR,t_sCkR⟩:=t_sCkR;obtain⟨f_sSgn,fd_sSgn,t_sSgn⟩:=t_sSgn;obtain⟨f_sFRw,fd_sFRw,t_sFRw⟩:=t_sFRw;obtain⟨f_sClr,fd_sClr,t_sClr⟩:=t_sClr;obtain⟨f_sClb,fd_sClb,t_sClb⟩:=t_sClb;obtain⟨f_sSpP,fd_sSpP,t_sSpP⟩:=t_sSpP;obtain⟨f_sLvS,fd_sLvS,t_sLvS⟩:=t_sLvS;obtain⟨f_sWtO,fd_sWtO,t_sWtO⟩:=t_sWtO;obtain⟨f_sPrO,fd_sPrO,t_sPrO⟩:=t_sPrO;obtain⟨f_sWyO,fd_sWyO,t_sWyO⟩:=t_sWyO;obtain⟨f_sWgh,fd_sWgh,t_sWgh⟩:=t_sWgh;obtain⟨f_sWith,fd_sWith,t_sWith⟩:=t_sWith;obtain⟨f_sPlu,fd_sPlu,t_sPlu⟩:=t_sPlu;obtain⟨f_sMin,fd_sMin,t_sMin⟩:=t_sMin;obtain⟨f_sCBt,fd_sCBt,t_sCBt⟩:=t_sCBt;obtain⟨f_sTpO,fd_sTpO,t_sTpO⟩:=t_sTpO;obtain⟨f_sWC,fd_sWC,t_sWC⟩:=t_sWC;obtain⟨f_sChk,fd_sChk,t_sChk⟩:=t_sChk;obtain⟨f_sHnd,fd_sHnd,t_sHnd⟩:=t_sHnd;obtain⟨f_sMrk,fd_sMrk,t_sMrk⟩:=t_sMrk;obtain⟨f_sIsT,fd_sIsT,t_sIsT⟩:=t_sIsT;obtain⟨f_sHin,fd_sHin,t_sHin⟩:=t_sHin;obtain⟨f_sBel,fd_sBel,t_sBel⟩:=t_sBel;obtain⟨f_sRst,fd_sRst,t_sRst⟩:=t_sRst;obtain⟨f_sUnt,fd_sUnt,t_sUnt⟩:=t_sUnt;obtain⟨f_sSif,fd_sSif,t_sSif⟩:=t_sSif;obtain⟨f_sLLa,fd_sLLa,t_sLLa⟩:=t_sLLa;obtain⟨f_sCaS,fd_sCaS,t_sCaS⟩:=t_sCaS;obtain⟨f_sWgO,fd_sWgO,t_sWgO⟩:=t_sWgO;obtain⟨f_sLac,fd_sLac,t_sLac⟩:=t_sLac;obtain⟨f_sLvl,fd_sLvl,t_sLvl⟩:=t_sLvl;obtain⟨f_sKey,fd_sKey,t_sKey⟩:=t_sKey;obtain⟨f_sCal,fd_sCal,t_sCal⟩:=t_sCal;obtain⟨f_sCel,fd_sCel,t_sCel⟩:=t_sCel;obtain⟨f_sDrw,fd_sDrw,t_sDrw⟩:=t_sDrw;obtain⟨f_sWho,fd_sWho,t_sWho⟩:=t_sWho;obtain⟨f_sDiv,fd_sDiv,t_sDiv⟩:=t_sDiv;obtain⟨f_sLFr,fd_sLFr,t_sLFr⟩:=t_sLFr;obtain⟨f_sLFs,fd_sLFs,t_sLFs⟩:=t_sLFs;obtain⟨f_sLow,fd_sLow,t_sLow⟩:=t_sLow;obtain⟨f_sTop,fd_sTop,t_sTop⟩:=t_sTop;obtain⟨f_sNmb,fd_sNmb,t_sNmb⟩:=t_sNmb;obtain⟨f_sShr,fd_sShr,t_sShr⟩:=t_sShr;obtain⟨f_sWgi,fd_sWgi,t_sWgi⟩:=t_sWgi;obtain⟨f_sLKy,fd_sLKy,t_sLKy⟩:=t_sLKy;obtain⟨f_sLLv,fd_sLLv,t_sLLv⟩:=t_sLLv;obtain⟨f_sLCa,fd_sLCa,t_sLCa⟩:=t_sLCa;obtain⟨f_sOne,fd_sOne,t_sOne⟩:=t_sOne;obtain⟨f_sRaw,fd_sRaw,t_sRaw⟩:=t_sRaw;obtain⟨f_sDrn,fd_sDrn,t_sDrn⟩:=t_sDrn;obtain⟨f_sSix,fd_sSix,t_sSix⟩:=t_sSix;obtain⟨f_sLaw,fd_sLaw,t_sLaw⟩:=t_sLaw;have e:=hfa.symm.trans t_sLaw.at_;cases e;refine⟨fd_sLaw,fun s u=>.of_eq (t_sLaw.bd [u] rfl),fun base _ _=>?_⟩;obtain⟨m1,x1⟩:=T.QO;obtain⟨m2,x2⟩:=T.PF;obtain⟨m3,x3⟩:=T.PH;obtain⟨m4,x4⟩:=T.PJ;obtain⟨m5,x5⟩:=T.PK;obtain⟨m6,x6⟩:=T.PL;have d0:=KN (P:=P) (w:=w) (base:=base) t_sNum T;have d1:=KO (P:=P) (w:=w) (base:=base) t_sGcd T;have d2:=NP t_sFr T d0 d1;have d3:=Gk t_sAreN T d0;have d4:=Ln t_sCkR T d3;have d5:=KR (mg:=mg) (P:=P) (w:=w) (base:=base) t_sSgn;have d6:=KS t_sFRw T d5;have d7:=KU (P:=P) (w:=w) (base:=base) t_sClr T;have eI:=NV x1 T d6;have eC:=KY x2 T d5 d7;have eG:=KZ (P:=P) (w:=w) (base:=base) x3 T;have eT:=La x4 T eG;have eA:=Lb (P:=P) (w:=w) (base:=base) x5 T;have eP:=Lc x6 T eA;have d8:=Ld t_sClb T eT eP eC;have d9:=Le (P:=P) (w:=w) (base:=base) t_sSpP T;have d10:=Lh t_sLvS T d9 eC;have d11:=Lj t_sWtO T d2;have d12:=Ll t_sPrO T d2 d5;have d13:=Lk t_sWyO T d2;have dW:=Lo t_sWgh T d4 eI d8 d9 d10 d11 d12 d13;have v0:=Gp (P:=P) (w:=w) (base:=base) t_sWith d0;have v1:=Lu t_sIsT T d0;have v2:=Lv t_sHin T v1;have v3:=Lw (P:=P) (w:=w) (base:=base) t_sMrk T;have v4:=Oc (P:=P) (w:=w) (base:=base) t_sWC T;have v5:=Lr t_sChk T v0 v4;have v6:=Ls t_sHnd T v5;have v7:=Lz t_sPlu T d2;have v9:=LA t_sMin T d2;have v10:=Lx t_sCBt T d1;have v11:=Ly (P:=P) (w:=w) (base:=base) t_sTpO T;have b1:=LB (P:=P) (w:=w) (base:=base) t_sBel T;have b2:=LC (P:=P) (w:=w) (base:=base) t_sRst T;have b3:=LH t_sUnt T v3 b2;have b4:=LI t_sSif T b3;have b5:=LK t_sWgO T v3 dW v7;have b6:=LL t_sKey T v3 b1 dW v9;have b7:=LM t_sLac T v6;have b8:=LP t_sLLa T v10 v3 v11 b1 dW d2;have b9:=LQ t_sCaS T v4 b3 b8 v9;have b10:=LS t_sLvl T v10 v11 b7 v4 d2 b5 b4;have dC:=LW t_sCal T v2 b9 b10 b6;have l1:=LY (P:=P) (w:=w) (base:=base) t_sWho T;have l2:=LZ (P:=P) (w:=w) (base:=base) t_sDiv T;have l3:=Ma t_sLFr T l1 l2;have l4:=Mb t_sLFs T l3;have l5:=Mc t_sLow T l2;have l6:=Me (P:=P) (w:=w) (base:=base) t_sTop T;have c4:=Mg (P:=P) (w:=w) (base:=base) t_sShr T;have c5:=Mh t_sWgi T l1 l3 l5 l6;have c6:=Mj t_sLKy T l1 l3 l5 l6;have c7:=Mn t_sLLv T l3 c5;have c8:=Mo t_sLCa T l4 l5 l6 c4 c7 c6;have k1:=Mq (P:=P) (w:=w) (base:=base) t_sCel T;have k2:=Mt t_sRaw T (Mr (P:=P) (w:=w) (base:=base) t_sNmb T);exact(My t_sLaw T (Mp (P:=P) (w:=w) (base:=base) t_sDrw T) k1 (Mu t_sDrn T k1 (Ms (P:=P) (w:=w) (base:=base) t_sOne T) k2) (Mv t_sSix T k2) dC c8).ok
end K45
open PySem PySem.W PyProof.Rows
set_option maxRecDepth 100000 in
set_option maxHeartbeats 0 in
theorem PySem.Challenge.cw_shareparley_k45_whole_calm_holds : PySem.Challenge.rw_shareparley_k45_whole_calm.Holds := by
 w_on;o_law;k_head;(case hw=>w_witness2)
 k_fill
 refine K45.walk (l:=PySem.Challenge.rw_shareparley_k45_whole_calm) rfl rfl (fun w h Y=>PySem.W.kIn_of Y) ?F
 case F =>
  intro w mg fa h KX G hmg;refine K45.Mz hmg ?T ?t_sNum ?t_sGcd ?t_sFr ?t_sAreN ?t_sCkR ?t_sSgn ?t_sFRw ?t_sClr ?t_sClb ?t_sSpP ?t_sLvS ?t_sWtO ?t_sPrO ?t_sWyO ?t_sWgh ?t_sWith ?t_sPlu ?t_sMin ?t_sCBt ?t_sTpO ?t_sWC ?t_sChk ?t_sHnd ?t_sMrk ?t_sIsT ?t_sHin ?t_sBel ?t_sRst ?t_sUnt ?t_sSif ?t_sLLa ?t_sCaS ?t_sWgO ?t_sLac ?t_sLvl ?t_sKey ?t_sCal ?t_sCel ?t_sDrw ?t_sWho ?t_sDiv ?t_sLFr ?t_sLFs ?t_sLow ?t_sTop ?t_sNmb ?t_sShr ?t_sWgi ?t_sLKy ?t_sLLv ?t_sLCa ?t_sOne ?t_sRaw ?t_sDrn ?t_sSix ?t_sLaw
  case T=>
   refine' K45.Qi KX G ?eX ?kQ ?nG ?bW ?bV ?cR ?gL ?pM ?vZ ?gU ?hZ ?pN ?k7 ?v8 ?Ac ?i7 ?rQ ?iA ?Fb ?lkAL ?MG ?lkLN ?mp ?mc ?NI ?pgFR ?hdFR ?poFR ?saFR ?caFR ?moFR ?nmFR ?nbFR ?nrFR ?ncFR ?f1FR ?f2FR ?f3FR ?f4FR ?f5FR ?mkFR ?fiFR ?kkFR ?lFI ?cdFI ?kpFI ?fnFI ?lCho ?cdCho ?kpCho ?fnCho ?lGMo ?cdGMo ?kpGMo ?fnGMo ?lCTC ?cdCTC ?kpCTC ?fnCTC ?lCAh ?cdCAh ?kpCAh ?fnCAh ?lPTL ?cdPTL ?kpPTL ?fnPTL ?OM ?MH ?NJ ?NK ?Hj ?c6 ?c7 ?SE2 ?SE3 ?SE4 ?SE5 ?SE8 ?SE9 ?MI ?Hk ?NL ?NM
   case eX|kQ|nG|bW|bV|cR|gL|pM|vZ|gU|hZ|pN|k7|v8|Ac|i7|rQ|iA|Fb|lkAL|MG|lkLN|mp|mc|NI|pgFR|hdFR|poFR|saFR|caFR|moFR|nmFR|nbFR|nrFR|ncFR|f1FR|f2FR|f3FR|f4FR|f5FR|mkFR|fiFR|kkFR|lFI|cdFI|kpFI|fnFI|lCho|cdCho|kpCho|fnCho|lGMo|cdGMo|kpGMo|fnGMo|lCTC|cdCTC|kpCTC|fnCTC|lCAh|cdCAh|kpCAh|fnCAh|lPTL|cdPTL|kpPTL|fnPTL|OM|MH|NJ|NK|Hj|c6|c7|SE2|SE3|SE4|SE5|SE8|SE9=>k_is
   case MI|Hk|NL|NM=>k_exc
  case t_sNum|t_sSgn|t_sSpP|t_sLvS|t_sWtO|t_sCBt|t_sWC|t_sHnd|t_sIsT|t_sHin|t_sBel|t_sCal|t_sDrw|t_sWho|t_sLFr|t_sLow|t_sNmb|t_sOne|t_sSix|t_sLaw=>
   refine' L2.bS KX G ?a ?l ?c ?k (fun _ _ _ _ _ _=>L2.uu1 fun _=>rfl)
   case a|l|c|k=>k_is
  case t_sGcd|t_sFr|t_sClb|t_sWyO|t_sPlu|t_sMin|t_sTpO|t_sChk|t_sMrk|t_sRst|t_sSif|t_sCaS|t_sWgO|t_sCel|t_sDiv|t_sLFs|t_sTop|t_sShr|t_sRaw|t_sDrn=>
   refine' L2.bS KX G ?a ?l ?c ?k (fun _ _ _ _ _ _=>L2.uu2 fun _ _=>rfl)
   case a|l|c|k=>k_is
  case t_sAreN|t_sCkR|t_sFRw|t_sPrO|t_sWgh|t_sWith|t_sUnt|t_sLac|t_sLvl|t_sKey|t_sWgi|t_sLKy|t_sLCa=>
   refine' L2.bS KX G ?a ?l ?c ?k (fun _ _ _ _ _ _=>L2.uu3 fun _ _ _=>rfl)
   case a|l|c|k=>k_is
  case t_sClr|t_sLLa|t_sLLv=>
   refine' L2.bS KX G ?a ?l ?c ?k (fun _ _ _ _ _ _=>L2.uu4 fun _ _ _ _=>rfl)
   case a|l|c|k=>k_is
