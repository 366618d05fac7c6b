import PyProof.Rows.All
import Wide.All
import OpenK.AllK
import Wide.FinOn
import Lean
import PyProof.EqAt
import PyProof.EqKinds
import PyProof.TupleCall
import PySem.Challenge.RW_shareparley_k54_tables_refused
import KE.IntBitsLaws
import OpenK.KEqL
import KE.LcSums
import KE.KTupSum
import PyProof.Rows.EqDataRows
import PyProof.EnumMake
import PyProof.Rows.Range3
import PyProof.Rows.SortShell
import PyProof.Rows.SortWalk
import PyProof.ListRange
import KE.KSortTup
import KE.KDictOf
import KE.KMinKey
import KE.KDictList
import PyProof.Rows.SetFrom
import PyProof.SetScanFacts
import KE.KRevIter
set_option autoImplicit true
open PySem renaming wpAny_bind->qAa,wpAny_pure->qAe,sizeLine->qAf,Value->qAi,Shared->qAl,mainGlobals->qAz,wpAny->qBj,starEach->qBo,Program->qBx,model->qCa,sizeLine_eq->qCi,FuncData->qCl,wpAny_newObj_type->qCp,bootBuiltins->qCq,Around->qDd,World->qDe,wpAny_holding->qDl,compareOp->qDs,wpAny_truthy_bool->qDv,wpAny_call_entry->qEg,wpAny_callSpecial?_slot->qEl,wpAny_typeNameOfWhole_keyiter->qEx,wpAny_Call_Name_kw->qFe,wpAny_passesOwn->qFf,codeAny_mono->qFg,codeAny_builtin->qFh,wpAny_setState_of->qFk,wpAny_mono->qFl,sysModules->qFm,foldedSetIterable->qFn,wpAny_setField->qFs,scanBound->qFt,wpAny_askSetting->qFw,binaryOp->qFx,intKind->qGb,wpAny_typeNameOf_keyiter->qGe,wpAny_of_eq->qGr,SetTable->qGt,backTo->qGu,PyData->qGv,codeAny->qHa,wpAny_attempt->qHh,attributeBase->qHi,wpAny_rule->qHl,wpAny_execs_nil->qHm,sliceBounds->qHn,wpAny_typeOf->qHw,wpAny_pyIter_list->qIb,wpAny_call->qIc,cellsFrom->qId,plainId_quiet->qIo,getItem->qIp,Scope->qIx,relabel->qJb,pyNext->qJc,letOwnedTupleGo->qJd,call_meets->qJj,assignEach->qJk,wpAny_fieldsOf->qJm,recursionLimit->qJn,rawInt->qJo,firstArgMember->qJp,wpAny_standAt->qKh,swapsWith->qKi,relayAll->qKj,pickOrder->qKk,comprehension->qKl,behindInMarks->qKm,assign->qKn,IsPart->qLc,cLine->qLj,NameKind->qLp,valueAt->qLu,tupleKind->qLv,subscripted->qLw,holding->qLx,callerA->qLy,BindsTo->qLz,typeLookup->qMw,setsByText->qMx,pyIter->qMy,isInstance->qMz,closureFor->qNa,spliced->qNm,setNext->qNn,bindArgs->qNo,again->qNp,ElemsOf->qNq,typeOf->qOe,inplaceOp->qOf,newList->qOt,bindL->qOu,bindC->qOv,atKey->qOw,Keyword->qOx,compPost->qPd,GenState->qPe,newExc->qPz,isTrue->qQa,Result->qQb
open PySem.W renaming Frag->qAb,findIn->qAw,nsIn->qBi,kitOne->qBs,mg_none_of->qBu,mroIn->qCf,kitAny->qCg,keepIn->qCs,mg_of->qCu,fnOf->qDf,excIn->qDh,Looks->qDn,emptyDict->qDp,codeIn->qDu,instObj->qEj,isFn->qEu,specialIn->qEw,takesIn->qFo,callWith_K->qFp,typeIn->qGc,plainGet->qGi,looks_findIn->qGl,looks_mroIn->qGp,hasDictIn->qHb,cellsFrom_some->qHr,lookIn->qIe,plainGet_of->qIi,clsIn->qIv,plainOver->qIy,methodObj->qIz,takerIn->qJq,makesIn->qJr,hideAll->qJs,hideAll_get->qLq,of_hideAll->qMa,codeRec_of->qMb,kitx_list->qMg,kitx_dict->qMh,kdl_call->qMq,handedIn->qMr,OpenLaw->qNc,WalkO->qNv,KitX->qOg
open List renaming length_map->qAc,getElem?_eq_getElem->qAd,range->qAn,getElem?_map->qAo,length_append->qAp,getD_eq_getElem?_getD->qAq,length_range->qAs,map_append->qAu,mem_append_right->qAv,size_toArray->qAx,mem_of_getElem?->qBa,getElem?_append_right->qBb,replicate->qBc,getElem?_append_left->qBd,length_singleton->qBk,getElem?_eq_none->qBm,cons_append->qBn,nil_append->qBp,range_succ->qBt,mem_append_left->qCc,mem_cons_of_mem->qCh,getElem?_range->qCj,filterMap_append->qCm,length_cons->qCn,filterMap_cons->qCo,not_mem_nil->qCv,map_map->qCz,getElem_of_mem->qDb,filter_cons->qDi,map_cons->qDj,mem_cons_self->qDk,append_nil->qDo,mem_cons->qDw,length_take->qDz,filterMap_eq_map'->qEd,replicate_succ->qEf,take_length->qEh,getElem_mem->qEi,map_nil->qEn,take_add_one->qEr,length_filterMap_le->qEs,take_of_length_le->qEt,filter_append->qEv,length_replicate->qEy,length_filter_le->qEz,find?_cons->qFa,flatten_cons->qFc,ext_getElem?->qFd,of_mem_zip->qFu,length_pos_of_mem->qGf,getElem?_set->qGh,filterMap_eq_map->qGm,getElem_map->qGo,dropLast_concat_getLast->qGs,lookup->qGw,filter_nil->qGx,foldl_append->qHp,append_assoc->qHq,set->qHt,getElem?_replicate->qHu,any_cons->qHv,length_drop->qHx,getElem?_set_self->qIa,sum_append->qIf,mem_filter->qIg,length_set->qIh,mem_of_mem_take->qIr,getElem?_set_ne->qIs,nodup_nil->qIw,mem_singleton->qJf,getElem_range->qJg,filterMap_map->qJh,mem_map->qJt,lookup_cons->qJx,ext_getElem->qJy,eq_nil_of_length_eq_zero->qJz,all_eq_true->qKa,zip_append->qKp,length_nil->qKq,length_eraseIdx_of_lt->qKu,drop_zero->qKz,length_erase_of_mem->qLe,getElem?_take_of_lt->qLf,sum_cons->qLk,map_take->qLl,range_succ_eq_map->qLs,getElem?_toArray->qMd,filterMap_filter->qMe,mem_erase_of_ne->qMm,map_congr_left->qMt,map_filterMap->qNh,getElem?_drop->qNi,foldl->qNs,filter_congr->qNt,range'_succ->qNz,drop_length->qOa,mem_range->qOp,forIn_nil->qOq,all_cons->qPa,sum_nil->qPi,map_set->qPj,all_map->qPk
open Nat renaming le_refl->qAg,le_of_lt->qAk,lt_or_ge->qAm,lt_of_lt_of_le->qAy,ne_of_lt->qBe,lt_of_le_of_lt->qBh,zero_le->qBr,pow_le_pow_right->qBw,le_antisymm->qCw,le_trans->qDa,lt_irrefl->qDc,eq_zero_or_pos->qEp,le_succ->qEq,not_lt_zero->qFy,ne_of_gt->qGn,lt_succ_self->qGq,two_pow_pos->qGy,lt_succ_of_lt->qHs,pow_succ->qIk,min_eq_left->qIl,le_of_eq->qIm,gcd->qIn,one_mul->qJa,add_comm->qJw,le_add_right->qKf,eq_of_mul_eq_mul_left->qLd,le_of_dvd->qLr,le_mul_of_pos_left->qMc,sub_zero->qMj,sub_self->qMk,mul_comm->qMl,mul_le_mul_right->qMs,sub_lt_sub_left->qNf,add_mul->qNg,pos_of_ne_zero->qNr,mul_left_comm->qNw,mod_lt->qNx,gcd_dvd_right->qNy,succ_ne_self->qOh,mod_eq_of_lt->qOi,min_eq_right->qOj,gcd_dvd_left->qOk,div_eq_of_lt->qOl,mul_le_mul->qOz,mul_assoc->qPh,succ_pos->qPn,lt_trans->qPo,le_total->qPp,gcd_comm->qPq,pow_add->qPt,mul_one->qPu
open PySem.Heap renaming get?_push_of_some->qAh,lt_size->qAr,get?_push_size->qAt,size_push->qCy,get?_update_self->qDg,get?_update_other->qEe,SameBut->qFb,FlyingW->qHg,get?_none_of_le->qIt,ExtBut->qKs,MadeExcOf->qOs
open Bool renaming false_ne_true->qAj,and_eq_true->qCd,false_eq_true->qEo,false_and->qFi,eq_iff_iff->qFv,and_false->qGk,true_and->qJi,not_eq_true->qKd,not_true->qLn,or_eq_true->qOo,or_false->qPc
open Classical renaming byContradiction->qBf
open Int renaming zero_mul->qBg,toNat_natCast->qBl,mul_zero->qBy,gcd->qCb,le_of_lt->qCe,one_mul->qCk,mul_le_mul_of_nonneg_left->qCr,toNat_of_nonneg->qCt,mul_fdiv_cancel_left->qCx,mul_le_mul_of_nonneg_right->qDm,le_refl->qDq,zero_add->qDt,natAbs_mul->qDx,mul_nonneg->qDy,mul_comm->qEa,add_zero->qEb,mul_lt_mul_of_pos_right->qEk,eq_of_mul_eq_mul_left->qFj,le_of_dvd->qFz,emod_nonneg->qGa,mul_one->qGj,mul_pos->qGz,lt_of_mul_lt_mul_right->qHe,fdiv_eq_ediv_of_nonneg->qHf,lt_or_le->qHj,le_of_eq->qHk,eq_ofNat_of_zero_le->qHy,emod_lt_of_pos->qJl,gcd_dvd_right->qJu,nonneg_of_mul_nonneg_right->qKb,fdiv_one->qKc,gcd_dvd_left->qKg,gcd_pos_of_ne_zero_right->qKr,neg_mul_neg->qKv,mul_ne_zero->qKw,gcd_pos_of_ne_zero_left->qKx,le_of_mul_le_mul_right->qLa,eq_of_mul_eq_mul_right->qLb,natAbs_neg->qLg,natAbs_fdiv_le_natAbs->qLh,lt_of_mul_lt_mul_left->qLi,mul_assoc->qLt,natAbs_dvd_natAbs->qMn,le_trans->qMo,mul_neg->qNj,mul_ediv_cancel->qNk,lt_or_eq_of_le->qNu,natAbs_add_le->qOb,mul_left_comm->qOc,lt_trichotomy->qOd,gcd_mul_left->qOm,dvd_mul_left->qOn,natCast_add->qOr,mul_le_mul->qPb,fdiv_self->qPl,sub_zero->qPr,gcd_comm->qPs,sub_mul->qPv,neg_mul->qPw,mul_add->qPx,gcd_one->qPy
open Array renaming getElem?_eq_getElem->qBq,length_toList->qBz,getElem?_toList->qDr,getElem?_eq_none->qEc,getElem?_extract->qLo,size_extract->qMu,append_assoc->qMv,toList_push->qNl
open PyProof.Rows renaming callWith_type1->qBv,slot_tuple_getitem->qEm,callWith_builtin1->qIj,firstMet->qJv,IntsAre->qPm
open PySem.F renaming plainAttrs_list->qFq,type_list_append->qHc,slot_list_append->qHd,plain_extend_loop->qKe,slot_dict_values->qKo
open PySem.Calls renaming spliced_cons->qFr,spliced_nil->qGg,Name_function_global->qKt,callWith_builtin->qLm,evalArgs_plain->qMf
open PySem.Builtin renaming bitAnd->qGd
open PyProof.Rows renaming envOfC->qHo,IntsAre->qHz,firstMet->qIq,kindOf->qIu,AllBare->qJe,step_dedup->qKy,Call_->qMp,boot_range->qNb,seqObj->qPf
open Option renaming isSome_some->qMi,getD_some->qNd,getD_none->qNe,none->qOy,map->qPg
theorem bP {α:Sort _}{a:α}{b:Prop}:a=a\/b:=.inl rfl
set_option Elab.async false
set_option linter.all false
set_option maxRecDepth 100000
namespace L2
open PySem PySem.Spec PyProof.Rows
theorem jD:1<=qAf:=by decide
theorem jB:2<=qAf:=by decide
theorem IB:3<=qAf:=by decide
abbrev Key:=Sum Int Str
def oV:Key->qAi->Bool
 | .inl k,v=>Value.isInt k v
 | .inr x,v=>Value.isStrOf x v
def PR (w:qDe):Key->Int
 | .inl k=>hashInt k
 | .inr x=>hashStr w x
theorem cN:∀{k:Key}{v:qAi},oV k v=true->(∃i t,k=Sum.inl i/\v=Value.int i t)\/(∃x t,k=Sum.inr x/\v=Value.str x t)
 | .inl i,v,h=>by
  obtain⟨t,e⟩:=Value.isInt_shape (k:=i) (v:=v) h;exact .inl ⟨i,t,rfl,e⟩
 | .inr x,v,h=>by
  obtain⟨t,e⟩:=Value.isStrOf_shape (x:=x) (v:=v) h;exact .inr ⟨x,t,rfl,e⟩
theorem Bg (i:Int)(t:Tok):oV (.inl i) (.int i t)=true:=by simp[oV,Value.isInt]
theorem Bh (x:Str)(t:Tok):oV (.inr x) (.str x t)=true:=by simp[oV,Value.isStrOf]
theorem IC (a b:Int):decide ((Sum.inl a:Key)=Sum.inl b)=(a == b):=by
 by_cases e:a=b
 ·subst e;simp
 ·have h:¬(Sum.inl a:Key)=Sum.inl b:=fun q=>e (Sum.inl.inj q);rw[decide_eq_false h];exact(beq_eq_false_iff_ne.mpr e).symm
theorem ID (a b:Str):decide ((Sum.inr a:Key)=Sum.inr b)=decide (a=b):=by
 by_cases e:a=b
 ·subst e;simp
 ·have h:¬(Sum.inr a:Key)=Sum.inr b:=fun q=>e (Sum.inr.inj q);rw[decide_eq_false h,decide_eq_false e]
theorem IE (a:Int)(b:Str):decide ((Sum.inl a:Key)=Sum.inr b)=false:=decide_eq_false (fun q=>nomatch q)
theorem IF (a:Str)(b:Int):decide ((Sum.inr a:Key)=Sum.inl b)=false:=decide_eq_false (fun q=>nomatch q)
def b0 (prog:qBx)(w:qDe):PySem.KeyKind prog w Key where
 is:=oV
 hash:=PR w
 inj:=fun v a b ha hb=>by
  rcases cN ha with ⟨i,t,rfl,rfl⟩ | ⟨x,t,rfl,rfl⟩
  ·rcases cN hb with ⟨j,u,rfl,e⟩ | ⟨y,u,rfl,e⟩
   ·injection e with e1 _;rw[e1]
   ·exact nomatch e
  ·rcases cN hb with ⟨j,u,rfl,e⟩ | ⟨y,u,rfl,e⟩
   ·exact nomatch e
   ·injection e with e1 _;rw[e1]
 byValue:=fun k v h=>by
  rcases cN h with ⟨i,t,rfl,rfl⟩ | ⟨x,t,rfl,rfl⟩ <;> rfl
 pyHash:=fun hv h=>by
  rcases cN hv with ⟨i,t,rfl,rfl⟩ | ⟨x,t,rfl,rfl⟩
  ·exact wpAny_pyHash_int h
  ·exact wpAny_pyHash_str h
 eqBool:=fun hu hv h=>by
  rcases cN hu with ⟨i,t,rfl,rfl⟩ | ⟨x,t,rfl,rfl⟩
  ·rcases cN hv with ⟨j,u,rfl,rfl⟩ | ⟨y,u,rfl,rfl⟩
   ·rw[IC] at h;exact wpAny_eqBool_int h
   ·rw[IE] at h;exact SeqAt.EqAt.int_str i t y u _ _ _ _ h
  ·rcases cN hv with ⟨j,u,rfl,rfl⟩ | ⟨y,u,rfl,rfl⟩
   ·rw[IF] at h;exact SeqAt.EqAt.str_int x t j u _ _ _ _ h
   ·rw[ID] at h;exact wpAny_eqBool_str h
 «strs»:=fun k x t v h=>by
  rcases cN h with ⟨i,u,rfl,e⟩ | ⟨y,u,rfl,e⟩
  ·exact nomatch e
  ·injection e with e1 _
   subst e1;cases v <;> rfl
theorem uW (prog:qBx)(w:qDe)(i:Int)(t:Tok):(b0 prog w).is (.inl i) (.int i t)=true:=Bg i t
theorem uX (prog:qBx)(w:qDe)(x:Str)(t:Tok):(b0 prog w).is (.inr x) (.str x t)=true:=Bh x t
inductive V where
 | non | bl (b:Bool) | int (i:Int) | str (x:Str) | byt (b:Array UInt8) | flt (b:UInt64) | ref (a:Addr) | ty (n:String)
 deriving DecidableEq
def RelV:V->qAi->Prop
 | .non,u=>u=Value.none
 | .bl b,u=>u=Value.bool b
 | .int i,u=>∃t,u=Value.int i t
 | .str x,u=>∃t,u=Value.str x t
 | .byt b,u=>∃t,u=Value.bytes b t
 | .flt b,u=>∃t,u=Value.float b t
 | .ref a,u=>u=Value.ref a
 | .ty n,u=>u=Value.type n
abbrev Vals:List V->List qAi->Prop:=Paired RelV
theorem Vals.length (r:Vals xs us):xs.length=us.length:=Paired.length r
theorem Vals.get:∀{xs:List V}{us:List qAi}{i:Nat}{x:V},Vals xs us->xs[i]?=some x->∃u,us[i]?=some u/\RelV x u
 | _,_,_,_,.nil,e=>by simp at e
 | _,_,0,_,.cons r _,e=>by simp at e;subst e;exact⟨_,rfl,r⟩
 | _,_,i+1,x,.cons _ t,e=>by
  obtain⟨u,h1,h2⟩:=Vals.get (i:=i) (x:=x) t (by simpa using e);exact⟨u,by simpa using h1,h2⟩
theorem Vals.set (r:RelV x u):∀{xs:List V}{us:List qAi} (i:Nat),Vals xs us->Vals (xs.set i x) (us.set i u)
 | _,_,_,.nil=>.nil
 | _,_,0,.cons _ t=>.cons r t
 | _,_,i+1,.cons q t=>.cons q (Vals.set r i t)
theorem Vals.append:∀{xs ys:List V}{us ws:List qAi},Vals xs us->Vals ys ws->Vals (xs++ys) (us++ws)
 | _,_,_,_,.nil,s=>s
 | _,_,_,_,.cons r t,s=>.cons r (Vals.append t s)
theorem Vals.take:∀{xs:List V}{us:List qAi} (n:Nat),Vals xs us->Vals (xs.take n) (us.take n)
 | _,_,0,_=>.nil
 | _,_,_+1,.nil=>.nil
 | _,_,n+1,.cons r t=>.cons r (Vals.take n t)
theorem Vals.drop:∀{xs:List V}{us:List qAi} (n:Nat),Vals xs us->Vals (xs.drop n) (us.drop n)
 | _,_,0,r=>r
 | _,_,_+1,.nil=>.nil
 | _,_,n+1,.cons _ t=>Vals.drop n t
def kH:Option V->Option qAi->Prop
 | some v,some u=>RelV v u
 | none,none=>True
 | _,_=>False
def KV {κ:Type}:List (κ×V)->List (κ×qAi)->Prop:=Paired fun(p:κ×V) (q:κ×qAi)=>p.1=q.1/\RelV p.2 q.2
def kV:Key->V
 | .inl i=>.int i
 | .inr x=>.str x
inductive HO where
 | lst (xs:List V)
 | tup (xs:List V)
 | dK (kvs:List (Key×V)) | dT (kvs:List (List Key×V))
 | set (S:Int->Bool) (n:Nat)
 | ins (C dx:Addr) (fs:List (Str×V))
 | own (x:Addr)
 | xd (fs:List (Str×V))
 | met (f x:Addr)
 | rng (lo hi:Int)
 | frz (o:Obj) (u:HO)
 | tbl (ps:Array qAi)
 | ext (φ:Heap->Prop)
abbrev Hp:=Addr->Option HO
def upd (H:Hp)(a:Addr)(o:HO):Hp:=fun b=>if b=a then some o else H b
theorem aC:upd H a o a=some o:=by unfold upd;rw[if_pos rfl]
theorem aL (h:b≠a):upd H a o b=H b:=by unfold upd;rw[if_neg h]
theorem Fz:upd (upd H a o) a u=upd H a u:=by
 funext b;unfold upd;split <;> rfl
theorem kO {H:Hp}{a b:Addr}{o u:HO}(h:H a=some o)(h':H b=some u)(d:o≠u):a≠b:=by
 intro e;subst e;rw[h] at h';exact d (Option.some.inj h')
theorem bB {H:Hp}{a b:Addr}{o:HO}(h:H a=some o)(h':H b=none):a≠b:=by
 intro e;subst e;rw[h] at h';cases h'
section
variable (P:qBx) (w:qDe)
def cO (H:Hp)(h:Heap)(a:Addr):HO->Prop
 | .lst xs=>xs.length<=qAf/\∃(its:List qAi) (n:Nat),Vals xs its/\h.get? a=some { cls:=.type "list",data:=.seq its.toArray n }
 | .tup xs=>xs.length<=qAf/\∃its:List qAi,Vals xs its/\IsTup h a its.toArray
 | .dK kvs=>kvs.length<=qAf/\(a == qFm)=false/\∃vs,KV kvs vs/\h.DictOf (b0 P w) a vs
 | .dT kvs=>kvs.length<=qAf/\(a == qFm)=false/\∃xs:List (List Key×Addr×qAi),
   Paired (fun(p:List Key×V) (q:List Key×Addr×qAi)=>p.1=q.1/\H q.2.1=some (.tup (p.1.map kV))/\RelV p.2 q.2.2) kvs xs /\
   ∃o es ep,h.get? a=some o/\o.ExactDict/\o.data = .dict es ep/\es.toList=xs.map (entryOfKey (qLv (b0 P w)))/\(xs.map (·.1)).Nodup
 | .set S n=>h.SetOf (qGb P w) a S n
 | .ins C dx fs=>H dx=some (.own a)/\fs.length<=1000/\dx≠a/\h.get? a=some (qEj C dx) /\
   ∃mA,h.Ns1 dx mA/\(∀f,kH (fs.lookup f) (mA f))/\PySem.Within mA (fs.map (·.1))
 | .own _=>∃o,h.get? a=some o
 | .xd fs=>∃mA,h.Ns1 a mA/\∀f,kH (fs.lookup f) (mA f)
 | .rng lo hi=>∃t u v,h.get? a=some { cls:=.type "range",data:=.fields #[.int lo t,.int hi u,.int 1 v] }
 | .frz o u=>h.get? a=some o/\cO H h a u
 | .tbl ps=>h.get? a=some { cls:=.none,data:=.fields ps }
 | .met f x=>h.get? a=some (qIz (.ref f) (.ref x))
 | .ext φ=>φ h/\(∃o,h.get? a=some o)/\∀h1 h2:Heap,φ h1->(∀o,h1.get? a=some o->h2.get? a=some o)->φ h2
def kI (H:Hp)(h:Heap):Prop:=∀a o,H a=some o->cO P w H h a o
end
section
variable {P:qBx}{w:qDe}{H H':Hp}{h h':Heap}{a:Addr}{o:HO}
theorem cO.lt (x:cO P w H h a o):a<h.objs.size:=by
 cases o with
 | lst xs=>obtain⟨_,_,_,_,e⟩:=x;exact qAr e
 | tup xs=>obtain⟨_,_,_,p⟩:=x;exact p.lt
 | dK kvs=>obtain⟨_,_,_,_,o,_,_,e,_⟩:=x;exact qAr e
 | dT kvs=>obtain⟨_,_,_,_,o,_,_,e,_⟩:=x;exact qAr e
 | set S n=>obtain⟨o,_,_,_,e,_⟩:=x;exact qAr e
 | ins C dx fs=>obtain⟨_,_,_,e,_⟩:=x;exact qAr e
 | own y=>obtain⟨_,e⟩:=x;exact qAr e
 | xd fs=>obtain⟨_,⟨_,_,_,e,_⟩,_⟩:=x;exact qAr e
 | rng lo hi=>obtain⟨_,_,_,e⟩:=x;exact qAr e
 | frz ob u=>obtain⟨e,_⟩:=x;exact qAr e
 | tbl ps=>exact qAr (show h.get? a=some _ from x)
 | met f y=>exact qAr (show h.get? a=some _ from x)
 | ext φ=>obtain⟨_,⟨_,e⟩,_⟩:=x;exact qAr e
theorem Paired.IG:∀{l₁:List α}{l₂:List β},Paired F l₁ l₂->(∀a b,F a b->G a b)->Paired G l₁ l₂
 | _,_,.nil,_=>.nil
 | _,_,.cons r t,f=>.cons (f _ _ r) (Paired.IG t f)
theorem cO.tG (x:cO P w H h a o)(k:∀b u,(b=a\/H b=some (.own a))->h.get? b=some u->h'.get? b=some u)
  (ho:∀b,H b=some (.own a)->H' b=some (.own a)) (ht:∀b xs,H b=some (.tup xs)->H' b=some (.tup xs)):cO P w H' h' a o:=by
 induction o with
 | lst xs=>obtain⟨z,its,n,r,e⟩:=x;exact⟨z,its,n,r,k _ _ (.inl rfl) e⟩
 | tup xs=>obtain⟨z,its,r,ob,e,c⟩:=x;exact⟨z,its,r,ob,k _ _ (.inl rfl) e,c⟩
 | dK kvs=>obtain⟨z,y,vs,r,ob,es,ep,e,c⟩:=x;exact⟨z,y,vs,r,ob,es,ep,k _ _ (.inl rfl) e,c⟩
 | dT kvs =>
  obtain⟨z,y,xs,r,ob,es,ep,e,c⟩:=x;exact⟨z,y,xs,Paired.IG r fun p q z=>⟨z.1,ht _ _ z.2.1,z.2.2⟩,ob,es,ep,k _ _ (.inl rfl) e,c⟩
 | set S n=>obtain⟨ob,es,ep,t,e,c⟩:=x;exact⟨ob,es,ep,t,k _ _ (.inl rfl) e,c⟩
 | ins C dx fs =>
  obtain⟨d,z,ne,e,mA,⟨od,es,ep,e2,c⟩,r⟩:=x;exact⟨ho _ d,z,ne,k _ _ (.inl rfl) e,mA,⟨od,es,ep,k _ _ (.inr d) e2,c⟩,r⟩
 | own y=>obtain⟨ob,e⟩:=x;exact⟨ob,k _ _ (.inl rfl) e⟩
 | xd fs=>obtain⟨mA,⟨od,es,ep,e,c⟩,r⟩:=x;exact⟨mA,⟨od,es,ep,k _ _ (.inl rfl) e,c⟩,r⟩
 | rng lo hi=>obtain⟨t,u,v,e⟩:=x;exact⟨t,u,v,k _ _ (.inl rfl) e⟩
 | frz ob u ih=>obtain⟨e,q⟩:=x;exact⟨k _ _ (.inl rfl) e,ih q⟩
 | tbl ps =>
  have e:h.get? a=some { cls:=.none,data:=.fields ps }:=x;show h'.get? a=some { cls:=.none,data:=.fields ps };exact k a _ (.inl rfl) e
 | met f y =>
  have e:h.get? a=some (qIz (.ref f) (.ref y)):=x;show h'.get? a=some (qIz (.ref f) (.ref y));exact k a _ (.inl rfl) e
 | ext φ=>obtain⟨p,⟨o,e⟩,st⟩:=x;exact⟨st _ _ p fun o q=>k _ _ (.inl rfl) q,⟨o,k _ _ (.inl rfl) e⟩,st⟩
theorem kI.lt (x:kI P w H h)(e:H a=some o):a<h.objs.size:=(x a o e).lt
theorem kI.fresh (x:kI P w H h)(e:h.objs.size<=a):H a=none:=by
 cases q:H a with
 | none=>rfl
 | some u=>exact absurd (qAy (x.lt q) e) (qDc _)
theorem kI.kept (x:kI P w H h)(k:∀b u,h.get? b=some u->h'.get? b=some u):kI P w H h':=fun a o e =>
 (x a o e).tG (fun b u _ q=>k b u q) (fun _ q=>q) fun _ _ q=>q
theorem kI.laid (x:kI P w H h)(k:∀b u,h.get? b=some u->h'.get? b=some u)(hp:h.objs.size<=a)(new:cO P w (upd H a o) h' a o):kI P w (upd H a o) h':=fun b u e=>by
 have hn:=x.fresh hp;by_cases hb:b=a
 ·subst hb;rw[aC] at e;cases e;exact new
 ·rw[aL hb] at e;exact(x b u e).tG (fun c v _ q=>k c v q) (fun c q=>by rw[aL (bB q hn)];exact q) fun c xs q=>by rw[aL (bB q hn)];exact q
end
def Rd (H:Hp)(a:Addr)(u:HO):Prop:=H a=some u\/∃o,H a=some (.frz o u)
theorem Rd.ok (r:Rd H a u)(x:kI P w H h):cO P w H h a u:=by
 rcases r with r | ⟨o,r⟩
 ·exact x a u r
 ·obtain⟨_,q⟩:=x a _ r;exact q
def Nb:Option HO->Prop
 | some (.lst _)=>True
 | some (.dK _)=>True
 | some (.dT _)=>True
 | some (.set _ _)=>True
 | some (.ins _ _ _)=>True
 | some (.ext _)=>True
 | _=>False
section
variable {P:qBx}{w:qDe}{H:Hp}{h h':Heap}{x e:Addr}{o':HO}
theorem kI.write (ok:kI P w H h)(mu:Nb (H x))(he:e=x\/H e=some (.own x))(k:∀b u,b≠e->h.get? b=some u->h'.get? b=some u)(heo:∃u,h'.get? e=some u)
  (new:cO P w (upd H x o') h' x o'):kI P w (upd H x o') h':=fun b u q=>by
 have nown:∀c y,H c=some (.own y)->c≠x:=fun c y r z=>by subst z;rw[r] at mu;exact mu
 have ntup:∀c xs,H c=some (.tup xs)->c≠x:=fun c xs r z=>by subst z;rw[r] at mu;exact mu
 by_cases hb:b=x
 ·subst hb;rw[aC] at q;cases q;exact new
 ·rw[aL hb] at q;by_cases hbe:b=e
  ·have q':H b=some (.own x):=by
    rcases he with z | z
    ·exact absurd (hbe.trans z) hb
    ·rw[hbe];exact z
   rw[q] at q';cases q';obtain⟨v,hv⟩:=heo;exact⟨v,by rw[hbe];exact hv⟩
  ·refine(ok b u q).tG (fun c v hc r=>k c v ?_ r) (fun c r=>by rw[aL (nown c b r)];exact r) fun c xs r=>by rw[aL (ntup c xs r)];exact r
   rcases hc with rfl | hc
   ·exact hbe
   ·rintro rfl;rcases he with z | z
    ·exact nown c b hc z
    ·rw[hc] at z;cases z;exact hb rfl
end
structure Un (fs ex:List Addr) (H H':Hp) (h h':Heap):Prop where
 keep:∀b o,h.get? b=some o->H b=none->b∉fs->b∉ex->h'.get? b=some o
 slot:∀b o,h.get? b=some o->H b=none->b∈fs->b∉ex->∃sl,h'.get? b=some { o with slots:=sl }
 free:∀b o,h.get? b=some o->H b=none->b∉ex->H' b=none
 there:∀b o,h.get? b=some o->b∉ex->∃o',h'.get? b=some o'
 kJ:∀b xs,H b=some (.tup xs)->H' b=some (.tup xs)
 jE:∀b o u,H b=some (.frz o u)->H' b=some (.frz o u)
 kK:∀b ps,H b=some (.tbl ps)->∃more,H' b=some (.tbl (ps++more))
section
variable {fs fs' ex ex':List Addr}{H H1 H2:Hp}{h h1 h2 h':Heap}{a x e:Addr}{o:HO}
theorem Un.any (u:Un fs ex H H1 h h1){b:Addr}{ob:Obj}(q:h.get? b=some ob)(n:H b=none)(hx:b∉ex):∃sl,h1.get? b=some { ob with slots:=sl }:=by
 by_cases hb:b∈fs
 ·exact u.slot b ob q n hb hx
 ·exact⟨ob.slots,u.keep b ob q n hb hx⟩
theorem Un.kept (k:∀b u,h.get? b=some u->h'.get? b=some u):Un fs ex H H h h' :=
 ⟨fun b ob q _ _ _=>k b ob q,fun b ob q _ _ _=>⟨ob.slots,k b ob q⟩,fun _ _ _ n _=>n,fun b ob q _=>⟨ob,k b ob q⟩,fun _ _ q=>q,fun _ _ _ q=>q,fun _ ps q=>⟨#[],by rw[q];simp⟩⟩
theorem Un.refl:Un fs ex H H h h:=Un.kept fun _ _ q=>q
theorem Un.laid (k:∀b u,h.get? b=some u->h'.get? b=some u)(hp:h.objs.size<=a)(hn:H a=none):Un fs ex H (upd H a o) h h' where
 keep:=fun b u q _ _ _=>k b u q
 slot:=fun b u q _ _ _=>⟨u.slots,k b u q⟩
 free:=fun b u q n _=>by rw[aL (qBe (qAy (qAr q) hp))];exact n
 there:=fun b u q _=>⟨u,k b u q⟩
 kJ:=fun b xs q=>by rw[aL (bB q hn)];exact q
 jE:=fun b u xs q=>by rw[aL (bB q hn)];exact q
 kK:=fun b ps q=>⟨#[],by rw[aL (bB q hn),q];simp⟩
theorem Un.write (mu:Nb (H x))(he:e=x\/H e=some (.own x))(k:∀b u,b≠e->h.get? b=some u->h'.get? b=some u)(heo:∃u,h'.get? e=some u):Un fs ex H (upd H x o) h h':=by
 have hx:∀b,H b=none->b≠x:=fun b n z=>by subst z;rw[n] at mu;exact mu
 have hb:∀b,H b=none->b≠e:=fun b n z=>by
  subst z;rcases he with r | r
  ·exact hx b n r
  ·rw[n] at r;cases r
 have hm:∀b u,H b=some u->¬Nb (some u)->b≠x:=fun b u q nm z=>by subst z;rw[q] at mu;exact nm mu
 refine⟨fun b u q n _ _=>k b u (hb b n) q,fun b u q n _ _=>⟨u.slots,k b u (hb b n) q⟩,fun b u q n _=>by rw[aL (hx b n)];exact n,fun b u q _=>?_,
  fun b xs q=>by rw[aL (hm b _ q fun z=>z)];exact q,fun b u xs q=>by rw[aL (hm b _ q fun z=>z)];exact q,fun b ps q=>⟨#[],by rw[aL (hm b _ q fun z=>z),q];simp⟩⟩
 by_cases hbe:b=e
 ·subst hbe;exact heo
 ·exact⟨u,k b u hbe q⟩
end
def PF (h:Heap)(H:Hp):List Addr:=(qAn h.objs.size).filter fun a=>(H a).isSome
def tH (h:Heap)(H:Hp):Heap:=qJs h (PF h H)
theorem Bi (h:Heap)(H:Hp):(tH h H).objs.size=h.objs.size:=PySem.W.hideAll_size _ _
theorem Cu (e:h.get? b=some o)(n:H b=none):(tH h H).get? b=some o :=
 qLq _ e fun hm=>by
  have q:(H b).isSome=true:=(List.mem_filter.mp hm).2;rw[n] at q;simp at q
theorem FA (e:(tH h H).get? b=some o):h.get? b=some o/\H b=none:=by
 have e':h.get? b=some o:=qMa (PF h H) e;refine⟨e',?_⟩;cases q:H b with
 | none=>rfl
 | some x =>
  have hm:b∈PF h H:=List.mem_filter.mpr ⟨List.mem_range.mpr (qAr e'),by simp[q]⟩;have z:(tH h H).get? b=none:=PySem.W.hideAll_none (PF h H) hm;rw[z] at e;cases e
def FD (g h:Heap)(L:Addr):List (Addr×Obj):=(qAn h.objs.size).filterMap fun a=>if a=L\/(g.get? a).isSome=true then none else (h.get? a).map fun o=>(a,o)
def rest (g h:Heap)(L d:Addr):List (Addr×Obj):=(FD g h L).filter fun p=>decide (p.1≠d)
structure Mod (K:qAb) (mg:Str->Option qAi) (base:Heap):Prop where
 FE:K.In base
 glob:base.Ns qAz mg
 blt:∃mb,base.Ns builtinsNs mb/\∀x:Str,x≠"__name__"->mb x=qCq x
 nolimit:base.NoLimit
structure Cx where
 prog:qBx
 w:qDe
 K:qAb
 mg:Str->Option qAi
 base:Heap
 A:qDd
 N:List Str
 s₀:qAl
 H₀:Hp
 env:Env
 outer:List Env
 stack:List Env
 ex:List Addr
 fn:Str->Bool
 calm:Bool
 pn:List (Addr×Obj)
 xe:qAi->qAl->Prop
def nK (l:List Env):List Addr:=l.filterMap (·.frame)
abbrev Cx.fs (X:Cx):List Addr:=nK X.outer
def PH (sc:qIx)(x:Str):Prop:=sc.names.lookup x=some .local\/sc.names.lookup x=some .cell\/sc.names.lookup x=some .free
def Loc (sc:qIx)(x:Str):Prop:=sc.names.lookup x=some .local\/sc.names.lookup x=some .cell
def Look (env:Env)(h:Heap)(m:Str->Option qAi)(x:Str)(u:qAi):Prop :=
 (env.kindOf x=some .local/\m x=some u)\/((env.kindOf x=some .cell\/env.kindOf x=some .free)/\∃c,env.cells.lookup x=some c/\h.IsCell c (some u))
structure Cx.Ok (X:Cx):Prop where
 mod:Mod X.K X.mg X.base
 kind:X.env.scope.kind = .function
 glob:X.env.globals=qAz
 blt:X.env.builtins=builtinsNs
 above:X.s₀.heap.objs.size<=X.env.locals
 inj:∀x y c,X.env.cells.lookup x=some c->X.env.cells.lookup y=some c->x=y
 has:∀x,(X.env.kindOf x=some .cell\/X.env.kindOf x=some .free)->∃c,X.env.cells.lookup x=some c
 Nc:∀x c,X.fn x=true->X.env.cells.lookup x=some c->X.s₀.heap.objs.size<=c
 hd:X.calm=true->X.A.handled=none
 frames:X.A.frames=some X.stack
 PJ:X.stack=X.outer\/(X.stack=X.env::X.outer/\X.env.frame=some X.env.locals)
 Ra:∀b∈X.ex,b≠X.env.locals/\∀x c,X.env.cells.lookup x=some c->c≠b
 bs:∀b o,X.base.get? b=some o->X.s₀.heap.get? b=some o/\X.H₀ b=none
 Fv:X.base.objs.size<=X.s₀.heap.objs.size
 Bj:∀b o,X.base.get? b=some o->b∉X.ex
 FF:∀b∈X.ex,b∉X.fs
 kL:X.s₀.heap.FunFrames X.base X.outer
 Hj:∀b∈X.fs,X.H₀ b=none
structure Inv (X:Cx) (pins:List (Addr×Obj)) (σ:List (Option V)) (H:Hp) (s:qAl):Prop where
 ok:X.Ok
 os:s.os=X.s₀.os
 bare:qJe s.gens
 base:Un X.fs X.ex X.H₀ H X.s₀.heap s.heap
 loc:∃m,s.heap.Ns X.env.locals m/\∀(i:Nat) (x:Str) (v:V),X.N[i]?=some x->σ[i]?=some (some v)->PH X.env.scope x->∃u,RelV v u/\Look X.env s.heap m x u
 cell:∀x c,X.env.cells.lookup x=some c->∃v,s.heap.IsCell c v
 free:H X.env.locals=none
 iE:∀x c,X.env.cells.lookup x=some c->H c=none
 pin:∀p∈X.pn++pins,s.heap.get? p.1=some p.2/\H p.1=none/\p.1≠X.env.locals/\p.1∉X.fs/\∀v,p.2.data≠.cell v
 bZ:kI X.prog X.w H s.heap
 len:σ.length=X.N.length
section
variable {X:Cx}{pins:List (Addr×Obj)}{σ:List (Option V)}{H H':Hp}{s:qAl}{h':Heap}
theorem Cx.Ok.PU (ok:X.Ok){b:Addr}{o:Obj}(e:X.base.get? b=some o):b∉X.fs:=fun hb=>by
 have:=(ok.kL.mem hb).1;rw[e] at this;cases this
theorem Inv.bs (I:Inv X pins σ H s):∀b o,X.base.get? b=some o->s.heap.get? b=some o/\H b=none:=fun b o e =>
 ⟨I.base.keep b o (I.ok.bs b o e).1 (I.ok.bs b o e).2 (I.ok.PU e) (I.ok.Bj b o e),I.base.free b o (I.ok.bs b o e).1 (I.ok.bs b o e).2 (I.ok.Bj b o e)⟩
theorem Inv.bk (I:Inv X pins σ H s):∀b o,X.base.get? b=some o->s.heap.get? b=some o:=fun b o e=>(I.bs b o e).1
theorem Inv.mod (I:Inv X pins σ H s):Mod X.K X.mg X.base:=I.ok.mod
theorem Inv.qY (I:Inv X pins σ H s):X.K.In s.heap:=I.ok.mod.FE.keeps I.bk
theorem Inv.lt (I:Inv X pins σ H s):X.env.locals<s.heap.objs.size:=let ⟨_,hn,_⟩:=I.loc;hn.lt
theorem Inv.sz (I:Inv X pins σ H s):X.s₀.heap.objs.size<=s.heap.objs.size:=qDa I.ok.above (qAk I.lt)
theorem Inv.IH (I:Inv X pins σ H s){a:Addr}(h:s.heap.objs.size<=a):a∉X.fs:=fun hb=>by
 obtain⟨_,o,ho,_⟩:=I.ok.kL.mem hb;exact absurd (qAy (qAr ho) (qDa I.sz h)) (qDc _)
theorem Inv.FG (I:Inv X pins σ H s):∀x c,X.env.cells.lookup x=some c->c≠X.env.locals:=fun x c e z=>by
 obtain⟨v,o,ho,hd⟩:=I.cell x c e;obtain⟨m,⟨o',es,ep,ho',hd',_⟩,_⟩:=I.loc;rw[z,ho'] at ho;cases ho;rw[hd'] at hd;cases hd
theorem Inv.kL (I:Inv X pins σ H s):s.heap.FunFrames X.base X.outer:=by
 have all:∀(l:List Env),(∀b∈nK l,b∈X.fs)->X.s₀.heap.FunFrames X.base l->s.heap.FunFrames X.base l:=by
  intro l;induction l with
  | nil=>intro _ _;trivial
  | cons env r ih =>
   intro hs hl;obtain⟨hk,⟨L,o,hf,hn,ho,hd⟩,hr⟩:=hl;have hL:L∈X.fs:=hs L (by unfold nK;rw[qCo,hf];exact qDk);obtain⟨sl,e⟩:=I.base.slot L o ho (I.ok.Hj L hL) hL fun z=>I.ok.FF L z hL;exact⟨hk,⟨L,_,hf,hn,e,hd⟩,ih (fun b hb=>hs b (by unfold nK;rw[qCo,hf];exact qCh _ hb)) hr⟩
 exact all X.outer (fun _ hb=>hb) I.ok.kL
theorem Inv.stack (I:Inv X pins σ H s):s.heap.FunFrames X.base X.stack:=by
 rcases I.ok.PJ with e | ⟨e,hf⟩
 ·rw[e];exact I.kL
 ·rw[e];obtain⟨m,hn,_⟩:=I.loc;refine .cons (by rw[I.ok.kind];decide) hf hn ?_ I.kL;exact qIt (qDa I.ok.Fv I.ok.above)
theorem Inv.k4 (I:Inv X pins σ H s):∀b∈nK X.stack,b∈X.env.locals::X.fs:=fun b hb=>by
 rcases I.ok.PJ with e | ⟨e,hf⟩
 ·rw[e] at hb;exact qCh _ hb
 ·rw[e] at hb;unfold nK at hb;rw[qCo,hf] at hb;exact hb
theorem Inv.lG (I:Inv X pins σ H s):∀b∈nK X.stack,H b=none:=fun b hb=>by
 rcases List.mem_cons.mp (I.k4 b hb) with e | hb
 ·rw[e];exact I.free
 ·obtain⟨_,o,ho,_⟩:=I.ok.kL.mem hb;exact I.base.free b o ho (I.ok.Hj b hb) fun z=>I.ok.FF b z hb
theorem Inv.step {g':Array qPe}{t':Nat}{d':Drawn}{ch:List Addr}(I:Inv X pins σ H s)
  (hch:∀b∈ch,(b∈X.ex\/X.s₀.heap.objs.size<=b)/\b≠X.env.locals/\(∀x c,X.env.cells.lookup x=some c->c≠b)/\∀p∈X.pn++pins,p.1≠b)
  (keep:∀b o,b≠X.env.locals->b∉X.fs->b∉ch->s.heap.get? b=some o->H b=none->h'.get? b=some o)
  (slot:∀b o,b≠X.env.locals->b∈X.fs->b∉ch->s.heap.get? b=some o->H b=none->∃sl,h'.get? b=some { o with slots:=sl }) (free:∀b o,b∉ch->s.heap.get? b=some o->H b=none->H' b=none)
  (there:∀b o,b∉ch->s.heap.get? b=some o->∃o',h'.get? b=some o')
  (kJ:∀b xs,H b=some (.tup xs)->H' b=some (.tup xs)) (jE:∀b o u,H b=some (.frz o u)->H' b=some (.frz o u)) (kK:∀b ps,H b=some (.tbl ps)->∃more,H' b=some (.tbl (ps++more)))
  (ns:∀m,s.heap.Ns X.env.locals m->h'.Ns X.env.locals m) (bZ:kI X.prog X.w H' h') (hg:qJe g') :
  Inv X pins σ H' { s with heap:=h',gens:=g',drawn:=d',toks:=t' }:=by
 have neL:∀b o,X.s₀.heap.get? b=some o->b≠X.env.locals:=fun b o e=>qBe (qAy (qAr e) I.ok.above);have neC:∀b o,X.s₀.heap.get? b=some o->b∉X.ex->b∉ch:=fun b o e hx hb=>by
  rcases(hch b hb).1 with z | z
  ·exact hx z
  ·exact absurd (qAy (qAr e) z) (qDc _)
 have cellK:∀x c,X.env.cells.lookup x=some c->∀v,s.heap.IsCell c v->h'.IsCell c v:=fun x c e v ⟨o,ho,hd⟩=>by
  have nch:c∉ch:=fun z=>(hch c z).2.2.1 x c e rfl;by_cases hc:c∈X.fs
  ·obtain⟨sl,q⟩:=slot c o (I.FG x c e) hc nch ho (I.iE x c e);exact⟨_,q,hd⟩
  ·exact⟨o,keep c o (I.FG x c e) hc nch ho (I.iE x c e),hd⟩
 refine⟨I.ok,I.os,hg,⟨fun b o e n hb hx=>?_,fun b o e n hb hx=>?_,fun b o e n hx=>?_,fun b o e hx=>?_,fun b xs e=>kJ b xs (I.base.kJ b xs e),fun b o xs e=>jE b o xs (I.base.jE b o xs e),fun b ps e=>?_⟩,?_,fun x c e=>?_,?_,fun x c e=>?_,fun p hp=>?_,bZ,I.len⟩
 ·exact keep b o (neL b o e) hb (neC b o e hx) (I.base.keep b o e n hb hx) (I.base.free b o e n hx)
 ·obtain⟨sl,e1⟩:=I.base.slot b o e n hb hx;obtain⟨sl',e2⟩:=slot b _ (neL b o e) hb (neC b o e hx) e1 (I.base.free b o e n hx);exact⟨sl',e2⟩
 ·obtain⟨o',e1⟩:=I.base.there b o e hx;exact free b o' (neC b o e hx) e1 (I.base.free b o e n hx)
 ·obtain⟨o',e1⟩:=I.base.there b o e hx;exact there b o' (neC b o e hx) e1
 ·obtain⟨m1,e1⟩:=I.base.kK b ps e;obtain⟨m2,e2⟩:=kK b _ e1;exact⟨m1++m2,by rw[e2,qMv]⟩
 ·obtain⟨m,hn,hl⟩:=I.loc;refine⟨m,ns m hn,fun i x v e1 e2 e3=>?_⟩;obtain⟨u,r,l⟩:=hl i x v e1 e2 e3;refine⟨u,r,?_⟩;rcases l with l | ⟨k,c,e,z⟩
  ·exact .inl l
  ·exact .inr ⟨k,c,e,cellK x c e _ z⟩
 ·obtain⟨v,z⟩:=I.cell x c e;exact⟨v,cellK x c e v z⟩
 ·obtain⟨m,⟨o,_,_,ho,_⟩,_⟩:=I.loc;exact free _ o (fun z=>(hch _ z).2.1 rfl) ho I.free
 ·obtain⟨v,o,ho,hd⟩:=I.cell x c e;exact free c o (fun z=>(hch c z).2.2.1 x c e rfl) ho (I.iE x c e)
 ·obtain⟨e,n,ne,nf,d⟩:=I.pin p hp;have nch:p.1∉ch:=fun z=>(hch p.1 z).2.2.2 p hp rfl;exact⟨keep p.1 p.2 ne nf nch e n,free p.1 p.2 nch e n,ne,nf,d⟩
theorem Inv.un {t':Nat}(I:Inv X pins σ H s)(u:Un X.fs [] H H' s.heap h')(bZ:kI X.prog X.w H' h'):Inv X pins σ H' { s with heap:=h',toks:=t' }:=by
 obtain⟨m,⟨o,es,ep,ho,r⟩,_⟩:=id I.loc;obtain⟨sl,hL⟩:=u.any ho I.free (by simp);exact I.step (g':=s.gens) (d':=s.drawn) (ch:=[]) (fun _ z=>nomatch z) (fun b o _ hb _ e n=>u.keep b o e n hb (by simp)) (fun b o _ hb _ e n=>u.slot b o e n hb (by simp)) (fun b o _ e n=>u.free b o e n (by simp)) (fun b o _ e=>u.there b o e (by simp)) u.kJ u.jE u.kK (fun m' hm=>by
  obtain⟨o',es',ep',ho',r'⟩:=hm;rw[ho] at ho';cases ho';exact⟨_,es',ep',hL,r'⟩) bZ I.bare
theorem Inv.call {g':Array qPe}{t':Nat}{d':Drawn}{ch:List Addr}(I:Inv X pins σ H s)(u:Un (nK X.stack) ch H H' s.heap h')(bZ:kI X.prog X.w H' h')(hg:qJe g')
  (hch:∀b∈ch,(b∈X.ex\/X.s₀.heap.objs.size<=b)/\b≠X.env.locals/\(∀x c,X.env.cells.lookup x=some c->c≠b)/\∀p∈X.pn++pins,p.1≠b) :
  Inv X pins σ H' { s with heap:=h',gens:=g',drawn:=d',toks:=t' }:=by
 obtain⟨m,⟨o,es,ep,ho,r⟩,_⟩:=id I.loc;obtain⟨sl,hL⟩:=u.any ho I.free fun z=>(hch _ z).2.1 rfl;exact I.step (ch:=ch) hch (fun b o hL hb hc e n=>u.keep b o e n (fun z=>(List.mem_cons.mp (I.k4 b z)).elim hL hb) hc) (fun b o _ _ hc e n=>u.any e n hc) (fun b o hc e n=>u.free b o e n hc) (fun b o hc e=>u.there b o e hc) u.kJ u.jE u.kK (fun m' hm=>by
  obtain⟨o',es',ep',ho',r'⟩:=hm;rw[ho] at ho';cases ho';exact⟨_,es',ep',hL,r'⟩) bZ hg
theorem Inv.turned {t':Nat}{it:Addr}(I:Inv X pins σ H s)(k:∀b o,b≠it->s.heap.get? b=some o->h'.get? b=some o)(hn:H it=none)(hL:it≠X.env.locals)
  (h1:it∈X.ex\/X.s₀.heap.objs.size<=it) (h2:∀x c,X.env.cells.lookup x=some c->c≠it) (h3:∀p∈X.pn++pins,p.1≠it):Inv X pins σ H { s with heap:=h',toks:=t' }:=by
 have nit:∀b u,H b=some u->b≠it:=fun b u e z=>by rw[z,hn] at e;cases e
 refine I.step (g':=s.gens) (d':=s.drawn) (ch:=[it]) (fun b hb=>?_) (fun b o _ _ hc e _=>k b o (fun z=>hc (by simp[z])) e) (fun b o _ _ hc e _=>⟨o.slots,k b o (fun z=>hc (by simp[z])) e⟩) (fun _ _ _ _ n=>n)
  (fun b o hc e=>⟨o,k b o (fun z=>hc (by simp[z])) e⟩) (fun _ _ e=>e) (fun _ _ _ e=>e) (fun b ps e=>⟨#[],by rw[e];simp⟩) (fun m hm=>?_) (fun b u e=>?_) I.bare
 ·have e:b=it:=by simpa using hb
  subst e;exact⟨h1,hL,h2,h3⟩
 ·obtain⟨o,es,ep,ho,r⟩:=hm;exact⟨o,es,ep,k _ o (Ne.symm hL) ho,r⟩
 ·refine(I.bZ b u e).tG (fun c v hc q=>k c v ?_ q) (fun _ q=>q) fun _ _ q=>q;rcases hc with z | z
  ·rw[z];exact nit b u e
  ·exact nit c _ z
theorem Inv.tok (I:Inv X pins σ H s)(t:Nat):Inv X pins σ H { s with toks:=t }:=I.un (h':=s.heap) (t':=t) Un.refl I.bZ
theorem Inv.kept (I:Inv X pins σ H s)(k:∀b u,s.heap.get? b=some u->h'.get? b=some u):Inv X pins σ H { s with heap:=h',toks:=t' }:=I.un (Un.kept k) (I.bZ.kept k)
theorem Inv.laid (I:Inv X pins σ H s)(k:∀b u,s.heap.get? b=some u->h'.get? b=some u)(hp:s.heap.objs.size<=a)(new:cO X.prog X.w (upd H a o) h' a o):
  Inv X pins σ (upd H a o) { s with heap:=h',toks:=t' }:=I.un (Un.laid k hp (I.bZ.fresh hp)) (I.bZ.laid k hp new)
theorem Inv.write (I:Inv X pins σ H s)(mu:Nb (H x))(he:e=x\/H e=some (.own x))(k:∀b u,b≠e->s.heap.get? b=some u->h'.get? b=some u)(heo:∃u,h'.get? e=some u)
  (new:cO X.prog X.w (upd H x o) h' x o):Inv X pins σ (upd H x o) { s with heap:=h',toks:=t' }:=I.un (Un.write mu he k heo) (I.bZ.write mu he k heo new)
theorem Inv.zO (I:Inv X pins σ H s)(h:∀p∈pins',s.heap.get? p.1=some p.2/\H p.1=none/\p.1≠X.env.locals/\p.1∉X.fs/\∀v,p.2.data≠.cell v):Inv X pins' σ H s :=
 ⟨I.ok,I.os,I.bare,I.base,I.loc,I.cell,I.free,I.iE,fun p hp=>(List.mem_append.mp hp).elim (fun z=>I.pin p (qCc _ z)) (h p),I.bZ,I.len⟩
theorem oW {N:List Str}(hN:N.Nodup){i j:Nat}{x:Str}(a:N[i]?=some x)(b:N[j]?=some x):i=j:=by
 obtain⟨h1,e1⟩:=List.getElem?_eq_some_iff.mp a;obtain⟨h2,e2⟩:=List.getElem?_eq_some_iff.mp b;exact(List.getElem_inj hN).mp (e1.trans e2.symm)
theorem mR {M:Model}{A:qDd}{E:qAi->qAl->Prop}{i:Nat}{x:Str}{v:V}{u:qAi}{Q:Unit->qAl->Prop}(I:Inv X pins σ H s)(hN:X.N.Nodup)(hi:X.N[i]?=some x)(hx:Loc X.env.scope x)(r:RelV v u)
  (h:∀s',Inv X pins (σ.set i (some v)) H s'->(∃a,qFb a s.heap s'.heap/\(a=X.env.locals\/X.env.cells.lookup x=some a))->Q () s') (hf:X.fn x=true\/X.env.scope.names.lookup x=some .local:=by first|exact .inl rfl | exact .inr rfl | assumption):qBj M A (storeName X.env x u) Q E s:=by
 obtain⟨m,hn,hl⟩:=id I.loc;have hcls:(X.env.scope.kind == .class||(X.env.scope.kind == .module&&X.env.locals != X.env.globals))=false:=by rw[I.ok.kind];rfl
 have hiσ:i<σ.length:=by rw[I.len];exact(List.getElem?_eq_some_iff.mp hi).1
 have FG:=I.FG;have tracked:∀{a:Addr}{h':Heap},(∃o,s.heap.get? a=some o/\H a=none)->qFb a s.heap h'->kI X.prog X.w H h':=fun {a h'} ha hs b ob e=>by
  obtain⟨_,_,hfree⟩:=ha;refine(I.bZ b ob e).tG (fun c w' hc q=>(hs.2 c ?_).trans q) (fun _ q=>q) fun _ _ q=>q;rintro rfl;rcases hc with rfl | hc
  ·rw[hfree] at e;cases e
  ·rw[hfree] at hc;cases hc
 rcases hx with hk | hk
 ·refine wpAny_storeName_local hk hn (fun h' hn' hs=>?_) hcls;obtain⟨oL,_,_,hoL,_⟩:=id hn;refine h _ ⟨I.ok,I.os,I.bare,⟨fun b o e n hb hx=>?_,fun b o e n hb hx=>?_,I.base.free,fun b o e hx=>?_,I.base.kJ,I.base.jE,I.base.kK⟩,⟨_,hn',fun j y v' e1 e2 e3=>?_⟩,fun y c e=>?_,I.free,I.iE,fun p hp=>?_,tracked ⟨oL,hoL,I.free⟩ hs,by simpa using I.len⟩ ⟨_,hs,.inl rfl⟩
  ·exact(hs.2 b (qBe (qAy (qAr e) I.ok.above))).trans (I.base.keep b o e n hb hx)
  ·obtain⟨sl,e1⟩:=I.base.slot b o e n hb hx;exact⟨sl,(hs.2 b (qBe (qAy (qAr e) I.ok.above))).trans e1⟩
  ·obtain⟨o',e1⟩:=I.base.there b o e hx;exact⟨o',(hs.2 b (qBe (qAy (qAr e) I.ok.above))).trans e1⟩
  ·by_cases hj:j=i
   ·subst hj;rw[hi] at e1;cases e1;rw[qIa hiσ] at e2;cases e2;exact⟨u,r,.inl ⟨hk,by simp⟩⟩
   ·rw[qIs (Ne.symm hj)] at e2;obtain⟨u',r',q⟩:=hl j y v' e1 e2 e3;refine⟨u',r',?_⟩;rcases q with ⟨k,e⟩ | ⟨k,c,e,z⟩
    ·refine .inl ⟨k,?_⟩;have:y≠x:=fun e=>hj (oW hN e1 (e▸hi));simp[this,e]
    ·exact .inr ⟨k,c,e,z.sameBut hs (FG y c e)⟩
  ·obtain⟨w',z⟩:=I.cell y c e;exact⟨w',z.sameBut hs (FG y c e)⟩
  ·obtain⟨e,n,ne,nf,d⟩:=I.pin p hp;exact⟨(hs.2 p.1 ne).trans e,n,ne,nf,d⟩
 ·have hfn:X.fn x=true:=by
   rcases hf with z | z
   ·exact z
   ·rw[z] at hk;cases hk
  obtain⟨c,hc⟩:=I.ok.has x (.inl hk);obtain⟨w',z⟩:=I.cell x c hc;refine wpAny_storeName_cell I.ok.kind hk hc z (fun h' hc' hs=>?_);obtain⟨oc,hoc,hocd⟩:=id z;refine h { s with heap:=h' } ⟨I.ok,I.os,I.bare,⟨fun b o e n hb hx=>?_,fun b o e n hb hx=>?_,I.base.free,fun b o e hx=>?_,I.base.kJ,I.base.jE,I.base.kK⟩,⟨m,hn.sameBut hs (Ne.symm (FG x c hc)),fun j y v' e1 e2 e3=>?_⟩,fun y c' e=>?_,I.free,I.iE,fun p hp=>?_,tracked ⟨oc,hoc,I.iE x c hc⟩ hs,by simpa using I.len⟩ ⟨c,hs,.inr hc⟩
  ·exact(hs.2 b (qBe (qAy (qAr e) (I.ok.Nc x c hfn hc)))).trans (I.base.keep b o e n hb hx)
  ·obtain⟨sl,e1⟩:=I.base.slot b o e n hb hx;exact⟨sl,(hs.2 b (qBe (qAy (qAr e) (I.ok.Nc x c hfn hc)))).trans e1⟩
  ·obtain⟨o',e1⟩:=I.base.there b o e hx;exact⟨o',(hs.2 b (qBe (qAy (qAr e) (I.ok.Nc x c hfn hc)))).trans e1⟩
  ·by_cases hj:j=i
   ·subst hj;rw[hi] at e1;cases e1;rw[qIa hiσ] at e2;cases e2;exact⟨u,r,.inr ⟨.inl hk,c,hc,hc'⟩⟩
   ·rw[qIs (Ne.symm hj)] at e2;obtain⟨u',r',q⟩:=hl j y v' e1 e2 e3;refine⟨u',r',?_⟩;rcases q with q | ⟨k,c',e,z'⟩
    ·exact .inl q
    ·refine .inr ⟨k,c',e,z'.sameBut hs ?_⟩;rintro rfl;exact hj (oW hN e1 (I.ok.inj _ _ _ e hc▸hi))
  ·by_cases hcc:c'=c
   ·subst hcc;exact⟨_,hc'⟩
   ·obtain⟨w2,z2⟩:=I.cell y c' e;exact⟨w2,z2.sameBut hs hcc⟩
  ·obtain⟨e,n,ne,nf,d⟩:=I.pin p hp;refine⟨(hs.2 p.1 ?_).trans e,n,ne,nf,d⟩;intro q;rw[q,hoc] at e;have q':oc=p.2:=Option.some.inj e;exact d w' (by rw[<- q'];exact hocd)
theorem lH (I:Inv X pins σ H s)(hN:X.N.Nodup)(hi:X.N[i]?=some x)(hx:Loc X.env.scope x)(r:RelV v u)
  (h:∀s',Inv X pins (σ.set i (some v)) H s'->Q () s') (hf:X.fn x=true\/X.env.scope.names.lookup x=some .local:=by first|exact .inl rfl | exact .inr rfl | assumption):qBj M A (storeName X.env x u) Q E s :=
 mR I hN hi hx r (fun s' I' _=>h s' I') hf
theorem Inv.call' (I:Inv X pins σ H s)(ho:s'.os=s.os)(u:Un (nK X.stack) ch H H' s.heap s'.heap)(bZ:kI X.prog X.w H' s'.heap)(hg:qJe s'.gens)
  (hch:∀b∈ch,(b∈X.ex\/X.s₀.heap.objs.size<=b)/\b≠X.env.locals/\(∀x c,X.env.cells.lookup x=some c->c≠b)/\∀p∈X.pn++pins,p.1≠b):Inv X pins σ H' s':=by
 obtain⟨h',g',d',t',o'⟩:=s';have e:o'=s.os:=ho;subst e;exact I.call (g':=g') (t':=t') (d':=d') u bZ hg hch
end
abbrev XK:=qAi->Option Addr->Hp->Prop
abbrev St:=List (Option V)
abbrev VK:=V->Hp->Prop
abbrev TE:=St->Hp->VK->Prop
abbrev TT:=St->Hp->(Bool->Hp->Prop)->Prop
abbrev TA:=St->Hp->(List V->Hp->Prop)->Prop
structure Ends where
 nx:St->Hp->Prop
 rt:VK
 bk:St->Hp->Prop:=fun _ _=>False
 ct:St->Hp->Prop:=fun _ _=>False
abbrev TS:=Ends->St->Hp->Prop
def EP (X:Cx)(pins:List (Addr×Obj))(σ:St)(Q:VK)(u:qAi)(s':qAl):Prop:=∃v H',Inv X pins σ H' s'/\RelV v u/\Q v H'
def TP (X:Cx)(pins:List (Addr×Obj))(σ:St)(Q:Bool->Hp->Prop)(b:Bool)(s':qAl):Prop:=∃H',Inv X pins σ H' s'/\Q b H'
def AP (X:Cx)(pins:List (Addr×Obj))(σ:St)(Q:List V->Hp->Prop)(us:List qAi)(s':qAl):Prop:=∃vs H',Inv X pins σ H' s'/\Vals vs us/\Q vs H'
def SP (X:Cx)(pins:List (Addr×Obj))(D:Ends)(f:Flow)(s':qAl):Prop :=
 match f with
 | .next=>∃σ' H',Inv X pins σ' H' s'/\D.nx σ' H'
 | .brk=>∃σ' H',Inv X pins σ' H' s'/\D.bk σ' H'
 | .cont=>∃σ' H',Inv X pins σ' H' s'/\D.ct σ' H'
 | .ret u=>∃v σ' H',Inv X pins σ' H' s'/\RelV v u/\D.rt v H'
def PE (X:Cx)(e:Expr)(t:TE):Prop :=
 ∀(pins:List (Addr×Obj)) (s:qAl) (σ:St) (H:Hp) (Q:VK),Inv X pins σ H s->t σ H Q->qBj (qCa X.prog X.w) X.A (eval e X.env) (EP X pins σ Q) X.xe s
def PT (X:Cx)(e:Expr)(t:TT):Prop :=
 ∀(pins:List (Addr×Obj)) (s:qAl) (σ:St) (H:Hp) (Q:Bool->Hp->Prop),Inv X pins σ H s->t σ H Q->qBj (qCa X.prog X.w) X.A (qQa e X.env (eval e X.env)) (TP X pins σ Q) X.xe s
def PW (X:Cx)(e:Expr)(t:TT):Prop :=
 ∀(whole:Sem qAi) (pins:List (Addr×Obj)) (s:qAl) (σ:St) (H:Hp) (Q:Bool->Hp->Prop),Inv X pins σ H s->t σ H Q->qBj (qCa X.prog X.w) X.A (qQa e X.env whole) (TP X pins σ Q) X.xe s
theorem PW.pt (h:PW X e t):PT X e t:=h _
def PA (X:Cx)(es:List Expr)(t:TA):Prop :=
 ∀(pos:Pos) (pins:List (Addr×Obj)) (s:qAl) (σ:St) (H:Hp) (Q:List V->Hp->Prop),Inv X pins σ H s->t σ H Q->qBj (qCa X.prog X.w) X.A (qNm (qGu pos (qBo es X.env))) (AP X pins σ Q) X.xe s
def PS (X:Cx)(st:Stmt)(t:TS):Prop :=
 ∀(pins:List (Addr×Obj)) (s:qAl) (σ:St) (H:Hp) (D:Ends),Inv X pins σ H s->t D σ H->qBj (qCa X.prog X.w) X.A (exec st X.env) (SP X pins D) X.xe s
def qM (X:Cx)(st:List Stmt)(t:TS):Prop :=
 ∀(pins:List (Addr×Obj)) (s:qAl) (σ:St) (H:Hp) (D:Ends),Inv X pins σ H s->t D σ H->qBj (qCa X.prog X.w) X.A (execs st X.env) (SP X pins D) X.xe s
theorem cE (h:qBj M A t Q E s)(hQ:∀a s,Q a s->Q' a s):qBj M A t Q' E s:=qFl h hQ fun _ _ x=>x
section
variable {X:Cx}
def Cv (i:Nat):TE:=fun σ H Q=>∃v,σ[i]?=some (some v)/\Q v H
def tC (v:V):TE:=fun _ H Q=>Q v H
theorem II (hN:X.N[i]?=some x)(hv:PH X.env.scope x)(hd:(x == ("__debug__":Str))=false:=by decide)(hcd:(x == ("__classdict__":Str))=false:=by decide):PE X (.Name x pos) (Cv i):=by
 intro pins s σ H Q I h;obtain⟨v,e,h⟩:=h;obtain⟨m,hn,hl⟩:=I.loc;obtain⟨u,r,l⟩:=hl i x v hN e hv;have fin:EP X pins σ Q u s:=⟨v,H,I,r,h⟩;rcases l with ⟨hk,hm⟩ | ⟨hk,c,hc,hcell⟩
 ·exact wpAny_Name (wpAny_loadName_local I.ok.kind hk hn hm fin) hd
 ·rcases hk with hk | hk
  ·exact wpAny_Name (wpAny_loadName_cell I.ok.kind hk hc hcell fin) hd
  ·exact wpAny_Name (wpAny_loadName_free I.ok.kind hk hc hcell fin hcd) hd
theorem aE {i j pos}:PE X (.Constant (.int i) j pos) (tC (.int i)):=fun _ _ _ H _ I h=>wpAny_Constant_int ⟨.int i,H,I.tok _,⟨_,rfl⟩,h⟩
theorem iG {b j pos}:PE X (.Constant (.bool b) j pos) (tC (.bl b)):=fun _ _ _ H _ I h=>Constant_bool ⟨.bl b,H,I,rfl,h⟩
theorem iQ {j pos}:PE X (.Constant .none j pos) (tC .non):=fun _ _ _ H _ I h=>Constant_none ⟨.non,H,I,rfl,h⟩
theorem dF {x j pos}:PE X (.Constant (.str x) j pos) (tC (.str x)):=fun _ _ _ H _ I h=>Calls.Constant_str ⟨.str x,H,I.tok _,⟨_,rfl⟩,h⟩
def Gl (X:Cx)(x:Str):Prop:=X.env.kindOf x=some .globalImplicit
theorem iR (I:Inv X pins σ H s)(hg:Gl X x)(hm:X.mg x=some u)(h:Q u s)
  (hd:(x == ("__debug__":Str))=false:=by decide):qBj (qCa X.prog X.w) X.A (eval (.Name x pos) X.env) Q E s :=
 qKt I.ok.kind hg (Calls.loadGlobal_global (by rw[I.ok.glob];exact I.mod.glob.keeps I.bk) hm h) hd
theorem fD (I:Inv X pins σ H s)(hg:Gl X x)(hm:X.mg x=none)(hv:qCq x=some u)(h:Q u s)
  (hn:x≠"__name__":=by decide) (hd:(x == ("__debug__":Str))=false:=by decide):qBj (qCa X.prog X.w) X.A (eval (.Name x pos) X.env) Q E s:=by
 obtain⟨mb,h1,h2⟩:=I.mod.blt;exact qKt I.ok.kind hg (Calls.loadGlobal_builtin (by rw[I.ok.glob];exact I.mod.glob.keeps I.bk) hm (by rw[I.ok.blt];exact h1.keeps I.bk) ((h2 x hn).trans hv) h) hd
theorem cH (hg:Gl X x)(hm:X.mg x=some u)(r:RelV v u)(hd:(x == ("__debug__":Str))=false:=by decide):PE X (.Name x pos) (tC v) :=
 fun _ _ _ H _ I h=>iR I hg hm ⟨v,H,I,r,h⟩ hd
theorem eW (hg:Gl X x)(hm:X.mg x=none)(hv:qCq x=some u)(r:RelV v u)(hn:x≠"__name__":=by decide)(hd:(x == ("__debug__":Str))=false:=by decide):PE X (.Name x pos) (tC v) :=
 fun _ _ _ H _ I h=>fD I hg hm hv ⟨v,H,I,r,h⟩ hn hd
variable {a b:Expr}{ta tb:TE}{pos:Pos}
def tB (t:TE):TT:=fun σ H Q=>t σ H fun x H1=>∃c,x = .bl c/\Q c H1
theorem cG (h:PE X e t)(he:∀whole,qQa e X.env whole=(do let v <- whole;standAt e.pos;qLx [v] (truthy v)):=by intro _;rfl):PT X e (tB t):=by
 intro pins s σ H Q I hw;refine isTrue_plain (cE (h pins s σ H _ I hw) fun v s1 ⟨x,H1,I1,r1,q1⟩=>?_) (he _);obtain⟨d,rfl,q⟩:=q1;cases r1;exact qDv ⟨H1,I1,q⟩
variable {tA tB':TT}{rest:List Expr}
def PV (t u:TT):TT:=fun σ H Q=>t σ H fun c H1=>if c=true then u σ H1 Q else Q false H1
def Rw (t u:TT):TT:=fun σ H Q=>t σ H fun c H1=>if c=true then Q true H1 else u σ H1 Q
def PX (t:TT):TT:=fun σ H Q=>t σ H fun c H1=>Q (!c) H1
theorem pw_and1 (ha:PT X a tA):PW X (.BoolOp .And [a] pos) tA:=by
 intro wh pins s σ H Q I h;refine isTrue_and (cE (ha pins s σ H Q I h) fun c s1 e=>?_);cases c with
 | true=>exact isTrue_and_nil e
 | false=>exact e
theorem pw_or1 (ha:PT X a tA):PW X (.BoolOp .Or [a] pos) tA:=by
 intro wh pins s σ H Q I h;refine isTrue_or (cE (ha pins s σ H Q I h) fun c s1 e=>?_);cases c with
 | false=>exact isTrue_or_nil e
 | true=>exact e
theorem pw_and (ha:PT X a tA)(hb:PW X (.BoolOp .And (b::rest) pos) tB'):PW X (.BoolOp .And (a::b::rest) pos) (PV tA tB'):=by
 intro wh pins s σ H Q I h;refine isTrue_and (cE (ha pins s σ H _ I h) fun c s1 ⟨H1,I1,q1⟩=>?_);cases c with
 | true=>exact hb wh pins s1 σ H1 Q I1 q1
 | false=>exact⟨H1,I1,q1⟩
theorem pw_or (ha:PT X a tA)(hb:PW X (.BoolOp .Or (b::rest) pos) tB'):PW X (.BoolOp .Or (a::b::rest) pos) (Rw tA tB'):=by
 intro wh pins s σ H Q I h;refine isTrue_or (cE (ha pins s σ H _ I h) fun c s1 ⟨H1,I1,q1⟩=>?_);cases c with
 | true=>exact⟨H1,I1,q1⟩
 | false=>exact hb wh pins s1 σ H1 Q I1 q1
theorem dG (ha:PT X a tA):PT X (.UnaryOp .Not a pos) (PX tA):=by
 intro pins s σ H Q I h;exact isTrue_not (ha pins s σ H (fun c H1=>Q (!c) H1) I h)
def Nd (ta tb:TE):TE:=fun σ H Q=>ta σ H fun x H1=>∃c,x = .bl c/\if c=true then tb σ H1 Q else Q (.bl false) H1
def PY (ta tb:TE):TE:=fun σ H Q=>ta σ H fun x H1=>∃c,x = .bl c/\if c=true then Q (.bl true) H1 else tb σ H1 Q
def Nf (ta:TE):TE:=fun σ H Q=>ta σ H fun x H1=>∃c,x = .bl c/\Q (.bl (!c)) H1
theorem jF {op}{t:TE}(h:PE X a t):PE X (.BoolOp op [a] pos) t:=fun pins s σ H Q I hw=>BoolOp_one (h pins s σ H Q I hw)
theorem k6 (ha:PE X a ta)(hb:PE X (.BoolOp .And (b::rest) pos) tb):PE X (.BoolOp .And (a::b::rest) pos) (Nd ta tb):=by
 intro pins s σ H Q I h;refine BoolOp_and (cE (ha pins s σ H _ I h) fun v s1 ⟨x,H1,I1,r1,q1⟩=>?_);obtain⟨c,rfl,q1⟩:=q1;cases r1;refine qDv ?_;cases c with
 | true=>exact hb pins s1 σ H1 Q I1 q1
 | false=>exact⟨.bl false,H1,I1,rfl,q1⟩
theorem Ng (ha:PE X a ta)(hb:PE X (.BoolOp .Or (b::rest) pos) tb):PE X (.BoolOp .Or (a::b::rest) pos) (PY ta tb):=by
 intro pins s σ H Q I h;refine BoolOp_or (cE (ha pins s σ H _ I h) fun v s1 ⟨x,H1,I1,r1,q1⟩=>?_);obtain⟨c,rfl,q1⟩:=q1;cases r1;refine qDv ?_;cases c with
 | false=>exact hb pins s1 σ H1 Q I1 q1
 | true=>exact⟨.bl true,H1,I1,rfl,q1⟩
theorem Cw (ha:PE X a ta):PE X (.UnaryOp .Not a pos) (Nf ta):=by
 intro pins s σ H Q I h;refine UnaryOp_ (cE (ha pins s σ H _ I h) fun v s1 ⟨x,H1,I1,r1,q1⟩=>?_);obtain⟨c,rfl,q1⟩:=q1;cases r1;exact not_of (qDv ⟨.bl (!c),H1,I1,rfl,q1⟩)
def Rx (t:TT)(ta tb:TE):TE:=fun σ H Q=>t σ H fun c H1=>if c=true then ta σ H1 Q else tb σ H1 Q
theorem lI (hc:PT X c tA)(ha:PE X a ta)(hb:PE X b tb):PE X (.IfExp c a b pos) (Rx tA ta tb):=by
 intro pins s σ H Q I h;refine wpAny_IfExp (cE (hc pins s σ H _ I h) fun d s1 ⟨H1,I1,q1⟩=>?_);cases d with
 | true=>exact ha pins s1 σ H1 Q I1 q1
 | false=>exact hb pins s1 σ H1 Q I1 q1
end
def aR (K:qAb)(H:Hp)(a:Addr)(xs:List V):Prop :=
 Rd H a (.lst xs) \/
  ∃(o:Obj) (its:Array qAi) (n:Nat),K.lookup a=some o/\o.cls = .type "list"/\o.dict=none/\o.data = .seq its n/\its.size<=qAf/\Vals xs its.toList
def cX (K:qAb)(H:Hp)(a:Addr)(xs:List V):Prop :=
 Rd H a (.tup xs) \/
  ∃(o:Obj) (its:Array qAi) (n:Nat),K.lookup a=some o/\o.cls = .type "tuple"/\o.data = .seq its n/\its.size<=qAf/\Vals xs its.toList
def PZ:qAi->Option V
 | .none=>some .non
 | .bool b=>some (.bl b)
 | .int i _=>some (.int i)
 | .str x _=>some (.str x)
 | .bytes b _=>some (.byt b)
 | .float b _=>some (.flt b)
 | .ref a=>some (.ref a)
 | .type n=>some (.ty n)
 | _=>none
theorem RelV.abs (r:RelV x u):PZ u=some x:=by
 cases x with
 | non=>cases r;rfl
 | bl _=>cases r;rfl
 | int _=>obtain⟨t,rfl⟩:=r;rfl
 | str _=>obtain⟨t,rfl⟩:=r;rfl
 | byt _=>obtain⟨t,rfl⟩:=r;rfl
 | flt _=>obtain⟨t,rfl⟩:=r;rfl
 | ref _=>cases r;rfl
 | ty _=>cases r;rfl
theorem RelV.inj (r:RelV x u)(q:RelV y u):x=y:=Option.some.inj (r.abs.symm.trans q.abs)
theorem Vals.inj:∀{xs ys:List V}{us:List qAi},Vals xs us->Vals ys us->xs=ys
 | _,_,_,.nil,.nil=>rfl
 | _,_,_,.cons r t,.cons r' t'=>by rw[r.inj r',Vals.inj t t']
section
variable {X:Cx}{pins:List (Addr×Obj)}{σ:St}{H:Hp}{s:qAl}{a:Addr}{xs ys:List V}
theorem aR.of {K:qAb}(h:H a=some (.lst xs)):aR K H a xs:=.inl (.inl h)
theorem cX.of {K:qAb}(h:H a=some (.tup xs)):cX K H a xs:=.inl (.inl h)
theorem Inv.list (I:Inv X pins σ H s)(h:aR X.K H a xs):∃its:List qAi,Vals xs its/\PlainL s.heap a its.toArray/\xs.length<=qAf:=by
 rcases h with h | ⟨o,its,n,hk,hc,hd,hs,hz,r⟩
 ·obtain⟨z,its,n,r,e⟩:=h.ok I.bZ;exact⟨its,r,⟨_,n,e,rfl,rfl,rfl⟩,z⟩
 ·refine⟨its.toList,r,⟨o,n,I.qY a o hk,hc,hd,by simpa using hs⟩,?_⟩;have e:=r.length;simp only[qBz] at e;lia
theorem Inv.tuple (I:Inv X pins σ H s)(h:cX X.K H a xs):∃its:List qAi,Vals xs its/\IsTup s.heap a its.toArray/\xs.length<=qAf:=by
 rcases h with h | ⟨o,its,n,hk,hc,hs,hz,r⟩
 ·obtain⟨z,its,r,p⟩:=h.ok I.bZ;exact⟨its,r,p,z⟩
 ·refine⟨its.toList,r,⟨o,I.qY a o hk,hc,n,by simpa using hs⟩,?_⟩;have e:=r.length;simp only[qBz] at e;lia
theorem Inv.jG (I:Inv X pins σ H s)(h:aR X.K H a xs)(h':aR X.K H a ys):xs=ys:=by
 obtain⟨its,r,⟨o,n,e,_,_,d⟩,_⟩:=I.list h;obtain⟨its',r',⟨o',n',e',_,_,d'⟩,_⟩:=I.list h';rw[e] at e';cases e';rw[d] at d';injection d' with d1 _;have:its=its':=by simpa using congrArg Array.toList d1
 subst this;exact r.inj r'
end
abbrev Cx.qP (X:Cx)(E:qAi->qAl->Prop):Cx:={ X with xe:=E }
abbrev Cx.MK (X:Cx):Cx:=X.qP fun _ _=>False
theorem Cx.Ok.qP {X:Cx}(ok:X.Ok)(E:qAi->qAl->Prop):(X.qP E).Ok :=
 ⟨ok.mod,ok.kind,ok.glob,ok.blt,ok.above,ok.inj,ok.has,ok.Nc,ok.hd,ok.frames,ok.PJ,ok.Ra,ok.bs,ok.Fv,ok.Bj,ok.FF,ok.kL,ok.Hj⟩
theorem Cx.Ok.jH {X:Cx}{E:qAi->qAl->Prop}(ok:(X.qP E).Ok):X.Ok :=
 ⟨ok.mod,ok.kind,ok.glob,ok.blt,ok.above,ok.inj,ok.has,ok.Nc,ok.hd,ok.frames,ok.PJ,ok.Ra,ok.bs,ok.Fv,ok.Bj,ok.FF,ok.kL,ok.Hj⟩
section
variable {X:Cx}{pins:List (Addr×Obj)}{σ:St}{H:Hp}{s:qAl}{E:qAi->qAl->Prop}
theorem Inv.qP (I:Inv X pins σ H s)(E:qAi->qAl->Prop):Inv (X.qP E) pins σ H s:=⟨I.ok.qP E,I.os,I.bare,I.base,I.loc,I.cell,I.free,I.iE,I.pin,I.bZ,I.len⟩
theorem Inv.jH (I:Inv (X.qP E) pins σ H s):Inv X pins σ H s:=⟨I.ok.jH,I.os,I.bare,I.base,I.loc,I.cell,I.free,I.iE,I.pin,I.bZ,I.len⟩
theorem SP.jH (h:SP (X.qP E) pins D f s'):SP X pins D f s':=by
 cases f with
 | next=>obtain⟨σ',H',I,q⟩:=h;exact⟨σ',H',I.jH,q⟩
 | brk=>obtain⟨σ',H',I,q⟩:=h;exact⟨σ',H',I.jH,q⟩
 | cont=>obtain⟨σ',H',I,q⟩:=h;exact⟨σ',H',I.jH,q⟩
 | ret u=>obtain⟨v,σ',H',I,r,q⟩:=h;exact⟨v,σ',H',I.jH,r,q⟩
theorem qM.MK {st:List Stmt}{t:TS}(h:qM X.MK st t):qM X st t:=fun pins s σ H D I hw =>
 qFl (h pins s σ H D (I.qP _) hw) (fun _ _ q=>q.jH) fun _ _ z=>False.elim z
end
section
variable {X:Cx}{st:Stmt}{rest:List Stmt}{t u:TS}{e:Expr}{te:TE}{pos:Pos}
def oX:TS:=fun D σ H=>D.nx σ H
def IJ (t u:TS):TS:=fun D σ H=>t { D with nx:=u D } σ H
theorem a8:qM X [] oX:=fun _ _ σ H _ I h=>qHm ⟨σ,H,I,h⟩
theorem aD (h1:PS X st t)(h2:qM X rest u):qM X (st::rest) (IJ t u):=by
 intro pins s σ H D I h;refine wpAny_execs_cons (cE (h1 pins s σ H { D with nx:=u D } I h) fun f s1 q=>?_);cases f with
 | next =>
  obtain⟨σ',H',I',q⟩:=q;exact h2 pins s1 σ' H' D I' q
 | ret v=>exact q
 | brk=>exact q
 | cont=>exact q
theorem aH (h1:PS X st t):qM X [st] t:=by
 intro pins s σ H D I h;refine wpAny_execs_cons (cE (h1 pins s σ H D I h) fun f s1 q=>?_);cases f with
 | next=>exact qHm q
 | ret v=>exact q
 | brk=>exact q
 | cont=>exact q
def IK:TS:=fun D σ H=>D.bk σ H
theorem Cy:PS X (.Break pos) IK:=fun _ _ σ H _ I h=>wpAny_Break ⟨σ,H,I,h⟩
theorem Inv.quiet (I:Inv X pins σ H s):interactive X.env=false:=by simp[interactive,I.ok.kind]
def Hk (te:TE):TS:=fun D σ H=>te σ H fun _ H1=>D.nx σ H1
theorem eX (he:PE X e te)(hs:qKi e none pos.line X.env=pure false:=by rfl):PS X (.Expr e pos) (Hk te):=by
 intro pins s σ H D I h;exact wpAny_Expr_any (cE (he pins s σ H _ I h) fun v s1 ⟨x,H1,I1,r1,q1⟩=>⟨σ,H1,I1,q1⟩) I.quiet hs
def Qa (te:TE):TS:=fun D σ H=>te σ H D.rt
theorem aS (he:PE X e te):PS X (.Return (some e) pos) (Qa te):=by
 intro pins s σ H D I h;exact wpAny_Return_some (cE (he pins s σ H _ I h) fun v s1 ⟨x,H1,I1,r1,q1⟩=>⟨x,σ,H1,I1,r1,q1⟩)
def IL (c:TT)(t u:TS):TS:=fun D σ H=>c σ H fun b H1=>if b=true then t D σ H1 else u D σ H1
theorem bU (hc:PT X c tc)(ha:qM X a t)(hb:qM X b u):PS X (.If c a b pos) (IL tc t u):=by
 intro pins s σ H D I h;refine wpAny_If (cE (hc pins s σ H _ I h) fun d s1 ⟨H1,I1,q1⟩=>?_);cases d with
 | true=>exact ha pins s1 σ H1 D I1 q1
 | false=>exact hb pins s1 σ H1 D I1 q1
end
abbrev TG:=V->St->Hp->(St->Hp->Prop)->Prop
abbrev Nh:=List V->St->Hp->(St->Hp->Prop)->Prop
def PG (X:Cx)(target:Expr)(t:TG):Prop :=
 ∀(pins:List (Addr×Obj)) (s:qAl) (σ:St) (H:Hp) (v:V) (u:qAi) (Q:St->Hp->Prop),Inv X pins σ H s->RelV v u->t v σ H Q ->
  qBj (qCa X.prog X.w) X.A (qKn target X.env u) (fun _ s'=>∃σ' H',Inv X pins σ' H' s'/\Q σ' H') X.xe s
def Ni (X:Cx)(ts:List Expr)(t:Nh):Prop :=
 ∀(pins:List (Addr×Obj)) (s:qAl) (σ:St) (H:Hp) (vs:List V) (us:List qAi) (Q:St->Hp->Prop),Inv X pins σ H s->Vals vs us->t vs σ H Q ->
  qBj (qCa X.prog X.w) X.A (assignInOrder ((qJk ts X.env).map (·.2)) us) (fun _ s'=>∃σ' H',Inv X pins σ' H' s'/\Q σ' H') X.xe s
abbrev Nj:=V->V->V->Hp->(Hp->Prop)->Prop
def IM (X:Cx)(t:Nj):Prop :=
 ∀(pins:List (Addr×Obj)) (s:qAl) (σ:St) (H:Hp) (o i v:V) (ov iv u:qAi) (Q:Hp->Prop),Inv X pins σ H s->RelV o ov->RelV i iv->RelV v u->t o i v H Q ->
  qBj (qCa X.prog X.w) X.A (setItem ov iv u) (fun _ s'=>∃H',Inv X pins σ H' s'/\Q H') X.xe s
abbrev Qb:=V->V->Hp->VK->Prop
def Qc (X:Cx)(op:Operator)(t:Qb):Prop :=
 ∀(pins:List (Addr×Obj)) (s:qAl) (σ:St) (H:Hp) (x y:V) (v u:qAi) (Q:VK),Inv X pins σ H s->RelV x v->RelV y u->t x y H Q ->
  qBj (qCa X.prog X.w) X.A (qOf op v u) (EP X pins σ Q) X.xe s
section
variable {X:Cx}{pos:Pos}
def aZ (i:Nat):TG:=fun v σ H Q=>Q (σ.set i (some v)) H
theorem aM (hN:X.N.Nodup)(hi:X.N[i]?=some x)(hx:Loc X.env.scope x)(hf:X.fn x=true\/X.env.scope.names.lookup x=some .local:=by first|exact .inl rfl | exact .inr rfl | assumption):PG X (.Name x pos) (aZ i):=by
 intro pins s σ H v u Q I r h;exact wpAny_assign_Name (lH I hN hi hx r (fun s' I'=>⟨_,H,I',h⟩) hf)
def oY:Nh:=fun vs σ H Q=>vs=[]/\Q σ H
def eM (t:TG)(u:Nh):Nh:=fun vs σ H Q=>∃v r,vs=v::r/\t v σ H fun σ' H'=>u r σ' H' Q
theorem dH:Ni X [] oY:=by
 intro pins s σ H vs us Q I r h;obtain⟨e,h⟩:=h;subst e;cases r;exact assignInOrder_nil ⟨σ,H,I,h⟩
theorem bG (h1:PG X e t)(h2:Ni X es u)
  (hs:(qJk (e::es) X.env).map (·.2)=qKn e X.env::(qJk es X.env).map (·.2):=by rfl):Ni X (e::es) (eM t u):=by
 intro pins s σ H vs us Q I r h;obtain⟨v,vr,e1,h⟩:=h;subst e1;cases r with
 | cons r rr =>
  rw[hs];refine assignInOrder_cons (cE (h1 pins s σ H _ _ _ I r h) fun _ s1 ⟨σ1,H1,I1,q1⟩=>?_);exact h2 pins s1 σ1 H1 _ _ Q I1 rr q1
def oZ (K:qAb)(n:Nat)(t:Nh):TG:=fun v σ H Q=>∃a xs,v = .ref a/\cX K H a xs/\xs.length=n/\t xs σ H Q
theorem fE (hc:X.calm=true)(h:Ni X es t)
  (hn:(qJk es X.env).length=n:=by rfl) (hst:(qJk es X.env).findIdx? (·.1)=none:=by rfl):PG X (.Tuple es k pos) (oZ X.K n t):=by
 intro pins s σ H v u Q I r hw;obtain⟨a,xs,e1,hq,hl,hw⟩:=hw;subst e1;cases r;obtain⟨its,rv,ht,hz⟩:=I.tuple hq;refine assign_Tuple_tuple (I.ok.hd hc) ht (by simp[hn,<- hl,rv.length]) hst fun h' hx=>?_;have I1:Inv X pins σ H { s with heap:=h' }:=I.kept (t':=s.toks) fun b o e=>hx b o (qBe (qAr e)) e;exact h pins _ σ H xs _ Q I1 (by simpa using rv) hw
def Qd (to ti:TE)(t:Nj):TG:=fun v σ H Q=>to σ H fun o H1=>ti σ H1 fun i H2=>t o i v H2 fun H3=>Q σ H3
theorem iS (ho:PE X o to)(hi:PE X i ti)(hs:IM X t)
  (ha:∀v,qKn (.Subscript o i pos) X.env v=(do
   let ov <- qLx [v] (eval o X.env)
   let iv <- qLx [v,ov] (eval i X.env)
   standAt pos
   qLx [v,ov,iv] (setItem ov iv v)
   release [v,ov,iv] []):=by intro _;rfl):PG X (.Subscript o i pos) (Qd to ti t):=by
 intro pins s σ H v u Q I r h;rw[ha];refine qAa (qDl (cE (ho pins s σ H _ I h) fun ov s1 ⟨x,H1,I1,r1,q1⟩=>?_));refine qAa (qDl (cE (hi pins s1 σ H1 _ I1 q1) fun iv s2 ⟨y,H2,I2,r2,q2⟩=>?_));refine qAa (qKh (qAa (qDl (cE (hs pins s2 σ H2 x y v ov iv u _ I2 r1 r2 r q2) fun _ s3 ⟨H3,I3,q3⟩=>?_))));exact wpAny_release ⟨σ,H3,I3,q3⟩
def Nk (te:TE)(g:TG):TS:=fun D σ H=>te σ H fun x H1=>g x σ H1 D.nx
theorem iU (he:PE X e te)(hg:PG X tg g)(hs:swapsWithSole [tg] e pos.line X.env=pure false:=by rfl)(hw:swappedStores [tg] e X.env=pure none:=by rfl)
  (h1:(qJk [tg] X.env).map (·.2)=[qKn tg X.env]:=by rfl):PS X (.Assign [tg] e pos) (Nk te g):=by
 intro pins s σ H D I h;refine wpAny_Assign_stores (cE (he pins s σ H _ I h) fun v s1 ⟨x,H1,I1,r1,q1⟩=>?_) hs hw;rw[h1];exact cE (hg pins s1 σ H1 x v _ I1 r1 q1) fun _ s2 q=>q
theorem aP (hN:X.N.Nodup)(hi:X.N[i]?=some x)(hx:Loc X.env.scope x)(he:PE X e te)(hs:qKi e (some (.Name x pos')) pos.line X.env=pure false:=by rfl)(hf:X.fn x=true\/X.env.scope.names.lookup x=some .local:=by first|exact .inl rfl | exact .inr rfl | assumption):
  PS X (.Assign [.Name x pos'] e pos) (Nk te (aZ i)):=by
 intro pins s σ H D I h;refine wpAny_Assign_Name (cE (he pins s σ H _ I h) fun v s1 ⟨y,H1,I1,r1,q1⟩=>?_) hs;exact lH I1 hN hi hx r1 (fun s2 I2=>⟨_,H1,I2,q1⟩) hf
def Qe (i:Nat)(te:TE)(ti:Qb):TS:=fun D σ H=>∃x,σ[i]?=some (some x)/\te σ H fun y H1=>ti x y H1 fun z H2=>D.nx (σ.set i (some z)) H2
theorem tI (hN:X.N.Nodup)(hi:X.N[i]?=some x)(hx:Loc X.env.scope x)(he:PE X e te)(ho:Qc X op ti)(hf:X.fn x=true\/X.env.scope.names.lookup x=some .local:=by first|exact .inl rfl | exact .inr rfl | assumption):
  PS X (.AugAssign (.Name x pos') op e pos) (Qe i te ti):=by
 intro pins s σ H D I h;obtain⟨v,e1,h⟩:=h;obtain⟨m,hn,hl⟩:=I.loc;have vis:PH X.env.scope x:=by rcases hx with k | k;exact .inl k;exact .inr (.inl k)
 obtain⟨u,r,l⟩:=hl i x v hi e1 vis;refine wpAny_AugAssign_Name ?_;have go:qBj (qCa X.prog X.w) X.A (eval e X.env) (fun w s₂=>qBj (qCa X.prog X.w) X.A (qOf op u w) (fun r s₃=>qBj (qCa X.prog X.w) X.A (storeName X.env x r) (fun _=>SP X pins D .next) X.xe s₃) X.xe s₂) X.xe s:=by
  refine cE (he pins s σ H _ I h) fun w s1 ⟨y,H1,I1,r1,q1⟩=>?_;refine cE (ho pins s1 σ H1 v y u w _ I1 r r1 q1) fun z s2 ⟨zv,H2,I2,r2,q2⟩=>?_;exact lH I2 hN hi hx r2 (fun s3 I3=>⟨_,H2,I3,q2⟩) hf
 rcases l with ⟨hk,hm⟩ | ⟨hk,c,hc,hcell⟩
 ·exact wpAny_loadName_local I.ok.kind hk hn hm go
 ·rcases hk with hk | hk
  ·exact wpAny_loadName_cell I.ok.kind hk hc hcell go
  ·rcases hx with k | k
   ·have:X.env.scope.names.lookup x=some .free:=hk;rw[k] at this;cases this
   ·have:X.env.scope.names.lookup x=some .free:=hk;rw[k] at this;cases this
def Qf (X:Cx)(t:V->V->Hp->VK->Prop):Prop :=
 ∀(pins:List (Addr×Obj)) (s:qAl) (σ:St) (H:Hp) (o i:V) (ov iv:qAi) (Q:VK),Inv X pins σ H s->RelV o ov->RelV i iv->t o i H Q ->
  qBj (qCa X.prog X.w) X.A (qIp ov iv) (EP X pins σ Q) X.xe s
end
section
variable {X:Cx}{pos:Pos}
def IP (c:TT)(tb:TS):TS:=fun D σ H=>∃W:Nat->St->Hp->Prop,(∃m,W m σ H)/\∀m σ H,W m σ H ->
 c σ H fun b H1=>if b=true then ∃N:St->Hp->Prop,(∀σ' H',N σ' H'->∃m',m'<m/\W m' σ' H')/\tb { D with nx:=N,ct:=N,bk:=D.nx } σ H1 else D.nx σ H1
theorem pA (hp:PassesOwn (qCa X.prog X.w) X.A X.env X.xe)(hc:PT X c tc)(hb:qM X body tb):PS X (.While c body [] pos) (IP tc tb):=by
 intro pins s σ H D I h;obtain⟨W,⟨m0,w0⟩,turn⟩:=h;refine wpAny_While (codeAny_whileLoop (fun n s'=>∃σ' H',Inv X pins σ' H' s'/\W n σ' H') ?_ m0 ⟨σ,H,I,w0⟩);rintro n s1 ⟨σ1,H1,I1,w1⟩;refine qFf hp (cE (hc pins s1 σ1 H1 _ I1 (turn n σ1 H1 w1)) fun b s2 ⟨H2,I2,q2⟩=>?_);cases b with
 | true =>
  obtain⟨N,hN,q2⟩:=q2;rw[if_pos rfl];refine qFf hp (cE (hb pins s2 σ1 H2 _ I2 q2) fun f s3 q3=>?_);cases f with
  | next =>
   obtain⟨σ3,H3,I3,n3⟩:=q3;obtain⟨m',hm,w3⟩:=hN σ3 H3 n3;exact⟨m',hm,σ3,H3,I3,w3⟩
  | cont =>
   obtain⟨σ3,H3,I3,n3⟩:=q3;obtain⟨m',hm,w3⟩:=hN σ3 H3 n3;exact⟨m',hm,σ3,H3,I3,w3⟩
  | brk=>exact q3
  | ret v=>exact q3
 | false =>
  rw[if_neg qAj];exact qHm ⟨σ1,H2,I2,q2⟩
end
structure It where
 go:Nat->Hp->Prop
 qQ:Nat->Hp->V->Hp->Prop
 stop:Nat->Hp->Prop
def jI (X:Cx)(pins:List (Addr×Obj))(H:Hp)(b:Addr):Prop :=
 H b=none/\b≠X.env.locals/\b∉X.fs/\(b∈X.ex\/X.s₀.heap.objs.size<=b)/\(∀x c,X.env.cells.lookup x=some c->c≠b)/\∀p∈X.pn++pins,p.1≠b
theorem Inv.Bk (I:Inv X pins σ H s)(hb:s.heap.objs.size<=b)(hn:H' b=none):jI X pins H' b:=by
 refine⟨hn,qGn (qAy I.lt hb),I.IH hb,.inr (qDa I.sz hb),fun x c e z=>?_,fun p hp z=>?_⟩
 ·obtain⟨v,q⟩:=I.cell x c e;exact absurd (qAy q.lt (by rw[z];exact hb)) (qDc _)
 ·exact absurd (qAy (qAr (I.pin p hp).1) (by rw[z];exact hb)) (qDc _)
structure Turn (P:qBx) (w:qDe) (K:qAb) (tg:Expr) (J:It) (fp:List Addr) (it:Addr) (tn:Nat->Heap->Prop):Prop where
 mem:it∈fp
 obj:∀i h,tn i h->∀b∈fp,∃o,h.get? b=some o/\∀v,o.data≠.cell v
 keep:∀i h h',tn i h->(∀b∈fp,∀o,h.get? b=some o->h'.get? b=some o)->tn i h'
 item:∀(X:Cx),X.prog=P->X.w=w->X.K=K->X.calm=true->∀(i:Nat) (pins:List (Addr×Obj)) (s:qAl) (σ:St) (H:Hp) (E:qAi->qAl->Prop),Inv X pins σ H s->(∀b∈fp,jI X pins H b)->tn i s.heap->J.go i H ->
  qBj (qCa P w) X.A (qJc (.ref it)) (fun r s1=>∃u,r=some u /\
   qBj (qCa P w) X.A (qJd tg (.ref it) u) (fun _ s2=>∃x H',Inv X pins σ H' s2/\RelV x u/\J.qQ i H x H'/\tn (i+1) s2.heap/\∀b∈fp,H' b=none) E s1) E s
 done:∀(X:Cx),X.prog=P->X.w=w->X.K=K->X.calm=true->∀(i:Nat) (pins:List (Addr×Obj)) (s:qAl) (σ:St) (H:Hp) (E:qAi->qAl->Prop),Inv X pins σ H s->(∀b∈fp,jI X pins H b)->tn i s.heap->J.stop i H ->
  qBj (qCa P w) X.A (qJc (.ref it)) (fun r s1=>r=none/\Inv X pins σ H s1) E s
 self:∀(A:qDd) (i:Nat) (s:qAl) (Q:qAi->qAl->Prop) (E:qAi->qAl->Prop),tn i s.heap->Q (.ref it) s->qBj (qCa P w) A (qMy (.ref it)) Q E s
abbrev TI:=St->Hp->(It->Hp->Prop)->Prop
def Rb (X:Cx)(pins:List (Addr×Obj))(σ:St)(tg:Expr)(R:It->Hp->Prop)(itv:qAi)(s2:qAl):Prop :=
 ∃(it:Addr) (fp:List Addr) (tn:Nat->Heap->Prop) (J:It) (H':Hp),itv = .ref it/\Inv X pins σ H' s2/\Turn X.prog X.w X.K tg J fp it tn/\tn 0 s2.heap/\(∀b∈fp,jI X pins H' b)/\R J H'
def PI (X:Cx)(tg iter:Expr)(wi:TI):Prop :=
 ∀(pins:List (Addr×Obj)) (s:qAl) (σ:St) (H:Hp) (R:It->Hp->Prop),Inv X pins σ H s->wi σ H R ->
  qBj (qCa X.prog X.w) X.A (eval iter X.env) (fun v s1=>qBj (qCa X.prog X.w) X.A (qMy v) (Rb X pins σ tg R) X.xe s1) X.xe s
theorem zP (ho:s.heap.get? it=some o)(hc:o.cls = .type n)(hd:o.data = .fields vs)
    (hn:["enumerate","zip","dict_itemiterator","dict_reverseitemiterator","odict_iterator","itertools.zip_longest","itertools.pairwise"].contains n=false) (hQ:Q () s):qBj M A (qJd tg (.ref it) u) Q E s:=by
  unfold qJd
  cases tg <;> first
    | exact qAe hQ
    | (cases u <;> first
        | exact qAe hQ
        | (refine qAa (wpAny_load ho ?_)
           rw[hc,hd]
           show qBj M A (if (["enumerate","zip","dict_itemiterator","dict_reverseitemiterator","odict_iterator","itertools.zip_longest","itertools.pairwise"].contains n&&vs[0]? == some (qJo _))=true then _ else _) Q E s
           rw[if_neg (by intro h;rw[hn,qFi] at h;cases h)]
           exact qAe hQ))
def zQ (K:qAb)(a:Addr):It :=
 ⟨fun i H=>∃xs x,aR K H a xs/\xs[i]?=some x,fun i H x H'=>H'=H/\∀xs,aR K H a xs->xs[i]?=some x,fun i H=>∃xs,aR K H a xs/\xs.length<=i⟩
def qN (lo:Int)(n:Nat):It:=⟨fun i _=>i<n,fun i H x H'=>H'=H/\x = .int (lo+i),fun i _=>n<=i⟩
theorem Bl {P:qBx}{w:qDe}{K:qAb}{tg:Expr}(a it:Addr):Turn P w K tg (zQ K a) [it] it (fun i h=>h.IsListIter it a i) where
 mem:=by simp
 obj:=fun i h st b hb=>by
  have e:b=it:=by simpa using hb
  subst e;obtain⟨o,e,c,d⟩:=st;exact⟨o,e,fun v z=>by rw[d] at z;cases z⟩
 keep:=fun i h h' st k=>st.at fun o e=>k it (by simp) o e
 item:=by
  intro X hP hw hK hc i pins s σ H E I hf st hg;subst hP hw hK;obtain⟨xs,x,hq,hx⟩:=hg;obtain⟨its,rv,p,hz⟩:=I.list hq;obtain⟨u,hu,ru⟩:=rv.get hx;obtain⟨f0,f1,f2,f3,f4,f5⟩:=hf it (by simp);refine wpAny_pyNext_list_item st p.isList (x:=u) (by simpa using hu) fun h' st' sb=>?_;have I1:Inv X pins σ H { s with heap:=h' }:=I.turned (t':=s.toks) (fun b o hb e=>(sb.2 b hb).trans e) f0 f1 f3 f4 f5;obtain⟨o,e,c,d⟩:=id st';exact⟨u,rfl,zP (s:={ s with heap:=h' }) e c d (by decide) ⟨x,H,I1,ru,⟨rfl,fun ys hy=>by rw[I.jG hy hq];exact hx⟩,st',fun b hb=>(hf b hb).1⟩⟩
 done:=by
  intro X hP hw hK hc i pins s σ H E I hf st hg;subst hP hw hK;obtain⟨xs,hq,hx⟩:=hg;obtain⟨its,rv,p,hz⟩:=I.list hq;obtain⟨f0,f1,f2,f3,f4,f5⟩:=hf it (by simp);have hl:=rv.length;exact wpAny_pyNext_list_end (I.ok.hd hc) st p.isList (by simp;lia) fun h' eb=>⟨rfl,I.turned (t':=s.toks) (fun b o hb e=>eb b o hb e) f0 f1 f3 f4 f5⟩
 self:=fun _ _ _ _ _ st h=>wpAny_pyIter_listiter st h
theorem xQ {P:qBx}{w:qDe}{K:qAb}{tg:Expr}(it:Addr)(lo:Int)(n:Nat):Turn P w K tg (qN lo n) [it] it (fun i h=>IsRangeIter h it (lo+(i:Nat)*1) ((n:Int)-(i:Nat)) 1) where
 mem:=by simp
 obj:=fun i h st b hb=>by
  have e:b=it:=by simpa using hb
  subst e;exact⟨_,st,fun v z=>by
   have z':Data.fields _=Data.cell v:=z;cases z'⟩
 keep:=fun i h h' st k=>k it (by simp) _ st
 item:=by
  intro X hP hw hK hc i pins s σ H E I hf st hg;subst hP hw hK;obtain⟨f0,f1,f2,f3,f4,f5⟩:=hf it (by simp);have W:=Walks.range (prog:=X.prog) (w:=X.w) (I.ok.hd hc) it lo 1 n;refine W.item i s _ _ hg st fun v h' tk hv st' kk=>?_;obtain⟨t,rfl⟩:=hv;have I1:Inv X pins σ H { s with heap:=h',toks:=tk }:=I.turned (fun b o hb e=>kk b o (by simpa using hb) e) f0 f1 f3 f4 f5;refine⟨_,rfl,zP (s:={ s with heap:=h',toks:=tk }) (n:="range_iterator") st' rfl rfl (by decide) ⟨.int (lo+i),H,I1,⟨t,?_⟩,⟨rfl,rfl⟩,st',fun b hb=>(hf b hb).1⟩⟩;rw[qGj]
 done:=by
  intro X hP hw hK hc i pins s σ H E I hf st hg;subst hP hw hK;obtain⟨f0,f1,f2,f3,f4,f5⟩:=hf it (by simp);exact wpAny_pyNext_range_end (I.ok.hd hc) st (by have:n<=i:=hg;lia) fun h' eb=>⟨rfl,I.turned (t':=s.toks) (fun b o hb e=>eb b o hb e) f0 f1 f3 f4 f5⟩
 self:=fun _ _ _ _ _ st h=>wpAny_pyIter_rangeiter st h
section
variable {X:Cx}{tg:Expr}
def Hl (K:qAb)(tl:TE):TI:=fun σ H R=>tl σ H fun x H1=>∃a,x = .ref a/\(∃xs,aR K H1 a xs)/\R (zQ K a) H1
theorem bJ {l:Expr}{tl:TE}(hl:PE X l tl):PI X tg l (Hl X.K tl):=by
 intro pins s σ H R I h;refine cE (hl pins s σ H _ I h) fun v s1 ⟨x,H1,I1,r1,q1⟩=>?_;obtain⟨a,e,⟨xs,hq⟩,q⟩:=q1;subst e;cases r1;obtain⟨its,rv,p,hz⟩:=I1.list hq;refine qIb p.isList ?_;refine⟨s1.heap.objs.size,[s1.heap.objs.size],_,_,H1,rfl,I1.kept (t':=s1.toks) fun b o e=>qAh _ e,Bl a _,⟨_,qAt _ rfl,rfl,rfl⟩,fun b hb=>?_,q⟩;have e:b=s1.heap.objs.size:=by simpa using hb
 subst e;exact I1.Bk (qAg _) (I1.bZ.fresh (qAg _))
theorem uY {pins:List (Addr×Obj)}{σ:St}{H:Hp}{s:qAl}{R:It->Hp->Prop}{E:qAi->qAl->Prop}{lo hi:Int}{t u v:Tok}{tk:Nat}(I:Inv X pins σ H s)(h1:-(2^62)<=lo)(h2:lo<2^62)(h3:-(2^62)<=hi)(h4:hi<2^62)
  (q:R (qN lo (hi-lo).toNat) H):qBj (qCa X.prog X.w) X.A (qMy (.ref s.heap.objs.size)) (Rb X pins σ tg R) E { s with heap:=s.heap.push { cls:=.type "range",data:=.fields #[.int lo t,.int hi u,.int 1 v] },toks:=tk }:=by
 refine wpAny_pyIter_range (IsRange.new ..) (small_one h1 h2 h3 h4) ?_;have I1:Inv X pins σ H { s with heap:=s.heap.push { cls:=.type "range",data:=.fields #[.int lo t,.int hi u,.int 1 v] },toks:=tk }:=I.kept fun b o e=>qAh _ e;refine⟨(s.heap.push { cls:=.type "range",data:=.fields #[.int lo t,.int hi u,.int 1 v] }).objs.size,[(s.heap.push { cls:=.type "range",data:=.fields #[.int lo t,.int hi u,.int 1 v] }).objs.size],_,_,H,rfl,
  I1.kept (t':=tk) fun b o e=>qAh _ e,xQ _ lo (hi-lo).toNat,?_,fun b hb=>?_,q⟩
 ·have e1:lo+((0:Nat):Int)*1=lo:=by simp
  have e2:(((hi-lo).toNat:Nat):Int)-((0:Nat):Int)=Builtin.Range.rangeSize lo hi 1:=by rw[rangeSize_one];split <;> lia
  show IsRangeIter _ _ (lo+((0:Nat):Int)*1) ((((hi-lo).toNat:Nat):Int)-((0:Nat):Int)) 1;rw[e1,e2];exact qAt _ rfl
 ·have e:b=(s.heap.push { cls:=.type "range",data:=.fields #[.int lo t,.int hi u,.int 1 v] }).objs.size:=by simpa using hb
  subst e;exact I1.Bk (qAg _) (I1.bZ.fresh (qAg _))
def Nl (ta:TA):TI:=fun σ H R=>ta σ H fun vs H1=>∃j:Int,vs=[.int j]/\-(2^62)<=j/\j<2^62/\R (qN 0 j.toNat) H1
def Nm (ta:TA):TI:=fun σ H R=>ta σ H fun vs H1=>∃i j:Int,vs=[.int i,.int j]/\(-(2^62)<=i/\i<2^62/\-(2^62)<=j/\j<2^62)/\R (qN i (j-i).toNat) H1
theorem c9 {a:Expr}{ta:TA}{p pos:Pos}(hg:Gl X "range")(hm:X.mg "range"=none)(ha:PA X [a] ta)(hs:qBo [a] X.env=[(false,eval a X.env)]:=by rfl):PI X tg (.Call (.Name "range" p) [a] [] pos) (Nl ta):=by
 intro pins s σ H R I h;refine qMp (fD I hg hm qNb (qBv (cE (ha pos pins s σ H _ I h) fun us s1 ⟨vs,H1,I1,r1,q1⟩=>?_) hs rfl));obtain⟨j,e,q1,q2,q⟩:=q1;subst e;cases r1 with
 | cons r rr =>
  cases rr
  obtain⟨t,rfl⟩:=r;exact call_range_1 (uY I1 (by lia) (by lia) q1 q2 (by simpa using q))
theorem Bm (hg:Gl X "range")(hm:X.mg "range"=none)(ha:PA X [a,b] ta)(hs:qBo [a,b] X.env=[(false,eval a X.env),(false,eval b X.env)]:=by rfl)(hs2:qBo [b] X.env=[(false,eval b X.env)]:=by rfl):
  PI X tg (.Call (.Name "range" p) [a,b] [] pos) (Nm ta):=by
 intro pins s σ H R I h;refine qMp (fD I hg hm qNb (qBv (cE (ha pos pins s σ H _ I h) fun us s1 ⟨vs,H1,I1,r1,q1⟩=>?_) (by rw[hs,hs2]) (by rw[hs2];rfl)));obtain⟨i,j,e,⟨q1,q2,q3,q4⟩,q⟩:=q1;subst e;cases r1 with
 | cons r rr =>
  cases rr with
  | cons r' rr =>
   cases rr
   obtain⟨t,rfl⟩:=r;obtain⟨t',rfl⟩:=r';exact call_range_2 (uY I1 q1 q2 q3 q4 q)
def Qg (wi:TI)(g:TG)(tb:TS):TS:=fun D σ H=>wi σ H fun J H1=>∃W:Nat->Nat->St->Hp->Prop,(∃m,W 0 m σ H1)/\∀i m σ H,W i m σ H ->
 (J.stop i H/\D.nx σ H)\/(J.go i H/\∃N:St->Hp->Prop,(∀σ' H',N σ' H'->∃m',m'<m/\W (i+1) m' σ' H')/\∀x H',J.qQ i H x H'->g x σ H' fun σ2 H2=>tb { D with nx:=N,ct:=N,bk:=D.nx } σ2 H2)
def mS (fp:List Addr)(h:Heap):List (Addr×Obj):=fp.filterMap fun b=>(h.get? b).map fun o=>(b,o)
theorem fT (hb:b∈fp)(e:h.get? b=some o):(b,o)∈mS fp h:=List.mem_filterMap.mpr ⟨b,hb,by rw[e];rfl⟩
theorem Bn (hp:p∈mS fp h):p.1∈fp/\h.get? p.1=some p.2:=by
 obtain⟨b,hb,e⟩:=List.mem_filterMap.mp hp;cases q:h.get? b with
 | none=>rw[q] at e;cases e
 | some o =>
  rw[q] at e;have e':(b,o)=p:=Option.some.inj e;subst e';exact⟨hb,q⟩
theorem Inv.pinned (I:Inv X pins σ H s)(hf:∀b∈fp,jI X pins H b)(ho:∀b∈fp,∃o,s.heap.get? b=some o/\∀v,o.data≠.cell v):Inv X (pins++mS fp s.heap) σ H s :=
 I.zO fun p hp=>(List.mem_append.mp hp).elim (fun z=>I.pin p (qAv _ z)) fun z=>by
  obtain⟨hb,e⟩:=Bn z;obtain⟨f0,f1,f2,_⟩:=hf p.1 hb;obtain⟨o,e',d⟩:=ho p.1 hb;rw[e] at e';cases e';exact⟨e,f0,f1,f2,d⟩
theorem Inv.jJ (I:Inv X (pins++pl) σ H s):Inv X pins σ H s:=I.zO fun p hp=>I.pin p (qAv _ (qCc _ hp))
theorem eL (hp:PassesOwn (qCa X.prog X.w) X.A X.env X.xe)(hc:X.calm=true)(hi:PI X tg iter wi)(hg:PG X tg g)(hb:qM X body tb)
  (hs:∀x,qFn iter X.env x=pure x:=by intro _;rfl):PS X (.For tg iter body [] pos) (Qg wi g tb):=by
 intro pins s σ H D I h;refine wpAny_For (cE (hi pins s σ H _ I h) fun v s1 h1=>cE h1 fun itv s2 h2=>?_) hs;obtain⟨it,fp,tn,J,H2,e,I2,T,st2,f2,W,⟨m0,w0⟩,turn⟩:=h2;subst e;have stat:∀{H':Hp},(∀b∈fp,H' b=none)->∀b∈fp,jI X pins H' b:=fun hn b hb=>⟨hn b hb,(f2 b hb).2⟩;refine codeAny_forLoop_any (fun n s'=>∃i σ' H',Inv X pins σ' H' s'/\tn i s'.heap/\(∀b∈fp,H' b=none)/\W i n σ' H') ?_ m0 ⟨0,σ,H2,I2,st2,fun b hb=>(f2 b hb).1,w0⟩;rintro n s3 ⟨i,σ3,H3,I3,st3,fr3,w3⟩;rcases turn i n σ3 H3 w3 with ⟨stop,qn⟩ | ⟨go,N,hN,step⟩
 ·refine qFf hp (cE (T.done X rfl rfl rfl hc i pins s3 σ3 H3 X.xe I3 (stat fr3) st3 stop) fun r s4 ⟨hr,I4⟩=>?_);subst hr;exact qHm ⟨σ3,H3,I4,qn⟩
 ·refine qFf hp (cE (T.item X rfl rfl rfl hc i pins s3 σ3 H3 X.xe I3 (stat fr3) st3 go) fun r s4 ⟨u,hr,h4⟩=>?_);subst hr;refine qFf hp (cE h4 fun _ s5 ⟨x,H5,I5,r5,y5,st5,fr5⟩=>?_);have I5':=I5.pinned (stat fr5) (T.obj _ _ st5);refine qFf hp (cE (hg _ s5 σ3 H5 x u _ I5' r5 (step x H5 y5)) fun _ s6 ⟨σ6,H6,I6,q6⟩=>?_);refine qFf hp (cE (hb _ s6 σ6 H6 _ I6 q6) fun f s7 q7=>?_);have qNp:∀{σ7:St}{H7:Hp},Inv X (pins++mS fp s5.heap) σ7 H7 s7->N σ7 H7->∃m,m<n/\∃i σ' H',Inv X pins σ' H' s7/\tn i s7.heap/\(∀b∈fp,H' b=none)/\W i m σ' H':=fun {σ7 H7} I7 n7=>by
   obtain⟨m',hm,w7⟩:=hN σ7 H7 n7;refine⟨m',hm,i+1,σ7,H7,I7.jJ,T.keep _ _ _ st5 fun b hb o e=>(I7.pin (b,o) (qAv _ (qAv _ (fT hb e)))).1,fun b hb=>?_,w7⟩;obtain⟨o,e,d⟩:=T.obj _ _ st5 b hb;exact(I7.pin (b,o) (qAv _ (qAv _ (fT hb e)))).2.1
  cases f with
  | next=>obtain⟨σ7,H7,I7,n7⟩:=q7;exact qNp I7 n7
  | cont=>obtain⟨σ7,H7,I7,n7⟩:=q7;exact qNp I7 n7
  | brk=>obtain⟨σ7,H7,I7,q7⟩:=q7;exact⟨σ7,H7,I7.jJ,q7⟩
  | ret v=>obtain⟨x7,σ7,H7,I7,r7,q7⟩:=q7;exact⟨x7,σ7,H7,I7.jJ,r7,q7⟩
end
theorem fV {K:qAb}{a:Addr}{xs:List V}{g:TG}{tb:TS}{D:Ends}{σ:St}{H:Hp}(Pv:Nat->St->Hp->Prop)(h0:Pv 0 σ H)(hl:∀i σ H,i<=xs.length->Pv i σ H->aR K H a xs)
  (hs:∀i x σ H,xs[i]?=some x->Pv i σ H->g x σ H fun σ2 H2=>tb { D with nx:=Pv (i+1),ct:=Pv (i+1),bk:=D.nx } σ2 H2) (hd:∀σ H,Pv xs.length σ H->D.nx σ H) :
  ∃W:Nat->Nat->St->Hp->Prop,(∃m,W 0 m σ H)/\∀i m σ H,W i m σ H ->
   ((zQ K a).stop i H/\D.nx σ H)\/((zQ K a).go i H/\∃N:St->Hp->Prop,(∀σ' H',N σ' H'->∃m',m'<m/\W (i+1) m' σ' H')/\∀x H',(zQ K a).qQ i H x H'->g x σ H' fun σ2 H2=>tb { D with nx:=N,ct:=N,bk:=D.nx } σ2 H2):=by
 refine⟨fun i m σ H=>m=xs.length-i/\i<=xs.length/\Pv i σ H,⟨xs.length,by simp,qBr _,h0⟩,?_⟩;rintro i m σ H ⟨rfl,hi,p⟩;have q:=hl i σ H hi p;by_cases hlt:i<xs.length
 ·refine .inr ⟨⟨xs,xs[i],q,by simp[hlt]⟩,Pv (i+1),fun σ' H' p'=>⟨xs.length-(i+1),by lia,rfl,hlt,p'⟩,fun x H' y=>?_⟩;obtain⟨e,y⟩:=y;subst e;exact hs i x σ _ (y xs q) p
 ·have e:i=xs.length:=by lia
  subst e;exact .inl ⟨⟨xs,q,qAg _⟩,hd σ H p⟩
theorem qZ {lo:Int}{n:Nat}{g:TG}{tb:TS}{D:Ends}{σ:St}{H:Hp}(Pv:Nat->St->Hp->Prop)(h0:Pv 0 σ H)
  (hs:∀i σ H,i<n->Pv i σ H->g (.int (lo+i)) σ H fun σ2 H2=>tb { D with nx:=Pv (i+1),ct:=Pv (i+1),bk:=D.nx } σ2 H2) (hd:∀σ H,Pv n σ H->D.nx σ H) :
  ∃W:Nat->Nat->St->Hp->Prop,(∃m,W 0 m σ H)/\∀i m σ H,W i m σ H ->
   ((qN lo n).stop i H/\D.nx σ H)\/((qN lo n).go i H/\∃N:St->Hp->Prop,(∀σ' H',N σ' H'->∃m',m'<m/\W (i+1) m' σ' H')/\∀x H',(qN lo n).qQ i H x H'->g x σ H' fun σ2 H2=>tb { D with nx:=N,ct:=N,bk:=D.nx } σ2 H2):=by
 refine⟨fun i m σ H=>m=n-i/\i<=n/\Pv i σ H,⟨n,by simp,qBr _,h0⟩,?_⟩;rintro i m σ H ⟨rfl,hi,p⟩;by_cases hlt:i<n
 ·refine .inr ⟨hlt,Pv (i+1),fun σ' H' p'=>⟨n-(i+1),by lia,rfl,hlt,p'⟩,fun x H' y=>?_⟩;obtain⟨e,y⟩:=y;subst e y;exact hs i σ _ hlt p
 ·have e:i=n:=by lia
  subst e;exact .inl ⟨qAg _,hd σ H p⟩
abbrev R2:=V->V->Hp->VK->Prop
def iH (X:Cx)(f:qAi->qAi->Sem qAi)(r:R2):Prop :=
 ∀(pins:List (Addr×Obj)) (s:qAl) (σ:St) (H:Hp) (x y:V) (v u:qAi) (Q:VK),Inv X pins σ H s->RelV x v->RelV y u->r x y H Q ->
  qBj (qCa X.prog X.w) X.A (f v u) (EP X pins σ Q) X.xe s
def PK (X:Cx)(f:qAi->Sem qAi)(r:V->Hp->VK->Prop):Prop :=
 ∀(pins:List (Addr×Obj)) (s:qAl) (σ:St) (H:Hp) (x:V) (v:qAi) (Q:VK),Inv X pins σ H s->RelV x v->r x H Q ->
  qBj (qCa X.prog X.w) X.A (f v) (EP X pins σ Q) X.xe s
def gC (X:Cx)(f:qAi)(r:List V->Hp->VK->Prop):Prop :=
 ∀(pins:List (Addr×Obj)) (s:qAl) (σ:St) (H:Hp) (xs:List V) (us:List qAi) (Q:VK),Inv X pins σ H s->Vals xs us->r xs H Q ->
  qBj (qCa X.prog X.w) X.A (call f us) (EP X pins σ Q) X.xe s
def PL (r:R2)(ta tb:TE):TE:=fun σ H Q=>ta σ H fun x H1=>tb σ H1 fun y H2=>r x y H2 Q
def Ry (r:V->Hp->VK->Prop)(ta:TE):TE:=fun σ H Q=>ta σ H fun x H1=>r x H1 Q
def rI (C:Int->Int->Prop)(g:Int->Int->V):R2:=fun x y H Q=>∃i j,x = .int i/\y = .int j/\C i j/\Q (g i j) H
def FH (g:Int->Int->V):R2:=fun x y H Q=>∃i j,x = .int i/\y = .int j/\Q (g i j) H
def rU (g:Int->V):V->Hp->VK->Prop:=fun x H Q=>∃i,x = .int i/\Q (g i) H
section
variable {X:Cx}{a b c:Expr}{ta tb tc:TE}{pos:Pos}
theorem IQ (ha:PE X a ta)(hb:PE X b tb){pins:List (Addr×Obj)}{s:qAl}{σ:St}{H:Hp}{R:V->V->Hp->Prop}(I:Inv X pins σ H s)
  (h:ta σ H fun x H1=>tb σ H1 fun y H2=>R x y H2){Q:qAi->qAl->Prop}{f:qAi->qAi->Sem qAi}
  (hf:∀v u s2 x y H2,Inv X pins σ H2 s2->RelV x v->RelV y u->R x y H2->qBj (qCa X.prog X.w) X.A (f v u) Q X.xe s2) :
  qBj (qCa X.prog X.w) X.A (eval a X.env) (fun v s₁=>qBj (qCa X.prog X.w) X.A (eval b X.env) (fun u s₂=>qBj (qCa X.prog X.w) X.A (f v u) Q X.xe s₂) X.xe s₁) X.xe s:=by
 refine cE (ha pins s σ H _ I h) fun v s1 ⟨x,H1,I1,r1,q1⟩=>?_;refine cE (hb pins s1 σ H1 _ I1 q1) fun u s2 ⟨y,H2,I2,r2,q2⟩=>?_;exact hf v u s2 x y H2 I2 r1 r2 q2
theorem aQ (ho:iH X (qFx op) r)(ha:PE X a ta)(hb:PE X b tb):PE X (.BinOp a op b pos) (PL r ta tb):=by
 intro pins s σ H Q I h;exact wpAny_BinOp (IQ ha hb I h fun v u s2 x y H2 I2 rx ry q=>ho pins s2 σ H2 x y v u Q I2 rx ry q)
theorem gM (ho:PK X (unaryOp op) r)(ha:PE X a ta):PE X (.UnaryOp op a pos) (Ry r ta):=by
 intro pins s σ H Q I h;exact UnaryOp_ (cE (ha pins s σ H _ I h) fun v s1 ⟨x,H1,I1,r1,q1⟩=>ho pins s1 σ H1 x v Q I1 r1 q1)
theorem IS {f:qAi->qAi->Sem qAi}{C:Int->Int->Prop}{g:Int->Int->Int}
  (rule:∀(i j:Int) (t u:Tok) (s:qAl) (Q:qAi->qAl->Prop) (E:qAi->qAl->Prop),C i j->Q (.int (g i j) s.toks) { s with toks:=s.toks+1 }->qBj (qCa X.prog X.w) X.A (f (.int i t) (.int j u)) Q E s) :
  iH X f (rI C fun i j=>.int (g i j)):=by
 intro pins s σ H x y v u Q I rx ry h;obtain⟨i,j,rfl,rfl,hc,q⟩:=h;obtain⟨t,rfl⟩:=rx;obtain⟨t',rfl⟩:=ry;exact rule i j t t' s _ _ hc ⟨.int (g i j),H,I.tok _,⟨_,rfl⟩,q⟩
theorem IT {f:qAi->qAi->Sem qAi}{g:Int->Int->Int}
  (rule:∀(i j:Int) (t u:Tok) (s:qAl) (Q:qAi->qAl->Prop) (E:qAi->qAl->Prop),Q (.int (g i j) s.toks) { s with toks:=s.toks+1 }->qBj (qCa X.prog X.w) X.A (f (.int i t) (.int j u)) Q E s) :
  iH X f (FH fun i j=>.int (g i j)):=by
 intro pins s σ H x y v u Q I rx ry h;obtain⟨i,j,rfl,rfl,q⟩:=h;obtain⟨t,rfl⟩:=rx;obtain⟨t',rfl⟩:=ry;exact rule i j t t' s _ _ ⟨.int (g i j),H,I.tok _,⟨_,rfl⟩,q⟩
theorem FI {f:qAi->qAi->Sem qAi}{g:Int->Int->Bool}
  (rule:∀(i j:Int) (t u:Tok) (s:qAl) (Q:qAi->qAl->Prop) (E:qAi->qAl->Prop),Q (.bool (g i j)) s->qBj (qCa X.prog X.w) X.A (f (.int i t) (.int j u)) Q E s) :
  iH X f (FH fun i j=>.bl (g i j)):=by
 intro pins s σ H x y v u Q I rx ry h;obtain⟨i,j,rfl,rfl,q⟩:=h;obtain⟨t,rfl⟩:=rx;obtain⟨t',rfl⟩:=ry;exact rule i j t t' s _ _ ⟨.bl (g i j),H,I,rfl,q⟩
def Qh (i j:Int):Prop:=0<j/\j<1073741824
def Nn (i j:Int):Prop:=0<=j/\j<=1000000/\i.natAbs<2^64
def FJ (i j:Int):Prop:=(-(2^64)<i/\i<2^64)\/(-(2^64)<j/\j<2^64)
theorem FJ.ok (h:FJ i j):IntMulOk i j:=by
 rcases h with ⟨h1,h2⟩ | ⟨h1,h2⟩
 ·exact .of_left (intBits_le_64 h1 h2)
 ·exact .of_right (intBits_le_64 h1 h2)
theorem f9:iH X (qFx .Add) (FH fun i j=>.int (i+j)):=IT fun _ _ _ _ _ _ _ q=>add_int q
theorem iW:iH X (qFx .Sub) (FH fun i j=>.int (i-j)):=IT fun _ _ _ _ _ _ _ q=>sub_int q
theorem tJ:iH X (qFx .Mult) (rI FJ fun i j=>.int (i*j)):=IS fun _ _ _ _ _ _ _ hc q=>mul_int q hc.ok
theorem j5:iH X (qFx .FloorDiv) (rI Qh fun i j=>.int (i/j)):=IS fun i j _ _ _ _ _ hc q=>by
 have h1:(0:Int)<j:=hc.1;have h2:j<1073741824:=hc.2;exact floordiv_int (by lia) (by rw[qHf i (by lia)];exact q) (.inl (PyProof.noPylong_small (by lia)))
theorem dX:iH X (qFx .Mod) (rI (fun _ j=>0<j) fun i j=>.int (i%j)):=IS fun i j _ _ _ _ _ hc q=>by
 have h1:(0:Int)<j:=hc;exact mod_int' (by lia) (by rw[Int.fmod_eq_emod_of_nonneg i (by lia)];exact q)
theorem xR:iH X (qFx .Pow) (rI Nn fun i j=>.int (i^j.toNat)):=IS fun _ _ _ _ _ _ _ hc q=>pow_int_small hc.1 hc.2.1 hc.2.2 q
theorem IU:iH X (qFx .LShift) (rI Nn fun i j=>.int (i*2^j.toNat)):=IS fun _ _ _ _ _ _ _ hc q=>lshift_int_small hc.1 hc.2.1 hc.2.2 q
theorem Cz:iH X (qFx .BitAnd) (FH fun i j=>.int (qGd i j)):=IT fun _ _ _ _ _ _ _ q=>and_int q
theorem Rz {f:qAi->Sem qAi}{g:Int->Int}
  (rule:∀(i:Int) (t:Tok) (s:qAl) (Q:qAi->qAl->Prop) (E:qAi->qAl->Prop),Q (.int (g i) s.toks) { s with toks:=s.toks+1 }->qBj (qCa X.prog X.w) X.A (f (.int i t)) Q E s) :
  PK X f (rU fun i=>.int (g i)):=by
 intro pins s σ H x v Q I rx h;obtain⟨i,rfl,q⟩:=h;obtain⟨t,rfl⟩:=rx;exact rule i t s _ _ ⟨.int (g i),H,I.tok _,⟨_,rfl⟩,q⟩
theorem fF:PK X (unaryOp .USub) (rU fun i=>.int (-i)):=Rz fun _ _ _ _ _ q=>neg_int q
end
def Np:V->V->Bool
 | .non,.non=>true | .non,.int _=>true | .int _,.non=>true | .non,.bl _=>true | .bl _,.non=>true | .non,.str _=>true | .str _,.non=>true
 | .int _,.int _=>true | .bl _,.bl _=>true | .str _,.str _=>true | .byt _,.byt _=>true
 | .int _,.str _=>true | .str _,.int _=>true | .bl _,.str _=>true | .str _,.bl _=>true
 | _,_=>false
def RA:R2:=fun x y H Q=>Np x y=true/\Q (.bl (decide (x=y))) H
def RB:R2:=fun x y H Q=>Np x y=true/\Q (.bl (!decide (x=y))) H
theorem zR:decide (V.int i=V.int j)=(i == j):=by
 rw[qFv];simp
theorem CA:decide (V.bl i=V.bl j)=(i == j):=by
 rw[qFv];simp
theorem zS:decide (V.str i=V.str j)=(i == j):=by
 rw[qFv];simp
theorem zT:decide (V.byt i=V.byt j)=(i.toList == j.toList):=by
 rw[qFv];cases i;cases j;simp
section
variable {X:Cx}{a b c:Expr}{ta tb tc:TE}{pos:Pos}
theorem bW (I:Inv X pins σ H s)(q:Q (.bl k) H)(e:k=k'):EP X pins σ Q (.bool k') s:=by
 subst e;exact⟨.bl k,H,I,rfl,q⟩
theorem eO:iH X (qDs .Eq) RA:=by
 intro pins s σ H x y v u Q I rx ry h;obtain⟨hs,q⟩:=h;cases x with
 | non =>
  cases rx
  cases y with
  | non=>cases ry;exact PySem.EqNone.eq_none_none (bW I q (by simp))
  | bl j=>cases ry;exact PySem.EqNone.eq_none_bool (bW I q (by simp))
  | int j=>obtain⟨t',rfl⟩:=ry;exact PySem.EqNone.eq_none_int (bW I q (by simp))
  | str j=>obtain⟨t',rfl⟩:=ry;exact PySem.EqNone.eq_none_str (bW I q (by simp))
  | _=>exact absurd (show false=true from hs) qAj
 | bl i =>
  cases rx
  cases y with
  | non=>cases ry;exact PySem.EqNone.eq_bool_none (bW I q (by simp))
  | bl j=>cases ry;exact eq_bool (bW I q CA)
  | str j=>obtain⟨t',rfl⟩:=ry;exact PySem.EqMixed.eq_bool_str (bW I q (by simp))
  | _=>exact absurd (show false=true from hs) qAj
 | int i =>
  obtain⟨t,rfl⟩:=rx;cases y with
  | non=>cases ry;exact PySem.EqNone.eq_int_none (bW I q (by simp))
  | int j=>obtain⟨t',rfl⟩:=ry;exact eq_int (bW I q zR)
  | str j=>obtain⟨t',rfl⟩:=ry;exact PySem.EqMixed.eq_int_str (bW I q (by simp))
  | _=>exact absurd (show false=true from hs) qAj
 | str i =>
  obtain⟨t,rfl⟩:=rx;cases y with
  | non=>cases ry;exact PySem.EqNone.eq_str_none (bW I q (by simp))
  | bl j=>cases ry;exact PySem.EqMixed.eq_str_bool (bW I q (by simp))
  | int j=>obtain⟨t',rfl⟩:=ry;exact PySem.EqMixed.eq_str_int (bW I q (by simp))
  | str j=>obtain⟨t',rfl⟩:=ry;exact eq_str (bW I q zS)
  | _=>exact absurd (show false=true from hs) qAj
 | byt i =>
  obtain⟨t,rfl⟩:=rx;cases y with
  | byt j=>obtain⟨t',rfl⟩:=ry;exact PySem.W.eq_bytes (bW I q zT)
  | _=>exact absurd (show false=true from hs) qAj
 | _=>cases y <;> exact absurd (show false=true from hs) qAj
theorem g9:iH X (qDs .NotEq) RB:=by
 intro pins s σ H x y v u Q I rx ry h;obtain⟨hs,q⟩:=h;cases x with
 | non =>
  cases rx
  cases y with
  | non=>cases ry;exact PySem.EqNone.ne_none_none (bW I q (by simp))
  | bl j=>cases ry;exact PySem.EqNone.ne_none_bool (bW I q (by simp))
  | int j=>obtain⟨t',rfl⟩:=ry;exact PySem.EqNone.ne_none_int (bW I q (by simp))
  | str j=>obtain⟨t',rfl⟩:=ry;exact PySem.EqNone.ne_none_str (bW I q (by simp))
  | _=>exact absurd (show false=true from hs) qAj
 | bl i =>
  cases rx
  cases y with
  | non=>cases ry;exact PySem.EqNone.ne_bool_none (bW I q (by simp))
  | bl j=>cases ry;exact ne_bool (bW I q (congrArg not CA))
  | str j=>obtain⟨t',rfl⟩:=ry;exact PySem.EqMixed.ne_bool_str (bW I q (by simp))
  | _=>exact absurd (show false=true from hs) qAj
 | int i =>
  obtain⟨t,rfl⟩:=rx;cases y with
  | non=>cases ry;exact PySem.EqNone.ne_int_none (bW I q (by simp))
  | int j=>obtain⟨t',rfl⟩:=ry;exact ne_int (bW I q (congrArg not zR))
  | str j=>obtain⟨t',rfl⟩:=ry;exact PySem.EqMixed.ne_int_str (bW I q (by simp))
  | _=>exact absurd (show false=true from hs) qAj
 | str i =>
  obtain⟨t,rfl⟩:=rx;cases y with
  | non=>cases ry;exact PySem.EqNone.ne_str_none (bW I q (by simp))
  | bl j=>cases ry;exact PySem.EqMixed.ne_str_bool (bW I q (by simp))
  | int j=>obtain⟨t',rfl⟩:=ry;exact PySem.EqMixed.ne_str_int (bW I q (by simp))
  | str j=>obtain⟨t',rfl⟩:=ry;exact ne_str (bW I q (congrArg not zS))
  | _=>exact absurd (show false=true from hs) qAj
 | byt i =>
  obtain⟨t,rfl⟩:=rx;cases y with
  | byt j=>obtain⟨t',rfl⟩:=ry;exact PySem.W.ne_bytes (bW I q (congrArg not zT))
  | _=>exact absurd (show false=true from hs) qAj
 | _=>cases y <;> exact absurd (show false=true from hs) qAj
theorem kQ:iH X (qDs .Lt) (FH fun i j=>.bl (decide (i<j))):=FI fun _ _ _ _ _ _ _ q=>lt_int q
theorem zU:iH X (qDs .LtE) (FH fun i j=>.bl (decide (i<=j))):=FI fun _ _ _ _ _ _ _ q=>le_int q
theorem uZ:iH X (qDs .Gt) (FH fun i j=>.bl (decide (j<i))):=FI fun _ _ _ _ _ _ _ q=>gt_int q
theorem CB:iH X (qDs .GtE) (FH fun i j=>.bl (decide (j<=i))):=FI fun _ _ _ _ _ _ _ q=>ge_int q
theorem xS:iH X (qDs .Is) (fun x y H Q=>y = .non/\Q (.bl (decide (x = .non))) H):=by
 intro pins s σ H x y v u Q I rx ry h;obtain⟨rfl,q⟩:=h;cases ry;refine is_none_gen (bW I q ?_);cases x <;> first
  | (cases rx;rfl)
  | (obtain⟨t,rfl⟩:=rx;rfl)
theorem FK:iH X (qDs .IsNot) (fun x y H Q=>y = .non/\Q (.bl (!decide (x = .non))) H):=by
 intro pins s σ H x y v u Q I rx ry h;obtain⟨rfl,q⟩:=h;cases ry;refine isnot_none_gen (bW I q ?_);cases x <;> first
  | (cases rx;rfl)
  | (obtain⟨t,rfl⟩:=rx;rfl)
theorem aX (b:Expr){op:CmpOp}(h:op≠.In:=by decide)(h2:op≠.NotIn:=by decide):qKm op b=false:=by
 have e1:(op == CmpOp.In)=false:=by cases op <;> first | rfl | exact absurd rfl h
 have e2:(op == CmpOp.NotIn)=false:=by cases op <;> first | rfl | exact absurd rfl h2
 cases b <;> simp[qKm,e1,e2]
theorem dR (ho:iH X (qDs op) r)(ha:PE X a ta)(hb:PE X b tb)(hm:qKm op b=false):PE X (.Compare a [op] [b] pos) (PL r ta tb):=by
 intro pins s σ H Q I h;exact wpAny_Compare1 (IQ ha hb I h fun v u s2 x y H2 I2 rx ry q=>ho pins s2 σ H2 x y v u Q I2 rx ry q) hm
def Hm (t:TE):TT:=fun σ H Q=>t σ H fun x H'=>∃k,x = .bl k/\Q k H'
theorem aW (ho:iH X (qDs op) r)(ha:PE X a ta)(hb:PE X b tb)(hm:qKm op b=false):PT X (.Compare a [op] [b] pos) (Hm (PL r ta tb)):=by
 intro pins s σ H Q I h;refine wpAny_isTrue_Compare1 (cE (ha pins s σ H _ I h) fun v s1 ⟨x,H1,I1,r1,q1⟩=>cE (hb pins s1 σ H1 _ I1 q1) fun u s2 ⟨y,H2,I2,r2,q2⟩ =>
  cE (ho pins s2 σ H2 x y v u _ I2 r1 r2 q2) fun c s3 ⟨z,H3,I3,r3,k,e,q3⟩=>?_) hm
 subst e;cases r3;exact qDv ⟨H3,I3,q3⟩
def CC (r r':R2)(ta tb tc:TE):TE:=fun σ H Q=>ta σ H fun x H1=>tb σ H1 fun y H2=>r x y H2 fun z H3=>∃k,z = .bl k /\
 (if k=true then tc σ H3 fun w' H4=>r' y w' H4 Q else Q (.bl false) H3)
theorem CD (ho:iH X (qDs op) r)(ho':iH X (qDs op') r')(ha:PE X a ta)(hb:PE X b tb)(hc:PE X c tc)
  (hm:lastMarks [op,op'] [b,c]=false:=by with_unfolding_all rfl):PE X (.Compare a [op,op'] [b,c] pos) (CC r r' ta tb tc):=by
 intro pins s σ H Q I h;refine Compare_chain (cE (ha pins s σ H _ I h) fun v s1 ⟨x,H1,I1,r1,q1⟩=>chain_link (cE (hb pins s1 σ H1 _ I1 q1) fun u s2 ⟨y,H2,I2,r2,q2⟩ =>
  cE (ho pins s2 σ H2 x y v u _ I2 r1 r2 q2) fun d s3 ⟨z,H3,I3,r3,k,e,q3⟩=>?_)) hm
 subst e;cases r3;refine qDv ?_;cases k with
 | false=>exact ite_ff ⟨.bl false,H3,I3,rfl,q3⟩
 | true=>exact ite_tt (chain_last (cE (hc pins s3 σ H3 _ I3 q3) fun w' s4 ⟨z',H4,I4,r4,q4⟩=>ho' pins s4 σ H4 y z' u w' Q I4 r2 r4 q4))
theorem CF (ho:iH X (qDs op) r)(ho':iH X (qDs op') r')(ha:PE X a ta)(hb:PE X b tb)(hc:PE X c tc)
  (hm:lastMarks [op,op'] [b,c]=false:=by with_unfolding_all rfl):PT X (.Compare a [op,op'] [b,c] pos) (Hm (CC r r' ta tb tc)):=by
 intro pins s σ H Q I h;refine isTrue_chain (cE (ha pins s σ H _ I h) fun v s1 ⟨x,H1,I1,r1,q1⟩=>test_link (cE (hb pins s1 σ H1 _ I1 q1) fun u s2 ⟨y,H2,I2,r2,q2⟩ =>
  cE (ho pins s2 σ H2 x y v u _ I2 r1 r2 q2) fun d s3 ⟨z,H3,I3,r3,k,e,q3⟩=>?_)) hm
 subst e;cases r3;refine qDv ?_;cases k with
 | false =>
  obtain⟨k',e',q'⟩:=q3;cases e';exact ite_ff ⟨H3,I3,q'⟩
 | true =>
  refine ite_tt (test_last (cE (hc pins s3 σ H3 _ I3 q3) fun w' s4 ⟨z',H4,I4,r4,q4⟩=>cE (ho' pins s4 σ H4 y z' u w' _ I4 r2 r4 q4) fun d' s5 ⟨z2,H5,I5,r5,k2,e2,q5⟩=>?_));subst e2;cases r5;exact qDv ⟨H5,I5,q5⟩
theorem tK:(qAf:Nat)<2^63:=by rw[qCi];decide
theorem vals1 (r:Vals [x] us):∃u,us=[u]/\RelV x u:=by
 cases r with
 | cons r1 r2=>cases r2;exact⟨_,rfl,r1⟩
theorem vals2 (r:Vals [x,y] us):∃u w',us=[u,w']/\RelV x u/\RelV y w':=by
 cases r with
 | cons r1 r2 =>
  cases r2 with
  | cons r3 r4=>cases r4;exact⟨_,_,rfl,r1,r3⟩
theorem vB:gC X (.builtin "abs") (fun xs H Q=>∃i,xs=[.int i]/\Q (.int (if i<0 then -i else i)) H):=by
 intro pins s σ H xs us Q I r h;obtain⟨i,rfl,q⟩:=h;obtain⟨u,rfl,t,rfl⟩:=vals1 r;exact call_abs_int fun u tk=>⟨.int (if i<0 then -i else i),H,I.tok _,⟨_,rfl⟩,q⟩
theorem mT:gC X (.type "int") (fun xs H Q=>(∃i,xs=[.int i]/\Q (.int i) H)\/∃k,xs=[.bl k]/\Q (.int (if k then 1 else 0)) H):=by
 intro pins s σ H xs us Q I r h;rcases h with ⟨i,rfl,q⟩ | ⟨k,rfl,q⟩
 ·obtain⟨u,rfl,t,rfl⟩:=vals1 r;exact call_int_int ⟨.int i,H,I,⟨_,rfl⟩,q⟩
 ·obtain⟨u,rfl,r1⟩:=vals1 r;cases r1;exact call_int_bool ⟨.int (if k then 1 else 0),H,I.tok _,⟨_,rfl⟩,q⟩
end
structure xT (h:Heap) (x dx C:Addr) (mA:Str->Option qAi):Prop where
 obj:h.get? x=some (qEj C dx)
 ns:h.Ns1 dx mA
 ne:dx≠x
theorem Bo {h:Heap}{dx:Addr}{mA:Str->Option qAi}(n:h.Ns1 dx mA):∃od,h.get? dx=some od/\∀name,qIe name od=some (mA name):=by
 obtain⟨o,es,ep,ho,hd,hk,_,hm⟩:=n;refine⟨o,ho,fun name=>?_⟩;have e:=hm name;unfold nsFind findBy at e;rw[<- Array.find?_toList] at e;unfold qIe;rw[hd];dsimp only;split
 ·rename_i y q;rw[q] at e;exact congrArg some e
 ·rename_i q;rw[q] at e;have a:es.toList.any (·.refKey)=false:=by
   rw[List.any_eq_false];intro y hy;obtain⟨z,t,hkey⟩:=hk y (Array.mem_toList_iff.mp hy);simp[DictEntry.refKey,hkey]
  have a':¬es.toList.any (·.refKey)=true:=by rw[a];exact qAj
  rw[if_neg a'];exact congrArg some e
theorem xT.look (I:xT h x dx C mA):∃od,PySem.W.InstAt h x (qEj C dx) C (some od)/\∀name,qIe name od=some (mA name) :=
 let ⟨od,ho,hl⟩:=Bo I.ns
 ⟨od,⟨I.obj,rfl,rfl,ho⟩,hl⟩
section
variable {prog:qBx}{w:qDe}{A:qDd}{E:qAi->qAl->Prop}{s:qAl}{K:qAb}{x dx C f:Addr}{mA:Str->Option qAi}{name:Str}{v:qAi}
theorem get_map (X:K.In s.heap)(I:xT s.heap x dx C mA)(hg:qGi K C name=true)(hh:qHb K C=true)
  (ha:qAw K (.ref C) name=some none) (hv:mA name=some v) (hv':qMr v=true) (h:Q v { s with toks:=s.toks+1 }) :
  qBj (qCa prog w) A (getAttr (.ref x) name expr) Q E s:=by
 obtain⟨od,J,hl⟩:=I.look;exact PySem.W.get_value X J (qIi hg).1 (PySem.W.findObj_own hh ha rfl (by rw[hl,hv])) hv' h
theorem CG (X:K.In s.heap)(I:xT s.heap x dx C mA)(hg:qGi K C name=true)
  (hf:qAw K (.ref C) name=some (some (.ref f))) (ht:qEu K (.ref f)=true) (hv:mA name=none) (h:Q (.ref f,[.ref x]) s) :
  qBj (qCa prog w) A (getMethod (.ref x) name pl) Q E s:=by
 obtain⟨od,J,hl⟩:=I.look;exact PySem.W.method_fn X J (qIi hg).1 (qIi hg).2 hf (beq_iff_eq.mp ht) (by show(qIe name od).map (·.isSome)=some false;rw[hl,hv];rfl) h
theorem FL (X:K.In s.heap)(I:xT s.heap x dx C mA)
  (hs:qAw K (.ref C) "__setattr__"=some (some (.builtin "object.__setattr__"))) (hp:qIy K C=true) (ht:qJq K C name=some none) (hh:qHb K C=true)
  (hw:PySem.Within mA ns) (hsz:ns.length<=qAf)
  (h:∀h',xT h' x dx C (fun y=>if y=name then some v else mA y)->qFb dx s.heap h'->Q () { s with heap:=h',toks:=s.toks+2 }) :
  qBj (qCa prog w) A (setAttr (.ref x) name v) Q E s:=by
 obtain⟨od,J,hl⟩:=I.look;refine PySem.W.set_plain X J hs (PySem.W.osa_open (s:={ s with toks:=s.toks+1 }) (r:=none) X J hp ht fun b=>?_);obtain⟨cd,hc,hd'⟩:=PySem.W.any_some hh;have hx:s.heap.get? x=some ⟨.ref C,some dx,.plain,#[]⟩:=I.obj;refine qAa (qAe (qAa (qAa (wpAny_loadPart hx (qAa (PySem.W.Looks.here (s:={ s with toks:=s.toks+1 }) (PySem.W.looks_clsIn X hc) ?_))))));rw[hd'];refine qAe (a:=some dx) (qAa (qAe (qAa ?_)));refine wpAny_nsSet1 (s:={ s with toks:=s.toks+1 }) I.ns fun h' hn2 hs2=>?_;obtain⟨oD,esD,epD,hoD,hdD,hcD⟩:=hn2.count (PySem.Within.cons name v hw);refine qAa (wpAny_lookBehind hoD (by rw[hdD];exact pastItsLine_dict (qDa hcD (by rw[qCn];lia))) ?_);exact qAe (h _ ⟨(hs2.2 _ (Ne.symm I.ne)).trans I.obj,hn2,I.ne⟩ hs2)
theorem CH (X:K.In s.heap)(hm:qJr K C=true)
  (hi:qAw K (.ref C) "__init__"=some (some (.ref f))) (hf:qGc K (.ref f)=some (.type "function"))
  (h:qHa (qCa prog w) (A.under (.builtin "type.__call__" ⟨.ref C::vs,kw⟩)) (.call (.ref f) ⟨.ref (s.heap.objs.size+1)::vs,kw⟩) (PySem.W.InitBack (s.heap.objs.size+1) R)
   { s with heap:=(s.heap.push qDp).push (qEj C s.heap.objs.size) }) :
  qHa (qCa prog w) A (.call (.ref C) ⟨vs,kw⟩) R s:=by
 obtain⟨hh,g,d,t,os⟩:=s;exact PySem.W.make_core (PySem.W.makes_of X hm) (qGl X hi) (fun self=>PySem.W.bind_fn X self hf) (.inl rfl) h
end
def dN (f:Str)(v:V):List (Str×V)->List (Str×V)
 | []=>[(f,v)]
 | (g,x)::r=>if g=f then (g,v)::r else (g,x)::dN f v r
theorem nL (f g:Str)(v:V):∀fs:List (Str×V),(dN f v fs).lookup g=if g=f then some v else fs.lookup g
 | []=>by
  show qGw g [(f,v)]=_;by_cases h:g=f
  ·have hb:(g == f)=true:=beq_iff_eq.mpr h;simp only[qGw,hb,if_pos h]
  ·have hb:(g == f)=false:=beq_eq_false_iff_ne.mpr h;simp only[qGw,hb,if_neg h]
 | (k,x)::r=>by
  have ih:=nL f g v r;rw[show dN f v ((k,x)::r)=(if k=f then (k,v)::r else (k,x)::dN f v r) from rfl];by_cases hk:k=f
  ·rw[if_pos hk];by_cases h:g=k
   ·have hb:(g == k)=true:=beq_iff_eq.mpr h;simp only[qGw,hb,if_pos (h.trans hk)]
   ·have hb:(g == k)=false:=beq_eq_false_iff_ne.mpr h;simp only[qGw,hb,if_neg (fun e:g=f=>h (e.trans hk.symm))]
  ·rw[if_neg hk];by_cases h:g=k
   ·have hb:(g == k)=true:=beq_iff_eq.mpr h;simp only[qGw,hb,if_neg (fun e:g=f=>hk (h.symm.trans e))]
   ·have hb:(g == k)=false:=beq_eq_false_iff_ne.mpr h;simp only[qGw,hb];exact ih
theorem mU (f:Str)(v:V):∀fs:List (Str×V),f∈(dN f v fs).map (·.1)/\∀g,g∈fs.map (·.1)->g∈(dN f v fs).map (·.1)
 | []=>⟨by simp[dN],fun g h=>by simp at h⟩
 | (k,x)::r=>by
  obtain⟨i1,i2⟩:=mU f v r;rw[show dN f v ((k,x)::r)=(if k=f then (k,v)::r else (k,x)::dN f v r) from rfl];by_cases hk:k=f
  ·rw[if_pos hk];subst hk;exact⟨by simp,fun g h=>by simpa using h⟩
  ·rw[if_neg hk];refine⟨?_,fun g h=>?_⟩
   ·rw[qDj];exact qCh _ i1
   ·rw[qDj] at h|-;rcases List.mem_cons.mp h with e | e
    ·exact List.mem_cons.mpr (.inl e)
    ·exact qCh _ (i2 g e)
theorem nM (f:Str)(v:V):∀fs:List (Str×V),(dN f v fs).length<=fs.length+1
 | []=>by simp[dN]
 | (k,x)::r=>by
  have ih:=nM f v r;rw[show dN f v ((k,x)::r)=(if k=f then (k,v)::r else (k,x)::dN f v r) from rfl];by_cases hk:k=f
  ·rw[if_pos hk,qCn,qCn];lia
  ·rw[if_neg hk,qCn,qCn];lia
theorem kH.some_of (r:kH (some v) o):∃u,o=some u/\RelV v u:=by
 cases o with
 | none=>exact(show False from r).elim
 | some u=>exact⟨u,rfl,r⟩
theorem kH.none_of (r:kH none o):o=none:=by
 cases o with
 | none=>rfl
 | some u=>exact(show False from r).elim
theorem Bp (r:RelV v u):qMr u=true:=by
 cases v with
 | non=>cases (show u=Value.none from r);rfl
 | bl b=>cases (show u=Value.bool b from r);rfl
 | int i=>obtain⟨t,e⟩:=(show ∃t,u=Value.int i t from r);cases e;rfl
 | str x=>obtain⟨t,e⟩:=(show ∃t,u=Value.str x t from r);cases e;rfl
 | byt b=>obtain⟨t,e⟩:=(show ∃t,u=Value.bytes b t from r);cases e;rfl
 | flt b=>obtain⟨t,e⟩:=(show ∃t,u=Value.float b t from r);cases e;rfl
 | ref a=>cases (show u=Value.ref a from r);rfl
 | ty n=>cases (show u=Value.type n from r);rfl
section
variable {P:qBx}{w:qDe}{H H':Hp}{h h':Heap}{a C dx:Addr}{fs fs':List (Str×V)}
theorem oH (bZ:kI P w H h)(e:H a=some (.ins C dx fs)):∃mA,xT h a dx C mA/\(∀f,kH (fs.lookup f) (mA f))/\PySem.Within mA (fs.map (·.1))/\fs.length<=1000/\H dx=some (.own a):=by
 obtain⟨d,z,ne,ob,mA,n,r,q⟩:=(show cO P w H h a (.ins C dx fs) from bZ a _ e);exact⟨mA,⟨ob,n,ne⟩,r,q,z,d⟩
end
structure Fw (K:qAb) (C:Addr):Prop where
 pg:qGi K C Str.empty=true
 hd:qHb K C=true
 po:qIy K C=true
 sa:qAw K (.ref C) "__setattr__"=some (some (.builtin "object.__setattr__"))
theorem Fw.get {K:qAb}{C:Addr}(c:Fw K C)(f:Str):qGi K C f=true:=c.pg
def iA (K:qAb)(C:Addr)(f:Str):Prop:=qAw K (.ref C) f=some none
theorem iA.Nq {K:qAb}{C:Addr}{f:Str}(n:iA K C f):qJq K C f=some none:=by
 unfold qJq;rw[show qAw K (.ref C) f=some none from n];rfl
structure Meth (K:qAb) (C:Addr) (m:Str) (f:Addr):Prop where
 at_:qAw K (.ref C) m=some (some (.ref f))
 fn:qEu K (.ref f)=true
 kp:qCs K (.ref f)=true
section
variable {X:Cx}{pins:List (Addr×Obj)}{σ:St}{H:Hp}{s:qAl}{a C dx:Addr}{fs:List (Str×V)}{f:Str}{v:V}{A:qDd}{E:qAi->qAl->Prop}
theorem xU (I:Inv X pins σ H s)(e:H a=some (.ins C dx fs))(c:Fw X.K C)(n:iA X.K C f)(l:fs.lookup f=some v)
  (h:∀u s',Inv X pins σ H s'->RelV v u->Q u s'):qBj (qCa X.prog X.w) A (getAttr (.ref a) f b) Q E s:=by
 obtain⟨mA,O,r,_,_,_⟩:=oH I.bZ e;obtain⟨u,hu,ru⟩:=kH.some_of (v:=v) (o:=mA f) (by rw[<- l];exact r f);exact get_map I.qY O (c.get f) c.hd n hu (Bp ru) (h u _ (I.tok _) ru)
theorem xV (I:Inv X pins σ H s)(e:H a=some (.ins C dx fs))(c:Fw X.K C)(k:Meth X.K C m g)(l:fs.lookup m=none)
  (h:Q (.ref g,[.ref a]) s):qBj (qCa X.prog X.w) A (getMethod (.ref a) m pl) Q E s:=by
 obtain⟨mA,O,r,_,_,_⟩:=oH I.bZ e;have hn:mA m=none:=kH.none_of (by rw[<- l];exact r m);exact CG I.qY O (c.get m) k.at_ k.fn hn h
theorem xW (I:Inv X pins σ H s)(e:H a=some (.ins C dx fs))(c:Fw X.K C)(n:iA X.K C f)(hl:fs.length<1000)(ry:RelV y u)
  (h:∀s',Inv X pins σ (upd H a (.ins C dx (dN f y fs))) s'->Q () s'):qBj (qCa X.prog X.w) A (setAttr (.ref a) f u) Q E s:=by
 obtain⟨mA,O,r,wi,_,ho⟩:=oH I.bZ e;have hz:(fs.map (·.1)).length<=qAf:=by rw[qAc,qCi];lia
 refine FL I.qY O c.sa c.po n.Nq c.hd wi hz fun h' O' sb=>h _ ?_;have hd:∃o,h'.get? dx=some o:=let ⟨o,_,_,e',_⟩:=O'.ns;⟨o,e'⟩;refine I.write (x:=a) (e:=dx) (by rw[e];exact True.intro) (.inr ho) (fun b q hb z=>(sb.2 b hb).trans z) hd ?_;refine⟨by rw[aL O.ne];exact ho,?_,O.ne,O'.obj,_,O'.ns,fun g=>?_,fun g hg=>?_⟩
 ·have:=nM f y fs;lia
 ·show kH ((dN f y fs).lookup g) (if g=f then some u else mA g);rw[nL];by_cases q:g=f
  ·rw[if_pos q,if_pos q];exact ry
  ·rw[if_neg q,if_neg q];exact r g
 ·by_cases q:g=f
  ·rw[q];exact(mU f y fs).1
  ·refine(mU f y fs).2 g (wi g fun z=>hg ?_);show(if g=f then some u else mA g)=none;rw[if_neg q];exact z
theorem Inv.made (I:Inv X pins σ H s):Inv X pins σ (upd (upd H s.heap.objs.size (.own (s.heap.objs.size+1))) (s.heap.objs.size+1) (.ins C s.heap.objs.size []))
  { s with heap:=(s.heap.push qDp).push (qEj C s.heap.objs.size) }:=by
 have e1:(s.heap.push qDp).get? s.heap.objs.size=some qDp:=qAt s.heap rfl;have e2:((s.heap.push qDp).push (qEj C s.heap.objs.size)).get? (s.heap.objs.size+1)=some (qEj C s.heap.objs.size):=by
  have:=qAt (s.heap.push qDp) (o:=qEj C s.heap.objs.size) rfl;rwa [qCy] at this
 have e3:(s.heap.push qDp).Ns s.heap.objs.size (fun _=>none):=⟨qDp,#[],_,e1,rfl,(fun e he=>absurd he (by simp)),fun _=>rfl⟩;have I1:=I.laid (a:=s.heap.objs.size) (o:=.own (s.heap.objs.size+1)) (h':=s.heap.push qDp) (t':=s.toks) (fun b u q=>qAh _ q) (qAg _) ⟨_,e1⟩;refine I1.laid (a:=s.heap.objs.size+1) (o:=.ins C s.heap.objs.size []) (t':=s.toks) (fun b u q=>qAh _ q) (qIm (qCy _ _)) ?_;have ne:s.heap.objs.size≠s.heap.objs.size+1:=qBe (qGq _);refine⟨by rw[aL ne,aC],qBr _,ne,e2,fun _=>none,(Heap.Ns1.of_empty e3).at fun o q=>qAh _ q,fun _=>True.intro,fun y hy=>absurd rfl hy⟩
theorem FN (hb:qHi e f env (eval e env)=eval e env)
  (h:qBj (qCa prog w) A (eval e env) (fun o s₁=>qBj (qCa prog w) A (getAttr o f true) Q E s₁) E s):qBj (qCa prog w) A (eval (.Attribute e f pos) env) Q E s :=
 Attribute_any_ h (by rw[arm_eval_Attribute,hb])
end
def Nr (K:qAb)(ta:TE)(f:Str):TE:=fun σ H Q=>ta σ H fun x H1=>∃a C dx fs v,x = .ref a/\H1 a=some (.ins C dx fs)/\Fw K C/\iA K C f/\fs.lookup f=some v/\Q v H1
def Qi (K:qAb)(ta tv:TE)(f:Str):TS:=fun D σ H=>tv σ H fun y H1=>ta σ H1 fun x H2=>∃a C dx fs,x = .ref a/\H2 a=some (.ins C dx fs)/\Fw K C/\iA K C f/\fs.length<1000 /\
 D.nx σ (upd H2 a (.ins C dx (dN f y fs)))
section
variable {X:Cx}{o e value:Expr}{f:Str}{pos pos' tpos:Pos}{ta tv:TE}
theorem bX (he:PE X e ta)(hb:qHi e f X.env (eval e X.env)=eval e X.env):PE X (.Attribute e f pos) (Nr X.K ta f):=by
 intro pins s σ H Q I h;refine FN hb (cE (he pins s σ H _ I h) fun u s1 ⟨x,H1,I1,rx,a,C,dx,fs,v,ex,ea,c,n,l,q⟩=>?_);subst ex;obtain rfl:u=Value.ref a:=rx;exact xU I1 ea c n l fun u' s2 I2 ru=>⟨v,H1,I2,ru,q⟩
theorem mV (ha:PE X o ta)(hv:PE X value tv)(hs:qKi value (some (.Attribute o f pos')) pos.line X.env=pure false):PS X (.Assign [.Attribute o f pos'] value pos) (Qi X.K ta tv f):=by
 intro pins s σ H D I h;refine plainObj_wpAny_Assign_Attribute (cE (hv pins s σ H _ I h) fun u s1 ⟨y,H1,I1,ry,q⟩=>cE (ha pins s1 σ H1 _ I1 q) fun ov s2 ⟨x,H2,I2,rx,a,C,dx,fs,ex,ea,c,n,l,q2⟩=>?_) hs;subst ex;obtain rfl:ov=Value.ref a:=rx;exact xW I2 ea c n l ry fun s3 I3=>⟨σ,_,I3,q2⟩
end
section
variable {X:Cx}{pins:List (Addr×Obj)}{σ:St}{H:Hp}{s:qAl}{A:qDd}{E:qAi->qAl->Prop}{Q:qAi->qAl->Prop}{c:qAi}{b:Bool}
inductive jK (K:qAb) (H:Hp):V->qAi->Prop where
 | non:jK K H .non (.type "NoneType")
 | bl (x:Bool):jK K H (.bl x) (.type "bool")
 | int (i:Int):jK K H (.int i) (.type "int")
 | str (x:Str):jK K H (.str x) (.type "str")
 | flt (x:UInt64):jK K H (.flt x) (.type "float")
 | lst {a:Addr}{xs:List V} (e:H a=some (.lst xs)):jK K H (.ref a) (.type "list")
 | frz {a:Addr}{o:Obj}{xs:List V} (e:H a=some (.frz o (.lst xs))):jK K H (.ref a) (.type "list")
 | tup {a:Addr}{xs:List V} (e:H a=some (.tup xs)):jK K H (.ref a) (.type "tuple")
 | dK {a:Addr}{kvs:List (Key×V)} (e:H a=some (.dK kvs)):jK K H (.ref a) (.type "dict")
 | dT {a:Addr}{kvs:List (List Key×V)} (e:H a=some (.dT kvs)):jK K H (.ref a) (.type "dict")
 | ins {a C dx:Addr}{fs:List (Str×V)} (e:H a=some (.ins C dx fs)) (cl:Fw K C) (ha:qAw K (.ref C) "__class__"=some (some (.builtin "object.__class__")))
   (hn:qEw K (.builtin "object.__class__") "__get__"=some (some (.builtin "getset_descriptor.__get__"))) (htk:qFo K (.builtin "object.__class__")=some true)
   (hm:qCf K C (.type "object")=some true):jK K H (.ref a) (.ref C)
end
structure dY (k:Nat) (A:qDd):Prop where
 hd:A.handled=none
 dp:A.depth+3*k+5<qJn
 un:A.units+16*k+200<qLj
theorem dY.mono (r:dY k A)(h:j<=k):dY j A:=⟨r.hd,by have:=r.dp;lia,by have:=r.un;lia⟩
theorem dY.deeper (r:dY (k+1) A)(env:Env):dY k (A.deeper env) :=
 ⟨r.hd,by have:=r.dp;show A.depth+1+3*k+5<_;lia,by have:=r.un;show A.units+3+16*k+200<_;lia⟩
theorem xX {A:qDd}{C:Addr}{us:List qAi}{kw:List (Str×qAi)}:(A.under (.builtin "type.__call__" ⟨.ref C::us,kw⟩)).depth=A.depth+1:=by
 first | rfl | simp[Around.under,Code.weight,Code.isCreation,Code.isGuard,Code.isCaller,Code.frames,Code.isFrame,guardIds]
theorem xY {A:qDd}{C:Addr}{us:List qAi}{kw:List (Str×qAi)}:(A.under (.builtin "type.__call__" ⟨.ref C::us,kw⟩)).units=A.units+1:=by
 first | rfl | simp[Around.under,Code.cUnits,Code.frames,Code.isFrame]
theorem dY.make (r:dY (k+1) A)(C:Addr)(us:List qAi)(kw:List (Str×qAi)):dY k (A.under (.builtin "type.__call__" ⟨.ref C::us,kw⟩)) :=
 ⟨r.hd,by have:=r.dp;rw[xX];lia,by have:=r.un;rw[xY];lia⟩
theorem dY.depth (r:dY k A):A.depth<qJn:=by have:=r.dp;lia
theorem dY.units (r:dY k A):A.units+64<qLj:=by have:=r.un;lia
def fP:TA:=fun _ H Q=>Q [] H
def rA (ta:TE)(tr:TA):TA:=fun σ H Q=>ta σ H fun x H1=>tr σ H1 fun xs H2=>Q (x::xs) H2
section
variable {X:Cx}{e:Expr}{es:List Expr}{te:TE}{t:TA}{pos:Pos}
theorem aB:PA X [] fP:=fun _ _ _ _ H Q I h=>qGg ⟨[],H,I,.nil,h⟩
theorem aA (ha:PE X e te)(hr:PA X es t)(hs:qBo (e::es) X.env=(false,eval e X.env)::qBo es X.env:=by rfl):PA X (e::es) (rA te t):=by
 intro pos pins s σ H Q I h;rw[hs];show qBj _ _ (qNm ((false,eval e X.env)::qGu pos (qBo es X.env))) _ _ s;refine qFr (cE (ha pins s σ H _ I h) fun u s1 ⟨x,H1,I1,r1,q1⟩=>?_);exact cE (hr pos pins s1 σ H1 _ I1 q1) fun us s2 ⟨xs,H2,I2,r2,q2⟩=>⟨x::xs,H2,I2,.cons r1 r2,q2⟩
def Qj (t:TA):TE:=fun σ H Q=>t σ H fun xs H1=>xs.length<=qAf/\∀p,H1 p=none->Q (.ref p) (upd H1 p (.tup xs))
def Qk (t:TA):TE:=fun σ H Q=>t σ H fun xs H1=>xs.length<=qAf/\∀p,H1 p=none->Q (.ref p) (upd H1 p (.lst xs))
theorem bQ {x1}(h:PA X es t):PE X (.Tuple es x1 pos) (Qj t):=by
 intro pins s σ H Q I hq;refine wpAny_Tuple_spliced (cE (h pos pins s σ H _ I hq) fun us s1 ⟨xs,H1,I1,r,z,q⟩=>⟨by rw[<- r.length];exact z,?_⟩);have hf:H1 s1.heap.objs.size=none:=I1.bZ.fresh (qAg _);refine⟨.ref s1.heap.objs.size,upd H1 s1.heap.objs.size (.tup xs),I1.laid (t':=s1.toks) (fun b u e=>qAh _ e) (qAg _) ?_,rfl,q _ hf⟩;exact⟨z,us,r,⟨_,qAt _ rfl,rfl,_,rfl⟩⟩
theorem bL (h:PA X es t):PE X (.List es pos) (Qk t):=by
 intro pins s σ H Q I hq;refine wpAny_List_spliced (cE (h pos pins s σ H _ I hq) fun us s1 ⟨xs,H1,I1,r,z,q⟩=>⟨by rw[<- r.length];exact z,?_⟩);have hf:H1 s1.heap.objs.size=none:=I1.bZ.fresh (qAg _);refine⟨.ref s1.heap.objs.size,upd H1 s1.heap.objs.size (.lst xs),I1.laid (t':=s1.toks) (fun b u e=>qAh _ e) (qAg _) ?_,rfl,q _ hf⟩;exact⟨z,us,0,r,qAt _ rfl⟩
end
abbrev Sp:=List V->Hp->VK->XK->Prop
abbrev Bq:=List Env->Hp->qAl->XK->qAi->qAl->Prop
structure qR (P:qBx) (w:qDe) (K:qAb) (mg:Str->Option qAi) (base:Heap) (A:qDd) (outer:List Env) (s:qAl) (H:Hp):Prop where
 frames:A.frames=some outer
 mod:Mod K mg base
 bs:∀b o,base.get? b=some o->s.heap.get? b=some o/\H b=none
 Fv:base.objs.size<=s.heap.objs.size
 kL:s.heap.FunFrames base outer
 Hj:∀b∈nK outer,H b=none
 bZ:kI P w H s.heap
 bare:qJe s.gens
def CE (outer:List Env)(P:qBx)(w:qDe)(H:Hp)(s:qAl)(Q:VK)(u:qAi)(s':qAl):Prop :=
 ∃v H',s'.os=s.os/\qJe s'.gens/\Un (nK outer) [] H H' s.heap s'.heap/\kI P w H' s'.heap/\RelV v u/\Q v H'
def CR (CX:Bq)(outer:List Env)(P:qBx)(w:qDe)(H:Hp)(s:qAl)(Q:VK)(E:XK)(r:qQb)(s':qAl):Prop :=
 match r with
 | .ok (.ret u)=>CE outer P w H s Q u s'
 | .ok _=>False
 | .error e=>CX outer H s E e s'
structure jL (P:qBx) (w:qDe) (K:qAb) (mg:Str->Option qAi) (base:Heap) (CX:Bq) (k:Nat) (f:Addr) (fd:qCl) (ps:List Str) (sp:Sp):Prop where
 len:∀vs H Q E,sp vs H Q E->vs.length=ps.length
 run:∀(A:qDd) (outer:List Env) (s:qAl) (H:Hp) (args:Args) (us:List qAi) (vs:List V) (Q:VK) (E:XK),dY k A->qR P w K mg base A outer s H->qLz s fd args (ps.zip us)->Vals vs us->sp vs H Q E ->
  qHa (qCa P w) A (.call (.ref f) args) (CR CX outer P w H s Q E) s
theorem qR.make {P:qBx}{w:qDe}{K:qAb}{mg:Str->Option qAi}{base:Heap}{A:qDd}{outer:List Env}{s:qAl}{H:Hp}(e:qR P w K mg base A outer s H)(C:Addr)(us:List qAi)(kw:List (Str×qAi)):
  qR P w K mg base (A.under (.builtin "type.__call__" ⟨.ref C::us,kw⟩)) outer s H:=⟨by first|exact e.frames | (simpa [Around.under,Code.envs,Code.isFrame,pushEnvs] using e.frames),e.mod,e.bs,e.Fv,e.kL,e.Hj,e.bZ,e.bare⟩
section
variable {X:Cx}{pins:List (Addr×Obj)}{σ:St}{H:Hp}{s s':qAl}
theorem Inv.FO (I:Inv X pins σ H s):qR X.prog X.w X.K X.mg X.base X.A X.stack s H :=
 ⟨I.ok.frames,I.ok.mod,I.bs,qDa I.ok.Fv I.sz,I.stack,I.lG,I.bZ,I.bare⟩
theorem Inv.after (I:Inv X pins σ H s)(h:CE X.stack X.prog X.w H s Q u s'):EP X pins σ Q u s':=by
 obtain⟨v,H',os,bare,un,bZ,r,q⟩:=h;obtain⟨hh,g,d,t,os'⟩:=s';obtain rfl:os'=s.os:=os;exact⟨v,H',I.call (h':=hh) (g':=g) (d':=d) (t':=t) (ch:=[]) un bZ bare (fun b z=>absurd z (by simp)),r,q⟩
end
def CI (sp:Sp)(dvs:List V)(E:XK)(t:TA):TE:=fun σ H Q=>t σ H fun vs H1=>sp (vs++dvs) H1 Q E
def Binds (K:qAb)(fd:qCl)(ps:List Str)(ds:List qAi):Prop :=
 ∀(s:qAl) (us:List qAi),K.In s.heap->(us++ds).length=ps.length->qLz s fd ⟨us,[]⟩ (ps.zip (us++ds))
theorem Binds.all {K:qAb}{fd:qCl}{ps:List Str}(h:∀us:List qAi,us.length=ps.length->qNo fd ⟨us,[]⟩=pure (ps.zip us)):Binds K fd ps []:=fun s us _ hl=>by
 rw[qDo] at hl|-;exact .of_eq (h us hl)
def Passes (CX:Bq)(X:Cx)(E:XK):Prop:=∀(pins:List (Addr×Obj)) (σ:St) (H:Hp) (s:qAl) (e:qAi) (s':qAl),Inv X pins σ H s->CX X.stack H s E e s'->X.xe e s'
section
variable {X:Cx}{CX:Bq}{k:Nat}{f C:Addr}{fd:qCl}{ps:List Str}{sp:Sp}{dvs:List V}{ds:List qAi}{E:XK}{x m:Str}{p pos apos:Pos}{e o:Expr}{es:List Expr}{ta:TE}{t:TA}
theorem IV (F:jL X.prog X.w X.K X.mg X.base CX k f fd ps sp)(hr:dY k X.A)(hb:Binds X.K fd ps ds)(hd:Vals dvs ds)(hx:Passes CX X E)
  (I:Inv X pins σ H s) (r:Vals vs us) (h:sp (vs++dvs) H Q E):qBj (qCa X.prog X.w) X.A (call (.ref f) us) (EP X pins σ Q) X.xe s:=by
 have r2:Vals (vs++dvs) (us++ds):=r.append hd;have hl:(us++ds).length=ps.length:=by rw[<- r2.length];exact F.len _ _ _ _ h
 refine qIc (qFg (F.run X.A X.stack s H ⟨us,[]⟩ (us++ds) (vs++dvs) Q E hr I.FO (hb s us I.qY hl) r2 h) fun r s' hq=>?_);cases r with
 | error e=>exact hx pins σ H s e s' I hq
 | ok fl =>
  cases fl with
  | ret u=>exact I.after hq
  | next=>exact False.elim hq
  | brk=>exact False.elim hq
  | cont=>exact False.elim hq
theorem FP (F:jL X.prog X.w X.K X.mg X.base CX k f fd ps sp)(hr:dY k X.A)(hg:Gl X x)(hm:X.mg x=some (.ref f))(hk:qCs X.K (.ref f)=true)(hb:Binds X.K fd ps ds)(hd:Vals dvs ds)(hx:Passes CX X E)
  (ha:PA X (e::es) t) (hdb:(x == ("__debug__":Str))=false:=by decide) (he:qBo (e::es) X.env=(false,eval e X.env)::qBo es X.env:=by rfl) (hpl:(qGu pos (qBo es X.env)).any (·.1)=false:=by rfl) :
  PE X (.Call (.Name x p) (e::es) [] pos) (CI sp dvs E t):=by
 intro pins s σ H Q I h;refine qFe (iR I hg hm ?_ hdb);refine qFp (h₀:=X.base) I.ok.mod.FE hk (cE (ha pos pins s σ H _ I h) fun us s1 ⟨vs,H1,I1,r,q⟩=>⟨I1.qY,?_⟩) he hpl;exact IV F hr hb hd hx I1 r q
structure Mk (K:qAb) (C f:Addr):Prop where
 makes:qJr K C=true
 init:qAw K (.ref C) "__init__"=some (some (.ref f))
 fn:qEu K (.ref f)=true
 kp:qCs K (.ref C)=true
end
section
variable {X:Cx}{CX:Bq}{k:Nat}{f C:Addr}{fd:qCl}{ps ks:List Str}{sp:Sp}{E:XK}{x m:Str}{p pos apos kpos:Pos}{e o:Expr}{es:List Expr}{kws:List qOx}{te ta:TE}{t tk:TA}{nm:Option Str}
variable {g:List qAi->List qAi->List qAi}{gV:List V->List V->List V}
end
structure aO (N P:List Str) (sc:qIx):Prop where
 kind:sc.kind = .function
 co:sc.isCoroutine=false
 gen:sc.isGenerator=false
 nd:N.Nodup
 pre:N.take P.length=P
 par:∀x∈P,sc.names.lookup x=some .local\/sc.names.lookup x=some .cell
 IW:∀y∈sc.names,y.2≠.free
theorem rB {qIu:Str->Option qLp}{x:Str}:∀{binds:List (Str×qAi)}{m:Str->Option qAi},(∀v,(x,v)∉binds)->qOu qIu binds m x=m x
 | [],_,_=>rfl
 | (n,v)::r,m,h=>by
  unfold qOu;rw[rB fun w hw=>h w (qCh _ hw)];split
  ·have:x≠n:=by rintro rfl;exact h v qDk
   simp[this]
  ·rfl
theorem rC {qIu:Str->Option qLp}{x:Str}:∀{binds:List (Str×qAi)}{m:Str->Option qAi},(∀v,(x,v)∉binds)->qOv qIu binds m x=m x
 | [],_,_=>rfl
 | (n,v)::r,m,h=>by
  unfold qOv;rw[rC fun w hw=>h w (qCh _ hw)];split
  ·rfl
  ·have:x≠n:=by rintro rfl;exact h v qDk
   simp[this]
theorem rD {qIu:Str->Option qLp}{x:Str}{v:qAi}:∀{P:List Str}{vs:List qAi}{i:Nat}{m:Str->Option qAi},P.Nodup->P[i]?=some x->vs[i]?=some v->qIu x=some .local ->
  qOu qIu (P.zip vs) m x=some v
 | [],_,_,_,_,h,_,_=>by simp at h
 | _::_,[],_,_,_,_,h,_=>by simp at h
 | p::P,w::vs,0,m,nd,h1,h2,hk=>by
  simp at h1 h2;subst h1;subst h2;show qOu qIu ((p,w)::P.zip vs) m p=_;unfold qOu;rw[rB fun v hv=>(List.nodup_cons.mp nd).1 (qFu hv).1,if_pos hk];simp
 | p::P,w::vs,i+1,m,nd,h1,h2,hk=>by
  show qOu qIu ((p,w)::P.zip vs) m x=_;unfold qOu;exact rD (i:=i) (List.nodup_cons.mp nd).2 (by simpa using h1) (by simpa using h2) hk
theorem rE {qIu:Str->Option qLp}{x:Str}{v:qAi}:∀{P:List Str}{vs:List qAi}{i:Nat}{m:Str->Option qAi},P.Nodup->P[i]?=some x->vs[i]?=some v->qIu x≠some .local ->
  qOv qIu (P.zip vs) m x=some v
 | [],_,_,_,_,h,_,_=>by simp at h
 | _::_,[],_,_,_,_,h,_=>by simp at h
 | p::P,w::vs,0,m,nd,h1,h2,hk=>by
  simp at h1 h2;subst h1;subst h2;show qOv qIu ((p,w)::P.zip vs) m p=_;unfold qOv;rw[rC fun v hv=>(List.nodup_cons.mp nd).1 (qFu hv).1,if_neg hk];simp
 | p::P,w::vs,i+1,m,nd,h1,h2,hk=>by
  show qOv qIu ((p,w)::P.zip vs) m x=_;unfold qOv;exact rE (i:=i) (List.nodup_cons.mp nd).2 (by simpa using h1) (by simpa using h2) hk
def start (N:List Str)(vs:List V):St:=vs.map some++qBc (N.length-vs.length) none
def n4 (CX:Bq)(P:qBx)(w:qDe)(K:qAb)(mg:Str->Option qAi)(base:Heap)(N:List Str)(qual:Str)(scope:qIx)(f:Addr)(cd:qAi)(A:qDd)(outer:List Env)(s:qAl)(H:Hp)(E:XK):Cx where
 prog:=P
 w:=w
 K:=K
 mg:=mg
 base:=base
 A:=A.deeper (qHo qual scope s.heap.objs.size f cd)
 N:=N
 s₀:=s
 H₀:=H
 env:=qHo qual scope s.heap.objs.size f cd
 outer:=outer
 stack:=qHo qual scope s.heap.objs.size f cd::outer
 ex:=[]
 calm:=true
 fn:=fun _=>true
 pn:=[]
 xe:=fun e s'=>qBj (qCa P w) (A.deeper (qHo qual scope s.heap.objs.size f cd)) (leaving (qHo qual scope s.heap.objs.size f cd) e) (fun _ s''=>CX outer H s E e s'') (fun e' s''=>CX outer H s E e' s'') s'
theorem vC {sc:qIx}{n:Nat}{x:Str}(h:sc.names.lookup x=some .cell):∃c,(qId n sc.names []).lookup x=some c:=by
 have q:=qHr sc.names n [] (.inl h);exact Option.isSome_iff_exists.mp q
theorem rF {CX:Bq}{P:qBx}{w:qDe}{K:qAb}{mg:Str->Option qAi}{base:Heap}{N ps:List Str}{qual:Str}{scope:qIx}{f:Addr}{cd:qAi}{A:qDd}{outer:List Env}{s s1:qAl}{H:Hp}{E:XK}{us:List qAi}{vs:List V}
  (S:aO N ps scope) (hd:A.handled=none) (e0:qR P w K mg base A outer s H) (hl:vs.length=ps.length) (r:Vals vs us)
  (x:InCallC s s.heap.objs.size (qOu (qHo qual scope s.heap.objs.size f cd).kindOf (ps.zip us) fun _=>none) (qId (s.heap.objs.size+1) scope.names []) (qOv (qHo qual scope s.heap.objs.size f cd).kindOf (ps.zip us) fun _=>none) s1) :
  Inv (n4 CX P w K mg base N qual scope f cd A outer s H E) [] (start N vs) H s1:=by
 have hpl:ps.length<=N.length:=by have:=congrArg List.length S.pre;rw[qDz] at this;lia
 obtain⟨h1,tk,rfl,hk⟩:=x.done;have noA:∀b:Addr,b∉(n4 CX P w K mg base N qual scope f cd A outer s H E).ex:=fun b z=>absurd (show b∈([]:List Addr) from z) (by simp);refine⟨⟨e0.mod,S.kind,rfl,rfl,qAg _,fun y z c h1 h2=>?_,fun y hy=>?_,fun y c _ h=>?_,fun _=>hd,Around.frames_deeper e0.frames,.inr ⟨rfl,rfl⟩,fun b z=>absurd z (noA b),e0.bs,e0.Fv,fun b _ _=>noA b,fun b z=>absurd z (noA b),e0.kL,e0.Hj⟩,
  rfl,e0.bare,Un.kept hk,⟨_,x.toInCall.ns,fun i y v h1 h2 h3=>?_⟩,fun y c h=>⟨_,x.cell y c h⟩,e0.bZ.fresh (qAg _),fun y c h=>?_,fun p hp=>absurd (show p∈([]:List (Addr×Obj)) from hp) (by simp),e0.bZ.kept hk,?_⟩
 ·exact name_of_addr x.apart (PySem.mem_of_lookup h1) (PySem.mem_of_lookup h2)
 ·have hy:scope.names.lookup y=some .cell\/scope.names.lookup y=some .free:=hy;rcases hy with hy | hy
  ·exact vC hy
  ·exact absurd rfl (S.IW _ (PySem.mem_of_lookup hy))
 ·exact qAk (x.above y c (PySem.mem_of_lookup h))
 ·have hi:i<vs.length:=by
   unfold start at h2;by_cases hi:i<vs.length
   ·exact hi
   ·rw[qBb (by simpa using hi)] at h2;rw[qHu] at h2;split at h2 <;> cases h2
  have ha:vs[i]?=some v:=by
   unfold start at h2;rw[qBd (by simpa using hi),qAo] at h2;cases e:vs[i]? with
   | none=>rw[e] at h2;cases h2
   | some a=>rw[e] at h2;cases h2;rfl
  obtain⟨u,hu,rv⟩:=r.get ha;have hp:ps[i]?=some y:=by
   rw[<- S.pre,qLf (by lia)];exact h1
  have ndP:ps.Nodup:=by rw[<- S.pre];exact S.nd.sublist (List.take_sublist _ _)
  refine⟨u,rv,?_⟩;rcases S.par y (qBa hp) with k | k
  ·exact .inl ⟨k,rD ndP hp hu k⟩
  ·obtain⟨c,e⟩:=vC (n:=s.heap.objs.size+1) k;refine .inr ⟨.inl k,c,e,?_⟩;have q:=x.cell y c e;rw[rE ndP hp hu (by show scope.names.lookup y≠_;rw[k];decide)] at q;exact q
 ·exact e0.bZ.fresh (qAk (x.above y c (PySem.mem_of_lookup h)))
 ·unfold start;show _=N.length;rw[qAp,qAc,qEy];lia
theorem Hn {CX:Bq}{P:qBx}{w:qDe}{K:qAb}{mg:Str->Option qAi}{base:Heap}{k:Nat}{f:Addr}{name qual:Str}{params:Arguments}{body:List Stmt}{scope:qIx}{dV kV doc pm cdv ct oc:qAi}{an od:Option Addr}
  {osl:Array (Option qAi)}{N ps:List Str}{sp:Sp} (lk:K.lookup f=some ⟨oc,od,.func (qDf name qual params body scope dV kV doc pm an cdv ct),osl⟩) (hcd:qDu K cdv qual=true) (S:aO N ps scope)
  (len:∀vs H Q E,sp vs H Q E->vs.length=ps.length)
  (hbody:∀(A:qDd) (outer:List Env) (s:qAl) (H:Hp) (vs:List V) (Q:VK) (E:XK),dY k (A.deeper (qHo qual scope s.heap.objs.size f cdv))->sp vs H Q E ->
   ∃t,qM (n4 CX P w K mg base N qual scope f cdv A outer s H E) body t/\t { nx:=fun _ H'=>Q .non H',rt:=Q } (start N vs) H) :
  jL P w K mg base CX (k+1) f (qDf name qual params body scope dV kV doc pm an cdv ct) ps sp:=by
 refine⟨len,fun A outer s H args us vs Q E hr e0 hb r hsp=>?_⟩;have hl:=len _ _ _ _ hsp;have KX:K.In s.heap:=e0.mod.FE.keeps fun b o e=>(e0.bs b o e).1;have lim:s.heap.NoLimit:=e0.mod.nolimit.keeps fun b o e=>(e0.bs b o e).1;have hkind:∀y∈ps.zip us,scope.names.lookup y.1=some .local\/(scope.names.lookup y.1=some .cell/\((qId (s.heap.objs.size+1) scope.names []).lookup y.1).isSome=true):=fun⟨n,v⟩ hy=>by
  rcases S.par n (qFu hy).1 with q | q
  ·exact .inl q
  ·exact .inr ⟨q,qHr _ _ _ (.inl q)⟩
 refine codeAny_call_function hr.depth (KX _ _ lk) rfl S.co S.gen rfl (qMb KX hcd) (hb _ _ _ _ ?_);refine wpAny_newFunctionEnv_cells S.kind hkind fun env he s1 x=>?_;subst he;refine⟨lim.keeps x.toInCall.keep,codeAny_func ?_⟩;obtain⟨t,ht,hq⟩:=hbody A outer s H vs Q E (hr.deeper _) hsp;have I:Inv (n4 CX P w K mg base N qual scope f cdv A outer s H E) [] (start N vs) H s1:=rF S hr.hd e0 hl r x;refine qFl (ht [] s1 (start N vs) H _ I hq) (fun fl s' hs=>?_) fun e s' hs=>hs;have fin:∀{σ':St}{H':Hp}{v:V}{u:qAi},Inv (n4 CX P w K mg base N qual scope f cdv A outer s H E) [] σ' H' s'->RelV v u->Q v H'->CE outer P w H s Q u s' :=
  fun {σ' H' v u} J rv q=>⟨v,H',J.os,J.bare,J.base,J.bZ,rv,q⟩
 cases fl with
 | ret u =>
  obtain⟨v,σ',H',J,rv,q⟩:=hs;exact fin J rv q
 | next =>
  obtain⟨σ',H',J,q⟩:=hs;exact fin (v:=V.non) (u:=Value.none) J rfl q
 | brk =>
  obtain⟨_,_,_,q⟩:=hs;exact False.elim q
 | cont =>
  obtain⟨_,_,_,q⟩:=hs;exact False.elim q
section
variable {X:Cx}{x:Str}{p pos:Pos}{e:Expr}{es:List Expr}{t:TA}{id T:String}{r:List V->Hp->VK->Prop}
def Rc (r:List V->Hp->VK->Prop)(t:TA):TE:=fun σ H Q=>t σ H fun vs H1=>r vs H1 Q
theorem aN (hc:gC X (.builtin id) r)(hg:Gl X x)(hm:X.mg x=none)(hv:qCq x=some (.builtin id))(ha:PA X (e::es) t)(hn:x≠"__name__":=by decide)(hdb:(x == ("__debug__":Str))=false:=by decide)
  (he:qBo (e::es) X.env=(false,eval e X.env)::qBo es X.env:=by rfl) (hpl:(qGu pos (qBo es X.env)).any (·.1)=false:=by rfl):PE X (.Call (.Name x p) (e::es) [] pos) (Rc r t):=by
 intro pins s σ H Q I h;refine qFe (fD I hg hm hv ?_ hn hdb);exact qIj (cE (ha pos pins s σ H _ I h) fun us s1 ⟨vs,H1,I1,r1,q1⟩=>hc pins s1 σ H1 vs us Q I1 r1 q1) he hpl
theorem dB (hc:gC X (.type T) r)(hg:Gl X x)(hm:X.mg x=none)(hv:qCq x=some (.type T))(ha:PA X (e::es) t)(hn:x≠"__name__":=by decide)(hdb:(x == ("__debug__":Str))=false:=by decide)
  (he:qBo (e::es) X.env=(false,eval e X.env)::qBo es X.env:=by rfl) (hpl:(qGu pos (qBo es X.env)).any (·.1)=false:=by rfl):PE X (.Call (.Name x p) (e::es) [] pos) (Rc r t):=by
 intro pins s σ H Q I h;refine qFe (fD I hg hm hv ?_ hn hdb);exact qBv (cE (ha pos pins s σ H _ I h) fun us s1 ⟨vs,H1,I1,r1,q1⟩=>hc pins s1 σ H1 vs us Q I1 r1 q1) he hpl
end
end L2
namespace HT
open PySem PyProof.Rows
section
open PySem.SeqAt
open PySem.AutoSeq1 (wpAny_loadPart')
open PySem.MeetsSeq PySem.MeetsSeq2 PySem.MeetsSeq3
end
section
variable {prog:qBx}{w:qDe}{A:qDd}{E:qAi->qAl->Prop}{s:qAl}
def eY (n d:Nat):Option Int->Nat
 | none=>d
 | some v=>if v<0 then (v+(n:Int)).toNat else min v.toNat n
theorem pB (n d:Nat):eY n d none=d:=rfl
theorem zV (n d k:Nat):eY n d (some (k:Int))=min k n:=by
 show(if (k:Int)<0 then ((k:Int)+(n:Int)).toNat else min (k:Int).toNat n)=min k n;rw[if_neg (by lia),qBl]
theorem IX (n d:Nat)(hd:d<=n)(o:Option Int):eY n d o<=n:=by
 cases o with
 | none=>exact hd
 | some v =>
  show(if v<0 then (v+(n:Int)).toNat else min v.toNat n)<=n;by_cases hv:v<0
  ·rw[if_pos hv];lia
  ·rw[if_neg hv];exact Nat.min_le_right _ _
theorem zW (v:Int)(n d:Nat):(if v<0 then max (v+(n:Int)) 0 else min v (n:Int))=((eY n d (some v):Nat):Int):=by
 show(if v<0 then max (v+(n:Int)) 0 else min v (n:Int))=(((if v<0 then (v+(n:Int)).toNat else min v.toNat n):Nat):Int);by_cases hv:v<0
 ·simp only[if_pos hv];lia
 ·simp only[if_neg hv];lia
theorem xZ (lo hi:Option Int)(n:Nat):Builtin.Slice.sliceAdjust lo hi 1 (n:Int)=(((eY n 0 lo:Nat):Int),((eY n n hi:Nat):Int)):=by
 have h1:¬((1:Int)<0):=by lia
 unfold Builtin.Slice.sliceAdjust;simp only[h1,if_false];refine Prod.ext ?_ ?_
 ·cases lo with
  | none=>rfl
  | some v=>exact zW v n 0
 ·cases hi with
  | none=>rfl
  | some v=>exact zW v n n
theorem x8 (i j:Nat):Builtin.Slice.slicePlaces (i:Int) (j:Int) 1=j-i:=by
 unfold Builtin.Slice.slicePlaces;have h1:(1:Int)>0:=by lia
 simp only[h1,if_true,Int.ediv_one];split <;> lia
theorem pC (p:qLc v o)(h:Q o s):qBj (qCa prog w) A (Builtin.Slice.slicePartIndex v) Q E s:=by
 cases p with
 | none=>exact slicePart_none h
 | int i t=>exact slicePart_int h
theorem iI {sl:Addr}{vl vu:qAi}{lo hi:Option Int}{n:Nat}{Q:Int×Int×Nat->qAl->Prop}(hs:s.heap.IsSliceOf sl vl vu .none)(pl:qLc vl lo)(pu:qLc vu hi)
  (h:Q (((eY n 0 lo:Nat):Int),1,eY n n hi-eY n 0 lo) s):qBj (qCa prog w) A (Builtin.Slice.sliceApplied (.ref sl) (pure (n:Int))) Q E s:=by
 obtain⟨os,hos,hcs,hds⟩:=id hs;unfold Builtin.Slice.sliceApplied Builtin.Slice.sliceFields;refine qAa (qAa (wpAny_field hos hds (x:=vl) rfl (qAa (wpAny_field hos hds (x:=vu) rfl (qAa (wpAny_field hos hds (x:=.none) rfl (qAe ?_)))))));refine qAa (slicePart_none ?_);show qBj _ _ (if ((1:Int) == 0)=true then _ else _) _ _ s;rw[if_neg (by decide)];refine qAa (pC pl (qAa (pC pu (qAa (qAe ?_)))));show qBj _ _ (match Builtin.Slice.sliceAdjust lo hi 1 (n:Int) with | (lo,hi)=>pure (lo,(1:Int),Builtin.Slice.slicePlaces lo hi 1)) _ _ s
 rw[xZ lo hi n];show qBj _ _ (pure (((eY n 0 lo:Nat):Int),(1:Int),Builtin.Slice.slicePlaces ((eY n 0 lo:Nat):Int) ((eY n n hi:Nat):Int) 1)) _ _ s;rw[x8];exact qAe h
theorem CJ (xs:Array qAi)(i k:Nat):((qAn k).filterMap fun(m:Nat)=>xs[((i:Int)+(m:Int)*1).toNat]?).toArray=((xs.toList.drop i).take k).toArray:=by
 have e:(fun(m:Nat)=>xs[((i:Int)+(m:Int)*1).toNat]?)=fun m=>xs[i+m]?:=by
  funext m
  have:((i:Int)+(m:Int)*1).toNat=i+m:=by lia
  rw[this]
 rw[e];have:=pick_run xs i k;rw[qJh] at this;have e2:((fun x=>xs[x]?)∘fun x=>i+x)=fun m=>xs[i+m]?:=rfl;rw[e2] at this;rw[this]
theorem lJ {t sl:Addr}{items:Array qAi}{vl vu:qAi}{lo hi:Option Int}{Q:qAi->qAl->Prop}(ht:IsTup s.heap t items)(hs:s.heap.IsSliceOf sl vl vu .none)(pl:qLc vl lo)(pu:qLc vu hi)
  (hw:¬(eY items.size 0 lo=0/\eY items.size items.size hi=items.size))
  (h:Q (.ref s.heap.objs.size) { s with heap:=s.heap.push { cls:=.type "tuple",data:=.seq ((items.toList.drop (eY items.size 0 lo)).take (eY items.size items.size hi-eY items.size 0 lo)).toArray } })
  (hsz:items.size<=qAf):qBj (qCa prog w) A (qIp (.ref t) (.ref sl)) Q E s:=by
 have htake:sizeOk (.seq ((items.toList.drop (eY items.size 0 lo)).take (eY items.size items.size hi-eY items.size 0 lo)).toArray):=by
  show((items.toList.drop (eY items.size 0 lo)).take (eY items.size items.size hi-eY items.size 0 lo)).toArray.size<=qAf;rw[qAx,qDz,qHx,qBz];lia
 have hj:eY items.size items.size hi<=items.size:=IX _ _ (qAg _) hi;obtain⟨os,hos,hcs,hds⟩:=id hs;have hTs:s.TypeIs (.ref sl) "slice":=⟨os,hos,hcs⟩;unfold qIp;try with_reducible refine qDl ?_
 first | refine qAa (qAe ?_) | skip
 refine qAa (wpAny_sequenceKey ht.typeIs (by decide) ?_);refine qAa (qEl (name:=Str.ofString "__getitem__") ht.typeIs qEm
  (qEg qEm ht.typeIs entry_tuple_getitem ?_ (args_tuple_getitem _ _)))
 show qBj _ _ (Builtin.Tuple.tupleItemsOf (.ref t) >>= _) _ _ s;refine qAa (tupleItemsOf_ ht ?_);refine qAa (qHw hTs ?_);rw[if_pos (by decide)];refine qAa (iI hs pl pu ?_);have hno:¬((((eY items.size 0 lo:Nat):Int) == 0&&(1:Int) == 1&&(eY items.size items.size hi-eY items.size 0 lo) == items.size)=true):=by
  intro q;rw[qCd,qCd] at q;have q1:((eY items.size 0 lo:Nat):Int)=0:=eq_of_beq q.1.1;have q2:eY items.size items.size hi-eY items.size 0 lo=items.size:=eq_of_beq q.2;exact hw ⟨by lia,by lia⟩
 show qBj _ _ (if (((eY items.size 0 lo:Nat):Int) == 0&&(1:Int) == 1&&(eY items.size items.size hi-eY items.size 0 lo) == items.size)=true then _ else _) _ _ s;rw[if_neg hno,CJ];first
  | exact qAa (m:=Builtin.Tuple.tupleExact _) (qCp (qAe ⟨_,rfl,qAe h⟩) htake)
  | exact qAa (m:=Builtin.Tuple.tupleExact _) (qCp (qAa (qAe (qAe ⟨_,rfl,qAe h⟩))) htake)
  | exact qAa (qAa (m:=Builtin.Tuple.tupleExact _) (qCp (qAe (qAe ⟨_,rfl,qAe h⟩)) htake))
  | exact qAa (qAa (m:=Builtin.Tuple.tupleExact _) (qCp (qAe ⟨_,rfl,qAe h⟩) htake))
end
end HT
namespace L2
open PySem PySem.Spec PyProof.Rows
abbrev TO:=St->Hp->(Option Int->Hp->Prop)->Prop
def PO (X:Cx)(e:Option Expr)(t:TO):Prop :=
 ∀(pins:List (Addr×Obj)) (s:qAl) (σ:St) (H:Hp) (Q:Option Int->Hp->Prop),Inv X pins σ H s->t σ H Q ->
  qBj (qCa X.prog X.w) X.A (evalPart e X.env) (fun u s'=>∃o H',Inv X pins σ H' s'/\qLc u o/\Q o H') X.xe s
def FQ:TO:=fun _ H Q=>Q none H
def Nt (t:TE):TO:=fun σ H Q=>t σ H fun x H1=>∃i,x = .int i/\Q (some i) H1
theorem intsAre_of:∀{us:List qAi},Vals (ns.map V.int) us->qHz us ns:=by
 induction ns with
 | nil=>intro us r;rw[qEn] at r;cases r;exact .nil
 | cons n ns ih =>
  intro us r;rw[qDj] at r;cases r with
  | cons r1 r2 =>
   obtain⟨t,e⟩:=r1;subst e;exact .cons n t (ih r2)
section
variable {X:Cx}{e:Expr}{te:TE}{lo hi:Option Expr}{tl th:TO}{pos p2:Pos}
theorem iX:PO X none FQ:=by
 intro pins s σ H Q I h;rw[evalPart_none];exact qAe ⟨none,H,I,.none,h⟩
theorem iY (h:PE X e te):PO X (some e) (Nt te):=by
 intro pins s σ H Q I hw;rw[evalPart_some];refine cE (h pins s σ H _ I hw) fun u s1 ⟨x,H1,I1,r1,q1⟩=>?_;obtain⟨i,rfl,q⟩:=q1;obtain⟨t,rfl⟩:=r1;exact⟨some i,H1,I1,.int i t,q⟩
def Nu (X:Cx)(r:V->Option Int->Option Int->Hp->VK->Prop):Prop :=
 ∀(pins:List (Addr×Obj)) (s:qAl) (σ:St) (H:Hp) (x:V) (v vl vu:qAi) (lo hi:Option Int) (sl:Addr) (Q:VK),Inv X pins σ H s->RelV x v->s.heap.IsSliceOf sl vl vu .none->qLc vl lo->qLc vu hi->r x lo hi H Q ->
  ∃T id,qMw (.type T) "__getitem__"=pure (some (.builtin id))/\s.TypeIs v T/\qBj (qCa X.prog X.w) X.A (qIp v (.ref sl)) (EP X pins σ Q) X.xe s
def RC (r:V->Option Int->Option Int->Hp->VK->Prop)(te:TE)(tl th:TO):TE:=fun σ H Q=>te σ H fun x H1=>tl σ H1 fun l H2=>th σ H2 fun u H3=>r x l u H3 Q
theorem gO (hr:Nu X r)(he:PE X e te)(hl:PO X lo tl)(hu:PO X hi th):PE X (.Subscript e (.Slice lo hi none p2) pos) (RC r te tl th):=by
 intro pins s σ H Q I h;refine Subscript_ (cE (he pins s σ H _ I h) fun v s1 ⟨x,H1,I1,r1,q1⟩=>?_);refine wpAny_Slice (cE (hl pins s1 σ H1 _ I1 q1) fun vl s2 ⟨l,H2,I2,pl,q2⟩=>cE (hu pins s2 σ H2 _ I2 q2) fun vu s3 ⟨u,H3,I3,pu,q3⟩=>?_);rw[evalPart_none];refine qAe ?_;have I4:Inv X pins σ H3 { s3 with heap:=s3.heap.push { cls:=.type "slice",data:=.fields #[vl,vu,.none] } }:=I3.kept (t':=s3.toks) fun b ob q=>qAh _ q;obtain⟨T,id,hT,ht,hg⟩:=hr pins { s3 with heap:=s3.heap.push { cls:=.type "slice",data:=.fields #[vl,vu,.none] } } σ H3 x v vl vu l u s3.heap.objs.size Q I4 r1 (Heap.IsSliceOf.new ..) pl pu q3;show qBj (qCa X.prog X.w) X.A (subscriptTail e (.Slice lo hi none p2) v (.ref s3.heap.objs.size)) (EP X pins σ Q) X.xe { s3 with heap:=s3.heap.push { cls:=.type "slice",data:=.fields #[vl,vu,.none] } };exact tail_any (ops:=[.ref s3.heap.objs.size,v]) ht hT hg (by with_unfolding_all rfl)
def gE (xs:List V)(lo hi:Option Int):List V:=(xs.drop (HT.eY xs.length 0 lo)).take (HT.eY xs.length xs.length hi-HT.eY xs.length 0 lo)
theorem nN (xs:List V)(lo hi:Option Int):(gE xs lo hi).length<=xs.length:=by
 unfold gE;rw[qDz,qHx];lia
def Ql (K:qAb):V->Option Int->Option Int->Hp->VK->Prop:=fun x lo hi H Q=>∃a xs,x = .ref a/\cX K H a xs /\
 ¬(HT.eY xs.length 0 lo=0/\HT.eY xs.length xs.length hi=xs.length)/\∀p,H p=none->Q (.ref p) (upd H p (.tup (gE xs lo hi)))
theorem IY:Nu X (Ql X.K):=by
 intro pins s σ H x v vl vu lo hi sl Q I rx hs pl pu h;obtain⟨a,xs,rfl,hx,hw,q⟩:=h;cases rx;obtain⟨its,r,ht,hz⟩:=I.tuple hx;have hlen:its.toArray.size=xs.length:=by rw[qAx];exact r.length.symm
 refine⟨"tuple",_,PyProof.Rows.slot_tuple_getitem.lookup,ht.typeIs,?_⟩;refine HT.lJ ht hs pl pu (by rw[hlen];exact hw) ?_ (by rw[hlen];exact hz);rw[hlen];refine⟨.ref s.heap.objs.size,_,I.laid (t':=s.toks) (o:=.tup (gE xs lo hi)) (fun b ob q=>qAh _ q) (qAg _) ?_,rfl,q _ (I.bZ.fresh (qAg _))⟩;exact⟨qDa (nN xs lo hi) hz,_,(r.drop (HT.eY xs.length 0 lo)).take (HT.eY xs.length xs.length hi-HT.eY xs.length 0 lo),IsTup.new _ _⟩
end
def CK (n:Nat)(i:Int):Option Nat:=if 0<=i then (if i<n then some i.toNat else none) else if -(n:Int)<=i then some (i+n).toNat else none
def gQ {α:Type}(xs:List α)(i:Int):Option α:=(CK xs.length i).bind fun j=>xs[j]?
theorem zX (h:CK n i=some j):seqIndex? i n=some j/\j<n/\-(n:Int)<=i/\i<n:=by
 unfold CK at h;by_cases h0:0<=i
 ·rw[if_pos h0] at h;by_cases h1:i<n
  ·rw[if_pos h1] at h;have e:i.toNat=j:=Option.some.inj h;exact⟨by rw[seqIndex_of h0 h1,e],by lia,by lia,h1⟩
  ·rw[if_neg h1] at h;cases h
 ·rw[if_neg h0] at h;by_cases h1:-(n:Int)<=i
  ·rw[if_pos h1] at h;have e:(i+n).toNat=j:=Option.some.inj h;exact⟨by rw[seqIndex_neg (by lia) h1,e],by lia,h1,by lia⟩
  ·rw[if_neg h1] at h;cases h
theorem zY (h:gQ xs i=some v):∃j,seqIndex? i xs.length=some j/\xs[j]?=some v/\j<xs.length/\-(xs.length:Int)<=i/\i<xs.length:=by
 unfold gQ at h;cases e:CK xs.length i with
 | none=>rw[e] at h;cases h
 | some j =>
  rw[e] at h;obtain⟨h1,h2,h3,h4⟩:=zX e;exact⟨j,h1,h,h2,h3,h4⟩
theorem fK {α:Type}{xs:List α}{j:Nat}{v:α}(h:xs[j]?=some v):gQ xs (j:Int)=some v:=by
 have hj:j<xs.length:=(List.getElem?_eq_some_iff.mp h).1;have e:CK xs.length (j:Int)=some j:=by
  unfold CK;rw[if_pos (by lia),if_pos (by lia)];simp
 unfold gQ;rw[e];exact h
def FT (b:Expr):Prop:=∀o i,qLw b false o i=operate [o,i] (qIp o i)
def ML (X:Cx)(r:R2):Prop :=
 ∀(value slice:Expr) (pins:List (Addr×Obj)) (s:qAl) (σ:St) (H:Hp) (x y:V) (v u:qAi) (Q:VK),Inv X pins σ H s->RelV x v->RelV y u->r x y H Q ->
  qLw slice false v u=operate [v,u] (qIp v u)->qBj (qCa X.prog X.w) X.A (subscriptTail value slice v u) (EP X pins σ Q) X.xe s
def MM (X:Cx)(id:String)(r:V->List V->Hp->VK->Prop):Prop :=
 ∀(pins:List (Addr×Obj)) (s:qAl) (σ:St) (H:Hp) (x:V) (xs:List V) (v:qAi) (us:List qAi) (Q:VK),Inv X pins σ H s->RelV x v->Vals xs us->r x xs H Q ->
  qBj (qCa X.prog X.w) X.A (call (.builtin id) (v::us)) (EP X pins σ Q) X.xe s
section
variable {X:Cx}{a b:Expr}{ta tb:TE}{pos:Pos}
theorem aU (hr:ML X r)(ha:PE X a ta)(hb:PE X b tb)(hs:FT b):PE X (.Subscript a b pos) (PL r ta tb):=by
 intro pins s σ H Q I h;exact Subscript_ (IQ ha hb I h fun v u s2 x y H2 I2 rx ry q=>hr a b pins s2 σ H2 x y v u Q I2 rx ry q (hs _ _))
def Nv (K:qAb):R2:=fun x y H Q=>∃p xs i v,x = .ref p/\y = .int i/\aR K H p xs/\gQ xs i=some v/\Q v H
def Nw (K:qAb):R2:=fun x y H Q=>∃p xs i v,x = .ref p/\y = .int i/\cX K H p xs/\gQ xs i=some v/\Q v H
theorem bC:ML X (Nv X.K):=by
 intro value slice pins s σ H x y v u Q I rx ry h hs;obtain⟨p,xs,i,z,rfl,rfl,hq,he,q⟩:=h;cases rx;obtain⟨t,rfl⟩:=ry;obtain⟨its,r,pl,hz⟩:=I.list hq;obtain⟨j,h1,h2,h3,h4,h5⟩:=zY he;obtain⟨w,ew,rw'⟩:=r.get h2;have hl:=r.length;have hn:=tK;have fin:EP X pins σ Q w s:=⟨z,H,I,rw',q⟩;by_cases h0:0<=i
 ·have hj:i.toNat=j:=by
   rw[seqIndex_of h0 h5] at h1;exact Option.some.inj h1
  exact item_listR pl.isList h0 (by lia) (by rw[hj];simpa using ew) fin hs
 ·have hj:(i+(its.toArray.size:Int)).toNat=j:=by
   rw[seqIndex_neg (by lia) h4] at h1;rw[qAx,<- hl];exact Option.some.inj h1
  exact subscriptTail_builtinR (x:=w) pl.isList.typeIs slot_list_getitem.lookup
   (wpAny_getItem_list_neg (Q:=fun r s'=>r=w/\EP X pins σ Q r s') pl.isList (by lia) (by rw[qAx] <;> lia) (by lia) (by rw[hj];simpa using ew) ⟨rfl,fin⟩) hs
theorem bR:ML X (Nw X.K):=by
 intro value slice pins s σ H x y v u Q I rx ry h hs;obtain⟨p,xs,i,z,rfl,rfl,hq,he,q⟩:=h;cases rx;obtain⟨t,rfl⟩:=ry;obtain⟨its,r,pl,hz⟩:=I.tuple hq;obtain⟨j,h1,h2,h3,h4,h5⟩:=zY he;obtain⟨w,ew,rw'⟩:=r.get h2;have hl:=r.length;have hn:=tK;have fin:EP X pins σ Q w s:=⟨z,H,I,rw',q⟩;exact subscriptTail_builtinR (x:=w) pl.typeIs slot_tuple_getitem.lookup
  (getItem_tuple (j:=j) (Q:=fun r s'=>r=w/\EP X pins σ Q r s') pl (by lia) (by lia) (by rw[qAx,<- hl];exact h1) (by simpa using ew) ⟨rfl,fin⟩) hs
theorem x9 (its:List qAi)(n j:Nat)(u:qAi):Obj.mapSeq (·.setIfInBounds j u) { cls:=.type "list",data:=.seq its.toArray n }={ cls:=.type "list",data:=.seq (its.set j u).toArray n }:=by
 simp[Obj.mapSeq]
theorem Inv.lst (I:Inv X pins σ H s)(h:H p=some (.lst xs)):
  ∃(its:List qAi) (n:Nat),Vals xs its/\s.heap.get? p=some { cls:=.type "list",data:=.seq its.toArray n }/\xs.length<=qAf:=by
 obtain⟨z,its,n,r,e⟩:=I.bZ p _ h;exact⟨its,n,r,e,z⟩
theorem Inv.IZ {pins:List (Addr×Obj)}{σ:St}{H:Hp}{s:qAl}{p:Addr}{xs ys:List V}{its its':List qAi}{n n':Nat}{f:Obj->Obj}(I:Inv X pins σ H s)(h:H p=some (.lst xs))
  (ho:s.heap.get? p=some { cls:=.type "list",data:=.seq its.toArray n }) (hf:f { cls:=.type "list",data:=.seq its.toArray n }={ cls:=.type "list",data:=.seq its'.toArray n' }) (r:Vals ys its') (hz:ys.length<=qAf) (t:Nat) :
  Inv X pins σ (upd H p (.lst ys)) { s with heap:=s.heap.update p f,toks:=t }:=by
 have e:(s.heap.update p f).get? p=some { cls:=.type "list",data:=.seq its'.toArray n' }:=by
  rw[qDg f ho (by rw[hf] <;> rfl),hf]
 refine I.write (x:=p) (e:=p) (by rw[h];trivial) (.inl rfl) (fun b u hb q=>(qEe _ _ (Ne.symm hb)).trans q) ⟨_,e⟩ ?_;exact⟨hz,its',n',r,e⟩
def Nx:V->V->V->Hp->(Hp->Prop)->Prop:=fun o i v H Q=>∃p xs k j,o = .ref p/\i = .int k/\H p=some (.lst xs)/\CK xs.length k=some j/\Q (upd H p (.lst (xs.set j v)))
theorem set_list:IM X Nx:=by
 intro pins s σ H o i v ov iv u Q I ro ri rv h;obtain⟨p,xs,k,j,rfl,rfl,hp,hj,q⟩:=h;cases ro;obtain⟨t,rfl⟩:=ri;obtain⟨its,n,r,ho,hz⟩:=I.lst hp;obtain⟨h1,h2,h3,h4⟩:=zX hj;have hl:=r.length;have hn:=tK;have I':Inv X pins σ (upd H p (.lst (xs.set j v))) { s with heap:=s.heap.update p (Obj.mapSeq (·.setIfInBounds j u)) } :=
  I.IZ hp ho (x9 its n j u) (r.set rv j) (by rw[qIh];exact hz) s.toks
 by_cases h0:0<=k
 ·have hk:k.toNat=j:=by
   rw[seqIndex_of h0 h4] at h1;exact Option.some.inj h1
  exact PySem.W.ki_setAt ho h0 (by lia) (by rw[qAx,<- hl];exact h4) (by rw[hk];exact⟨_,I',q⟩)
 ·have hk:(k+(its.toArray.size:Int)).toNat=j:=by
   rw[seqIndex_neg (by lia) h3] at h1;rw[qAx,<- hl];exact Option.some.inj h1
  exact PySem.W.ki_setBack ho (by lia) (by rw[qAx,<- hl];exact h3) (by lia) (by rw[hk];exact⟨_,I',q⟩)
theorem tL (lo hi:Option Int)(n:Nat):(qHn lo hi none n).1=((HT.eY n 0 lo:Nat):Int)/\(qHn lo hi none n).2.1=((HT.eY n n hi:Nat):Int)/\(qHn lo hi none n).2.2=1:=by
 refine⟨?_,?_,rfl⟩
 ·cases lo with
  | none=>simp[qHn,HT.eY]
  | some i =>
   simp only[qHn,HT.eY,qNe,show(1:Int)>0 by decide,if_true];by_cases h:i<0
   ·simp only[h,if_true] <;> lia
   ·simp only[h,if_false] <;> lia
 ·cases hi with
  | none=>simp[qHn,HT.eY]
  | some i =>
   simp only[qHn,HT.eY,qNe,show(1:Int)>0 by decide,if_true];by_cases h:i<0
   ·simp only[h,if_true] <;> lia
   ·simp only[h,if_false] <;> lia
theorem qS (its:List qAi)(lo hi:Option Int):slicePick its.toArray lo hi none=((its.drop (HT.eY its.length 0 lo)).take (HT.eY its.length its.length hi-HT.eY its.length 0 lo)).toArray:=by
 obtain⟨h1,h2,h3⟩:=tL lo hi its.toArray.size;unfold slicePick;rw[h1,h2,h3];simp only[sliceRange_one,pick_run,qAx] <;> rfl
def Qm (K:qAb):V->Option Int->Option Int->Hp->VK->Prop:=fun x lo hi H Q=>∃a xs,x = .ref a/\aR K H a xs/\∀p,H p=none->Q (.ref p) (upd H p (.lst (gE xs lo hi)))
theorem lK:Nu X (Qm X.K):=by
 intro pins s σ H x v vl vu lo hi sl Q I rx hs pl pu h;obtain⟨a,xs,rfl,hx,q⟩:=h;cases rx;obtain⟨its,r,ht,hz⟩:=I.list hx;have hlen:=r.length;refine⟨"list",_,slot_list_getitem.lookup,ht.isList.typeIs,?_⟩;refine wpAny_getItem_list_slice ht.isList hs pl pu .none (by simp) ?_ (by rw[qAx] <;> lia);rw[qS,<- hlen];refine⟨.ref s.heap.objs.size,_,I.laid (t':=s.toks) (o:=.lst (gE xs lo hi)) (fun b ob q=>qAh _ q) (qAg _) ?_,rfl,q _ (I.bZ.fresh (qAg _))⟩;exact⟨qDa (nN xs lo hi) hz,_,0,(r.drop (HT.eY xs.length 0 lo)).take (HT.eY xs.length xs.length hi-HT.eY xs.length 0 lo),qAt _ rfl⟩
def nO:V->Bool
 | .non=>true
 | .bl _=>true
 | .int _=>true
 | .str _=>true
 | _=>false
def FU:V->V->Bool
 | .non,.non=>true
 | .bl a,.bl b=>a == b
 | .bl a,.int b=>(if a then 1 else 0) == b
 | .int a,.bl b=>a == (if b then 1 else 0)
 | .int a,.int b=>a == b
 | .str a,.str b=>a == b
 | _,_=>false
theorem Ja (ry:RelV y u)(rx:RelV x v)(fy:nO y=true)(fx:nO x=true):SeqAt.EqAt A s u v (FU y x):=by
 cases y with
 | non =>
  cases ry
  cases x with
  | non=>cases rx;exact SeqAt.EqAt.same _
  | bl b=>cases rx;exact SeqAt.EqAt.none_bool b
  | int b=>obtain⟨t,rfl⟩:=rx;exact SeqAt.EqAt.none_int b t
  | str b=>obtain⟨t,rfl⟩:=rx;exact SeqAt.EqAt.none_str b t
  | _=>exact absurd (show false=true from fx) qAj
 | bl a =>
  cases ry
  cases x with
  | non=>cases rx;exact SeqAt.EqAt.bool_none a
  | bl b=>cases rx;exact SeqAt.EqAt.bool_bool a b
  | int b=>obtain⟨t,rfl⟩:=rx;exact SeqAt.EqAt.bool_int a b t
  | str b=>obtain⟨t,rfl⟩:=rx;exact SeqAt.EqAt.bool_str a b t
  | _=>exact absurd (show false=true from fx) qAj
 | int a =>
  obtain⟨t',rfl⟩:=ry;cases x with
  | non=>cases rx;exact SeqAt.EqAt.int_none a t'
  | bl b=>cases rx;exact SeqAt.EqAt.int_bool a t' b
  | int b=>obtain⟨t,rfl⟩:=rx;exact SeqAt.EqAt.int_int a t' b t
  | str b=>obtain⟨t,rfl⟩:=rx;exact SeqAt.EqAt.int_str a t' b t
  | _=>exact absurd (show false=true from fx) qAj
 | str a =>
  obtain⟨t',rfl⟩:=ry;cases x with
  | non=>cases rx;exact SeqAt.EqAt.str_none a t'
  | bl b=>cases rx;exact SeqAt.EqAt.str_bool a t' b
  | int b=>obtain⟨t,rfl⟩:=rx;exact SeqAt.EqAt.str_int a t' b t
  | str b=>obtain⟨t,rfl⟩:=rx;exact SeqAt.EqAt.str_str a t' b t
  | _=>exact absurd (show false=true from fx) qAj
 | _=>exact absurd (show false=true from fy) qAj
def yA (x:V)(u:qAi):Bool:=match u with
 | .none=>FU .non x
 | .bool b=>FU (.bl b) x
 | .int i _=>FU (.int i) x
 | .str z _=>FU (.str z) x
 | _=>false
theorem CL (r:RelV y u)(f:nO y=true):yA x u=FU y x:=by
 cases y with
 | non=>cases r;rfl
 | bl b=>cases r;rfl
 | int i=>obtain⟨t,rfl⟩:=r;rfl
 | str z=>obtain⟨t,rfl⟩:=r;rfl
 | _=>exact absurd (show false=true from f) qAj
theorem lL:∀{xs:List V}{us:List qAi},Vals xs us->xs.all nO=true->us.any (yA x)=xs.any fun y=>FU y x
 | _,_,.nil,_=>rfl
 | y::xs,u::us,.cons r t,f=>by
  rw[qPa,qCd] at f;rw[qHv,qHv,CL r f.1,lL t f.2]
theorem jM (rx:RelV x v)(fx:nO x=true):∀{xs:List V}{us:List qAi},Vals xs us->xs.all nO=true->∀u∈us,SeqAt.EqAt A s u v (yA x u)
 | _,_,.nil,_=>fun u hu=>by cases hu
 | y::xs,u::us,.cons r t,f=>fun u' hu=>by
  rw[qPa,qCd] at f;rcases List.mem_cons.mp hu with rfl | hu
  ·rw[CL r f.1];exact Ja r rx f.1 fx
  ·exact jM rx fx t f.2 u' hu
def Jb (x:V)(xs:List V):Bool:=xs.any fun y=>FU y x
def Qn (K:qAb)(neg:Bool):R2:=fun x y H Q=>∃p xs,y = .ref p/\(aR K H p xs\/cX K H p xs)/\nO x=true/\xs.all nO=true/\Q (.bl (if neg then !Jb x xs else Jb x xs)) H
theorem Br:iH X (qDs .In) (Qn X.K false):=by
 intro pins s σ H x y v u Q I rx ry h;obtain⟨p,xs,rfl,hq,fx,fs,q⟩:=h;cases ry;rcases hq with hq | hq
 ·obtain⟨its,r,pl,hz⟩:=I.list hq;refine SeqAt.in_listAt (yA x) pl.isList (fun w hw=>jM rx fx r fs w (by simpa using hw)) ⟨.bl _,H,I,rfl,?_⟩;rw[show its.toArray.any (yA x)=its.any (yA x) by simp,lL r fs];exact q
 ·obtain⟨its,r,pl,hz⟩:=I.tuple hq;refine SeqAt.in_tupleAt (yA x) pl (fun w hw=>jM rx fx r fs w (by simpa using hw)) ⟨.bl _,H,I,rfl,?_⟩;rw[show its.toArray.any (yA x)=its.any (yA x) by simp,lL r fs];exact q
theorem tM:iH X (qDs .NotIn) (Qn X.K true):=by
 intro pins s σ H x y v u Q I rx ry h;obtain⟨p,xs,rfl,hq,fx,fs,q⟩:=h;cases ry;rcases hq with hq | hq
 ·obtain⟨its,r,pl,hz⟩:=I.list hq;refine SeqAt.notIn_listAt (yA x) pl.isList (fun w hw=>jM rx fx r fs w (by simpa using hw)) ⟨.bl _,H,I,rfl,?_⟩;rw[show its.toArray.any (yA x)=its.any (yA x) by simp,lL r fs];exact q
 ·obtain⟨its,r,pl,hz⟩:=I.tuple hq;refine SeqAt.notIn_tupleAt (yA x) pl (fun w hw=>jM rx fx r fs w (by simpa using hw)) ⟨.bl _,H,I,rfl,?_⟩;rw[show its.toArray.any (yA x)=its.any (yA x) by simp,lL r fs];exact q
theorem aT:gC X (.builtin "len") (fun xs H Q=>∃p ys,xs=[.ref p]/\(aR X.K H p ys\/cX X.K H p ys)/\Q (.int ys.length) H):=by
 intro pins s σ H xs us Q I r h;obtain⟨p,ys,rfl,hq,q⟩:=h;obtain⟨u,rfl,rx⟩:=vals1 r;cases rx;have hn:=tK;rcases hq with hq | hq
 ·obtain⟨its,r',pl,hz⟩:=I.list hq;have hlen:=r'.length;exact Calls.call_len_list pl.isList (by simp only[qAx] <;> lia) ⟨.int ys.length,H,I.tok _,⟨s.toks+1,by rw[qAx,hlen]⟩,q⟩
 ·obtain⟨its,r',pl,hz⟩:=I.tuple hq;have hlen:=r'.length;exact len_tuple pl (by simp only[qAx] <;> lia) ⟨.int ys.length,H,I.tok _,⟨s.toks+1,by rw[qAx,hlen]⟩,q⟩
theorem gF:gC X (.type "list") (fun xs H Q=>∃p ys,xs=[.ref p]/\(aR X.K H p ys\/cX X.K H p ys)/\∀l,H l=none->Q (.ref l) (upd H l (.lst ys))):=by
 intro pins s σ H xs us Q I r h;obtain⟨p,ys,rfl,hq,q⟩:=h;obtain⟨u,rfl,rx⟩:=vals1 r;cases rx;have fin:∀(its:List qAi),Vals ys its->ys.length<=qAf->∀(h':Heap) (c':Nat),(∀b o',s.heap.get? b=some o'->h'.get? b=some o') ->
   h'.get? s.heap.objs.size=some { cls:=.type "list",dict:=none,data:=.seq its.toArray c',slots:=#[] }->EP X pins σ Q (.ref s.heap.objs.size) { s with heap:=h' }:=fun its r' hz h' c' kp e =>
  ⟨.ref s.heap.objs.size,_,I.laid (t':=s.toks) kp (qAg _) (show cO X.prog X.w _ h' _ (.lst ys) from⟨hz,its,c',r',e⟩),rfl,q _ (I.bZ.fresh (qAg _))⟩
 rcases hq with hq | hq
 ·obtain⟨its,r',pl,hz⟩:=I.list hq;have hlen:=r'.length;obtain⟨o,ho,hc,n,hd⟩:=pl.isList;exact call_list_seq p (.inl rfl) ho hc hd (fun h' c' kp e=>fin its r' hz h' c' kp e) (by simp only[qAx] <;> lia)
 ·obtain⟨its,r',pl,hz⟩:=I.tuple hq;have hlen:=r'.length;obtain⟨o,ho,hc,n,hd⟩:=pl;exact call_list_seq p (.inr rfl) ho hc hd (fun h' c' kp e=>fin its r' hz h' c' kp e) (by simp only[qAx] <;> lia)
def Rf (K:qAb)(T:String)(x:V)(H:Hp):Prop:=match x with
 | .str _=>T="str"
 | .int _=>T="int"
 | .ref p=>(T="list"/\∃xs,aR K H p xs)\/(T="tuple"/\∃o,K.lookup p=some o/\o.cls = .type "tuple"/\o.dict=none) \/
   (T="dict"/\((∃kvs,H p=some (.dK kvs))\/∃kvs,H p=some (.dT kvs)))\/(T="set"/\∃S n,H p=some (.set S n))
 | _=>False
theorem Jc (I:Inv X pins σ H s)(r:RelV x v)(ty:Rf X.K T x H):
  s.TypeIs v T/\∀a,v = .ref a->∃ob,s.heap.get? a=some ob/\ob.dict=none:=by
 cases x with
 | str z =>
  obtain⟨t,rfl⟩:=r;cases (show T="str" from ty);exact⟨typeIs_str s z t,fun _ e=>nomatch e⟩
 | int i =>
  obtain⟨t,rfl⟩:=r;cases (show T="int" from ty);exact⟨typeIs_int s i t,fun _ e=>nomatch e⟩
 | ref p =>
  cases r
  rcases ty with ⟨rfl,xs,hq⟩ | ⟨rfl,o,hk,hc,hd⟩ | ⟨rfl,hk⟩ | ⟨rfl,S,n,hk⟩
  ·obtain⟨its,_,pl,_⟩:=I.list hq;refine⟨pl.isList.typeIs,fun a e=>?_⟩;cases e;obtain⟨o,n,e,c,hd,_⟩:=pl;exact⟨o,e,hd⟩
  ·refine⟨⟨o,I.qY p o hk,hc⟩,fun a e=>?_⟩;cases e;exact⟨o,I.qY _ o hk,hd⟩
  ·have z:∃o,s.heap.get? p=some o/\o.ExactDict:=by
    rcases hk with ⟨kvs,hk⟩ | ⟨kvs,hk⟩
    ·obtain⟨_,_,_,_,o,_,_,e,ex,_⟩:=I.bZ p _ hk;exact⟨o,e,ex⟩
    ·obtain⟨_,_,_,_,o,_,_,e,ex,_⟩:=I.bZ p _ hk;exact⟨o,e,ex⟩
   obtain⟨o,e,ex⟩:=z;refine⟨⟨o,e,ex.1⟩,fun a e2=>?_⟩;cases e2;exact⟨o,e,ex.2.1⟩
  ·obtain⟨o,_,_,_,e,ex,_⟩:=I.bZ p _ hk;refine⟨⟨o,e,ex.1⟩,fun a e2=>?_⟩;cases e2;exact⟨o,e,ex.2.1⟩
 | _=>exact False.elim ty
def Rg (K:qAb)(T:String)(r:V->List V->Hp->VK->Prop)(to:TE)(t:TA):TE:=fun σ H Q=>to σ H fun x H1=>Rf K T x H1/\t σ H1 fun xs H2=>r x xs H2 Q
variable {o e:Expr}{es:List Expr}{to:TE}{t:TA}{name:Str}{apos cpos:Pos}{T id:String}{r:V->List V->Hp->VK->Prop}
theorem vD (pa:PlainAttrs T)(slot:Slot T name id)(hty:qOe (.builtin id)=pure (.type "method_descriptor"))(hm:MM X id r)(ho:PE X o to)(ha:PA X (e::es) t)
  (hbase:qHi o name X.env (eval o X.env)=eval o X.env:=by rfl)
  (hfew:((qGu cpos (qBo (e::es) X.env)).all (fun x=>!x.1)&&(backToKw cpos (keywordEach [] X.env)).all (fun x=>x.1.isSome)
   && decide ((e::es).length+([]:List qOx).length+(if ([]:List qOx).isEmpty then 0 else 1)<30))=true:=by rfl)
  (hline:(apos.endLine == cpos.line)=true:=by rfl) (hs:qBo (e::es) X.env=(false,eval e X.env)::qBo es X.env:=by rfl) (hplain:(qGu cpos (qBo es X.env)).any (·.1)=false:=by rfl) :
  PE X (.Call (.Attribute o name apos) (e::es) [] cpos) (Rg X.K T r to t):=by
 intro pins s σ H Q I h;refine wpAny_Call_method_late hbase hfew hline rfl (cE (ho pins s σ H _ I h) fun v s1 ⟨x,H1,I1,r1,ty,q1⟩=>?_);obtain⟨h1,h2⟩:=Jc I1 r1 ty;refine⟨T,id,pa,slot,hty,h1,h2,?_⟩;have hA:=ha cpos pins s1 σ H1 _ I1 q1;rw[hs] at hA|-;refine qLm (by show(false||(qGu cpos (qBo es X.env)).any (·.1))=false;rw[hplain] <;> rfl) (qMf ?_)
 exact cE hA fun us s2 ⟨vs,H2,I2,r2,q2⟩=>hm pins s2 σ H2 x vs v us Q I2 r1 r2 q2
end
def Rh (X:Cx)(id:String)(r:V->List V->Hp->VK->Prop):Prop :=
 ∀(pins:List (Addr×Obj)) (s:qAl) (σ:St) (H:Hp) (x:V) (xs:List V) (v:qAi) (us:List qAi) (Q:VK),Inv X pins σ H s->RelV x v->Vals xs us->r x xs H Q ->
  qBj (qCa X.prog X.w) X.A (call (.builtin id) (v::us)) (EP X pins σ Q) X.xe s
theorem Vals.one:∀{x:V}{us:List qAi},Vals [x] us->∃u,us=[u]/\RelV x u
 | _,_,.cons r .nil=>⟨_,rfl,r⟩
theorem Vals.rep (h:Vals xs us):∀k:Nat,Vals (qBc k xs).flatten (qBc k us).flatten
 | 0=>.nil
 | k+1=>by
  rw[qEf,qEf,qFc,qFc];exact Vals.append h (Vals.rep h k)
theorem foldl_rep (its:List qAi):∀(k:Nat) (acc:List qAi),
  qNs (fun x1 x2=>x1++x2) acc.toArray (qBc k its.toArray)=(acc++(qBc k its).flatten).toArray
 | 0,acc=>by simp
 | k+1,acc=>by
  have e:acc.toArray++its.toArray=(acc++its).toArray:=by simp
  have e2:(acc++its)++(qBc k its).flatten=acc++(qBc (k+1) its).flatten:=by
   rw[qEf,qFc,qHq]
  rw[<- e2,<- foldl_rep its k (acc++its),<- e,qEf,List.foldl_cons]
section
variable {X:Cx}{pins:List (Addr×Obj)}{σ:St}{H:Hp}{s:qAl}{l b:Addr}{xs ys zs:List V}
theorem Inv.Ny {its its':List qAi}{n:Nat}{f:Array qAi->Array qAi}{t':Nat}(I:Inv X pins σ H s)(hH:H l=some (.lst xs))
  (e:s.heap.get? l=some { cls:=.type "list",data:=.seq its.toArray n }) (hf:f its.toArray=its'.toArray) (hv:Vals ys its') (hz:ys.length<=qAf) :
  Inv X pins σ (upd H l (.lst ys)) { s with heap:=s.heap.update l (Obj.mapSeq f),toks:=t' }:=by
 have q:=PySem.IsL.update e f;rw[hf] at q;refine I.write (x:=l) (e:=l) (by rw[hH];exact trivial) (.inl rfl) (fun b' u hb hu=>(qEe s.heap (Obj.mapSeq f) (Ne.symm hb)).trans hu) ⟨_,q⟩ ?_;exact⟨hz,its',_,hv,q⟩
theorem Inv.Nz (I:Inv X pins σ H s)(hv:Vals ys its)(hz:ys.length<=qAf):
  Inv X pins σ (upd H s.heap.objs.size (.lst ys)) { s with heap:=s.heap.push { cls:=.type "list",data:=.seq its.toArray },toks:=t' } :=
 I.laid (fun _ _ q=>qAh _ q) (qAg _) ⟨hz,its,0,hv,qAt _ rfl⟩
theorem Inv.fresh (I:Inv X pins σ H s):H s.heap.objs.size=none:=I.bZ.fresh (qAg _)
theorem Inv.FV (I:Inv X pins σ H s)(hH:H l=some (.lst xs)):xs.length<=qAf/\∃(its:List qAi) (n:Nat),Vals xs its/\xs.length=its.length/\s.heap.get? l=some { cls:=.type "list",data:=.seq its.toArray n }:=by
 obtain⟨z,its,n,r,e⟩:=I.bZ l _ hH;exact⟨z,its,n,r,r.length,e⟩
theorem vE (h:n<=qAf):Builtin.List.listTooLong n=false:=by
 unfold Builtin.List.listTooLong;exact decide_eq_false (by lia)
end
section
variable {X:Cx}
def zZ:V->List V->Hp->VK->Prop:=fun x vs H Q=>∃l xs y,x = .ref l/\vs=[y]/\H l=some (.lst xs)/\xs.length<qAf/\Q .non (upd H l (.lst (xs++[y])))
theorem mW:Rh X "list.append" zZ:=by
 intro pins s σ H x vs v us Q I rx rv h;obtain⟨l,xs,y,rfl,rfl,hH,hz,q⟩:=h;cases rx;obtain⟨u,rfl,ru⟩:=rv.one;obtain⟨z,its,n,r,hl,e⟩:=I.FV hH;refine qJj F.slot_list_append ⟨_,e,rfl⟩ F.entry_list_append (F.args_list_append_2 _ _) (PySem.list_append l its.toArray n u (by rw[qAx];lia)) ⟨e,?_⟩;refine⟨.non,_,I.Ny (its':=its++[u]) hH e (by simp) (r.append (.cons ru .nil)) ?_,rfl,q⟩;rw[qAp,qBk];lia
def Qo:R2:=fun x y H Q=>∃l k xs,x = .ref l/\y = .int k/\H l=some (.lst xs)/\-(2^63)<=k/\k<2^63/\xs.length*k.toNat<=qAf /\
 ∀p,H p=none->Q (.ref p) (upd H p (.lst (qBc k.toNat xs).flatten))
theorem len_rep (xs:List α)(k:Nat):(qBc k xs).flatten.length=k*xs.length:=by
 induction k with
 | zero=>simp
 | succ k ih=>rw[qEf,qFc,qAp,ih,Nat.succ_mul,qJw]
theorem fL:iH X (qFx .Mult) Qo:=by
 intro pins s σ H x y v u Q I rx ry h;obtain⟨l,k,xs,rfl,rfl,hH,h1,h2,hz,q⟩:=h;cases rx;obtain⟨t,rfl⟩:=ry;obtain⟨z,its,n,r,hl,e⟩:=I.FV hH;have hlen:its.toArray.size*k.toNat<=qAf:=by rw[qAx,<- hl];exact hz
 have hcap:¬its.toArray.size*k.toNat>(2^63-1)/8:=by
  have:(qAf:Nat)<=(2^63-1)/8:=by decide
  lia
 have hfit:¬(!Builtin.List.listFitsIndex k)=true:=by
  rw[fitsIndex_both h1 h2];exact qAj
 have hlong:¬Builtin.List.listTooLong (its.toArray.size*k.toNat)=true:=by
  rw[vE hlen];exact qAj
 have hnew:qNs (fun x1 x2=>x1++x2) #[] (qBc (if its.toArray.isEmpty=true then 0 else k.toNat) its.toArray)=(qBc k.toNat its).flatten.toArray:=by
  have f0:∀m:Nat,qNs (fun x1 x2=>x1++x2) #[] (qBc m its.toArray)=(qBc m its).flatten.toArray:=fun m=>by
   have:=foldl_rep its m [];rw[qBp] at this;exact this
  rw[f0];cases its with
  | nil=>simp
  | cons a r'=>rw[if_neg (by simp)]
 refine wpAny_binaryOp_repeat_ref (T:="list") (U:="int") (by decide) ⟨_,e,rfl⟩ (fun s'=>typeIs_int s' k t) noFill_list_mul F.fills_int_mul F.slot_int_rmul repeat_list F.slot_int_index.lookup
  (qJj F.slot_int_rmul (typeIs_int s k t) F.entry_int_rmul (F.args_int_rmul_2 _ _) (int___rmul___int_list k t l its.toArray n)
   ⟨e,rfl,⟨_,e,rfl⟩,qJj F.slot_list_mul ⟨_,e,rfl⟩ F.entry_list_mul (F.args_list_mul_2 _ _) (AutoListH.list___mul___list_int_3 l its.toArray n k t hfit hcap hlong) ⟨e,?_⟩⟩)
 rw[hnew];exact⟨.ref _,_,I.Nz (t':=s.toks) (r.rep k.toNat) (by rw[len_rep,qMl];exact hz),rfl,q _ I.fresh⟩
end
section
variable {prog:qBx}{w:qDe}{A:qDd}{E:qAi->qAl->Prop}{s:qAl}
set_option maxRecDepth 100000 in
end
section
variable {X:Cx}
end
end L2
namespace Att
open PySem PySem.W PySem.Calls PyProof.Rows
theorem n6:∀(ns:List Int) (vs:List qAi),WellAll P h vs (ns.map WData.int)->qHz vs ns:=by
 intro ns;induction ns with
 | nil =>
  intro vs w;rw[qEn] at w;cases w;exact .nil
 | cons n ns ih =>
  intro vs w;rw[qDj] at w;cases w with
  | cons a b =>
   cases a
   exact .cons _ _ (ih _ b)
theorem Bs {l:OpenLaw}{n:Nat}(hn:l.most=some n){P:Params}{h:Heap}{args:List WData}{vals:List qAi}
  (hpre:l.row.toRowW.claim.pre args=true) (hwl:WellAll P h vals args) :
  ∃a vs ns,vals=[Value.ref a]/\args=[WData.list (ns.map WData.int)]/\h.get? a=some { cls:=.type "list",data:=.seq vs.toArray }/\qHz vs ns/\ns.length<=n:=by
 have hsh:WShape.hasAll [] args [.list .int]=true:=(pre_splitW hpre).1;have hc:l.pre.holds [] { args:=args }=true:=(pre_splitW hpre).2;obtain⟨d,r,rfl,h1,h2⟩:=hasAllW_cons hsh;obtain rfl:=hasAllW_nil h2;obtain⟨xs,rfl,h3⟩:=hasW_list h1;obtain⟨ns,rfl⟩:=items_int h3;have hlen:ns.length<=n:=by
  unfold OpenLaw.pre at hc;have h4:(WTm.not (.lt (.lit (.int (n:Int))) (.len (.arg 0)))).holds [] { args:=[.list (ns.map .int)] }=true:=by
   have h4:=(holds_andW hc).1;rw[hn] at h4;exact h4
  have h5:=condW_of h4 (w_not (w_lt w_lit (w_len_list (w_arg rfl))));rw[qAc] at h5;refine Nat.le_of_not_lt fun q=>?_;have q':(n:Int)<((ns.length:Nat):Int):=by lia
  first
   | (rw[decide_eq_true q'] at h5;exact absurd h5 (by decide))
   | (simp at h5;lia)
 cases hwl with
 | cons w1 w2 =>
  cases w2
  cases w1 with
  | list ho hall=>exact⟨_,_,ns,rfl,rfl,ho,n6 ns _ hall,hlen⟩
theorem Bt (l:OpenLaw)(args:List WData):l.row.toRowW.claim.post args (.bool true) args=true :=
 postW_of (r:=l.row.toRowW) (X:=(true == true))
  (show WShape.has [] (.bool true) .bool=true by first | rfl | decide | simp[WShape.has,WShape.arms,WShape.armsAll])
  (show(WTm.eq .res (.lit (.bool true))).value [] { args:=args,res:=some (.bool true),after:=args }=some (.bool (true == true)) from w_eq_bool (w_res rfl) w_lit) rfl
theorem vF {l:OpenLaw}{n:Nat}{q:qBx}{loose:List Str}{XP:(Str->Option qAi)->Heap->Prop}{YP:qDe->Heap->Prop}{d:DefRec}
  (hn:l.most=some n) (hdf:d.params.defaults=[])
  (call:∀(w:qDe) (s₀ s₁:qAl) (mg mb:Str->Option qAi) (fa:Addr) (o:Obj) (pm cd doc:qAi) (a:Addr) (vs:List qAi) (ns:List Int),
   Ground q loose [] XP w s₀ mg mb s₁.heap->YP w s₁.heap ->
   s₁.heap.get? fa=some o->o.data = .func (docDef d.name d.params d.body d.scope pm cd doc)->s₁.heap.CodeRec cd d.name->mg d.name=some (.ref fa) ->
   s₁.heap.get? a=some { cls:=.type "list",data:=.seq vs.toArray }->qHz vs ns->ns.length<=n->s₁.gens=#[] ->
   qHa (qCa l.prog w) qLy (.call (.ref fa) ⟨[.ref a],[]⟩) (fun r s'=>r = .ok (.ret (.bool true))/\OldK s₁.heap s'.heap/\s'.os=s₁.os/\qJe s'.gens) s₁) :
  WalkO q loose XP YP l.row.toRowW d [] (fun f vs=>PySem.call f vs):=by
 intro w s₀ s₁ mg mb G Y fa o pm cd doc dV kV ho hd hcd hD hmg hg args vals as hpre hlay hrd hwl hlo;obtain rfl:dV = .none:=Dflts.none hD hdf;obtain rfl:kV = .none:=Dflts.noKw hD;obtain⟨a,vs,ns,rfl,rfl,hobj,hints,hlen⟩:=Bs hn hpre hwl;refine enter_call (qFg (call w s₀ s₁ mg mb fa o pm cd doc a vs ns G Y ho (fd_plain hd) hcd hmg hobj hints hlen hg) fun r s' hq=>?_);obtain⟨rfl,h2,h3,h4⟩:=hq;exact⟨.inl ⟨.bool true,.bool true,[],rfl,fun _=>rfl,.bool true,Bt l _,fun _=>⟨List.Pairwise.nil,fun _ hm=>(nomatch hm)⟩⟩,h2,h3,h4⟩
section
variable {prog:qBx}{w:qDe}{A:qDd}{E:qAi->qAl->Prop}{s:qAl}{K:Frag}
end
end Att
namespace L2
open PySem PySem.Spec PyProof.Rows
theorem rG:∀{vs:List qAi}{ns:List Int},qHz vs ns->Vals (ns.map V.int) vs
 | _,_,.nil=>.nil
 | _,_,.cons n t h=>.cons ⟨t,rfl⟩ (rG h)
def Jd (H:Hp):Prop:=∀b,H b=none\/∃o xs,H b=some (.frz o (.lst xs))
theorem CM {P:qBx}{w:qDe}{K:qAb}{mg mb:Str->Option qAi}{CX:Bq}{k:Nat}{fa a:Addr}{fd:qCl}{x:Str}{sp:Sp}{s₁:qAl}{vs:List qAi}{ns:List Int}
  (KX:K.In s₁.heap) (hns:s₁.heap.Ns qAz mg) (hb:s₁.heap.Ns builtinsNs mb) (hbb:∀x:Str,x≠"__name__"->mb x=qCq x) (hlim:s₁.heap.NoLimit) (hg:s₁.gens=#[])
  (ha:s₁.heap.get? a=some { cls:=.type "list",data:=.seq vs.toArray }) (hi:qHz vs ns) (hl:ns.length<=qAf) (hr:dY k qLy)
  (F:∀base:Heap,K.In base->base.Ns qAz mg->jL P w K mg base CX k fa fd [x] sp) (hbind:∀(s:qAl) (u:qAi),qLz s fd ⟨[u],[]⟩ [(x,u)])
  (hsp:∀H:Hp,Jd H->aR K H a (ns.map V.int)->sp [.ref a] H (fun v _=>v = .bl true) fun _ _ _=>False)
  (hCX:∀H e s',CX [] H s₁ (fun _ _ _=>False) e s'->False) :
  qHa (qCa P w) qLy (.call (.ref fa) ⟨[.ref a],[]⟩) (fun r s'=>r = .ok (.ret (.bool true))/\OldK s₁.heap s'.heap/\s'.os=s₁.os/\qJe s'.gens) s₁:=by
 have rv:=rG hi;have lenV:=hi.length;have core:∀H:Hp,Jd H->aR K H a (ns.map V.int)->kI P w H s₁.heap->(∀b,H b≠none->b=a)->(H a≠none->K.lookup a=none) ->
   qHa (qCa P w) qLy (.call (.ref fa) ⟨[.ref a],[]⟩) (fun r s'=>r = .ok (.ret (.bool true))/\OldK s₁.heap s'.heap/\s'.os=s₁.os/\qJe s'.gens) s₁:=by
  intro H hO hS bZ hA hK;have base_of:∀{b:Addr}{o:Obj},s₁.heap.get? b=some o->H b=none->(tH s₁.heap H).get? b=some o:=fun e n=>Cu e n;have noA:∀{b:Addr}{o:Obj}{es:Array DictEntry}{ep:Nat},s₁.heap.get? b=some o->o.data = .dict es ep->H b=none:=fun {b o es ep} e d=>by
   cases q:H b with
   | none=>rfl
   | some u =>
    have e':b=a:=hA b (by rw[q];simp);subst e';rw[ha] at e;cases e;have d':Data.seq vs.toArray _=Data.dict es ep:=d;cases d'
  have nsK:∀{b:Addr}{m:Str->Option qAi},s₁.heap.Ns b m->(tH s₁.heap H).Ns b m:=fun {b m} ⟨o,es,ep,e,d,r⟩=>⟨o,es,ep,base_of e (noA e d),d,r⟩;have hKb:K.In (tH s₁.heap H):=fun b o e=>base_of (KX b o e) (by
   cases q:H b with
   | none=>rfl
   | some u =>
    have e':b=a:=hA b (by rw[q];simp);subst e';rw[hK (by rw[q];simp)] at e;cases e)
  have hM:Mod K mg (tH s₁.heap H):=⟨hKb,nsK hns,⟨mb,nsK hb,hbb⟩,let ⟨mc,h1,h2⟩:=hlim;⟨mc,nsK h1,h2⟩⟩;have e0:qR P w K mg (tH s₁.heap H) qLy [] s₁ H:=⟨rfl,hM,fun b o e=>FA e,qIm (Bi _ _),trivial,fun b hb=>absurd (show b∈([]:List Addr) from hb) (by simp),bZ,.of_eq hg⟩;refine qFg ((F _ hKb (nsK hns)).run qLy [] s₁ H ⟨[.ref a],[]⟩ [.ref a] [.ref a] _ _ hr e0 (hbind s₁ (.ref a)) (.cons rfl .nil) (hsp H hO hS)) fun r s' h=>?_;cases r with
  | error e=>exact(hCX H e s' h).elim
  | ok fl =>
   cases fl with
   | next=>exact False.elim h
   | brk=>exact False.elim h
   | cont=>exact False.elim h
   | ret u =>
    obtain⟨v,H',os,bare,un,hok',r',q⟩:=h;have q':v = .bl true:=q;subst q';obtain rfl:u=Value.bool true:=r';refine⟨rfl,OldK.of_keep fun b o e=>?_,os,bare⟩;cases q:H b with
    | none=>exact un.keep b o e q (by intro z;exact absurd (show b∈([]:List Addr) from z) (by simp)) (by simp)
    | some u =>
     rcases hO b with z | ⟨ob,xs,z⟩
     ·rw[q] at z;cases z
     ·have z2:=un.jE b ob _ z;obtain⟨e1,_⟩:=bZ b _ z;obtain⟨e2,_⟩:=hok' b _ z2;rw[e] at e1;cases e1;exact e2
 cases hk:K.lookup a with
 | some o =>
  have e:=KX a o hk;rw[ha] at e;cases e;refine core (fun _=>none) (fun _=>.inl rfl) (.inr ⟨_,vs.toArray,_,hk,rfl,rfl,rfl,by rw[qAx,lenV];exact hl,by simpa using rv⟩) (fun b u z=>by have z':(none:Option HO)=some u:=z;cases z') (fun b z=>absurd rfl z) fun z=>absurd rfl z
 | none =>
  refine core (fun b=>if b=a then some (.frz { cls:=.type "list",data:=.seq vs.toArray } (.lst (ns.map V.int))) else none) (fun b=>?_) (.inl (.inr ⟨{ cls:=.type "list",data:=.seq vs.toArray },if_pos rfl⟩)) (fun b u z=>?_) (fun b z=>?_) fun _=>hk
  ·by_cases hb:b=a
   ·exact .inr ⟨_,_,if_pos hb⟩
   ·exact .inl (if_neg hb)
  ·by_cases hb:b=a
   ·have z':=(if_pos hb).symm.trans z;cases z';subst hb;exact⟨ha,by rw[qAc];exact hl,vs,_,rv,ha⟩
   ·have z':=(if_neg hb).symm.trans z;cases z'
  ·by_cases hb:b=a
   ·exact hb
   ·exact absurd (if_neg hb) z
theorem FW {l:qNc}{n k:Nat}{q:qBx}{loose:List Str}{XP:(Str->Option qAi)->Heap->Prop}{YP:qDe->Heap->Prop}{d:DefRec}{K:Params->qAb}{CX:qDe->Bq}{sp:qDe->Sp}{x:Str}
  (hn:l.most=some n) (hn2:n<=qAf) (hdf:d.params.defaults=[]) (hr:dY k qLy)
  (hY:∀(w:qDe) (h:Heap),YP w h->(K w.params).In h)
  (F:∀(w:qDe) (mg:Str->Option qAi) (fa:Addr) (h:Heap),(K w.params).In h->h.Ns qAz mg->mg d.name=some (.ref fa) ->
   ∃fd:qCl,(∀(s:qAl) (u:qAi),qLz s fd ⟨[u],[]⟩ [(x,u)]) /\
    ∀base:Heap,(K w.params).In base->base.Ns qAz mg->jL l.prog w (K w.params) mg base (CX w) k fa fd [x] (sp w))
  (hsp:∀(w:qDe) (H:Hp) (a:Addr) (ns:List Int),ns.length<=n->Jd H->aR (K w.params) H a (ns.map V.int)->sp w [.ref a] H (fun v _=>v = .bl true) fun _ _ _=>False)
  (hCX:∀(w:qDe) (H:Hp) (s:qAl) (e:qAi) (s':qAl),CX w [] H s (fun _ _ _=>False) e s'->False) :
  qNv q loose XP YP l.row.toRowW d [] (fun f vs=>PySem.call f vs):=by
 refine Att.vF hn hdf fun w s₀ s₁ mg mb fa o pm cd doc a vs ns G Y ho hd hcd hmg hobj hints hlen hg=>?_;have KX:=hY w _ Y;obtain⟨fd,hb,hF⟩:=F w mg fa _ KX G.T.g hmg;exact CM KX G.T.g G.T.b G.T.builtins G.T.nolimit hg hobj hints (qDa hlen hn2) hr hF hb (fun H hO hS=>hsp w H a ns hlen hO hS) fun H e s'=>hCX w H s₁ e s'
def inClass (s:Stmt)(j:Nat):Stmt:=match s with
 | .ClassDef _ _ _ body _ _ _ _ _ _ _=>body.getD j (.Pass ⟨0,0,0,0⟩)
 | _=>.Pass ⟨0,0,0,0⟩
def eE (s:Stmt):Arguments:=match s with
 | .FunctionDef _ a _ _ _ _ _ _ _ _=>a
 | _=>{ posonlyargs:=[],args:=[],vararg:=none,kwonlyargs:=[],kw_defaults:=[],kwarg:=none,defaults:=[] }
def cL (s:Stmt):List Stmt:=match s with
 | .FunctionDef _ _ b _ _ _ _ _ _ _=>b
 | _=>[]
def aJ (s:Stmt):qIx:=match s with
 | .FunctionDef _ _ _ _ _ _ sc _ _ _=>sc
 | _=>{ kind:=.function,names:=[],isGenerator:=false,isCoroutine:=false }
abbrev cA:Bq:=fun _ _ _ _ _ _=>False
abbrev E0:XK:=fun _ _ _=>False
theorem NA:Passes cA X E0:=fun _ _ _ _ _ _ _ h=>h.elim
structure Je (K:qAb) (x qual:Str) (st:Stmt) (f:Addr) (fd:qCl):Prop where
 ex:∃(oc:qAi) (od:Option Addr) (kV doc pm:qAi) (an:Option Addr) (cdv ct:qAi) (osl:Array (Option qAi)),
  fd=qDf x qual (eE st) (cL st) (aJ st) .none kV doc pm an cdv ct/\K.lookup f=some ⟨oc,od,.func fd,osl⟩/\qDu K cdv qual=true
 kp:qCs K (.ref f)=true
section
variable {P:qBx}{w:qDe}{K:qAb}{mg:Str->Option qAi}{base:Heap}
theorem Je.ok {x qual:Str}{st:Stmt}{f:Addr}{fd:qCl}{N ps:List Str}{k:Nat}{sp:Sp}(F:Je K x qual st f fd)(S:aO N ps (aJ st))(len:∀vs H Q E,sp vs H Q E->vs.length=ps.length)
  (hbody:∀(cdv:qAi) (A:qDd) (outer:List Env) (s:qAl) (H:Hp) (vs:List V) (Q:VK) (E:XK),dY k (A.deeper (qHo qual (aJ st) s.heap.objs.size f cdv))->sp vs H Q E ->
   ∃t,qM (n4 cA P w K mg base N qual (aJ st) f cdv A outer s H E).MK (cL st) t/\t { nx:=fun _ H'=>Q .non H',rt:=Q } (start N vs) H):jL P w K mg base cA (k+1) f fd ps sp:=by
 obtain⟨oc,od,kV,doc,pm,an,cdv,ct,osl,rfl,lk,hcd⟩:=F.ex;refine Hn lk hcd S len fun A outer s H vs Q E hr hsp=>?_;obtain⟨t,h,q⟩:=hbody cdv A outer s H vs Q E hr hsp;exact⟨t,h.MK,q⟩
theorem CN {x qual:Str}{st:Stmt}{f:Addr}{oc:qAi}{od an:Option Addr}{osl:Array (Option qAi)}{kV doc pm cdv ct:qAi}(l:K.lookup f=some ⟨oc,od,.func (qDf x qual (eE st) (cL st) (aJ st) .none kV doc pm an cdv ct),osl⟩)
  (c:qDu K cdv qual=true) (k:qCs K (.ref f)=true):Je K x qual st f (qDf x qual (eE st) (cL st) (aJ st) .none kV doc pm an cdv ct):=⟨⟨oc,od,kV,doc,pm,an,cdv,ct,osl,rfl,l,c⟩,k⟩
end
theorem CO (hr:dY k A):A.units+1<qLj:=qBh (Nat.add_le_add_left (by decide:1<=64) _) hr.units
theorem aK (h:n<=1000):n<qAf:=qBh h (by decide)
section
variable {X:Cx}
theorem pv (i:Nat){x:Str}{pos:Pos}(hN:X.N[i]?=some x:=by rfl)(hv:PH X.env.scope x:=by first|exact Or.inl rfl | exact Or.inr bP | exact Or.inr (Or.inr rfl))(hd:(x == ("__debug__":Str))=false:=by decide)
  (hcd:(x == ("__classdict__":Str))=false:=by decide):PE X (.Name x pos) (Cv i):=II hN hv hd hcd
end
theorem dO {A B:Prop}(h:B):if false=true then A else B:=by
 rw[if_neg qAj];exact h
theorem eQ {A B:Prop}(h:A):if true=true then A else B:=by
 rw[if_pos rfl];exact h
theorem cJ {c A B:Prop} [Decidable c] (h1:c->A)(h2:¬c->B):if c then A else B:=by
 by_cases h:c
 ·rw[if_pos h];exact h1 h
 ·rw[if_neg h];exact h2 h
theorem pD {c A B:Prop} [Decidable c] (hc:c)(h:B):if (!decide c)=true then A else B:=by
 rw[decide_eq_true hc];exact dO h
def aG (H H':Hp):Prop:=∀b o,H b=some o->H' b=some o
theorem aG.refl (H:Hp):aG H H:=fun _ _ h=>h
theorem aG.trans (a:aG H H1)(b:aG H1 H2):aG H H2:=fun c o h=>b c o (a c o h)
theorem aG.free (e:aG H H'){l:Addr}(h:H' l=qOy):H l=qOy:=by
 cases q:H l with
 | none=>rfl
 | some o =>
  rw[e l o q] at h;cases h
theorem aG.seq {K:qAb}{H H':Hp}{a:Addr}{xs:List V}(e:aG H H')(h:aR K H a xs):aR K H' a xs:=by
 rcases h with (h | ⟨o,h⟩) | h
 ·exact .inl (.inl (e _ _ h))
 ·exact .inl (.inr ⟨o,e _ _ h⟩)
 ·exact .inr h
def nP (cells:List (Str×Addr)):List (Str×Addr)->Prop
 | []=>True
 | p::r=>cells.lookup p.1=some p.2/\nP cells r
theorem nP.of:∀{cl:List (Str×Addr)},nP cells cl->∀x c,cl.lookup x=some c->cells.lookup x=some c
 | [],_,x,c,h=>by cases h
 | (y,d)::r,hl,x,c,h=>by
  rw[qJx] at h;cases hx:x == y with
  | true =>
   rw[hx] at h;have e:x=y:=by simpa using hx
   subst e;cases h;exact hl.1
  | false =>
   rw[hx] at h;exact nP.of hl.2 x c h
def tN (X:Cx)(NB:List Str)(sc:qIx)(cl:List (Str×Addr))(s₃:qAl)(H₃:Hp)(fp:List Addr):Cx :=
 { X with N:=NB,s₀:=s₃,H₀:=H₃,env:=compEnvC sc cl s₃.heap.objs.size X.env,outer:=X.stack,stack:=X.stack,ex:=fp,fn:=fun _=>false,pn:=[],xe:=fun _ _=>False }
structure MN (X:Cx) (NB:List Str) (pick:List (Option Nat)) (sc:qIx) (cl:List (Str×Addr)):Prop where
 yB:qNa sc X.env=pure cl
 kind:sc.kind = .function
 yC:∀y∈sc.names,y.2≠.cell
 names:∀y∈sc.names,y.2 = .local->sc.names.lookup y.1=some .local
 sub:nP X.env.cells cl
 has:∀x,((qJb sc X.env).names.lookup x=some .cell\/(qJb sc X.env).names.lookup x=some .free)->∃c,cl.lookup x=some c
 len:pick.length=NB.length
 got:∀(j i:Nat) (x:Str),pick[j]?=some (some i)->NB[j]?=some x->X.N[i]?=some x/\(X.env.kindOf x=some .cell\/X.env.kindOf x=some .free)/\(qJb sc X.env).names.lookup x=some .cell
def hasB (cl:List (Str×Addr))(L:List (Str×qLp)):Bool:=L.all fun p=>!(p.2 == .cell||p.2 == .free)||(cl.lookup p.1).isSome
theorem z6 (h:hasB cl L=true)(x:Str)(hx:L.lookup x=some .cell\/L.lookup x=some .free):∃c,cl.lookup x=some c:=by
 have get:∀k,L.lookup x=some k->(k == NameKind.cell||k == NameKind.free)=true->∃c,cl.lookup x=some c:=fun k hk hb=>by
  have z:=List.all_eq_true.mp h (x,k) (PySem.mem_of_lookup hk);dsimp only at z;rw[hb] at z;exact Option.isSome_iff_exists.mp z
 rcases hx with hx | hx
 ·exact get _ hx rfl
 ·exact get _ hx rfl
def vH (N:List Str)(k1 k2:List (Str×qLp)):List (Option Nat)->List Str->Bool
 | some i::p,x::r=>decide (N[i]?=some x)&&(decide (k1.lookup x=some .cell)||decide (k1.lookup x=some .free))&&decide (k2.lookup x=some .cell)&&vH N k1 k2 p r
 | none::p,_::r=>vH N k1 k2 p r
 | [],[]=>true
 | _,_=>false
theorem lM:∀{p:List (Option Nat)}{r:List Str},vH N k1 k2 p r=true->p.length=r.length
 | [],[],_=>rfl
 | [],_::_,h=>by cases h
 | none::_,[],h=>by cases h
 | some _::_,[],h=>by cases h
 | none::p,_::r,h=>congrArg Nat.succ (lM (p:=p) (r:=r) h)
 | some i::p,x::r,h=>by
  have h':(decide (N[i]?=some x)&&(decide (k1.lookup x=some .cell)||decide (k1.lookup x=some .free))&&decide (k2.lookup x=some .cell)&&vH N k1 k2 p r)=true:=h
  rw[qCd] at h';exact congrArg Nat.succ (lM h'.2)
theorem oI:∀{p:List (Option Nat)}{r:List Str},vH N k1 k2 p r=true->∀(j i:Nat) (x:Str),p[j]?=some (some i)->r[j]?=some x ->
  N[i]?=some x/\(k1.lookup x=some .cell\/k1.lookup x=some .free)/\k2.lookup x=some .cell
 | [],_,_,j,i,x,h1,_=>by simp at h1
 | none::_,[],h,_,_,_,_,_=>by cases h
 | some _::_,[],h,_,_,_,_,_=>by cases h
 | none::p,_::r,h,j,i,x,h1,h2=>by
  cases j with
  | zero=>simp at h1
  | succ j=>exact oI (p:=p) (r:=r) h j i x (by simpa using h1) (by simpa using h2)
 | some i'::p,x'::r,h,j,i,x,h1,h2=>by
  have h':(decide (N[i']?=some x')&&(decide (k1.lookup x'=some .cell)||decide (k1.lookup x'=some .free))&&decide (k2.lookup x'=some .cell)&&vH N k1 k2 p r)=true:=h
  rw[qCd,qCd,qCd,qOo] at h';obtain⟨⟨⟨a,b⟩,c⟩,d⟩:=h';cases j with
  | zero =>
   simp at h1 h2;subst h1 h2;exact⟨of_decide_eq_true a,b.elim (fun z=>.inl (of_decide_eq_true z)) fun z=>.inr (of_decide_eq_true z),of_decide_eq_true c⟩
  | succ j=>exact oI d j i x (by simpa using h1) (by simpa using h2)
theorem bF (yB:qNa sc X.env=pure cl)(sub:nP X.env.cells cl)(kind:sc.kind = .function)(yC:∀y∈sc.names,y.2≠.cell)
  (names:∀y∈sc.names,y.2 = .local->sc.names.lookup y.1=some .local) (has:hasB cl (qJb sc X.env).names=true) (got:vH X.N X.env.scope.names (qJb sc X.env).names pick NB=true):MN X NB pick sc cl :=
 ⟨yB,kind,yC,names,sub,z6 has,lM got,fun j i x h1 h2=>oI got j i x h1 h2⟩
def pE (pick:List (Option Nat))(σ:St):St:=pick.map fun o=>o.bind fun i=>(σ[i]?).join
section
variable {X:Cx}{NB:List Str}{pick:List (Option Nat)}{sc:qIx}{cl:List (Str×Addr)}{pins:List (Addr×Obj)}{σ:St}{H:Hp}{s:qAl}{fp:List Addr}
theorem Jf (I:Inv X pins σ H s)(B:MN X NB pick sc cl)(hf:∀b∈fp,jI X pins H b)(hex:∀b∈fp,∃o,s.heap.get? b=some o):(tN X NB sc cl s H fp).Ok:=by
 have nfs:∀b∈fp,b∉nK X.stack:=fun b hb z=>by
  rcases List.mem_cons.mp (I.k4 b z) with e | e
  ·exact(hf b hb).2.1 e
  ·exact(hf b hb).2.2.1 e
 refine⟨I.ok.mod,B.kind,I.ok.glob,I.ok.blt,qAg _,fun x y c h1 h2=>?_,fun x hx=>B.has x hx,fun x c h _=>(qAj h).elim,I.ok.hd,I.ok.frames,.inl rfl,fun b hb=>⟨?_,fun x c h e=>?_⟩,I.bs,qDa I.ok.Fv I.sz,fun b o e hb=>?_,nfs,I.stack,I.lG⟩
 ·exact I.ok.inj x y c (B.sub.of x c h1) (B.sub.of y c h2)
 ·obtain⟨o,ho⟩:=hex b hb;exact qBe (qAr ho)
 ·exact(hf b hb).2.2.2.2.1 x c (B.sub.of x c h) e
 ·rcases(hf b hb).2.2.2.1 with z | z
  ·exact I.ok.Bj b o e z
  ·exact absurd (qAy (qAr (I.ok.bs b o e).1) z) (qDc _)
theorem Bu (I:Inv X pins σ H s)(B:MN X NB pick sc cl)(hf:∀b∈fp,jI X pins H b)(hex:∀b∈fp,∃o,s.heap.get? b=some o)
  (hn:h'.Ns s.heap.objs.size (fun _=>none)) (hs:∀b o,s.heap.get? b=some o->h'.get? b=some o) (t:Nat):Inv (tN X NB sc cl s H fp) [] (pE pick σ) H { s with heap:=h',toks:=t }:=by
 refine⟨Jf I B hf hex,rfl,I.bare,Un.kept hs,⟨_,hn,fun j x v h1 h2 h3=>?_⟩,fun x c e=>?_,I.bZ.fresh (qAg _),fun x c e=>I.iE x c (B.sub.of x c e),fun p hp=>absurd (show p∈([]:List (Addr×Obj)) from hp) (by simp),I.bZ.kept hs,?_⟩
 ·have h2':(pick.map fun o=>o.bind fun i=>(σ[i]?).join)[j]?=some (some v):=h2;rw[qAo] at h2';cases hp:pick[j]? with
  | none=>rw[hp] at h2';cases h2'
  | some o =>
   rw[hp] at h2';cases o with
   | none=>cases h2'
   | some i =>
    have h2'':(σ[i]?).join=some v:=Option.some.inj h2';obtain⟨g1,g2,g3⟩:=B.got j i x hp h1;have hσ:σ[i]?=some (some v):=by
     cases hq:σ[i]? with
     | none=>rw[hq] at h2'';cases h2''
     | some z=>rw[hq] at h2'';have e:z=some v:=h2'';rw[e]
    obtain⟨m,_,hl⟩:=I.loc;obtain⟨u,r,L⟩:=hl i x v g1 hσ (.inr g2);refine⟨u,r,?_⟩;rcases L with ⟨k,_⟩ | ⟨_,c,hc,⟨o,ho,hd⟩⟩
    ·rcases g2 with g2 | g2 <;> rw[k] at g2 <;> cases g2
    ·obtain⟨c',hc'⟩:=B.has x (.inl g3);have e:c'=c:=Option.some.inj ((B.sub.of x c' hc').symm.trans hc);subst e;exact .inr ⟨.inl g3,c',hc',o,hs _ _ ho,hd⟩
 ·obtain⟨v,o,ho,hd⟩:=I.cell x c (B.sub.of x c e);exact⟨v,o,hs _ _ ho,hd⟩
 ·show(pE pick σ).length=NB.length;unfold pE;rw[qAc];exact B.len
theorem FX (I:Inv X pins σ H s)(hf:∀b∈fp,jI X pins H b)(J:Inv (tN X NB sc cl s H fp) [] σ' H' s'):Inv X pins σ H' s':=by
 refine I.call' (ch:=fp) J.os J.base J.bZ J.bare fun b hb=>?_;obtain⟨_,f1,_,f3,f4,f5⟩:=hf b hb;exact⟨f3,f1,f4,f5⟩
end
def vI (wi:TI)(pick:List (Option Nat))(g:TG)(c:TT)(te:TE):St->Hp->(Addr->Hp->Prop)->Prop:=fun σ H Q =>
 wi σ H fun J H1=>∀D,H1 D=none->∃W:Nat->Nat->St->Hp->Prop,(∃m,W 0 m (pE pick σ) (upd H1 D (.lst [])))/\∀i m σ1 H2,W i m σ1 H2 ->
  (J.stop i H2/\Q D H2)\/(J.go i H2/\∃N:St->Hp->Prop,(∀σ' H',N σ' H'->∃m',m'<m/\W (i+1) m' σ' H') /\
   ∀x H',J.qQ i H2 x H'->g x σ1 H' fun σ2 H3=>c σ2 H3 fun b H4=>if b=true then te σ2 H4 fun y H5=>∃xs,H5 D=some (.lst xs)/\xs.length<qAf/\N σ2 (upd H5 D (.lst (xs++[y]))) else N σ2 H4)
section
variable {prog:qBx}{w:qDe}{A:qDd}{R:qQb->qAl->Prop}{s:qAl}
theorem lN (W:Nat->qAl->Prop)
  (turn:∀n s,W n s->qBj (qCa prog w) A (qJc it) (fun r s₁=>match r with
   | none=>R (.ok .next) s₁
   | some v=>qBj (qCa prog w) A (qJd target it v) (fun _ s₀=>qBj (qCa prog w) A (qKn target env v) (fun _ s₂ =>
     qBj (qCa prog w) A (forIn ifs true fun c r=>if r=true then do let ok <- qQa c env (eval c env);pure (ForInStep.yield ok) else pure (ForInStep.yield r)) (fun ok s₃ =>
      if ok=true then qBj (qCa prog w) A (eval elt env) (fun x s₄ =>
       qBj (qCa prog w) A (call (.builtin "list.append") [acc,x]) (fun _ s₅=>∃m,m<n/\W m s₅) (fun _ _=>False) s₄) (fun _ _=>False) s₃
      else ∃m,m<n/\W m s₃) (fun _ _=>False) s₂) (fun _ _=>False) s₀) (fun _ _=>False) s₁) (fun _ _=>False) s)
  (n:Nat) (h:W n s) :
  qHa (qCa prog w) A (.compLoop (.ListComp elt [⟨target,iter,ifs,0⟩] scope pos) 0 it acc env) R s:=by
 refine codeAny_loop rfl W (fun n s hI=>?_) n h;show qBj _ A ((compTurn (.ListComp elt [⟨target,iter,ifs,0⟩] scope pos) 0 it acc env).onRaise (fun x=>do noteFrame x env;theTreesLotGoes x)) _ _ s;refine wpAny_noted (wpAny_noRaise ?_);rw[compTurn_list];refine qAa (qKh (qAa (cE (turn n s hI) fun r s₁ h₁=>?_)));cases r with
 | none=>exact qAe h₁
 | some v =>
  refine qAa (cE h₁ fun _ s₀ h₀=>qAa (cE h₀ fun _ s₂ h₂=>qAa (cE h₂ fun ok s₃ h₃=>?_)));cases ok with
  | false=>exact qAe ⟨rfl,h₃⟩
  | true=>exact qAa (qAa (cE h₃ fun x s₄ h₄=>qAa (cE h₄ fun _ s₅ h₅=>qAe (qAe ⟨rfl,h₅⟩))))
end
def vJ (X:Cx)(ifs:List Expr)(c:TT):Prop :=
 ∀(pins:List (Addr×Obj)) (s:qAl) (σ:St) (H:Hp) (Q:Bool->Hp->Prop),Inv X pins σ H s->c σ H Q ->
  qBj (qCa X.prog X.w) X.A (forIn ifs true fun c r=>if r=true then do let ok <- qQa c X.env (eval c X.env);pure (ForInStep.yield ok) else pure (ForInStep.yield r)) (TP X pins σ Q) X.xe s
def Qp:TT:=fun _ H Q=>Q true H
theorem bI:vJ X [] Qp:=fun pins s σ H Q I h=>qAe ⟨H,I,h⟩
theorem eZ (hc:PT X e c):vJ X [e] c:=fun pins s σ H Q I h=>wpAny_tests_one (hc pins s σ H Q I h)
section
variable {X:Cx}{NB:List Str}{pick:List (Option Nat)}{sc:qIx}{cl:List (Str×Addr)}{elt target iter:Expr}{ifs:List Expr}{pos:Pos}{wi:TI}{g:TG}{c:TT}{te:TE}
theorem vK (B:MN X NB pick sc cl)(hc:X.calm=true)(hi:PI X target iter wi)
  (hg:∀s₃ H₃ fp,PG (tN X NB sc cl s₃ H₃ fp) target g) (ht:∀s₃ H₃ fp,vJ (tN X NB sc cl s₃ H₃ fp) ifs c) (he:∀s₃ H₃ fp,PE (tN X NB sc cl s₃ H₃ fp) elt te)
  (hs:∀x,qFn iter X.env x=pure x) (I:Inv X pins σ H s) (h:vI wi pick g c te σ H Q)
  (fin:∀(D C:Addr) (s':qAl) (H':Hp),Inv X pins σ H' s'->Q D H'->H' C=none->C≠X.env.locals->X.s₀.heap.objs.size<=C->(∀x a,X.env.cells.lookup x=some a->a≠C)->(∀p∈X.pn++pins,p.1≠C)->(∃m,s'.heap.Ns C m) ->
   qPd (qCa X.prog X.w) X.A X.xe use QV (.ref D) C (.ok .next) s') :
  qBj (qCa X.prog X.w) X.A (qKl (.ListComp elt [⟨target,iter,ifs,0⟩] sc pos) sc X.env (firstIterPos [⟨target,iter,ifs,0⟩] pos) (qOt []) false (eval iter X.env) use) QV X.xe s:=by
 refine wpAny_comprehension_free rfl hs B.yB B.kind B.names (cE (hi pins s σ H _ I h) fun v s1 h1=>cE h1 fun itv s2 h2=>?_);obtain⟨it,fp,tn,J,H2,e,I2,T,st2,f2,h2⟩:=h2;subst e;refine qCp ?_;have I3:Inv X pins σ (upd H2 s2.heap.objs.size (.lst [])) { s2 with heap:=s2.heap.push { cls:=.type "list",dict:=none,data:=.seq ([]:List qAi).toArray } } :=
  I2.laid (t':=s2.toks) (fun b u e=>qAh _ e) (qAg _) ⟨qBr _,[],0,.nil,qAt _ rfl⟩
 have hf:H2 s2.heap.objs.size=none:=I2.bZ.fresh (qAg _);have lt:∀b∈fp,b≠s2.heap.objs.size:=fun b hb=>by
  obtain⟨o,ho,_⟩:=T.obj _ _ st2 b hb;exact qBe (qAr ho)
 have f3:∀b∈fp,jI X pins (upd H2 s2.heap.objs.size (.lst [])) b:=fun b hb=>⟨by rw[aL (lt b hb)];exact(f2 b hb).1,(f2 b hb).2⟩;generalize hs3:({ s2 with heap:=s2.heap.push { cls:=.type "list",dict:=none,data:=.seq ([]:List qAi).toArray } }:qAl)=s3 at I3|-;have kp3:∀b o,s2.heap.get? b=some o->s3.heap.get? b=some o:=fun b o e=>by
  rw[<- hs3];exact qAh _ e
 have hex:∀b∈fp,∃o,s3.heap.get? b=some o:=fun b hb=>by
  obtain⟨o,ho,_⟩:=T.obj _ _ st2 b hb;exact⟨o,kp3 b o ho⟩
 have st3:tn 0 s3.heap:=T.keep _ _ _ st2 fun b _ o e=>kp3 b o e;obtain⟨W,⟨m0,w0⟩,turn⟩:=h2 _ hf;refine wpAny_newFunctionEnv B.yC (by intro y hy;simp at hy) (fun h₁ hns₁ hsb₁=>?_) B.kind;have kp4:∀b o,s3.heap.get? b=some o->h₁.get? b=some o:=fun b o e=>(hsb₁.2 b (qBe (qAr e))).trans (qAh _ e);have J4:=Bu I3 B f3 hex hns₁ kp4 (s3.toks+([]:List (Str×qAi)).length);have st4:tn 0 h₁:=T.keep _ _ _ st3 fun b _ o e=>kp4 b o e;have stat:∀{H':Hp},(∀b∈fp,H' b=none)->∀b∈fp,jI (tN X NB sc cl s3 (upd H2 s2.heap.objs.size (.lst [])) fp) [] H' b:=fun {H'} hn b hb=>by
  obtain⟨o,ho⟩:=hex b hb;refine⟨hn b hb,qBe (qAr ho),fun z=>?_,.inl hb,fun x a e=>(f2 b hb).2.2.2.2.1 x a (B.sub.of x a e),fun p hp=>absurd (show p∈([]:List (Addr×Obj)) from hp) (by simp)⟩;rcases List.mem_cons.mp (I2.k4 b z) with e | e
  ·exact(f2 b hb).2.1 e
  ·exact(f2 b hb).2.2.1 e
 have loop:qHa (qCa X.prog X.w) X.A (.compLoop (.ListComp elt [⟨target,iter,ifs,0⟩] sc pos) 0 (.ref it) (.ref s2.heap.objs.size) (tN X NB sc cl s3 (upd H2 s2.heap.objs.size (.lst [])) fp).env)
   (qPd (qCa X.prog X.w) X.A X.xe use QV (.ref s2.heap.objs.size) s3.heap.objs.size) { s3 with heap:=h₁,toks:=s3.toks+([]:List (Str×qAi)).length }:=by
  refine lN (fun n s'=>∃i σ' H',Inv (tN X NB sc cl s3 (upd H2 s2.heap.objs.size (.lst [])) fp) [] σ' H' s'/\tn i s'.heap/\(∀b∈fp,H' b=none)/\W i n σ' H') ?_ m0 ⟨0,_,_,J4,st4,fun b hb=>(f3 b hb).1,w0⟩;rintro n s5 ⟨i,σ5,H5,I5,st5,fr5,w5⟩;rcases turn i n σ5 H5 w5 with ⟨stop,qn⟩ | ⟨go,N,hN,step⟩
  ·refine cE (T.done (tN X NB sc cl s3 (upd H2 s2.heap.objs.size (.lst [])) fp) rfl rfl rfl hc i [] s5 σ5 H5 _ I5 (stat fr5) st5 stop) fun r s6 ⟨hr,I6⟩=>?_;subst hr;refine fin s2.heap.objs.size s3.heap.objs.size s6 H5 (FX I3 f3 I6) qn I6.free (qBe I3.lt).symm I3.sz (fun x a e=>?_) (fun p hp=>?_) ?_
   ·obtain⟨v,o,ho,_⟩:=I3.cell x a e;exact qBe (qAr ho)
   ·exact qBe (qAr (I3.pin p hp).1)
   ·obtain⟨m,hn,_⟩:=I6.loc;exact⟨m,hn⟩
  ·refine cE (T.item (tN X NB sc cl s3 (upd H2 s2.heap.objs.size (.lst [])) fp) rfl rfl rfl hc i [] s5 σ5 H5 _ I5 (stat fr5) st5 go) fun r s6 ⟨u,hr,h6⟩=>?_;subst hr;refine cE h6 fun _ s7 ⟨x,H7,I7,r7,y7,st7,fr7⟩=>?_;have I7':=I7.pinned (stat fr7) (T.obj _ _ st7);have qNp:∀{s9:qAl}{σ9:St}{H9:Hp},Inv (tN X NB sc cl s3 (upd H2 s2.heap.objs.size (.lst [])) fp) ([]++mS fp s7.heap) σ9 H9 s9->N σ9 H9 ->
     ∃m,m<n/\∃i σ' H',Inv (tN X NB sc cl s3 (upd H2 s2.heap.objs.size (.lst [])) fp) [] σ' H' s9/\tn i s9.heap/\(∀b∈fp,H' b=none)/\W i m σ' H':=fun {s9 σ9 H9} I9 n9=>by
    obtain⟨m',hm,w9⟩:=hN σ9 H9 n9;refine⟨m',hm,i+1,σ9,H9,I9.jJ,T.keep _ _ _ st7 fun b hb o e=>(I9.pin (b,o) (qAv _ (qAv _ (fT hb e)))).1,fun b hb=>?_,w9⟩;obtain⟨o,e,d⟩:=T.obj _ _ st7 b hb;exact(I9.pin (b,o) (qAv _ (qAv _ (fT hb e)))).2.1
   refine cE (hg _ _ _ _ s7 σ5 H7 x u _ I7' r7 (step x H7 y7)) fun _ s8 ⟨σ8,H8,I8,q8⟩=>?_;refine cE (ht _ _ _ _ s8 σ8 H8 _ I8 q8) fun b s9 ⟨H9,I9,q9⟩=>?_;cases b with
   | false =>
    rw[if_neg qAj];exact qNp I9 (by rw[if_neg qAj] at q9;exact q9)
   | true =>
    rw[if_pos rfl] at q9|-;refine cE (he _ _ _ _ s9 σ8 H9 _ I9 q9) fun y s10 ⟨vy,H10,I10,r10,xs,hD,hl,q10⟩=>?_;refine cE (mW _ s10 σ8 H10 (.ref s2.heap.objs.size) [vy] (.ref s2.heap.objs.size) [y] (fun _ H'=>N σ8 H') I10 rfl (.cons r10 .nil) ⟨_,xs,vy,rfl,rfl,hD,hl,q10⟩) fun _ s11 ⟨_,H11,I11,_,q11⟩=>?_;exact qNp I11 q11
 refine codeAny_compStart_list loop (T.self _ 0 _ _ _ st4 loop)
theorem bO (B:MN X NB pick sc cl)(hc:X.calm=true)(hi:PI X target iter wi)
  (hg:∀s₃ H₃ fp,PG (tN X NB sc cl s₃ H₃ fp) target g) (ht:∀s₃ H₃ fp,vJ (tN X NB sc cl s₃ H₃ fp) ifs c) (he:∀s₃ H₃ fp,PE (tN X NB sc cl s₃ H₃ fp) elt te)
  (hs:∀x,qFn iter X.env x=pure x:=by intro _;rfl):PE X (.ListComp elt [⟨target,iter,ifs,0⟩] sc pos) (fun σ H Q=>vI wi pick g c te σ H fun D H'=>Q (.ref D) H'):=by
 intro pins s σ H Q I h;rw[eval_ListComp];refine vK (use:=none) (QV:=EP X pins σ Q) B hc hi hg ht he hs I h fun D C s' H' I' q c0 c1 c2 c3 c4 hn=>?_;obtain⟨m,hm⟩:=hn;exact⟨m,hm,fun hh hsb=>⟨.ref D,H',I'.turned (t':=s'.toks) (fun b o hb e=>(hsb.2 b hb).trans e) c0 c1 (.inr c2) c3 c4,rfl,q⟩⟩
theorem cZ (hN:X.N.Nodup)(hx1:X.N[i]?=some x)(hx2:Loc X.env.scope x)
  (hsw:qKi (.ListComp elt [⟨target,iter,ifs,0⟩] sc pos) (some (.Name x pos')) spos.line X.env=pure true) (B:MN X NB pick sc cl) (hc:X.calm=true) (hi:PI X target iter wi)
  (hg:∀s₃ H₃ fp,PG (tN X NB sc cl s₃ H₃ fp) target g) (ht:∀s₃ H₃ fp,vJ (tN X NB sc cl s₃ H₃ fp) ifs c) (he:∀s₃ H₃ fp,PE (tN X NB sc cl s₃ H₃ fp) elt te)
  (hs:∀x,qFn iter X.env x=pure x:=by intro _;rfl) (hfn:X.fn x=true\/X.env.scope.names.lookup x=some .local:=by first|exact .inl rfl | exact .inr rfl | assumption) :
  PS X (.Assign [.Name x pos'] (.ListComp elt [⟨target,iter,ifs,0⟩] sc pos) spos) (fun D σ H=>vI wi pick g c te σ H fun l H'=>D.nx (σ.set i (some (.ref l))) H'):=by
 intro pins s σ H D I h;rw[exec_Assign_Name_used _ _ _ _ hsw];refine qAa (qKh (qAa ?_));show qBj _ _ (do let _ <- qKl (.ListComp elt [⟨target,iter,ifs,0⟩] sc pos) sc X.env _ (qOt []) false (eval iter X.env) (some (qKn (.Name x pos') X.env))) _ _ s;refine qAa (cE (vK (use:=some (qKn (.Name x pos') X.env)) (QV:=fun _ s'=>SP X pins D .next s') B hc hi hg ht he hs I h fun l C s' H' I' q c0 c1 c2 c3 c4 hn=>?_) fun _ s' hq=>qAe (qAe hq));obtain⟨m,hm⟩:=hn;show qBj _ _ (qKn (.Name x pos') X.env (.ref l)) _ _ _;refine wpAny_assign_Name (mR (v:=.ref l) I' hN hx1 hx2 rfl (fun s'' I'' ⟨a,hsb,ha⟩=>?_) hfn);have ne:C≠a:=by
  rcases ha with e | e
  ·rw[e];exact c1
  ·exact(c3 x a e).symm
 refine⟨m,hm.sameBut hsb ne,fun hh hsb2=>?_⟩;exact⟨_,H',I''.turned (t':=s''.toks) (fun b o hb e=>(hsb2.2 b hb).trans e) c0 c1 (.inr c2) c3 c4,q⟩
end
theorem cO.there (x:cO P w H h a o):∃ob,h.get? a=some ob:=by
 induction o with
 | lst xs=>obtain⟨_,_,_,_,e⟩:=x;exact⟨_,e⟩
 | tup xs=>obtain⟨_,_,_,ob,e,_⟩:=x;exact⟨ob,e⟩
 | dK kvs=>obtain⟨_,_,_,_,ob,_,_,e,_⟩:=x;exact⟨ob,e⟩
 | dT kvs=>obtain⟨_,_,_,_,ob,_,_,e,_⟩:=x;exact⟨ob,e⟩
 | set S n=>obtain⟨ob,_,_,_,e,_⟩:=x;exact⟨ob,e⟩
 | ins C dx fs=>obtain⟨_,_,_,e,_⟩:=x;exact⟨_,e⟩
 | own y=>exact x
 | xd fs=>obtain⟨_,⟨ob,_,_,e,_⟩,_⟩:=x;exact⟨ob,e⟩
 | rng lo hi=>obtain⟨_,_,_,e⟩:=x;exact⟨_,e⟩
 | frz ob u ih=>exact⟨ob,x.1⟩
 | tbl ps=>exact⟨_,x⟩
 | met f y=>exact⟨_,x⟩
 | ext φ=>exact x.2.1
structure nQ (P:qBx) (w:qDe) (outer:List Env) (H:Hp) (s:qAl) (e C:Addr) (H':Hp) (s':qAl):Prop where
 os:s'.os=s.os
 bare:qJe s'.gens
 ex:∃(a0:qAi) (B:Heap),qHg B outer e (.ref C) a0 s'.heap/\kI P w H' B/\(∀b o,s.heap.get? b=some o->b∉nK outer->∃o',B.get? b=some o') /\
  ∀b o,s.heap.get? b=some o->H b=none->b∉nK outer->B.get? b=some o
 slot:∀b o,s.heap.get? b=some o->H b=none->b∈nK outer->∃sl,s'.heap.get? b=some { o with slots:=sl }
 free:∀b o,s.heap.get? b=some o->H b=none->H' b=none
 kJ:∀b xs,H b=some (.tup xs)->H' b=some (.tup xs)
 jE:∀b o u,H b=some (.frz o u)->H' b=some (.frz o u)
 kK:∀b ps,H b=some (.tbl ps)->∃more,H' b=some (.tbl (ps++more))
def fY (P:qBx)(w:qDe):Bq:=fun outer H s E ev s'=>∃(e C:Addr) (H':Hp),ev = .ref e/\nQ P w outer H s e C H' s'/\E (.ref C) none H'
section
variable {X:Cx}{pins:List (Addr×Obj)}{σ:St}{H H':Hp}{s s':qAl}{e C:Addr}
theorem nQ.un (F:nQ X.prog X.w X.stack H s e C H' s')(I:Inv X pins σ H s):Un (nK X.stack) [] H H' s.heap s'.heap:=by
 obtain⟨a0,B,fl,bZ,th,kp⟩:=F.ex;refine⟨fun b o q n h1 _=>fl.1 b o (kp b o q n h1),fun b o q n h1 _=>F.slot b o q n h1,fun b o q n _=>F.free b o q n,fun b o q _=>?_,F.kJ,F.jE,F.kK⟩;by_cases hb:b∈nK X.stack
 ·obtain⟨sl,z⟩:=F.slot b o q (I.lG b hb) hb;exact⟨_,z⟩
 ·obtain⟨o',z⟩:=th b o q hb;exact⟨o',fl.1 b o' z⟩
theorem nQ.bZ (F:nQ P w outer H s e C H' s'):kI P w H' s'.heap:=by
 obtain⟨a0,B,fl,bZ,_⟩:=F.ex;exact bZ.kept fl.1
theorem nQ.inv (F:nQ X.prog X.w X.stack H s e C H' s')(I:Inv X pins σ H s):Inv X pins σ H' s' :=
 I.call' (ch:=[]) F.os (F.un I) F.bZ F.bare fun b hb=>absurd hb (by simp)
theorem nQ.new (F:nQ P w outer H s e C H' s'):s.heap.get? e=none:=by
 obtain⟨a0,B,⟨f1,f2,f3,oe,vs,T,oT,ts,he,hc,hd,_⟩,bZ,th,_⟩:=F.ex;cases q:s.heap.get? e with
 | none=>rfl
 | some o =>
  by_cases hb:e∈nK outer
  ·obtain⟨_,o',ho',hnf⟩:=f3.mem hb;rw[he] at ho';cases ho';exact absurd hd (hnf vs)
  ·obtain⟨o',z⟩:=th e o q hb;rw[f2] at z;cases z
theorem nQ.Bv (F:nQ P w outer H s e C H' s'):H' e=none:=by
 obtain⟨a0,B,⟨f1,f2,_⟩,bZ,_⟩:=F.ex;cases q:H' e with
 | none=>rfl
 | some o =>
  obtain⟨ob,z⟩:=(bZ e o q).there;rw[f2] at z;cases z
theorem nQ.obj (F:nQ P w outer H s e C H' s'):∃oe vs,s'.heap.get? e=some oe/\oe.cls = .ref C/\oe.data = .fields vs:=by
 obtain⟨a0,B,⟨f1,f2,f3,oe,vs,T,oT,ts,he,hc,hd,_⟩,_⟩:=F.ex;exact⟨oe,vs,he,hc.1,hd⟩
theorem nQ.go (F:nQ P w outer H s e C H' s')(k:∀a0 B,qHg B outer e (.ref C) a0 s'.heap->(∀h'',qHg B outer e (.ref C) a0 h''->s'.heap.UpToSlots h''->nQ P w outer H s e C H' { s' with heap:=h'' })->Prop)
  (hk:∀a0 B fl g,k a0 B fl g):∃a0 B fl g,k a0 B fl g:=by
 obtain⟨a0,B,fl,bZ,th,kp⟩:=F.ex;refine⟨a0,B,fl,fun h'' fl2 up=>⟨F.os,F.bare,⟨a0,B,fl2,bZ,th,kp⟩,fun b o q n hb=>?_,F.free,F.kJ,F.jE,F.kK⟩,hk _ _ _ _⟩;obtain⟨sl,z⟩:=F.slot b o q n hb;obtain⟨_,o',ho',hnf⟩:=fl.2.2.1.mem hb;rw[z] at ho';cases ho';obtain⟨sl',z'⟩:=up b _ z hnf;exact⟨sl',z'⟩
theorem nQ.more (F:nQ P w outer H s e C H' s'):∃a0 B,qHg B outer e (.ref C) a0 s'.heap /\
  ∀h'',qHg B outer e (.ref C) a0 h''->s'.heap.UpToSlots h''->nQ P w outer H s e C H' { s' with heap:=h'' }:=by
 obtain⟨a0,B,fl,g,_⟩:=F.go (fun _ _ _ _=>True) fun _ _ _ _=>trivial;exact⟨a0,B,fl,g⟩
end
structure Own (X:Cx):Prop where
 st:X.stack=X.env::X.outer
 fr:X.env.frame=some X.env.locals
 ex:X.ex=[]
section
variable {X:Cx}{pins:List (Addr×Obj)}{σ:St}{H H':Hp}{s s':qAl}{e C:Addr}{Q:Unit->qAl->Prop}{E:qAi->qAl->Prop}{M:Model}
theorem Own.sub (O:Own X){b:Addr}(h:b∈X.fs):b∈nK X.stack:=by
 rw[O.st];unfold nK;rw[qCo,O.fr];exact qCh _ h
theorem Own.not (O:Own X)(I:Inv X pins σ H s){b:Addr}{o:Obj}(q:X.s₀.heap.get? b=some o)(h:b∉X.fs):b∉nK X.stack:=fun z=>by
 rcases List.mem_cons.mp (I.k4 b z) with r | r
 ·exact absurd (qAy (qAr q) I.ok.above) (by rw[r];exact qDc _)
 ·exact h r
theorem Own.Cs (O:Own X)(b:Addr):b∉X.ex:=by
 rw[O.ex];simp
theorem vL (O:Own X)(I:Inv X pins σ H s)(hx:qOs s.heap h' e (.ref C) vs)
  (k:∀h'',nQ X.prog X.w X.outer X.H₀ X.s₀ e C H { s with heap:=h'' }->Q () { s with heap:=h'' }):qBj M X.A (leaving X.env (.ref e)) Q E { s with heap:=h' }:=by
 have hst:=I.stack;have hfr:=I.ok.frames;rw[O.st] at hst hfr;have hin:∀env∈(X.env::X.outer),∀b,env.frame=some b->b∈nK X.stack:=fun env he b hb=>by
  rw[O.st];exact List.mem_filterMap.mpr ⟨env,he,hb⟩
 have get:∀{b:Addr}{o:Obj},s.heap.get? b=some o->b∉nK X.stack->(qJs s.heap (nK X.stack)).get? b=some o:=fun q hb=>qLq _ q hb;refine wpAny_leaves_madeW (base:=qJs s.heap (nK X.stack)) (h:=s.heap) (s:={ s with heap:=h' }) hfr O.fr (fun b o q=>qMa _ q) (PySem.W.funFrames_hide hst hin) hx fun h'' t x1 _ _ x4=>k h'' ⟨I.os,I.bare,⟨_,_,x1,fun a o q=>?_,fun b o q hb=>?_,fun b o q n hb=>?_⟩,fun b o q n hb=>?_,fun b o q n=>I.base.free b o q n (O.Cs b),I.base.kJ,I.base.jE,I.base.kK⟩
 ·refine(I.bZ a o q).tG (fun b u hb z=>get z fun hm=>?_) (fun _ z=>z) fun _ _ z=>z;have hn:=I.lG b hm;rcases hb with rfl | hb
  ·rw[hn] at q;cases q
  ·rw[hn] at hb;cases hb
 ·obtain⟨o',z⟩:=I.base.there b o q (O.Cs b);exact⟨o',get z (O.not I q hb)⟩
 ·exact get (I.base.keep b o q n hb (O.Cs b)) (O.not I q hb)
 ·obtain⟨sl,z⟩:=I.base.slot b o q n hb (O.Cs b);obtain⟨_,o',ho',hnf⟩:=I.ok.kL.mem hb;rw[q] at ho';cases ho';obtain⟨sl',z'⟩:=x4 b _ (hx.keeps b _ z) hnf;exact⟨sl',z'⟩
theorem Bw (O:Own X)(I:Inv X pins σ H s)(F:nQ X.prog X.w X.stack H s e C H' s')
  (k:∀h'',nQ X.prog X.w X.outer X.H₀ X.s₀ e C H' { s' with heap:=h'' }->Q () { s' with heap:=h'' }):qBj M X.A (leaving X.env (.ref e)) Q E s':=by
 obtain⟨a0,B,fl,bZ,th,kp⟩:=F.ex;have hfr:=I.ok.frames;rw[O.st] at fl hfr;refine wpAny_leaves_onW hfr O.fr fl fun h'' x1 x2=>k h'' ⟨F.os.trans I.os,F.bare,⟨a0,B,x1,bZ,fun b o q hb=>?_,fun b o q n hb=>?_⟩,fun b o q n hb=>?_,fun b o q n=>?_,fun b xs q=>F.kJ b xs (I.base.kJ b xs q),fun b o u q=>F.jE b o u (I.base.jE b o u q),fun b ps q=>?_⟩
 ·obtain⟨o',z⟩:=I.base.there b o q (O.Cs b);exact th b o' z (O.not I q hb)
 ·exact kp b o (I.base.keep b o q n hb (O.Cs b)) (I.base.free b o q n (O.Cs b)) (O.not I q hb)
 ·obtain⟨sl,z⟩:=I.base.slot b o q n hb (O.Cs b);obtain⟨sl',z'⟩:=F.slot b _ z (I.base.free b o q n (O.Cs b)) (O.sub hb);obtain⟨_,o',ho',hnf⟩:=I.ok.kL.mem hb;rw[q] at ho';cases ho';obtain⟨sl2,z2⟩:=x2 b _ z' hnf;exact⟨sl2,z2⟩
 ·obtain⟨o',z⟩:=I.base.there b o q (O.Cs b);exact F.free b o' z (I.base.free b o q n (O.Cs b))
 ·obtain⟨m1,e1⟩:=I.base.kK b ps q;obtain⟨m2,e2⟩:=F.kK b _ e1;exact⟨m1++m2,by rw[e2,qMv]⟩
end
abbrev XS:=qAi->St->Hp->Prop
structure Pass (X:Cx) (Ex:XS):Prop where
 on:∀(pins:List (Addr×Obj)) (σ:St) (H:Hp) (s:qAl) (e C:Addr) (H':Hp) (s':qAl),Inv X pins σ H s->nQ X.prog X.w X.stack H s e C H' s'->Ex (.ref C) σ H'->X.xe (.ref e) s'
structure NC (X:Cx) (Ex:XS):Prop extends Pass X Ex where
 nw:∀(pins:List (Addr×Obj)) (σ:St) (H:Hp) (s:qAl) (e C:Addr) (h':Heap) (vs:List qAi),Inv X pins σ H s->qOs s.heap h' e (.ref C) vs->Ex (.ref C) σ H->X.xe (.ref e) { s with heap:=h' }
 own:PassesOwn (qCa X.prog X.w) X.A X.env X.xe
theorem bN {P:qBx}{w:qDe}{K:qAb}{mg:Str->Option qAi}{base:Heap}{N:List Str}{qual:Str}{scope:qIx}{f:Addr}{cd:qAi}{A:qDd}{outer:List Env}{s:qAl}{H:Hp}{E:XK}:
  NC (n4 (fY P w) P w K mg base N qual scope f cd A outer s H E) (fun c _ H'=>E c none H') where
 on:=fun pins σ H1 s1 e C H' s' I F q=>Bw ⟨rfl,rfl,rfl⟩ I F fun h'' F'=>⟨e,C,H',rfl,F',q⟩
 nw:=fun pins σ H1 s1 e C h' vs I hx q=>vL ⟨rfl,rfl,rfl⟩ I hx fun h'' F'=>⟨e,C,H1,rfl,F',q⟩
 own:=PassesOwn.leaving
section
variable {P:qBx}{w:qDe}{K:qAb}{mg:Str->Option qAi}{base:Heap}
theorem Je.MP {x qual:Str}{st:Stmt}{f:Addr}{fd:qCl}{N ps:List Str}{k:Nat}{sp:Sp}(F:Je K x qual st f fd)(S:aO N ps (aJ st))(len:∀vs H Q E,sp vs H Q E->vs.length=ps.length)
  (hbody:∀(cdv:qAi) (A:qDd) (outer:List Env) (s:qAl) (H:Hp) (vs:List V) (Q:VK) (E:XK),dY k (A.deeper (qHo qual (aJ st) s.heap.objs.size f cdv))->sp vs H Q E ->
   ∃t,qM (n4 (fY P w) P w K mg base N qual (aJ st) f cdv A outer s H E) (cL st) t/\t { nx:=fun _ H'=>Q .non H',rt:=Q } (start N vs) H):jL P w K mg base (fY P w) (k+1) f fd ps sp:=by
 obtain⟨oc,od,kV,doc,pm,an,cdv,ct,osl,rfl,lk,hcd⟩:=F.ex;exact Hn lk hcd S len fun A outer s H vs Q E hr hsp=>hbody cdv A outer s H vs Q E hr hsp
end
def yD (sp:Sp)(dvs:List V)(Ex:XS)(t:TA):TE:=fun σ H Q=>t σ H fun vs H1=>sp (vs++dvs) H1 Q fun c _ H'=>Ex c σ H'
section
variable {X:Cx}{Ex:XS}{k:Nat}{f C:Addr}{fd:qCl}{ps:List Str}{sp:Sp}{dvs:List V}{ds:List qAi}{x m:Str}{p pos apos:Pos}{e o:Expr}{es:List Expr}{ta:TE}{t:TA}
theorem z7 (R:Pass X Ex)(F:jL X.prog X.w X.K X.mg X.base (fY X.prog X.w) k f fd ps sp)(hr:dY k X.A)(hb:Binds X.K fd ps ds)(hd:Vals dvs ds)
  (I:Inv X pins σ H s) (r:Vals vs us) (h:sp (vs++dvs) H Q fun c _ H'=>Ex c σ H'):qBj (qCa X.prog X.w) X.A (call (.ref f) us) (EP X pins σ Q) X.xe s:=by
 have r2:Vals (vs++dvs) (us++ds):=r.append hd;have hl:(us++ds).length=ps.length:=by rw[<- r2.length];exact F.len _ _ _ _ h
 refine qIc (qFg (F.run X.A X.stack s H ⟨us,[]⟩ (us++ds) (vs++dvs) Q _ hr I.FO (hb s us I.qY hl) r2 h) fun r s' hq=>?_);cases r with
 | error ev =>
  obtain⟨e,C,H',rfl,Fl,q⟩:=hq;exact R.on pins σ H s e C H' s' I Fl q
 | ok fl =>
  cases fl with
  | ret u=>exact I.after hq
  | next=>exact False.elim hq
  | brk=>exact False.elim hq
  | cont=>exact False.elim hq
theorem CP (R:Pass X Ex)(F:jL X.prog X.w X.K X.mg X.base (fY X.prog X.w) k f fd ps sp)(hr:dY k X.A)(hg:Gl X x)(hm:X.mg x=some (.ref f))(hk:qCs X.K (.ref f)=true)(hb:Binds X.K fd ps ds)(hd:Vals dvs ds)
  (ha:PA X (e::es) t) (hdb:(x == ("__debug__":Str))=false:=by decide) (he:qBo (e::es) X.env=(false,eval e X.env)::qBo es X.env:=by rfl) (hpl:(qGu pos (qBo es X.env)).any (·.1)=false:=by rfl) :
  PE X (.Call (.Name x p) (e::es) [] pos) (yD sp dvs Ex t):=by
 intro pins s σ H Q I h;refine qFe (iR I hg hm ?_ hdb);refine qFp (h₀:=X.base) I.ok.mod.FE hk (cE (ha pos pins s σ H _ I h) fun us s1 ⟨vs,H1,I1,r,q⟩=>⟨I1.qY,?_⟩) he hpl;exact z7 R F hr hb hd I1 r q
end
abbrev Bx:List qAi:=[.type "ValueError",.type "Exception",.type "BaseException",.type "object"]
structure gR (K:qAb) (C:Addr):Prop where
 cls:(qIv K C).isSome=true
 ty:qGc K (.ref C)=some (.type "type")
 ga:qAw K (.ref C) "__getattribute__"=some (some (.builtin "BaseException.__getattribute__"))
 gx:qAw K (.ref C) "__getattr__"=some none
 ca:qAw K (.ref C) "__class__"=some (some (.builtin "object.__class__"))
 cg:qEw K (.builtin "object.__class__") "__get__"=some (some (.builtin "getset_descriptor.__get__"))
 ct:qFo K (.builtin "object.__class__")=some true
 mo:qCf K C (.type "object")=some true
 mb:qCf K C (.type "BaseException")=some true
theorem FY {K:qAb}{h:Heap}{C:Addr}{bmB:List qAi}{newId:String}(X:K.In h)(q:qDh K C bmB newId=true):
  ∃bm N nm q bs hdct sn sub ab col dd k0 k1 k2 k3 k5 mN,h.get? C=some (excClassObj nm q C N bs bm hdct sn sub ab col dd k0 k1 k2 k3 k5 newId)/\h.Ns N mN/\mN "__init__"=none/\OwnTail h bmB bm:=by
 unfold qDh at q;split at q
 ·rename_i dd cd sl ho;split at q
  ·rename_i C' bm k0 k1 k2 k3 n k5 hm hs;rw[qCd,qCd,qCd,qCd,qCd] at q;obtain⟨⟨⟨⟨⟨q1,q2⟩,q3⟩,ht⟩,bZ⟩,hni⟩:=q;obtain rfl:=beq_iff_eq.mp q1;obtain rfl:=beq_iff_eq.mp q2;have hdel:cd.hasDel=false:=by
    cases z:cd.hasDel with
    | false=>rfl
    | true=>rw[z] at q3;cases q3
   have hni':=beq_iff_eq.mp hni;obtain⟨nm,bs,mro,ns,qn,hd,sn,sub,ab,col,del⟩:=cd;dsimp only at hm hdel bZ hni';subst hm hdel;obtain⟨l⟩:=sl;dsimp only at hs;subst hs;exact⟨bm,ns,nm,qn,bs,hd,sn,sub,ab,col,dd,k0,k1,k2,k3,k5,_,X _ _ ho,.of_isNs (PySem.W.isNs_of_in X bZ),PySem.W.nsMap_none_of_in X bZ hni',PySem.W.tail_of_in X ht⟩
  ·cases q
 ·cases q
def Jg (C:Addr)(Ex:XS)(t:TA):TS:=fun _ σ H=>t σ H fun vs H1=>vs.length<=qAf/\Ex (.ref C) σ H1
section
variable {X:Cx}{Ex:XS}{x:Str}{C:Addr}{e₀:Expr}{rest:List Expr}{np cpos pos:Pos}{t:TA}
theorem eS (R:NC X Ex)(hc:X.calm=true)(hg:Gl X x)(hm:X.mg x=some (.ref C))(q:qDh X.K C Bx "ValueError.__new__"=true)(ha:PA X (e₀::rest) t)
  (he:qBo (e₀::rest) X.env=(false,eval e₀ X.env)::qBo rest X.env:=by rfl) (hplain:(qGu cpos (qBo rest X.env)).any (·.1)=false:=by rfl) (hd:(x == ("__debug__":Str))=false:=by decide) :
  PS X (.Raise (some (.Call (.Name x np) (e₀::rest) [] cpos)) none pos) (Jg C Ex t):=by
 intro pins s σ H D I h;obtain⟨tl,N,nm,qn,bs,hdct,sn,sub,ab,col,dd,k0,k1,k2,k3,k5,mN,hC,hN,hni,T⟩:=FY I.mod.FE q;have FB:=PySem.F.excBase_ValueError;refine wpAny_Raise_call_subT (C:=C) (nm:=nm) (q:=qn) (N:=N) (bs:=bs) (bm:=tl) (hdct:=hdct) (sn:=sn) (sub:=sub) (ab:=ab) (col:=col) (dd:=dd) (k0:=k0) (k1:=k1) (k2:=k2) (k3:=k3) (k5:=k5)
  FB (mN:=mN) (T.hasType FB.hasBase) (I.ok.hd hc) (by rw[he];show(false||(qGu cpos (qBo rest X.env)).any (·.1))=false;rw[hplain];rfl) hni (iR I hg hm ⟨rfl,?_⟩ hd)
 have hs:=ha cpos pins s σ H _ I h;rw[he] at hs|-;refine qMf (cE hs fun us s2 ⟨vs,H2,I2,r,z,q2⟩=>?_);have kb:∀b o,X.base.get? b=some o->s2.heap.get? b=some o:=I2.bk;exact⟨rfl,by show us.length<=qAf;rw[<- r.length];exact z,kb _ _ hC,hN.keeps kb,T.keeps kb,fun h' e hx=>R.nw pins σ H2 s2 e C h' us I2 hx q2⟩
end
def vM (e C:Addr):HO:=.ext fun h=>∃oe,h.get? e=some oe/\oe.cls = .ref C
section
variable {X:Cx}{pins:List (Addr×Obj)}{σ:St}{H H':Hp}{s s':qAl}{e C:Addr}
theorem Inv.CQ (I:Inv X pins σ H s)(hn:H e=none)(h0:X.s₀.heap.get? e=none)(hL:e≠X.env.locals)(hc:∀x c,X.env.cells.lookup x=some c->c≠e)(hp:∀p∈X.pn++pins,p.1≠e)(hfs:e∉X.fs)
  (new:cO X.prog X.w (upd H e o) s.heap e o):Inv X pins σ (upd H e o) s:=by
 have ne:∀b u,H b=some u->b≠e:=fun b u q=>bB q hn;refine⟨I.ok,I.os,I.bare,⟨I.base.keep,I.base.slot,fun b ob q n hx=>?_,I.base.there,fun b xs q=>?_,fun b ob u q=>?_,fun b ps q=>?_⟩,I.loc,I.cell,?_,fun x c q=>?_,fun p q=>?_,fun b u q=>?_,I.len⟩
 ·rw[aL (fun z=>by rw[z,h0] at q;cases q)];exact I.base.free b ob q n hx
 ·have z:=I.base.kJ b xs q;rw[aL (ne _ _ z)];exact z
 ·have z:=I.base.jE b ob u q;rw[aL (ne _ _ z)];exact z
 ·obtain⟨m,z⟩:=I.base.kK b ps q;exact⟨m,by rw[aL (ne _ _ z)];exact z⟩
 ·rw[aL hL.symm];exact I.free
 ·rw[aL (hc x c q)];exact I.iE x c q
 ·obtain⟨z1,z2,z3⟩:=I.pin p q;exact⟨z1,by rw[aL (hp p q)];exact z2,z3⟩
 ·by_cases hb:b=e
  ·subst hb;rw[aC] at q;cases q;exact new
  ·rw[aL hb] at q;exact(I.bZ b u q).tG (fun c v _ z=>z) (fun c z=>by rw[aL (ne _ _ z)];exact z) fun c xs z=>by rw[aL (ne _ _ z)];exact z
end
def CS (X:Cx)(e:Addr):Cx:={ X with A:=X.A.mark (some (.ref e)),calm:=false,xe:=fun _ _=>False }
def CT (X:Cx)(pins:List (Addr×Obj))(Ex:XS):Cx :=
 { X with pn:=X.pn++pins,xe:=fun ev s'=>∃e C σ H s H',ev=Value.ref e/\Inv X pins σ H s/\nQ X.prog X.w X.stack H s e C H' s'/\Ex (.ref C) σ H' }
section
variable {X:Cx}{pins:List (Addr×Obj)}{σ:St}{H H':Hp}{s s':qAl}{e C:Addr}{Ex:XS}
theorem Inv.PM (I:Inv X pins σ H s)(e:Addr):Inv (CS X e) pins σ H s:=by
 obtain⟨⟨o1,o2,o3,o4,o5,o6,o7,o8,o9,o10,o11,o12,o13,o14,o15,o16,o17,o18⟩,i2,i3,i4,i5,i6,i7,i8,i9,i10,i11⟩:=I;exact⟨⟨o1,o2,o3,o4,o5,o6,o7,o8,fun z=>(qAj z).elim,o10,o11,o12,o13,o14,o15,o16,o17,o18⟩,i2,i3,i4,i5,i6,i7,i8,i9,i10,i11⟩
theorem Inv.z8 (hd:X.calm=true->X.A.handled=none)(I:Inv (CS X e) pins σ H s):Inv X pins σ H s:=by
 obtain⟨⟨o1,o2,o3,o4,o5,o6,o7,o8,o9,o10,o11,o12,o13,o14,o15,o16,o17,o18⟩,i2,i3,i4,i5,i6,i7,i8,i9,i10,i11⟩:=I;exact⟨⟨o1,o2,o3,o4,o5,o6,o7,o8,hd,o10,o11,o12,o13,o14,o15,o16,o17,o18⟩,i2,i3,i4,i5,i6,i7,i8,i9,i10,i11⟩
theorem Inv.ND (I:Inv X pins σ H s)(Ex:XS):Inv (CT X pins Ex) [] σ H s:=by
 obtain⟨⟨o1,o2,o3,o4,o5,o6,o7,o8,o9,o10,o11,o12,o13,o14,o15,o16,o17,o18⟩,i2,i3,i4,i5,i6,i7,i8,i9,i10,i11⟩:=I;exact⟨⟨o1,o2,o3,o4,o5,o6,o7,o8,o9,o10,o11,o12,o13,o14,o15,o16,o17,o18⟩,i2,i3,i4,i5,i6,i7,i8,fun p hp=>i9 p (by simpa [CT] using hp),i10,i11⟩
theorem Inv.pF (I:Inv (CT X pins Ex) pins2 σ H s):Inv X pins σ H s:=by
 obtain⟨⟨o1,o2,o3,o4,o5,o6,o7,o8,o9,o10,o11,o12,o13,o14,o15,o16,o17,o18⟩,i2,i3,i4,i5,i6,i7,i8,i9,i10,i11⟩:=I;exact⟨⟨o1,o2,o3,o4,o5,o6,o7,o8,o9,o10,o11,o12,o13,o14,o15,o16,o17,o18⟩,i2,i3,i4,i5,i6,i7,i8,fun p hp=>i9 p (qCc _ hp),i10,i11⟩
theorem CU:Pass (CT X pins Ex) Ex where
 on:=fun pins2 σ H s e C H' s' I F q=>⟨e,C,σ,H,s,H',rfl,I.pF,F,q⟩
theorem name_goes (I:Inv X pins σ H s)(hN:X.N.Nodup)(hi:X.N[i]?=some x)(hk:X.env.scope.names.lookup x=some .local)
  (h:∀s',Inv X pins (σ.set i none) H s'->Q () s'):qBj M A (do bindName X.env x .none;unbindBehindTheSuite X.env x pos) Q E s:=by
 obtain⟨m,hn,hl⟩:=id I.loc;have hcls:(X.env.scope.kind == .class||(X.env.scope.kind == .module&&X.env.locals != X.env.globals))=false:=by rw[I.ok.kind];rfl
 refine wpAny_nameGoes_keeps hk hn hcls fun h' v hn' hs=>?_;have below:∀b o,X.s₀.heap.get? b=some o->b≠X.env.locals:=fun b o e=>qBe (qAy (qAr e) I.ok.above);refine h _ ⟨I.ok,I.os,I.bare,⟨fun b o e n hb hx=>?_,fun b o e n hb hx=>?_,I.base.free,fun b o e hx=>?_,I.base.kJ,I.base.jE,I.base.kK⟩,⟨_,hn',fun j y v' e1 e2 e3=>?_⟩,fun y c e=>?_,I.free,I.iE,fun p hp=>?_,fun b ob e=>?_,by simpa using I.len⟩
 ·exact(hs.2 b (below b o e)).trans (I.base.keep b o e n hb hx)
 ·obtain⟨sl,e1⟩:=I.base.slot b o e n hb hx;exact⟨sl,(hs.2 b (below b o e)).trans e1⟩
 ·obtain⟨o',e1⟩:=I.base.there b o e hx;exact⟨o',(hs.2 b (below b o e)).trans e1⟩
 ·by_cases hj:j=i
  ·subst hj;rw[qGh] at e2;split at e2
   ·split at e2 <;> cases e2
   ·rename_i z;exact absurd rfl z
  ·rw[qIs (Ne.symm hj)] at e2;obtain⟨u',r',q⟩:=hl j y v' e1 e2 e3;refine⟨u',r',?_⟩;have hy:y≠x:=fun e=>hj (oW hN e1 (e▸hi));rcases q with ⟨k,e⟩ | ⟨k,c,e,z⟩
   ·exact .inl ⟨k,by show(if y=x then v else m y)=some u';rw[if_neg hy];exact e⟩
   ·exact .inr ⟨k,c,e,z.sameBut hs (I.FG y c e)⟩
 ·obtain⟨w',z⟩:=I.cell y c e;exact⟨w',z.sameBut hs (I.FG y c e)⟩
 ·obtain⟨e,n,ne,nf,d⟩:=I.pin p hp;exact⟨(hs.2 p.1 ne).trans e,n,ne,nf,d⟩
 ·refine(I.bZ b ob e).tG (fun c w' hc q=>(hs.2 c ?_).trans q) (fun _ q=>q) fun _ _ q=>q;rintro rfl;rcases hc with rfl | hc
  ·rw[I.free] at e;cases e
  ·rw[I.free] at hc;cases hc
end
theorem vN {K:qAb}{M:Model}{A:qDd}{E:qAi->qAl->Prop}{s:qAl}{e C S:Addr}{oe:Obj}{Q:Bool->qAl->Prop}(X:K.In s.heap)(c:gR K S)(he:s.heap.get? e=some oe)(hc:oe.cls = .ref C)
  (hs:qCf K C (.ref S)=some true) (h:Q true s):qBj M A (excMatches (.ref e) (.ref S)) Q E s:=by
 have L0:qDn M s.heap (qOe (.ref S)) (.type "type"):=PySem.W.looks_typeIn X c.ty;have L1:qDn M s.heap (isSubtype (.type "type") (.type "tuple")) false:=PySem.W.Looks.of_pure tc_notTuple;have L2:qDn M s.heap (qMz (.ref S) (.type "tuple")) false:=L0.andThen L1;have L3:qDn M s.heap (isSubtype (.ref S) (.type "BaseException")) true:=qGp X c.mb;have L4:qDn M s.heap (isSubtype (.ref C) (.ref S)) true:=qGp X hs;have L5:qDn M s.heap (qOe (.ref e)) (.ref C):=hc▸(PySem.W.Looks.ld he).andThen .now;have L6:qDn M s.heap (isType (.ref S)) true:=by
  have z:=c.cls;unfold qIv at z;split at z
  ·rename_i c' d' cd' sl' ho;intro A' Q' E' s' k q;unfold isType loadHead;exact qAa (wpAny_loadPart (k _ _ (X _ _ ho)) (qAe q))
  ·cases z
 obtain⟨hh,g,d,t,os⟩:=s;unfold excMatches;refine qAa (L2.at ?_);simp only[qEo,if_false];refine qAa (qAe ?_);simp only[List.forIn_cons,qOq];refine qAa (qAa ?_);unfold isExcClass;refine qAa (qAa (L6.at ?_));simp only[if_true];refine L3.at ?_;simp only[qLn,qEo,if_false];refine qAe (qAe ?_);refine qAa (L5.at ?_);refine qAa (qAa (qAa (L4.at ?_)));simp only[if_true];exact qAe (qAe (qAe h))
section
open Builtin Builtin.ObjectAttr Builtin.Getset_descriptor
theorem CV {K:qAb}{M:Model}{h:Heap}{e C:Addr}{name:Str}{a g:qAi}(X:K.In h)(h1:qAw K (.ref C) name=some (some a))(h2:qEw K a "__get__"=some (some g))(h3:qFo K a=some true):
  qDn M h (find (.ref e) (.ref C) name) (.bind g a):=by
 have L1:=qGl (M:=M) X h1;have L2:qDn M h (getOf (some a)) (some g):=PySem.W.looks_specialIn X h2;have L3:=PySem.W.looks_takesIn (M:=M) X h3;exact L1.andThen (L2.andThen ((show qDn M h (dataDescriptor? (some a) (some g)) (some (g,a)) from L3.andThen .now).andThen (PySem.W.Looks.tag .now)))
theorem qT {prog:qBx}{w:qDe}{A:qDd}{s:qAl}{K:qAb}{x C:Addr}{R:qQb->qAl->Prop}{tp:qAi}(X:K.In s.heap)(I:∀M,qDn M s.heap (qOe (.ref x)) (.ref C))
  (hm:qCf K C (.type "object")=some true) (h:R (.ok (.ret (.ref C))) s):qHa (qCa prog w) A (.call (.builtin "getset_descriptor.__get__") ⟨[.builtin "object.__class__",.ref x,tp],[]⟩) R s:=by
 obtain⟨hh,g,dr,t,os⟩:=s;have L0:=I (qCa prog w);have L1:=qGp (M:=qCa prog w) X hm;refine codeAny_call_builtin PySem.W.KF.slot_gs.plain PySem.W.KF.entry_gs (PySem.W.KF.slot_gs.check _ _ _ _ _ _ _ _ PySem.W.KF.type_class (PySem.W.KF.args_gs _ _ _) ?_);unfold Builtin.«getset_descriptor.__get__» descrGet;rw[PySem.W.dga_obj];refine qAa (qAe ?_);unfold descrGetter descrCheckInstance descrNameAndClass qMz;simp only[PySem.W.KF.owner_class];repeat lk
 refine⟨Code.quiet_builtin _ (by decide +kernel),qFh PySem.W.KF.entry_class ?_⟩;unfold Builtin.«object.__class__» shownTypeOf;repeat lk
 exact h
end
theorem tO {M:Model}{A:qDd}{E:qAi->qAl->Prop}{s:qAl}{K:qAb}{x C:Addr}{nameV:qAi}{Q:Unit->qAl->Prop}(X:K.In s.heap)(I:qDn M s.heap (qOe (.ref x)) (.ref C))
  (hm:qCf K C (.type "BaseException")=some true) (hq:Q () s):qBj M A (checkBuiltinCall "BaseException.__getattribute__" ⟨[.ref x,nameV],[]⟩) Q E s:=by
 have hk:builtinKind "BaseException.__getattribute__"=some .slot:=by decide +kernel
 have hsplit:splitId "BaseException.__getattribute__"=some ("BaseException","__getattribute__"):=by decide +kernel
 have L1:=qGp (M:=M) X hm;have L2:qDn M s.heap (qMz (.ref x) (.type "BaseException")) true:=I.andThen L1;have ha:=F.args_bexc_ga (.ref x) nameV;obtain⟨hh,g,dr,t,os⟩:=s;simp only[checkBuiltinCall,hk,hsplit];refine qAa (L2.at ?_);repeat (first | assumption | wp_step)
section
open Builtin Builtin.ObjectAttr Builtin.Getset_descriptor
theorem Jh {prog:qBx}{w:qDe}{A:qDd}{E:qAi->qAl->Prop}{s:qAl}{K:qAb}{x C:Addr}{Q:Option qAi->qAl->Prop}(X:K.In s.heap)(c:gR K C)(I:∀M,qDn M s.heap (qOe (.ref x)) (.ref C))
  (h:Q (some (.ref C)) { s with toks:=s.toks+1 }):qBj (qCa prog w) A (getAttr? (.ref x) "__class__") Q E s:=by
 obtain⟨hh,g,d,t,os⟩:=s;have L0:=I (qCa prog w);have L1:=qGl (M:=qCa prog w) X c.ga;have L2:=qGl (M:=qCa prog w) X c.gx;have L3:=CV (M:=qCa prog w) (e:=x) X c.ca c.cg c.ct;have hx2:(Value.builtin "BaseException.__getattribute__" == Value.builtin "object.__getattribute__")=false:=by decide +kernel
 have f3:=F.excAttr_ValueError.ga.bind (.ref x);unfold getAttr? getAttrBy? getAttrBy;refine qAa (wpAny_mkText (qAa (qHh (qDl (qAa (L0.at (qAa (L1.at ?_))))))));dsimp only;rw[if_neg (by rw[hx2,qGk];exact qAj)];unfold getAttrByItsOwn hookBefore;rw[if_pos (show onTheHeap (Value.ref C)=true from rfl)];refine qAa (L2.at ?_);refine qAa (qHh (qDl ?_));unfold callGetattribute;rw[if_neg (by decide)];unfold boundAndCalled;refine qAa (qGr f3 ?_);refine qIc (codeAny_call_builtin F.excAttr_ValueError.ga.plain F.entry_bexc_ga (tO X L0 c.mb ?_));show qBj _ _ (Builtin.«object.__getattribute__» ⟨[.ref x,.str "__class__" t],[]⟩) _ _ _;unfold Builtin.«object.__getattribute__»;refine qAa (qGr (a:=(Value.ref x,[Value.str "__class__" t])) rfl ?_);refine qAa (qGr (a:=("__class__":Str)) rfl ?_);refine qAa (L0.at (qAa (L3.at ?_)));show qBj _ _ (qLx [Value.builtin "object.__class__"] (call (.builtin "getset_descriptor.__get__") [.builtin "object.__class__",.ref x,.ref C]) >>= ret) _ _ _;refine qAa (qDl (qIc (qT (s:=⟨hh,g,d,t+1,os⟩) X I c.mo ?_)));show qBj _ _ (ret (Value.ref C)) _ _ _;refine qAe ?_;show qBj _ _ (handedOut (Value.ref C)) _ _ _;exact PySem.W.handed_on rfl (qAe h)
end
inductive Ji (K:qAb) (H:Hp):V->qAi->Prop where
 | of {v:V}{t:qAi} (h:jK K H v t):Ji K H v t
 | exc {e C:Addr} (h:H e=some (vM e C)) (c:gR K C):Ji K H (.ref e) (.ref C)
theorem CW {K:qAb}{e C:Addr}(c:gR K C):qOg K (.ref e) (.ref C) (fun h=>∃oe,h.get? e=some oe/\oe.cls = .ref C) where
 ty:=fun M h _ ⟨oe,h1,h2⟩=>h2▸(PySem.W.Looks.ld h1).andThen .now
 it:=fun _ _ X _=>by
  have z:=c.cls;unfold qIv at z;split at z
  ·rename_i c' d' cd' sl' ho;intro A' Q' E' s' k q;unfold isType loadHead;exact qAa (wpAny_loadPart (k _ _ (X _ _ ho)) (qAe q))
  ·cases z
 ne:=fun h tp dd its n sl X htp=>by
  refine Bool.eq_false_iff.mpr fun q=>?_;have e:C=tp:=Value.ref.inj (beq_iff_eq.mp q);subst e;have z:=c.cls;unfold qIv at z;split at z
  ·rename_i c' d' cd' sl' ho;have z:=(X _ _ ho).symm.trans htp;cases z
  ·cases z
 ca:=fun X ⟨oe,h1,h2⟩ k=>Jh X c (fun M=>h2▸(PySem.W.Looks.ld h1).andThen .now) k
section
variable {X:Cx}{pins:List (Addr×Obj)}{σ:St}{H:Hp}{s:qAl}
theorem Ji.Ri {x:V}{u t:qAi}(I:Inv X pins σ H s)(rx:RelV x u)(ty:Ji X.K H x t):∃φ:Heap->Prop,qOg X.K u t φ/\φ s.heap/\u≠.builtin "__main__.__loader__#opaque":=by
 cases ty with
 | exc h c =>
  rename_i e C;cases (show u=Value.ref e from rx);obtain⟨z,_⟩:=I.bZ e _ h;exact⟨_,CW c,z,fun z=>nomatch z⟩
 | of ty =>
  cases ty with
  | non=>cases (show u=Value.none from rx);exact⟨_,PySem.W.kitx_none,True.intro,fun z=>nomatch z⟩
  | bl y=>cases (show u=Value.bool y from rx);exact⟨_,PySem.W.kitx_bool,True.intro,fun z=>nomatch z⟩
  | int i=>obtain⟨t,q⟩:=(show ∃t,u=Value.int i t from rx);cases q;exact⟨_,PySem.W.kitx_int,True.intro,fun z=>nomatch z⟩
  | str y=>obtain⟨t,q⟩:=(show ∃t,u=Value.str y t from rx);cases q;exact⟨_,PySem.W.kitx_str,True.intro,fun z=>nomatch z⟩
  | flt y=>obtain⟨t,q⟩:=(show ∃t,u=Value.float y t from rx);cases q;exact⟨_,PySem.W.kitx_float,True.intro,fun z=>nomatch z⟩
  | @lst a xs ea =>
   cases (show u=Value.ref a from rx)
   obtain⟨_,_,n,_,h1⟩:=(show cO X.prog X.w H s.heap a (.lst xs) from I.bZ a _ ea);exact⟨_,qMg,⟨_,h1,rfl⟩,fun z=>nomatch z⟩
  | @frz a ob xs ea =>
   cases (show u=Value.ref a from rx)
   obtain⟨_,_,_,n,_,h1⟩:=(show cO X.prog X.w H s.heap a (.frz ob (.lst xs)) from I.bZ a _ ea);exact⟨_,qMg,⟨_,h1,rfl⟩,fun z=>nomatch z⟩
  | @tup a xs ea =>
   cases (show u=Value.ref a from rx)
   obtain⟨_,_,_,p⟩:=(show cO X.prog X.w H s.heap a (.tup xs) from I.bZ a _ ea);obtain⟨o,h1,h2,_⟩:=p;exact⟨_,PySem.W.kitx_tuple,⟨o,h1,h2⟩,fun z=>nomatch z⟩
  | @dK a kvs ea =>
   cases (show u=Value.ref a from rx)
   obtain⟨_,_,vs,_,p⟩:=(show cO X.prog X.w H s.heap a (.dK kvs) from I.bZ a _ ea);obtain⟨o,es,ep,h1,h2,_⟩:=p;exact⟨_,qMh,⟨o,h1,h2.1⟩,fun z=>nomatch z⟩
  | @dT a kvs ea =>
   cases (show u=Value.ref a from rx)
   obtain⟨_,_,xs,_,o,es,ep,h1,h2,_⟩:=(show cO X.prog X.w H s.heap a (.dT kvs) from I.bZ a _ ea);exact⟨_,qMh,⟨o,h1,h2.1⟩,fun z=>nomatch z⟩
  | @ins a C dx fs ea cl ha hn htk hm =>
   cases (show u=Value.ref a from rx)
   obtain⟨mA,O,_⟩:=oH I.bZ ea;obtain⟨od,J,_⟩:=O.look;exact⟨_,PySem.W.kitx_own (cl.get _) cl.hd ha hn htk hm,J,fun z=>nomatch z⟩
def yE:V->Option qAi
 | .ty n=>some (.type n)
 | .ref a=>some (.ref a)
 | _=>none
theorem vO (h:yE c=some cv)(r:RelV c u):u=cv:=by
 cases c <;> first | (cases h;exact r) | cases h
theorem rH:∀{cs:List V}{cvs us:List qAi},cs.map yE=cvs.map some->Vals cs us->us=cvs
 | [],[],_,_,.nil=>rfl
 | [],_::_,_,h,_=>by cases h
 | _::_,[],_,h,_=>by cases h
 | c::cs,cv::cvs,_,h,.cons r t=>by
  have h':=List.cons.inj (show yE c::cs.map yE=some cv::cvs.map some from h);rw[vO h'.1 r,rH h'.2 t]
theorem cV:gC X (.builtin "isinstance") (fun xs H Q=>∃v c t cv b,xs=[v,c]/\yE c=some cv/\Ji X.K H v t/\qBs X.K t cv=some b/\Q (.bl b) H):=by
 intro pins s σ H xs us Q I r h;obtain⟨v,c,t,cv,b,rfl,hc,ty,hk,q⟩:=h;obtain⟨u,cu,rfl,ru,rc⟩:=vals2 r;obtain rfl:=vO hc rc;obtain⟨φ,Z,p,ne⟩:=ty.Ri I ru;exact PySem.W.kia_one Z I.qY p hk ne fun tk=>⟨.bl b,H,I.tok tk,rfl,q⟩
theorem j6:gC X (.builtin "isinstance") (fun xs H Q=>∃v tp cs t cvs b,xs=[v,.ref tp]/\H tp=some (.tup cs)/\cs.map yE=cvs.map some/\Ji X.K H v t/\qCg X.K t cvs=some b/\Q (.bl b) H):=by
 intro pins s σ H xs us Q I r h;obtain⟨v,tp,cs,t,cvs,b,rfl,ht,hc,ty,hk,q⟩:=h;obtain⟨u,cu,rfl,ru,rc⟩:=vals2 r;cases (show cu=Value.ref tp from rc);obtain⟨φ,Z,p,ne⟩:=ty.Ri I ru;obtain⟨_,its,rv,o,h1,h2,n,h3⟩:=(show cO X.prog X.w H s.heap tp (.tup cs) from I.bZ tp _ ht);obtain rfl:=rH hc rv;obtain⟨oc,od,odt,osl⟩:=o;dsimp only at h2 h3;subst h2 h3;exact PySem.W.kia_tup Z I.qY p h1 hk ne fun tk=>⟨.bl b,H,I.tok tk,rfl,q⟩
end
section
variable {X:Cx}
theorem rJ (K:qAb)(h:X.K=K:=by rfl):gC X (.builtin "isinstance") (fun xs H Q=>∃v c t cv b,xs=[v,c]/\yE c=some cv/\Ji K H v t/\qBs K t cv=some b/\Q (.bl b) H):=h▸cV
theorem bV (K:qAb)(h:X.K=K:=by rfl):ML X (Nv K):=h▸bC
theorem iZ (K:qAb)(h:X.K=K:=by rfl):ML X (Nw K):=h▸bR
theorem rK (K:qAb)(h:X.K=K:=by rfl):gC X (.builtin "len") (fun xs H Q=>∃p ys,xs=[.ref p]/\(aR K H p ys\/cX K H p ys)/\Q (.int ys.length) H):=h▸aT
end
def Qq (tb:XS->TS)(K:qAb)(S:Addr)(i:Nat)(th:TS):TS:=fun D σ H =>
 tb (fun c σ' H'=>∃C,c = .ref C/\qCf K C (.ref S)=some true/\∀e,H' e=none ->
  th { nx:=fun σ2 H2=>D.nx (σ2.set i none) H2,rt:=D.rt,bk:=fun σ2 H2=>D.bk (σ2.set i none) H2,ct:=fun σ2 H2=>D.ct (σ2.set i none) H2 } (σ'.set i (some (.ref e))) (upd H' e (vM e C))) D σ H
theorem Jj (O:Own X)(hc:X.calm=true)(hb:∀pins Ex,qM (CT X pins Ex) body (tb Ex))(hg:Gl X x)(hm:X.mg x=some (.ref S))(cS:gR X.K S)
  (hN:X.N.Nodup) (hi:X.N[i]?=some n) (hl:X.env.scope.names.lookup n=some .local) (hh:∀e,qM (CS X e) (b₀::suite) th) (hd:(x == ("__debug__":Str))=false:=by decide) :
  PS X (.Try body [.ExceptHandler (some (.Name x np)) (some n) (b₀::suite) hpos] [] [] pos) (Qq tb X.K S i th):=by
 intro pins s σ H D I h;refine wpAny_Try_except (qFl (hb pins _ [] s σ H D (I.ND _) h) (fun f s1 q=>?_) fun ev s1 q=>?_)
 ·cases f with
  | next=>obtain⟨σ1,H1,I1,q1⟩:=q;exact qHm ⟨σ1,H1,I1.pF,q1⟩
  | brk=>obtain⟨σ1,H1,I1,q1⟩:=q;exact⟨σ1,H1,I1.pF,q1⟩
  | cont=>obtain⟨σ1,H1,I1,q1⟩:=q;exact⟨σ1,H1,I1.pF,q1⟩
  | ret u=>obtain⟨v1,σ1,H1,I1,r1,q1⟩:=q;exact⟨v1,σ1,H1,I1.pF,r1,q1⟩
 ·obtain⟨e,C,σ1,H1,s2,H2,rfl,I2,F,C',ec,hs,k⟩:=q;cases ec;have hfr:=I2.ok.frames;obtain⟨a0,B,fl,go⟩:=F.more;have st:=O.st;rw[st] at hfr;have fl':qHg B (X.env::X.outer) e (.ref C) a0 s1.heap:=st▸fl;refine wpAny_looks_onW hfr O.fr fl' fun h1 held1 up1=>?_;refine wpAny_landsW held1 fun h2 fl2 up2=>?_;have F2:nQ X.prog X.w X.stack H1 s2 e C H2 { s1 with heap:=h2 }:=go h2 (st.symm▸fl2) (up1.trans up2);have I3:=F2.inv I2;have I3h:=I3.PM e;obtain⟨oe,vs,he,hec,_⟩:=F2.obj;refine wpAny_handleBy_cons (codeAny_handlers_test (iR (X:=CS X e) I3h hg hm ?_ hd)) (by intro q;cases q);refine vN (K:=X.K) I3.qY cS he hec hs ?_;refine codeAny_handlers_suite_as (lands_againW fl2 fun h3 fl3 up3=>?_);have F3:nQ X.prog X.w X.stack H1 s2 e C H2 { s1 with heap:=h3 }:=go h3 (st.symm▸fl3) ((up1.trans up2).trans up3);have I4:=F3.inv I2;have nw:=F3.new;have hn:=F3.Bv;obtain⟨oe3,vs3,he3,hec3,_⟩:=F3.obj;have I5:Inv X pins σ1 (upd H2 e (vM e C)) { s1 with heap:=h3 }:=by
   refine I4.CQ hn ?_ ?_ (fun y c q z=>?_) (fun p hp z=>?_) (fun z=>?_) ⟨⟨oe3,he3,hec3⟩,⟨oe3,he3⟩,fun g1 g2 q1 q2=>?_⟩
   ·cases q:X.s₀.heap.get? e with
    | none=>rfl
    | some o =>
     obtain⟨o',z⟩:=I2.base.there e o q (O.Cs e);rw[nw] at z;cases z
   ·rintro rfl;obtain⟨m,⟨o,_,_,ho,_⟩,_⟩:=I2.loc;rw[nw] at ho;cases ho
   ·subst z;obtain⟨v,o,ho,_⟩:=I2.cell y c q;rw[nw] at ho;cases ho
   ·have ho:=(I2.pin p hp).1;rw[z,nw] at ho;cases ho
   ·obtain⟨_,o,ho,_⟩:=I2.kL.mem z;rw[nw] at ho;cases ho
   ·obtain⟨o,z1,z2⟩:=q1;exact⟨o,q2 o z1,z2⟩
  refine lH (X:=CS X e) (v:=.ref e) (I5.PM e) hN hi (.inl hl) rfl (fun s4 I6=>?_) (.inr hl);refine qFl (hh e pins s4 _ _ _ I6 (k e hn)) (fun f s5 q5=>?_) fun _ _ z=>z.elim;have hdl:X.calm=true->X.A.handled=none:=I2.ok.hd;cases f with
  | next=>obtain⟨σ5,H5,I7,q7⟩:=q5;exact name_goes (I7.z8 hdl) hN hi hl fun s6 I8=>⟨_,H5,I8,q7⟩
  | brk=>obtain⟨σ5,H5,I7,q7⟩:=q5;exact name_goes (I7.z8 hdl) hN hi hl fun s6 I8=>⟨_,H5,I8,q7⟩
  | cont=>obtain⟨σ5,H5,I7,q7⟩:=q5;exact name_goes (I7.z8 hdl) hN hi hl fun s6 I8=>⟨_,H5,I8,q7⟩
  | ret u=>obtain⟨v5,σ5,H5,I7,r7,q7⟩:=q5;exact name_goes (I7.z8 hdl) hN hi hl fun s6 I8=>⟨v5,_,H5,I8,r7,q7⟩
section
variable {X:Cx}
def Ho (K:qAb):R2:=fun x y H Q=>∃l b xs zs,x = .ref l/\y = .ref b/\aR K H l xs/\aR K H b zs/\xs.length+zs.length<=qAf/\∀p,H p=none->Q (.ref p) (upd H p (.lst (xs++zs)))
theorem fM:iH X (qFx .Add) (Ho X.K):=by
 intro pins s σ H x y v u Q I rx ry h;obtain⟨l,b,xs,zs,rfl,rfl,hH,hB,hz,q⟩:=h;cases rx;cases ry;obtain⟨its,r,pl,hl⟩:=I.list hH;obtain⟨its2,r2,pl2,hl2⟩:=I.list hB;obtain⟨⟨cls,dd,data,sl⟩,n,ho,hc,_,hd⟩:=pl;obtain⟨⟨cls2,dd2,data2,sl2⟩,n2,ho2,hc2,_,hd2⟩:=pl2;dsimp only at hc hd hc2 hd2;subst hc hd hc2 hd2;have ea:its.toArray++its2.toArray=(its++its2).toArray:=by simp
 refine concat_meets ⟨_,ho,rfl⟩ ⟨_,ho2,rfl⟩ noFill_list_add seq_list_add PySem.F.slot_list_add PySem.F.entry_list_add (PySem.F.args_list_add_2 _ _) (list_addW l b its.toArray its2.toArray n n2 dd dd2 sl sl2 (by rw[qAx,qAx,<- r.length,<- r2.length];exact hz)) ⟨ho,ho2,?_⟩;rw[ea];exact⟨.ref _,_,I.Nz (t':=s.toks) (r.append r2) (by rw[qAp];exact hz),rfl,q _ I.fresh⟩
def Jk (K:qAb)(f:Bool->Bool):R2:=fun x y H Q=>∃(l b:Addr) (ns ms:List Int),x = .ref l/\y = .ref b/\aR K H l (ns.map V.int)/\aR K H b (ms.map V.int)/\Q (.bl (f (decide (ns=ms)))) H
theorem Jl (hu:X.A.units+64<qLj):iH X (qDs .Eq) (Jk X.K id):=by
 intro pins s σ H x y v u Q I rx ry h;obtain⟨l,b,ns,ms,rfl,rfl,hH,hB,q⟩:=h;cases rx;cases ry;obtain⟨its,r,pl,hl⟩:=I.list hH;obtain⟨its2,r2,pl2,hl2⟩:=I.list hB;exact PySem.W.eq_intsK pl.isList (intsAre_of r) pl2.isList (intsAre_of r2) hu ⟨.bl (decide (ns=ms)),H,I,rfl,q⟩
theorem Jm (hu:X.A.units+64<qLj):iH X (qDs .NotEq) (Jk X.K (!·)):=by
 intro pins s σ H x y v u Q I rx ry h;obtain⟨l,b,ns,ms,rfl,rfl,hH,hB,q⟩:=h;cases rx;cases ry;obtain⟨its,r,pl,hl⟩:=I.list hH;obtain⟨its2,r2,pl2,hl2⟩:=I.list hB;exact PySem.W.ne_intsK pl.isList (intsAre_of r) pl2.isList (intsAre_of r2) hu ⟨.bl (!decide (ns=ms)),H,I,rfl,q⟩
def z9 (i j:Int):Prop:=FJ i j\/(i.natAbs<2^2000000/\j.natAbs<2^2000000)
theorem z9.ok (h:z9 i j):IntMulOk i j:=by
 rcases h with h | ⟨h1,h2⟩
 ·exact h.ok
 ·exact IntMulOk.of_le (m:=2000000) (n:=2000000) (intBits_le_iff.mpr h1) (intBits_le_iff.mpr h2) (by decide)
theorem bS:iH X (qFx .Mult) (rI z9 fun i j=>.int (i*j)):=IS fun i j t u s Q E hc h=>mul_int h hc.ok
def Aa (_ j:Int):Prop:=j≠0/\j.natAbs<2^8000
theorem Aa.ok (h:Aa i j):Builtin.divisionGoesByPylong i j=false:=by
 obtain⟨h0,h1⟩:=h;have hl:j.natAbs.log2<8000:=(Nat.log2_lt (by lia)).mpr h1;have hd:¬((if (j == 0)=true then 0 else j.natAbs.log2/30+1)>300):=by
  split
  ·lia
  ·lia
 show(decide ((if (j == 0)=true then 0 else j.natAbs.log2/30+1)>300)&&_)=false;rw[decide_eq_false hd,qFi]
theorem jN:iH X (qFx .FloorDiv) (rI Aa fun i j=>.int (i.fdiv j)):=IS fun i j t u s Q E hc h=>floordiv_int hc.1 h (.inl hc.ok)
theorem Inv.big (I:Inv X pins σ H s):qFm<s.heap.objs.size:=by
 have h:qAz<s.heap.objs.size:=(I.mod.glob.keeps I.bk).lt;exact qPo (by decide) h
theorem vP (h:Heap)(hb:qFm<h.objs.size):cO P w H (h.push { cls:=.type "dict",data:=.dict #[] }) h.objs.size (.dK []) :=
 ⟨qBr _,beq_eq_false_iff_ne.mpr (Ne.symm (qBe hb)),[],.nil,Heap.DictOf.new h⟩
def Jn:TE:=fun _ H Q=>∀p,H p=none->Q (.ref p) (upd H p (.dK []))
theorem CY:PE X (.Dict [] [] pos) Jn:=fun pins s σ H Q I h =>
 wpAny_Dict_empty ⟨.ref s.heap.objs.size,_,I.laid (a:=s.heap.objs.size) (o:=.dK []) (t':=s.toks) (fun _ _ q=>qAh _ q) (qAg _) (vP s.heap I.big),rfl,h _ (I.bZ.fresh (qAg _))⟩
end
structure Tx (K:qAb) (mg:Str->Option qAi) (x:Str) (st:Stmt) (ps:List Str) (f:Addr) (fd:qCl):Prop where
 fn:Je K x x st f fd
 at_:mg x=some (.ref f)
 bd:∀us:List qAi,us.length=ps.length->qNo fd ⟨us,[]⟩=pure (ps.zip us)
theorem bM {K:qAb}{mg:Str->Option qAi}{h:Heap}{x:Str}{st:Stmt}{ps:List Str}{f:Addr}{oc:qAi}{od an:Option Addr}{osl:Array (Option qAi)}{kV doc pm cdv ct:qAi}(X:K.In h)(G:h.Ns qAz mg)
  (a:qBi K qAz x=some (some (.ref f))) (l:K.lookup f=some ⟨oc,od,.func (qDf x x (eE st) (cL st) (aJ st) .none kV doc pm an cdv ct),osl⟩)
  (c:qDu K cdv x=true) (k:qCs K (.ref f)=true)
  (hb:∀(kV doc pm:qAi) (an:Option Addr) (cdv ct:qAi) (us:List qAi),us.length=ps.length->qNo (qDf x x (eE st) (cL st) (aJ st) .none kV doc pm an cdv ct) ⟨us,[]⟩=pure (ps.zip us)) :
  ∃f fd,Tx K mg x st ps f fd:=⟨f,_,CN l c k,qCu X G a,hb kV doc pm an cdv ct⟩
structure Df (P:qBx) (w:qDe) (K:qAb) (mg:Str->Option qAi) (base:Heap) (CX:Bq) (k:Nat) (x:Str) (ps:List Str) (sp:Sp) (f:Addr) (fd:qCl):Prop where
 at_:mg x=some (.ref f)
 kp:qCs K (.ref f)=true
 ok:jL P w K mg base CX k f fd ps sp
 bd:Binds K fd ps []
section
variable {P:qBx}{w:qDe}{K:qAb}{mg:Str->Option qAi}{base:Heap}{x:Str}{st:Stmt}{ps N:List Str}{f:Addr}{fd:qCl}{k:Nat}{sp:Sp}
theorem Tx.iJ (t:Tx K mg x st ps f fd)(S:aO N ps (aJ st))(len:∀vs H Q E,sp vs H Q E->vs.length=ps.length)
  (hbody:∀(cdv:qAi) (A:qDd) (outer:List Env) (s:qAl) (H:Hp) (vs:List V) (Q:VK) (E:XK),dY k (A.deeper (qHo x (aJ st) s.heap.objs.size f cdv))->sp vs H Q E ->
   ∃t,qM (n4 cA P w K mg base N x (aJ st) f cdv A outer s H E).MK (cL st) t/\t { nx:=fun _ H'=>Q .non H',rt:=Q } (start N vs) H):Df P w K mg base cA (k+1) x ps sp f fd :=
 ⟨t.at_,t.fn.kp,t.fn.ok S len hbody,.all t.bd⟩
theorem Tx.By (t:Tx K mg x st ps f fd)(S:aO N ps (aJ st))(len:∀vs H Q E,sp vs H Q E->vs.length=ps.length)
  (hbody:∀(cdv:qAi) (A:qDd) (outer:List Env) (s:qAl) (H:Hp) (vs:List V) (Q:VK) (E:XK),dY k (A.deeper (qHo x (aJ st) s.heap.objs.size f cdv))->sp vs H Q E ->
   ∃t,qM (n4 (fY P w) P w K mg base N x (aJ st) f cdv A outer s H E) (cL st) t/\t { nx:=fun _ H'=>Q .non H',rt:=Q } (start N vs) H):Df P w K mg base (fY P w) (k+1) x ps sp f fd :=
 ⟨t.at_,t.fn.kp,t.fn.MP S len hbody,.all t.bd⟩
end
section
variable {X:Cx}{Ex:XS}{k j:Nat}{f:Addr}{fd:qCl}{ps:List Str}{sp:Sp}{x:Str}{p pos:Pos}{e:Expr}{es:List Expr}{t:TA}
theorem aV (D:Df X.prog X.w X.K X.mg X.base cA k x ps sp f fd)(hr:dY j X.A)(hj:k<=j)(hg:Gl X x)(ha:PA X (e::es) t)(hdb:(x == ("__debug__":Str))=false:=by decide)(he:qBo (e::es) X.env=(false,eval e X.env)::qBo es X.env:=by rfl)(hpl:(qGu pos (qBo es X.env)).any (·.1)=false:=by rfl):
  PE X (.Call (.Name x p) (e::es) [] pos) (CI sp [] E0 t):=FP D.ok (hr.mono hj) hg D.at_ D.kp D.bd .nil NA ha hdb he hpl
theorem cR (R:Pass X Ex)(D:Df X.prog X.w X.K X.mg X.base (fY X.prog X.w) k x ps sp f fd)(hr:dY j X.A)(hj:k<=j)(hg:Gl X x)(ha:PA X (e::es) t)(hdb:(x == ("__debug__":Str))=false:=by decide)(he:qBo (e::es) X.env=(false,eval e X.env)::qBo es X.env:=by rfl)(hpl:(qGu pos (qBo es X.env)).any (·.1)=false:=by rfl):
  PE X (.Call (.Name x p) (e::es) [] pos) (yD sp [] Ex t):=CP R D.ok (hr.mono hj) hg D.at_ D.kp D.bd .nil ha hdb he hpl
end
theorem cI:Pass X (fun _ _ _=>False):=⟨fun _ _ _ _ _ _ _ _ _ _ q=>q.elim⟩
theorem CZ {n:Nat}{σ0:St}{H1:Hp}{i0:Nat}{c:TT}{te:TE}{Q:Addr->Hp->Prop}(f:Nat->Option V)(hn:n<=qAf)
  (step:∀(i:Nat) (H2:Hp) (k:VK) (k0:Hp->Prop),i<n->(∀y,f i=some y->k y H2)->(f i=none->k0 H2) ->
   c (σ0.set i0 (some (.int (0+(i:Int))))) H2 fun b H4=>if b=true then te (σ0.set i0 (some (.int (0+(i:Int))))) H4 k else k0 H4)
  (h:∀D,H1 D=none->Q D (upd H1 D (.lst ((qAn n).filterMap f)))) :
  ∀D,H1 D=none->∃W:Nat->Nat->St->Hp->Prop,(∃m,W 0 m σ0 (upd H1 D (.lst [])))/\∀i m σ1 H2,W i m σ1 H2 ->
   ((qN 0 n).stop i H2/\Q D H2)\/((qN 0 n).go i H2/\∃N:St->Hp->Prop,(∀σ' H',N σ' H'->∃m',m'<m/\W (i+1) m' σ' H') /\
    ∀x H',(qN 0 n).qQ i H2 x H'->aZ i0 x σ1 H' fun σ2 H3=>c σ2 H3 fun b H4=>if b=true then te σ2 H4 fun y H5=>∃xs,H5 D=some (.lst xs)/\xs.length<qAf/\N σ2 (upd H5 D (.lst (xs++[y]))) else N σ2 H4):=by
 intro D hD;refine⟨fun i m σ1 H2=>σ1.set i0 none=σ0.set i0 none/\H2=upd H1 D (.lst ((qAn i).filterMap f))/\i<=n/\m=n-i,⟨n,rfl,rfl,qBr _,rfl⟩,?_⟩;rintro i m σ1 H2 ⟨hσ,rfl,hi,rfl⟩;have hset:∀v:Option V,σ1.set i0 v=σ0.set i0 v:=fun v=>by
  have z:=congrArg (fun l=>qHt l i0 v) hσ;simpa using z
 rcases qAm i n with hlt | hge
 ·right
  refine⟨hlt,fun σ' H'=>σ'.set i0 none=σ0.set i0 none/\H'=upd H1 D (.lst ((qAn (i+1)).filterMap f)),fun σ' H' ⟨a,b⟩=>⟨n-(i+1),by lia,a,b,hlt,rfl⟩,?_⟩;rintro x H' ⟨rfl,rfl⟩;show c (σ1.set i0 (some (.int (0+(i:Int))))) _ _;rw[hset];refine step i _ _ _ hlt (fun y hy=>⟨_,aC,?_,?_,?_⟩) fun hno=>⟨?_,?_⟩
  ·refine qBh (qEs _ _) ?_;rw[qAs];lia
  ·simp
  ·rw[Fz,qBt,qCm];simp[hy]
  ·simp
  ·rw[qBt,qCm];simp[hno]
 ·left
  obtain rfl:i=n:=qCw hi hge;exact⟨qAg _,h D hD⟩
theorem Jo (h0:0<=i)(h1:i<xs.length):∃v,gQ xs i=some v/\v∈xs:=by
 have hn:i.toNat<xs.length:=by lia
 refine⟨xs[i.toNat],?_,qEi hn⟩;have z:=fK (xs:=xs) (j:=i.toNat) (qAd hn);rw[qCt h0] at z;exact z
theorem aG.aF (h:H p=none):aG H (upd H p o):=fun b u e=>by
 rw[aL (bB e h)];exact e
theorem aG.ty {K:qAb}{H H':Hp}{v:V}{t:qAi}(s:aG H H')(h:jK K H v t):jK K H' v t:=by
 cases h with
 | non=>exact .non
 | bl x=>exact .bl x
 | int i=>exact .int i
 | str x=>exact .str x
 | flt x=>exact .flt x
 | lst e=>exact .lst (s _ _ e)
 | frz e=>exact .frz (s _ _ e)
 | tup e=>exact .tup (s _ _ e)
 | dK e=>exact .dK (s _ _ e)
 | dT e=>exact .dT (s _ _ e)
 | ins e cl ha hn htk hm=>exact .ins (s _ _ e) cl ha hn htk hm
theorem dI:qCq "isinstance"=some (.builtin "isinstance"):=by decide +kernel
theorem tP:qCq "int"=some (.type "int"):=by decide +kernel
theorem FZ:qCq "bool"=some (.type "bool"):=by decide +kernel
theorem c5:qCq "list"=some (.type "list"):=by decide +kernel
theorem lO:qCq "tuple"=some (.type "tuple"):=by decide +kernel
theorem bY:qCq "len"=some (.builtin "len"):=by decide +kernel
theorem Dc:qCq "abs"=some (.builtin "abs"):=by decide +kernel
theorem NF:qCq "ValueError"=some (.type "ValueError"):=by decide +kernel
theorem yF {K:qAb}{C:Addr}(h2:qGc K (.ref C)=some (.type "type"))(h3:qAw K (.ref C) "__getattribute__"=some (some (.builtin "BaseException.__getattribute__")))(h4:qAw K (.ref C) "__getattr__"=some none)
  (h5:qAw K (.ref C) "__class__"=some (some (.builtin "object.__class__"))) (h6:qEw K (.builtin "object.__class__") "__get__"=some (some (.builtin "getset_descriptor.__get__"))) (h7:qFo K (.builtin "object.__class__")=some true)
  (h8:qCf K C (.type "object")=some true) (h9:qCf K C (.type "BaseException")=some true):gR K C:=by
 refine⟨?_,h2,h3,h4,h5,h6,h7,h8,h9⟩;unfold qCf at h8;obtain⟨cd,a,_⟩:=Option.bind_eq_some_iff.mp h8;rw[a];rfl
inductive Kd:String->Prop where
 | non:Kd "NoneType"
 | bl:Kd "bool"
 | int:Kd "int"
 | str:Kd "str"
 | tup:Kd "tuple"
 | lst:Kd "list"
 | dic:Kd "dict"
theorem Kd.Qr (K:qAb){T:String}(h:Kd T):qBs K (.type T) (.type "int")=some (T == "int" || T == "bool"):=by
 cases h <;> rfl
theorem Kd.NH (K:qAb){T:String}(h:Kd T):qBs K (.type T) (.type "bool")=some (T == "bool"):=by
 cases h <;> rfl
theorem Kd.vQ (K:qAb){T:String}(h:Kd T):qBs K (.type T) (.type "list")=some (T == "list"):=by
 cases h <;> rfl
theorem Kd.mX (K:qAb){T:String}(h:Kd T):qBs K (.type T) (.type "tuple")=some (T == "tuple"):=by
 cases h <;> rfl
def kR:V->Bool
 | .int _=>true
 | _=>false
structure Pl (K:qAb) (H:Hp) (v:V):Prop where
 ex:∃T,jK K H v (.type T)/\Kd T
theorem Pl.int {K:qAb}{H:Hp}(i:Int):Pl K H (.int i):=⟨_,.int i,.int⟩
theorem Pl.kR {K:qAb}{H:Hp}{v:V}{T:String}(h:jK K H v (.type T)):kR v=(T == "int"):=by
 cases h <;> rfl
theorem Pl.same {K:qAb}{H H':Hp}{v:V}(h:Pl K H v)(s:aG H H'):Pl K H' v:=let ⟨T,a,b⟩:=h.ex;⟨T,s.ty a,b⟩
def Ga (lo hi:Int):V->Bool
 | .int i=>decide (lo<=i)&&decide (i<=hi)
 | _=>false
section
variable {X:Cx}{pins:List (Addr×Obj)}{σ:St}{H H':Hp}{s:qAl}{h':Heap}
theorem Inv.oJ {t':Nat}{fp:List Addr}(I:Inv X pins σ H s)(k:∀b o,b∉fp->s.heap.get? b=some o->h'.get? b=some o)(hf:∀b∈fp,jI X pins H b):Inv X pins σ H { s with heap:=h',toks:=t' }:=by
 have nit:∀b u,H b=some u->b∉fp:=fun b u e z=>by rw[(hf b z).1] at e;cases e
 refine I.step (g':=s.gens) (d':=s.drawn) (ch:=fp) (fun b hb=>?_) (fun b o _ _ hc e _=>k b o hc e) (fun b o _ _ hc e _=>⟨o.slots,k b o hc e⟩) (fun _ _ _ _ n=>n)
  (fun b o hc e=>⟨o,k b o hc e⟩) (fun _ _ e=>e) (fun _ _ _ e=>e) (fun b ps e=>⟨#[],by rw[e];simp⟩) (fun m hm=>?_) (fun b u e=>?_) I.bare
 ·obtain⟨_,f1,_,f3,f4,f5⟩:=hf b hb;exact⟨f3,f1,f4,f5⟩
 ·obtain⟨o,es,ep,ho,r⟩:=hm;exact⟨o,es,ep,k _ o (fun z=>(hf _ z).2.1 rfl) ho,r⟩
 ·refine(I.bZ b u e).tG (fun c v hc q=>k c v ?_ q) (fun _ q=>q) fun _ _ q=>q;rcases hc with z | z
  ·rw[z];exact nit b u e
  ·exact nit c _ z
end
def Ab (K:qAb)(l1 l2:Addr):It :=
  ⟨fun i H=>∃xs ys x y,aR K H l1 xs/\aR K H l2 ys/\xs[i]?=some x/\ys[i]?=some y,
   fun i H v H'=>∃t x y,v = .ref t/\H t=none/\H'=upd H t (.tup [x,y])/\(∀xs,aR K H l1 xs->xs[i]?=some x)/\∀ys,aR K H l2 ys->ys[i]?=some y,
   fun i H=>∃xs ys,aR K H l1 xs/\aR K H l2 ys/\(xs.length<=i\/ys.length<=i)⟩
def NI (z TI TO i1 i2 l1 l2:Addr)(i:Nat)(h:Heap):Prop :=
 IsZip h z TI TO .none/\IsPair h TI (.ref i1) (.ref i2)/\(∃a b,IsPair h TO a b)/\h.IsListIter i1 l1 i/\h.IsListIter i2 l2 i
theorem Dd {P:qBx}{w:qDe}{K:qAb}{elts:List Expr}{x1}{pos:Pos}{z TI TO i1 i2 l1 l2:Addr}(D:ZipApart z TI TO i1 i2 l1 l2):
  Turn P w K (.Tuple elts x1 pos) (Ab K l1 l2) [z,TI,TO,i1,i2] z (NI z TI TO i1 i2 l1 l2) where
 mem:=by simp
 obj:=fun i h ⟨hz,hTI,⟨a,b,hTO⟩,⟨o1,h1,_,d1⟩,⟨o2,h2,_,d2⟩⟩ b hb=>by
  simp only[qDw,qCv,or_false] at hb;rcases hb with rfl | rfl | rfl | rfl | rfl
  ·exact⟨_,hz,fun v q=>nomatch q⟩
  ·exact⟨_,hTI,fun v q=>nomatch q⟩
  ·exact⟨_,hTO,fun v q=>nomatch q⟩
  ·exact⟨_,h1,fun v q=>by rw[d1] at q;cases q⟩
  ·exact⟨_,h2,fun v q=>by rw[d2] at q;cases q⟩
 keep:=fun i h h' ⟨hz,hTI,⟨a,b,hTO⟩,h1,h2⟩ k=>⟨k z (by simp) _ hz,k TI (by simp) _ hTI,⟨a,b,k TO (by simp) _ hTO⟩,h1.at fun o e=>k i1 (by simp) o e,h2.at fun o e=>k i2 (by simp) o e⟩
 item:=by
  intro X hP hw hK hc i pins s σ H E I hf st hg;subst hP hw hK;obtain⟨hz,hTI,⟨a,b,hTO⟩,h1,h2⟩:=st;obtain⟨xs,ys,x,y,q1,q2,hx,hy⟩:=hg;obtain⟨its1,r1,p1,z1⟩:=I.list q1;obtain⟨its2,r2,p2,z2⟩:=I.list q2;obtain⟨u,hu,ru⟩:=r1.get hx;obtain⟨v,hv,rv⟩:=r2.get hy;refine wpAny_pyNext_zip_item D hz hTI hTO h1 h2 p1.isList p2.isList (by simpa using hu) (by simpa using hv) fun h' a1 a2 a3 a4 a5 a6 a7=>⟨_,rfl,?_⟩;refine wpAny_letOwnedTupleGo_zip a1 fun h'' b1 hs=>?_;have lt:∀c o,s.heap.get? c=some o->c≠s.heap.objs.size:=fun c o e=>qBe (qAr e);have ltz:s.heap.objs.size≠z:=(lt z _ hz).symm;have I1:Inv X pins σ H { s with heap:=h'' }:=I.oJ (t':=s.toks) (fun c o hb e=>(hs.2 c (fun q=>hb (by simp[q]))).trans (a7 c o (fun q=>hb (by simp[q])) (fun q=>hb (by simp[q])) (fun q=>hb (by simp[q])) (fun q=>hb (by simp[q])) e)) hf;have ht:h''.get? s.heap.objs.size=some { cls:=.type "tuple",data:=.seq #[u,v] }:=(hs.2 _ ltz).trans a5;have hn:H s.heap.objs.size=none:=I.bZ.fresh (qAg _);have I2:Inv X pins σ (upd H s.heap.objs.size (.tup [x,y])) { s with heap:=h'' }:=by
   refine I1.CQ hn (qIt I.sz) (qBe I.lt).symm (fun y c q=>?_) (fun p hp=>?_) (I.IH (qAg _)) ⟨jB,[u,v],.cons ru (.cons rv .nil),_,ht,rfl,_,rfl⟩
   ·obtain⟨_,o,ho,_⟩:=I.cell y c q;exact lt c o ho
   ·exact lt _ _ (I.pin p hp).1
  refine⟨.ref s.heap.objs.size,_,I2,rfl,⟨_,x,y,rfl,hn,rfl,fun xs' q=>?_,fun ys' q=>?_⟩,⟨b1,(hs.2 _ D.TIz).trans (a7 _ _ D.TIz D.TITO D.TIi1 D.TIi2 hTI),⟨_,_,(hs.2 _ D.TOz).trans a2⟩,a3.at fun o e=>(hs.2 _ D.i1z).trans e,a4.at fun o e=>(hs.2 _ D.i2z).trans e⟩,fun c hb=>?_⟩
  ·rw[I.jG q q1];exact hx
  ·rw[I.jG q q2];exact hy
  ·obtain⟨o,ho,_⟩:∃o,s.heap.get? c=some o/\True:=by
    simp only[qDw,qCv,or_false] at hb;rcases hb with rfl | rfl | rfl | rfl | rfl
    ·exact⟨_,hz,trivial⟩
    ·exact⟨_,hTI,trivial⟩
    ·exact⟨_,hTO,trivial⟩
    ·obtain⟨o,ho,_⟩:=h1;exact⟨o,ho,trivial⟩
    ·obtain⟨o,ho,_⟩:=h2;exact⟨o,ho,trivial⟩
   rw[aL (lt c o ho)];exact(hf c hb).1
 done:=by
  intro X hP hw hK hc i pins s σ H E I hf st hg;subst hP hw hK;obtain⟨hz,hTI,⟨a,b,hTO⟩,h1,h2⟩:=st;obtain⟨xs,ys,q1,q2,hend⟩:=hg;obtain⟨its1,r1,p1,z1⟩:=I.list q1;obtain⟨its2,r2,p2,z2⟩:=I.list q2;refine wpAny_pyNext_zip_end (I.ok.hd hc) D hz hTI hTO h1 h2 p1.isList p2.isList ?_ fun h' k=>⟨rfl,I.oJ (t':=s.toks) (fun c o hb e=>k c o (fun q=>hb (by simp[q])) (fun q=>hb (by simp[q])) (fun q=>hb (by simp[q])) (fun q=>hb (by simp[q])) e) hf⟩;have e1:=r1.length;have e2:=r2.length;rcases hend with h | h
  ·left
   simp;lia
  ·right
   simp;lia
 self:=fun _ _ _ _ _ st h=>wpAny_pyIter_zip st.1 h
def Qs (K:qAb)(ta:TA):TI:=fun σ H R=>ta σ H fun vs H1=>∃l1 l2,vs=[.ref l1,.ref l2]/\(∃xs,aR K H1 l1 xs)/\(∃ys,aR K H1 l2 ys)/\R (Ab K l1 l2) H1
theorem Jp:qCq "zip"=some (.type "zip"):=by decide +kernel
theorem gU {X:Cx}{elts:List Expr}{x1}{tpos:Pos}{a b:Expr}{ta:TA}{p pos:Pos}(hg:Gl X "zip")(hm:X.mg "zip"=none)(ha:PA X [a,b] ta)(hs:qBo [a,b] X.env=[(false,eval a X.env),(false,eval b X.env)]:=by rfl)(hs2:qBo [b] X.env=[(false,eval b X.env)]:=by rfl):
  PI X (.Tuple elts x1 tpos) (.Call (.Name "zip" p) [a,b] [] pos) (Qs X.K ta):=by
 intro pins s σ H R I h;refine qMp (fD I hg hm Jp (qBv (cE (ha pos pins s σ H _ I h) fun us s1 ⟨vs,H1,I1,r1,q1⟩=>?_) (by rw[hs,hs2]) (by rw[hs2];rfl)));obtain⟨l1,l2,e,⟨xs,q1⟩,⟨ys,q2⟩,q⟩:=q1;subst e;obtain⟨u,v,rfl,ru,rv⟩:=vals2 r1;cases (show u=Value.ref l1 from ru);cases (show v=Value.ref l2 from rv);obtain⟨its1,r1,p1,z1⟩:=I1.list q1;obtain⟨its2,r2,p2,z2⟩:=I1.list q2;have t1:l1<s1.heap.objs.size:=by obtain⟨o,ho,_⟩:=p1.isList;exact qAr ho
 have t2:l2<s1.heap.objs.size:=by obtain⟨o,ho,_⟩:=p2.isList;exact qAr ho
 refine call_zip_2 p1.isList p2.isList fun h' hz hTI hTO hi1 hi2 hsz hk=>?_;refine wpAny_pyIter_zip hz ?_;have I2:Inv X pins σ H1 { s1 with heap:=h' }:=I1.kept (t':=s1.toks) hk;refine⟨_,[s1.heap.objs.size+4,s1.heap.objs.size+2,s1.heap.objs.size+3,s1.heap.objs.size,s1.heap.objs.size+1],_,_,H1,rfl,I2,Dd (zipApart_new t1 t2),⟨hz,hTI,⟨_,_,hTO⟩,hi1,hi2⟩,fun c hc=>?_,q⟩;have hge:s1.heap.objs.size<=c:=by
  simp only[qDw,qCv,or_false] at hc;rcases hc with h | h | h | h | h
  all_goals first | (rw[h];exact qKf _ _) | exact qIm h.symm
 have:=I1.Bk (H':=H1) hge (I1.bZ.fresh hge);exact this
theorem tQ {K:qAb}{l1 l2:Addr}{xs ys:List V}{g:TG}{tb:TS}{D:Ends}{σ:St}{H:Hp}(Pv:Nat->St->Hp->Prop)(h0:Pv 0 σ H)(hl:∀i σ H,i<=xs.length->Pv i σ H->aR K H l1 xs/\aR K H l2 ys)(hlen:xs.length=ys.length)
  (hs:∀i x y t σ H,xs[i]?=some x->ys[i]?=some y->H t=none->Pv i σ H->g (.ref t) σ (upd H t (.tup [x,y])) fun σ2 H2=>tb { D with nx:=Pv (i+1),ct:=Pv (i+1),bk:=D.nx } σ2 H2) (hd:∀σ H,Pv xs.length σ H->D.nx σ H) :
  ∃W:Nat->Nat->St->Hp->Prop,(∃m,W 0 m σ H)/\∀i m σ H,W i m σ H ->
   ((Ab K l1 l2).stop i H/\D.nx σ H)\/((Ab K l1 l2).go i H/\∃N:St->Hp->Prop,(∀σ' H',N σ' H'->∃m',m'<m/\W (i+1) m' σ' H')/\∀x H',(Ab K l1 l2).qQ i H x H'->g x σ H' fun σ2 H2=>tb { D with nx:=N,ct:=N,bk:=D.nx } σ2 H2):=by
 refine⟨fun i m σ H=>Pv i σ H/\i<=xs.length/\m=xs.length-i,⟨_,h0,qBr _,rfl⟩,?_⟩;rintro i m σ H ⟨hp,hi,rfl⟩;obtain⟨q1,q2⟩:=hl i σ H hi hp;rcases qAm i xs.length with hlt | hge
 ·right
  obtain⟨x,hx⟩:∃x,xs[i]?=some x:=⟨_,qAd hlt⟩;obtain⟨y,hy⟩:∃y,ys[i]?=some y:=⟨_,qAd (hlen▸hlt)⟩;refine⟨⟨xs,ys,x,y,q1,q2,hx,hy⟩,Pv (i+1),fun σ' H' h=>⟨_,qNf hlt (qGq _),h,hlt,rfl⟩,?_⟩;rintro v H' ⟨t,x',y',rfl,hn,rfl,e1,e2⟩;have e1':=e1 xs q1;have e2':=e2 ys q2;rw[hx] at e1';rw[hy] at e2';cases e1';cases e2';exact hs i x y t σ H hx hy hn hp
 ·left
  obtain rfl:i=xs.length:=qCw hi hge;exact⟨⟨xs,ys,q1,q2,.inl (qAg _)⟩,hd σ H hp⟩
@[reducible] def Ac (A:qDd):qDd:={ A with handled:=none }
structure fQ (k:Nat) (A:qDd):Prop where
 dp:A.depth+3*k+5<qJn
 un:A.units+16*k+200<qLj
theorem fQ.mono (r:fQ k A)(h:j<=k):fQ j A:=⟨qBh (by lia) r.dp,qBh (by lia) r.un⟩
theorem fQ.room (r:fQ k A):dY k (Ac A):=⟨rfl,r.dp,r.un⟩
theorem fQ.of (r:dY k (Ac A)):fQ k A:=⟨r.dp,r.un⟩
theorem fQ.PM (r:dY k A):fQ k (A.mark (some (.ref e))):=⟨r.dp,r.un⟩
theorem fQ.deeper (r:fQ (k+1) A)(env:Env):fQ k (A.deeper env):=fQ.of (r.room.deeper env)
structure Hq (P:qBx) (w:qDe) (K:qAb) (mg:Str->Option qAi) (base:Heap) (k:Nat) (f:Addr) (fd:qCl) (ps:List Str) (sp:Sp):Prop where
 len:∀vs H Q E,sp vs H Q E->vs.length=ps.length
 run:∀(A:qDd) (outer:List Env) (s:qAl) (H:Hp) (args:Args) (us:List qAi) (vs:List V) (Q:VK) (E:XK),fQ k A->qR P w K mg base A outer s H->qLz s fd args (ps.zip us)->Vals vs us->sp vs H Q E ->
  qHa (qCa P w) A (.call (.ref f) args) (CR cA outer P w H s Q E) s
def NJ (P:qBx)(w:qDe)(K:qAb)(mg:Str->Option qAi)(base:Heap)(N:List Str)(qual:Str)(scope:qIx)(f:Addr)(cd:qAi)(A:qDd)(outer:List Env)(s:qAl)(H:Hp):Cx :=
 { n4 cA P w K mg base N qual scope f cd A outer s H E0 with calm:=false,xe:=fun _ _=>False }
theorem yG {P:qBx}{w:qDe}{K:qAb}{mg:Str->Option qAi}{base:Heap}{N ps:List Str}{qual:Str}{scope:qIx}{f:Addr}{cd:qAi}{A:qDd}{outer:List Env}{s s1:qAl}{H:Hp}{us:List qAi}{vs:List V}
  (S:aO N ps scope) (e0:qR P w K mg base A outer s H) (hl:vs.length=ps.length) (r:Vals vs us)
  (x:InCallC s s.heap.objs.size (qOu (qHo qual scope s.heap.objs.size f cd).kindOf (ps.zip us) fun _=>none) (qId (s.heap.objs.size+1) scope.names []) (qOv (qHo qual scope s.heap.objs.size f cd).kindOf (ps.zip us) fun _=>none) s1) :
  Inv (NJ P w K mg base N qual scope f cd A outer s H) [] (start N vs) H s1:=by
 have e1:qR P w K mg base (Ac A) outer s H:=⟨e0.frames,e0.mod,e0.bs,e0.Fv,e0.kL,e0.Hj,e0.bZ,e0.bare⟩;have I:=rF (CX:=cA) (E:=E0) (qual:=qual) (f:=f) (cd:=cd) (A:=Ac A) S rfl e1 hl r x;obtain⟨⟨o1,o2,o3,o4,o5,o6,o7,o8,o9,o10,o11,o12,o13,o14,o15,o16,o17,o18⟩,i2,i3,i4,i5,i6,i7,i8,i9,i10,i11⟩:=I;exact⟨⟨o1,o2,o3,o4,o5,o6,o7,o8,fun z=>(qAj z).elim,o10,o11,o12,o13,o14,o15,o16,o17,o18⟩,i2,i3,i4,i5,i6,i7,i8,i9,i10,i11⟩
theorem Jq {P:qBx}{w:qDe}{K:qAb}{mg:Str->Option qAi}{base:Heap}{k:Nat}{f:Addr}{name qual:Str}{params:Arguments}{body:List Stmt}{scope:qIx}{dV kV doc pm cdv ct oc:qAi}{an od:Option Addr}
  {osl:Array (Option qAi)}{N ps:List Str}{sp:Sp} (lk:K.lookup f=some ⟨oc,od,.func (qDf name qual params body scope dV kV doc pm an cdv ct),osl⟩) (hcd:qDu K cdv qual=true) (S:aO N ps scope)
  (len:∀vs H Q E,sp vs H Q E->vs.length=ps.length)
  (hbody:∀(A:qDd) (outer:List Env) (s:qAl) (H:Hp) (vs:List V) (Q:VK) (E:XK),fQ k (A.deeper (qHo qual scope s.heap.objs.size f cdv))->sp vs H Q E ->
   ∃t,qM (NJ P w K mg base N qual scope f cdv A outer s H) body t/\t { nx:=fun _ H'=>Q .non H',rt:=Q } (start N vs) H) :
  Hq P w K mg base (k+1) f (qDf name qual params body scope dV kV doc pm an cdv ct) ps sp:=by
 refine⟨len,fun A outer s H args us vs Q E hr e0 hb r hsp=>?_⟩;have hl:=len _ _ _ _ hsp;have KX:K.In s.heap:=e0.mod.FE.keeps fun b o e=>(e0.bs b o e).1;have lim:s.heap.NoLimit:=e0.mod.nolimit.keeps fun b o e=>(e0.bs b o e).1;have hkind:∀y∈ps.zip us,scope.names.lookup y.1=some .local\/(scope.names.lookup y.1=some .cell/\((qId (s.heap.objs.size+1) scope.names []).lookup y.1).isSome=true):=fun⟨n,v⟩ hy=>by
  rcases S.par n (qFu hy).1 with q | q
  ·exact .inl q
  ·exact .inr ⟨q,qHr _ _ _ (.inl q)⟩
 have hdp:A.depth<qJn:=qBh (by lia) hr.dp;refine codeAny_call_function hdp (KX _ _ lk) rfl S.co S.gen rfl (qMb KX hcd) (hb _ _ _ _ ?_);refine wpAny_newFunctionEnv_cells S.kind hkind fun env he s1 x=>?_;subst he;refine⟨lim.keeps x.toInCall.keep,codeAny_func ?_⟩;obtain⟨t,ht,hq⟩:=hbody A outer s H vs Q E (hr.deeper _) hsp;have I:Inv (NJ P w K mg base N qual scope f cdv A outer s H) [] (start N vs) H s1:=yG S e0 hl r x;refine qFl (ht [] s1 (start N vs) H _ I hq) (fun fl s' hs=>?_) fun e s' hs=>False.elim hs;have fin:∀{σ':St}{H':Hp}{v:V}{u:qAi},Inv (NJ P w K mg base N qual scope f cdv A outer s H) [] σ' H' s'->RelV v u->Q v H'->CE outer P w H s Q u s' :=
  fun {σ' H' v u} J rv q=>⟨v,H',J.os,J.bare,J.base,J.bZ,rv,q⟩
 cases fl with
 | ret u =>
  obtain⟨v,σ',H',J,rv,q⟩:=hs;exact fin J rv q
 | next =>
  obtain⟨σ',H',J,q⟩:=hs;exact fin (v:=V.non) (u:=Value.none) J rfl q
 | brk =>
  obtain⟨_,_,_,q⟩:=hs;exact False.elim q
 | cont =>
  obtain⟨_,_,_,q⟩:=hs;exact False.elim q
structure PN (P:qBx) (w:qDe) (K:qAb) (mg:Str->Option qAi) (base:Heap) (k:Nat) (x:Str) (ps:List Str) (sp:Sp) (f:Addr) (fd:qCl):Prop where
 at_:mg x=some (.ref f)
 kp:qCs K (.ref f)=true
 ok:Hq P w K mg base k f fd ps sp
 bd:Binds K fd ps []
theorem Tx.RD {P:qBx}{w:qDe}{K:qAb}{mg:Str->Option qAi}{base:Heap}{x:Str}{st:Stmt}{ps N:List Str}{f:Addr}{fd:qCl}{k:Nat}{sp:Sp}(t:Tx K mg x st ps f fd)(S:aO N ps (aJ st))(len:∀vs H Q E,sp vs H Q E->vs.length=ps.length)
  (hbody:∀(cdv:qAi) (A:qDd) (outer:List Env) (s:qAl) (H:Hp) (vs:List V) (Q:VK) (E:XK),fQ k (A.deeper (qHo x (aJ st) s.heap.objs.size f cdv))->sp vs H Q E ->
   ∃t,qM (NJ P w K mg base N x (aJ st) f cdv A outer s H) (cL st) t/\t { nx:=fun _ H'=>Q .non H',rt:=Q } (start N vs) H):PN P w K mg base (k+1) x ps sp f fd:=by
 refine⟨t.at_,t.fn.kp,?_,.all t.bd⟩;obtain⟨oc,od,kV,doc,pm,an,cdv,ct,osl,rfl,lk,hcd⟩:=t.fn.ex;exact Jq lk hcd S len fun A outer s H vs Q E hr hsp=>hbody cdv A outer s H vs Q E hr hsp
section
variable {X:Cx}{k j:Nat}{f:Addr}{fd:qCl}{ps:List Str}{sp:Sp}{x:Str}{p pos:Pos}{e:Expr}{es:List Expr}{t:TA}
theorem NK (D:PN X.prog X.w X.K X.mg X.base k x ps sp f fd)(hr:fQ j X.A)(hj:k<=j)(hg:Gl X x)(ha:PA X (e::es) t)(hdb:(x == ("__debug__":Str))=false:=by decide)(he:qBo (e::es) X.env=(false,eval e X.env)::qBo es X.env:=by rfl)(hpl:(qGu pos (qBo es X.env)).any (·.1)=false:=by rfl):
  PE X (.Call (.Name x p) (e::es) [] pos) (CI sp [] E0 t):=by
 intro pins s σ H Q I h;refine qFe (iR I hg D.at_ ?_ hdb);refine qFp (h₀:=X.base) I.ok.mod.FE D.kp (cE (ha pos pins s σ H _ I h) fun us s1 ⟨vs,H1,I1,r,q⟩=>⟨I1.qY,?_⟩) he hpl;have r2:Vals (vs++[]) (us++[]):=r.append .nil;have hl:(us++[]).length=ps.length:=by rw[<- r2.length];exact D.ok.len _ _ _ _ q
 refine qIc (qFg (D.ok.run X.A X.stack s1 H1 ⟨us,[]⟩ (us++[]) (vs++[]) Q E0 (hr.mono hj) I1.FO (D.bd s1 us I1.qY hl) r2 q) fun r s' hq=>?_);cases r with
 | error e=>exact False.elim hq
 | ok fl =>
  cases fl with
  | ret u=>exact I1.after hq
  | next=>exact False.elim hq
  | brk=>exact False.elim hq
  | cont=>exact False.elim hq
end
end L2
namespace L2
open PySem PySem.Spec PyProof.Rows PySem.W PySem.Calls
def Sm (n:Nat)(i:Int):Prop:=i.natAbs<2^n
theorem De (P:St->Hp->Prop)(hk:∀σ H,P σ H->u D σ H)(h:(∀σ H,P σ H->u D σ H)->IL c t e { D with nx:=u D } (σ.set i (some v)) H):aZ i v σ H (IJ (IL c t e) u D):=h hk
theorem Sm.mono (h:Sm a i)(hab:a<=b):Sm b i:=qAy h (qBw (by decide) hab)
theorem Sm.le (h:Sm a i)(hij:j.natAbs<=i.natAbs):Sm a j:=qBh hij h
theorem Sm.mul (h1:Sm a i)(h2:Sm b j):Sm (a+b) (i*j):=by
 unfold Sm at *;rw[qDx,qPt];exact Nat.mul_lt_mul'' h1 h2
theorem Sm.add (h1:Sm a i)(h2:Sm a j):Sm (a+1) (i+j):=by
 unfold Sm at *;have e:2^(a+1)=2^a*2:=qIk ..;lia
theorem Sm.sub (h1:Sm a i)(h2:Sm a j):Sm (a+1) (i-j):=by
 unfold Sm at *;have e:2^(a+1)=2^a*2:=qIk ..;lia
theorem Sm.fdiv (h:Sm a i):Sm a (i.fdiv d):=h.le (qLh i d)
theorem Sm.zero:Sm n 0:=qGy _
theorem Sm.of (a:Nat){b:Nat}(h:i.natAbs<2^a)(hab:a<=b):Sm b i:=Sm.mono (a:=a) h hab
theorem Sm.mb (h1:Sm m i)(h2:Sm n j)(hm:m<=2000000:=by decide)(hn:n<=2000000:=by decide):z9 i j:=.inr ⟨h1.mono hm,h2.mono hn⟩
theorem Sm.db (h0:j≠0)(h1:Sm m j)(hm:m<=8000:=by decide):Aa i j:=⟨h0,h1.mono hm⟩
end L2
namespace PySem.SeqAt
open AutoSeq1 (wpAny_loadPart')
open MeetsSeq MeetsSeq2 MeetsSeq3 SeqRoads2
theorem n8 (f:Nat->β->Sem (ForInStep β))(I:Nat->β->qAl->Prop)(Q:β->qAl->Prop)(n:Nat)
  (turn:∀i b s,i<n->I i b s->qBj M A (f i b) (fun r s'=>match r with | .yield b'=>I (i+1) b' s' | .done b'=>Q b' s') E s)
  (fin:∀b s,I n b s->Q b s) (b:β) (h:I 0 b s):qBj M A (forIn [0:n] b f) Q E s:=by
 rw[Std.Legacy.Range.forIn_eq_forIn_range'];refine wpAny_forIn_list f (fun rest b s=>∃i,i<=n/\rest=List.range' i (n-i)/\I i b s) Q ?_ ?_ _ b ⟨0,qBr _,?_,h⟩
 ·rintro x rest b s ⟨i,hi,hr,hI⟩;have hlt:i<n:=by
   rcases qAm i n with z | z
   ·exact z
   ·rw[show n-i=0 by lia] at hr;cases hr
  obtain⟨k,hk⟩:∃k,n-i=k+1:=⟨n-i-1,by lia⟩;rw[hk,qNz] at hr;obtain⟨rfl,rfl⟩:=List.cons.inj hr;refine qFl (turn x b s hlt hI) (fun r s' hr=>?_) fun _ _ z=>z;cases r with
  | done b'=>exact hr
  | yield b'=>exact⟨x+1,hlt,by rw[show n-(x+1)=k by lia],hr⟩
 ·rintro b s ⟨i,hi,hr,hI⟩;have:i=n:=by
   rcases qAm i n with z | z
   ·obtain⟨k,hk⟩:∃k,n-i=k+1:=⟨n-i-1,by lia⟩;rw[hk,qNz] at hr;cases hr
   ·lia
  subst this;exact fin _ _ hI
 ·simp[Std.Legacy.Range.size]
theorem qU (l:Addr)(items:Array qAi)(n:Nat)(dd:Option Addr)(sl:Array (Option qAi))(x:qAi)(e:qAi->Bool)(j:Nat)(hj:j<items.size)
  (hit:e items[j]=true) (hno:∀m (hm:m<items.size),m<j->e items[m]=false) :
  Meets (Builtin.«tuple.index» ⟨[.ref l,x],[]⟩)
   (fun A R s=>s.heap.get? l=some { cls:=.type "tuple",dict:=dd,data:=.seq items n,slots:=sl }/\(∀y,y∈items->EqAt A.in1 s y x (e y))/\R (.ok (.ret (.int (j:Nat) s.toks))) { s with toks:=s.toks+1 }) :=
 .of_wp fun prog w A R s h=>by
  obtain⟨hp,g,d,tk,os⟩:=s;obtain⟨hl,he,h⟩:=h;wp_walk using wpAny_loadPart' hl,n8 _ (fun i b s'=>b.1=none/\s'=⟨hp,g,d,tk,os⟩/\i<=j) _ _
  case turn =>
   rintro i b s' hi ⟨hb,rfl,hij⟩;have hi':i<items.size:=by lia
   rw[qBq hi'];refine qAa (he _ (Array.getElem_mem hi') prog w _ _ ?_);rcases qAm i j with z | z
   ·rw[hno i hi' z];wp_walk;exact⟨rfl,rfl,z⟩
   ·obtain rfl:i=j:=by lia
    rw[hit];wp_walk;exact⟨_,rfl,h⟩
  case fin =>
   rintro⟨b1,b2⟩ s' ⟨hb,rfl,hij⟩;lia
  case h =>
   exact⟨rfl,rfl,qBr _⟩
end PySem.SeqAt
namespace L2
open PySem PySem.Spec PyProof.Rows
theorem aG.RE {K:qAb}{H H':Hp}{a:Addr}{xs:List V}(e:aG H H')(h:cX K H a xs):cX K H' a xs:=by
 rcases h with (h | ⟨o,h⟩) | h
 ·exact .inl (.inl (e _ _ h))
 ·exact .inl (.inr ⟨o,e _ _ h⟩)
 ·exact .inr h
theorem aG.upd_ne' (s:aG H H')(h:H D=none):aG H (upd H' D o):=fun b u e=>by
 rw[aL (bB e h)];exact s b u e
theorem tR (F:α->β):∀xs:List α,((qAn xs.length).filterMap fun i=>(xs[i]?).bind fun x=>some (F x))=xs.map F
 | []=>rfl
 | x::r=>by
  rw[qCn,qLs,qCo,qJh];show F x::_=F x::r.map F;rw[<- tR F r];rfl
theorem Ad (f:α->Option β):∀xs:List α,((qAn xs.length).filterMap fun i=>(xs[i]?).bind f)=xs.filterMap f
 | []=>rfl
 | x::r=>by
  rw[qCn,qLs,qCo,qJh,qCo,<- Ad f r];rfl
def SameBut (x:Addr)(H H':Hp):Prop:=∀b o,b≠x->H b=some o->H' b=some o
theorem aG.but (s:aG H H')(x:Addr):SameBut x H H':=fun b o _ e=>s b o e
theorem SameBut.then (a:SameBut x H H1)(b:aG H1 H2):SameBut x H H2:=fun c o n e=>b c o (a c o n e)
theorem SameBut.oA (a:SameBut x H H1)(u:HO):SameBut x H (upd H1 x u):=fun c o n e=>by rw[aL n];exact a c o n e
theorem SameBut.made (hx:H x=none)(hd:H dx=none)(ne:dx≠x)(s:SameBut x (upd (upd H dx (.own x)) x (.ins C dx [])) H'):aG H H':=fun b o e=>by
 have n1:b≠x:=bB e hx;have n2:b≠dx:=bB e hd;exact s b o n1 (by rw[aL n1,aL n2];exact e)
theorem jL.up {P:qBx}{w:qDe}{K:qAb}{mg:Str->Option qAi}{base:Heap}{k:Nat}{f:Addr}{fd:qCl}{ps:List Str}{sp:Sp}(F:jL P w K mg base cA k f fd ps sp):jL P w K mg base (fY P w) k f fd ps sp :=
 ⟨F.len,fun A outer s H args us vs Q E hr he hb hv hs=>qFg (F.run A outer s H args us vs Q E hr he hb hv hs) fun r s' h=>by
  cases r with
  | error e=>exact False.elim h
  | ok fl=>cases fl <;> exact h⟩
structure Mx (K:qAb) (x qual:Str) (st:Stmt) (ps:List Str) (f:Addr) (fd:qCl):Prop where
 fn:Je K x qual st f fd
 bd:∀us:List qAi,us.length=ps.length->qNo fd ⟨us,[]⟩=pure (ps.zip us)
theorem rL {K:qAb}{x qual:Str}{st:Stmt}{ps:List Str}{f:Addr}{oc:qAi}{od an:Option Addr}{osl:Array (Option qAi)}{kV doc pm cdv ct:qAi}
  (l:K.lookup f=some ⟨oc,od,.func (qDf x qual (eE st) (cL st) (aJ st) .none kV doc pm an cdv ct),osl⟩)
  (c:qDu K cdv qual=true) (k:qCs K (.ref f)=true)
  (hb:∀(kV doc pm:qAi) (an:Option Addr) (cdv ct:qAi) (us:List qAi),us.length=ps.length->qNo (qDf x qual (eE st) (cL st) (aJ st) .none kV doc pm an cdv ct) ⟨us,[]⟩=pure (ps.zip us)) :
  ∃fd,Mx K x qual st ps f fd:=⟨_,CN l c k,hb kV doc pm an cdv ct⟩
structure Md (P:qBx) (w:qDe) (K:qAb) (mg:Str->Option qAi) (base:Heap) (k:Nat) (ps:List Str) (sp:Sp) (f:Addr):Prop where
 ex:∃fd,jL P w K mg base (fY P w) k f fd ps sp/\Binds K fd ps []
section
variable {P:qBx}{w:qDe}{K:qAb}{mg:Str->Option qAi}{base:Heap}{x qual:Str}{st:Stmt}{ps N:List Str}{f:Addr}{fd:qCl}{k j:Nat}{sp sp':Sp}
theorem Mx.MQ (t:Mx K x qual st ps f fd)(S:aO N ps (aJ st))(len:∀vs H Q E,sp vs H Q E->vs.length=ps.length)
  (hbody:∀(cdv:qAi) (A:qDd) (outer:List Env) (s:qAl) (H:Hp) (vs:List V) (Q:VK) (E:XK),dY k (A.deeper (qHo qual (aJ st) s.heap.objs.size f cdv))->sp vs H Q E ->
   ∃t,qM (n4 cA P w K mg base N qual (aJ st) f cdv A outer s H E).MK (cL st) t/\t { nx:=fun _ H'=>Q .non H',rt:=Q } (start N vs) H):Md P w K mg base (k+1) ps sp f :=
 ⟨fd,(t.fn.ok S len hbody).up,.all t.bd⟩
end
section
variable {X:Cx}{Ex:XS}{k j:Nat}{f C:Addr}{ps:List Str}{sp:Sp}{x m:Str}{p pos apos:Pos}{e o:Expr}{es:List Expr}{ta:TE}{t:TA}
def Jr (K:qAb)(MO:Addr->Sp->Prop)(m:Str)(Ex:XS)(ta:TE)(t:TA):TE:=fun σ H Q=>ta σ H fun x H1=>∃a C dx fs g sp,x = .ref a/\H1 a=some (.ins C dx fs)/\fs.lookup m=none/\Fw K C/\Meth K C m g/\MO g sp /\
 t σ H1 fun vs H2=>sp (x::vs) H2 Q fun c _ H'=>Ex c σ H'
theorem gW (R:Pass X Ex)(he:PE X o ta)(hr:dY j X.A)(hj:k<=j)(ha:PA X (e::es) t)
  (hst:qBo (e::es) X.env=(false,eval e X.env)::qBo es X.env:=by rfl) (hpl:(qGu pos (qBo es X.env)).any (·.1)=false:=by rfl)
  (ht:eval (.Call (.Attribute o m apos) (e::es) [] pos) X.env=(do
   let ov <- eval o X.env
   standAt apos.atName
   let (f,first) <- qLx [ov] (getMethod ov m pl)
   callWith pos f first (qGu pos (qBo (e::es) X.env)) (backToKw pos (keywordEach [] X.env))):=by rfl) :
  PE X (.Call (.Attribute o m apos) (e::es) [] pos) (Jr X.K (fun g sp=>∃ps,Md X.prog X.w X.K X.mg X.base k ps sp g) m Ex ta t):=by
 intro pins s σ H Q I h;refine PySem.W.methodCall_KW (pl:=pl) (cE (he pins s σ H _ I h) fun u s1 ⟨x,H1,I1,rx,a,C,dx,fs,g,sp,ex,ea,l,c,hm,⟨ps,F⟩,q⟩=>?_) ht;subst ex;obtain rfl:u=Value.ref a:=rx;obtain⟨fd,F,hb⟩:=F.ex;refine xV I1 ea c hm l ?_;refine qFp (first:=[.ref a]) (h₀:=X.base) I.ok.mod.FE hm.kp (cE (ha pos pins s1 σ H1 _ I1 q) fun us s2 ⟨vs,H2,I2,r,q2⟩=>⟨I2.qY,?_⟩) hst hpl;exact z7 (us:=.ref a::us) (vs:=.ref a::vs) R F (hr.mono hj) hb .nil I2 (.cons rfl r) (by rw[qDo];exact q2)
def Js (C:Addr)(sp:Sp)(Ex:XS)(t:TA):TE:=fun σ H Q=>t σ H fun vs H1=>∀x dx,H1 x=none->H1 dx=none->dx≠x ->
 sp (.ref x::vs) (upd (upd H1 dx (.own x)) x (.ins C dx [])) (fun v H2=>v = .non/\Q (.ref x) H2) fun c _ H'=>Ex c σ H'
theorem Bz (R:Pass X Ex)(M:Mk X.K C f)(F:jL X.prog X.w X.K X.mg X.base (fY X.prog X.w) k f fd ps sp)(hr:dY (k+1) X.A)(hb:Binds X.K fd ps [])
  (I:Inv X pins σ H s) (r:Vals vs us)
  (h:∀x dx,H x=none->H dx=none->dx≠x->sp (.ref x::vs) (upd (upd H dx (.own x)) x (.ins C dx [])) (fun v H2=>v = .non/\Q (.ref x) H2) fun c _ H'=>Ex c σ H') :
  qBj (qCa X.prog X.w) X.A (call (.ref C) us) (EP X pins σ Q) X.xe s:=by
 have hq:=h (s.heap.objs.size+1) s.heap.objs.size (I.bZ.fresh (qEq _)) (I.bZ.fresh (qAg _)) (qBe (qGq _));have I2:=Inv.made (C:=C) I;have r2:Vals (V.ref (s.heap.objs.size+1)::vs) (Value.ref (s.heap.objs.size+1)::us):=.cons rfl r;have hl:(Value.ref (s.heap.objs.size+1)::us).length=ps.length:=by
  have e:=r2.length;rw[F.len _ _ _ _ hq] at e;exact e.symm
 have hb2:=hb { s with heap:=(s.heap.push qDp).push (qEj C s.heap.objs.size) } (Value.ref (s.heap.objs.size+1)::us) I2.qY (by rw[qDo];exact hl);rw[qDo] at hb2;refine qIc (CH (f:=f) I.qY M.makes M.init (beq_iff_eq.mp M.fn) (qFg (F.run _ X.stack _ _ ⟨Value.ref (s.heap.objs.size+1)::us,[]⟩ (Value.ref (s.heap.objs.size+1)::us) _ _ _ (hr.make C us [])
  (I2.FO.make C us []) hb2 r2 hq) fun r s' hq'=>?_))
 cases r with
 | error ev =>
  obtain⟨e,C',H',rfl,Fl,q⟩:=hq';exact R.on pins σ _ _ e C' H' s' I2 Fl q
 | ok fl =>
  cases fl with
  | ret u =>
   obtain⟨v,H',I3,rv,ev,q3⟩:=I2.after hq';subst ev;exact⟨rv,⟨V.ref (s.heap.objs.size+1),H',I3,rfl,q3⟩⟩
  | next=>exact False.elim hq'
  | brk=>exact False.elim hq'
  | cont=>exact False.elim hq'
theorem Dg (R:Pass X Ex)(M:Mk X.K C f)(F:Md X.prog X.w X.K X.mg X.base k ps sp f)(hr:dY j X.A)(hj:k+1<=j)(hg:Gl X x)(hm:X.mg x=some (.ref C))
  (ha:PA X (e::es) t) (hdb:(x == ("__debug__":Str))=false:=by decide) (he:qBo (e::es) X.env=(false,eval e X.env)::qBo es X.env:=by rfl) (hpl:(qGu pos (qBo es X.env)).any (·.1)=false:=by rfl) :
  PE X (.Call (.Name x p) (e::es) [] pos) (Js C sp Ex t):=by
 intro pins s σ H Q I h;obtain⟨fd,F,hb⟩:=F.ex;refine qFe (iR I hg hm ?_ hdb);refine qFp (h₀:=X.base) I.ok.mod.FE M.kp (cE (ha pos pins s σ H _ I h) fun us s1 ⟨vs,H1,I1,r,q⟩=>⟨I1.qY,?_⟩) he hpl;exact Bz R M F (hr.mono hj) hb I1 r q
end
structure Qt (K:qAb) (C:Addr):Prop where
 cl:Fw K C
 ca:qAw K (.ref C) "__class__"=some (some (.builtin "object.__class__"))
 cg:qEw K (.builtin "object.__class__") "__get__"=some (some (.builtin "getset_descriptor.__get__"))
 ct:qFo K (.builtin "object.__class__")=some true
 mo:qCf K C (.type "object")=some true
section
variable {X:Cx}
theorem jO (hh:X.calm=true):gC X (.builtin "sum") (fun xs H Q=>∃(p:Addr) (ns:List Int),xs=[.ref p]/\(aR X.K H p (ns.map V.int)\/cX X.K H p (ns.map V.int))/\Q (.int ns.sum) H):=by
 intro pins s σ H xs us Q I r h;obtain⟨p,ns,rfl,hq,q⟩:=h;obtain⟨u,rfl,rx⟩:=vals1 r;cases rx;rcases hq with hq | hq
 ·obtain⟨its,r',pl,hz⟩:=I.list hq;have hi:=intsAre_of r';obtain⟨xs,hx⟩:=hi.allInts.items;have hl':s.heap.IsList p (intItems xs):=hx▸pl.isList;refine sum_intListG (I.ok.hd hh) hl' fun h' tk t' hk=>?_;have e1:ns=xs.toList.map (·.1):=by
   rw[<- nums_intItems,<- hx];exact(show numsOf its.toArray.toList=ns from hi.numsOf).symm
  have e2:preSum (numAt xs) xs.size=ns.sum:=by
   rw[preSum_eq,qEt (by simp),e1]
  rw[e2];exact⟨.int ns.sum,H,I.kept (t':=tk) hk,⟨_,rfl⟩,q⟩
 ·obtain⟨its,r',pl,hz⟩:=I.tuple hq;have hi:=intsAre_of r';obtain⟨xs,hx⟩:=hi.allInts.items;have hl':s.heap.IsTuple p (intItems xs):=hx▸pl;refine PySem.W.ktm_sumG (I.ok.hd hh) hl' fun h' tk t' hk=>?_;have e1:ns=xs.toList.map (·.1):=by
   rw[<- nums_intItems,<- hx];exact(show numsOf its.toArray.toList=ns from hi.numsOf).symm
  have e2:preSum (numAt xs) xs.size=ns.sum:=by
   rw[preSum_eq,qEt (by simp),e1]
  rw[e2];exact⟨.int ns.sum,H,I.kept (t':=tk) hk,⟨_,rfl⟩,q⟩
theorem nS:∀{us:List qAi},Vals (bs.map V.bl) us->LSm.BoolsAre us bs:=by
 induction bs with
 | nil=>intro us h;cases h;exact .nil
 | cons b bs ih =>
  intro us h;cases h with
  | cons r t=>cases r;exact .cons b (ih t)
theorem jP (hh:X.calm=true):gC X (.builtin "all") (fun xs H Q=>∃(p:Addr) (bs:List Bool),xs=[.ref p]/\aR X.K H p (bs.map V.bl)/\Q (.bl (bs.all id)) H):=by
 intro pins s σ H xs us Q I r h;obtain⟨p,bs,rfl,hq,q⟩:=h;obtain⟨u,rfl,rx⟩:=vals1 r;cases rx;obtain⟨its,r',pl,hz⟩:=I.list hq;have hb:=nS r';have hl:=pl.isList;have hlt:p<s.heap.objs.size:=by obtain⟨_,e,_⟩:=hl;exact qAr e
 refine call_all_walk (qIb hl ?_);refine⟨s.heap.objs.size,[s.heap.objs.size,p],[s.heap.objs.size],its.toArray.size,_,_,fun i=>(bs[i]?).getD true,rfl,Walks.list (A:=X.A.in1) (I.ok.hd hh) _ p (qBe hlt) its.toArray,
  ⟨⟨_,qAt _ rfl,rfl,rfl⟩,hl.push _⟩,fun i v s' Q' E' hP hQ=>?_,fun h' tk hk=>?_⟩
 ·obtain⟨b,e,rfl⟩:=hb.get i v (by simpa using hP);simp only[e,qNd] at hQ;exact qDv hQ
 ·have e:((qAn its.toArray.size).all fun i=>(bs[i]?).getD true)=bs.all id:=by
   rw[qAx,hb.length];exact LSm.range_all bs
  rw[e];exact⟨.bl _,H,I.kept (t':=tk) (LSm.kept_iter hk),rfl,q⟩
theorem Dh (hh:X.calm=true):gC X (.builtin "any") (fun xs H Q=>∃(p:Addr) (bs:List Bool),xs=[.ref p]/\aR X.K H p (bs.map V.bl)/\Q (.bl (bs.any id)) H):=by
 intro pins s σ H xs us Q I r h;obtain⟨p,bs,rfl,hq,q⟩:=h;obtain⟨u,rfl,rx⟩:=vals1 r;cases rx;obtain⟨its,r',pl,hz⟩:=I.list hq;have hb:=nS r';have hl:=pl.isList;have hlt:p<s.heap.objs.size:=by obtain⟨_,e,_⟩:=hl;exact qAr e
 refine call_any_walk (qIb hl ?_);refine⟨s.heap.objs.size,[s.heap.objs.size,p],[s.heap.objs.size],its.toArray.size,_,_,fun i=>(bs[i]?).getD false,rfl,Walks.list (A:=X.A.in1) (I.ok.hd hh) _ p (qBe hlt) its.toArray,
  ⟨⟨_,qAt _ rfl,rfl,rfl⟩,hl.push _⟩,fun i v s' Q' E' hP hQ=>?_,fun h' tk hk=>?_⟩
 ·obtain⟨b,e,rfl⟩:=hb.get i v (by simpa using hP);simp only[e,qNd] at hQ;exact qDv hQ
 ·have e:((qAn its.toArray.size).any fun i=>(bs[i]?).getD false)=bs.any id:=by
   rw[qAx,hb.length];exact LSm.range_any bs
  rw[e];exact⟨.bl _,H,I.kept (t':=tk) (LSm.kept_iter hk),rfl,q⟩
theorem pG:qCq "sum"=some (.builtin "sum"):=by decide +kernel
theorem pH:qCq "all"=some (.builtin "all"):=by decide +kernel
theorem Jt:qCq "any"=some (.builtin "any"):=by decide +kernel
def Gb (K:qAb):V->List V->Hp->VK->Prop:=fun x vs H Q=>∃(p:Addr) (ns:List Int) (i:Int) (j:Nat),x = .ref p/\vs=[.int i]/\cX K H p (ns.map V.int)/\ns[j]?=some i/\(∀m,m<j->ns[m]?≠some i)/\Q (.int (j:Nat)) H
def RF (i:Int)(u:qAi):Bool:=match u with
 | .int k _=>k == i
 | _=>false
theorem k7:MM X "list.append" zZ:=mW
theorem Di:MM X "tuple.index" (Gb X.K):=by
 intro pins s σ H x vs v us Q I rx rv h;obtain⟨p,ns,i,j,rfl,rfl,hq,hj,hno,q⟩:=h;cases rx;obtain⟨u,rfl,ru⟩:=rv.one;obtain⟨t,rfl⟩:=(show ∃t,u=Value.int i t from ru);obtain⟨its,r',pl,hz⟩:=I.tuple hq;have hi:=intsAre_of r';obtain⟨⟨oc,od,odt,osl⟩,h1,h2,n,h3⟩:=id pl;dsimp only at h2 h3;subst h2 h3;have at_:∀(m:Nat) (k:Int),ns[m]?=some k->∃t,its[m]?=some (.int k t):=fun m k hm=>by
  obtain⟨u,hu,ru⟩:=r'.get (i:=m) (x:=.int k) (by rw[qAo,hm];rfl);obtain⟨t,rfl⟩:=(show ∃t,u=Value.int k t from ru);exact⟨t,hu⟩
 have hl:=r'.length;rw[qAc] at hl;obtain⟨t1,ht1⟩:=at_ j i hj;have hjl:j<its.length:=by
  rcases qAm j its.length with z | z
  ·exact z
  ·rw[qBm z] at ht1;cases ht1
 refine qJj F.slot_tuple_index ⟨_,h1,rfl⟩ F.entry_tuple_index (F.args_tuple_index_2 _ _) (SeqAt.qU p its.toArray n od osl (.int i t) (RF i) j (by simpa using hjl) ?_ fun m hm hmj=>?_) ⟨h1,fun y hy=>?_,?_⟩
 ·have e:its.toArray[j]'(by simpa using hjl) = .int i t1:=by
   have:=qAd hjl;rw[ht1] at this;simpa using (Option.some.inj this).symm
  rw[e];show(i == i)=true;simp
 ·have hml:m<its.length:=by simpa using hm
  have hmn:m<ns.length:=by lia
  obtain⟨t2,ht2⟩:=at_ m _ (qAd hmn);have e:its.toArray[m]'hm = .int ns[m] t2:=by
   have:=qAd hml;rw[ht2] at this;simpa using (Option.some.inj this).symm
  rw[e];show(ns[m] == i)=false;rw[beq_eq_false_iff_ne];intro z;exact hno m hmj (by rw[qAd hmn,z])
 ·have hy':y∈its:=by simpa using hy
  obtain⟨m,hm,e⟩:=qDb hy';have hmn:m<ns.length:=by lia
  obtain⟨t2,ht2⟩:=at_ m _ (qAd hmn);rw[qAd hm,e] at ht2;obtain rfl:y = .int ns[m] t2:=Option.some.inj ht2;exact SeqAt.EqAt.int_int _ _ _ _
 ·exact⟨.int (j:Nat),H,I.tok _,⟨_,rfl⟩,q⟩
mutual
inductive Dat (K:qAb) (H:Hp):V->qGv->Prop
 | int (i:Int):Dat K H (.int i) (.int i)
 | lst {p:Addr}{xs:List V}{ds:List qGv}:aR K H p xs->DatAll K H xs ds->Dat K H (.ref p) (.list ds)
 | tup {p:Addr}{xs:List V}{ds:List qGv}:cX K H p xs->DatAll K H xs ds->Dat K H (.ref p) (.tuple ds)
inductive DatAll (K:qAb) (H:Hp):List V->List qGv->Prop
 | nil:DatAll K H [] []
 | cons {x:V}{d:qGv}{xs:List V}{ds:List qGv}:Dat K H x d->DatAll K H xs ds->DatAll K H (x::xs) (d::ds)
end
end
theorem lP {prog:qBx}{w:qDe}{A:qDd}{E:qAi->qAl->Prop}{s:qAl}{t sl:Addr}{items:Array qAi}{vl vu:qAi}{lo hi:Option Int}{Q:qAi->qAl->Prop}(ht:IsTup s.heap t items)(hs:s.heap.IsSliceOf sl vl vu .none)(pl:qLc vl lo)(pu:qLc vu hi)
  (h0:HT.eY items.size 0 lo=0) (h1:HT.eY items.size items.size hi=items.size)
  (h:Q (.ref t) s):qBj (qCa prog w) A (qIp (.ref t) (.ref sl)) Q E s:=by
 obtain⟨os,hos,hcs,hds⟩:=id hs;have hTs:s.TypeIs (.ref sl) "slice":=⟨os,hos,hcs⟩;unfold qIp;try with_reducible refine qDl ?_
 first | refine qAa (qAe ?_) | skip
 refine qAa (wpAny_sequenceKey ht.typeIs (by decide) ?_);refine qAa (qEl (name:=Str.ofString "__getitem__") ht.typeIs qEm
  (qEg qEm ht.typeIs entry_tuple_getitem ?_ (args_tuple_getitem _ _)))
 show qBj _ _ (Builtin.Tuple.tupleItemsOf (.ref t) >>= _) _ _ s;refine qAa (tupleItemsOf_ ht ?_);refine qAa (qHw hTs ?_);rw[if_pos (by decide)];refine qAa (HT.iI hs pl pu ?_);have hy:(((HT.eY items.size 0 lo:Nat):Int) == 0&&(1:Int) == 1&&(HT.eY items.size items.size hi-HT.eY items.size 0 lo) == items.size)=true:=by
  rw[h0,h1];simp
 show qBj _ _ (if (((HT.eY items.size 0 lo:Nat):Int) == 0&&(1:Int) == 1&&(HT.eY items.size items.size hi-HT.eY items.size 0 lo) == items.size)=true then _ else _) _ _ s;rw[if_pos hy];refine qAa (m:=Builtin.Tuple.tupleIsExact (.ref t)) ?_;unfold Builtin.Tuple.tupleIsExact;refine qAa (qHw ht.typeIs (qAe ?_));rw[if_pos (by decide)];first
  | exact qAa (qHl (qAe ⟨_,rfl,qAe h⟩))
  | exact qAa (qHl (qAa (qAe (qAe ⟨_,rfl,qAe h⟩))))
def Qu (K:qAb):V->Option Int->Option Int->Hp->VK->Prop:=fun x lo hi H Q=>∃a xs,x = .ref a/\cX K H a xs/\∀p H',aG H H'->cX K H' p (gE xs lo hi)->Q (.ref p) H'
theorem Ae:Nu X (Qu X.K):=by
 intro pins s σ H x v vl vu lo hi sl Q I rx hs pl pu h;obtain⟨a,xs,rfl,hx,q⟩:=h;by_cases hw:HT.eY xs.length 0 lo=0/\HT.eY xs.length xs.length hi=xs.length
 ·cases rx
  obtain⟨its,r,ht,hz⟩:=I.tuple hx;have hlen:its.toArray.size=xs.length:=by rw[qAx];exact r.length.symm
  refine⟨"tuple",_,PyProof.Rows.slot_tuple_getitem.lookup,ht.typeIs,?_⟩;refine lP ht hs pl pu (by rw[hlen];exact hw.1) (by rw[hlen];exact hw.2) ⟨.ref a,H,I,rfl,q a H (.refl H) ?_⟩;unfold gE;rw[hw.1,hw.2,qKz,qMj,qEh];exact hx
 ·exact IY pins s σ H (.ref a) v vl vu lo hi sl Q I rx hs pl pu ⟨a,xs,rfl,hx,hw,fun p hp=>q p _ (.aF hp) (cX.of aC)⟩
section
variable {K:qAb}{a:Addr}{xs:List V}{σ0:St}{H1:Hp}{i0:Nat}{c:TT}{te:TE}{Q:Addr->Hp->Prop}
theorem cB (f:Nat->V->Option V)(hq:aR K H1 a xs)(hn:xs.length<=qAf)
  (step:∀(i:Nat) (x:V) (H2:Hp) (k:VK) (k0:Hp->Prop),aG H1 H2->xs[i]?=some x->(∀y,f i x=some y->∀H3,aG H2 H3->k y H3)->(f i x=none->∀H3,aG H2 H3->k0 H3) ->
   c (σ0.set i0 (some x)) H2 fun b H4=>if b=true then te (σ0.set i0 (some x)) H4 k else k0 H4)
  (h:∀D H2,H1 D=none->aG H1 H2->H2 D=some (.lst ((qAn xs.length).filterMap fun i=>(xs[i]?).bind (f i)))->Q D H2) :
  ∀D,H1 D=none->∃W:Nat->Nat->St->Hp->Prop,(∃m,W 0 m σ0 (upd H1 D (.lst [])))/\∀i m σ1 H2,W i m σ1 H2 ->
   ((zQ K a).stop i H2/\Q D H2)\/((zQ K a).go i H2/\∃N:St->Hp->Prop,(∀σ' H',N σ' H'->∃m',m'<m/\W (i+1) m' σ' H') /\
    ∀x H',(zQ K a).qQ i H2 x H'->aZ i0 x σ1 H' fun σ2 H3=>c σ2 H3 fun b H4=>if b=true then te σ2 H4 fun y H5=>∃xs,H5 D=some (.lst xs)/\xs.length<qAf/\N σ2 (upd H5 D (.lst (xs++[y]))) else N σ2 H4):=by
 intro D hD;refine⟨fun i m σ1 H2=>σ1.set i0 none=σ0.set i0 none/\aG H1 H2/\H2 D=some (.lst ((qAn i).filterMap fun i=>(xs[i]?).bind (f i)))/\i<=xs.length/\m=xs.length-i,⟨xs.length,rfl,.aF hD,aC,qBr _,rfl⟩,?_⟩;rintro i m σ1 H2 ⟨hσ,hs,hd,hi,rfl⟩;have hset:∀v:Option V,σ1.set i0 v=σ0.set i0 v:=fun v=>by
  have z:=congrArg (fun l=>qHt l i0 v) hσ;simpa using z
 rcases qAm i xs.length with hlt | hge
 ·right
  refine⟨⟨xs,xs[i],hs.seq hq,by simp[hlt]⟩,fun σ' H'=>σ'.set i0 none=σ0.set i0 none/\aG H1 H'/\H' D=some (.lst ((qAn (i+1)).filterMap fun i=>(xs[i]?).bind (f i))),fun σ' H' ⟨a,b,c⟩=>⟨xs.length-(i+1),by lia,a,b,c,hlt,rfl⟩,?_⟩;rintro x H' ⟨rfl,hx⟩;have hx:=hx xs (hs.seq hq);show c (σ1.set i0 (some x)) _ _;rw[hset];refine step i x _ _ _ hs hx (fun y hy H3 hs3=>⟨_,hs3 _ _ hd,?_,?_,?_,?_⟩) fun hno H3 hs3=>⟨?_,hs.trans hs3,?_⟩
  ·refine qBh (qEs _ _) ?_;rw[qAs];lia
  ·simp
  ·refine(hs.trans hs3).upd_ne' hD
  ·rw[aC,qBt,qCm];simp[hx,hy]
  ·simp
  ·rw[hs3 _ _ hd,qBt,qCm];simp[hx,hno]
 ·left
  obtain rfl:i=xs.length:=qCw hi hge;exact⟨⟨xs,hs.seq hq,qAg _⟩,h D _ hD hs hd⟩
end
section
variable {X:Cx}
end
section
variable {K:qAb}{lo:Int}{n:Nat}{σ0:St}{H1:Hp}{i0:Nat}{c:TT}{te:TE}{Q:Addr->Hp->Prop}
theorem jQ (f:Nat->Option V)(hn:n<=qAf)
  (step:∀(i:Nat) (H2:Hp) (k:VK) (k0:Hp->Prop),aG H1 H2->i<n->(∀y,f i=some y->∀H3,aG H2 H3->k y H3)->(f i=none->∀H3,aG H2 H3->k0 H3) ->
   c (σ0.set i0 (some (.int (lo+(i:Int))))) H2 fun b H4=>if b=true then te (σ0.set i0 (some (.int (lo+(i:Int))))) H4 k else k0 H4)
  (h:∀D H2,H1 D=none->aG H1 H2->H2 D=some (.lst ((qAn n).filterMap f))->Q D H2) :
  ∀D,H1 D=none->∃W:Nat->Nat->St->Hp->Prop,(∃m,W 0 m σ0 (upd H1 D (.lst [])))/\∀i m σ1 H2,W i m σ1 H2 ->
   ((qN lo n).stop i H2/\Q D H2)\/((qN lo n).go i H2/\∃N:St->Hp->Prop,(∀σ' H',N σ' H'->∃m',m'<m/\W (i+1) m' σ' H') /\
    ∀x H',(qN lo n).qQ i H2 x H'->aZ i0 x σ1 H' fun σ2 H3=>c σ2 H3 fun b H4=>if b=true then te σ2 H4 fun y H5=>∃xs,H5 D=some (.lst xs)/\xs.length<qAf/\N σ2 (upd H5 D (.lst (xs++[y]))) else N σ2 H4):=by
 intro D hD;refine⟨fun i m σ1 H2=>σ1.set i0 none=σ0.set i0 none/\aG H1 H2/\H2 D=some (.lst ((qAn i).filterMap f))/\i<=n/\m=n-i,⟨n,rfl,.aF hD,aC,qBr _,rfl⟩,?_⟩;rintro i m σ1 H2 ⟨hσ,hs,hd,hi,rfl⟩;have hset:∀v:Option V,σ1.set i0 v=σ0.set i0 v:=fun v=>by
  have z:=congrArg (fun l=>qHt l i0 v) hσ;simpa using z
 rcases qAm i n with hlt | hge
 ·right
  refine⟨hlt,fun σ' H'=>σ'.set i0 none=σ0.set i0 none/\aG H1 H'/\H' D=some (.lst ((qAn (i+1)).filterMap f)),fun σ' H' ⟨a,b,c⟩=>⟨n-(i+1),by lia,a,b,c,hlt,rfl⟩,?_⟩;rintro x H' ⟨rfl,rfl⟩;show c (σ1.set i0 (some (.int (lo+(i:Int))))) _ _;rw[hset];refine step i _ _ _ hs hlt (fun y hy H3 hs3=>⟨_,hs3 _ _ hd,?_,?_,?_,?_⟩) fun hno H3 hs3=>⟨?_,hs.trans hs3,?_⟩
  ·refine qBh (qEs _ _) ?_;rw[qAs];lia
  ·simp
  ·exact(hs.trans hs3).upd_ne' hD
  ·rw[aC,qBt,qCm];simp[hy]
  ·simp
  ·rw[hs3 _ _ hd,qBt,qCm];simp[hno]
 ·left
  obtain rfl:i=n:=qCw hi hge;exact⟨qAg _,h D _ hD hs hd⟩
end
section
variable {X:Cx}
theorem BA (K:qAb)(hh:X.calm=true)(h:X.K=K:=by rfl):gC X (.builtin "sum") (fun xs H Q=>∃(p:Addr) (ns:List Int),xs=[.ref p]/\(aR K H p (ns.map V.int)\/cX K H p (ns.map V.int))/\Q (.int ns.sum) H):=by
 subst h;exact jO hh
theorem Ju (K:qAb)(h:X.K=K:=by rfl):iH X (qDs .In) (Qn K false):=by
 subst h;exact Br
end
def Hr (K:qAb)(l:Addr):It :=
  ⟨fun i H=>∃xs x,aR K H l xs/\xs[i]?=some x,
   fun i H v H'=>∃t x,v = .ref t/\H t=none/\H'=upd H t (.tup [.int (i:Int),x])/\∀xs,aR K H l xs->xs[i]?=some x,
   fun i H=>∃xs,aR K H l xs/\xs.length<=i⟩
def Jv (e it l:Addr)(i:Nat)(h:Heap):Prop:=(∃old,IsEnum h e it (i:Int) old)/\h.IsListIter it l i
theorem BB {P:qBx}{w:qDe}{K:qAb}{elts:List Expr}{x1}{pos:Pos}{e it l:Addr}(hne:e≠it):
  Turn P w K (.Tuple elts x1 pos) (Hr K l) [e,it] e (Jv e it l) where
 mem:=by simp
 obj:=fun i h ⟨⟨old,he⟩,⟨o,ho,_,d⟩⟩ b hb=>by
  simp only[qDw,qCv,or_false] at hb;rcases hb with rfl | rfl
  ·exact⟨_,he,fun v q=>nomatch q⟩
  ·exact⟨_,ho,fun v q=>by rw[d] at q;cases q⟩
 keep:=fun i h h' ⟨⟨old,he⟩,h1⟩ k=>⟨⟨old,k e (by simp) _ he⟩,h1.at fun o q=>k it (by simp) o q⟩
 item:=by
  intro X hP hw hK hc i pins s σ H E I hf st hg;subst hP hw hK;obtain⟨⟨old,he⟩,h1⟩:=st;obtain⟨xs,x,q1,hx⟩:=hg;obtain⟨its1,r1,p1,z1⟩:=I.list q1;obtain⟨u,hu,ru⟩:=r1.get hx;refine wpAny_pyNext_enum_item he h1 p1.isList (by simpa using hu) hne fun h' a1 a2 a3 a4 a5=>⟨_,rfl,?_⟩;refine wpAny_letOwnedTupleGo_enum a1 fun h'' b1 hs=>?_;have lt:∀c o,s.heap.get? c=some o->c≠s.heap.objs.size:=fun c o e=>qBe (qAr e);have lte:s.heap.objs.size≠e:=(lt e _ he).symm;have I1:Inv X pins σ H { s with heap:=h'',toks:=s.toks+1 }:=I.oJ (t':=s.toks+1) (fun c o hb e=>(hs.2 c (fun q=>hb (by simp[q]))).trans (a5 c o (fun q=>hb (by simp[q])) (fun q=>hb (by simp[q])) e)) hf;have ht:h''.get? s.heap.objs.size=some { cls:=.type "tuple",data:=.seq #[.int i s.toks,u] }:=(hs.2 _ lte).trans a3;have hn:H s.heap.objs.size=none:=I.bZ.fresh (qAg _);have I2:Inv X pins σ (upd H s.heap.objs.size (.tup [.int (i:Int),x])) { s with heap:=h'',toks:=s.toks+1 }:=by
   refine I1.CQ hn (qIt I.sz) (qBe I.lt).symm (fun y c q=>?_) (fun p hp=>?_) (I.IH (qAg _)) ⟨jB,[.int i s.toks,u],.cons ⟨_,rfl⟩ (.cons ru .nil),_,ht,rfl,_,rfl⟩
   ·obtain⟨_,o,ho,_⟩:=I.cell y c q;exact lt c o ho
   ·exact lt _ _ (I.pin p hp).1
  refine⟨.ref s.heap.objs.size,_,I2,rfl,⟨_,x,rfl,hn,rfl,fun xs' q=>?_⟩,⟨⟨u,?_⟩,a2.at fun o e=>(hs.2 _ hne.symm).trans e⟩,fun c hb=>?_⟩
  ·rw[I.jG q q1];exact hx
  ·rw[show((i+1:Nat):Int)=(i:Int)+1 by push_cast;rfl];exact b1
  ·obtain⟨o,ho,_⟩:∃o,s.heap.get? c=some o/\True:=by
    simp only[qDw,qCv,or_false] at hb;rcases hb with rfl | rfl
    ·exact⟨_,he,trivial⟩
    ·obtain⟨o,ho,_⟩:=h1;exact⟨o,ho,trivial⟩
   rw[aL (lt c o ho)];exact(hf c hb).1
 done:=by
  intro X hP hw hK hc i pins s σ H E I hf st hg;subst hP hw hK;obtain⟨⟨old,he⟩,h1⟩:=st;obtain⟨xs,q1,hend⟩:=hg;obtain⟨its1,r1,p1,z1⟩:=I.list q1;have e1:=r1.length;exact wpAny_pyNext_enum_end (I.ok.hd hc) he h1 p1.isList (by simp;lia) fun h' k=>⟨rfl,I.oJ (t':=s.toks) (fun c o hb e=>k c o (fun q=>hb (by simp[q])) e) hf⟩
 self:=fun _ _ _ _ _ ⟨⟨_,he⟩,_⟩ h=>wpAny_pyIter_enum he h
def NM (K:qAb)(ta:TA):TI:=fun σ H R=>ta σ H fun vs H1=>∃l,vs=[.ref l]/\(∃xs,aR K H1 l xs)/\R (Hr K l) H1
theorem Gd:qCq "enumerate"=some (.type "enumerate"):=by decide +kernel
theorem oK {X:Cx}{elts:List Expr}{x1}{tpos:Pos}{a:Expr}{ta:TA}{p pos:Pos}(hg:Gl X "enumerate")(hm:X.mg "enumerate"=none)(ha:PA X [a] ta)(hs:qBo [a] X.env=[(false,eval a X.env)]:=by rfl):
  PI X (.Tuple elts x1 tpos) (.Call (.Name "enumerate" p) [a] [] pos) (NM X.K ta):=by
 intro pins s σ H R I h;refine qMp (fD I hg hm Gd (qBv (cE (ha pos pins s σ H _ I h) fun us s1 ⟨vs,H1,I1,r1,q1⟩=>?_) hs rfl));obtain⟨l,e,⟨xs,q1⟩,q⟩:=q1;subst e;obtain⟨u,rfl,ru⟩:=vals1 r1;cases (show u=Value.ref l from ru);obtain⟨its1,r1,p1,z1⟩:=I1.list q1;refine call_enumerate_list p1.isList fun h' hE hI hsz hk=>?_;refine wpAny_pyIter_enum hE ?_;have I2:Inv X pins σ H1 { s1 with heap:=h' }:=I1.kept (t':=s1.toks) hk;refine⟨_,[s1.heap.objs.size+1,s1.heap.objs.size],_,_,H1,rfl,I2,BB (qOh _),⟨⟨_,hE⟩,hI⟩,fun c hc=>?_,q⟩;have hge:s1.heap.objs.size<=c:=by
  simp only[qDw,qCv,or_false] at hc;rcases hc with h | h
  all_goals first | (rw[h];exact qKf _ _) | exact qIm h.symm
 have:=I1.Bk (H':=H1) hge (I1.bZ.fresh hge);exact this
theorem vR {K:qAb}{l:Addr}{xs:List V}{g:TG}{tb:TS}{D:Ends}{σ:St}{H:Hp}(Pv:Nat->St->Hp->Prop)(h0:Pv 0 σ H)(hl:∀i σ H,i<=xs.length->Pv i σ H->aR K H l xs)
  (hs:∀i x t σ H,xs[i]?=some x->H t=none->Pv i σ H->g (.ref t) σ (upd H t (.tup [.int (i:Int),x])) fun σ2 H2=>tb { D with nx:=Pv (i+1),ct:=Pv (i+1),bk:=D.nx } σ2 H2) (hd:∀σ H,Pv xs.length σ H->D.nx σ H) :
  ∃W:Nat->Nat->St->Hp->Prop,(∃m,W 0 m σ H)/\∀i m σ H,W i m σ H ->
   ((Hr K l).stop i H/\D.nx σ H)\/((Hr K l).go i H/\∃N:St->Hp->Prop,(∀σ' H',N σ' H'->∃m',m'<m/\W (i+1) m' σ' H')/\∀x H',(Hr K l).qQ i H x H'->g x σ H' fun σ2 H2=>tb { D with nx:=N,ct:=N,bk:=D.nx } σ2 H2):=by
 refine⟨fun i m σ H=>Pv i σ H/\i<=xs.length/\m=xs.length-i,⟨_,h0,qBr _,rfl⟩,?_⟩;rintro i m σ H ⟨hp,hi,rfl⟩;have q1:=hl i σ H hi hp;rcases qAm i xs.length with hlt | hge
 ·right
  obtain⟨x,hx⟩:∃x,xs[i]?=some x:=⟨_,qAd hlt⟩;refine⟨⟨xs,x,q1,hx⟩,Pv (i+1),fun σ' H' h=>⟨_,qNf hlt (qGq _),h,hlt,rfl⟩,?_⟩;rintro v H' ⟨t,x',rfl,hn,rfl,e1⟩;have e1':=e1 xs q1;rw[hx] at e1';cases e1';exact hs i x t σ H hx hn hp
 ·left
  obtain rfl:i=xs.length:=qCw hi hge;exact⟨⟨xs,q1,qAg _⟩,hd σ H hp⟩
section
variable {K:qAb}{a a':Addr}{xs ys:List V}{σ0:St}{H1:Hp}{g:TG}{c:TT}{te:TE}{Q:Addr->Hp->Prop}
theorem pI (Ag:St->Prop)(f:Nat->V->Option V)(h0:Ag σ0)(hq:aR K H1 a xs)(hn:xs.length<=qAf)
  (step:∀(i:Nat) (x:V) (t:Addr) (σ1:St) (H2:Hp) (k:St->VK) (k0:St->Hp->Prop),Ag σ1->aG H1 H2->xs[i]?=some x->H2 t=some (.tup [.int (i:Int),x])->(∀σ2 y,Ag σ2->f i x=some y->∀H3,aG H2 H3->k σ2 y H3)->(∀σ2,Ag σ2->f i x=none->∀H3,aG H2 H3->k0 σ2 H3) ->
   g (.ref t) σ1 H2 fun σ2 H3=>c σ2 H3 fun b H4=>if b=true then te σ2 H4 (k σ2) else k0 σ2 H4)
  (h:∀D H2,H1 D=none->aG H1 H2->H2 D=some (.lst ((qAn xs.length).filterMap fun i=>(xs[i]?).bind (f i)))->Q D H2) :
  ∀D,H1 D=none->∃W:Nat->Nat->St->Hp->Prop,(∃m,W 0 m σ0 (upd H1 D (.lst [])))/\∀i m σ1 H2,W i m σ1 H2 ->
   ((Hr K a).stop i H2/\Q D H2)\/((Hr K a).go i H2/\∃N:St->Hp->Prop,(∀σ' H',N σ' H'->∃m',m'<m/\W (i+1) m' σ' H') /\
    ∀x H',(Hr K a).qQ i H2 x H'->g x σ1 H' fun σ2 H3=>c σ2 H3 fun b H4=>if b=true then te σ2 H4 fun y H5=>∃xs,H5 D=some (.lst xs)/\xs.length<qAf/\N σ2 (upd H5 D (.lst (xs++[y]))) else N σ2 H4):=by
 intro D hD;refine⟨fun i m σ1 H2=>Ag σ1/\aG H1 H2/\H2 D=some (.lst ((qAn i).filterMap fun i=>(xs[i]?).bind (f i)))/\i<=xs.length/\m=xs.length-i,⟨xs.length,h0,.aF hD,aC,qBr _,rfl⟩,?_⟩;rintro i m σ1 H2 ⟨hσ,hs,hd,hi,rfl⟩;rcases qAm i xs.length with hlt | hge
 ·right
  refine⟨⟨xs,xs[i],hs.seq hq,by simp[hlt]⟩,fun σ' H'=>Ag σ'/\aG H1 H'/\H' D=some (.lst ((qAn (i+1)).filterMap fun i=>(xs[i]?).bind (f i))),fun σ' H' ⟨a,b,c⟩=>⟨xs.length-(i+1),by lia,a,b,c,hlt,rfl⟩,?_⟩;rintro v H' ⟨t,x,rfl,ht,rfl,hx⟩;have hx:=hx xs (hs.seq hq);have hst:aG H1 (upd H2 t (.tup [.int (i:Int),x])):=hs.trans (.aF ht);have hdt:=aG.aF (o:=.tup [.int (i:Int),x]) ht _ _ hd;refine step i x t σ1 _ (fun σ2 y H5=>∃xs,H5 D=some (.lst xs)/\xs.length<qAf/\_) _ hσ hst hx aC (fun σ2 y a2 hy H3 hs3=>⟨_,hs3 _ _ hdt,?_,a2,?_,?_⟩) fun σ2 a2 hno H3 hs3=>⟨a2,hst.trans hs3,?_⟩
  ·refine qBh (qEs _ _) ?_;rw[qAs];lia
  ·exact(hst.trans hs3).upd_ne' hD
  ·rw[aC,qBt,qCm];simp[hx,hy]
  ·rw[hs3 _ _ hdt,qBt,qCm];simp[hx,hno]
 ·left
  obtain rfl:i=xs.length:=qCw hi hge;exact⟨⟨xs,hs.seq hq,qAg _⟩,h D _ hD hs hd⟩
theorem j7 (Ag:St->Prop)(f:Nat->V->V->Option V)(h0:Ag σ0)(hq:aR K H1 a xs)(hq':aR K H1 a' ys)(hlen:xs.length=ys.length)(hn:xs.length<=qAf)
  (step:∀(i:Nat) (x y:V) (t:Addr) (σ1:St) (H2:Hp) (k:St->VK) (k0:St->Hp->Prop),Ag σ1->aG H1 H2->xs[i]?=some x->ys[i]?=some y->H2 t=some (.tup [x,y])->(∀σ2 z,Ag σ2->f i x y=some z->∀H3,aG H2 H3->k σ2 z H3)->(∀σ2,Ag σ2->f i x y=none->∀H3,aG H2 H3->k0 σ2 H3) ->
   g (.ref t) σ1 H2 fun σ2 H3=>c σ2 H3 fun b H4=>if b=true then te σ2 H4 (k σ2) else k0 σ2 H4)
  (h:∀D H2,H1 D=none->aG H1 H2->H2 D=some (.lst ((qAn xs.length).filterMap fun i=>(xs[i]?).bind fun x=>(ys[i]?).bind (f i x)))->Q D H2) :
  ∀D,H1 D=none->∃W:Nat->Nat->St->Hp->Prop,(∃m,W 0 m σ0 (upd H1 D (.lst [])))/\∀i m σ1 H2,W i m σ1 H2 ->
   ((Ab K a a').stop i H2/\Q D H2)\/((Ab K a a').go i H2/\∃N:St->Hp->Prop,(∀σ' H',N σ' H'->∃m',m'<m/\W (i+1) m' σ' H') /\
    ∀x H',(Ab K a a').qQ i H2 x H'->g x σ1 H' fun σ2 H3=>c σ2 H3 fun b H4=>if b=true then te σ2 H4 fun y H5=>∃xs,H5 D=some (.lst xs)/\xs.length<qAf/\N σ2 (upd H5 D (.lst (xs++[y]))) else N σ2 H4):=by
 intro D hD;refine⟨fun i m σ1 H2=>Ag σ1/\aG H1 H2/\H2 D=some (.lst ((qAn i).filterMap fun i=>(xs[i]?).bind fun x=>(ys[i]?).bind (f i x)))/\i<=xs.length/\m=xs.length-i,⟨xs.length,h0,.aF hD,aC,qBr _,rfl⟩,?_⟩;rintro i m σ1 H2 ⟨hσ,hs,hd,hi,rfl⟩;rcases qAm i xs.length with hlt | hge
 ·right
  have hlt':i<ys.length:=hlen▸hlt;refine⟨⟨xs,ys,xs[i],ys[i],hs.seq hq,hs.seq hq',by simp[hlt],by simp[hlt']⟩,fun σ' H'=>Ag σ'/\aG H1 H'/\H' D=some (.lst ((qAn (i+1)).filterMap fun i=>(xs[i]?).bind fun x=>(ys[i]?).bind (f i x))),fun σ' H' ⟨a,b,c⟩=>⟨xs.length-(i+1),by lia,a,b,c,hlt,rfl⟩,?_⟩;rintro v H' ⟨t,x,y,rfl,ht,rfl,hx,hy⟩;have hx:=hx xs (hs.seq hq);have hy:=hy ys (hs.seq hq');have hst:aG H1 (upd H2 t (.tup [x,y])):=hs.trans (.aF ht);have hdt:=aG.aF (o:=.tup [x,y]) ht _ _ hd;refine step i x y t σ1 _ (fun σ2 y H5=>∃xs,H5 D=some (.lst xs)/\xs.length<qAf/\_) _ hσ hst hx hy aC (fun σ2 z a2 hz H3 hs3=>⟨_,hs3 _ _ hdt,?_,a2,?_,?_⟩) fun σ2 a2 hno H3 hs3=>⟨a2,hst.trans hs3,?_⟩
  ·refine qBh (qEs _ _) ?_;rw[qAs];lia
  ·exact(hst.trans hs3).upd_ne' hD
  ·rw[aC,qBt,qCm];simp[hx,hy,hz]
  ·rw[hs3 _ _ hdt,qBt,qCm];simp[hx,hy,hno]
 ·left
  obtain rfl:i=xs.length:=qCw hi hge;exact⟨⟨xs,ys,hs.seq hq,hs.seq hq',.inl (qAg _)⟩,h D _ hD hs hd⟩
end
section
variable {X:Cx}
theorem Dj (K:qAb){tg l:Expr}{tl:TE}(hl:PE X l tl)(h:X.K=K:=by rfl):PI X tg l (Hl K tl):=by
 subst h;exact bJ hl
end
section
variable {K:qAb}{a:Addr}{xs:List V}{lo:Int}{n:Nat}{σ0:St}{H1:Hp}{i0:Nat}{c:TT}{te:TE}{Q:Addr->Hp->Prop}
def kT (H H':Hp):Prop:=∀b xs,H b=some (.tup xs)->H' b=some (.tup xs)
theorem aG.t (s:aG H H'):kT H H':=fun _ _ e=>s _ _ e
theorem kT.lst (h:H D=some (.lst ys)):kT H (upd H D o):=fun b xs e=>by
 rw[aL fun q=>by subst q;rw[h] at e;cases e];exact e
end
section
variable {X:Cx}{tg:Expr}
end
section
variable {X:Cx}{e c:Expr}{te:TE}{ts:TO}{pos p2:Pos}
end
def Jw (h:Heap)(vs:List qAi):Heap:=((h.push (qPf "list" #[] 0)).update h.objs.size (Obj.mapSeq (· ++ vs.toArray))).push (qPf "list" vs.toArray 0)
theorem jR:∀{xs:List V}{us:List qAi},xs.length=us.length->(∀(i:Nat) (x:V) (u:qAi),xs[i]?=some x->us[i]?=some u->RelV x u)->Vals xs us
 | [],[],_,_=>.nil
 | [],_::_,h,_=>by cases h
 | _::_,[],h,_=>by cases h
 | x::xs,u::us,h,a=>.cons (a 0 x u rfl rfl) (jR (by simpa using h) fun i x u e1 e2=>a (i+1) x u e1 e2)
theorem lQ:∀{us:List qAi}{ns:List Int},qHz us ns->Vals (ns.map V.int) us
 | _,_,.nil=>.nil
 | _,_,.cons n t r=>.cons ⟨t,rfl⟩ (lQ r)
section
variable {X:Cx}
theorem yH:qCq "sorted"=some (.builtin "sorted"):=by decide +kernel
def cT (n:Nat):List V:=(qAn n).map fun(i:Nat)=>V.int (i:Int)
def RG (ta:TA):TE:=fun σ H Q=>ta σ H fun vs H1=>∃n:Nat,vs=[.int (n:Int)]/\n<=1000/\∀p,H1 p=none->Q (.ref p) (upd H1 p (.lst (cT n)))
theorem tS (hg:Gl X "list")(hm:X.mg "list"=none)(hg':Gl X "range")(hm':X.mg "range"=none)(hc:X.calm=true)(ha:PA X [a] ta)
  (hs:qBo [a] X.env=[(false,eval a X.env)]:=by rfl) (hs':qBo [.Call (.Name "range" p') [a] [] pos'] X.env=[(false,eval (.Call (.Name "range" p') [a] [] pos') X.env)]:=by rfl) :
  PE X (.Call (.Name "list" p) [.Call (.Name "range" p') [a] [] pos'] [] pos) (RG ta):=by
 intro pins s σ H Q I h;refine qMp (fD I hg hm c5 (qBv ?_ hs' rfl));rw[hs'];show qBj _ _ (qNm ((false,eval (.Call (.Name "range" p') [a] [] pos') X.env)::[])) _ _ s;refine qFr ?_;refine qMp (fD I hg' hm' qNb (qBv (cE (ha pos' pins s σ H _ I h) fun us s1 ⟨vs,H1,I1,r1,q1⟩=>?_) hs rfl));obtain⟨n,e,hn,q⟩:=q1;subst e;obtain⟨u,rfl,t,rfl⟩:=vals1 r1;refine call_range_1 ?_;refine qGg ?_;refine call_list_range (I1.ok.hd hc) (IsRange.new ..) (small_one (by lia) (by lia) (by lia) (by lia)) (n:=n) (by rw[rangeSize_nat];lia) (by lia) fun h' tk acc c hk hS hacc=>?_;have hk2:∀b o,s1.heap.get? b=some o->h'.get? b=some o:=fun b o e=>hk b o (qAh _ e);have vv:Vals (cT n) acc.toList:=by
  refine jR (by unfold cT;rw[qAc,qAs,qBz,hacc.1]) fun i x u hx hu=>?_;have hi:i<n:=by
   obtain⟨z,_⟩:=List.getElem?_eq_some_iff.mp hx;unfold cT at z;rw[qAc,qAs] at z;exact z
  unfold cT at hx;rw[qAo,qCj hi] at hx;obtain rfl:V.int (i:Int)=x:=Option.some.inj hx;obtain⟨t',rfl⟩:=hacc.2 i u (by simpa using hu);exact⟨t',by rw[show(0:Int)+(i:Int)*1=(i:Int) by lia]⟩
 refine⟨.ref _,_,I1.laid (o:=.lst (cT n)) (t':=tk) hk2 ?_ ?_,rfl,q _ (I1.bZ.fresh ?_)⟩
 ·rw[qCy];exact qEq _
 ·refine⟨by unfold cT;rw[qAc,qAs];exact qAk (aK hn),acc.toList,c,vv,by simpa using hS⟩
 ·rw[qCy];exact qEq _
end
section
variable {X:Cx}
mutual
inductive gG (K:qAb) (H:Hp):V->qGv->Prop
 | int (i:Int):gG K H (.int i) (.int i)
 | non:gG K H .non .none
 | bl (b:Bool):gG K H (.bl b) (.bool b)
 | str (x:Str):PyData.strOk x=true->gG K H (.str x) (.str x)
 | lst {p:Addr}{xs:List V}{ds:List qGv}:aR K H p xs->cF K H xs ds->gG K H (.ref p) (.list ds)
 | tup {p:Addr}{xs:List V}{ds:List qGv}:cX K H p xs->cF K H xs ds->gG K H (.ref p) (.tuple ds)
inductive cF (K:qAb) (H:Hp):List V->List qGv->Prop
 | nil:cF K H [] []
 | cons {x:V}{d:qGv}{xs:List V}{ds:List qGv}:gG K H x d->cF K H xs ds->cF K H (x::xs) (d::ds)
end
mutual
theorem gG.reads (I:Inv X pins σ H s):∀{v:V}{d:qGv}{u:qAi},gG X.K H v d->RelV v u->∃as,Reads s.heap u d as
 | _,_,u,.int i,r=>by obtain⟨t,rfl⟩:=(show ∃t,u=Value.int i t from r);exact⟨_,.int i t⟩
 | _,_,u,.non,r=>by obtain rfl:u=Value.none:=r;exact⟨_,.none⟩
 | _,_,u,.bl b,r=>by obtain rfl:u=Value.bool b:=r;exact⟨_,.bool b⟩
 | _,_,u,.str x _,r=>by obtain⟨t,rfl⟩:=(show ∃t,u=Value.str x t from r);exact⟨_,.str x t⟩
 | _,_,u,.lst (p:=p) hq ha,r=>by
  obtain rfl:u = .ref p:=r;obtain⟨its,r',pl,hz⟩:=I.list hq;obtain⟨o,ho,hc,n,hd⟩:=pl.isList;obtain⟨as,z⟩:=cF.reads I ha r';exact⟨_,.list ho hc hd (by simpa using z)⟩
 | _,_,u,.tup (p:=p) hq ha,r=>by
  obtain rfl:u = .ref p:=r;obtain⟨its,r',pl,hz⟩:=I.tuple hq;obtain⟨o,ho,hc,n,hd⟩:=pl;obtain⟨as,z⟩:=cF.reads I ha r';exact⟨_,.tuple ho hc hd (by simpa using z)⟩
theorem cF.reads (I:Inv X pins σ H s):∀{vs:List V}{ds:List qGv}{us:List qAi},cF X.K H vs ds->Vals vs us->∃as,ReadsAll s.heap us ds as
 | _,_,_,.nil,.nil=>⟨_,.nil⟩
 | _,_,_,.cons h t,.cons r rs=>by
  obtain⟨a1,z1⟩:=gG.reads I h r;obtain⟨a2,z2⟩:=cF.reads I t rs;exact⟨_,.cons z1 z2⟩
end
mutual
theorem gG.lay {K:qAb}{H:Hp}:∀{v:V}{d:qGv},gG K H v d->d.canLay0=true/\PyData.eqv d d=true
 | _,_,.int i=>⟨rfl,by simp[PyData.eqv]⟩
 | _,_,.non=>⟨rfl,by simp[PyData.eqv]⟩
 | _,_,.bl b=>⟨rfl,by simp[PyData.eqv]⟩
 | _,_,.str x h=>⟨h,by simp[PyData.eqv]⟩
 | _,_,.lst _ h=>by
  obtain⟨a,b⟩:=cF.lay h;exact⟨by simpa [PyData.canLay0] using a,by simpa [PyData.eqv] using b⟩
 | _,_,.tup _ h=>by
  obtain⟨a,b⟩:=cF.lay h;exact⟨by simpa [PyData.canLay0] using a,by simpa [PyData.eqv] using b⟩
theorem cF.lay {K:qAb}{H:Hp}:∀{vs:List V}{ds:List qGv},cF K H vs ds->PyData.canLayAll0 ds=true/\PyData.eqvAll ds ds=true
 | _,_,.nil=>⟨rfl,rfl⟩
 | _,_,.cons h t=>by
  obtain⟨a,b⟩:=gG.lay h;obtain⟨c,d⟩:=cF.lay t;exact⟨by simp[PyData.canLayAll0,a,c],by simp[PyData.eqvAll,b,d]⟩
end
mutual
theorem gG.same {K:qAb}{H H':Hp}(s:aG H H'):∀{v:V}{d:qGv},gG K H v d->gG K H' v d
 | _,_,.int i=>.int i
 | _,_,.non=>.non
 | _,_,.bl b=>.bl b
 | _,_,.str x h=>.str x h
 | _,_,.lst q h=>.lst (s.seq q) (cF.same s h)
 | _,_,.tup q h=>.tup (s.RE q) (cF.same s h)
theorem cF.same {K:qAb}{H H':Hp}(s:aG H H'):∀{vs:List V}{ds:List qGv},cF K H vs ds->cF K H' vs ds
 | _,_,.nil=>.nil
 | _,_,.cons h t=>.cons (gG.same s h) (cF.same s t)
end
end
section
variable {X:Cx}
end
section
variable {X:Cx}
variable {o e:Expr}{es:List Expr}{to:TE}{t:TA}{name:Str}{apos cpos:Pos}{T id:String}{r:V->List V->Hp->VK->Prop}
theorem Jx (K:qAb)(hK:X.K=K)(pa:PlainAttrs T)(slot:Slot T name id)(hty:qOe (.builtin id)=pure (.type "method_descriptor"))(hm:MM X id r)(ho:PE X o to)(ha:PA X (e::es) t)
  (hbase:qHi o name X.env (eval o X.env)=eval o X.env:=by rfl)
  (hfew:((qGu cpos (qBo (e::es) X.env)).all (fun x=>!x.1)&&(backToKw cpos (keywordEach [] X.env)).all (fun x=>x.1.isSome)
   && decide ((e::es).length+([]:List qOx).length+(if ([]:List qOx).isEmpty then 0 else 1)<30))=true:=by rfl)
  (hline:(apos.endLine == cpos.line)=true:=by rfl) (hs:qBo (e::es) X.env=(false,eval e X.env)::qBo es X.env:=by rfl) (hplain:(qGu cpos (qBo es X.env)).any (·.1)=false:=by rfl) :
  PE X (.Call (.Attribute o name apos) (e::es) [] cpos) (Rg K T r to t):=by
 subst hK;exact vD pa slot hty hm ho ha hbase hfew hline hs hplain
end
section
variable {A:qDd}{prog:qBx}{w:qDe}{E:qAi->qAl->Prop}
end
section
variable {X:Cx}{pos:Pos}
end
section
variable {κ:Type} [DecidableEq κ]
def oB (kvs:List (κ×V))(k:κ):Option V:=(kvs.find? fun kv=>decide (kv.1=k)).map (·.2)
def putK (kvs:List (κ×V))(k:κ)(v:V):List (κ×V) :=
 if (kvs.any fun kv=>decide (kv.1=k))=true then kvs.map (fun kv=>if kv.1=k then (kv.1,v) else kv) else kvs++[(k,v)]
theorem pJ {p:κ×V}{r:List (κ×V)}{k:κ}(e:p.1=k):oB (p::r) k=some p.2:=by simp[oB,qFa,e]
theorem pK {p:κ×V}{r:List (κ×V)}{k:κ}(e:¬p.1=k):oB (p::r) k=oB r k:=by simp[oB,qFa,e]
theorem vS (k:κ):∀kvs:List (κ×V),(kvs.any fun kv=>decide (kv.1=k))=(oB kvs k).isSome
 | []=>rfl
 | p::r=>by
  rw[qHv];by_cases e:p.1=k
  ·simp only[pJ e,decide_eq_true e,Bool.true_or,qMi]
  ·rw[pK e,decide_eq_false e,Bool.false_or];exact vS k r
theorem nT (kvs:List (κ×V))(k:κ)(v:V):(putK kvs k v).length<=kvs.length+1:=by
 unfold putK;split
 ·rw[qAc];lia
 ·rw[qAp,qCn,qKq];lia
theorem kH.BC (r:kH o u):o.isSome=u.isSome:=by
 cases o with
 | none=>cases u with
  | none=>rfl
  | some _=>exact(show False from r).elim
 | some _=>cases u with
  | none=>exact(show False from r).elim
  | some _=>rfl
theorem KV.val {kvs:List (κ×V)}{vs:List (κ×qAi)}(r:KV kvs vs)(k:κ):kH (oB kvs k) (qLu vs k):=by
 unfold KV at r;induction r with
 | nil=>exact True.intro
 | @cons p q ps qs h t ih =>
  obtain⟨h1,h2⟩:=h;by_cases e:p.1=k
  ·have e':q.1=k:=h1.symm.trans e;have b:qLu (q::qs) k=some q.2:=by simp[qLu,qFa,e']
   rw[pJ e,b];exact h2
  ·have e':¬q.1=k:=fun z=>e (h1.trans z);have b:qLu (q::qs) k=qLu qs k:=by simp[qLu,qFa,e']
   rw[pK e,b];exact ih
theorem KV.any (r:KV kvs vs)(k:κ):(kvs.any fun kv=>decide (kv.1=k))=vs.any fun kv=>decide (kv.1=k):=by
 unfold KV at r;induction r with
 | nil=>rfl
 | cons h t ih=>rw[qHv,qHv,ih,h.1]
theorem KV.Jy (r:KV kvs vs)(k:κ){y:V}{u:qAi}(ry:RelV y u):
  KV (kvs.map fun kv=>if kv.1=k then (kv.1,y) else kv) (vs.map fun kv=>if kv.1=k then (kv.1,u) else kv):=by
 unfold KV at r|-;induction r with
 | nil=>exact .nil
 | @cons p q ps qs h t ih =>
  rw[qDj,qDj];refine .cons ?_ ih;obtain⟨h1,h2⟩:=h;by_cases e:p.1=k
  ·rw[if_pos e,if_pos (h1.symm.trans e)];exact⟨h1,ry⟩
  ·rw[if_neg e,if_neg (fun z=>e (h1.trans z))];exact⟨h1,h2⟩
theorem KV.put (r:KV kvs vs)(k:κ){y:V}{u:qAi}(ry:RelV y u):KV (putK kvs k y) (stored vs k u):=by
 unfold putK stored;rw[r.any k];by_cases e:(vs.any fun kv=>decide (kv.1=k))=true
 ·rw[if_pos e,if_pos e];exact r.Jy k ry
 ·rw[if_neg e,if_neg e];exact Paired.snoc r ⟨rfl,ry⟩
theorem KV.length (r:KV kvs vs):kvs.length=vs.length:=Paired.length r
end
theorem Dk (r:RelV (kV k) u):(b0 P w).is k u=true:=by
 cases k with
 | inl i=>obtain⟨t,e⟩:=(show ∃t,u=Value.int i t from r);subst e;exact uW P w i t
 | inr x=>obtain⟨t,e⟩:=(show ∃t,u=Value.str x t from r);subst e;exact uX P w x t
theorem rM:∀{ks:List Key}{us:List qAi},Vals (ks.map kV) us->ItemsAre (b0 P w) ks us
 | [],_,r=>by rw[qEn] at r;cases r;exact .nil
 | k::ks,_,r=>by
  rw[qDj] at r;cases r with
  | cons h t=>exact .cons (Dk h) (rM t)
abbrev KT (H:Hp):List (List Key×V)->List (List Key×Addr×qAi)->Prop:=Paired fun p q=>p.1=q.1/\H q.2.1=some (.tup (p.1.map kV))/\RelV p.2 q.2.2
theorem KT.val {H:Hp}{kvs:List (List Key×V)}{xs:List (List Key×Addr×qAi)}(r:KT H kvs xs)(k:List Key):kH (oB kvs k) ((qOw xs k).map (·.2)):=by
 induction r with
 | nil=>exact True.intro
 | @cons p q ps qs h t ih =>
  obtain⟨h1,_,h2⟩:=h;by_cases e:p.1=k
  ·have e':q.1=k:=h1.symm.trans e;have b:qOw (q::qs) k=some q.2:=by simp[qOw,qFa,e']
   rw[pJ e,b];exact h2
  ·have e':¬q.1=k:=fun z=>e (h1.trans z);have b:qOw (q::qs) k=qOw qs k:=by simp[qOw,qFa,e']
   rw[pK e,b];exact ih
theorem KT.Jy (r:KT H kvs xs)(k:List Key){y:V}{u:qAi}(ry:RelV y u):
  KT H (kvs.map fun kv=>if kv.1=k then (kv.1,y) else kv) (xs.map (putAt k u)):=by
 induction r with
 | nil=>exact .nil
 | @cons p q ps qs h t ih =>
  rw[qDj,qDj];refine .cons ?_ ih;obtain⟨h1,h2,h3⟩:=h;unfold putAt;by_cases e:p.1=k
  ·rw[if_pos e,if_pos (h1.symm.trans e)];exact⟨h1,h2,ry⟩
  ·rw[if_neg e,if_neg (fun z=>e (h1.trans z))];exact⟨h1,h2,h3⟩
theorem KT.put (r:KT H kvs xs)(k:List Key){b:Addr}{y:V}{u:qAi}(hb:H b=some (.tup (k.map kV)))(ry:RelV y u):
  KT H (putK kvs k y) (storedH xs k b u):=by
 have e:(kvs.any fun kv=>decide (kv.1=k))=(qOw xs k).isSome:=by
  rw[vS,(r.val k).BC,Option.isSome_map]
 unfold putK storedH;rw[e];by_cases q:(qOw xs k).isSome=true
 ·rw[if_pos q,if_pos q];exact r.Jy k ry
 ·rw[if_neg q,if_neg q];exact Paired.snoc r ⟨rfl,hb,ry⟩
theorem KT.keeps (r:KT H kvs xs)(ht:∀b ys,H b=some (.tup ys)->H' b=some (.tup ys)):KT H' kvs xs :=
 Paired.IG r fun _ _ z=>⟨z.1,ht _ _ z.2.1,z.2.2⟩
section
variable {P:qBx}{w:qDe}{H:Hp}{h:Heap}{a:Addr}
theorem Hs (ok:kI P w H h)(e:Rd H a u):cO P w H h a u:=e.ok ok
theorem rN (ok:kI P w H h)(e:Rd H a (.dK kvs)):kvs.length<=qAf/\(a == qFm)=false/\∃vs,KV kvs vs/\h.DictOf (b0 P w) a vs :=
 show cO P w H h a (.dK kvs) from Hs ok e
theorem Dl (ok:kI P w H h)(e:H a=some (.dK kvs)):kvs.length<=qAf/\(a == qFm)=false/\∃vs,KV kvs vs/\h.DictOf (b0 P w) a vs:=rN ok (.inl e)
theorem yI (ok:kI P w H h)(e:H a=some (.tup (ks.map kV))):(qLv (b0 P w)).is h ks a:=by
 obtain⟨_,its,r,o,h1,h2,n,h3⟩:=(show cO P w H h a (.tup (ks.map kV)) from ok a _ e);exact⟨o,its.toArray,n,h1,h2,h3,by simpa using rM r⟩
theorem Dm (ok:kI P w H h)(e:Rd H a (.dT kvs)):kvs.length<=qAf/\(a == qFm)=false /\
  ∃xs,KT H kvs xs/\h.DictOfH (qLv (b0 P w)) a xs:=by
 obtain⟨z,y,xs,r,o,es,ep,h1,h2,h3,h4,h5⟩:=(show cO P w H h a (.dT kvs) from Hs ok e);refine⟨z,y,xs,r,o,es,ep,h1,h2,h3,h4,fun x hx=>?_,h5⟩;have all:∀{l:List (List Key×V)}{m:List (List Key×Addr×qAi)},KT H l m->∀x∈m,(qLv (b0 P w)).is h x.1 x.2.1:=by
  intro l m q;induction q with
  | nil=>intro x hx;exact nomatch hx
  | @cons p q ps qs hq t ih =>
   intro x hx;rcases List.mem_cons.mp hx with e | hx
   ·subst e;exact yI ok (by rw[<- hq.1];exact hq.2.1)
   ·exact ih x hx
 exact all r x hx
theorem NP (ok:kI P w H h)(e:H a=some (.dT kvs)):kvs.length<=qAf/\(a == qFm)=false /\
  ∃xs,KT H kvs xs/\h.DictOfH (qLv (b0 P w)) a xs:=Dm ok (.inl e)
end
def Jz (H:Hp)(a:Addr)(y:V)(r:Option V):Prop :=
 (∃kvs k,Rd H a (.dK kvs)/\y=kV k/\r=oB kvs k)\/∃kvs k b,Rd H a (.dT kvs)/\y = .ref b/\H b=some (.tup (k.map kV))/\r=oB kvs k
def NQ (H:Hp)(a:Addr)(y v:V)(H':Hp):Prop :=
 (∃kvs k,H a=some (.dK kvs)/\y=kV k/\kvs.length<qAf/\H'=upd H a (.dK (putK kvs k v))) \/
 ∃kvs k b,H a=some (.dT kvs)/\y = .ref b/\H b=some (.tup (k.map kV))/\kvs.length<qAf/\H'=upd H a (.dT (putK kvs k v))
section
variable {X:Cx}{pins:List (Addr×Obj)}{σ:St}{H:Hp}{s:qAl}{a:Addr}{y v:V}{u r:qAi}{o:Option V}{A:qDd}{E:qAi->qAl->Prop}
theorem BD (hu:A.units+1<qLj)(I:Inv X pins σ H s)(g:Jz H a y (some v))(ry:RelV y u)(h:∀w' s',Inv X pins σ H s'->RelV v w'->Q w' s'):
  qBj (qCa X.prog X.w) A (qIp (.ref a) u) Q E s:=by
 rcases g with ⟨kvs,k,e,ey,l⟩ | ⟨kvs,k,b,e,ey,eb,l⟩
 ·subst ey;obtain⟨z,hd,vs,rel,dd⟩:=rN I.bZ e;obtain⟨w',hw,rw'⟩:=kH.some_of (v:=v) (o:=qLu vs k) (by rw[l];exact rel.val k);exact wpAny_getItem_of (Dk ry) dd.mapOf hw (h w' _ (I.tok _) rw')
 ·subst ey;cases (show u=Value.ref b from ry);obtain⟨z,hd,xs,rel,dd⟩:=Dm I.bZ e;obtain⟨w',hw,rw'⟩:=kH.some_of (v:=v) (o:=(qOw xs k).map (·.2)) (by rw[l];exact rel.val k);obtain⟨p,hp,hp2⟩:=Option.map_eq_some_iff.mp hw;refine wpAny_getItem_heap (tupleKind_room_in1 hu) (yI I.bZ eb) dd hp ?_;rw[hp2];exact h w' _ (I.tok _) rw'
theorem tT (I:Inv X pins σ H s)(mu:Nb (H a))(hs:qFb a s.heap h')(he:∃q,h'.get? a=some q)(new:cO X.prog X.w (upd H a ob) h' a ob):
  Inv X pins σ (upd H a ob) { s with heap:=h',toks:=t' } :=
 I.write (x:=a) (e:=a) mu (.inl rfl) (fun b q hb z=>(hs.2 b hb).trans z) he new
theorem Dn (z:kvs.length<=qAf)(hd:(a == qFm)=false)(rel:KV kvs vs)(dd:h'.DictOf (b0 P w) a vs):
  cO P w H' h' a (.dK kvs):=⟨z,hd,vs,rel,dd⟩
theorem BE (hu:A.units+1<qLj)(I:Inv X pins σ H s)(g:NQ H a y v H')(ry:RelV y u)(rv:RelV v r)(h:∀s',Inv X pins σ H' s'->Q () s'):
  qBj (qCa X.prog X.w) A (setItem (.ref a) u r) Q E s:=by
 rcases g with ⟨kvs,k,e,ey,l,eH⟩ | ⟨kvs,k,b,e,ey,eb,l,eH⟩
 ·subst ey eH;obtain⟨z,hd,vs,rel,dd⟩:=Dl I.bZ e;have hz:vs.length<=qAf:=by rw[<- rel.length];exact z
  have hl:(putK kvs k v).length<=qAf:=by have:=nT kvs k v;lia
  refine wpAny_setItem_pairs (hsz:=hz) (Dk ry) dd fun h' dd' hs=>h _ ?_;have he:∃q,h'.get? a=some q:=let ⟨q,_,_,hq,_⟩:=dd';⟨q,hq⟩;exact tT I (by rw[e];exact True.intro) hs he (Dn hl hd (rel.put k rv) dd')
 ·subst ey eH;cases (show u=Value.ref b from ry);obtain⟨z,hd,xs,rel,dd⟩:=NP I.bZ e;have hz:xs.length<=qAf:=by rw[<- Paired.length rel];exact z
  have hl:(putK kvs k v).length<=qAf:=by have:=nT kvs k v;lia
  refine wpAny_setItem_heap (hsz:=hz) (tupleKind_room_in1 hu) (yI I.bZ eb) dd fun h' dd' hs=>h _ ?_;obtain⟨q,es,ep,hq,h2,h3,h4,_,h5⟩:=dd';refine tT I (by rw[e];exact True.intro) hs ⟨q,hq⟩ ⟨hl,hd,_,(rel.put k eb rv).keeps fun c ys ec=>?_,q,es,ep,hq,h2,h3,h4,h5⟩;rw[aL (kO ec e (fun z=>nomatch z))];exact ec
end
section
variable {X:Cx}{pins:List (Addr×Obj)}{σ:St}{H:Hp}{s:qAl}{a:Addr}{kvs:List (Key×V)}{k:Key}{u:qAi}{A:qDd}{E:qAi->qAl->Prop}
end
def NU (i:Expr):Prop:=∀ov iv,qLw i false ov iv=operate [ov,iv] (qIp ov iv)
theorem Ge {prog:qBx}{w:qDe}{A:qDd}{E:qAi->qAl->Prop}{s:qAl}{env:Env}{value slice:Expr}{pos:Pos}{T id:String}{Q:qAi->qAl->Prop}
  (hl:qMw (.type T) "__getitem__"=pure (some (.builtin id))) (hs:NU slice)
  (h:qBj (qCa prog w) A (eval value env) (fun o s₁=>qBj (qCa prog w) A (eval slice env) (fun i s₂=>s₂.TypeIs o T/\qBj (qCa prog w) A (qIp o i) Q E s₂) E s₁) E s) :
  qBj (qCa prog w) A (eval (.Subscript value slice pos) env) Q E s:=by
 refine Subscript_ (qFl h (fun o s₁ h₁=>qFl h₁ (fun i s₂ h₂=>?_) fun _ _ x=>x) fun _ _ x=>x);obtain⟨hT,h₂⟩:=h₂;unfold subscriptTail;refine qAa ?_;rw[getitemInPython_of_ne hT.not_modules];refine qAa (wpAny_specialOf hT hl ?_);have fin:qBj (qCa prog w) A (qLw slice false o i) (fun r s₃=>qBj (qCa prog w) A (letTemporaryGo value o r >>= fun _=>pure r) Q E s₃) E s₂:=by
  rw[hs o i];exact wpAny_operating (qFl h₂ (fun r s₃ h₃=>qAa (wpAny_letTemporaryGo (qAe h₃))) fun _ _ x=>x)
 first
  | exact qAe (qAa fin)
  | exact qAa (qAe (qAa fin))
  | exact qAa fin
theorem vT (I:Inv X pins σ H s)(g:Jz H a y o):s.TypeIs (.ref a) "dict":=by
 rcases g with ⟨kvs,k,e,_,_⟩ | ⟨kvs,k,b,e,_,_,_⟩
 ·obtain⟨_,_,vs,_,dd⟩:=rN I.bZ e;exact dd.typeIs
 ·obtain⟨_,_,xs,_,dd⟩:=Dm I.bZ e;exact dd.typeIs
def NW (td ty:TE):TE:=fun σ H Q=>td σ H fun x H1=>ty σ H1 fun y H2=>∃a v,x = .ref a/\Jz H2 a y (some v)/\Q v H2
def NY (td ty tv:TE):TS:=fun D σ H=>tv σ H fun v H1=>td σ H1 fun x H2=>ty σ H2 fun y H3=>∃a H4,x = .ref a/\NQ H3 a y v H4/\D.nx σ H4
section
variable {X:Cx}{o i e value:Expr}{pos pos' tpos:Pos}{td ty tv:TE}
theorem Gf (hu:X.A.units+1<qLj)(ho:PE X o td)(hi:PE X i ty)(hs:NU i):PE X (.Subscript o i pos) (NW td ty):=by
 intro pins s σ H Q I h;refine Ge PySem.F.slot_dict_getitem.lookup hs (cE (ho pins s σ H _ I h) fun u s1 ⟨x,H1,I1,rx,q1⟩=>cE (hi pins s1 σ H1 _ I1 q1) fun iv s2 ⟨y,H2,I2,ry,a,v,ex,g,q2⟩=>?_);subst ex;obtain rfl:u=Value.ref a:=rx;exact⟨vT I2 g,BD hu I2 g ry fun w' s3 I3 rw'=>⟨v,H2,I3,rw',q2⟩⟩
theorem Af (hu:X.A.units+1<qLj)(ho:PE X o td)(hi:PE X i ty)(hv:PE X value tv)(hs:qKi value (some (.Subscript o i pos')) pos.line X.env=pure false):
  PS X (.Assign [.Subscript o i pos'] value pos) (NY td ty tv):=by
 intro pins s σ H D I h;refine wpAny_Assign_Subscript (cE (hv pins s σ H _ I h) fun r s1 ⟨v,H1,I1,rv,q1⟩=>cE (ho pins s1 σ H1 _ I1 q1) fun u s2 ⟨x,H2,I2,rx,q2⟩=>cE (hi pins s2 σ H2 _ I2 q2) fun iv s3 ⟨y,H3,I3,ry,a,H4,ex,g,q3⟩=>?_) hs;subst ex;obtain rfl:u=Value.ref a:=rx;exact BE hu I3 g ry rv fun s4 I4=>⟨σ,H4,I4,q3⟩
end
section
variable {κ:Type} [DecidableEq κ]
end
section
variable {X:Cx}{pos:Pos}
end
end L2
namespace PySem.W
open PySem PySem.Calls PyProof.Rows
def KasT.Ok {α:Type}(n:Nat)(P:α->Prop):KasT α->Prop
 | .ret a=>P a
 | .ask i j k=>i<n/\j<n/\∀b,(k b).Ok n P
def KasT.run {α:Type}(lt:Nat->Nat->Bool):KasT α->α
 | .ret a=>a
 | .ask i j k=>(k (lt i j)).run lt
section
variable {prog:qBx}{w:qDe}{A:qDd}{E:qAi->qAl->Prop}{s:qAl}
end
end PySem.W
namespace L2
open PySem PySem.Spec PyProof.Rows PySem.W
section
variable {X:Cx}{pins:List (Addr×Obj)}{σ:St}{H:Hp}{s:qAl}
end
section
variable {X:Cx}{a b c d:Expr}{ta tb tc td:TE}{pos:Pos}
end
section
variable {K:qAb}{a:Addr}{xs:List V}{σ0:St}{H1:Hp}{g:TG}{c:TT}{te:TE}{Q:Addr->Hp->Prop}
end
section
variable {X:Cx}{Ex:XS}{o e:Expr}{es:List Expr}{ta:TE}{t:TA}{m:Str}{apos pos:Pos}{j k:Nat}
end
section
variable {X:Cx}
end
section
variable {K:qAb}{a:Addr}{xs:List V}{σ0:St}{H1:Hp}{i0:Nat}{c:TT}{te:TE}{Q:Addr->Hp->Prop}
end
def kM (X:Cx)(NB:List Str)(sc:qIx)(cl:List (Str×Addr))(y0:Str)(s₃:qAl)(H₃:Hp)(fp:List Addr):Cx :=
 { X with N:=NB,s₀:=s₃,H₀:=H₃,env:=compEnvC sc ((y0,s₃.heap.objs.size+1)::cl) s₃.heap.objs.size X.env,outer:=X.stack,stack:=X.stack,ex:=fp,fn:=fun y=>y == y0,pn:=[],xe:=fun _ _=>False }
structure BF (X:Cx) (NB:List Str) (pick:List (Option Nat)) (sc:qIx) (cl:List (Str×Addr)) (y0:Str):Prop where
 yB:qNa sc X.env=pure cl
 kind:sc.kind = .function
 JA:∀n,qId n sc.names cl=(y0,n)::cl
 NZ:∀h:Heap,pushCells h sc.names=h.push { cls:=.type "cell",data:=.cell none }
 names:∀y∈sc.names,y.2 = .local->sc.names.lookup y.1=some .local
 sub:nP X.env.cells cl
 has:∀n x,((qJb sc X.env).names.lookup x=some .cell\/(qJb sc X.env).names.lookup x=some .free)->∃c,((y0,n)::cl).lookup x=some c
 len:pick.length=NB.length
 got:∀(j i:Nat) (x:Str),pick[j]?=some (some i)->NB[j]?=some x->(X.N[i]?=some x/\(X.env.kindOf x=some .cell\/X.env.kindOf x=some .free)/\(qJb sc X.env).names.lookup x=some .cell)/\(x == y0)=false
def mY (y0:Str):List (Option Nat)->List Str->Bool
 | some _::p,x::r=>!(x == y0)&&mY y0 p r
 | none::p,_::r=>mY y0 p r
 | _,_=>true
theorem mZ:∀{p:List (Option Nat)}{r:List Str},mY y0 p r=true->∀(j i:Nat) (x:Str),p[j]?=some (some i)->r[j]?=some x->(x == y0)=false
 | [],_,_,j,i,x,h,_=>by simp at h
 | _::_,[],_,j,i,x,_,h=>by simp at h
 | some k::p,y::r,h,0,i,x,h1,h2=>by
  have z:(!(y == y0)&&mY y0 p r)=true:=h;rw[qCd] at z;obtain rfl:y=x:=Option.some.inj h2;simpa using z.1
 | none::p,y::r,h,0,i,x,h1,h2=>by cases (Option.some.inj h1)
 | some k::p,y::r,h,j+1,i,x,h1,h2=>by
  have z:(!(y == y0)&&mY y0 p r)=true:=h;rw[qCd] at z;exact mZ z.2 j i x h1 h2
 | none::p,y::r,h,j+1,i,x,h1,h2=>mZ (p:=p) (r:=r) h j i x h1 h2
theorem Gg (yB:qNa sc X.env=pure cl)(sub:nP X.env.cells cl)(kind:sc.kind = .function)(cb:∀n,qId n sc.names cl=(y0,n)::cl)
  (pb:∀h:Heap,pushCells h sc.names=h.push { cls:=.type "cell",data:=.cell none }) (names:∀y∈sc.names,y.2 = .local->sc.names.lookup y.1=some .local) (has:∀n,hasB ((y0,n)::cl) (qJb sc X.env).names=true) (got:vH X.N X.env.scope.names (qJb sc X.env).names pick NB=true) (no:mY y0 pick NB=true):BF X NB pick sc cl y0 :=
 ⟨yB,kind,cb,pb,names,sub,fun n=>z6 (has n),lM got,fun j i x h1 h2=>⟨oI got j i x h1 h2,mZ no j i x h1 h2⟩⟩
theorem oM (h:c<n)(e:c=n+1):False:=by lia
theorem eF {y0 x:Str}{n c:Addr}{cl:List (Str×Addr)}(h:((y0,n)::cl).lookup x=some c):(x=y0/\c=n)\/cl.lookup x=some c:=by
 rw[qJx] at h;cases hx:x == y0 with
 | true =>
  rw[hx] at h;cases h;exact .inl ⟨by simpa using hx,rfl⟩
 | false =>
  rw[hx] at h;exact .inr h
section
variable {M:Model}{A:qDd}{E:qAi->qAl->Prop}{s:qAl}
theorem yJ (cb:∀n,qId n sc.names cl=(y0,n)::cl)(pb:∀h:Heap,pushCells h sc.names=h.push { cls:=.type "cell",data:=.cell none })
  (hQ:∀h',h'.Ns s.heap.objs.size (fun _=>none)->h'.IsCell (s.heap.objs.size+1) none->(∀b o,s.heap.get? b=some o->h'.get? b=some o) ->
   Q { scope:=sc,locals:=s.heap.objs.size,globals,cells:=(y0,s.heap.objs.size+1)::cl,qual,func:=none,code:=out.code,frame:=out.frame,builtins:=out.builtins } { s with heap:=h' }) :
  qBj M A (newFunctionEnv sc globals cl [] qual none .none (some out)) Q E s:=by
 simp only[newFunctionEnv,qMi,if_true];refine qAa (wpAny_alloc ?_);refine qAa (wpAny_layCells _ (fun name kind cells=>by cases hkc:kind == NameKind.cell <;> simp[hkc]) _ _ _ _ ?_);rw[cb,pb,show({ s with heap:=s.heap.push { cls:=.type "dict",data:=.dict #[] } }:qAl).heap.objs.size=s.heap.objs.size+1 from qCy ..];refine qAa ?_;rw[qOq];refine qAe (qAe ?_);refine hQ _ ((Heap.Ns.new s.heap (.type "dict")).keeps fun b o e=>qAh _ e) ?_ fun b o e=>qAh _ (qAh _ e);have e:(s.heap.push { cls:=.type "dict",data:=.dict #[] }).objs.size=s.heap.objs.size+1:=qCy ..;rw[<- e];exact⟨_,qAt _ rfl,rfl⟩
end
section
variable {X:Cx}{NB:List Str}{pick:List (Option Nat)}{sc:qIx}{cl:List (Str×Addr)}{y0:Str}{pins:List (Addr×Obj)}{σ:St}{H:Hp}{s:qAl}{fp:List Addr}
theorem sub_lt (I:Inv X pins σ H s)(B:BF X NB pick sc cl y0){x:Str}{c:Addr}(h:cl.lookup x=some c):c<s.heap.objs.size:=by
 obtain⟨v,q⟩:=I.cell x c (B.sub.of x c h);exact q.lt
theorem Gh (I:Inv X pins σ H s)(B:BF X NB pick sc cl y0)(hf:∀b∈fp,jI X pins H b)(hex:∀b∈fp,∃o,s.heap.get? b=some o):(kM X NB sc cl y0 s H fp).Ok:=by
 have nfs:∀b∈fp,b∉nK X.stack:=fun b hb z=>by
  rcases List.mem_cons.mp (I.k4 b z) with e | e
  ·exact(hf b hb).2.1 e
  ·exact(hf b hb).2.2.1 e
 refine⟨I.ok.mod,B.kind,I.ok.glob,I.ok.blt,qAg _,fun x y c h1 h2=>?_,fun x hx=>B.has _ x hx,fun x c h e=>?_,I.ok.hd,I.ok.frames,.inl rfl,fun b hb=>⟨?_,fun x c h e=>?_⟩,I.bs,qDa I.ok.Fv I.sz,fun b o e hb=>?_,nfs,I.stack,I.lG⟩
 ·rcases eF h1 with ⟨e1,e2⟩ | e1
  ·rcases eF h2 with ⟨f1,f2⟩ | f1
   ·rw[e1,f1]
   ·exact(oM (sub_lt I B f1) e2).elim
  ·rcases eF h2 with ⟨f1,f2⟩ | f1
   ·exact(oM (sub_lt I B e1) f2).elim
   ·exact I.ok.inj x y c (B.sub.of x c e1) (B.sub.of y c f1)
 ·rcases eF e with ⟨e1,e2⟩ | e1
  ·rw[e2];exact qEq _
  ·have e0:x=y0:=by simpa using (show(x == y0)=true from h)
   have z:((y0,s.heap.objs.size+1)::cl).lookup x=some (s.heap.objs.size+1):=by rw[e0,qJx];simp
   have e':c=s.heap.objs.size+1:=Option.some.inj ((show((y0,s.heap.objs.size+1)::cl).lookup x=some c from e).symm.trans z);rw[e'];exact qEq _
 ·obtain⟨o,ho⟩:=hex b hb;exact qBe (qAr ho)
 ·rcases eF h with ⟨e1,e2⟩ | e1
  ·obtain⟨o,ho⟩:=hex b hb;exact(oM (qAr ho) (e.symm.trans e2)).elim
  ·exact(hf b hb).2.2.2.2.1 x c (B.sub.of x c e1) e
 ·rcases(hf b hb).2.2.2.1 with z | z
  ·exact I.ok.Bj b o e z
  ·exact absurd (qAy (qAr (I.ok.bs b o e).1) z) (qDc _)
theorem yK {h':Heap}(I:Inv X pins σ H s)(B:BF X NB pick sc cl y0)(hf:∀b∈fp,jI X pins H b)(hex:∀b∈fp,∃o,s.heap.get? b=some o)
  (hn:h'.Ns s.heap.objs.size (fun _=>none)) (hce:h'.IsCell (s.heap.objs.size+1) none) (hs:∀b o,s.heap.get? b=some o->h'.get? b=some o) (t:Nat):Inv (kM X NB sc cl y0 s H fp) [] (pE pick σ) H { s with heap:=h',toks:=t }:=by
 refine⟨Gh I B hf hex,rfl,I.bare,Un.kept hs,⟨_,hn,fun j x v h1 h2 h3=>?_⟩,fun x c e=>?_,I.bZ.fresh (qAg _),fun x c e=>?_,fun p hp=>absurd (show p∈([]:List (Addr×Obj)) from hp) (by simp),I.bZ.kept hs,?_⟩
 ·have h2':(pick.map fun o=>o.bind fun i=>(σ[i]?).join)[j]?=some (some v):=h2;rw[qAo] at h2';cases hp:pick[j]? with
  | none=>rw[hp] at h2';cases h2'
  | some o =>
   rw[hp] at h2';cases o with
   | none=>cases h2'
   | some i =>
    have h2'':(σ[i]?).join=some v:=Option.some.inj h2';obtain⟨⟨g1,g2,g3⟩,ny⟩:=B.got j i x hp h1;have hσ:σ[i]?=some (some v):=by
     cases hq:σ[i]? with
     | none=>rw[hq] at h2'';cases h2''
     | some z=>rw[hq] at h2'';have e:z=some v:=h2'';rw[e]
    obtain⟨m,_,hl⟩:=I.loc;obtain⟨u,r,L⟩:=hl i x v g1 hσ (.inr g2);refine⟨u,r,?_⟩;rcases L with ⟨k,_⟩ | ⟨_,c,hc,⟨o,ho,hd⟩⟩
    ·rcases g2 with g2 | g2 <;> rw[k] at g2 <;> cases g2
    ·obtain⟨c',hc'⟩:=B.has (s.heap.objs.size+1) x (.inl g3);rcases eF hc' with ⟨e1,_⟩ | e1
     ·rw[e1] at ny;simp at ny
     ·have e:c'=c:=Option.some.inj ((B.sub.of x c' e1).symm.trans hc);subst e;exact .inr ⟨.inl g3,c',hc',o,hs _ _ ho,hd⟩
 ·rcases eF e with ⟨_,e2⟩ | e1
  ·rw[e2];exact⟨none,hce⟩
  ·obtain⟨v,o,ho,hd⟩:=I.cell x c (B.sub.of x c e1);exact⟨v,o,hs _ _ ho,hd⟩
 ·rcases eF e with ⟨_,e2⟩ | e1
  ·rw[e2];exact I.bZ.fresh (qEq _)
  ·exact I.iE x c (B.sub.of x c e1)
 ·show(pE pick σ).length=NB.length;unfold pE;rw[qAc];exact B.len
theorem Dp (I:Inv X pins σ H s)(hf:∀b∈fp,jI X pins H b)(J:Inv (kM X NB sc cl y0 s H fp) [] σ' H' s'):Inv X pins σ H' s':=by
 refine I.call' (ch:=fp) J.os J.base J.bZ J.bare fun b hb=>?_;obtain⟨_,f1,_,f3,f4,f5⟩:=hf b hb;exact⟨f3,f1,f4,f5⟩
end
section
variable {X:Cx}{NB:List Str}{pick:List (Option Nat)}{sc:qIx}{cl:List (Str×Addr)}{y0:Str}{elt target iter:Expr}{ifs:List Expr}{pos:Pos}{wi:TI}{g:TG}{c:TT}{te:TE}
theorem BG {pins:List (Addr×Obj)}{s:qAl}{σ:St}{H:Hp}{use:Option (qAi->Sem Unit)}{Q:Addr->Hp->Prop}{QV:qAi->qAl->Prop}(B:BF X NB pick sc cl y0)(hc:X.calm=true)(hi:PI X target iter wi)
  (hg:∀s₃ H₃ fp,PG (kM X NB sc cl y0 s₃ H₃ fp) target g) (ht:∀s₃ H₃ fp,vJ (kM X NB sc cl y0 s₃ H₃ fp) ifs c) (he:∀s₃ H₃ fp,PE (kM X NB sc cl y0 s₃ H₃ fp) elt te)
  (hs:∀x,qFn iter X.env x=pure x) (I:Inv X pins σ H s) (h:vI wi pick g c te σ H Q)
  (fin:∀(D C:Addr) (s':qAl) (H':Hp),Inv X pins σ H' s'->Q D H'->H' C=none->C≠X.env.locals->X.s₀.heap.objs.size<=C->(∀x a,X.env.cells.lookup x=some a->a≠C)->(∀p∈X.pn++pins,p.1≠C)->(∃m,s'.heap.Ns C m) ->
   qPd (qCa X.prog X.w) X.A X.xe use QV (.ref D) C (.ok .next) s') :
  qBj (qCa X.prog X.w) X.A (qKl (.ListComp elt [⟨target,iter,ifs,0⟩] sc pos) sc X.env (firstIterPos [⟨target,iter,ifs,0⟩] pos) (qOt []) false (eval iter X.env) use) QV X.xe s:=by
 refine wpAny_comprehension_free rfl hs B.yB B.kind B.names (cE (hi pins s σ H _ I h) fun v s1 h1=>cE h1 fun itv s2 h2=>?_);obtain⟨it,fp,tn,J,H2,e,I2,T,st2,f2,h2⟩:=h2;subst e;refine qCp ?_;have I3:Inv X pins σ (upd H2 s2.heap.objs.size (.lst [])) { s2 with heap:=s2.heap.push { cls:=.type "list",dict:=none,data:=.seq ([]:List qAi).toArray } } :=
  I2.laid (t':=s2.toks) (fun b u e=>qAh _ e) (qAg _) ⟨qBr _,[],0,.nil,qAt _ rfl⟩
 have hf:H2 s2.heap.objs.size=none:=I2.bZ.fresh (qAg _);have lt:∀b∈fp,b≠s2.heap.objs.size:=fun b hb=>by
  obtain⟨o,ho,_⟩:=T.obj _ _ st2 b hb;exact qBe (qAr ho)
 have f3:∀b∈fp,jI X pins (upd H2 s2.heap.objs.size (.lst [])) b:=fun b hb=>⟨by rw[aL (lt b hb)];exact(f2 b hb).1,(f2 b hb).2⟩;generalize hs3:({ s2 with heap:=s2.heap.push { cls:=.type "list",dict:=none,data:=.seq ([]:List qAi).toArray } }:qAl)=s3 at I3|-;have kp3:∀b o,s2.heap.get? b=some o->s3.heap.get? b=some o:=fun b o e=>by
  rw[<- hs3];exact qAh _ e
 have hex:∀b∈fp,∃o,s3.heap.get? b=some o:=fun b hb=>by
  obtain⟨o,ho,_⟩:=T.obj _ _ st2 b hb;exact⟨o,kp3 b o ho⟩
 have st3:tn 0 s3.heap:=T.keep _ _ _ st2 fun b _ o e=>kp3 b o e;obtain⟨W,⟨m0,w0⟩,turn⟩:=h2 _ hf;refine yJ B.JA B.NZ (fun h₁ hns₁ hce₁ kp4=>?_);have J4:=yK I3 B f3 hex hns₁ hce₁ kp4 s3.toks;have st4:tn 0 h₁:=T.keep _ _ _ st3 fun b _ o e=>kp4 b o e;have stat:∀{H':Hp},(∀b∈fp,H' b=none)->∀b∈fp,jI (kM X NB sc cl y0 s3 (upd H2 s2.heap.objs.size (.lst [])) fp) [] H' b:=fun {H'} hn b hb=>by
  obtain⟨o,ho⟩:=hex b hb;refine⟨hn b hb,qBe (qAr ho),fun z=>?_,.inl hb,fun x a e=>(eF e).elim (fun q z=>oM (qAr ho) (z.symm.trans q.2)) (fun e1=>(f2 b hb).2.2.2.2.1 x a (B.sub.of x a e1)),fun p hp=>absurd (show p∈([]:List (Addr×Obj)) from hp) (by simp)⟩;rcases List.mem_cons.mp (I2.k4 b z) with e | e
  ·exact(f2 b hb).2.1 e
  ·exact(f2 b hb).2.2.1 e
 have loop:qHa (qCa X.prog X.w) X.A (.compLoop (.ListComp elt [⟨target,iter,ifs,0⟩] sc pos) 0 (.ref it) (.ref s2.heap.objs.size) (kM X NB sc cl y0 s3 (upd H2 s2.heap.objs.size (.lst [])) fp).env)
   (qPd (qCa X.prog X.w) X.A X.xe use QV (.ref s2.heap.objs.size) s3.heap.objs.size) { s3 with heap:=h₁,toks:=s3.toks }:=by
  refine lN (fun n s'=>∃i σ' H',Inv (kM X NB sc cl y0 s3 (upd H2 s2.heap.objs.size (.lst [])) fp) [] σ' H' s'/\tn i s'.heap/\(∀b∈fp,H' b=none)/\W i n σ' H') ?_ m0 ⟨0,_,_,J4,st4,fun b hb=>(f3 b hb).1,w0⟩;rintro n s5 ⟨i,σ5,H5,I5,st5,fr5,w5⟩;rcases turn i n σ5 H5 w5 with ⟨stop,qn⟩ | ⟨go,N,hN,step⟩
  ·refine cE (T.done (kM X NB sc cl y0 s3 (upd H2 s2.heap.objs.size (.lst [])) fp) rfl rfl rfl hc i [] s5 σ5 H5 _ I5 (stat fr5) st5 stop) fun r s6 ⟨hr,I6⟩=>?_;subst hr;refine fin s2.heap.objs.size s3.heap.objs.size s6 H5 (Dp I3 f3 I6) qn I6.free (qBe I3.lt).symm I3.sz (fun x a e=>?_) (fun p hp=>?_) ?_
   ·obtain⟨v,o,ho,_⟩:=I3.cell x a e;exact qBe (qAr ho)
   ·exact qBe (qAr (I3.pin p hp).1)
   ·obtain⟨m,hn,_⟩:=I6.loc;exact⟨m,hn⟩
  ·refine cE (T.item (kM X NB sc cl y0 s3 (upd H2 s2.heap.objs.size (.lst [])) fp) rfl rfl rfl hc i [] s5 σ5 H5 _ I5 (stat fr5) st5 go) fun r s6 ⟨u,hr,h6⟩=>?_;subst hr;refine cE h6 fun _ s7 ⟨x,H7,I7,r7,y7,st7,fr7⟩=>?_;have I7':=I7.pinned (stat fr7) (T.obj _ _ st7);have qNp:∀{s9:qAl}{σ9:St}{H9:Hp},Inv (kM X NB sc cl y0 s3 (upd H2 s2.heap.objs.size (.lst [])) fp) ([]++mS fp s7.heap) σ9 H9 s9->N σ9 H9 ->
     ∃m,m<n/\∃i σ' H',Inv (kM X NB sc cl y0 s3 (upd H2 s2.heap.objs.size (.lst [])) fp) [] σ' H' s9/\tn i s9.heap/\(∀b∈fp,H' b=none)/\W i m σ' H':=fun {s9 σ9 H9} I9 n9=>by
    obtain⟨m',hm,w9⟩:=hN σ9 H9 n9;refine⟨m',hm,i+1,σ9,H9,I9.jJ,T.keep _ _ _ st7 fun b hb o e=>(I9.pin (b,o) (qAv _ (qAv _ (fT hb e)))).1,fun b hb=>?_,w9⟩;obtain⟨o,e,d⟩:=T.obj _ _ st7 b hb;exact(I9.pin (b,o) (qAv _ (qAv _ (fT hb e)))).2.1
   refine cE (hg _ _ _ _ s7 σ5 H7 x u _ I7' r7 (step x H7 y7)) fun _ s8 ⟨σ8,H8,I8,q8⟩=>?_;refine cE (ht _ _ _ _ s8 σ8 H8 _ I8 q8) fun b s9 ⟨H9,I9,q9⟩=>?_;cases b with
   | false =>
    rw[if_neg qAj];exact qNp I9 (by rw[if_neg qAj] at q9;exact q9)
   | true =>
    rw[if_pos rfl] at q9|-;refine cE (he _ _ _ _ s9 σ8 H9 _ I9 q9) fun y s10 ⟨vy,H10,I10,r10,xs,hD,hl,q10⟩=>?_;refine cE (mW _ s10 σ8 H10 (.ref s2.heap.objs.size) [vy] (.ref s2.heap.objs.size) [y] (fun _ H'=>N σ8 H') I10 rfl (.cons r10 .nil) ⟨_,xs,vy,rfl,rfl,hD,hl,q10⟩) fun _ s11 ⟨_,H11,I11,_,q11⟩=>?_;exact qNp I11 q11
 refine codeAny_compStart_list loop (T.self _ 0 _ _ _ st4 loop)
theorem Dq (hN:X.N.Nodup)(hx1:X.N[i]?=some x)(hx2:Loc X.env.scope x)
  (hsw:qKi (.ListComp elt [⟨target,iter,ifs,0⟩] sc pos) (some (.Name x pos')) spos.line X.env=pure true) (B:BF X NB pick sc cl y0) (hc:X.calm=true) (hi:PI X target iter wi)
  (hg:∀s₃ H₃ fp,PG (kM X NB sc cl y0 s₃ H₃ fp) target g) (ht:∀s₃ H₃ fp,vJ (kM X NB sc cl y0 s₃ H₃ fp) ifs c) (he:∀s₃ H₃ fp,PE (kM X NB sc cl y0 s₃ H₃ fp) elt te)
  (hs:∀x,qFn iter X.env x=pure x:=by intro _;rfl) (hfn:X.fn x=true\/X.env.scope.names.lookup x=some .local:=by first|exact .inl rfl | exact .inr rfl | assumption) :
  PS X (.Assign [.Name x pos'] (.ListComp elt [⟨target,iter,ifs,0⟩] sc pos) spos) (fun D σ H=>vI wi pick g c te σ H fun l H'=>D.nx (σ.set i (some (.ref l))) H'):=by
 intro pins s σ H D I h;rw[exec_Assign_Name_used _ _ _ _ hsw];refine qAa (qKh (qAa ?_));show qBj _ _ (do let _ <- qKl (.ListComp elt [⟨target,iter,ifs,0⟩] sc pos) sc X.env _ (qOt []) false (eval iter X.env) (some (qKn (.Name x pos') X.env))) _ _ s;refine qAa (cE (BG (use:=some (qKn (.Name x pos') X.env)) (QV:=fun _ s'=>SP X pins D .next s') B hc hi hg ht he hs I h fun l C s' H' I' q c0 c1 c2 c3 c4 hn=>?_) fun _ s' hq=>qAe (qAe hq));obtain⟨m,hm⟩:=hn;show qBj _ _ (qKn (.Name x pos') X.env (.ref l)) _ _ _;refine wpAny_assign_Name (mR (v:=.ref l) I' hN hx1 hx2 rfl (fun s'' I'' ⟨a,hsb,ha⟩=>?_) hfn);have ne:C≠a:=by
  rcases ha with e | e
  ·rw[e];exact c1
  ·exact(c3 x a e).symm
 refine⟨m,hm.sameBut hsb ne,fun hh hsb2=>?_⟩;exact⟨_,H',I''.turned (t':=s''.toks) (fun b o hb e=>(hsb2.2 b hb).trans e) c0 c1 (.inr c2) c3 c4,q⟩
end
end L2
namespace HT
open PySem PyProof.Rows
section
open PySem.SeqAt
open PySem.AutoSeq1 (wpAny_loadPart')
open PySem.MeetsSeq PySem.MeetsSeq2 PySem.MeetsSeq3
end
section
variable {prog:qBx}{w:qDe}{A:qDd}{E:qAi->qAl->Prop}{s:qAl}
end
end HT
namespace L2
open PySem PySem.Spec PyProof.Rows
section
variable {X:Cx}
end
section
variable {X:Cx}
end
end L2
namespace PySem
section
variable {prog:qBx}{w:qDe}{K:Type} [DecidableEq K] {knd:HeapKind prog w K}{A:qDd}{E:qAi->qAl->Prop}{s:qAl}
end
section
variable {prog:qBx}{w:qDe}{K:Type} [DecidableEq K] {knd:KeyKind prog w K}{A:qDd}{E:qAi->qAl->Prop}{s:qAl}
end
end PySem
namespace L2
open PySem PySem.Spec PyProof.Rows
section
variable {X:Cx}
end
section
variable {X:Cx}
end
section
variable {X:Cx}
def Ht (K:qAb):R2:=fun x y H Q=>∃d d',gG K H x d/\gG K H y d'/\d.depth<=64/\d'.depth<=64/\Q (.bl (!PyData.eqv d d')) H
theorem Gi (hu:X.A.units+64<qLj):iH X (qDs .NotEq) (Ht X.K):=by
 intro pins s σ H x y v u Q I rx ry h;obtain⟨d,d',h1,h2,hd,hd',q⟩:=h;obtain⟨as,r1⟩:=h1.reads I rx;obtain⟨bs,r2⟩:=h2.reads I ry;have sh:SeqAt.shaped d=true:=by
  show(d.canLay0&&decide (d.depth<=64))=true;rw[h1.lay.1,decide_eq_true hd];rfl
 have sh':SeqAt.shaped d'=true:=by
  show(d'.canLay0&&decide (d'.depth<=64))=true;rw[h2.lay.1,decide_eq_true hd'];rfl
 exact ne_dataH r1 r2 sh sh' hu ⟨.bl (!PyData.eqv d d'),H,I,rfl,q⟩
end
end L2
set_option maxHeartbeats 4000000
namespace L2
open PySem PySem.Spec PyProof.Rows
section
variable {X:Cx}{pins:List (Addr×Obj)}{σ:St}{H:Hp}{s:qAl}
end
end L2
set_option maxHeartbeats 4000000
namespace PySem.W
open PySem PySem.Calls PyProof.Rows
namespace S6
end S6
end PySem.W
namespace L2
open PySem PySem.Spec PyProof.Rows PySem.W
section
variable {X:Cx}
end
end L2
set_option maxHeartbeats 4000000
namespace L2
open PySem PySem.Spec PyProof.Rows
section
variable {prog:qBx}{w:qDe}{A:qDd}{E:qAi->qAl->Prop}{s:qAl}{d it:Addr}{o:Obj}{es:Array DictEntry}{ep:Nat}
theorem Dr (hd:(d == qFm)=false)(ho:s.heap.get? d=some o)(hc:o.ExactDict)(hdat:o.data = .dict es ep)
  (hQ:Q (.ref s.heap.objs.size) { s with heap:=s.heap.push { cls:=.type "dict_keyiterator",data:=.fields #[.ref d,.int 0 0,.int es.size 0,.int ep 0] } }) :
  qBj (qCa prog w) A (qMy (.ref d)) Q E s:=by
 have hT:s.TypeIs (.ref d) "dict":=⟨o,ho,hc.1⟩;refine wpAny_pyIter_slot hT F.slot_dict_iter (qEg F.slot_dict_iter hT F.entry_dict_iter ?_ (F.args_dict_iter_1 _));unfold Builtin.«dict.__iter__»;refine qAa ?_;unfold Builtin.Dict.dictSlotNone;refine qAa (wpAny_notOrdered_dict hT ?_);show qBj _ _ (pure (Value.ref d)) _ _ s;refine qAe ?_;show qBj _ _ (Builtin.Dict.showsAll d >>= _) _ _ s;unfold Builtin.Dict.showsAll;rw[if_neg (by rw[hd];exact qAj)];refine qAa (qAe ?_);refine qAa (wpAny_dictEntries ho hdat ?_);refine qAa (wpAny_dictEpoch ho hdat ?_);refine qAa (qCp (qAe ⟨_,rfl,"dict_keyiterator",_,⟨_,qAt _ rfl,rfl⟩,F.slot_dict_keyiterator_next.lookup,?_⟩));simpa [qJo] using hQ
theorem Ds (hit:s.heap.IsKeyIter it d i es.size ep)(hod:s.heap.get? d=some o)(hdd:o.data = .dict es ep)(hlt:i<es.size)
  (hQ:∀h',h'.IsKeyIter it d (i+1) es.size ep->qFb it s.heap h'->Q (some es[i].key) { s with heap:=h' }) :
  qBj (qCa prog w) A (qJc (.ref it)) Q E s:=by
 obtain⟨oi,ho,hc,hd⟩:=id hit;unfold qJc;refine qAa (qHh (qEl (name:=Str.ofString "__next__") hit.typeIs F.slot_dict_keyiterator_next
  (qEg F.slot_dict_keyiterator_next hit.typeIs F.entry_dict_keyiterator_next ?_ (F.args_dict_keyiterator_next_1 _))))
 refine qAa (qAe ?_);refine qAa ?_;refine qAa ?_;first | refine qAa (qEx hit.typeIs (qAe ?_)) | refine qAa (qGe hit.typeIs (qAe ?_))
 refine qAa (qJm ho hd ?_);have hown:Builtin.Dict_items.ownsTuple "dict_keyiterator"=false:=by decide
 simp only[hown,qEo,if_false];show qBj _ _ (if (Value.ref d == Value.none)=true then _ else _) _ _ s;rw[if_neg (show ¬((Value.ref d == Value.none)=true) from qAj)];refine qAa (qAe ?_);refine qAa (wpAny_dictEntries hod hdd ?_);rw[if_neg (by simp)];refine qAa (qAe ?_);refine qAa (wpAny_dictEpoch hod hdd ?_);rw[if_neg (by simp)];refine qAe ?_;simp only[show ¬((i:Int)<0) from by lia,if_false,qBl,qBq hlt];refine qAa ?_;first | refine qAa (qEx hit.typeIs (qAe ?_)) | refine qAa (qGe hit.typeIs (qAe ?_))
 refine qAa (wpAny_isOneOf_keyiter hit.typeIs ?_);show qBj _ _ (setField (.ref it) 1 (qJo ((i:Int)+1)) >>= _) _ _ s;refine qAa (qFs ho hd (by simp) ?_);have hit':(s.heap.update it (Obj.mapFields (·.setIfInBounds 1 (qJo ((i:Int)+1))))).IsKeyIter it d (i+1) es.size ep :=
  ⟨_,qDg _ ho (Obj.isFreed_of_fields (Obj.data_mapFields hd _)),(Obj.cls_mapFields ..).trans hc,by rw[Obj.data_mapFields hd];simp[qJo]⟩
 refine qAa (qDl ?_);refine qAa (wpAny_isOneOf_keyiter (s:={ s with heap:=s.heap.update it (Obj.mapFields (·.setIfInBounds 1 (qJo ((i:Int)+1)))) }) hit'.typeIs ?_);show qBj _ _ (pure es[i].key) _ _ _;exact qAe (qAe ⟨_,rfl,qAe (hQ _ hit' (Heap.SameBut.update ..))⟩)
theorem Gj (hh:A.handled=none)(hit:s.heap.IsKeyIter it d i es.size ep)(hod:s.heap.get? d=some o)(hdd:o.data = .dict es ep)(hge:es.size<=i)
  (hQ:∀h',qKs it s.heap h'->Q none { s with heap:=h' }):qBj (qCa prog w) A (qJc (.ref it)) Q E s:=by
 obtain⟨oi,ho,hc,hd⟩:=id hit;unfold qJc;refine qAa (qHh (qEl (name:=Str.ofString "__next__") hit.typeIs F.slot_dict_keyiterator_next
  (qEg F.slot_dict_keyiterator_next hit.typeIs F.entry_dict_keyiterator_next ?_ (F.args_dict_keyiterator_next_1 _))))
 refine qAa (qAe ?_);refine qAa ?_;refine qAa ?_;first | refine qAa (qEx hit.typeIs (qAe ?_)) | refine qAa (qGe hit.typeIs (qAe ?_))
 refine qAa (qJm ho hd ?_);have hown:Builtin.Dict_items.ownsTuple "dict_keyiterator"=false:=by decide
 simp only[hown,qEo,if_false];show qBj _ _ (if (Value.ref d == Value.none)=true then _ else _) _ _ s;rw[if_neg (show ¬((Value.ref d == Value.none)=true) from qAj)];refine qAa (qAe ?_);refine qAa (wpAny_dictEntries hod hdd ?_);rw[if_neg (by simp)];refine qAa (qAe ?_);refine qAa (wpAny_dictEpoch hod hdd ?_);rw[if_neg (by simp)];refine qAe ?_;simp only[show ¬((i:Int)<0) from by lia,if_false,qBl,qEc hge];refine qAa ?_;first | refine qAa (qEx hit.typeIs (qAe ?_)) | refine qAa (qGe hit.typeIs (qAe ?_))
 show qBj _ _ (setField (.ref it) 0 .none >>= _) _ _ s;refine qAa (qFs ho hd (by simp) ?_);show qBj _ _ (qPz (.type "StopIteration") [] >>= _) _ _ _;refine qAa ?_;simp only[qPz,newTuple];refine qAa (qCp ?_ (by size_fits));refine qAa (m:=qJp _ _) (qGr (a:=Value.none) (by first | rfl | (simp only[qJp];rfl)) ?_)
 refine qCp ?_ (by size_fits);simp only[raiseNew];refine qAa (wpAny_handled ?_);rw[show A.in1.handled=none from hh];refine qAa (qAe (wpAny_throw ?_));refine qAa (wpAny_isInstance (T:="StopIteration") (b:=true) ⟨_,qAt _ rfl,rfl⟩ isSubtype_stop ?_);exact qAe (hQ _ (((Heap.SameBut.update ..).extBut.push _).push _))
end
section
variable {X:Cx}{tg:Expr}
end
section
variable {K:qAb}{a:Addr}{xs:List V}{σ0:St}{H1:Hp}{g:TG}{c:TT}{te:TE}{Q:Addr->Hp->Prop}
end
section
variable {X:Cx}
theorem lR (K:qAb){e:Expr}{f:Str}{ta:TE}{pos:Pos}(he:PE X e ta)(hb:qHi e f X.env (eval e X.env)=eval e X.env)(h:X.K=K:=by rfl):PE X (.Attribute e f pos) (Nr K ta f):=by
 subst h;exact bX he hb
theorem Dt (K:qAb)(h:X.K=K:=by rfl):iH X (qFx .Add) (Ho K):=by
 subst h;exact fM
end
section
variable {K:qAb}{a:Addr}{xs:List V}{lo:Int}{n:Nat}{σ0:St}{H1:Hp}{i0:Nat}{c:TT}{te:TE}{Q:Addr->Hp->Prop}
structure tU (f:Nat->List V) (H1:Hp) (D:Addr) (rs:List Addr) (H:Hp):Prop where
 at_:∀i r,rs[i]?=some r->H1 r=none/\r≠D/\H r=some (.lst (f i))
 nd:rs.Nodup
theorem tU.more (h:tU f H1 D rs H2)(hs:aG H1 H2)(hd:H2 D=some (.lst (rs.map V.ref)))(s:aG H2 H3)(hr:H2 r=none)(e:H3 r=some (.lst (f rs.length))):tU f H1 D (rs++[r]) (upd H3 D (.lst ((rs++[r]).map V.ref))):=by
 have nD:r≠D:=fun z=>by rw[z,hd] at hr;cases hr
 refine⟨fun i q hq=>?_,?_⟩
 ·rcases qAm i rs.length with z1 | z1
  ·rw[qBd z1] at hq;obtain⟨a,b,c⟩:=h.at_ i q hq;exact⟨a,b,by rw[aL b];exact s _ _ c⟩
  ·rw[qBb z1] at hq;obtain⟨rfl,rfl⟩:i=rs.length/\r=q:=by
    rcases qEp (i-rs.length) with z | z
    ·rw[z] at hq;exact⟨by lia,Option.some.inj hq⟩
    ·rw[qBm (by show 1<=_;lia)] at hq;cases hq
   exact⟨hs.free hr,nD,by rw[aL nD];exact e⟩
 ·refine List.nodup_append.mpr ⟨h.nd,by simp,fun x hx y hy=>?_⟩;rw[qJf] at hy;subst hy;rintro rfl;obtain⟨i,hi⟩:=List.mem_iff_getElem?.mp hx;have z:=(h.at_ i x hi).2.2;rw[hr] at z;cases z
theorem BH (f:Nat->List V)(hn:n<=qAf)
  (step:∀(i:Nat) (H2:Hp) (k:VK) (k0:Hp->Prop),aG H1 H2->i<n->(∀r H3,aG H2 H3->H2 r=none->H3 r=some (.lst (f i))->k (.ref r) H3) ->
   c (σ0.set i0 (some (.int (lo+(i:Int))))) H2 fun b H4=>if b=true then te (σ0.set i0 (some (.int (lo+(i:Int))))) H4 k else k0 H4)
  (h:∀D rs H2,H1 D=none->aG H1 H2->rs.length=n->tU f H1 D rs H2->H2 D=some (.lst (rs.map V.ref))->Q D H2) :
  ∀D,H1 D=none->∃W:Nat->Nat->St->Hp->Prop,(∃m,W 0 m σ0 (upd H1 D (.lst [])))/\∀i m σ1 H2,W i m σ1 H2 ->
   ((qN lo n).stop i H2/\Q D H2)\/((qN lo n).go i H2/\∃N:St->Hp->Prop,(∀σ' H',N σ' H'->∃m',m'<m/\W (i+1) m' σ' H') /\
    ∀x H',(qN lo n).qQ i H2 x H'->aZ i0 x σ1 H' fun σ2 H3=>c σ2 H3 fun b H4=>if b=true then te σ2 H4 fun y H5=>∃xs,H5 D=some (.lst xs)/\xs.length<qAf/\N σ2 (upd H5 D (.lst (xs++[y]))) else N σ2 H4):=by
 intro D hD;refine⟨fun i m σ1 H2=>σ1.set i0 none=σ0.set i0 none/\aG H1 H2/\(∃rs:List Addr,rs.length=i/\tU f H1 D rs H2/\H2 D=some (.lst (rs.map V.ref)))/\i<=n/\m=n-i,⟨n,rfl,.aF hD,⟨[],rfl,⟨fun j y e=>(by cases e),qIw⟩,aC⟩,qBr _,rfl⟩,?_⟩;rintro i m σ1 H2 ⟨hσ,hs,⟨rs,hy,hR,hd⟩,hi,rfl⟩;have hset:∀v:Option V,σ1.set i0 v=σ0.set i0 v:=fun v=>by
  have z:=congrArg (fun l=>qHt l i0 v) hσ;simpa using z
 rcases qAm i n with hlt | hge
 ·right
  refine⟨hlt,fun σ' H'=>σ'.set i0 none=σ0.set i0 none/\aG H1 H'/\∃rs:List Addr,rs.length=i+1/\tU f H1 D rs H'/\H' D=some (.lst (rs.map V.ref)),fun σ' H' ⟨a,b,c⟩=>⟨n-(i+1),by lia,a,b,c,hlt,rfl⟩,?_⟩;rintro x H' ⟨rfl,rfl⟩;show c (σ1.set i0 (some (.int (lo+(i:Int))))) _ _;rw[hset];subst hy;refine step rs.length _ _ _ hs hlt fun r H3 hs3 hr e3=>⟨_,hs3 _ _ hd,by rw[qAc];lia,by simp,(hs.trans hs3).upd_ne' hD,rs++[r],by rw[qAp];rfl,?_,?_⟩
  ·have z:=hR.more hs hd hs3 hr e3;rw[qAu] at z;exact z
  ·rw[aC,qAu];rfl
 ·left
  obtain rfl:i=n:=qCw hi hge;exact⟨qAg _,h D rs _ hD hs hy hR hd⟩
theorem iK (f:Nat->List V)(hq:aR K H1 a xs)(hn:xs.length<=qAf)
  (step:∀(i:Nat) (x:V) (H2:Hp) (k:VK) (k0:Hp->Prop),aG H1 H2->xs[i]?=some x->(∀r H3,aG H2 H3->H2 r=none->H3 r=some (.lst (f i))->k (.ref r) H3) ->
   c (σ0.set i0 (some x)) H2 fun b H4=>if b=true then te (σ0.set i0 (some x)) H4 k else k0 H4)
  (h:∀D rs H2,H1 D=none->aG H1 H2->rs.length=xs.length->tU f H1 D rs H2->H2 D=some (.lst (rs.map V.ref))->Q D H2) :
  ∀D,H1 D=none->∃W:Nat->Nat->St->Hp->Prop,(∃m,W 0 m σ0 (upd H1 D (.lst [])))/\∀i m σ1 H2,W i m σ1 H2 ->
   ((zQ K a).stop i H2/\Q D H2)\/((zQ K a).go i H2/\∃N:St->Hp->Prop,(∀σ' H',N σ' H'->∃m',m'<m/\W (i+1) m' σ' H') /\
    ∀x H',(zQ K a).qQ i H2 x H'->aZ i0 x σ1 H' fun σ2 H3=>c σ2 H3 fun b H4=>if b=true then te σ2 H4 fun y H5=>∃xs,H5 D=some (.lst xs)/\xs.length<qAf/\N σ2 (upd H5 D (.lst (xs++[y]))) else N σ2 H4):=by
 intro D hD;refine⟨fun i m σ1 H2=>σ1.set i0 none=σ0.set i0 none/\aG H1 H2/\(∃rs:List Addr,rs.length=i/\tU f H1 D rs H2/\H2 D=some (.lst (rs.map V.ref)))/\i<=xs.length/\m=xs.length-i,⟨xs.length,rfl,.aF hD,⟨[],rfl,⟨fun j y e=>(by cases e),qIw⟩,aC⟩,qBr _,rfl⟩,?_⟩;rintro i m σ1 H2 ⟨hσ,hs,⟨rs,hy,hR,hd⟩,hi,rfl⟩;have hset:∀v:Option V,σ1.set i0 v=σ0.set i0 v:=fun v=>by
  have z:=congrArg (fun l=>qHt l i0 v) hσ;simpa using z
 rcases qAm i xs.length with hlt | hge
 ·right
  refine⟨⟨xs,xs[i],hs.seq hq,by simp[hlt]⟩,fun σ' H'=>σ'.set i0 none=σ0.set i0 none/\aG H1 H'/\∃rs:List Addr,rs.length=i+1/\tU f H1 D rs H'/\H' D=some (.lst (rs.map V.ref)),fun σ' H' ⟨a,b,c⟩=>⟨xs.length-(i+1),by lia,a,b,c,hlt,rfl⟩,?_⟩;rintro x H' ⟨rfl,hx⟩;have hx:=hx xs (hs.seq hq);show c (σ1.set i0 (some x)) _ _;rw[hset];subst hy;refine step rs.length x _ _ _ hs hx fun r H3 hs3 hr e3=>⟨_,hs3 _ _ hd,by rw[qAc];lia,by simp,(hs.trans hs3).upd_ne' hD,rs++[r],by rw[qAp];rfl,?_,?_⟩
  ·have z:=hR.more hs hd hs3 hr e3;rw[qAu] at z;exact z
  ·rw[aC,qAu];rfl
 ·left
  obtain rfl:i=xs.length:=qCw hi hge;exact⟨⟨xs,hs.seq hq,qAg _⟩,h D rs _ hD hs hy hR hd⟩
end
section
variable {X:Cx}
def Oa (K:qAb):R2:=fun x y H Q=>∃d d',gG K H x d/\gG K H y d'/\d.depth<=64/\d'.depth<=64/\Q (.bl (PyData.eqv d d')) H
theorem Ai (hu:X.A.units+64<qLj):iH X (qDs .Eq) (Oa X.K):=by
 intro pins s σ H x y v u Q I rx ry h;obtain⟨d,d',h1,h2,hd,hd',q⟩:=h;obtain⟨as,r1⟩:=h1.reads I rx;obtain⟨bs,r2⟩:=h2.reads I ry;have sh:SeqAt.shaped d=true:=by
  show(d.canLay0&&decide (d.depth<=64))=true;rw[h1.lay.1,decide_eq_true hd];rfl
 have sh':SeqAt.shaped d'=true:=by
  show(d'.canLay0&&decide (d'.depth<=64))=true;rw[h2.lay.1,decide_eq_true hd'];rfl
 exact eq_dataH r1 r2 sh sh' hu ⟨.bl (PyData.eqv d d'),H,I,rfl,q⟩
end
section
variable {K:qAb}{a a':Addr}{xs xs':List V}{lo:Int}{n:Nat}{σ0:St}{H1:Hp}{i0:Nat}{c:TT}{te:TE}{g:TG}{Q:Addr->Hp->Prop}
theorem rO (Iv:Nat->List V->Hp->Prop)(mono:∀i ys H H',kT H H'->Iv i ys H->Iv i ys H')(h0:Iv 0 [] H1)(hq:aR K H1 a xs)(hn:xs.length<=qAf)
  (step:∀(i:Nat) (x:V) (H2:Hp) (k:VK) (k0:Hp->Prop) (ys:List V),aG H1 H2->xs[i]?=some x->Iv i ys H2->(∀y H3,aG H2 H3->Iv (i+1) (ys++[y]) H3->k y H3)->(∀H3,aG H2 H3->Iv (i+1) ys H3->k0 H3) ->
   c (σ0.set i0 (some x)) H2 fun b H4=>if b=true then te (σ0.set i0 (some x)) H4 k else k0 H4)
  (h:∀D ys H2,H1 D=none->aG H1 H2->Iv xs.length ys H2->H2 D=some (.lst ys)->Q D H2) :
  ∀D,H1 D=none->∃W:Nat->Nat->St->Hp->Prop,(∃m,W 0 m σ0 (upd H1 D (.lst [])))/\∀i m σ1 H2,W i m σ1 H2 ->
   ((zQ K a).stop i H2/\Q D H2)\/((zQ K a).go i H2/\∃N:St->Hp->Prop,(∀σ' H',N σ' H'->∃m',m'<m/\W (i+1) m' σ' H') /\
    ∀x H',(zQ K a).qQ i H2 x H'->aZ i0 x σ1 H' fun σ2 H3=>c σ2 H3 fun b H4=>if b=true then te σ2 H4 fun y H5=>∃xs,H5 D=some (.lst xs)/\xs.length<qAf/\N σ2 (upd H5 D (.lst (xs++[y]))) else N σ2 H4):=by
 intro D hD;refine⟨fun i m σ1 H2=>σ1.set i0 none=σ0.set i0 none/\aG H1 H2/\(∃ys,ys.length<=i/\Iv i ys H2/\H2 D=some (.lst ys))/\i<=xs.length/\m=xs.length-i,⟨xs.length,rfl,.aF hD,⟨[],qAg _,mono _ _ _ _ (aG.aF hD).t h0,aC⟩,qBr _,rfl⟩,?_⟩;rintro i m σ1 H2 ⟨hσ,hs,⟨ys,hy,hR,hd⟩,hi,rfl⟩;have hset:∀v:Option V,σ1.set i0 v=σ0.set i0 v:=fun v=>by
  have z:=congrArg (fun l=>qHt l i0 v) hσ;simpa using z
 rcases qAm i xs.length with hlt | hge
 ·right
  refine⟨⟨xs,xs[i],hs.seq hq,by simp[hlt]⟩,fun σ' H'=>σ'.set i0 none=σ0.set i0 none/\aG H1 H'/\∃ys,ys.length<=i+1/\Iv (i+1) ys H'/\H' D=some (.lst ys),fun σ' H' ⟨a,b,c⟩=>⟨xs.length-(i+1),by lia,a,b,c,hlt,rfl⟩,?_⟩;rintro x H' ⟨rfl,hx⟩;have hx:=hx xs (hs.seq hq);show c (σ1.set i0 (some x)) _ _;rw[hset];refine step i x _ _ _ ys hs hx hR (fun y H3 hs3 hR3=>⟨_,hs3 _ _ hd,by lia,?_,(hs.trans hs3).upd_ne' hD,ys++[y],by rw[qAp];show _+1<=_;lia,mono _ _ _ _ (.lst (hs3 _ _ hd)) hR3,aC⟩) fun H3 hs3 hR3=>⟨?_,hs.trans hs3,ys,by lia,hR3,hs3 _ _ hd⟩
  ·simp
  ·simp
 ·left
  obtain rfl:i=xs.length:=qCw hi hge;exact⟨⟨xs,hs.seq hq,qAg _⟩,h D ys _ hD hs hR hd⟩
theorem m9 (Ag:St->Prop)(Iv:Nat->List V->Hp->Prop)(mono:∀i ys H H',kT H H'->Iv i ys H->Iv i ys H')(h0:Ag σ0)(h00:Iv 0 [] H1)(hq:aR K H1 a xs)(hq':aR K H1 a' xs')(hlen:xs.length=xs'.length)(hn:xs.length<=qAf)
  (step:∀(i:Nat) (x y:V) (t:Addr) (σ1:St) (H2:Hp) (k:St->VK) (k0:St->Hp->Prop) (ys:List V),Ag σ1->aG H1 H2->xs[i]?=some x->xs'[i]?=some y->H2 t=some (.tup [x,y])->Iv i ys H2->(∀σ2 z H3,Ag σ2->aG H2 H3->Iv (i+1) (ys++[z]) H3->k σ2 z H3)->(∀σ2 H3,Ag σ2->aG H2 H3->Iv (i+1) ys H3->k0 σ2 H3) ->
   g (.ref t) σ1 H2 fun σ2 H3=>c σ2 H3 fun b H4=>if b=true then te σ2 H4 (k σ2) else k0 σ2 H4)
  (h:∀D ys H2,H1 D=none->aG H1 H2->Iv xs.length ys H2->H2 D=some (.lst ys)->Q D H2) :
  ∀D,H1 D=none->∃W:Nat->Nat->St->Hp->Prop,(∃m,W 0 m σ0 (upd H1 D (.lst [])))/\∀i m σ1 H2,W i m σ1 H2 ->
   ((Ab K a a').stop i H2/\Q D H2)\/((Ab K a a').go i H2/\∃N:St->Hp->Prop,(∀σ' H',N σ' H'->∃m',m'<m/\W (i+1) m' σ' H') /\
    ∀x H',(Ab K a a').qQ i H2 x H'->g x σ1 H' fun σ2 H3=>c σ2 H3 fun b H4=>if b=true then te σ2 H4 fun y H5=>∃xs,H5 D=some (.lst xs)/\xs.length<qAf/\N σ2 (upd H5 D (.lst (xs++[y]))) else N σ2 H4):=by
 intro D hD;refine⟨fun i m σ1 H2=>Ag σ1/\aG H1 H2/\(∃ys,ys.length<=i/\Iv i ys H2/\H2 D=some (.lst ys))/\i<=xs.length/\m=xs.length-i,⟨xs.length,h0,.aF hD,⟨[],qAg _,mono _ _ _ _ (aG.aF hD).t h00,aC⟩,qBr _,rfl⟩,?_⟩;rintro i m σ1 H2 ⟨hσ,hs,⟨ys,hy',hR,hd⟩,hi,rfl⟩;rcases qAm i xs.length with hlt | hge
 ·right
  have hlt':i<xs'.length:=hlen▸hlt;refine⟨⟨xs,xs',xs[i],xs'[i],hs.seq hq,hs.seq hq',by simp[hlt],by simp[hlt']⟩,fun σ' H'=>Ag σ'/\aG H1 H'/\∃ys,ys.length<=i+1/\Iv (i+1) ys H'/\H' D=some (.lst ys),fun σ' H' ⟨a,b,c⟩=>⟨xs.length-(i+1),by lia,a,b,c,hlt,rfl⟩,?_⟩;rintro v H' ⟨t,x,y,rfl,ht,rfl,hx,hy⟩;have hx:=hx xs (hs.seq hq);have hy:=hy xs' (hs.seq hq');have hst:aG H1 (upd H2 t (.tup [x,y])):=hs.trans (.aF ht);have hdt:=aG.aF (o:=.tup [x,y]) ht _ _ hd;refine step i x y t σ1 _ (fun σ2 y H5=>∃xs,H5 D=some (.lst xs)/\xs.length<qAf/\_) _ ys hσ hst hx hy aC (mono _ _ _ _ (aG.aF ht).t hR) (fun σ2 z H3 a2 hs3 hR3=>⟨_,hs3 _ _ hdt,by lia,a2,(hst.trans hs3).upd_ne' hD,ys++[z],by rw[qAp];show _+1<=_;lia,mono _ _ _ _ (.lst (hs3 _ _ hdt)) hR3,aC⟩) fun σ2 H3 a2 hs3 hR3=>⟨a2,hst.trans hs3,ys,by lia,hR3,hs3 _ _ hdt⟩
 ·left
  obtain rfl:i=xs.length:=qCw hi hge;exact⟨⟨xs,xs',hs.seq hq,hs.seq hq',.inl (qAg _)⟩,h D ys _ hD hs hR hd⟩
end
section
variable {X:Cx}
def fA (lo:Int)(n:Nat):List V:=(qAn n).map fun(i:Nat)=>V.int (lo+(i:Int))
def Qv (ta:TA):TE:=fun σ H Q=>ta σ H fun vs H1=>∃(lo hi:Int) (n:Nat),vs=[.int lo,.int hi]/\hi=lo+(n:Int)/\n<=1000/\-(2^61)<=lo/\lo<2^61/\∀p,H1 p=none->Q (.ref p) (upd H1 p (.lst (fA lo n)))
theorem kU (hg:Gl X "list")(hm:X.mg "list"=none)(hg':Gl X "range")(hm':X.mg "range"=none)(hc:X.calm=true)(ha:PA X [a,b] ta)
  (hs:qBo [a,b] X.env=[(false,eval a X.env),(false,eval b X.env)]:=by rfl) (hs2:qBo [b] X.env=[(false,eval b X.env)]:=by rfl) (hs':qBo [.Call (.Name "range" p') [a,b] [] pos'] X.env=[(false,eval (.Call (.Name "range" p') [a,b] [] pos') X.env)]:=by rfl) :
  PE X (.Call (.Name "list" p) [.Call (.Name "range" p') [a,b] [] pos'] [] pos) (Qv ta):=by
 intro pins s σ H Q I h;refine qMp (fD I hg hm c5 (qBv ?_ hs' rfl));rw[hs'];show qBj _ _ (qNm ((false,eval (.Call (.Name "range" p') [a,b] [] pos') X.env)::[])) _ _ s;refine qFr ?_;refine qMp (fD I hg' hm' qNb (qBv (cE (ha pos' pins s σ H _ I h) fun us s1 ⟨vs,H1,I1,r1,q1⟩=>?_) (by rw[hs,hs2]) (by rw[hs2];rfl)));obtain⟨lo,hi,n,e,ehi,hn,l1,l2,q⟩:=q1;subst e;obtain⟨u,u',rfl,⟨t,rfl⟩,⟨t',rfl⟩⟩:=vals2 r1;refine call_range_2 ?_;refine qGg ?_;refine call_list_range (I1.ok.hd hc) (IsRange.new ..) (small_one (by lia) (by lia) (by lia) (by lia)) (n:=n) (by rw[rangeSize_one];split <;> lia) (by lia) fun h' tk acc c hk hS hacc=>?_;have hk2:∀b o,s1.heap.get? b=some o->h'.get? b=some o:=fun b o e=>hk b o (qAh _ e);have vv:Vals (fA lo n) acc.toList:=by
  refine jR (by unfold fA;rw[qAc,qAs,qBz,hacc.1]) fun i x u hx hu=>?_;have hi:i<n:=by
   obtain⟨z,_⟩:=List.getElem?_eq_some_iff.mp hx;unfold fA at z;rw[qAc,qAs] at z;exact z
  unfold fA at hx;rw[qAo,qCj hi] at hx;obtain rfl:V.int (lo+(i:Int))=x:=Option.some.inj hx;obtain⟨t',rfl⟩:=hacc.2 i u (by simpa using hu);exact⟨t',by rw[qGj]⟩
 refine⟨.ref _,_,I1.laid (o:=.lst (fA lo n)) (t':=tk) hk2 ?_ ?_,rfl,q _ (I1.bZ.fresh ?_)⟩
 ·rw[qCy];exact qEq _
 ·refine⟨by unfold fA;rw[qAc,qAs];exact qAk (aK hn),acc.toList,c,vv,by simpa using hS⟩
 ·rw[qCy];exact qEq _
theorem pL (K:qAb)(hu:X.A.units+64<qLj)(h:X.K=K:=by rfl):iH X (qDs .NotEq) (Ht K):=by
 subst h;exact Gi hu
end
section
variable {K:qAb}{lo:Int}{n:Nat}{σ0:St}{H1:Hp}{i0:Nat}{c:TT}{te:TE}{Q:Addr->Hp->Prop}
theorem rP (Iv:Nat->List V->Hp->Prop)(mono:∀i ys H H',kT H H'->Iv i ys H->Iv i ys H')(h0:Iv 0 [] H1)(hn:n<=qAf)
  (step:∀(i:Nat) (H2:Hp) (k:VK) (k0:Hp->Prop) (ys:List V),aG H1 H2->i<n->Iv i ys H2->(∀y H3,aG H2 H3->Iv (i+1) (ys++[y]) H3->k y H3)->(∀H3,aG H2 H3->Iv (i+1) ys H3->k0 H3) ->
   c (σ0.set i0 (some (.int (lo+(i:Int))))) H2 fun b H4=>if b=true then te (σ0.set i0 (some (.int (lo+(i:Int))))) H4 k else k0 H4)
  (h:∀D ys H2,H1 D=none->aG H1 H2->Iv n ys H2->H2 D=some (.lst ys)->Q D H2) :
  ∀D,H1 D=none->∃W:Nat->Nat->St->Hp->Prop,(∃m,W 0 m σ0 (upd H1 D (.lst [])))/\∀i m σ1 H2,W i m σ1 H2 ->
   ((qN lo n).stop i H2/\Q D H2)\/((qN lo n).go i H2/\∃N:St->Hp->Prop,(∀σ' H',N σ' H'->∃m',m'<m/\W (i+1) m' σ' H') /\
    ∀x H',(qN lo n).qQ i H2 x H'->aZ i0 x σ1 H' fun σ2 H3=>c σ2 H3 fun b H4=>if b=true then te σ2 H4 fun y H5=>∃xs,H5 D=some (.lst xs)/\xs.length<qAf/\N σ2 (upd H5 D (.lst (xs++[y]))) else N σ2 H4):=by
 intro D hD;refine⟨fun i m σ1 H2=>σ1.set i0 none=σ0.set i0 none/\aG H1 H2/\(∃ys,ys.length<=i/\Iv i ys H2/\H2 D=some (.lst ys))/\i<=n/\m=n-i,⟨n,rfl,.aF hD,⟨[],qAg _,mono _ _ _ _ (aG.aF hD).t h0,aC⟩,qBr _,rfl⟩,?_⟩;rintro i m σ1 H2 ⟨hσ,hs,⟨ys,hy,hR,hd⟩,hi,rfl⟩;have hset:∀v:Option V,σ1.set i0 v=σ0.set i0 v:=fun v=>by
  have z:=congrArg (fun l=>qHt l i0 v) hσ;simpa using z
 rcases qAm i n with hlt | hge
 ·right
  refine⟨hlt,fun σ' H'=>σ'.set i0 none=σ0.set i0 none/\aG H1 H'/\∃ys,ys.length<=i+1/\Iv (i+1) ys H'/\H' D=some (.lst ys),fun σ' H' ⟨a,b,c⟩=>⟨n-(i+1),by lia,a,b,c,hlt,rfl⟩,?_⟩;rintro x H' ⟨rfl,rfl⟩;show c (σ1.set i0 (some (.int (lo+(i:Int))))) _ _;rw[hset];refine step i _ _ _ ys hs hlt hR (fun y H3 hs3 hR3=>⟨_,hs3 _ _ hd,by lia,?_,(hs.trans hs3).upd_ne' hD,ys++[y],by rw[qAp];show _+1<=_;lia,mono _ _ _ _ (.lst (hs3 _ _ hd)) hR3,aC⟩) fun H3 hs3 hR3=>⟨?_,hs.trans hs3,ys,by lia,hR3,hs3 _ _ hd⟩
  ·simp
  ·simp
 ·left
  obtain rfl:i=n:=qCw hi hge;exact⟨qAg _,h D ys _ hD hs hR hd⟩
end
section
variable {prog:qBx}{w:qDe}{A:qDd}{E:qAi->qAl->Prop}{s:qAl}
theorem kW:isSeqSlotId "list.__iadd__"=true:=by decide +kernel
theorem iL (ha:s.TypeIs a "list")(hb:s.TypeIs b "list")
  (hc:qBj M A (call (.builtin "list.__iadd__") [a,b]) Q E s):qBj M A (qOf .Add a b) Q E s:=by
 unfold qOf;refine qDl ?_;have hl:qMw (.type "list") (dunderI "add")=pure (some (.builtin "list.__iadd__")):=PySem.F.slot_list_iadd.lookup;have hfi:fillsInplaceSlot (.type "list") "add" (Operator.Add == .Add)=pure false:=by
  unfold fillsInplaceSlot;show(qMw (.type "list") (dunderI "add") >>= fun fi=>pure (fi.isSome && !isSeqSlot fi))=pure false;rw[hl];show(pure (true && !isSeqSlotId "list.__iadd__"):Sem Bool)=pure false;rw[kW];rfl
 have hsi:seqSlot? (.type "list") (dunderI "add")=pure (some (.builtin "list.__iadd__")):=by
  unfold seqSlot?;rw[hl];show((if (!isSeqSlotId "list.__iadd__")=true then pure none else pure (some (.builtin "list.__iadd__")):Sem (Option qAi)))=_;rw[kW];rfl
 refine qAa (qHw ha (qAa (qGr hfi ?_)));show qBj M A (if false=true then _ else _) Q E s;rw[if_neg qAj];refine qAa (wpAny_binaryOp1_none (nm:="add") ha hb noFill_list_add ?_);refine qAa (qGr hsi ?_);exact qAa (qHl hc)
end
section
variable {X:Cx}
def RH:Qb:=fun x y H Q=>∃l b xs zs,x = .ref l/\y = .ref b/\H l=some (.lst xs)/\H b=some (.lst zs)/\xs.length+zs.length<=qAf/\Q (.ref l) (upd H l (.lst (xs++zs)))
theorem oN:Qc X .Add RH:=by
 intro pins s σ H x y v u Q I rx ry h;obtain⟨l,b,xs,zs,rfl,rfl,hH,hB,hz,q⟩:=h;cases rx;cases ry;obtain⟨z,its,n,r,hl,e⟩:=I.FV hH;obtain⟨z2,its2,n2,r2,hl2,e2⟩:=I.FV hB;have hsz:its.toArray.size+its2.toArray.size<=qAf:=by rw[qAx,qAx];lia
 have hlong:¬(!its.toArray.isEmpty&&Builtin.List.listTooLong (its.toArray.size+its2.toArray.size))=true:=by
  rw[vE hsz,qGk];exact qAj
 refine iL ⟨_,e,rfl⟩ ⟨_,e2,rfl⟩ (qJj F.slot_list_iadd ⟨_,e,rfl⟩ F.entry_list_iadd (F.args_list_iadd_2 _ _)
  (AutoSeq1.list___iadd___list_list_0 l its.toArray n b its2.toArray n2 hlong (by rw[qAx];lia) (by lia)) ⟨e,e2,?_⟩)
 refine⟨.ref l,_,I.Ny (its':=its++its2) hH e (by simp) (r.append r2) ?_,rfl,q⟩;rw[qAp];lia
theorem Gk (K:qAb)(hu:X.A.units+64<qLj)(h:X.K=K:=by rfl):iH X (qDs .NotEq) (Jk K (!·)):=by
 subst h;exact Jm hu
def Gm (K:qAb):V->List V->Hp->VK->Prop:=fun x vs H Q=>∃(p:Addr) (bs:List Bool) (j:Nat),x = .ref p/\vs=[.bl true]/\aR K H p (bs.map V.bl)/\bs[j]?=some true/\(∀m,m<j->bs[m]?=some false)/\Q (.int (j:Nat)) H
def eqB (u:qAi):Bool:=match u with
 | .bool b=>b
 | _=>false
theorem BI (K:qAb)(hK:X.K=K):MM X "list.index" (Gm K):=by
 subst hK;intro pins s σ H x vs v us Q I rx rv h;obtain⟨p,bs,j,rfl,rfl,hq,hj,hno,q⟩:=h;cases rx;obtain⟨u,rfl,ru⟩:=rv.one;obtain rfl:u=Value.bool true:=ru;obtain⟨its,r',pl,hz⟩:=I.list hq;obtain⟨⟨oc,od,odt,osl⟩,h1,h2,n,h3⟩:=id pl.isList;dsimp only at h2 h3;subst h2 h3;have at_:∀(m:Nat) (k:Bool),bs[m]?=some k->its[m]?=some (.bool k):=fun m k hm=>by
  obtain⟨u,hu,ru⟩:=r'.get (i:=m) (x:=.bl k) (by rw[qAo,hm];rfl);obtain rfl:u=Value.bool k:=ru;exact hu
 have hl:=r'.length;rw[qAc] at hl;have ht1:=at_ j true hj;have hjl:j<its.length:=by
  rcases qAm j its.length with z | z
  ·exact z
  ·rw[qBm z] at ht1;cases ht1
 refine qJj F.slot_list_index ⟨_,h1,rfl⟩ F.entry_list_index (F.args_list_index_2 _ _) (SeqAt.list_indexAt p its.toArray n od osl (.bool true) eqB j (by simpa using hjl) (by rw[qAc,qCi] at hz;lia) ?_ fun m hm hmj=>?_) ⟨h1,fun y hy=>?_,?_⟩
 ·have e:its.toArray[j]'(by simpa using hjl) = .bool true:=by
   have:=qAd hjl;rw[ht1] at this;simpa using (Option.some.inj this).symm
  rw[e];rfl
 ·have hml:m<its.length:=by simpa using hm
  have ht2:=at_ m _ (hno m hmj);have e:its.toArray[m]'hm = .bool false:=by
   have:=qAd hml;rw[ht2] at this;simpa using (Option.some.inj this).symm
  rw[e];rfl
 ·have hy':y∈its:=by simpa using hy
  obtain⟨m,hm,e⟩:=qDb hy';have hmn:m<bs.length:=by lia
  have ht2:=at_ m _ (qAd hmn);rw[qAd hm,e] at ht2;obtain rfl:y = .bool bs[m]:=Option.some.inj ht2;have ee:eqB (.bool bs[m])=(bs[m] == true):=by cases bs[m] <;> rfl
  rw[ee];exact SeqAt.EqAt.bool_bool _ _
 ·exact⟨.int (j:Nat),H,I.tok _,⟨_,rfl⟩,q⟩
end
theorem lS:∀{l:List α}{m:List β},Paired R l m->∀{i:Nat}{x:α},l[i]?=some x->∃y,m[i]?=some y/\R x y
 | _,_,.nil,i,x,e=>by cases i <;> cases e
 | _,_,.cons h t,0,x,e=>⟨_,rfl,by rw[<- Option.some.inj e];exact h⟩
 | _,_,.cons h t,i+1,x,e=>lS t (i:=i) e
theorem vU (h:(b0 P w).is k v=true):RelV (kV k) v:=by
 rcases cN h with ⟨i,t,rfl,rfl⟩ | ⟨x,t,rfl,rfl⟩
 ·exact⟨t,rfl⟩
 ·exact⟨t,rfl⟩
theorem Aj {P:qBx}{w:qDe}{h:Heap}{a:Addr}{vs:List (Key×qAi)}(d:h.DictOf (b0 P w) a vs):∃ep,h.DictAt (b0 P w) a vs ep:=by
 obtain⟨o,es,ep,r⟩:=d;exact⟨ep,o,es,r⟩
theorem BJ (r:KV kvs vs){its:List qAi}(hl:its.length=vs.length)(h:∀(i:Nat) (v:qAi),its[i]?=some v->∃k x,vs[i]?=some (k,x)/\(b0 P w).is k v=true):Vals (kvs.map fun kv=>kV kv.1) its:=by
 have rl:=Paired.length r;refine jR (by rw[qAc];lia) fun i x u hx hu=>?_;obtain⟨k,y,e1,e2⟩:=h i u hu;rw[qAo] at hx;cases e:kvs[i]? with
 | none=>rw[e] at hx;cases hx
 | some kv =>
  rw[e] at hx;obtain rfl:kV kv.1=x:=Option.some.inj hx;obtain⟨q,hq,rq⟩:=lS r e;rw[e1] at hq;obtain rfl:(k,y)=q:=Option.some.inj hq;rw[show kv.1=k from rq.1];exact vU e2
theorem BK {kvs:List (Key×V)}{vs:List (Key×qAi)}(r:KV kvs vs){its:List qAi}(hl:its.length=vs.length)(h:∀(i:Nat) (v:qAi),its[i]?=some v->∃k,vs[i]?=some (k,v)):Vals (kvs.map fun kv=>kv.2) its:=by
 have rl:=Paired.length r;refine jR (by rw[qAc];lia) fun i x u hx hu=>?_;obtain⟨k,e1⟩:=h i u hu;rw[qAo] at hx;cases e:kvs[i]? with
 | none=>rw[e] at hx;cases hx
 | some kv =>
  rw[e] at hx;obtain rfl:kv.2=x:=Option.some.inj hx;obtain⟨q,hq,rq⟩:=lS r e;rw[e1] at hq;obtain rfl:(k,u)=q:=Option.some.inj hq;exact rq.2
section
variable {X:Cx}
theorem gH (hc:X.calm=true):gC X (.type "list") (fun xs H Q=>∃a kvs,xs=[.ref a]/\Rd H a (.dK kvs)/\∀l,H l=none->Q (.ref l) (upd H l (.lst (kvs.map fun kv=>kV kv.1)))):=by
 intro pins s σ H xs us Q I r h;obtain⟨a,kvs,rfl,hq,q⟩:=h;obtain⟨u,rfl,rx⟩:=vals1 r;cases rx;obtain⟨z,hd,vs,rel,dd⟩:=rN I.bZ hq;obtain⟨ep,da⟩:=Aj dd;have rl:=Paired.length rel;refine qMq (PySem.W.kdl_dict (knd:=b0 X.prog X.w) hd) (I.ok.hd hc) da (by lia) fun h' tk acc c kp e hacc=>?_;refine⟨.ref s.heap.objs.size,_,I.laid (t':=tk) kp (qAg _) (show cO X.prog X.w _ h' _ (.lst (kvs.map fun kv=>kV kv.1)) from⟨by rw[qAc];exact z,acc.toList,c,BJ rel (by rw[qBz];exact hacc.1) fun i v hv=>hacc.2 i v (by rw[<- qDr];exact hv),by simpa using e⟩),rfl,q _ (I.bZ.fresh (qAg _))⟩
def RI (td:TE):TE:=fun σ H Q=>td σ H fun x H1=>∃a kvs,x = .ref a/\Rd H1 a (.dK kvs)/\∀l,H1 l=none->Q (.ref l) (upd H1 l (.lst (kvs.map fun kv=>kv.2)))
theorem iB {o:Expr}{td:TE}{p pos apos cpos:Pos}(hg:Gl X "list")(hm:X.mg "list"=none)(hc:X.calm=true)(ho:PE X o td)
  (hbase:qHi o "values" X.env (eval o X.env)=eval o X.env:=by rfl) (hline:(apos.endLine == cpos.line)=true:=by rfl)
  (hs:qBo [.Call (.Attribute o "values" apos) [] [] cpos] X.env=[(false,eval (.Call (.Attribute o "values" apos) [] [] cpos) X.env)]:=by rfl) :
  PE X (.Call (.Name "list" p) [.Call (.Attribute o "values" apos) [] [] cpos] [] pos) (RI td):=by
 intro pins s σ H Q I h;refine qMp (fD I hg hm c5 (qBv ?_ hs rfl));rw[hs];show qBj _ _ (qNm ((false,eval (.Call (.Attribute o "values" apos) [] [] cpos) X.env)::[])) _ _ s;refine qFr ?_;refine wpAny_Call_method0_late hbase hline (cE (ho pins s σ H _ I h) fun v s1 ⟨x,H1,I1,r1,q1⟩=>?_);obtain⟨a,kvs,ex,hq,q⟩:=q1;subst ex;cases r1;obtain⟨z,hd,vs,rel,dd⟩:=rN I1.bZ hq;have rl:=Paired.length rel;refine⟨"dict","dict.values",PySem.F.plainAttrs_dict,qKo,PySem.F.type_dict_values,dd.typeIs,fun b e=>?_,qLm rfl (PySem.evalArgs_none ?_)⟩
 ·cases e
  obtain⟨o,es,ep,g1,g2,_⟩:=id dd;exact⟨o,g1,g2.2.1⟩
 refine call_meetsIn qKo dd.typeIs PySem.F.entry_dict_values (PySem.F.args_dict_values_1 _) (meets_dict_values (b0 X.prog X.w) a hd) ⟨⟨vs,dd⟩,?_⟩;refine qGg ?_;have kp1:∀b o,s1.heap.get? b=some o->(s1.heap.push { cls:=.type "dict_values",data:=.fields #[.ref a] }).get? b=some o:=fun b o e=>qAh _ e;obtain⟨ep,da⟩:=Aj dd;have I2:Inv X pins σ H1 { s1 with heap:=s1.heap.push { cls:=.type "dict_values",data:=.fields #[.ref a] } }:=I1.kept (t':=s1.toks) kp1;have vw:(s1.heap.push { cls:=.type "dict_values",data:=.fields #[.ref a] }).IsValuesView s1.heap.objs.size a:=⟨_,qAt _ rfl,rfl,rfl⟩;have da2:(s1.heap.push { cls:=.type "dict_values",data:=.fields #[.ref a] }).DictAt (b0 X.prog X.w) a vs ep:=da.at' fun o e=>kp1 _ _ e;refine qMq (s:={ s1 with heap:=s1.heap.push { cls:=.type "dict_values",data:=.fields #[.ref a] } }) (PySem.W.kdl_values (knd:=b0 X.prog X.w)) (I2.ok.hd hc) ⟨vw,da2⟩ (by lia) fun h' tk acc c kp e hacc=>?_;refine⟨.ref _,_,I2.laid (t':=tk) kp (qAg _) (show cO X.prog X.w _ h' _ (.lst (kvs.map fun kv=>kv.2)) from⟨by rw[qAc];exact z,acc.toList,c,BK rel (by rw[qBz];exact hacc.1) fun i v hv=>hacc.2 i v (by rw[<- qDr];exact hv),by simpa using e⟩),rfl,q _ (I2.bZ.fresh (qAg _))⟩
end
end L2
namespace L2
namespace ST
open PySem
def tV (xs:Array Nat):Prop:=∀(i j a b:Nat),xs[i]?=some a->xs[j]?=some b->i<j->a<b
theorem Ob (xs:Array Nat)(j:Nat)(hr:tV xs):∀(f lo hi:Nat),hi-lo<=f->lo<=hi->hi<=xs.size ->
  (∀i a,i<lo->xs[i]?=some a->a<j)->(∀i a,hi<=i->xs[i]?=some a->j<=a) ->
  SetTable.below.go xs j f lo hi<=xs.size/\(∀i a,i<SetTable.below.go xs j f lo hi->xs[i]?=some a->a<j)/\(∀i a,SetTable.below.go xs j f lo hi<=i->xs[i]?=some a->j<=a):=by
 intro f;induction f with
 | zero =>
  intro lo hi h1 h2 h3 h4 h5;have e:lo=hi:=by lia
  subst e;exact⟨h3,h4,h5⟩
 | succ f ih =>
  intro lo hi h1 h2 h3 h4 h5;unfold SetTable.below.go;by_cases hl:lo<hi
  ·rw[if_pos hl];have hm:(lo+hi)/2<xs.size:=by lia
   have em:xs[(lo+hi)/2]?=some xs[(lo+hi)/2]:=qBq hm;have ed:xs.getD ((lo+hi)/2) j=xs[(lo+hi)/2]:=by
    rw[Array.getD_eq_getD_getElem?,em];rfl
   dsimp only;by_cases hc:xs.getD ((lo+hi)/2) j<j
   ·rw[if_pos hc];refine ih _ _ (by lia) (by lia) h3 (fun i a hi' e=>?_) h5;rw[ed] at hc;rcases qAm i ((lo+hi)/2) with h | h
    ·exact qPo (hr _ _ _ _ e em h) hc
    ·have:i=(lo+hi)/2:=by lia
     subst this;rw[em] at e;have:=Option.some.inj e;lia
   ·rw[if_neg hc];refine ih _ _ (by lia) (by lia) (by lia) h4 (fun i a hi' e=>?_);rw[ed] at hc;rcases qAm ((lo+hi)/2) i with h | h
    ·have:=hr _ _ _ _ em e h;lia
    ·have:i=(lo+hi)/2:=by lia
     subst this;rw[em] at e;have:=Option.some.inj e;lia
  ·rw[if_neg hl];have e:lo=hi:=by lia
   subst e;exact⟨h3,h4,h5⟩
theorem pM (hr:tV xs)(j:Nat):SetTable.below xs j<=xs.size/\(∀i a,i<SetTable.below xs j->xs[i]?=some a->a<j)/\(∀i a,SetTable.below xs j<=i->xs[i]?=some a->j<=a):=by
 refine Ob xs j hr _ 0 _ (by lia) (qBr _) (qAg _) (fun i a h=>absurd h (qFy _)) (fun i a h e=>?_);rw[qEc h] at e;cases e
theorem yL (hr:tV xs){i a:Nat}(e:xs[i]?=some a):SetTable.below xs (a+1)=i+1:=by
 obtain⟨h1,h2,h3⟩:=pM hr (a+1);have hi:i<xs.size:=by
  rcases qAm i xs.size with h | h
  ·exact h
  ·rw[qEc h] at e;cases e
 rcases Nat.lt_trichotomy (SetTable.below xs (a+1)) (i+1) with h | h | h
 ·have:=h3 i a (by lia) e;lia
 ·exact h
 ·have hs:i+1<xs.size:=by lia
  have e2:=qBq hs;have:=h2 (i+1) _ h e2;have:=hr i (i+1) _ _ e e2 (by lia);lia
theorem yM (hr:tV xs):SetTable.below xs 0=0:=by
 obtain⟨h1,h2,h3⟩:=pM hr 0;rcases qEp (SetTable.below xs 0) with h | h
 ·exact h
 ·have e:=qBq (xs:=xs) (i:=0) (by lia);exact absurd (h2 0 _ h e) (qFy _)
theorem Gn:tV #[]:=fun i j a b e=>by simp at e
theorem BL {l:List Nat}(h:l.Pairwise (· < ·)):tV l.toArray:=by
 intro i j a b e1 e2 hij;rw[qMd] at e1 e2;obtain⟨hi,rfl⟩:=List.getElem?_eq_some_iff.mp e1;obtain⟨hj,rfl⟩:=List.getElem?_eq_some_iff.mp e2;exact List.pairwise_iff_getElem.mp h i j hi hj hij
theorem j8 (n:Nat):tV (Array.range n):=by
 intro i j a b e1 e2 hij;obtain⟨hi,e1⟩:=Array.getElem?_eq_some_iff.mp e1;obtain⟨hj,e2⟩:=Array.getElem?_eq_some_iff.mp e2;rw[Array.getElem_range] at e1 e2;lia
theorem yO (hr:tV xs){j:Nat}(hn:xs[SetTable.below xs j]?≠some j):tV (SetTable.insertAt xs (SetTable.below xs j) j):=by
 obtain⟨h1,h2,h3⟩:=pM hr j;generalize SetTable.below xs j=p at hn h1 h2 h3;have at_:∀i a,(SetTable.insertAt xs p j)[i]?=some a->(i<p/\xs[i]?=some a)\/(i=p/\a=j)\/(p<i/\xs[i-1]?=some a):=by
  intro i a e;unfold SetTable.insertAt at e;rw[Array.getElem?_append,Array.size_push,qMu] at e;split at e
  ·rename_i h;rw[Array.getElem?_push,qMu] at e;split at e
   ·right;left
    exact⟨by lia,(Option.some.inj e).symm⟩
   ·left
    rw[qLo] at e;split at e
    ·rename_i h';exact⟨by lia,by simpa using e⟩
    ·cases e
  ·rename_i h;right;right;rw[qLo] at e;split at e
   ·rename_i h';refine⟨by lia,?_⟩;rw[show i-1=p+(i-(min p xs.size-0+1)) by lia];exact e
   ·cases e
 intro i k a b e1 e2 hik;rcases at_ i a e1 with ⟨a1,a2⟩ | ⟨a1,a2⟩ | ⟨a1,a2⟩ <;> rcases at_ k b e2 with ⟨b1,b2⟩ | ⟨b1,b2⟩ | ⟨b1,b2⟩
 ·exact hr _ _ _ _ a2 b2 hik
 ·rw[b2];exact h2 _ _ a1 a2
 ·exact hr _ _ _ _ a2 b2 (by lia)
 ·lia
 ·lia
 ·rw[a2];have:=h3 _ _ (by lia) b2;rcases qAm j b with h | h
  ·exact h
  ·have ej:b=j:=by lia
   subst ej;exfalso;rcases qAm p (k-1) with h' | h'
   ·have hp:p<xs.size:=by
     have:k-1<xs.size:=by
      rcases qAm (k-1) xs.size with z | z
      ·exact z
      ·rw[qEc z] at b2;cases b2
     lia
    have e:=qBq hp;have:=h3 _ _ (qAg _) e;have:=hr _ _ _ _ e b2 h';lia
   ·rw[show k-1=p by lia] at b2;exact hn b2
 ·lia
 ·lia
 ·exact hr _ _ _ _ a2 b2 (by lia)
theorem BM {t:qGt}{j:Nat}(h:∀i,t.slot j≠.live i):t.place[SetTable.below t.place j]?≠some j:=by
 intro e;refine h (SetTable.below t.place j) ?_;unfold SetTable.slot;dsimp only;rw[e];simp
theorem k8:∀(n:Nat) (p:SetTable.Probe) (j:Nat) (d:Option Nat),(∀x,p.dummy=some x->∀i,t.slot x≠.live i)->SetTable.probe.go t f h n p=some (.empty j d)->(∀i,t.slot j≠.live i)/\∀x,d=some x->∀i,t.slot x≠.live i
 | 0,p,j,d,_,e=>by cases e
 | n+1,p,j,d,hp,e=>by
  unfold SetTable.probe.go at e;cases hs:t.slot p.j with
  | empty =>
   rw[hs] at e;dsimp only at e;injection e with e;injection e with e1 e2;subst e1;subst e2;exact⟨fun i=>by (rw[hs];exact fun z=>nomatch z),hp⟩
  | dummy =>
   rw[hs] at e;dsimp only at e;refine k8 n _ j d (fun x hx=>?_) e;have:some p.j=some x:=by
    rw[<- hx];unfold SetTable.advance;split <;> rfl
   rw[<- Option.some.inj this];exact fun i=>by rw[hs];exact fun z=>nomatch z
  | live i =>
   rw[hs] at e;dsimp only at e;split at e
   ·injection e with e
    cases e
   ·refine k8 n _ j d (fun x hx=>?_) e;refine hp x ?_;rw[<- hx];unfold SetTable.advance;split <;> rfl
theorem qV {t:qGt}{h:Int}{j:Nat}{b:Bool}(e:t.freeSlot h=some (j,b)):t.place[SetTable.below t.place j]?≠some j:=by
 unfold SetTable.freeSlot at e;split at e
 ·rename_i j' d hm;injection e with e;injection e with e1 e2;subst e1;obtain⟨a1,a2⟩:=k8 _ _ _ _ (fun x hx=>by cases hx) hm;refine BM fun i=>?_;cases d with
  | none=>exact a1 i
  | some x=>exact a2 x rfl i
 ·cases e
theorem qW {t:qGt}{n:Nat}(h:tV t.place):tV (t.orStandIn n).place:=by
 unfold SetTable.orStandIn;split
 ·exact h
 ·exact j8 n
theorem vV (t:qGt)(n:Nat):(t.orStandIn n).led=t.led:=by
 unfold SetTable.orStandIn;split <;> rfl
theorem yP {t:qGt}{es:Array (Int×qAi)}{h:Int}{x:qAi}(hr:tV t.place):tV (layNew t es h x).2.1.place/\(layNew t es h x).2.1.led=t.led:=by
 unfold layNew;split
 ·rename_i j b e;exact⟨qW (yO hr (qV e)),vV _ _⟩
 ·exact⟨j8 _,rfl⟩
theorem Du {mask finger moves:Nat}{led plain:Bool}{hs:Array Int}{t':qGt}{order:Array Nat}(e:SetTable.laid mask finger moves led plain hs=some (t',order)):tV t'.place/\t'.led=led:=by
 unfold SetTable.laid at e;cases hl:SetTable.layClean mask hs with
 | none=>rw[hl] at e;cases e
 | some owner =>
  rw[hl] at e;have e:=Option.some.inj e;injection e with e1 e2;subst e1;refine⟨BL ?_,rfl⟩;rw[qNh];refine List.Pairwise.filterMap (R:=(· < ·)) _ (fun a a' haa b hb b' hb'=>?_) List.pairwise_lt_range;rw[Option.map_map] at hb hb';cases ho:owner.getD a none with
  | none=>rw[ho] at hb;cases hb
  | some z =>
   cases ho':owner.getD a' none with
   | none=>rw[ho'] at hb';cases hb'
   | some z' =>
    rw[ho] at hb;rw[ho'] at hb';have:=Option.some.inj hb;have:=Option.some.inj hb';simp only[Function.comp] at *;lia
theorem BN:tV (qKj t es n).2.1.place/\(qKj t es n).2.1.led=t.led:=by
 unfold qKj;split
 ·rename_i t' order e;dsimp only;split
  ·exact Du e
  ·exact⟨j8 _,rfl⟩
 ·exact⟨j8 _,rfl⟩
end ST
end L2
namespace L2
namespace ST
open PySem PySem.Spec PyProof.Rows
def iv:qAi->Int
 | .int n _=>n
 | _=>0
def fI (P:qBx)(w:qDe)(h:Heap)(a:Addr)(σ:List Int):Prop :=
 ∃o es ep t,h.get? a=some o/\o.ExactSet/\o.data = .set es ep t/\qNq (qGb P w) es.toList/\(es.toList.map fun e=>iv e.2).Perm σ/\es.size<qFt/\t.fits es.size=true/\tV t.place/\t.led = !w.params.followText "set-order"
theorem Hu (h:(qGb P w).is k v=true):iv v=k:=by
 obtain⟨t,rfl⟩:=Value.isInt_shape (k:=k) (v:=v) h;rfl
theorem fI.at' (x:fI P w h a σ)(e:∀o,h.get? a=some o->h'.get? a=some o):fI P w h' a σ:=by
 obtain⟨o,es,ep,t,ho,r⟩:=x;exact⟨o,es,ep,t,e _ ho,r⟩
section
variable {prog:qBx}{w:qDe}{A:qDd}{E:qAi->qAl->Prop}{s:qAl}
theorem nU {h:Heap}{a:Addr}{o:Obj}{es:Array (Int×qAi)}{ep:Nat}{t:qGt}(ho:h.get? a=some o)(hex:o.ExactSet)(hd:o.data = .set es ep t)
  {es':Array (Int×qAi)}{t':qGt}{σ:List Int} (hel:qNq (qGb prog w) es'.toList) (hmem:(es'.toList.map fun e=>iv e.2).Perm σ) (hb:es'.size<qFt) (hf:t'.fits es'.size=true) (hr:tV t'.place) (hl:t'.led = !w.params.followText "set-order") :
  (h.update a (Obj.putSet es' t')).get? a=some { o with data:=.set es' (ep+1) t' }/\fI prog w (h.update a (Obj.putSet es' t')) a σ:=by
 have hg:(h.update a (Obj.putSet es' t')).get? a=some { o with data:=.set es' (ep+1) t' }:=by
  have:=qDg (Obj.putSet es' t') ho (by rw[putSet_of es' t' hd];rfl);rw[putSet_of es' t' hd] at this;exact this
 exact⟨hg,_,es',ep+1,t',hg,hex,rfl,hel,hmem,hb,hf,hr,hl⟩
theorem Ak {g:Bool->Sem Unit}(hg:∀(b:Bool) (s₁:qAl) (Q':Unit->qAl->Prop),Q' () s₁->qBj (qCa prog w) A (g b) Q' E s₁)
  {a:Addr}{o:Obj}{es:Array (Int×qAi)}{ep:Nat}{t:qGt} (ho:s.heap.get? a=some o) (hex:o.ExactSet) (hd:o.data = .set es ep t)
  {es1:Array (Int×qAi)}{t2:qGt}{σ:List Int} (hel1:qNq (qGb prog w) es1.toList) (hmem1:(es1.toList.map fun e=>iv e.2).Perm σ)
  (hb1:es1.size<qFt) (hf2:t2.fits es1.size=true) (hr2:tV t2.place) (hl2:t2.led = !w.params.followText "set-order"){wasDummy:Bool}{R:Option Bool->qAl->Prop}
  (h:∀h',qFb a s.heap h'->fI prog w h' a σ->R (some true) { s with heap:=h' }) :
  qBj (qCa prog w) A (do
    storeSet a es1 t2
    if (!wasDummy&&t2.tooFull)=true then do
      g (qKj t2 es1 (SetTable.grown es1.size)).2.2
      storeSet a (qKj t2 es1 (SetTable.grown es1.size)).1 (qKj t2 es1 (SetTable.grown es1.size)).2.1
      pure (some true)
     else pure (some true)) R E s:=by
 refine qAa (wpAny_storeSet_of ho hd ?_ (fits_of_scanBound hb1));obtain⟨ho1,hS1⟩:=nU (prog:=prog) (w:=w) ho hex hd hel1 hmem1 hb1 hf2 hr2 hl2;have hsb1:=Heap.SameBut.update s.heap a (Obj.putSet es1 t2);split
 ·have hp:=relayAll_perm t2 es1 (SetTable.grown es1.size);have hfr:=relayAll_fits t2 es1 (SetTable.grown es1.size);obtain⟨hrr,hlr⟩:=BN (t:=t2) (es:=es1) (n:=SetTable.grown es1.size);generalize hRl:qKj t2 es1 (SetTable.grown es1.size)=Rl at hp hfr hrr hlr|-;obtain⟨es2,t3,gave2⟩:=Rl;dsimp only at hp hfr hrr hlr|-;have hel2:qNq (qGb prog w) es2.toList:=hel1.perm hp;have hmem2:(es2.toList.map fun e=>iv e.2).Perm σ:=(hp.map _).trans hmem1;have hsz:es2.size=es1.size:=by rw[<- qBz,hp.length_eq,qBz]
  have hb2:es2.size<qFt:=by rw[hsz];exact hb1
  refine qAa (hg _ _ _ ?_);refine qAa (wpAny_storeSet_of ho1 rfl ?_ (fits_of_scanBound hb2));obtain⟨_,hS2⟩:=nU (prog:=prog) (w:=w) ho1 hex rfl hel2 hmem2 hb2 hfr hrr (hlr.trans hl2);exact qAe (h _ (hsb1.trans (Heap.SameBut.update _ a _)) hS2)
 ·exact qAe (h _ hsb1 hS1)
theorem JB (hS:fI prog w s.heap a σ)(hroom:σ.length+1<qFt)
  (h:∀h' b,qFb a s.heap h'->fI prog w h' a (qKy σ k)->Q b { s with heap:=h' }) :
  qBj (qCa prog w) A (setAddHashed a (.int k tk) (hashInt k)) Q E s:=by
 obtain⟨o,es,ep,t,ho,hex,hd,hel,hmem,hb,hf,hr,hl⟩:=id hS;have hkey:(qGb prog w).is k (.int k tk)=true:=intKind_is _ _ _ _;have hsc:(Value.int k tk).scannable=true:=rfl;have hn:es.size=σ.length:=by rw[<- hmem.length_eq,qAc,qBz]
 have hb1:es.size+1<qFt:=by rw[hn];exact hroom
 unfold setAddHashed setAddHashedIn;refine qDl (qAa (qFk ho hd hf ?_));dsimp only;rw[byScan_of hsc hb hel];simp only[↓reduceIte];unfold setAddByScan;refine qAa ?_;refine qAa (qHl ?_);refine qAa (wpAny_setScan_of (knd:=qGb prog w) hkey ho hd hf hel ?_);cases hr':List.findIdx? (fun e=>(qGb prog w).is k e.2) es.toList with
 | some j =>
  dsimp only;obtain⟨hj,hpj,_⟩:=List.findIdx?_eq_some_iff_getElem.mp hr';have hk:k∈σ:=hmem.mem_iff.mp (List.mem_map.mpr ⟨_,qEi hj,Hu hpj⟩);refine qAe (qAe ?_);have e:s={ s with heap:=s.heap }:=by cases s;rfl
  rw[e];refine h s.heap false (Heap.SameBut.refl a s.heap) ?_;unfold qKy;rw[if_pos (List.any_eq_true.mpr ⟨k,hk,by simp⟩)];exact hS
 | none =>
  dsimp only;have hk:k∉σ:=fun hk=>by
   obtain⟨e,he,q⟩:=List.mem_map.mp (hmem.mem_iff.mpr hk);have hno:=List.findIdx?_eq_none_iff.mp hr' e he;obtain⟨⟨k',hk',_⟩,_⟩:=hel e he;have:k'=k:=by rw[<- Hu hk',q]
   rw[this] at hk';rw[hk'] at hno;cases hno
  have hgw:∀(b:Bool){s₁:qAl}{Q':Unit->qAl->Prop},Q' () s₁->qBj (qCa prog w) A (match b with | true=>rule "set.scan.the-table-gave-way" | false=>pure ()) Q' E s₁ :=
   fun b s₁ Q' hq=>by cases b <;> first | exact qAe hq | exact qHl hq
  have hperm:=layNew_perm t es ((qGb prog w).hash k) (.int k tk);have hfits:=layNew_fits t es ((qGb prog w).hash k) (.int k tk);obtain⟨hris,hled⟩:=yP (es:=es) (h:=(qGb prog w).hash k) (x:=.int k tk) hr;rw[show hashInt k=(qGb prog w).hash k from rfl];generalize hL:layNew t es ((qGb prog w).hash k) (.int k tk)=L at hperm hfits hris hled|-;obtain⟨es1,t1,wasDummy,gave⟩:=L;dsimp only at hperm hfits hris hled|-;rw[qNl] at hperm;have hel1:qNq (qGb prog w) es1.toList:=(hel.push hkey hsc).perm hperm;have hmem1:(es1.toList.map fun e=>iv e.2).Perm (qKy σ k):=by
   unfold qKy;rw[if_neg (fun z=>by
    obtain⟨x,hx,e⟩:=List.any_eq_true.mp z;rw[eq_of_beq e] at hx;exact hk hx)]
   refine(hperm.map _).trans ?_;rw[qAu];exact hmem.append_right _
  have hb1':es1.size<qFt:=by rw[<- qBz,hperm.length_eq,qAp,qBz];simpa using hb1
  refine qAa (hgw _ ?_);split
  ·refine qAa ?_;rw[hashByValue_scannable 8 hsc];refine qAe ?_;refine Ak ?_ ho hex hd hel1 hmem1 hb1' ?_ ?_ ?_ ?_
   ·intro b s₁ Q' hq;cases b <;> first | exact qAe hq | exact qHl hq
   ·split
    ·exact hfits
    ·exact SetTable.fits_plain_off hfits
   ·split
    ·exact hris
    ·exact hris
   ·split
    ·exact hled.trans hl
    ·exact hled.trans hl
   ·intro h' hsb hS';dsimp only;exact qAe (h h' true hsb hS')
  ·refine qAa (qAe ?_);simp only[↓reduceIte];refine Ak ?_ ho hex hd hel1 hmem1 hb1' hfits hris (hled.trans hl) ?_
   ·intro b s₁ Q' hq;cases b <;> first | exact qAe hq | exact qHl hq
   ·intro h' hsb hS';dsimp only;exact qAe (h h' true hsb hS')
end
section
variable {prog:qBx}{w:qDe}{A:qDd}{R:qQb->qAl->Prop}{I:Addr}{fp wr:List Addr}{G:Array qPe->Array qPe->Prop}{n:Nat}{P:Nat->qAi->Prop}{St:Nat->qAl->Prop}
theorem vW (W:WalksS prog w A.in1 I fp wr G n P St)(S:Addr)(hSf:S∉fp)
  (val:Nat->Int) (hval:∀i v,P i v->∃t,v = .int (val i) t) (hb:n+1<qFt) :
  ∀(k i:Nat) (s:qAl),n-i=k->i<=n->St i s ->
   fI prog w s.heap S (qIq val i) ->
   (∀s',Moved (S::wr) G s s'->fI prog w s'.heap S (qIq val n)->R (.ok (.ret .none)) s') ->
   qHa (qCa prog w) A (.builtin "set.update.loop" ⟨[.ref S,.ref I],[]⟩) R s:=by
 have hSw:S∉wr:=fun h=>hSf (W.sub _ h);have hsub:∀b∈wr,b∈S::wr:=fun b hb=>qCh _ hb;intro k;induction k with
 | zero =>
  intro i s hk hi hst hS hR;have hin:i=n:=by lia
  subst hin;refine qFh PyProof.Rows.F.entry_set_update_loop ?_;rw[Around.under_plainId PyProof.Rows.F.plain_set_update_loop _];show qBj _ A.in1 (qJc (.ref I) >>= _) _ _ s;refine qAa (W.done s _ _ hst fun s' hm=>?_);show qBj _ A.in1 (ret Value.none) _ _ s';exact qAe (hR s' (hm.mono hsub) (hS.at' fun o e=>hm.heap S _ hSw e))
 | succ k ih =>
  intro i s hk hi hst hS hR;have hlt:i<n:=by lia
  refine qFh PyProof.Rows.F.entry_set_update_loop ?_;rw[Around.under_plainId PyProof.Rows.F.plain_set_update_loop _];show qBj _ A.in1 (qJc (.ref I) >>= _) _ _ s;refine qAa (W.item i s _ _ hlt hst fun v s' hP hst' hm=>?_);obtain⟨t,rfl⟩:=hval i v hP;have hS':fI prog w s'.heap S (qIq val i):=hS.at' fun o e=>hm.heap S _ hSw e;show qBj _ A.in1 (qLx [Value.int (val i) t] (setAdd S (.int (val i) t)) >>= _) _ _ s';refine qAa (qDl ?_);unfold setAdd;refine qDl ?_;refine qAa ((qGb prog w).pyHash (k:=val i) (intKind_is _ _ _ _) ?_);have hroom:(qIq val i).length+1<qFt:=by have:=firstMet_length_le val i;lia
  refine JB (s:={ s' with toks:=s'.toks+1 }) hS' hroom fun h' b hsb hS2=>?_;have hSi:fI prog w h' S (qIq val (i+1)):=by rw[firstMet_succ];exact hS2
  refine qAe ⟨qIo PyProof.Rows.F.plain_set_update_loop _,ih (i+1) _ (by lia) hlt (W.frame _ s' _ _ hst' (qEq _) fun b hb o e=>?_) hSi fun s'' hm'' hS''=>?_⟩
  ·rw[hsb.2 b (fun h:b=S=>hSf (by rw[<- h];exact hb))];exact e
  ·refine hR s'' (Moved.trans W.gtrans ((hm.mono hsub).then_heap (qEq _) fun b o hb e=>?_) hm'') hS'';rw[hsb.2 b (fun h:b=S=>hb (by rw[h];exact qDk))];exact e
end
end ST
end L2
namespace PySem
namespace ST
open L2.ST
section
variable {prog:qBx}{w:qDe}{A:qDd}{E:qAi->qAl->Prop}{s:qAl}
def dM (w:qDe):Obj:={ cls:=.type "set",dict:=none,data:=.set #[] 0 (.fresh 0 0 (!w.params.followText "set-order")) }
theorem Dv (e:h.get? a=some (dM w)):fI prog w h a [] :=
 ⟨dM w,#[],0,_,e,⟨rfl,rfl,rfl⟩,rfl,fun e he=>by simp at he,List.Perm.refl _,by decide,by rfl,L2.ST.Gn,rfl⟩
theorem oC (a:qAi){Q₁:qAi->qAl->Prop}
  (h:Q₁ (.ref s.heap.objs.size) { s with heap:=s.heap.push (dM w) }) :
  qHa (qCa prog w) A (.call (.builtin "set.__new__") ⟨[.type "set",a],[]⟩) (wants Q₁ E) s:=by
 refine codeAny_of_tree ?_;show qBj _ A.in1 (do checkBuiltinCall "set.__new__" ⟨[.type "set",a],[]⟩;qNp (.builtin "set.__new__" ⟨[.type "set",a],[]⟩)) _ _ s;refine qAa (qGr (F.newCall_set_1 a) (qAe ⟨qIo F.plain_set_new _,qFh F.entry_set_new ?_⟩));rw[Around.under_plainId F.plain_set_new _];unfold Builtin.«set.__new__» Builtin.Frozenset.newClass;have hsub:=sub_set_self;obtain⟨hp,g,d,tk,os⟩:=s;dsimp only;wp_walk;refine qFw (qAe ?_);dsimp only;simp only[newObj];refine qAa (wpAny_alloc (qAe ?_));exact qAe h
set_option maxHeartbeats 3200000 in
theorem vX
  (hh:A.handled=none) (hl:s.heap.IsList l items) (hi:qPm items.toList ns) (hb:items.size+1<qFt)
  (h:∀(h':Heap) (tk:Nat),fI prog w h' s.heap.objs.size (qJv (fun i=>ns.getD i 0) items.size) ->
   (∀b o,b<s.heap.objs.size->s.heap.get? b=some o->h'.get? b=some o)->Q (.ref s.heap.objs.size) { s with heap:=h',toks:=tk }) :
  qBj (qCa prog w) A (call (.type "set") [.ref l]) Q E s:=by
 obtain⟨c,tl,hmro⟩:=F.called_set.mro;have hmade:=F.called_set.made;have hsub:=F.called_set.sub;refine qIc (codeAny_of_tree ?_);show qBj _ _ (callAny (.type "set") _) _ _ _;refine qAe ⟨Code.quiet_builtin _ (by decide +kernel),qFh F.entry_type_call ?_⟩;rw[Around.under_plain (weight_type_call_type "set" [.ref l] []) rfl];have h1:=F.called_set.notType;have h2:=F.called_set.canCreate;have hct:=F.typeCall_set_1 (.ref l);repeat (any_goals (first | assumption | wp_step))
 refine qFg (oC (.ref l) (E:=E) (Q₁:=fun obj s₁=>obj = .ref s.heap.objs.size/\s₁={ s with heap:=s.heap.push (dM w) }) ⟨rfl,rfl⟩) fun r s₁ hr=>?_;cases r with
 | error e=>exact hr
 | ok fl =>
  cases fl with
  | ret obj =>
   obtain⟨rfl,rfl⟩:=hr;have hS:(s.heap.push (dM w)).get? s.heap.objs.size=some (dM w):=qAt _ rfl;have hT:Shared.TypeIs { s with heap:=s.heap.push (dM w) } (.ref s.heap.objs.size) "set":=⟨_,hS,rfl⟩;have hli:=F.called_set.init.lookup;have hbi:=F.called_set.init.bind (.ref s.heap.objs.size);repeat (any_goals (first | assumption | wp_step))
   refine qFg (codeAny_call_builtin (R:=wants (fun r s₂=>r = .none/\∃h' tk,s₂={ s with heap:=h',toks:=tk } /\
     fI prog w h' s.heap.objs.size (qJv (fun i=>ns.getD i 0) items.size) /\
     (∀b o,b<s.heap.objs.size->s.heap.get? b=some o->h'.get? b=some o)) E) F.called_set.init.plain F.entry_set_init (check_set_init_1 hT ?_)) fun r₂ s₂ hr₂=>?_
   ·obtain⟨ol,hol,hcl,nl,hdl⟩:=hl;obtain⟨ocls,odict,odata,oslots⟩:=ol;simp only at hcl hdl;subst hcl;subst hdl;have hol':(s.heap.push (dM w)).get? l=some { cls:=.type "list",dict:=odict,data:=.seq items nl,slots:=oslots }:=qAh _ hol;have hsls:=F.sub_list_set;have hslf:=F.sub_list_frozenset;have hne:(Value.type "list" == Value.type "dict")=false:=by decide
    have hl1:(s.heap.push (dM w)).IsList l items:=⟨_,hol',rfl,nl,rfl⟩;unfold Builtin.«set.__init__» noKeywords Builtin.Frozenset.updateFrom;generalize hPI:qMy=PI;wp_walk;subst hPI;refine qIb hl1 ?_;refine qAa (wpAny_runValue ?_);have hlS:l<s.heap.objs.size:=qAr hol;have hh3:A.in1.in1.in1.handled=none:=by simp[hh]
    have hneI:l≠(s.heap.push (dM w)).objs.size:=by
     rw[qCy];exact qBe (qHs hlS)
    have hSf:s.heap.objs.size∉[(s.heap.push (dM w)).objs.size,l]:=by
     rw[qCy];simp only[qDw,qJf,qCv,or_false,not_or];exact⟨qBe (qGq _),qGn hlS⟩
    have hval:∀(i:Nat) (v:qAi),items[i]?=some v->∃t,v = .int ((fun i=>ns.getD i 0) i) t:=fun i v hv =>
     PyProof.Rows.IntsAre.int_at hi i v (by rw[qDr];exact hv)
    refine L2.ST.vW ((Walks.list hh3 _ l hneI items).toS) s.heap.objs.size
     hSf (fun i=>ns.getD i 0) hval hb (items.size-0) 0 _ (by lia) (qBr _)
     ⟨⟨_,qAt _ rfl,rfl,rfl⟩,(hl1.push _)⟩ ?hS0 ?hR
    case hS0=>exact Dv (qAh _ hS)
    case hR =>
     intro s' hm hS';obtain⟨h',g',d',tk',os'⟩:=s';have eg:g'=s.gens:=hm.gens;have ed:d'=s.drawn:=hm.drawn;have eo:os'=s.os:=hm.os;subst eg;subst ed;subst eo;show qBj _ _ _ _ _ _;refine qAe ?_;show qBj _ _ (ret Value.none) _ _ _;refine qAe ⟨rfl,h',tk',rfl,hS',fun b o hb e=>?_⟩;have hb1:b≠s.heap.objs.size:=qBe hb;have hb2:b≠(s.heap.push (dM w)).objs.size:=by
      rw[qCy];exact qBe (qHs hb)
     exact hm.heap b o (by simp only[qDw,qJf,qCv,or_false,not_or];exact⟨hb1,hb2⟩) (qAh _ (qAh _ e))
   ·cases r₂ with
    | error e=>exact hr₂
    | ok fl₂ =>
     cases fl₂ with
     | ret r =>
      obtain⟨rfl,h',tk,rfl,hS',hk'⟩:=hr₂;repeat (any_goals (first | assumption | wp_step))
      exact h _ _ hS' hk'
     | next=>exact hr₂.elim
     | brk=>exact hr₂.elim
     | cont=>exact hr₂.elim
  | next=>exact hr.elim
  | brk=>exact hr.elim
  | cont=>exact hr.elim
end
end ST
end PySem
namespace PySem
namespace ST
open L2.ST
theorem cW:Slot "set_iterator" "__next__" "set_iterator.__next__" :=
 .of (owner:="set_iterator") (n:="__next__") (by rw[typeLookup_type,builtinLookup_eq_fast];kernel_rfl) (by decide +kernel) (by decide +kernel) (by decide +kernel)
  (by first|exact .inl (by decide +kernel) | exact .inr (by decide +kernel)) (by rw[isSubtype_type];kernel_rfl)
theorem kX:entryFor table "set_iterator.__next__"=some Builtin.«set_iterator.__next__»:=entryFor_of_tree (by kernel_rfl)
theorem vY:Manifest.owners.lookup (String.ofList ['r','o','t','a','r','e','t','i','_','t','e','s'].reverse)=some Manifest.sig_set_iterator:=by kernel_rfl
theorem lT (a:qAi):argsOk "set_iterator.__next__" ⟨[a],[]⟩:=by
 unfold argsOk;rw[signature?_of (id:="set_iterator.__next__") (n:=['_','_','t','x','e','n','_','_']) (o:=['r','o','t','a','r','e','t','i','_','t','e','s']) (by kernel_rfl) vY];kernel_rfl
theorem pN:entryFor table "set.__iter__"=some Builtin.«frozenset.__iter__» :=
 entryFor_alias (id':="frozenset.__iter__") (by kernel_rfl) rfl (by decide +kernel) (by kernel_rfl)
def kY (first:qAi)(i:Nat)(S:Addr)(n ep:Nat):Obj:={ cls:=.type "set_iterator",dict:=none,data:=.fields #[first,.int i 0,.ref S,.int n 0,.int ep 0],slots:=#[] }
section
variable {prog:qBx}{w:qDe}{A:qDd}{E:qAi->qAl->Prop}{s:qAl}{I S:Addr}{o:Obj}{es:Array (Int×qAi)}{ep:Nat}{t:qGt}
theorem k9:∀(l:List α) (k:Nat) (h:k<l.length),(l[k]::l.eraseIdx k).Perm l
 | [],k,h=>by cases h
 | x::xs,0,h=>List.Perm.refl _
 | x::xs,k+1,h=>(List.Perm.swap _ _ _).trans ((k9 xs k (by simpa using h)).cons x)
theorem yQ (hn:n≠0)(h:∀k d,k<n->Q k { s with drawn:=d }):qBj (qCa prog w) A (choose src n) Q E s:=by
 intro Γ p hΓ;exact⟨hn,h _ _ (qNx _ (qNr hn))⟩
theorem kZ:∀(n:Nat) (xs:List α) (s:qAl){Q:List α->qAl->Prop},xs.length=n->(∀ys d,ys.Perm xs->Q ys { s with drawn:=d })->qBj (qCa prog w) A (drawOrder n xs) Q E s
 | 0,xs,s,Q,hl,h=>by
  obtain rfl:xs=[]:=List.length_eq_zero_iff.mp hl;unfold drawOrder;refine qAe ?_;have:=h [] s.drawn (List.Perm.refl _);cases s;exact this
 | n+1,[],s,Q,hl,h=>by cases hl
 | n+1,x::xs,s,Q,hl,h=>by
  unfold drawOrder;refine qAa (yQ (by simp) fun k d hk=>?_);rw[qAd hk];dsimp only;refine qAa (kZ n _ _ ?_ fun ys d' hp=>?_)
  ·rw[qKu hk];simpa using hl
  ·refine qAe (h _ d' ?_);exact(hp.cons _).trans (k9 _ _ hk)
theorem yR (ho:s.heap.get? S=some o)(hex:o.ExactSet)(hd:o.data = .set es ep t)(hf:t.fits es.size=true)(hz:es.size<qFt)
  (h1:(w.params.followText "set-order"=true\/(w.params.followText "set-order"=false/\((!t.plain&&decide (es.size>1))=false)))->Q (.ref s.heap.objs.size) { s with heap:=s.heap.push (kY (.int 0 0) 0 S es.size ep) })
  (h2:w.params.followText "set-order"=false->∀(ys:List Nat) d,ys.Perm (qAn es.size)->Q (.ref (s.heap.objs.size+1)) { s with heap:=(s.heap.push { cls:=.type "tuple",data:=.seq (ys.map fun(i:Nat)=>Value.int i 0).toArray }).push (kY (.ref s.heap.objs.size) 0 S es.size ep),drawn:=d }) :
  qBj (qCa prog w) A (qMy (.ref S)) Q E s:=by
 have hT:s.TypeIs (.ref S) "set":=⟨o,ho,hex.1⟩;refine wpAny_pyIter_slot hT F.slot_set_iter (qEg F.slot_set_iter hT pN ?_ (F.args_set_iter_1 _));unfold Builtin.«frozenset.__iter__» Builtin.Frozenset.slot0 slotArgs;simp only[List.isEmpty_nil,qLn,qEo,↓reduceIte,bind_assoc,qKq,bne_self_eq_false];unfold Builtin.Frozenset.addrOf Builtin.Frozenset.sizeOf;refine qAa (qAe ?_);try dsimp only
 refine qAa (qAe ?_);refine qAa (qAa (wpAny_setEntries_of ho hd hf (qAe ?_)));unfold setDrawn;refine qAa ?_;refine qAa (qFk ho hd hf ?_);dsimp only;unfold qMx;refine qAa (qAa (qFw (qAe ?_)));refine qAe ?_;show qBj _ _ (if ((!w.params.followText "set-order")&&(!t.plain&&decide (es.size>1)))=true then _ else _) _ _ s;cases hT1:w.params.followText "set-order" with
 | true =>
  rw[if_neg (by simp)];refine qAa (qAe ?_);refine qAa (wpAny_setEpoch_of ho hd hf ?_);refine qAa ?_;unfold newFields;refine qCp (qAe ⟨_,rfl,"set_iterator",_,⟨_,qAt _ rfl,rfl⟩,cW.lookup,h1 (.inl hT1)⟩)
 | false =>
  cases hD:(!t.plain&&decide (es.size>1)) with
  | false =>
   rw[if_neg (by simp)];refine qAa (qAe ?_);refine qAa (wpAny_setEpoch_of ho hd hf ?_);refine qAa ?_;unfold newFields;refine qCp (qAe ⟨_,rfl,"set_iterator",_,⟨_,qAt _ rfl,rfl⟩,cW.lookup,h1 (.inr ⟨hT1,hD⟩)⟩)
  | true =>
   rw[if_pos (by simp)];refine qAa (kZ es.size _ s (qAs) fun ys d hp=>?_);refine qAa (wpAny_newTuple ?_ (by rw[qAc,hp.length_eq,qAs];exact fits_of_scanBound hz));have ho1:(s.heap.push { cls:=.type "tuple",data:=.seq (ys.map fun(i:Nat)=>Value.int i 0).toArray }).get? S=some o:=qAh _ ho;refine qAa (wpAny_setEpoch_of ho1 hd hf ?_);refine qAa ?_;unfold newFields;refine qCp (qAe ⟨_,rfl,"set_iterator",_,⟨_,qAt _ rfl,rfl⟩,cW.lookup,?_⟩);have:=h2 hT1 ys d hp;rw[show s.heap.objs.size+1=(s.heap.push { cls:=.type "tuple",data:=.seq (ys.map fun(i:Nat)=>Value.int i 0).toArray }).objs.size by rw[qCy]] at this;exact this
theorem rQ (hh:A.handled=none)(hit:s1.heap.get? I=some (kY first i S n ep))(hQ:∀h',qKs I s1.heap h'->Q none { s1 with heap:=h' }):
  qBj (qCa prog w) A.in1 (do setField (Value.ref I) 2 Value.none;let e <- qPz (Value.type "StopIteration") [];raiseNew e)
   (fun(fin:Fin) s'=>∃v,fin=Fin.done (Flow.ret v)/\qBj (qCa prog w) A (pure (some v)) Q E s')
   (fun e s'=>qBj (qCa prog w) A (do let b <- qMz e (Value.type "StopIteration");if b=true then pure none else throw e) Q E s') s1:=by
 refine qAa (qFs hit rfl (by simp) ?_);show qBj _ _ (qPz (.type "StopIteration") [] >>= _) _ _ _;refine qAa ?_;simp only[qPz,newTuple];refine qAa (qCp ?_ (by size_fits));refine qAa (m:=qJp _ _) (qGr (a:=Value.none) (by first | rfl | (simp only[qJp];rfl)) ?_)
 refine qCp ?_ (by size_fits);simp only[raiseNew];refine qAa (wpAny_handled ?_);rw[show A.in1.handled=none from hh];refine qAa (qAe (wpAny_throw ?_));refine qAa (wpAny_isInstance (T:="StopIteration") (b:=true) ⟨_,qAt _ rfl,rfl⟩ isSubtype_stop ?_);exact qAe (hQ _ (((Heap.SameBut.update ..).extBut.push _).push _))
theorem vZ {i n slot:Nat}{Q:Option qAi->qAl->Prop}(hh:A.handled=none)(hit:s.heap.get? I=some (kY (.int slot 0) i S n ep))(ho:s.heap.get? S=some o)(hd:o.data = .set es ep t)(hf:t.fits es.size=true)(hn:es.size=n)
  (h:qBj (qCa prog w) A.in1 (qNn S slot i ep) (fun r s1=>s1=s/\match r with
   | some (x,nx)=>∀h',h'.get? I=some (kY (.int nx 0) (i+1) S n ep)->qFb I s.heap h'->Q (some x) { s with heap:=h' }
   | none=>∀h',qKs I s.heap h'->Q none { s with heap:=h' }) (fun _ _=>False) s) :
  qBj (qCa prog w) A (qJc (.ref I)) Q E s:=by
 have hT:s.TypeIs (.ref I) "set_iterator":=⟨_,hit,rfl⟩;unfold qJc;refine qAa (qHh (qEl (name:=Str.ofString "__next__") hT cW
  (qEg cW hT kX ?_ (lT _))))
 unfold Builtin.«set_iterator.__next__»;refine qAa (qAe ?_);refine qAa (qJm hit rfl ?_);dsimp only;refine qAa (wpAny_setEntries_of ho hd hf ?_);rw[if_neg (by rw[hn];simp),qBl,qBl,qBl];refine qAa (qFl h (fun r s1 hr=>?_) fun _ _ z=>z.elim);obtain⟨rfl,hr⟩:=hr;match r,hr with
 | none,hr =>
  dsimp only at hr|-;exact rQ hh hit hr
 | some (x,nx),hr =>
  dsimp only at hr|-;refine qAa (qFs hit rfl (by simp) ?_);have e1:=qDg (Obj.mapFields (·.setIfInBounds 0 (qJo (nx:Int)))) hit rfl;refine qAa (qFs e1 rfl (by simp) ?_);have e2:=qDg (Obj.mapFields (·.setIfInBounds 1 (qJo ((i:Int)+1)))) e1 rfl;refine qAe ⟨_,rfl,qAe (hr _ ?_ ((Heap.SameBut.update ..).trans (Heap.SameBut.update ..)))⟩;rw[e2];rfl
theorem wB {i n:Nat}{T:Addr}{ys:List Nat}{Q:Option qAi->qAl->Prop}(hh:A.handled=none)(hit:s.heap.get? I=some (kY (.ref T) i S n ep))(ho:s.heap.get? S=some o)(hd:o.data = .set es ep t)(hf:t.fits es.size=true)(hn:es.size=n)
  (hT:s.heap.get? T=some { cls:=.type "tuple",data:=.seq (ys.map fun(i:Nat)=>Value.int i 0).toArray }) (hp:ys.Perm (qAn n))
  (h1:∀k e,ys[i]?=some k->es[k]?=some e->∀h',h'.get? I=some (kY (.ref T) (i+1) S n ep)->qFb I s.heap h'->Q (some e.2) { s with heap:=h' })
  (h2:ys[i]?=none->∀h',qKs I s.heap h'->Q none { s with heap:=h' }) :
  qBj (qCa prog w) A (qJc (.ref I)) Q E s:=by
 have hTy:s.TypeIs (.ref I) "set_iterator":=⟨_,hit,rfl⟩;unfold qJc;refine qAa (qHh (qEl (name:=Str.ofString "__next__") hTy cW
  (qEg cW hTy kX ?_ (lT _))))
 unfold Builtin.«set_iterator.__next__»;refine qAa (qAe ?_);refine qAa (qJm hit rfl ?_);dsimp only;refine qAa (wpAny_setEntries_of ho hd hf ?_);rw[if_neg (by rw[hn];simp)];refine qAa (wpAny_seqItems hT rfl ?_);dsimp only;rw[qBl,qMd,qAo];cases hy:ys[i]? with
 | none =>
  dsimp only[qPg];refine qAa (qFs hit rfl (by simp) ?_);have e1:=qDg (Obj.mapFields (·.setIfInBounds 0 (qJo 0))) hit rfl;refine rQ (first:=qJo 0) (i:=i) (S:=S) (n:=n) (ep:=ep) hh (by rw[e1];rfl) fun h' hx=>h2 hy h' fun b o hb e=>hx b o hb ?_;exact(qEe _ _ (Ne.symm hb)).trans e
 | some k =>
  dsimp only[qPg];have hk:k<es.size:=by
   rw[hn];exact List.mem_range.mp (hp.mem_iff.mp (qBa hy))
  refine qAa ?_;unfold setNextDrawn;rw[qBl,qBl];refine qAa (qFk ho hd hf ?_);dsimp only;rw[if_neg (by simp)];rw[qBq hk];dsimp only;refine qAe ?_;refine qAa (qFs hit rfl (by simp) ?_);have e1:=qDg (Obj.mapFields (·.setIfInBounds 1 (qJo ((i:Int)+1)))) hit rfl;refine qAe ⟨_,rfl,qAe (h1 k _ hy (qBq hk) _ ?_ (Heap.SameBut.update ..))⟩;rw[e1];rfl
theorem rR (next:Nat->Nat):∀(f k:Nat) (left:List α) (out:Array α),left.length=f->(pickOrder.go next f k left out).toList.Perm (out.toList++left)
 | 0,k,left,out,hl=>by
  obtain rfl:left=[]:=List.length_eq_zero_iff.mp hl;unfold pickOrder.go;simp
 | f+1,k,left,out,hl=>by
  unfold pickOrder.go;have hk:next k%left.length<left.length:=qNx _ (by lia);rw[qAd hk];dsimp only;refine(rR next f (k+1) _ _ (by rw[qKu hk];lia)).trans ?_;rw[qNl,qHq];exact(List.Perm.refl _).append (k9 left _ hk)
theorem Al (next:Nat->Nat)(xs:Array α):(qKk next xs).toList.Perm xs.toList:=by
 unfold qKk;simpa using rR next xs.size 0 xs.toList #[] (by simp)
theorem tW (hB:w.params.followText "set-order"=true)(ho:s.heap.get? S=some o)(hd:o.data = .set es ep t)(hf:t.fits es.size=true)
  (h:Q (((qKk (w.params.setOrder S ep) es)[i]?).map fun e=>(e.2,slot)) s):qBj (qCa prog w) A (qNn S slot i ep) Q E s:=by
 unfold qNn;refine qAa (qFk ho hd hf ?_);dsimp only;unfold qMx;refine qAa (qAa (qFw (qAe ?_)));show qBj _ _ (if w.params.followText "set-order"=true then _ else _) _ _ s;rw[hB,if_pos rfl,if_neg (by simp)];refine qAa ?_;unfold setWalk;refine qAa (qFk ho hd hf ?_);dsimp only;unfold qMx;refine qAa (qAa (qFw (qAe ?_)));show qBj _ _ (if w.params.followText "set-order"=true then _ else _) _ _ s;rw[hB,if_pos rfl];refine qAa (qFw (qAe (qAe h)))
theorem wC (hB:w.params.followText "set-order"=false)(hD:(!t.plain&&decide (es.size>1))=false)(hl:t.led=true)(ho:s.heap.get? S=some o)(hd:o.data = .set es ep t)(hf:t.fits es.size=true)
  (h:Q (match es[SetTable.below t.place slot]?,t.place[SetTable.below t.place slot]? with | some (_,x),some j=>some (x,j+1) | _,_=>none) s):qBj (qCa prog w) A (qNn S slot i ep) Q E s:=by
 unfold qNn;refine qAa (qFk ho hd hf ?_);dsimp only;unfold qMx;refine qAa (qAa (qFw (qAe ?_)));show qBj _ _ (if w.params.followText "set-order"=true then _ else if (!t.plain&&decide (es.size>1))=true then _ else _) _ _ s;rw[hB,if_neg (by simp),hD,if_neg (by simp)];refine qAa (m:=if (!t.led && !es.isEmpty)=true then unsupported "set:maker-not-led" else pure ()) ?_;rw[hl,if_neg (by simp)];refine qAe (qAe ?_);exact h
end
end ST
end PySem
namespace PySem
namespace ST
open L2.ST PyProof.Rows
theorem lU:Slot "set_iterator" "__iter__" "set_iterator.__iter__" :=
 .of (owner:="set_iterator") (n:="__iter__") (by rw[typeLookup_type,builtinLookup_eq_fast];kernel_rfl) (by decide +kernel) (by decide +kernel) (by decide +kernel)
  (by first|exact .inl (by decide +kernel) | exact .inr (by decide +kernel)) (by rw[isSubtype_type];kernel_rfl)
theorem qX:entryFor table "set_iterator.__iter__"=some Builtin.«dict_keyiterator.__iter__» :=
 entryFor_alias (id':="dict_keyiterator.__iter__") (by kernel_rfl) rfl (by decide +kernel) (by kernel_rfl)
theorem tX (a:qAi):argsOk "set_iterator.__iter__" ⟨[a],[]⟩:=by
 unfold argsOk;rw[signature?_of (id:="set_iterator.__iter__") (n:=['_','_','r','e','t','i','_','_']) (o:=['r','o','t','a','r','e','t','i','_','t','e','s']) (by kernel_rfl) vY];kernel_rfl
def JC (p:Array Nat):Nat->Nat
 | 0=>0
 | j+1=>(p[j]?.getD 0)+1
theorem yS (hr:tV p):∀{i:Nat},i<=p.size->SetTable.below p (JC p i)=i
 | 0,_=>yM hr
 | j+1,h=>by
  have e:=qBq (xs:=p) (i:=j) (by lia);show SetTable.below p ((p[j]?.getD 0)+1)=j+1;rw[e];exact yL hr e
theorem Am:∀{vs:List qAi},(∀v∈vs,∃k t,v=Value.int k t)->qHz vs (vs.map iv)
 | [],_=>.nil
 | v::vs,h=>by
  obtain⟨k,t,rfl⟩:=h v (.head _);exact .cons k t (Am fun u hu=>h u (.tail _ hu))
section
variable {prog:qBx}{w:qDe}{A:qDd}{E:qAi->qAl->Prop}{s:qAl}{I S:Addr}{o:Obj}{es:Array (Int×qAi)}{ep:Nat}{t:qGt}
theorem rS (hit:s.heap.get? I=some (kY first i S n ep))(h:Q (.ref I) s):qBj (qCa prog w) A (qMy (.ref I)) Q E s:=by
 have hT:s.TypeIs (.ref I) "set_iterator":=⟨_,hit,rfl⟩;refine wpAny_pyIter_slot hT lU (qEg lU hT qX ?_ (tX _));show qBj _ _ (ret (.ref I)) _ _ s;exact qAe ⟨_,rfl,"set_iterator",_,hT,cW.lookup,h⟩
theorem rT (hh:A.handled=none)(hIS:I≠S)(hd:o.data = .set es ep t)(hf:t.fits es.size=true)(hn:es.size=n)(sl:Nat->Nat)(ord:List qAi)(hl:ord.length=n)
  (hstep:∀(s':qAl) (Q':Option (qAi×Nat)->qAl->Prop) (E':qAi->qAl->Prop) (i:Nat),s'.heap.get? S=some o->i<=n->Q' ((ord[i]?).map fun v=>(v,sl (i+1))) s'->qBj (qCa prog w) A.in1 (qNn S (sl i) i ep) Q' E' s') :
  Walks prog w A I [I,S] [I] n (fun i v=>ord[i]?=some v) (fun i h=>h.get? S=some o/\h.get? I=some (kY (.int (sl i) 0) i S n ep)) where
 sub:=fun b hb=>by simp at hb;simp[hb]
 frame:=fun _ _ _ st hk=>⟨hk S (by simp) _ st.1,hk I (by simp) _ st.2⟩
 item:=fun i s Q E hi st hQ=>by
  have hx:ord[i]?=some ord[i]:=qAd (by lia);refine vZ hh st.2 st.1 hd hf hn (hstep s _ _ i st.1 (by lia) ?_);rw[hx];refine⟨rfl,fun h' e1 e2=>?_⟩;exact hQ _ h' s.toks hx ⟨e2.extBut S _ (Ne.symm hIS) st.1,e1⟩ fun b o hb e=>e2.extBut b o (fun z=>hb (by simp[z])) e
 done:=fun s Q E st hQ=>by
  refine vZ hh st.2 st.1 hd hf hn (hstep s _ _ n st.1 (qAg _) ?_);rw[qBm (by lia)];exact⟨rfl,fun h' e=>hQ h' s.toks fun b o hb e'=>e b o (fun z=>hb (by simp[z])) e'⟩
 self:=fun _ _ _ _ st hQ=>rS st.2 hQ
theorem BO {n:Nat}{T:Addr}{ys:List Nat}(hh:A.handled=none)(hIS:I≠S)(hIT:I≠T)(hd:o.data = .set es ep t)(hf:t.fits es.size=true)(hn:es.size=n)(hp:ys.Perm (qAn n)):
  Walks prog w A I [I,S,T] [I] n (fun i v=>(ys.map fun k=>(es[k]?.getD (0,.none)).2)[i]?=some v)
   (fun i h=>h.get? S=some o/\h.get? I=some (kY (.ref T) i S n ep)/\h.get? T=some { cls:=.type "tuple",data:=.seq (ys.map fun(i:Nat)=>Value.int i 0).toArray }) where
 sub:=fun b hb=>by simp at hb;simp[hb]
 frame:=fun _ _ _ st hk=>⟨hk S (by simp) _ st.1,hk I (by simp) _ st.2.1,hk T (by simp) _ st.2.2⟩
 item:=fun i s Q E hi st hQ=>by
  have hyl:ys.length=n:=by rw[hp.length_eq,qAs]
  refine wB hh st.2.1 st.1 hd hf hn st.2.2 hp (fun k e h1 h2 h' e1 e2=>?_) (fun z=>?_)
  ·refine hQ _ h' s.toks ?_ ⟨e2.extBut S _ (Ne.symm hIS) st.1,e1,e2.extBut T _ (Ne.symm hIT) st.2.2⟩ fun b o hb e=>e2.extBut b o (fun z=>hb (by simp[z])) e;rw[qAo,h1];simp[h2]
  ·rw[qAd (by lia)] at z;cases z
 done:=fun s Q E st hQ=>by
  have hyl:ys.length=n:=by rw[hp.length_eq,qAs]
  refine wB hh st.2.1 st.1 hd hf hn st.2.2 hp (fun k e h1 h2 h' e1 e2=>?_) (fun z h' e=>hQ h' s.toks fun b o hb e'=>e b o (fun z=>hb (by simp[z])) e');rw[qBm (by lia)] at h1;cases h1
 self:=fun _ _ _ _ st hQ=>rS st.2.1 hQ
theorem nA (hel:qNq (qGb prog w) es.toList)(hm:(es.toList.map fun e=>iv e.2).Perm σ)(hp:ord.Perm (es.toList.map fun e=>e.2)):∃ms,qHz ord ms/\ms.Perm σ:=by
 refine⟨_,Am fun v hv=>?_,((hp.map iv).trans ?_)⟩
 ·obtain⟨e,he,rfl⟩:=List.mem_map.mp (hp.mem_iff.mp hv);obtain⟨⟨k,hk,_⟩,_⟩:=hel e he;obtain⟨t,ht⟩:=Value.isInt_shape (k:=k) hk;exact⟨k,t,ht⟩
 ·rw[qCz];exact hm
theorem Dw {σ:List Int}{Q:qAi->qAl->Prop}(hh:A.handled=none)(hS:fI prog w s.heap S σ)
  (h:∀(I:Addr) (fp:List Addr) (ord:List qAi) (h':Heap) (d:Drawn) (St:Nat->Heap->Prop) (ms:List Int),Walks prog w A I fp [I] σ.length (fun i v=>ord[i]?=some v) St->St 0 h'->ord.length=σ.length->qHz ord ms->ms.Perm σ ->
   s.heap.objs.size<=I->(∀b∈fp,b=S\/s.heap.objs.size<=b)->(∀b o,s.heap.get? b=some o->h'.get? b=some o)->Q (.ref I) { s with heap:=h',drawn:=d }) :
  qBj (qCa prog w) A (qMy (.ref S)) Q E s:=by
 obtain⟨o,es,ep,t,ho,hex,hd,hel,hmem,hb,hf,hr,hled⟩:=hS;have hn:es.size=σ.length:=by rw[<- hmem.length_eq,qAc,qBz]
 have hSl:S<s.heap.objs.size:=qAr ho;have hps:t.place.size=es.size:=by
  simp only[SetTable.fits,qCd,beq_iff_eq,decide_eq_true_eq] at hf;exact hf.1
 refine yR ho hex hd hf hb (fun hm=>?_) (fun hB ys d hp=>?_)
 ·rcases hm with hB | ⟨hB,hD⟩
  ·obtain⟨ms,m1,m2⟩:=nA (prog:=prog) (w:=w) (ord:=(qKk (w.params.setOrder S ep) es).toList.map fun e=>e.2) hel hmem ((Al _ es).map _);have hl:((qKk (w.params.setOrder S ep) es).toList.map fun e=>e.2).length=σ.length:=by
    rw[qAc,(Al _ es).length_eq,qBz,hn]
   have W:=rT (prog:=prog) (w:=w) (A:=A) (I:=s.heap.objs.size) (S:=S) hh (qGn hSl) hd hf hn (fun _=>0) _ hl fun s' Q' E' i e1 e2 e3=>by
    refine tW hB e1 hd hf ?_;rw[qAo,qDr] at e3;cases hz:(qKk (w.params.setOrder S ep) es)[i]? with
    | none=>rw[hz] at e3;exact e3
    | some z=>rw[hz] at e3;exact e3
   refine h _ _ _ _ s.drawn _ ms W ⟨qAh _ ho,?_⟩ hl m1 m2 (qAg _) (fun b hb=>?_) fun b o e=>qAh _ e
   ·rw[hn];exact qAt _ rfl
   ·simp only[qDw,qCv,or_false] at hb;rcases hb with rfl | rfl
    ·exact .inr (qAg _)
    ·exact .inl rfl
  ·have hl':t.led=true:=by rw[hled,hB];rfl
   obtain⟨ms,m1,m2⟩:=nA (prog:=prog) (w:=w) (ord:=es.toList.map fun e=>e.2) hel hmem (List.Perm.refl _);have hl:(es.toList.map fun e=>e.2).length=σ.length:=by rw[qAc,qBz,hn]
   have W:=rT (prog:=prog) (w:=w) (A:=A) (I:=s.heap.objs.size) (S:=S) hh (qGn hSl) hd hf hn (JC t.place) _ hl fun s' Q' E' i e1 e2 e3=>by
    refine wC hB hD hl' e1 hd hf ?_;rw[yS hr (by lia)];rw[qAo,qDr] at e3;rcases qAm i es.size with hi | hi
    ·have ee:=qBq (xs:=es) (i:=i) hi;have ep:=qBq (xs:=t.place) (i:=i) (by lia);rw[ee] at e3|-;rw[ep];have e4:JC t.place (i+1)=t.place[i]+1:=by
      show(t.place[i]?.getD 0)+1=_;rw[ep];rfl
     rw[e4] at e3;exact e3
    ·rw[qEc hi] at e3|-;exact e3
   refine h _ _ _ _ s.drawn _ ms W ⟨qAh _ ho,?_⟩ hl m1 m2 (qAg _) (fun b hb=>?_) fun b o e=>qAh _ e
   ·rw[hn];exact qAt _ rfl
   ·simp only[qDw,qCv,or_false] at hb;rcases hb with rfl | rfl
    ·exact .inr (qAg _)
    ·exact .inl rfl
 ·rw[hn] at hp;have hperm:(ys.map fun k=>(es[k]?.getD (0,.none)).2).Perm (es.toList.map fun e=>e.2):=by
   refine(hp.map _).trans ?_;refine List.Perm.of_eq (qFd fun i=>?_);rw[qAo,qAo,qDr (xs:=es)];rcases qAm i es.size with hi | hi
   ·rw[qCj (by lia),qBq hi];simp[hi]
   ·rw[qBm (by rw[qAs];lia),qEc hi];rfl
  obtain⟨ms,m1,m2⟩:=nA (prog:=prog) (w:=w) hel hmem hperm;have hl:(ys.map fun k=>(es[k]?.getD (0,Value.none)).2).length=σ.length:=by rw[qAc,hp.length_eq,qAs]
  have W:=BO (prog:=prog) (w:=w) (A:=A) (I:=s.heap.objs.size+1) (S:=S) (T:=s.heap.objs.size) hh (qGn (qHs hSl)) (qOh _) hd hf hn hp;refine h _ _ _ _ d _ ms W ⟨qAh _ (qAh _ ho),?_,qAh _ (qAt _ rfl)⟩ hl m1 m2 (qEq _) (fun b hb=>?_) fun b o e=>qAh _ (qAh _ e)
  ·rw[hn,show s.heap.objs.size+1=(s.heap.push { cls:=.type "tuple",data:=.seq (ys.map fun(i:Nat)=>Value.int i 0).toArray }).objs.size by rw[qCy]];exact qAt _ rfl
  ·simp only[qDw,qCv,or_false] at hb;rcases hb with rfl | rfl | rfl
   ·exact .inr (qEq _)
   ·exact .inl rfl
   ·exact .inr (qAg _)
end
end ST
end PySem
namespace PySem
namespace ST
open L2.ST PyProof.Rows
section
variable {prog:qBx}{w:qDe}{A:qDd}{E:qAi->qAl->Prop}{s:qAl}{S:Addr}{σ:List Int}
theorem Dx (hT:s.TypeIs (.ref r) "set")(h:Q false s):qBj (qCa prog w) A (Builtin.List.listLengthHint (.ref r)) Q E s:=by
 unfold Builtin.List.listLengthHint;refine qAa (wpAny_specialOf hT PySem.F.slot_set_len.lookup ?_);generalize hid:("set.__len__":String)=id0;wp_delta;rw[show splitId id0=some ("set","__len__") from by subst hid;decide +kernel];subst hid;refine qAa (wpAny_isInstance (T:="set") (b:=true) hT (by rw[isSubtype_type];kernel_rfl) ?_);refine wpAny_ite_split (fun hab=>absurd hab (by decide)) (fun _=>?_);refine wpAny_ite_split (fun _=>?_) (fun hab=>absurd (by decide +kernel) hab);refine qAa (qHw hT ?_);exact qAe h
theorem wD (x:fI prog w s.heap S σ):s.TypeIs (.ref S) "set":=by
 obtain⟨o,es,ep,t,ho,hex,r⟩:=x;exact⟨o,ho,hex.1⟩
theorem Dy (x:fI prog w s.heap S σ):S<s.heap.objs.size:=by
 obtain⟨o,es,ep,t,ho,hex,r⟩:=x;exact qAr ho
theorem Dz (hl:ord.length=n)(h:ItemsOf (fun i v=>ord[i]?=some v) acc n):acc.toList=ord:=by
 refine qFd fun i=>?_;rw[qDr];rcases qAm i n with hi | hi
 ·have e:=qBq (xs:=acc) (i:=i) (by rw[h.1];exact hi);rw[e];exact(h.2 i _ e).symm
 ·rw[qEc (by rw[h.1];exact hi),qBm (by lia)]
theorem wF (hh:A.handled=none)(hS:fI prog w s.heap S σ)(hn:σ.length<=qAf)
  (hQ:∀h' tk d vs ms,s.heap.objs.size<=h'.objs.size->(∀b o,s.heap.get? b=some o->h'.get? b=some o)->qHz vs ms->ms.Perm σ->Q vs { s with heap:=h',toks:=tk,drawn:=d }):qBj (qCa prog w) A (collect (.ref S)) Q E s:=by
 have hlt:=Dy hS;unfold collect;refine qAa (wpAny_runValue (qFh F.entry_proto_collect ?_));rw[Around.under_plainId F.plain_proto_collect _];show qBj _ A.in1 (qOt [] >>= fun l=>qNp (.builtin "list.__iadd__" ⟨[l,.ref S],[]⟩)) _ _ s;refine qAa (qCp ?_);refine qAe ⟨qIo F.plain_list_iadd _,qFh F.entry_list_iadd ?_⟩;rw[Around.under_plainId F.plain_list_iadd _];have kp0:∀b o,s.heap.get? b=some o->(s.heap.push { cls:=.type "list",data:=.seq ([]:List qAi).toArray }).get? b=some o:=fun b o e=>qAh _ e;have hS0:fI prog w (s.heap.push { cls:=.type "list",data:=.seq ([]:List qAi).toArray }) S σ:=hS.at' fun o e=>kp0 _ _ e;show qBj _ A.in1 (Builtin.List.listExtendWith (.ref s.heap.objs.size) (.ref S) (.ref s.heap.objs.size)) _ _ _;unfold Builtin.List.listExtendWith;refine qAa (qHw (wD (s:={ s with heap:=s.heap.push { cls:=.type "list",data:=.seq ([]:List qAi).toArray } }) hS0) ?_);have h1:Builtin.List.listSameRef (.ref s.heap.objs.size) (.ref S)=false:=by simp[Builtin.List.listSameRef,qGn hlt]
 have h2:(Value.type "set" == Value.type "list")=false:=by decide
 have h3:(Value.type "set" == Value.type "tuple")=false:=by decide
 simp only[h1,h2,h3,qPc,qEo,if_false];refine qAa (Dw (s:={ s with heap:=s.heap.push { cls:=.type "list",data:=.seq ([]:List qAi).toArray } }) (A:=A.in1) hh hS0 fun I fp ord h' d St ms W st hl m1 m2 hI hfp hkeep=>?_);have hLI:s.heap.objs.size≠I:=by
  have:s.heap.objs.size+1<=I:=by rw[<- qCy];exact hI
  exact qBe this
 have hSf:s.heap.objs.size∉fp:=fun hm=>by
  rcases hfp _ hm with e | e
  ·exact absurd e (qGn hlt)
  ·have:s.heap.objs.size+1<=s.heap.objs.size:=by rw[<- qCy];exact e
   exact absurd this (Nat.not_succ_le_self _)
 have hL1:h'.get? s.heap.objs.size=some { cls:=.type "list",data:=.seq #[] 0 }:=hkeep _ _ (qAt _ rfl);have kp1:∀b o,s.heap.get? b=some o->h'.get? b=some o:=fun b o e=>hkeep _ _ (kp0 _ _ e);refine qAa (qDl (Dx (s:={ s with heap:=h',drawn:=d }) (wD (s:={ s with heap:=h',drawn:=d }) (hS.at' fun o e=>kp1 _ _ e)) ?_));have key:∀(R:qQb->qAl->Prop) (h2:Heap) (c₁ tk:Nat),St 0 h2->(∀b o,s.heap.get? b=some o->h2.get? b=some o) ->
   h2.get? s.heap.objs.size=some { cls:=.type "list",data:=.seq #[] c₁ } ->
   (∀h3 tk3 acc c,h3.get? s.heap.objs.size=some { cls:=.type "list",dict:=none,data:=.seq acc c,slots:=#[] }->acc.toList=ord->(∀b o,s.heap.get? b=some o->h3.get? b=some o)->R (.ok (.ret (.ref s.heap.objs.size))) { s with heap:=h3,toks:=tk3,drawn:=d }) ->
   qHa (qCa prog w) A (.builtin "list.extend.loop" ⟨[.ref s.heap.objs.size,.ref I,.ref s.heap.objs.size],[]⟩) R { s with heap:=h2,toks:=tk,drawn:=d }:=by
  intro R h2 c₁ tk st2 kp2 e2 hR;refine codeAny_extend_loopS W.toS hn _ hSf _ σ.length 0 _ #[] c₁ rfl (qBr _) st2 e2 (ItemsOf.nil _) fun s' acc' c' hm hS' hacc=>?_;have em:=Moved.eq_with hm;rw[em];refine hR s'.heap s'.toks acc' c' hS' (Dz hl hacc) fun b o e=>hm.heap b o (fun hmem=>?_) (kp2 b o e);have hb:=qAr e;rcases List.mem_cons.mp hmem with e' | hmem
  ·exact absurd hb (by rw[e'];exact qDc _)
  ·have e3:b=I:=List.mem_singleton.mp hmem;have:s.heap.objs.size+1<=I:=by rw[<- qCy];exact hI
   rw[e3] at hb;exact absurd (qAy hb (Nat.le_of_succ_le this)) (qDc _)
 have fin:∀h3 tk3 acc c,h3.get? s.heap.objs.size=some { cls:=.type "list",dict:=none,data:=.seq acc c,slots:=#[] }->acc.toList=ord->(∀b o,s.heap.get? b=some o->h3.get? b=some o) ->
   qBj (qCa prog w) A (do
    let o <- load s.heap.objs.size
    match o.data with
    | .seq xs _=>pure xs.toList
    | _=>unsupported "internal:collect") Q E { s with heap:=h3,toks:=tk3,drawn:=d }:=by
  intro h3 tk3 acc c e1 e2 e3;refine qAa (wpAny_load e1 ?_);show qBj _ _ (pure acc.toList) _ _ _;rw[e2];exact qAe (hQ h3 tk3 d ord ms (qAk (qAr e1)) e3 m1 m2)
 refine wpAny_ite_split (fun _=>?_) (fun _=>qAe ⟨qIo qKe _,key _ _ 0 _ st kp1 hL1 fin⟩);refine qAa (qHl ?_);refine qAa ?_;show qBj _ _ (updateSeq s.heap.objs.size (·.push .none) >>= fun _=>updateSeq s.heap.objs.size (·.pop)) _ _ _;refine qAa (wpAny_updateSeq hL1 rfl ?_);have hS₂:=qDg (Obj.mapSeq (·.push Value.none)) hL1 rfl;refine wpAny_updateSeq (hz:=by seq_fits) hS₂ rfl ?_;have hS₃:=qDg (Obj.mapSeq (·.pop)) hS₂ rfl;refine qAe ⟨qIo qKe _,key _ _ _ _ (W.frame 0 _ _ st fun b hb o e=>?_) (fun b o e=>?_) hS₃ fin⟩
 ·have hbS:b≠s.heap.objs.size:=fun z=>hSf (z▸hb);exact(qEe _ _ (Ne.symm hbS)).trans ((qEe _ _ (Ne.symm hbS)).trans e)
 ·have hbS:b≠s.heap.objs.size:=qBe (qAr e);exact(qEe _ _ (Ne.symm hbS)).trans ((qEe _ _ (Ne.symm hbS)).trans (kp1 _ _ e))
theorem yT (hh:A.handled=none)(hS:fI prog w s.heap S σ)(h64:σ.length<64)
  (h:∀h' tk d (l:Addr) (out:Array qAi) (ms:List Int) c,(∀b o,s.heap.get? b=some o->h'.get? b=some o)->s.heap.objs.size<=l->h'.get? l=some (qPf "list" out c)->qHz out.toList ms->ms.Perm σ->ms.Pairwise (·<=·)->Q (.ref l) { s with heap:=h',toks:=tk,drawn:=d }) :
  qBj (qCa prog w) A (call (.builtin "sorted") [.ref S]) Q E s:=by
 refine Calls.call_function_entry kind_sorted plain_sorted entry_sorted (args_sorted1 _) ?_;unfold Builtin.«sorted»;refine qAa (m:=checkCount "sorted" 1 1 _) (qAe ?_);refine qAa (wF hh hS (by rw[qCi];lia) fun h1 tk d vs ms hle kp m1 m2=>?_);have hvl:vs.length=σ.length:=by
  rw[<- m2.length_eq];exact IntsAre.length m1
 refine qAa (wpAny_newList ?_ (by rw[qCi];lia));have hoL:(h1.push (qPf "list" vs.toArray 0)).get? h1.objs.size=some (qPf "list" vs.toArray 0):=qAt _ rfl;show qBj _ _ _ _ _ { s with heap:=h1.push (qPf "list" vs.toArray 0),toks:=tk,drawn:=d };refine qAa (qDl (qEg slot_list_sort ⟨_,hoL,rfl⟩ entry_list_sort (list_sort_tree hoL m1 (by lia) fun out ns' a1 a2 a3=>⟨_,rfl,?_⟩) (args_list_sort _)));obtain⟨c,hc⟩:=sortedHeap_at (out:=out) hoL;refine qAe ⟨_,rfl,h _ tk d _ out ns' c (fun b o e=>?_) hle hc a1 (a2.trans m2) a3⟩;have e1:=kp b o e;have hb:=qAr e1;rw[sortedHeap_old (qBe hb) (by rw[size_push'];exact qHs hb)];exact qAh _ e1
end
end ST
end PySem
namespace L2
open PySem PySem.Spec PyProof.Rows
theorem Inv.draws (I:Inv X pins σ H s):Inv X pins σ H { s with drawn:=d }:=by
 have z:=I.step (g':=s.gens) (t':=s.toks) (d':=d) (h':=s.heap) (H':=H) (ch:=[]) (fun _ z=>nomatch z) (fun b o _ _ _ e _=>e) (fun b o _ _ _ e _=>⟨o.slots,e⟩) (fun _ _ _ _ n=>n) (fun b o _ e=>⟨o,e⟩) (fun _ _ e=>e) (fun _ _ _ e=>e) (fun _ _ e=>⟨#[],by simpa using e⟩) (fun _ n=>n) I.bZ I.bare;exact z
theorem tY (ns:List Int)(k:Int):k∈qIq (fun i=>ns.getD i 0) ns.length↔k∈ns:=by
 have h:=firstMet_any (fun i=>ns.getD i 0) ns.length k;have e:(qAn ns.length).map (fun i=>ns.getD i 0)=ns:=by
  refine qJy (by simp) fun i h1 h2=>?_;rw[qGo,qJg,qAq,qAd h2];rfl
 rw[e] at h;have q:∀l:List Int,l.any (· == k)=true↔k∈l:=fun l=>by simp
 rw[<- q,<- q,h]
theorem gX (f:Nat->Int):∀n,(qIq f n).Nodup
 | 0=>by rw[firstMet_zero];exact qIw
 | n+1=>by
  rw[firstMet_succ];unfold qKy;split
  ·exact gX f n
  ·rename_i h;refine List.nodup_append.mpr ⟨gX f n,by simp,fun a ha b hb e=>?_⟩;obtain rfl:b=f n:=by simpa using hb
   subst e;exact h (List.any_eq_true.mpr ⟨_,ha,by simp⟩)
def RJ (K:qAb)(ta:TA):TE:=fun σ H Q=>ta σ H fun vs H1=>∃(p:Addr) (ns:List Int),vs=[.ref p]/\aR K H1 p (ns.map V.int)/\ns.length<64/\∀(l:Addr) (ms:List Int),H1 l=none->(∀k,k∈ms↔k∈ns)->ms.Pairwise (· < ·)->Q (.ref l) (upd H1 l (.lst (ms.map V.int)))
theorem Gp:qCq "set"=some (.type "set"):=by decide +kernel
theorem pw_lt:∀{ms:List Int},ms.Pairwise (·<=·)->ms.Nodup->ms.Pairwise (· < ·)
 | [],_,_=>.nil
 | m::ms,.cons h1 h2,hn=>by
  obtain⟨n1,n2⟩:=List.nodup_cons.mp hn;refine .cons (fun k hk=>?_) (pw_lt h2 n2);have:=h1 k hk;rcases qNu this with z | z
  ·exact z
  ·exact absurd (z▸hk) n1
section
variable {X:Cx}
theorem tZ (hg:Gl X "sorted")(hm:X.mg "sorted"=none)(hg':Gl X "set")(hm':X.mg "set"=none)(hc:X.calm=true)(ha:PA X [a] ta)
  (hs:qBo [a] X.env=[(false,eval a X.env)]:=by rfl) (hs':qBo [.Call (.Name "set" p') [a] [] pos'] X.env=[(false,eval (.Call (.Name "set" p') [a] [] pos') X.env)]:=by rfl) :
  PE X (.Call (.Name "sorted" p) [.Call (.Name "set" p') [a] [] pos'] [] pos) (RJ X.K ta):=by
 intro pins s σ H Q I h;refine qMp (fD I hg hm yH (qIj ?_ hs' rfl));rw[hs'];show qBj _ _ (qNm ((false,eval (.Call (.Name "set" p') [a] [] pos') X.env)::[])) _ _ s;refine qFr ?_;refine qMp (fD I hg' hm' Gp (qBv (cE (ha pos' pins s σ H _ I h) fun us s1 ⟨vs,H1,I1,r1,q1⟩=>?_) hs rfl));obtain⟨p,ns,e,hq,h64,q⟩:=q1;subst e;obtain⟨u,rfl,rx⟩:=vals1 r1;cases rx;obtain⟨its,r',pl,hz⟩:=I1.list hq;have hi:=intsAre_of r';have hl:its.length=ns.length:=by rw[<- r'.length,qAc]
 refine PySem.ST.vX (items:=its.toArray) (ns:=ns) (I1.ok.hd hc) pl.isList (by simpa using hi) (by rw[qAx,hl];unfold qFt;lia) fun h' tk hS kp=>?_;refine qGg ?_;rw[show its.toArray.size=ns.length by rw[qAx,hl]] at hS;have hle:(qIq (fun i=>ns.getD i 0) ns.length).length<=ns.length:=firstMet_length_le _ _;have kp1:∀b o,s1.heap.get? b=some o->h'.get? b=some o:=fun b o e=>kp b o (qAr e) e;have I2:Inv X pins σ H1 { s1 with heap:=h',toks:=tk }:=I1.kept kp1;refine PySem.ST.yT (s:={ s1 with heap:=h',toks:=tk }) (I2.ok.hd hc) hS (by lia) fun h2 tk2 d l out ms c kp2 hl2 e2 m1 m2 m3=>?_;have hms:ms.length=(qIq (fun i=>ns.getD i 0) ns.length).length:=m2.length_eq;have I3:=(I2.laid (a:=l) (o:=.lst (ms.map V.int)) (t':=tk2) kp2 hl2 ⟨by rw[qAc,qCi];lia,out.toList,c,lQ m1,by rw[show out.toList.toArray=out by simp];exact e2⟩).draws (d:=d);refine⟨.ref l,_,I3,rfl,q _ _ (I2.bZ.fresh hl2) (fun k=>?_) (pw_lt m3 (m2.nodup_iff.mpr (gX _ _)))⟩;rw[m2.mem_iff];exact tY ns k
end
end L2
set_option maxHeartbeats 4000000
namespace L2
open PySem PySem.Spec PyProof.Rows
def DB (a:Addr)(ob:Obj)(kvs:List (Key×V)):It :=
 ⟨fun i H=>H a=some (.frz ob (.dK kvs))/\i<kvs.length,fun i H x H'=>H'=H/\∃(kv:Key×V),kvs[i]?=some kv/\x=kV kv.1,fun i H=>H a=some (.frz ob (.dK kvs))/\kvs.length<=i⟩
theorem t4 (ok:kI P w H h)(e:H a=some (.frz ob (.dK kvs))):h.get? a=some ob/\∃es ep vs,(a == qFm)=false/\ob.ExactDict/\ob.data = .dict es ep/\KV kvs vs/\Pairs (b0 P w) es.toList vs:=by
 have z:h.get? a=some ob/\_:=ok a _ e;obtain⟨_,hd,vs,rel,o,es,ep,h1,h2,h3,h4,h5,h6⟩:=rN ok (.inr ⟨ob,e⟩);have eo:o=ob:=Option.some.inj (h1.symm.trans z.1);subst eo;exact⟨h1,es,ep,vs,hd,h2,h3,rel,h5⟩
theorem yU {P:qBx}{w:qDe}{K:qAb}{tg:Expr}(a it:Addr){ob:Obj}{kvs:List (Key×V)}{es:Array DictEntry}{ep:Nat}(hdat:ob.data = .dict es ep):Turn P w K tg (DB a ob kvs) [it] it (fun i h=>h.IsKeyIter it a i es.size ep) where
 mem:=by simp
 obj:=fun i h st b hb=>by
  have e:b=it:=by simpa using hb
  subst e;obtain⟨o,e,c,d⟩:=st;exact⟨o,e,fun v z=>by rw[d] at z;cases z⟩
 keep:=fun i h h' st k=>st.at fun o e=>k it (by simp) o e
 item:=by
  intro X hP hw hK hc i pins s σ H E I hf st hg;subst hP hw hK;obtain⟨hq,hlt⟩:=hg;obtain⟨h1,es',ep',vs,h2,h3,h4,rel,h5⟩:=t4 I.bZ hq;have e1:Data.dict es' ep'=Data.dict es ep:=h4.symm.trans hdat;obtain⟨rfl,rfl⟩:es'=es/\ep'=ep:=by injection e1 with a b;exact⟨a,b⟩
  have hlen:es'.size=kvs.length:=by rw[<- qBz,h5.length,Paired.length rel]
  obtain⟨f0,f1,f2,f3,f4,f5⟩:=hf it (by simp);refine Ds st h1 h4 (by lia) fun h' st' sb=>?_;have I1:Inv X pins σ H { s with heap:=h' }:=I.turned (t':=s.toks) (fun b o hb e=>(sb.2 b hb).trans e) f0 f1 f3 f4 f5;obtain⟨o,e,c,dd⟩:=id st';have hkv:kvs[i]?=some kvs[i]:=qAd hlt;obtain⟨q,hq1,hq2⟩:=lS rel hkv;have hes:es'.toList[i]?=some es'[i]:=by rw[qDr,qBq (by lia)]
  have hkey:=(h5.get? (k:=q.1) (v:=q.2) hes hq1).1;refine⟨_,rfl,zP (s:={ s with heap:=h' }) e c dd (by decide) ⟨kV kvs[i].1,H,I1,?_,⟨rfl,kvs[i],hkv,rfl⟩,st',fun b hb=>(hf b hb).1⟩⟩;rw[show kvs[i].1=q.1 from hq2.1];exact vU hkey
 done:=by
  intro X hP hw hK hc i pins s σ H E I hf st hg;subst hP hw hK;obtain⟨hq,hge⟩:=hg;obtain⟨h1,es',ep',vs,h2,h3,h4,rel,h5⟩:=t4 I.bZ hq;have e1:Data.dict es' ep'=Data.dict es ep:=h4.symm.trans hdat;obtain⟨rfl,rfl⟩:es'=es/\ep'=ep:=by injection e1 with a b;exact⟨a,b⟩
  have hlen:es'.size=kvs.length:=by rw[<- qBz,h5.length,Paired.length rel]
  obtain⟨f0,f1,f2,f3,f4,f5⟩:=hf it (by simp);exact Gj (I.ok.hd hc) st h1 h4 (by lia) fun h' eb=>⟨rfl,I.turned (t':=s.toks) (fun b o hb e=>eb b o hb e) f0 f1 f3 f4 f5⟩
 self:=fun _ _ _ _ _ st h=>wpAny_pyIter_keyiter st h
section
variable {X:Cx}{tg:Expr}
def JD (td:TE):TI:=fun σ H R=>td σ H fun x H1=>∃(a:Addr) (ob:Obj) (kvs:List (Key×V)),x = .ref a/\H1 a=some (.frz ob (.dK kvs))/\R (DB a ob kvs) H1
theorem DD {l:Expr}{td:TE}(hl:PE X l td):PI X tg l (JD td):=by
 intro pins s σ H R I h;refine cE (hl pins s σ H _ I h) fun v s1 ⟨x,H1,I1,r1,q1⟩=>?_;obtain⟨a,ob,kvs,e,hq,q⟩:=q1;subst e;cases r1;obtain⟨h1,es,ep,xs,h2,h3,h4,rel,h5⟩:=t4 I1.bZ hq;refine Dr h2 h1 h3 h4 ?_;refine⟨s1.heap.objs.size,[s1.heap.objs.size],_,_,H1,rfl,I1.kept (t':=s1.toks) fun b o e=>qAh _ e,yU a _ h4,⟨_,qAt _ rfl,rfl,rfl⟩,fun b hb=>?_,q⟩;have e:b=s1.heap.objs.size:=by simpa using hb
 subst e;exact I1.Bk (qAg _) (I1.bZ.fresh (qAg _))
def Oc (t:TE):TE:=fun σ H Q=>t σ H fun x H1=>∃(a:Addr) (kvs:List (Key×V)),x = .ref a/\H1 a=some (.dK kvs)/\∀ob,Q x (upd H1 a (.frz ob (.dK kvs)))
theorem Gq (hl:PE X l td):PE X l (Oc td):=by
 intro pins s σ H Q I h;refine cE (hl pins s σ H _ I h) fun v s1 ⟨x,H1,I1,r1,q1⟩=>?_;obtain⟨a,kvs,e,hq,q⟩:=q1;obtain⟨z,hd,vs,rel,dd⟩:=Dl I1.bZ hq;obtain⟨ob,es,ep,g1,g2⟩:=id dd;exact⟨x,_,I1.write (x:=a) (e:=a) (o:=.frz ob (.dK kvs)) (t':=s1.toks) (by rw[hq];exact True.intro) (.inl rfl) (fun b u _ e=>e) ⟨ob,g1⟩ ⟨g1,z,hd,vs,rel,dd⟩,r1,q ob⟩
end
section
variable {K:qAb}{a a':Addr}{xs xs':List V}{lo:Int}{n:Nat}{σ0:St}{H1:Hp}{i0:Nat}{c:TT}{te:TE}{g:TG}{Q:Addr->Hp->Prop}
theorem yV (Iv:Nat->List V->Hp->Prop)(mono:∀i ys H H',kT H H'->Iv i ys H->Iv i ys H')(h0:Iv 0 [] H1)(hq:H1 a=some (.frz ob (.dK kvs)))(hn:kvs.length<=qAf)
  (step:∀(i:Nat) (kv:Key×V) (H2:Hp) (k:VK) (k0:Hp->Prop) (ys:List V),aG H1 H2->kvs[i]?=some kv->Iv i ys H2->(∀y H3,aG H2 H3->Iv (i+1) (ys++[y]) H3->k y H3)->(∀H3,aG H2 H3->Iv (i+1) ys H3->k0 H3) ->
   c (σ0.set i0 (some (kV kv.1))) H2 fun b H4=>if b=true then te (σ0.set i0 (some (kV kv.1))) H4 k else k0 H4)
  (h:∀D ys H2,H1 D=none->aG H1 H2->Iv kvs.length ys H2->H2 D=some (.lst ys)->Q D H2) :
  ∀D,H1 D=none->∃W:Nat->Nat->St->Hp->Prop,(∃m,W 0 m σ0 (upd H1 D (.lst [])))/\∀i m σ1 H2,W i m σ1 H2 ->
   ((DB a ob kvs).stop i H2/\Q D H2)\/((DB a ob kvs).go i H2/\∃N:St->Hp->Prop,(∀σ' H',N σ' H'->∃m',m'<m/\W (i+1) m' σ' H') /\
    ∀x H',(DB a ob kvs).qQ i H2 x H'->aZ i0 x σ1 H' fun σ2 H3=>c σ2 H3 fun b H4=>if b=true then te σ2 H4 fun y H5=>∃xs,H5 D=some (.lst xs)/\xs.length<qAf/\N σ2 (upd H5 D (.lst (xs++[y]))) else N σ2 H4):=by
 intro D hD;refine⟨fun i m σ1 H2=>σ1.set i0 none=σ0.set i0 none/\aG H1 H2/\(∃ys,ys.length<=i/\Iv i ys H2/\H2 D=some (.lst ys))/\i<=kvs.length/\m=kvs.length-i,⟨kvs.length,rfl,.aF hD,⟨[],qAg _,mono _ _ _ _ (aG.aF hD).t h0,aC⟩,qBr _,rfl⟩,?_⟩;rintro i m σ1 H2 ⟨hσ,hs,⟨ys,hy,hR,hd⟩,hi,rfl⟩;have hset:∀v:Option V,σ1.set i0 v=σ0.set i0 v:=fun v=>by
  have z:=congrArg (fun l=>qHt l i0 v) hσ;simpa using z
 rcases qAm i kvs.length with hlt | hge
 ·right
  refine⟨⟨hs _ _ hq,hlt⟩,fun σ' H'=>σ'.set i0 none=σ0.set i0 none/\aG H1 H'/\∃ys,ys.length<=i+1/\Iv (i+1) ys H'/\H' D=some (.lst ys),fun σ' H' ⟨a,b,c⟩=>⟨kvs.length-(i+1),by lia,a,b,c,hlt,rfl⟩,?_⟩;rintro x H' ⟨rfl,kv,hx,rfl⟩;show c (σ1.set i0 (some (kV kv.1))) _ _;rw[hset];refine step i kv _ _ _ ys hs hx hR (fun y H3 hs3 hR3=>⟨_,hs3 _ _ hd,by lia,?_,(hs.trans hs3).upd_ne' hD,ys++[y],by rw[qAp];show _+1<=_;lia,mono _ _ _ _ (.lst (hs3 _ _ hd)) hR3,aC⟩) fun H3 hs3 hR3=>⟨?_,hs.trans hs3,ys,by lia,hR3,hs3 _ _ hd⟩
  ·simp
  ·simp
 ·left
  obtain rfl:i=kvs.length:=qCw hi hge;exact⟨⟨hs _ _ hq,qAg _⟩,h D ys _ hD hs hR hd⟩
theorem BP (Ag:St->Prop)(Iv:Nat->List V->Hp->Prop)(mono:∀i ys H H',kT H H'->Iv i ys H->Iv i ys H')(h0:Ag σ0)(h00:Iv 0 [] H1)(hq:aR K H1 a xs)(hq':aR K H1 a' xs')(hlen:xs.length<=xs'.length)(hn:xs.length<=qAf)
  (step:∀(i:Nat) (x y:V) (t:Addr) (σ1:St) (H2:Hp) (k:St->VK) (k0:St->Hp->Prop) (ys:List V),Ag σ1->aG H1 H2->xs[i]?=some x->xs'[i]?=some y->H2 t=some (.tup [x,y])->Iv i ys H2->(∀σ2 z H3,Ag σ2->aG H2 H3->Iv (i+1) (ys++[z]) H3->k σ2 z H3)->(∀σ2 H3,Ag σ2->aG H2 H3->Iv (i+1) ys H3->k0 σ2 H3) ->
   g (.ref t) σ1 H2 fun σ2 H3=>c σ2 H3 fun b H4=>if b=true then te σ2 H4 (k σ2) else k0 σ2 H4)
  (h:∀D ys H2,H1 D=none->aG H1 H2->Iv xs.length ys H2->H2 D=some (.lst ys)->Q D H2) :
  ∀D,H1 D=none->∃W:Nat->Nat->St->Hp->Prop,(∃m,W 0 m σ0 (upd H1 D (.lst [])))/\∀i m σ1 H2,W i m σ1 H2 ->
   ((Ab K a a').stop i H2/\Q D H2)\/((Ab K a a').go i H2/\∃N:St->Hp->Prop,(∀σ' H',N σ' H'->∃m',m'<m/\W (i+1) m' σ' H') /\
    ∀x H',(Ab K a a').qQ i H2 x H'->g x σ1 H' fun σ2 H3=>c σ2 H3 fun b H4=>if b=true then te σ2 H4 fun y H5=>∃xs,H5 D=some (.lst xs)/\xs.length<qAf/\N σ2 (upd H5 D (.lst (xs++[y]))) else N σ2 H4):=by
 intro D hD;refine⟨fun i m σ1 H2=>Ag σ1/\aG H1 H2/\(∃ys,ys.length<=i/\Iv i ys H2/\H2 D=some (.lst ys))/\i<=xs.length/\m=xs.length-i,⟨xs.length,h0,.aF hD,⟨[],qAg _,mono _ _ _ _ (aG.aF hD).t h00,aC⟩,qBr _,rfl⟩,?_⟩;rintro i m σ1 H2 ⟨hσ,hs,⟨ys,hy',hR,hd⟩,hi,rfl⟩;rcases qAm i xs.length with hlt | hge
 ·right
  have hlt':i<xs'.length:=qAy hlt hlen;refine⟨⟨xs,xs',xs[i],xs'[i],hs.seq hq,hs.seq hq',by simp[hlt],by simp[hlt']⟩,fun σ' H'=>Ag σ'/\aG H1 H'/\∃ys,ys.length<=i+1/\Iv (i+1) ys H'/\H' D=some (.lst ys),fun σ' H' ⟨a,b,c⟩=>⟨xs.length-(i+1),by lia,a,b,c,hlt,rfl⟩,?_⟩;rintro v H' ⟨t,x,y,rfl,ht,rfl,hx,hy⟩;have hx:=hx xs (hs.seq hq);have hy:=hy xs' (hs.seq hq');have hst:aG H1 (upd H2 t (.tup [x,y])):=hs.trans (.aF ht);have hdt:=aG.aF (o:=.tup [x,y]) ht _ _ hd;refine step i x y t σ1 _ (fun σ2 y H5=>∃xs,H5 D=some (.lst xs)/\xs.length<qAf/\_) _ ys hσ hst hx hy aC (mono _ _ _ _ (aG.aF ht).t hR) (fun σ2 z H3 a2 hs3 hR3=>⟨_,hs3 _ _ hdt,by lia,a2,(hst.trans hs3).upd_ne' hD,ys++[z],by rw[qAp];show _+1<=_;lia,mono _ _ _ _ (.lst (hs3 _ _ hdt)) hR3,aC⟩) fun σ2 H3 a2 hs3 hR3=>⟨a2,hst.trans hs3,ys,by lia,hR3,hs3 _ _ hdt⟩
 ·left
  obtain rfl:i=xs.length:=qCw hi hge;exact⟨⟨xs,xs',hs.seq hq,hs.seq hq',.inl (qAg _)⟩,h D ys _ hD hs hR hd⟩
end
end L2
set_option maxHeartbeats 4000000
namespace L2
open PySem PySem.Spec PyProof.Rows
def Od (K:qAb)(a:Addr)(n:Nat):It :=
 ⟨fun i H=>i<n/\∃xs x,aR K H a xs/\xs[n-1-i]?=some x,fun i H x H'=>H'=H/\∀xs,aR K H a xs->xs[n-1-i]?=some x,fun i H=>i=n⟩
theorem DE {P:qBx}{w:qDe}{K:qAb}{tg:Expr}(a it:Addr)(n:Nat):Turn P w K tg (Od K a n) [it] it (fun i h=>h.IsRevIter it a ((n:Int)-1-(i:Int))) where
 mem:=by simp
 obj:=fun i h st b hb=>by
  have e:b=it:=by simpa using hb
  subst e;obtain⟨o,e,c,d⟩:=st;exact⟨o,e,fun v z=>by rw[d] at z;cases z⟩
 keep:=fun i h h' st k=>st.at fun o e=>k it (by simp) o e
 item:=by
  intro X hP hw hK hc i pins s σ H E I hf st hg;subst hP hw hK;obtain⟨hi,xs,x,hq,hx⟩:=hg;obtain⟨its,rv,p,hz⟩:=I.list hq;obtain⟨u,hu,ru⟩:=rv.get hx;obtain⟨f0,f1,f2,f3,f4,f5⟩:=hf it (by simp);rw[show(n:Int)-1-(i:Int)=((n-1-i:Nat):Int) by lia] at st;refine wpAny_pyNext_rev_item st p.isList (x:=u) (by simpa using hu) fun h' st' sb=>?_;rw[show((n-1-i:Nat):Int)-1=(n:Int)-1-((i+1:Nat):Int) by lia] at st';have I1:Inv X pins σ H { s with heap:=h' }:=I.turned (t':=s.toks) (fun b o hb e=>(sb.2 b hb).trans e) f0 f1 f3 f4 f5;obtain⟨o,e,c,d⟩:=id st';exact⟨u,rfl,zP (s:={ s with heap:=h' }) e c d (by decide) ⟨x,H,I1,ru,⟨rfl,fun ys hy=>by rw[I.jG hy hq];exact hx⟩,st',fun b hb=>(hf b hb).1⟩⟩
 done:=by
  intro X hP hw hK hc i pins s σ H E I hf st hg;subst hP hw hK;obtain rfl:i=n:=hg;obtain⟨f0,f1,f2,f3,f4,f5⟩:=hf it (by simp);rw[show(i:Int)-1-(i:Int)=-1 by lia] at st;exact wpAny_pyNext_rev_end (I.ok.hd hc) st fun h' eb=>⟨rfl,I.turned (t':=s.toks) (fun b o hb e=>eb b o hb e) f0 f1 f3 f4 f5⟩
 self:=fun _ _ _ _ _ st h=>wpAny_pyIter_revIter st h
theorem wG:qCq "reversed"=some (.type "reversed"):=by decide +kernel
def Qw (K:qAb)(ta:TA):TI:=fun σ H R=>ta σ H fun vs H1=>∃l xs,vs=[.ref l]/\aR K H1 l xs/\R (Od K l xs.length) H1
theorem JE {X:Cx}{tg a:Expr}{ta:TA}{p pos:Pos}(hg:Gl X "reversed")(hm:X.mg "reversed"=none)(ha:PA X [a] ta)(hs:qBo [a] X.env=[(false,eval a X.env)]:=by rfl):
  PI X tg (.Call (.Name "reversed" p) [a] [] pos) (Qw X.K ta):=by
 intro pins s σ H R I h;refine qMp (fD I hg hm wG (qBv (cE (ha pos pins s σ H _ I h) fun us s1 ⟨vs,H1,I1,r1,q1⟩=>?_) hs rfl));obtain⟨l,xs,e,hq,q⟩:=q1;subst e;obtain⟨u,rfl,ru⟩:=vals1 r1;cases (show u=Value.ref l from ru);obtain⟨its,rv,p1,z1⟩:=I1.list hq;have hl:=rv.length;refine call_reversed_list p1.isList ?_;have hit:(s1.heap.push (revObj l ((its.toArray.size:Int)-1))).IsRevIter s1.heap.objs.size l ((xs.length:Int)-1-((0:Nat):Int)):=⟨_,qAt _ rfl,rfl,by
  show Data.fields #[.ref l,qJo ((its.toArray.size:Int)-1)]=_;rw[qAx,<- hl];simp⟩
 refine wpAny_pyIter_revIter (s:={ s1 with heap:=s1.heap.push (revObj l ((its.toArray.size:Int)-1)) }) hit ?_;have I2:Inv X pins σ H1 { s1 with heap:=s1.heap.push (revObj l ((its.toArray.size:Int)-1)) }:=I1.kept (t':=s1.toks) fun b o e=>qAh _ e;refine⟨s1.heap.objs.size,[s1.heap.objs.size],_,_,H1,rfl,I2,DE l _ xs.length,hit,fun b hb=>?_,q⟩;have e:b=s1.heap.objs.size:=by simpa using hb
 subst e;exact I1.Bk (qAg _) (I1.bZ.fresh (qAg _))
theorem Gr {K:qAb}{a:Addr}{xs:List V}{g:TG}{tb:TS}{D:Ends}{σ:St}{H:Hp}(Pv:Nat->St->Hp->Prop)(h0:Pv 0 σ H)(hl:∀i σ H,i<=xs.length->Pv i σ H->aR K H a xs)
  (hs:∀i x σ H,xs[xs.length-1-i]?=some x->i<xs.length->Pv i σ H->g x σ H fun σ2 H2=>tb { D with nx:=Pv (i+1),ct:=Pv (i+1),bk:=D.nx } σ2 H2) (hd:∀σ H,Pv xs.length σ H->D.nx σ H) :
  ∃W:Nat->Nat->St->Hp->Prop,(∃m,W 0 m σ H)/\∀i m σ H,W i m σ H ->
   ((Od K a xs.length).stop i H/\D.nx σ H)\/((Od K a xs.length).go i H/\∃N:St->Hp->Prop,(∀σ' H',N σ' H'->∃m',m'<m/\W (i+1) m' σ' H')/\∀x H',(Od K a xs.length).qQ i H x H'->g x σ H' fun σ2 H2=>tb { D with nx:=N,ct:=N,bk:=D.nx } σ2 H2):=by
 refine⟨fun i m σ H=>m=xs.length-i/\i<=xs.length/\Pv i σ H,⟨xs.length,by simp,qBr _,h0⟩,?_⟩;rintro i m σ H ⟨rfl,hi,p⟩;have q:=hl i σ H hi p;by_cases hlt:i<xs.length
 ·refine .inr ⟨⟨hlt,xs,xs[xs.length-1-i],q,qAd (by lia)⟩,Pv (i+1),fun σ' H' p'=>⟨xs.length-(i+1),by lia,rfl,hlt,p'⟩,fun x H' y=>?_⟩;obtain⟨e,y⟩:=y;subst e;exact hs i x σ _ (y xs q) hlt p
 ·have e:i=xs.length:=by lia
  subst e;exact .inl ⟨rfl,hd σ H p⟩
end L2
set_option maxHeartbeats 4000000
namespace L2
open PySem PySem.Spec PyProof.Rows
def JF (tk tv:TE):TE:=fun σ H Q=>∀p,H p=none->tk σ (upd H p (.dK [])) fun x H2=>tv σ H2 fun y H3=>H3 p=some (.dK [])/\∃i:Int,x = .int i/\Q (.ref p) (upd H3 p (.dK [(.inl i,y)]))
theorem DF (hk:PE X k tk)(hv:PE X v tv):PE X (.Dict [some k] [v] pos) (JF tk tv):=by
 intro pins s σ H Q I q;have hn:=I.bZ.fresh (qAg s.heap.objs.size);have I1:=I.laid (a:=s.heap.objs.size) (o:=.dK []) (h':=s.heap.push { cls:=.type "dict",data:=.dict #[] }) (t':=s.toks) (fun _ _ q=>qAh _ q) (qAg _) (vP s.heap I.big);refine wpAny_Dict_walk (knd:=b0 X.prog X.w) (by rfl) (by rfl) (by simp) (by simp) ?_;refine pairTrees_cons_walk (cE (hk pins _ σ _ _ I1 (q _ hn)) fun u s2 ⟨x,H2,I2,rx,q2⟩=>cE (hv pins s2 σ H2 _ I2 q2) fun u2 s3 ⟨y,H3,I3,ry,e,i,ex,q3⟩=>pairTrees_nil_walk ?_);subst ex;obtain⟨t,rfl⟩:=rx;obtain⟨z,hd,vs0,r0,dd⟩:=Dl I3.bZ e;cases r0;refine⟨[(.inl i,u2)],⟨by simp[b0,oV,Value.isInt],rfl,True.intro⟩,dd,fun h' dd' hs=>⟨.ref s.heap.objs.size,_,?_,rfl,q3⟩⟩;have he:∃q,h'.get? s.heap.objs.size=some q:=let ⟨q,_,_,hq,_⟩:=dd';⟨q,hq⟩;exact tT I3 (by rw[e];exact True.intro) hs he (Dn (by rw[qCi];simp) hd (.cons ⟨rfl,ry⟩ .nil) dd')
section
variable {X:Cx}
end
end L2
namespace Wg
def sm:Nat->(Nat->Int)->Int
 | 0,_=>0
 | n+1,f=>sm n f+f n
theorem aY {n:Nat}{f g:Nat->Int}(h:∀i,i<n->f i=g i):sm n f=sm n g:=by
 induction n with
 | zero=>rfl
 | succ n ih=>show sm n f+f n=sm n g+g n;rw[ih fun i hi=>h i (by lia),h n (by lia)]
theorem fG (n:Nat)(f g:Nat->Int):sm n (fun i=>f i+g i)=sm n f+sm n g:=by
 induction n with
 | zero=>rfl
 | succ n ih=>show sm n _+(f n+g n)=(sm n f+f n)+(sm n g+g n);rw[ih];lia
theorem bK (n:Nat)(a:Int)(f:Nat->Int):sm n (fun i=>a*f i)=a*sm n f:=by
 induction n with
 | zero=>exact(qBy a).symm
 | succ n ih=>show sm n _+a*f n=a*(sm n f+f n);rw[ih,qPx]
theorem cD {n:Nat}{f:Nat->Int}(h:∀i,i<n->f i=0):sm n f=0:=by
 induction n with
 | zero=>rfl
 | succ n ih=>show sm n f+f n=0;rw[ih fun i hi=>h i (by lia),h n (by lia)];rfl
theorem gA {n:Nat}{f:Nat->Int}{k:Nat}(hk:k<n)(h:∀i,i<n->i≠k->f i=0):sm n f=f k:=by
 induction n with
 | zero=>lia
 | succ n ih =>
  show sm n f+f n=f k;rcases qAm k n with z | z
  ·rw[ih z fun i hi=>h i (by lia),h n (by lia) (by lia)];lia
  ·have e:k=n:=by lia
   subst e;rw[cD fun i hi=>h i (by lia) (by lia)];lia
theorem yW {n:Nat}{f:Nat->Int}{k l:Nat}(hkl:k<l)(hl:l<n)(h:∀i,i<n->i≠k->i≠l->f i=0):sm n f=f k+f l:=by
 induction n with
 | zero=>lia
 | succ n ih =>
  show sm n f+f n=f k+f l;rcases qAm l n with z | z
  ·rw[ih z fun i hi=>h i (by lia),h n (by lia) (by lia) (by lia)];lia
  ·have e:l=n:=by lia
   subst e;rw[gA hkl fun i hi ne=>h i (by lia) ne (by lia)]
theorem lV (n m:Nat)(f:Nat->Nat->Int):sm n (fun i=>sm m fun j=>f i j)=sm m (fun j=>sm n fun i=>f i j):=by
 induction n with
 | zero=>exact(cD fun _ _=>rfl).symm
 | succ n ih =>
  show sm n (fun i=>sm m fun j=>f i j)+sm m (fun j=>f n j)=sm m (fun j=>sm n (fun i=>f i j)+f n j);rw[ih,fG]
theorem wH {n:Nat}{f g:Nat->Int}(h:∀i,i<n->f i<=g i):sm n f<=sm n g:=by
 induction n with
 | zero=>exact qDq _
 | succ n ih =>
  show sm n f+f n<=sm n g+g n;have:=ih fun i hi=>h i (by lia);have:=h n (by lia);lia
def sk (k i:Nat):Nat:=if i<k then i else i+1
def sg:Nat->Int
 | 0=>1
 | n+1=>- sg n
theorem Oe (n:Nat):sg n=1\/sg n=-1:=by
 induction n with
 | zero=>exact .inl rfl
 | succ n ih=>rcases ih with h | h <;> simp[sg,h]
def det:Nat->(Nat->Nat->Int)->Int
 | 0,_=>1
 | m+1,c=>sm (m+1) fun k=>sg k*c k 0*det m (fun i r=>c (sk k i) (r+1))
def up (c:Nat->Nat->Int)(i:Nat)(v:Nat->Int):Nat->Nat->Int:=fun k=>if k=i then v else c k
theorem fN (c:Nat->Nat->Int)(i:Nat)(v:Nat->Int):up c i v i=v:=if_pos rfl
theorem hJ {c:Nat->Nat->Int}{i k:Nat}{v:Nat->Int}(h:k≠i):up c i v k=c k:=if_neg h
theorem j9 (c:Nat->Nat->Int)(i:Nat):up c i (c i)=c:=by
 funext k
 unfold up;split
 ·rename_i h;rw[h]
 ·rfl
theorem fB (c:Nat->Nat->Int){i j:Nat}(v u:Nat->Int)(h:i≠j):up (up c i v) j u=up (up c j u) i v:=by
 funext k
 unfold up;split
 ·rename_i e;rw[if_neg (by lia)]
 ·rfl
theorem t5 {m:Nat}:∀{c d:Nat->Nat->Int},(∀k,k<m->∀r,r<m->c k r=d k r)->det m c=det m d:=by
 induction m with
 | zero=>intros;rfl
 | succ m ih =>
  intro c d h;refine aY fun k hk=>?_;rw[h k hk 0 (by lia),ih fun i hi r hr=>?_];show c (sk k i) (r+1)=d (sk k i) (r+1);refine h _ ?_ _ (by lia);unfold sk;split <;> lia
theorem nB (c:Nat->Nat->Int)(k:Nat)(v:Nat->Int):(fun i r=>up c k v (sk k i) (r+1))=(fun i r=>c (sk k i) (r+1)):=by
 funext i r
 rw[hJ];unfold sk;split <;> lia
def un (k j:Nat):Nat:=if j<k then j else j-1
theorem lA (c:Nat->Nat->Int){k j:Nat}(h:k≠j)(v:Nat->Int):(fun i r=>up c j v (sk k i) (r+1))=up (fun i r=>c (sk k i) (r+1)) (un k j) (fun r=>v (r+1)):=by
 funext i r
 unfold up;by_cases e:sk k i=j
 ·rw[if_pos e,if_pos];unfold sk at e;unfold un;split at e <;> split <;> lia
 ·rw[if_neg e,if_neg];unfold sk at e;unfold un;split at e <;> split <;> lia
theorem Of {m k j:Nat}(hk:k<m+1)(hj:j<m+1)(h:k≠j):un k j<m:=by
 unfold un;split <;> lia
theorem hU {m:Nat}:∀{c:Nat->Nat->Int}{j:Nat} (a b:Int) (u v:Nat->Int),j<m->det m (up c j fun r=>a*u r+b*v r)=a*det m (up c j u)+b*det m (up c j v):=by
 induction m with
 | zero=>intros;lia
 | succ m ih =>
  intro c j a b u v hj;unfold det;rw[<- bK,<- bK,<- fG];refine aY fun k hk=>?_;by_cases e:k=j
  ·subst e;rw[nB,nB,nB,fN,fN,fN];grind
  ·rw[lA c e,lA c e,lA c e,hJ e,hJ e,hJ e,ih a b (fun r=>u (r+1)) (fun r=>v (r+1)) (Of hk hj e)];grind
theorem An {m:Nat}:∀{c:Nat->Nat->Int}{j:Nat},j+1<m->c j=c (j+1)->det m c=0:=by
 induction m with
 | zero=>intros;lia
 | succ m ih =>
  intro c j hj e;unfold det;rw[yW (k:=j) (l:=j+1) (by lia) hj fun k hk n1 n2=>?_]
  ·have e2:(fun i r=>c (sk j i) (r+1))=(fun i r=>c (sk (j+1) i) (r+1)):=by
    funext i r
    unfold sk;by_cases h1:i<j
    ·rw[if_pos h1,if_pos (by lia)]
    ·rw[if_neg h1];by_cases h2:i<j+1
     ·rw[if_pos h2,show i=j by lia,e]
     ·rw[if_neg h2]
   rw[e2,e];show sg j*_*_ + - sg j*_*_=0;grind
  ·rw[ih (j:=un k j) (by unfold un;split <;> lia)]
   ·exact qBy _
   ·funext r
    have h1:sk k (un k j)=j:=by
     unfold sk un;by_cases z:j<k
     ·rw[if_pos z,if_pos z]
     ·rw[if_neg z,if_neg (by lia)];lia
    have h2:sk k (un k j+1)=j+1:=by
     unfold sk un;by_cases z:j<k
     ·rw[if_pos z,if_pos (by lia)]
     ·rw[if_neg z,if_neg (by lia)];lia
    rw[h1,h2,e]
theorem Gs (m:Nat):det m (fun k r=>if k=r then 1 else 0)=1:=by
 induction m with
 | zero=>rfl
 | succ m ih =>
  unfold det;rw[gA (k:=0) (by lia) fun k hk ne=>by show sg k*(if k=0 then 1 else 0)*_=0;rw[if_neg ne];simp];have e:(fun(i r:Nat)=>(if sk 0 i=r+1 then (1:Int) else 0))=(fun k r=>if k=r then 1 else 0):=by
   funext i r
   have z:sk 0 i=i+1:=rfl;rw[z];by_cases h:i=r
   ·rw[if_pos h,if_pos (by lia)]
   ·rw[if_neg h,if_neg (by lia)]
  show sg 0*(if 0=0 then 1 else 0)*det m (fun(i r:Nat)=>(if sk 0 i=r+1 then (1:Int) else 0))=1;rw[e,ih];rfl
theorem BQ {m:Nat}{c:Nat->Nat->Int}{j:Nat}(u v:Nat->Int)(hj:j+1<m):det m (up (up c j u) (j+1) v)=- det m (up (up c j v) (j+1) u):=by
 have h0:∀w:Nat->Int,det m (up (up c j w) (j+1) w)=0:=fun w=>An hj (by rw[hJ (by lia),fN,fN]);have ne:j≠j+1:=by lia
 have h:=h0 (fun r=>1*u r+1*v r);rw[hU 1 1 u v hj,fB c _ u ne,fB c _ v ne,hU 1 1 u v (by lia),hU 1 1 u v (by lia),<- fB c u u ne,<- fB c v u ne,<- fB c u v ne,<- fB c v v ne,h0 u,h0 v] at h;lia
theorem Ao {m:Nat}:∀(n:Nat){c:Nat->Nat->Int}{j:Nat},j+n+1<m->c j=c (j+n+1)->det m c=0:=by
 intro n;induction n with
 | zero=>exact fun hj e=>An hj e
 | succ n ih =>
  intro c j hj e;have z:=BQ (m:=m) (c:=c) (j:=j+n+1) (c (j+n+1)) (c (j+n+2)) (by lia);rw[j9,j9] at z;rw[z,ih (j:=j) (by lia)]
  ·rfl
  ·rw[hJ (by lia),hJ (by lia),hJ (by lia),fN];exact e
theorem lW {m:Nat}{c:Nat->Nat->Int}{i j:Nat}(hi:i<m)(hj:j<m)(ne:i≠j)(e:c i=c j):det m c=0:=by
 rcases qAm i j with h | h
 ·exact Ao (j-i-1) (j:=i) (by lia) (by rw[show i+(j-i-1)+1=j by lia];exact e)
 ·exact Ao (i-j-1) (j:=j) (by lia) (by rw[show j+(i-j-1)+1=i by lia];exact e.symm)
theorem DI {m:Nat}{c:Nat->Nat->Int}{i j:Nat}(u v:Nat->Int)(hi:i<m)(hj:j<m)(ne:i≠j):det m (up (up c i u) j v)=- det m (up (up c i v) j u):=by
 have h0:∀w:Nat->Int,det m (up (up c i w) j w)=0:=fun w=>lW hi hj ne (by rw[hJ ne,fN,fN]);have h:=h0 (fun r=>1*u r+1*v r);rw[hU 1 1 u v hj,fB c _ u ne,fB c _ v ne,hU 1 1 u v hi,hU 1 1 u v hi,<- fB c u u ne,<- fB c v u ne,<- fB c u v ne,<- fB c v v ne,h0 u,h0 v] at h;lia
theorem t6 {m:Nat}{c:Nat->Nat->Int}{j:Nat}(hj:j<m):∀(n:Nat) (a:Nat->Int) (u:Nat->Nat->Int),det m (up c j fun r=>sm n fun k=>a k*u k r)=sm n fun k=>a k*det m (up c j (u k)):=by
 intro n a u;induction n with
 | zero =>
  show det m (up c j fun r=>0)=0;have z:=hU (c:=c) 0 0 (fun _=>0) (fun _=>0) hj;have e:(fun r:Nat=>(0:Int)*(0:Int)+0*0)=fun _=>0:=rfl;have z2:det m (up c j fun r=>(0:Int)*(0:Int)+0*0)=_:=z;rw[e] at z2;lia
 | succ n ih =>
  show det m (up c j fun r=>sm n (fun k=>a k*u k r)+a n*u n r)=_+_;have z:=hU (c:=c) 1 (a n) (fun r=>sm n fun k=>a k*u k r) (u n) hj;rw[show(fun r=>(1:Int)*(sm n fun k=>a k*u k r)+a n*u n r)=fun r=>sm n (fun k=>a k*u k r)+a n*u n r from funext fun r=>by rw[qCk]] at z;rw[z,ih];show 1*sm n _+a n*_=sm n _+a n*_;rw[qCk]
theorem DJ {m:Nat}{c:Nat->Nat->Int}{j:Nat}(hj:j<m)(a:Int)(u:Nat->Int):det m (up c j fun r=>a*u r)=a*det m (up c j u):=by
 have z:=t6 (c:=c) hj 1 (fun _=>a) (fun _=>u);simp only[sm,qDt] at z;exact z
def qO:Nat->Nat
 | 0=>1
 | n+1=>(n+1)*qO n
theorem rV {m:Nat}{X:Nat}:∀{c:Nat->Nat->Int},(∀k r,k<m->r<m->(c k r).natAbs<=X)->(det m c).natAbs<=qO m*X^m:=by
 induction m with
 | zero=>intro c _;exact qAg _
 | succ m ih =>
  intro c h;have hb:∀k,k<m+1->(sg k*c k 0*det m (fun i r=>c (sk k i) (r+1))).natAbs<=X*(qO m*X^m):=fun k hk=>by
   rw[qDx,qDx];have h1:(sg k).natAbs=1:=by rcases Oe k with e | e <;> rw[e] <;> rfl
   rw[h1,qJa];refine qOz (h k 0 hk (by lia)) (ih fun i r hi hr=>h _ _ ?_ (by lia));unfold sk;split <;> lia
  have hs:∀n,n<=m+1->(sm n fun k=>sg k*c k 0*det m (fun i r=>c (sk k i) (r+1))).natAbs<=n*(X*(qO m*X^m)):=by
   intro n;induction n with
   | zero=>intro _;show 0<=_;exact qBr _
   | succ n ih2 =>
    intro hn;refine qDa (qOb _ _) ?_;have a:=ih2 (by lia);have b:=hb n (by lia);rw[qNg,qJa];exact Nat.add_le_add a b
  refine qDa (hs (m+1) (qAg _)) (qIm ?_);show(m+1)*(X*(qO m*X^m))=(m+1)*qO m*X^(m+1);rw[qIk];simp only[qMl,qNw,qPh]
end Wg
namespace Wg
theorem sm_two' (ne:k≠l)(hk:k<n)(hl:l<n)(h:∀i,i<n->i≠k->i≠l->f i=0):sm n f=f k+f l:=by
 rcases qAm k l with z | z
 ·exact yW z hl h
 ·rw[yW (k:=l) (l:=k) (by lia) hk fun i hi a b=>h i hi b a];lia
structure Fr (m:Nat) (M:Nat->Nat->Int) (d:Int) (R:Nat->Nat->Int) (ch:Nat->Nat) (s:Int):Prop where
 pos:0<d
 eq:∀j r,d*M j r=sm m fun k=>R k j*M (ch k) r
 sg:s=1\/s=-1
 det:d=s*det m fun k=>M (ch k)
variable {m:Nat}{M:Nat->Nat->Int}{d:Int}{R:Nat->Nat->Int}{ch:Nat->Nat}{s:Int}
theorem Fr.ss (h:Fr m M d R ch s):s*s=1:=by rcases h.sg with e | e <;> rw[e] <;> rfl
theorem Fr.JG (h:Fr m M d R ch s){B:Nat->Nat->Int}{i:Nat}(hi:i<m)(j:Nat):d*Wg.det m (up B i (M j))=sm m fun k=>R k j*Wg.det m (up B i (M (ch k))):=by
 rw[<- DJ hi,show(fun r=>d*M j r)=fun r=>sm m fun k=>R k j*M (ch k) r from funext fun r=>h.eq j r,t6 hi]
theorem Fr.gY (h:Fr m M d R ch s){k:Nat}(hk:k<m)(j:Nat):R k j=s*Wg.det m (up (fun k=>M (ch k)) k (M j)):=by
 have z:=h.JG (B:=fun k=>M (ch k)) hk j;rw[gA hk fun i hi ne=>by rw[lW (i:=i) (j:=k) hi hk ne (by rw[hJ ne,fN])];exact qBy _] at z;rw[show up (fun k=>M (ch k)) k (M (ch k))=fun k=>M (ch k) from j9 (fun k=>M (ch k)) k] at z;have hd:=h.det;have hp:=h.pos;have e:=h.ss;generalize Wg.det m (fun k=>M (ch k))=X at z hd;generalize Wg.det m (up (fun k=>M (ch k)) k (M j))=Y at z|-;have hX:X≠0:=fun x=>by rw[x] at hd;simp at hd;lia
 have z2:X*(s*Y)=X*R k j:=by
  rw[hd] at z;grind
 exact(qFj hX z2).symm
theorem Fr.unit (h:Fr m M d R ch s){k i:Nat}(hk:k<m)(hi:i<m):R k (ch i)=if k=i then d else 0:=by
 rw[h.gY hk];by_cases e:k=i
 ·rw[if_pos e,e,show up (fun k=>M (ch k)) i (M (ch i))=fun k=>M (ch k) from j9 (fun k=>M (ch k)) i,<- h.det]
 ·rw[if_neg e,lW (i:=i) (j:=k) hi hk (fun z=>e z.symm) (by rw[hJ (fun z=>e z.symm),fN]),qBy]
theorem Fr.inj (h:Fr m M d R ch s){k i:Nat}(hk:k<m)(hi:i<m)(e:ch k=ch i):k=i:=by
 have a:=h.unit hk hi;rw[<- e,h.unit hk hk,if_pos rfl] at a;have:=h.pos;by_cases z:k=i
 ·exact z
 ·rw[if_neg z] at a;lia
theorem Fr.exact(h:Fr m M d R ch s){i p:Nat}(hi:i<m)(hp:p<m)(ne:i≠p)(j q:Nat):d∣R i j*R p q-R i q*R p j:=by
 have z:=h.JG (B:=up (fun k=>M (ch k)) i (M j)) hp q;rw[sm_two' (k:=p) (l:=i) (fun e=>ne e.symm) hp hi fun k hk n1 n2=>by
  rw[lW (i:=k) (j:=p) hk hp n1 (by rw[hJ n1,fN,hJ n2])];exact qBy _] at z
 rw[show up (up (fun k=>M (ch k)) i (M j)) p (M (ch p))=up (fun k=>M (ch k)) i (M j) by
  have e:=j9 (up (fun k=>M (ch k)) i (M j)) p;rw[hJ (fun e=>ne e.symm)] at e;exact e] at z
 rw[DI (c:=fun k=>M (ch k)) (M j) (M (ch i)) hi hp ne,show up (fun k=>M (ch k)) i (M (ch i))=fun k=>M (ch k) from j9 (fun k=>M (ch k)) i] at z;have a1:=h.gY hi j;have a2:=h.gY hp j;have e:=h.ss;refine⟨s*Wg.det m (up (up (fun k=>M (ch k)) i (M j)) p (M q)),?_⟩;generalize Wg.det m (up (up (fun k=>M (ch k)) i (M j)) p (M q))=E at z|-;generalize Wg.det m (up (fun k=>M (ch k)) i (M j))=X at z a1;generalize Wg.det m (up (fun k=>M (ch k)) p (M j))=Y at z a2;rw[a1,a2];grind
def sgn (x:Int):Int:=if x<0 then -1 else 1
theorem Ap (h:x≠0):0<sgn x*x:=by unfold sgn;split <;> lia
theorem t7 (x:Int):sgn x=1\/sgn x=-1:=by unfold sgn;split <;> lia
def iC (d:Int)(R:Nat->Nat->Int)(p q:Nat):Nat->Nat->Int:=fun k j=>if k=p then sgn (R p q)*R p j else (R k j*(sgn (R p q)*R p q)-R k q*(sgn (R p q)*R p j))/d
def Gu (ch:Nat->Nat)(p q:Nat):Nat->Nat:=fun k=>if k=p then q else ch k
theorem Fr.iC (h:Fr m M d R ch s){p q:Nat}(hp:p<m){k:Nat}(hk:k<m)(ne:k≠p)(j:Nat):d*iC d R p q k j=R k j*(sgn (R p q)*R p q)-R k q*(sgn (R p q)*R p j):=by
 unfold Wg.iC;rw[if_neg ne];refine Int.mul_ediv_cancel' ?_;obtain⟨c,hc⟩:=h.exact hk hp ne j q;exact⟨sgn (R p q)*c,by grind⟩
theorem Fr.next (h:Fr m M d R ch s){p q:Nat}(hp:p<m)(hq:R p q≠0):Fr m M (sgn (R p q)*R p q) (Wg.iC d R p q) (Gu ch p q) (sgn (R p q)*s):=by
 have hd:d≠0:=by have:=h.pos;lia
 refine⟨Ap hq,fun j r=>?_,?_,?_⟩
 ·have e1:=h.eq j r;have e2:=h.eq q r;refine qFj hd ?_;rw[<- bK];have e3:sm m (fun k=>d*(Wg.iC d R p q k j*M (Gu ch p q k) r))=sm m fun k=>(sgn (R p q)*R p q)*(R k j*M (ch k) r)+(-(sgn (R p q)*R p j)*(R k q*M (ch k) r)+if k=p then d*(sgn (R p q)*R p j)*M q r else 0):=by
   refine aY fun k hk=>?_;by_cases e:k=p
   ·subst e;unfold Wg.iC Gu;rw[if_pos rfl,if_pos rfl,if_pos rfl];grind
   ·have z:=h.iC (q:=q) hp hk e j;rw[if_neg e];unfold Gu;rw[if_neg e];generalize Wg.iC d R p q k j=X at z|-;generalize sgn (R p q)=S at z|-;grind
  rw[e3,fG,bK,fG,bK,<- e1,<- e2,gA (k:=p) hp fun i hi ne=>if_neg ne,if_pos rfl];grind
 ·rcases t7 (R p q) with e | e <;> rcases h.sg with e2 | e2 <;> rw[e,e2] <;> decide
 ·rw[show(fun k=>M (Gu ch p q k))=up (fun k=>M (ch k)) p (M q) from funext fun k=>by unfold Gu up;split <;> rfl]
  have z:=h.gY hp q;grind
theorem Fr.uniq (h:Fr m M d R ch s)(h':Fr m M d' R' ch' s')(e:∀k,k<m->ch k=ch' k):d=d'/\∀k,k<m->∀j,R k j=R' k j:=by
 have eb:∀(v:Nat->Int) (i:Nat),Wg.det m (up (fun k=>M (ch k)) i v)=Wg.det m (up (fun k=>M (ch' k)) i v):=fun v i=>t5 fun k hk r _=>by
  unfold up;split
  ·rfl
  ·show M (ch k) r=M (ch' k) r;rw[e k hk]
 have e0:Wg.det m (fun k=>M (ch k))=Wg.det m (fun k=>M (ch' k)):=t5 fun k hk r _=>by rw[e k hk]
 have es:s=s':=by
  have a:=h.det;have b:=h'.det;have:=h.pos;have:=h'.pos;rw[<- e0] at b;rcases h.sg with x | x <;> rcases h'.sg with y | y <;> rw[x] at a <;> rw[y] at b <;> lia
 refine⟨by rw[h.det,h'.det,e0,es],fun k hk j=>?_⟩;rw[h.gY hk,h'.gY hk,eb,es]
theorem Fr.bound (h:Fr m M d R ch s){X:Nat}(hX:∀j r,(M j r).natAbs<=X):d.natAbs<=qO m*X^m/\∀k,k<m->∀j,(R k j).natAbs<=qO m*X^m:=by
 have a:s.natAbs=1:=by rcases h.sg with e | e <;> rw[e] <;> rfl
 refine⟨?_,fun k hk j=>?_⟩
 ·rw[h.det,qDx,a,qJa];exact rV fun k r _ _=>hX _ r
 ·rw[h.gY hk,qDx,a,qJa];refine rV fun i r _ _=>?_;unfold up;split
  ·exact hX _ r
  ·exact hX _ r
end Wg
namespace Wg
def red (m:Nat)(c:Nat->Int)(d:Int)(R:Nat->Nat->Int)(ch:Nat->Nat)(j:Nat):Int:=c j*d-sm m fun k=>c (ch k)*R k j
structure St where
 d:Int
 R:Nat->Nat->Int
 ch:Nat->Nat
 s:Int
variable {m n L:Nat}{M:Nat->Nat->Int}{c:Nat->Int}
def St.ok (m:Nat)(M:Nat->Nat->Int)(S:St):Prop:=Fr m M S.d S.R S.ch S.s
def St.red (m:Nat)(c:Nat->Int)(S:St)(j:Nat):Int:=Wg.red m c S.d S.R S.ch j
def St.next (S:St)(p q:Nat):St:=⟨sgn (S.R p q)*S.R p q,iC S.d S.R p q,Gu S.ch p q,sgn (S.R p q)*S.s⟩
structure Goes (m n L:Nat) (c:Nat->Int) (S:St) (p q:Nat):Prop where
 qn:q<n
 more:0<S.red m c q
 least:∀j,j<q->S.red m c j<=0
 pm:p<m
 pos:0<S.R p q
 ahead:∀k,k<m->0<S.R k q->S.R p L*S.R k q<S.R k L*S.R p q\/(S.R p L*S.R k q=S.R k L*S.R p q/\S.ch p<=S.ch k)
theorem lB (h:0<x):sgn x=1:=by unfold sgn;rw[if_neg (by lia)]
theorem St.Aq {S:St}(h:S.ok m M){p q:Nat}(hp:p<m)(hq:S.R p q≠0):(S.next p q).ok m M:=Fr.next h hp hq
theorem St.JH {S:St}{p q:Nat}(hq:0<S.R p q):(S.next p q).d=S.R p q:=by
 show sgn _*_=_;rw[lB hq,qCk]
theorem St.yX {S:St}{p q:Nat}(hq:0<S.R p q)(j:Nat):(S.next p q).R p j=S.R p j:=by
 show iC _ _ _ _ _ _=_;unfold iC;rw[if_pos rfl,lB hq,qCk]
theorem St.yY {S:St}(h:S.ok m M){p q:Nat}(hp:p<m)(hq:0<S.R p q){k:Nat}(hk:k<m)(ne:k≠p)(j:Nat):S.d*(S.next p q).R k j=S.R k j*S.R p q-S.R k q*S.R p j:=by
 have z:=Fr.iC h (q:=q) hp hk ne j;rw[lB hq,qCk,qCk] at z;exact z
theorem St.gZ {S:St}{p q:Nat}:(S.next p q).ch p=q:=if_pos rfl
theorem St.fO {S:St}{p q k:Nat}(ne:k≠p):(S.next p q).ch k=S.ch k:=if_neg ne
theorem St.DK {S:St}(h:S.ok m M){p q:Nat}(hp:p<m)(hq:0<S.R p q)(c:Nat->Int)(j:Nat):S.d*(sm m fun k=>c ((S.next p q).ch k)*(S.next p q).R k j)=S.R p q*(sm m fun k=>c (S.ch k)*S.R k j)+S.R p j*S.red m c q:=by
 unfold St.red Wg.red;rw[<- bK];have e:sm m (fun k=>S.d*(c ((S.next p q).ch k)*(S.next p q).R k j))=sm m fun k=>S.R p q*(c (S.ch k)*S.R k j)+(-(S.R p j)*(c (S.ch k)*S.R k q)+if k=p then S.d*c q*S.R p j else 0):=by
  refine aY fun k hk=>?_;by_cases e:k=p
  ·subst e;rw[if_pos rfl,St.gZ,St.yX hq];grind
  ·have z:=St.yY h hp hq hk e j;rw[if_neg e,St.fO e];generalize (S.next p q).R k j=X at z|-;grind
 rw[e,fG,bK,fG,bK,gA (k:=p) hp fun i hi ne=>if_neg ne,if_pos rfl];grind
theorem St.BR {S:St}(h:S.ok m M){p q:Nat}(g:Goes m n L c S p q)(hf:∀k,k<m->0<=S.R k L):∀k,k<m->0<=(S.next p q).R k L:=fun k hk=>by
 by_cases e:k=p
 ·subst e;rw[St.yX g.pos];exact hf k hk
 ·have z:=St.yY h g.pm g.pos hk e L;have hd:=Fr.pos h;have h0:0<=S.R k L*S.R p q-S.R k q*S.R p L:=by
   rcases qHj 0 (S.R k q) with y | y
   ·have:=g.ahead k hk y;have e1:S.R p L*S.R k q=S.R k q*S.R p L:=qEa _ _;rcases this with a | ⟨a,_⟩ <;> lia
   ·have a:=qDy (hf k hk) (qCe g.pos);have b:=Int.mul_nonpos_of_nonpos_of_nonneg y (hf p g.pm);lia
  rw[<- z] at h0;exact qKb h0 hd
theorem St.kB {S:St}(h:S.ok m M){k:Nat}(hk:k<m)(c:Nat->Int):S.red m c (S.ch k)=0:=by
 unfold St.red Wg.red;rw[gA hk fun i hi ne=>by rw[Fr.unit h hi hk,if_neg ne,qBy],Fr.unit h hk hk,if_pos rfl];lia
theorem St.JI {S S':St}(h:S.ok m M)(h':S'.ok m M)(c:Nat->Int)(j:Nat):S.d*S'.red m c j-(sm m fun k=>S'.red m c (S.ch k)*S.R k j)=S'.d*S.red m c j:=by
 have key:∀l,l<m->S.d*S'.R l j=sm m fun k=>S.R k j*S'.R l (S.ch k):=fun l hl=>by
  have e:=Fr.JG h (B:=fun k=>M (S'.ch k)) hl j;have z:S.d*S'.R l j=S'.s*(S.d*det m (up (fun k=>M (S'.ch k)) l (M j))):=by
   rw[Fr.gY h' hl];grind
  rw[z,e,<- bK];refine aY fun k hk=>?_;rw[Fr.gY h' hl];grind
 unfold St.red Wg.red;have e1:sm m (fun k=>(c (S.ch k)*S'.d-sm m fun l=>c (S'.ch l)*S'.R l (S.ch k))*S.R k j)=S'.d*(sm m fun k=>c (S.ch k)*S.R k j)-sm m fun l=>c (S'.ch l)*(S.d*S'.R l j):=by
  have e2:sm m (fun l=>c (S'.ch l)*(S.d*S'.R l j))=sm m fun k=>S.R k j*sm m fun l=>c (S'.ch l)*S'.R l (S.ch k):=by
   have e3:sm m (fun l=>c (S'.ch l)*(S.d*S'.R l j))=sm m fun l=>sm m fun k=>S.R k j*(c (S'.ch l)*S'.R l (S.ch k)):=by
    refine aY fun l hl=>?_;rw[key l hl,<- bK];refine aY fun k hk=>?_;grind
   rw[e3,lV];refine aY fun k hk=>?_;rw[bK]
  rw[e2,show ∀a b:Int,a-b=a+(-1)*b from fun a b=>by lia,<- bK,<- bK,<- fG];refine aY fun k hk=>?_;grind
 rw[e1];have e4:sm m (fun l=>c (S'.ch l)*(S.d*S'.R l j))=S.d*sm m fun l=>c (S'.ch l)*S'.R l j:=by
  rw[<- bK];refine aY fun k hk=>?_;grind
 rw[e4];grind
theorem JJ (h:sm n f<0):∃k,k<n/\f k<0:=by
 induction n with
 | zero=>simp[sm] at h
 | succ n ih =>
  have h':sm n f+f n<0:=h;rcases qHj (f n) 0 with z | z
  ·exact⟨n,by lia,z⟩
  ·obtain⟨k,hk,y⟩:=ih (by lia);exact⟨k,by lia,y⟩
structure Run (m n L:Nat) (M:Nat->Nat->Int) (c:Nat->Int) (T:Nat) (st:Nat->St) (p q:Nat->Nat):Prop where
 ok:(st 0).ok m M
 Og:∀k,k<m->0<=(st 0).R k L
 oE:∀i,i<T->Goes m n L c (st i) (p i) (q i)
 next:∀i,i<T->st (i+1)=(st i).next (p i) (q i)
section
variable {T:Nat}{st:Nat->St}{p q:Nat->Nat}
theorem Run.rW (r:Run m n L M c T st p q):∀i,i<=T->(st i).ok m M/\∀k,k<m->0<=(st i).R k L:=by
 intro i;induction i with
 | zero=>exact fun _=>⟨r.ok,r.Og⟩
 | succ i ih =>
  intro h;obtain⟨a,b⟩:=ih (by lia);have g:=r.oE i (by lia);rw[r.next i (by lia)];exact⟨St.Aq a g.pm (by have:=g.pos;lia),St.BR a g b⟩
def St.val (m L:Nat)(c:Nat->Int)(S:St):Int:=sm m fun k=>c (S.ch k)*S.R k L
theorem Run.wI (r:Run m n L M c T st p q){i:Nat}(h:i<T):(st i).d*(st (i+1)).val m L c=(st (i+1)).d*(st i).val m L c+(st i).R (p i) L*(st i).red m c (q i):=by
 have g:=r.oE i h;have z:=St.DK (r.rW i (by lia)).1 g.pm g.pos c L;rw[<- St.JH g.pos,<- r.next i h] at z;exact z
theorem pO {a b e x y z:Int}(hb:0<b)(ha:0<a)(he:0<e)(h1:x*b<=y*a)(h2:y*e<=z*b):x*e<=z*a:=by
 have a1:=qDm h1 (qCe he);have a2:=qDm h2 (qCe ha);have:b*(x*e)<=b*(z*a):=by grind
 exact Int.le_of_mul_le_mul_left this hb
theorem wJ {a b e x y z:Int}(hb:0<b)(ha:0<a)(he:0<e)(h1:x*b<=y*a)(h2:y*e<z*b):x*e<z*a:=by
 have a1:=qDm h1 (qCe he);have a2:=qEk h2 ha;have:b*(x*e)<b*(z*a):=by grind
 exact qLi this (qCe hb)
theorem rX {a b e x y z:Int}(hb:0<b)(ha:0<a)(he:0<e)(h1:x*b<y*a)(h2:y*e<=z*b):x*e<z*a:=by
 have a1:=qEk h1 he;have a2:=qDm h2 (qCe ha);have:b*(x*e)<b*(z*a):=by grind
 exact qLi this (qCe hb)
theorem Run.wK (r:Run m n L M c T st p q){a:Nat}:∀k,a+k<=T->(st a).val m L c*(st (a+k)).d<=(st (a+k)).val m L c*(st a).d:=by
 intro k;induction k with
 | zero=>exact fun _=>qDq _
 | succ k ih =>
  intro h;have h1:=ih (by lia);have z:=r.wI (i:=a+k) (by lia);have pa:=Fr.pos (r.rW a (by lia)).1;have pk:=Fr.pos (r.rW (a+k) (by lia)).1;have pk1:=Fr.pos (r.rW (a+k+1) (by lia)).1;have g:=r.oE (a+k) (by lia);have nn:=qDy ((r.rW (a+k) (by lia)).2 _ g.pm) (qCe g.more);exact pO pk pa pk1 h1 (by grind)
theorem Run.wL (r:Run m n L M c T st p q){a b:Nat}(hab:a<b)(hb:b<=T)(e:∀k,k<m->(st a).ch k=(st b).ch k):∀i,a<=i->i<b->(st i).R (p i) L=0:=fun i h1 h2=>by
 obtain⟨ed,eR⟩:=Fr.uniq (r.rW a (by lia)).1 (r.rW b hb).1 e;have ev:(st a).val m L c=(st b).val m L c:=aY fun k hk=>by rw[e k hk,eR k hk]
 have g:=r.oE i (by lia);have f:=(r.rW i (by lia)).2 _ g.pm;rcases qHj 0 ((st i).R (p i) L) with y | y
 ·exfalso;have z:=r.wI (i:=i) (by lia);have pos:=qGz y g.more;have pa:=Fr.pos (r.rW a (by lia)).1;have pi:=Fr.pos (r.rW i (by lia)).1;have pi1:=Fr.pos (r.rW (i+1) (by lia)).1;have pb:=Fr.pos (r.rW b hb).1;have m1:=r.wK (a:=a) (i-a) (by lia);rw[show a+(i-a)=i by lia] at m1;have m2:=r.wK (a:=i+1) (b-(i+1)) (by lia);rw[show i+1+(b-(i+1))=b by lia] at m2;have s1:(st a).val m L c*(st (i+1)).d<(st (i+1)).val m L c*(st a).d:=wJ pi pa pi1 m1 (by grind);have s2:=rX pi1 pa pb s1 m2;rw[ev,ed] at s2;lia
 ·lia
def St.has (m:Nat)(S:St)(j:Nat):Prop:=∃k,k<m/\S.ch k=j
def St.nil (m L:Nat)(S:St)(j:Nat):Prop:=∀k,k<m->S.ch k=j->S.R k L=0
theorem round {P:Nat->Prop}{a b:Nat}(h:∀i,a<=i->i<b->P i->P (i+1))(e:P b->P a){i j:Nat}(ai:a<=i)(ib:i<=b)(aj:a<=j)(jb:j<=b)(hi:P i):P j:=by
 have up:∀k x,a<=x->x+k<=b->P x->P (x+k):=by
  intro k;induction k with
  | zero=>exact fun _ _ _ h=>h
  | succ k ih=>exact fun x h1 h2 h3=>h (x+k) (by lia) (by lia) (ih x h1 (by lia) h3)
 have hb:=up (b-i) i ai (by lia) hi;rw[show i+(b-i)=b by lia] at hb;have z:=up (j-a) a (qAg _) (by lia) (e hb);rw[show a+(j-a)=j by lia] at z;exact z
theorem t8 {P:Nat->Prop}{a b:Nat}{f:Nat->Nat}(hab:a<b):∃i,a<=i/\i<b/\∀j,a<=j->j<b->f j<=f i:=by
 have up:∀k,∃i,a<=i/\i<a+k+1/\∀j,a<=j->j<a+k+1->f j<=f i:=by
  intro k;induction k with
  | zero=>exact⟨a,qAg _,by lia,fun j h1 h2=>by rw[show j=a by lia];exact qAg _⟩
  | succ k ih =>
   obtain⟨i,h1,h2,h3⟩:=ih;rcases qAm (f i) (f (a+k+1)) with z | z
   ·exact⟨a+k+1,by lia,by lia,fun j j1 j2=>by
     by_cases e:j=a+k+1
     ·rw[e];exact qAg _
     ·have:=h3 j j1 (by lia);lia⟩
   ·exact⟨i,h1,by lia,fun j j1 j2=>by
     by_cases e:j=a+k+1
     ·rw[e];exact z
     ·exact h3 j j1 (by lia)⟩
 have z:=up (b-a-1);rw[show a+(b-a-1)+1=b by lia] at z;exact z
theorem Run.Gv (r:Run m n L M c T st p q){a b:Nat}(hab:a<b)(hb:b<=T)(e:∀k,k<m->(st a).ch k=(st b).ch k):False:=by
 have wL:=r.wL hab hb e;obtain⟨_,eR⟩:=Fr.uniq (r.rW a (by lia)).1 (r.rW b hb).1 e;obtain⟨i1,a1,b1,mx⟩:=t8 (P:=fun _=>True) (f:=q) hab;have hasE:∀j,St.has m (st b) j->St.has m (st a) j:=fun j ⟨k,hk,z⟩=>⟨k,hk,by rw[e k hk];exact z⟩;have hasE':∀j,St.has m (st a) j->St.has m (st b) j:=fun j ⟨k,hk,z⟩=>⟨k,hk,by rw[<- e k hk];exact z⟩;have nilE:∀j,St.nil m L (st b) j->St.nil m L (st a) j:=fun j h k hk z=>by rw[eR k hk];exact h k hk (by rw[<- e k hk];exact z)
 have comes:∀j i i',a<=i->i<=b->a<=i'->i'<=b->¬St.has m (st i) j->St.has m (st i') j->∃x,a<=x/\x<b/\q x=j:=fun j i i' x1 x2 y1 y2 no yes=>by
  refine qBf fun nx=>?_;refine round (P:=fun i=>¬St.has m (st i) j) (fun i u1 u2 h ⟨k,hk,z⟩=>?_) (fun h z=>h (hasE' j z)) x1 x2 y1 y2 no yes;rw[r.next i (by lia)] at z;by_cases ek:k=p i
  ·rw[ek,St.gZ] at z;exact nx ⟨i,u1,u2,z⟩
  ·rw[St.fO ek] at z;exact h ⟨k,hk,z⟩
 have nilR:∀j i i',a<=i->i<=b->a<=i'->i'<=b->St.nil m L (st i) j->St.nil m L (st i') j:=fun j i i' x1 x2 y1 y2 h=>by
  refine round (P:=fun i=>St.nil m L (st i) j) (fun i u1 u2 h k hk z=>?_) (nilE j) x1 x2 y1 y2 h;have g:=r.oE i (by lia);have okI:=(r.rW i (by lia)).1;rw[r.next i (by lia)] at z|-;by_cases ek:k=p i
  ·rw[ek,St.yX g.pos];exact wL i u1 u2
  ·rw[St.fO ek] at z;have w:=St.yY okI g.pm g.pos hk ek L;rw[h k hk z,wL i u1 u2,qBg,qBy] at w;have pd:=Fr.pos okI;have w':(st i).d*((st i).next (p i) (q i)).R k L=0:=by rw[w];rfl
   rcases Int.mul_eq_zero.mp w' with v | v
   ·lia
   ·exact v
 have g1:=r.oE i1 (by lia);have MP:=(r.rW i1 (by lia)).1;have not1:¬St.has m (st i1) (q i1):=fun⟨k,hk,z⟩=>by
  have w:=St.kB MP hk c;rw[z] at w;have:=g1.more;lia
 have yes1:St.has m (st (i1+1)) (q i1):=⟨p i1,g1.pm,by rw[r.next i1 (by lia)];exact St.gZ⟩;have oE:∃i,a<=i/\i<b/\(st i).ch (p i)=q i1:=by
  refine qBf fun nx=>?_;refine not1 (round (P:=fun i=>St.has m (st i) (q i1)) (fun i u1 u2 ⟨k,hk,z⟩=>?_) (hasE _) (i:=i1+1) (j:=i1) (by lia) (by lia) a1 (by lia) yes1);rw[r.next i (by lia)];by_cases ek:k=p i
  ·exact absurd ⟨i,u1,u2,by rw[<- ek];exact z⟩ nx
  ·exact⟨k,hk,by rw[St.fO ek];exact z⟩
 obtain⟨i2,a2,b2,e2⟩:=oE;have g2:=r.oE i2 (by lia);have ok2:=(r.rW i2 (by lia)).1;have not2:q i2≠q i1:=fun z=>by
  have w:=St.kB ok2 g2.pm c;rw[e2,<- z] at w;have:=g2.more;lia
 have lt2:q i2<q i1:=by have:=mx i2 a2 b2;lia
 have key:=St.JI ok2 MP c (q i2);have le:=g1.least _ lt2;have posd:=Fr.pos MP;have posd2:=Fr.pos ok2;have rhs:=qGz posd g2.more;have l0:(st i2).d*(st i1).red m c (q i2)<=0:=by
  have:=qDy (qCe posd2) (show 0<=-((st i1).red m c (q i2)) by lia);rw[qNj] at this;lia
 obtain⟨k,hk,neg⟩:=JJ (n:=m) (f:=fun k=>(st i1).red m c ((st i2).ch k)*(st i2).R k (q i2)) (by lia);have neg:(st i1).red m c ((st i2).ch k)*(st i2).R k (q i2)<0:=neg;have nob:¬St.has m (st i1) ((st i2).ch k):=fun⟨k',hk',z⟩=>by
  have w:=St.kB MP hk' c;rw[z] at w;rw[w,qBg] at neg;lia
 obtain⟨x,x1,x2,ex⟩:=comes _ i1 i2 a1 (by lia) a2 (by lia) nob ⟨k,hk,rfl⟩;have lex:=mx x x1 x2;rw[ex] at lex;by_cases et:(st i2).ch k=q i1
 ·have kp:k=p i2:=Fr.inj ok2 hk g2.pm (by rw[et,e2]);rw[et,kp] at neg;have:=qGz g1.more g2.pos;lia
 ·have lt:(st i2).ch k<q i1:=by lia
  have le2:=g1.least _ lt;have pos:0<(st i2).R k (q i2):=by
   rcases qHj 0 ((st i2).R k (q i2)) with y | y
   ·exact y
   ·have:=qDy (show 0<=-((st i1).red m c ((st i2).ch k)) by lia) (show 0<=-((st i2).R k (q i2)) by lia);rw[qKv] at this;lia
  have z0:(st i2).R k L=0:=nilR _ i1 i2 a1 (by lia) a2 (by lia) (fun k' hk' z=>absurd ⟨k',hk',z⟩ nob) k hk rfl;have z1:=wL i2 a2 b2;rcases g2.ahead k hk pos with y | ⟨_,y⟩
  ·rw[z0,z1,qBg,qBg] at y;lia
  ·rw[e2] at y;lia
end
end Wg
namespace Wg
theorem JK:∀(K T:Nat) (f:Nat->Nat),(∀i,i<=T->f i<K)->(∀i j,i<j->j<=T->f i≠f j)->T<K:=by
 intro K;induction K with
 | zero=>intro T f h _;exact absurd (h 0 (by lia)) (by lia)
 | succ K ih =>
  intro T f h inj;by_cases ex:∃i,i<=T/\f i=K
  ·obtain⟨i0,h0,e0⟩:=ex;cases T with
   | zero=>lia
   | succ T =>
    have z:=ih T (fun i=>if i=i0 then f (T+1) else f i) (fun i hi=>?_) (fun i j ij jT=>?_)
    ·lia
    ·show(if i=i0 then f (T+1) else f i)<K;split
     ·rename_i e;have a:=h (T+1) (by lia);have b:=inj i (T+1) (by lia) (by lia);rw[e,e0] at b;lia
     ·rename_i e;have a:=h i (by lia);have:f i≠K:=fun z=>by
       rcases qAm i i0 with y | y
       ·exact inj i i0 y h0 (by lia)
       ·exact inj i0 i (by lia) (by lia) (by lia)
      lia
    ·show(if i=i0 then f (T+1) else f i)≠(if j=i0 then f (T+1) else f j);split
     ·rw[if_neg (by lia)];exact fun z=>inj j (T+1) (by lia) (by lia) z.symm
     ·split
      ·exact inj i (T+1) (by lia) (by lia)
      ·exact inj i j ij (by lia)
  ·have z:=ih T f (fun i hi=>?_) inj
   ·lia
   ·have a:=h i hi;have:f i≠K:=fun z=>ex ⟨i,hi,z⟩;lia
def code (N:Nat)(ch:Nat->Nat):Nat->Nat
 | 0=>0
 | k+1=>code N ch k*N+ch k
theorem Gw:∀m,(∀k,k<m->ch k<N)->code N ch m<N^m:=by
 intro m;induction m with
 | zero=>exact fun _=>Nat.one_pos
 | succ m ih =>
  intro h;have a:=ih fun k hk=>h k (by lia);have b:=h m (by lia);show code N ch m*N+ch m<N^m*N;have:(code N ch m+1)*N<=N^m*N:=qMs N a;rw[qNg] at this;lia
theorem code_inj:∀m,(∀k,k<m->ch k<N)->(∀k,k<m->ch' k<N)->code N ch m=code N ch' m->∀k,k<m->ch k=ch' k:=by
 intro m;induction m with
 | zero=>intros;lia
 | succ m ih =>
  intro h h' e k hk;have e:code N ch m*N+ch m=code N ch' m*N+ch' m:=e;have a:=h m (by lia);have b:=h' m (by lia);have e1:ch m=ch' m:=by
   have:=congrArg (· % N) e;simp only[Nat.mul_add_mod_self_right,qOi a,qOi b] at this;exact this
  have e2:code N ch m=code N ch' m:=by
   rw[e1] at e;exact Nat.eq_of_mul_eq_mul_right (by lia) (Nat.add_right_cancel e)
  by_cases z:k=m
  ·rw[z,e1]
  ·exact ih (fun k hk=>h k (by lia)) (fun k hk=>h' k (by lia)) e2 k (by lia)
variable {m n L:Nat}{M:Nat->Nat->Int}{c:Nat->Int}{T:Nat}{st:Nat->St}{p q:Nat->Nat}
theorem Run.Qx (r:Run m n L M c T st p q){N:Nat}(hn:n<=N)(h:∀k,k<m->(st 0).ch k<N):∀i,i<=T->∀k,k<m->(st i).ch k<N:=by
 intro i;induction i with
 | zero=>exact fun _=>h
 | succ i ih =>
  intro hi k hk;rw[r.next i (by lia)];have g:=r.oE i (by lia);by_cases e:k=p i
  ·rw[e,St.gZ];have:=g.qn;lia
  ·rw[St.fO e];exact ih (by lia) k hk
theorem Run.ends (r:Run m n L M c T st p q){N:Nat}(hn:n<=N)(h:∀k,k<m->(st 0).ch k<N):T<N^m :=
 JK (N^m) T (fun i=>code N (st i).ch m) (fun i hi=>Gw m (r.Qx hn h i hi)) fun i j ij jT z =>
  r.Gv ij jT (code_inj m (r.Qx hn h i (by lia)) (r.Qx hn h j jT) z)
theorem Run.more (r:Run m n L M c T st p q){p' q':Nat}(g:Goes m n L c (st T) p' q'):∃st' p2 q2,Run m n L M c (T+1) st' p2 q2/\st' 0=st 0/\st' (T+1)=(st T).next p' q':=by
 refine⟨fun i=>if i<=T then st i else (st T).next p' q',fun i=>if i<T then p i else p',fun i=>if i<T then q i else q',⟨?_,?_,fun i hi=>?_,fun i hi=>?_⟩,if_pos (by lia),if_neg (by lia)⟩
 ·rw[if_pos (by lia)];exact r.ok
 ·rw[if_pos (by lia)];exact r.Og
 ·by_cases e:i<T
  ·rw[if_pos (by lia),if_pos e,if_pos e];exact r.oE i e
  ·rw[if_pos (by lia),if_neg e,if_neg e,show i=T by lia];exact g
 ·by_cases e:i<T
  ·rw[if_pos (by lia),if_pos (by lia),if_pos e,if_pos e];exact r.next i e
  ·rw[if_neg (by lia),if_pos (by lia),if_neg e,if_neg e,show i=T by lia]
theorem Run.none (h:S.ok m M)(f:∀k,k<m->0<=S.R k L):Run m n L M c 0 (fun _=>S) (fun _=>0) (fun _=>0) :=
 ⟨h,f,fun i hi=>by lia,fun i hi=>by lia⟩
theorem Run.keeps (r:Run m n L M c T st p q){P:St->Prop}(h0:P (st 0))(h:∀S p q,S.ok m M->(∀k,k<m->0<=S.R k L)->Goes m n L c S p q->P S->P (S.next p q)):P (st T):=by
 have z:∀i,i<=T->P (st i):=by
  intro i;induction i with
  | zero=>exact fun _=>h0
  | succ i ih =>
   intro hi;rw[r.next i (by lia)];exact h _ _ _ (r.rW i (by lia)).1 (r.rW i (by lia)).2 (r.oE i (by lia)) (ih (by lia))
 exact z T (qAg _)
def gD (m n:Nat)(A:Nat->Nat->Int)(due:Nat->Int):Nat->Nat->Int:=fun j r =>
 if r<m then if j<n then sgn (due r)*A j r else if j<n+m then (if j=n+r then 1 else 0) else if j=n+m then sgn (due r)*due r else 0 else 0
variable {A:Nat->Nat->Int}{due:Nat->Int}
theorem nC (hi:i<m):gD m n A due (n+i) r=if r=i then 1 else 0:=by
 unfold gD;by_cases hr:r<m
 ·rw[if_pos hr,if_neg (by lia),if_pos (by lia)];by_cases e:r=i
  ·rw[if_pos e,if_pos (by lia)]
  ·rw[if_neg e,if_neg (by lia)]
 ·rw[if_neg hr,if_neg (by lia)]
theorem Ar (hr:¬r<m):gD m n A due j r=0:=if_neg hr
theorem oO (hr:r<m)(hj:j<n):gD m n A due j r=sgn (due r)*A j r:=by unfold gD;rw[if_pos hr,if_pos hj]
theorem t9 (hr:r<m):gD m n A due (n+m) r=sgn (due r)*due r:=by unfold gD;rw[if_pos hr,if_neg (by lia),if_neg (by lia),if_pos rfl]
theorem yZ (j r:Nat):gD m n A due j r=sm m fun i=>gD m n A due j i*gD m n A due (n+i) r:=by
 by_cases hr:r<m
 ·rw[gA (k:=r) hr fun i hi ne=>by rw[nC hi,if_neg (fun e=>ne e.symm),qBy],nC hr,if_pos rfl,qGj]
 ·rw[Ar hr,cD fun i hi=>by rw[Ar hr,qBy]]
def start (m n:Nat)(A:Nat->Nat->Int)(due:Nat->Int):St:=⟨1,fun k j=>gD m n A due j k,fun k=>n+k,1⟩
theorem DL:(start m n A due).ok m (gD m n A due):=by
 refine⟨by show(0:Int)<1;decide,fun j r=>?_,.inl rfl,?_⟩
 ·show 1*_=_;rw[qCk];exact yZ j r
 ·show 1=1*det m (fun k=>gD m n A due (n+k));rw[qCk,<- Gs m];refine t5 fun k hk r hr=>?_;rw[nC hk];by_cases e:k=r
  ·rw[if_pos e,if_pos e.symm]
  ·rw[if_neg e,if_neg (fun z=>e z.symm)]
theorem JL (x:Int):0<=sgn x*x:=by unfold sgn;split <;> lia
theorem y6:∀k,k<m->0<=(start m n A due).R k (n+m):=fun k hk=>by
 show 0<=gD m n A due (n+m) k;rw[t9 hk];exact JL _
theorem Gx {S:St}(h:S.ok m (gD m n A due)){k:Nat}(hk:k<m)(j:Nat):S.R k j=sm m fun i=>gD m n A due j i*S.R k (n+i):=by
 rw[Fr.gY h hk,show gD m n A due j=fun r=>sm m fun i=>gD m n A due j i*gD m n A due (n+i) r from funext fun r=>yZ j r,t6 hk,<- bK];refine aY fun i hi=>?_;rw[Fr.gY h hk (n+i)];show _=(sm m fun i'=>gD m n A due j i'*gD m n A due (n+i') i)*_;rw[<- yZ j i];grind
def fR (m n:Nat)(c:Nat->Int)(S:St)(i:Nat):Int:=sm m fun k=>c (S.ch k)*S.R k (n+i)
theorem rY (h:S.ok m (gD m n A due))(c:Nat->Int)(j:Nat):(sm m fun i=>gD m n A due j i*fR m n c S i)=c j*S.d-S.red m c j:=by
 have e:(sm m fun i=>gD m n A due j i*fR m n c S i)=sm m fun k=>c (S.ch k)*S.R k j:=by
  have e1:(sm m fun i=>gD m n A due j i*fR m n c S i)=sm m fun i=>sm m fun k=>gD m n A due j i*(c (S.ch k)*S.R k (n+i)):=aY fun i hi=>by
   unfold fR;rw[bK]
  rw[e1,lV];refine aY fun k hk=>?_;rw[Gx h hk j,<- bK];refine aY fun i hi=>?_;grind
 rw[e];unfold St.red red;lia
theorem DM (x:Int):sgn x*sgn x=1:=by rcases t7 x with e | e <;> rw[e] <;> rfl
theorem pP (h:S.ok m (gD m n A due))(c:Nat->Int){j:Nat}(hj:j<n):(sm m fun i=>A j i*(sgn (due i)*fR m n c S i))=c j*S.d-S.red m c j:=by
 rw[<- rY h];refine aY fun i hi=>?_;rw[oO hi hj];grind
theorem rZ (h:S.ok m (gD m n A due))(c:Nat->Int)(c0:c (n+m)=0):(sm m fun i=>due i*(sgn (due i)*fR m n c S i))=sm m fun k=>c (S.ch k)*S.R k (n+m):=by
 have z:=rY h c (n+m);unfold St.red red at z;rw[c0] at z;have e:(sm m fun i=>due i*(sgn (due i)*fR m n c S i))=sm m fun i=>gD m n A due (n+m) i*fR m n c S i:=aY fun i hi=>by
  rw[t9 hi];grind
 rw[e,z];lia
def wt (m:Nat)(f:Nat->Int)(S:St)(j:Nat):Int:=sm m fun k=>if S.ch k=j then f k else 0
theorem uA (f:Nat->Int)(S:St)(g:Nat->Int)(h0:∀k,k<m->n<=S.ch k->g (S.ch k)*f k=0):(sm n fun j=>g j*wt m f S j)=sm m fun k=>g (S.ch k)*f k:=by
 have e1:(sm n fun j=>g j*wt m f S j)=sm n fun j=>sm m fun k=>if S.ch k=j then g j*f k else 0:=aY fun j hj=>by
  unfold wt;rw[<- bK];refine aY fun k hk=>?_;split
  ·rfl
  ·exact qBy _
 rw[e1,lV];refine aY fun k hk=>?_;rcases qAm (S.ch k) n with z | z
 ·rw[gA (k:=S.ch k) z fun i hi ne=>if_neg (fun e=>ne e.symm),if_pos rfl]
 ·rw[cD fun i hi=>if_neg (by lia),h0 k hk z]
theorem Hv (f:Nat->Int){j:Nat}(h:∀k,k<m->S.ch k≠j):wt m f S j=0:=cD fun k hk=>if_neg (h k hk)
theorem pQ (h:∀i,i<n->0<=f i):0<=sm n f:=by
 have z:=wH (n:=n) (f:=fun _=>0) (g:=f) h;rw[cD fun _ _=>rfl] at z;exact z
theorem DN (h:∀k,k<m->0<=f k)(S:St)(j:Nat):0<=wt m f S j:=pQ fun k hk=>by
 split
 ·exact h k hk
 ·exact qDq _
def Clean (m n:Nat)(S:St):Prop:=∀k,k<m->n<=S.ch k->S.R k (n+m)=0/\∀j,j<n->S.R k j=0
theorem meets (h:S.ok m (gD m n A due))(cl:Clean m n S){i:Nat}(hi:i<m):(sm n fun j=>A j i*wt m (fun k=>S.R k (n+m)) S j)=due i*S.d:=by
 rw[uA (fun k=>S.R k (n+m)) S (fun j=>A j i) fun k hk z=>by rw[(cl k hk z).1,qBy]];have e:=Fr.eq h (n+m) i;rw[t9 hi] at e;have e2:sgn (due i)*(sm m fun k=>A (S.ch k) i*S.R k (n+m))=S.d*(sgn (due i)*due i):=by
  rw[e,<- bK];refine aY fun k hk=>?_;rcases qAm (S.ch k) n with z | z
  ·rw[oO hi z];grind
  ·rw[(cl k hk z).1];grind
 have sq:=DM (due i);generalize (sm m fun k=>A (S.ch k) i*S.R k (n+m))=X at e2|-;generalize sgn (due i)=s at e2 sq;have:s*(s*X)=s*(S.d*(s*due i)):=by rw[e2]
 grind
theorem away (h:S.ok m (gD m n A due))(cl:Clean m n S){q:Nat}(hq:q<n){i:Nat}(hi:i<m):A q i*S.d+(sm n fun j=>A j i*wt m (fun k=>- S.R k q) S j)=0:=by
 rw[uA (fun k=>- S.R k q) S (fun j=>A j i) fun k hk z=>by rw[(cl k hk z).2 q hq];grind];have e:=Fr.eq h q i;rw[oO hi hq] at e;have e2:sgn (due i)*(sm m fun k=>A (S.ch k) i * - S.R k q)=- (S.d*(sgn (due i)*A q i)):=by
  rw[e,<- bK,show ∀a:Int,- a=(-1)*a from fun a=>by lia,<- bK];refine aY fun k hk=>?_;rcases qAm (S.ch k) n with z | z
  ·rw[oO hi z];grind
  ·rw[(cl k hk z).2 q hq];grind
 have sq:=DM (due i);generalize (sm m fun k=>A (S.ch k) i * - S.R k q)=X at e2|-;generalize sgn (due i)=s at e2 sq;have:s*(s*X)=s*(- (S.d*(s*A q i))):=by rw[e2]
 grind
theorem y8 (h:S.ok m M){p q:Nat}(hp:p<m)(hq:q<n)(nz:S.R p q≠0)(cl:Clean m n S):Clean m n (S.next p q):=fun k hk z=>by
 have ne:k≠p:=fun e=>by rw[e,St.gZ] at z;lia
 rw[St.fO ne] at z;obtain⟨a,b⟩:=cl k hk z;have key:∀j,S.R k j=0->(S.next p q).R k j=0:=fun j e=>by
  have w:=Fr.iC h (q:=q) hp hk ne j;rw[e,b q hq,qBg,qBg] at w;have pd:=Fr.pos h;have w':S.d*(S.next p q).R k j=0:=w;rcases Int.mul_eq_zero.mp w' with v | v
  ·lia
  ·exact v
 exact⟨key _ a,fun j hj=>key j (b j hj)⟩
theorem BS {S:St}(h:S.ok m M){p q:Nat}(hp:p<m)(nz:S.R p q≠0)(z:S.R p L=0)(f:∀k,k<m->0<=S.R k L):(∀k,k<m->0<=(S.next p q).R k L)/\∀k,k<m->S.R k L=0->(S.next p q).R k L=0:=by
 have pd:=Fr.pos h;have key:∀k,k<m->k≠p->S.d*(S.next p q).R k L=S.R k L*(sgn (S.R p q)*S.R p q):=fun k hk ne=>by
  have w:=Fr.iC h (q:=q) hp hk ne L;rw[z,qBy,qBy,qPr] at w;exact w
 have at_p:(S.next p q).R p L=0:=by
  show iC _ _ _ _ _ _=_;unfold iC;rw[if_pos rfl,z,qBy]
 refine⟨fun k hk=>?_,fun k hk e=>?_⟩
 ·by_cases e:k=p
  ·rw[e,at_p];exact qDq _
  ·have w:=key k hk e;have:0<=S.d*(S.next p q).R k L:=by rw[w];exact qDy (f k hk) (qCe (Ap nz))
   exact qKb this pd
 ·by_cases ek:k=p
  ·rw[ek,at_p]
  ·have w:=key k hk ek;rw[e,qBg] at w;rcases Int.mul_eq_zero.mp w with v | v
   ·lia
   ·exact v
theorem DO {S:St}(h:S.ok m M){p q:Nat}(hp:p<m)(hq:q<n)(nz:S.R p q≠0){k:Nat}(hk:k<m)(ne:k≠p)(r0:∀j,j<n->S.R k j=0):∀j,j<n->(S.next p q).R k j=0:=fun j hj=>by
 have w:=Fr.iC h (q:=q) hp hk ne j;rw[r0 j hj,r0 q hq,qBg,qBg] at w;have pd:=Fr.pos h;have w':S.d*(S.next p q).R k j=0:=w;rcases Int.mul_eq_zero.mp w' with v | v
 ·lia
 ·exact v
def lv (m n:Nat)(j:Nat):Int:=if n<=j/\j<n+m then -1 else 0
theorem uB {S:St}(h:S.ok m M){q:Nat}(hq:q<n)(g:0<S.red m (lv m n) q)(le:∀k,k<m->S.R k q<=0):False:=by
 unfold St.red red at g;rw[show lv m n q=0 from if_neg (by lia),qBg] at g;have z:0<=sm m fun k=>lv m n (S.ch k)*S.R k q:=pQ fun k hk=>by
  have:=le k hk;unfold lv;split <;> lia
 lia
theorem BU (h:S.ok m (gD m n A due))(f:∀k,k<m->0<=S.R k (n+m))(le:∀j,j<n->S.red m (lv m n) j<=0)(ch:∀k,k<m->S.ch k<n+m){k:Nat}(hk:k<m)(sp:n<=S.ch k)(nz:S.R k (n+m)≠0):
  (∀j,j<n->0<=sm m fun i=>A j i*(sgn (due i)*fR m n (lv m n) S i))/\(sm m fun i=>due i*(sgn (due i)*fR m n (lv m n) S i))<0:=by
 refine⟨fun j hj=>?_,?_⟩
 ·rw[pP h _ hj,show lv m n j=0 from if_neg (by lia)];have:=le j hj;lia
 ·rw[rZ h _ (if_neg (by lia))];have z:sm m (fun k=>lv m n (S.ch k)*S.R k (n+m))<=sm m fun i=>if i=k then -1 else 0:=wH fun i hi=>by
   have a:=f i hi;by_cases e:i=k
   ·rw[if_pos e,e];rw[e] at a;rw[show lv m n (S.ch k)=-1 from if_pos ⟨sp,ch k hk⟩];lia
   ·rw[if_neg e];unfold lv;split <;> lia
  rw[gA hk (fun i hi ne=>if_neg ne),if_pos rfl] at z;lia
theorem BV (h:S.ok m (gD m n A due))(cl:Clean m n S)(le:∀j,j<n->S.red m g j<=0)(g0:∀j,n<=j->g j=0):
  (∀j,j<n->g j*S.d<=sm m fun i=>A j i*(sgn (due i)*fR m n g S i))/\(sm m fun i=>due i*(sgn (due i)*fR m n g S i))=sm n fun j=>g j*wt m (fun k=>S.R k (n+m)) S j:=by
 refine⟨fun j hj=>?_,?_⟩
 ·rw[pP h _ hj];have:=le j hj;lia
 ·rw[rZ h _ (g0 _ (by lia)),uA (fun k=>S.R k (n+m)) S g fun k hk z=>by rw[g0 _ z,qBg]]
def way (m q:Nat)(S:St)(j:Nat):Int:=if j=q then S.d else wt m (fun k=>- S.R k q) S j
theorem As {S:St}{q:Nat}(hq:q<n)(no:∀k,k<m->S.ch k≠q)(a:Nat->Int):(sm n fun j=>a j*way m q S j)=a q*S.d+sm n fun j=>a j*wt m (fun k=>- S.R k q) S j:=by
 have e:(sm n fun j=>a j*way m q S j)=sm n fun j=>(if j=q then a q*S.d else 0)+a j*wt m (fun k=>- S.R k q) S j:=aY fun j hj=>by
  unfold way;by_cases e:j=q
  ·rw[if_pos e,if_pos e,e,Hv _ no];lia
  ·rw[if_neg e,if_neg e,qDt]
 rw[e,fG,gA hq fun i hi ne=>if_neg ne,if_pos rfl]
theorem DQ {S:St}{g:Nat->Int}(h:S.ok m M){q:Nat}(gr:0<S.red m g q):∀k,k<m->S.ch k≠q:=fun k hk e=>by
 have z:=St.kB h hk g;rw[e] at z;lia
theorem uD {S:St}{g:Nat->Int}(h:S.ok m (gD m n A due))(cl:Clean m n S)(g0:∀j,n<=j->g j=0){q:Nat}(hq:q<n)(gr:0<S.red m g q)(le:∀k,k<m->S.R k q<=0):
  (∀j,0<=way m q S j)/\(∀i,i<m->(sm n fun j=>A j i*way m q S j)=0)/\0<sm n fun j=>g j*way m q S j:=by
 have no:=DQ h gr;refine⟨fun j=>?_,fun i hi=>?_,?_⟩
 ·unfold way;split
  ·exact qCe (Fr.pos h)
  ·exact DN (fun k hk=>by have:=le k hk;lia) S j
 ·rw[As hq no (fun j=>A j i)];exact away h cl hq hi
 ·rw[As hq no g,uA (fun k=>- S.R k q) S g fun k hk z=>by rw[g0 _ z,qBg]];unfold St.red red at gr;have e:(sm m fun k=>g (S.ch k) * - S.R k q)=-(sm m fun k=>g (S.ch k)*S.R k q):=by
   rw[show ∀a:Int,- a=(-1)*a from fun a=>by lia,<- bK];refine aY fun k hk=>?_;grind
  rw[e];lia
end Wg
namespace Wg
def Ah (L q:Nat)(S:St)(a b:Nat):Prop:=S.R a L*S.R b q<S.R b L*S.R a q\/(S.R a L*S.R b q=S.R b L*S.R a q/\S.ch a<=S.ch b)
theorem Ah.refl (a:Nat):Ah L q S a a:=.inr ⟨rfl,qAg _⟩
theorem Ah.le (h:Ah L q S a b):S.R a L*S.R b q<=S.R b L*S.R a q:=by
 rcases h with h | ⟨h,_⟩ <;> lia
theorem Ah.trans (ha:0<S.R a q)(hb:0<S.R b q)(hc:0<S.R c q)(h1:Ah L q S a b)(h2:Ah L q S b c):Ah L q S a c:=by
 rcases h1 with h1 | ⟨h1,e1⟩
 ·exact .inl (rX hb ha hc h1 h2.le)
 ·rcases h2 with h2 | ⟨h2,e2⟩
  ·exact .inl (wJ hb ha hc (qHk h1) h2)
  ·have z1:=pO hb ha hc (qHk h1) (qHk h2);have z2:=pO hb hc ha (qHk h2.symm) (qHk h1.symm);exact .inr ⟨Int.le_antisymm z1 z2,qDa e1 e2⟩
theorem Ah.JM (h:¬(S.R b L*S.R a q<S.R a L*S.R b q\/(S.R b L*S.R a q=S.R a L*S.R b q/\S.ch b<S.ch a))):Ah L q S a b:=by
 rcases qOd (S.R a L*S.R b q) (S.R b L*S.R a q) with z | z | z
 ·exact .inl z
 ·refine .inr ⟨z,?_⟩;rcases qAm (S.ch b) (S.ch a) with y | y
  ·exact absurd (.inr ⟨z.symm,y⟩) h
  ·exact y
 ·exact absurd (.inl z) h
theorem Ah.of (h:S.R a L*S.R b q<S.R b L*S.R a q\/(S.R a L*S.R b q=S.R b L*S.R a q/\S.ch a<S.ch b)):Ah L q S a b:=by
 rcases h with h | ⟨h,e⟩
 ·exact .inl h
 ·exact .inr ⟨h,qAk e⟩
end Wg
namespace Cm
open Wg
theorem snocInd {α:Type}{motive:List α->Prop}(nil:motive [])(append_singleton:∀xs x,motive xs->motive (xs++[x]))(xs:List α):motive xs:=by
 have h:∀n (xs:List α),xs.length=n->motive xs:=by
  intro n;induction n with
  | zero=>intro xs hl;rw[List.length_eq_zero_iff.mp hl];exact nil
  | succ n ih =>
   intro xs hl;have hne:xs≠[]:=fun e=>by rw[e] at hl;cases hl
   rw[<- qGs hne];exact append_singleton _ _ (ih _ (by rw[List.length_dropLast,hl];rfl))
 exact h _ xs rfl
theorem sub_len:∀{l l':List Nat},l.Nodup->(∀x,x∈l->x∈l')->l.length<=l'.length
 | [],_,_,_=>qBr _
 | x::l,l',hn,h=>by
  obtain⟨n1,n2⟩:=List.nodup_cons.mp hn;have hx:=h x (.head _);have z:=sub_len (l:=l) (l':=l'.erase x) n2 fun y hy=>(qMm (fun e=>by subst e;exact n1 hy)).mpr (h y (.tail _ hy));rw[qLe hx] at z;have:=qGf hx;rw[qCn];lia
def iP:Nat->(Nat->Int)->Nat
 | 0,_=>0
 | m+1,f=>if iP m f<m then iP m f else if f m≠0 then m else m+1
theorem iM:∀{m:Nat}{f:Nat->Int}{i:Nat},i<iP m f->i<m->f i=0
 | 0,f,i,_,h=>absurd h (qFy _)
 | m+1,f,i,h,hm=>by
  unfold iP at h;split at h
  ·exact iM h (by lia)
  ·rename_i h1;split at h
   ·rename_i h2;exact iM (m:=m) (by lia) (by lia)
   ·rename_i h2;rcases qAm i m with z | z
    ·exact iM (m:=m) (by lia) z
    ·have e:i=m:=by lia
     subst e;exact Classical.not_not.mp h2
theorem nE:∀{m:Nat}{f:Nat->Int},iP m f<m->f (iP m f)≠0
 | 0,f,h=>absurd h (qFy _)
 | m+1,f,h=>by
  unfold iP at h|-;split
  ·rename_i h1;exact nE h1
  ·rename_i h1;rw[if_neg h1] at h;split
   ·assumption
   ·rename_i h2;rw[if_neg h2] at h;lia
def jS (m:Nat)(l f:Nat->Int):Nat->Int:=fun i=>f i*l (iP m l)-l i*f (iP m l)
def dD (m:Nat)(rows:List (Nat->Int))(f:Nat->Int):Nat->Int:=rows.foldl (fun f l=>jS m l f) f
theorem cU (m:Nat)(rows:List (Nat->Int))(l f:Nat->Int):dD m (rows++[l]) f=jS m l (dD m rows f):=by
 unfold dD;rw[qHp];rfl
def iD (m:Nat)(vs:List (Nat->Int)):List (Nat->Int):=vs.foldl (fun acc v=>acc++[dD m acc v]) []
theorem dZ (m:Nat)(vs:List (Nat->Int))(v:Nat->Int):iD m (vs++[v])=iD m vs++[dD m (iD m vs) v]:=by
 unfold iD;rw[qHp];rfl
theorem lX (m:Nat)(vs:List (Nat->Int)):(iD m vs).length=vs.length:=by
 induction vs using snocInd with
 | nil=>rfl
 | append_singleton vs v ih=>rw[dZ,qAp,qAp,ih];rfl
theorem BW (m:Nat)(l f g:Nat->Int)(a b:Int):jS m l (fun i=>a*f i+b*g i)=fun i=>a*jS m l f i+b*jS m l g i:=by
 funext i;unfold jS;grind
theorem jU (m:Nat)(rows:List (Nat->Int))(f g:Nat->Int)(a b:Int):dD m rows (fun i=>a*f i+b*g i)=fun i=>a*dD m rows f i+b*dD m rows g i:=by
 induction rows using snocInd with
 | nil=>rfl
 | append_singleton rows l ih=>rw[cU,cU,cU,ih,BW]
def iN (m:Nat)(vs:List (Nat->Int)):Prop:=∀r,r∈iD m vs->iP m r<m
theorem iN.kC (h:iN m (vs++[v])):iN m vs/\iP m (dD m (iD m vs) v)<m:=by
 unfold iN at h|-;rw[dZ] at h;exact⟨fun r hr=>h r (qCc _ hr),h _ (qAv _ (List.mem_singleton.mpr rfl))⟩
theorem iN.snoc (h:iN m vs)(h1:iP m (dD m (iD m vs) v)<m):iN m (vs++[v]):=by
 unfold iN at h|-;rw[dZ];intro r hr;rcases List.mem_append.mp hr with hr | hr
 ·exact h r hr
 ·rw[List.mem_singleton.mp hr];exact h1
theorem Au {m:Nat}{vs:List (Nat->Int)}(h:iN m vs):∀(f:Nat->Int) (r:Nat->Int),r∈iD m vs->dD m (iD m vs) f (iP m r)=0:=by
 induction vs using snocInd with
 | nil=>intro f r hr;cases hr
 | append_singleton vs v ih =>
  intro f r hr;obtain⟨h1,h2⟩:=h.kC;rw[dZ] at hr|-;rw[cU];rcases List.mem_append.mp hr with hr | hr
  ·have e1:=ih h1 f r hr;have e2:=ih h1 v r hr;show _*_-_*_=(0:Int);rw[e1,e2,qBg,qBg];rfl
  ·rw[List.mem_singleton.mp hr];show _*_-_*_=(0:Int);rw[qEa];lia
theorem wM {m:Nat}{vs:List (Nat->Int)}(h:iN m vs):∀v,v∈vs->∀i,dD m (iD m vs) v i=0:=by
 induction vs using snocInd with
 | nil=>intro v hv;cases hv
 | append_singleton vs u ih =>
  intro v hv i;obtain⟨h1,h2⟩:=h.kC;rw[dZ,cU];rcases List.mem_append.mp hv with hv | hv
  ·have e:=ih h1 v hv;show _*_-_*_=(0:Int);rw[e,e,qBg,qBy];rfl
  ·rw[List.mem_singleton.mp hv];show _*_-_*_=(0:Int);lia
def dot (m:Nat)(y f:Nat->Int):Int:=sm m fun i=>y i*f i
theorem DR (m:Nat)(y l f:Nat->Int):dot m y (jS m l f)=l (iP m l)*dot m y f-f (iP m l)*dot m y l:=by
 unfold dot jS;have e:(fun i=>y i*(f i*l (iP m l)-l i*f (iP m l)))=fun i=>l (iP m l)*(y i*f i)+(-(f (iP m l)))*(y i*l i):=by
  funext i;grind
 rw[e,fG,bK,bK];grind
theorem Gy {m:Nat}{vs:List (Nat->Int)}(h:iN m vs){y:Nat->Int}(hy:∀v,v∈vs->dot m y v=0):(∀r,r∈iD m vs->dot m y r=0)/\∀f,∃c:Int,c≠0/\dot m y (dD m (iD m vs) f)=c*dot m y f:=by
 induction vs using snocInd with
 | nil=>exact⟨fun r hr=>(by cases hr),fun f=>⟨1,by decide,(qCk _).symm⟩⟩
 | append_singleton vs v ih =>
  obtain⟨h1,h2⟩:=h.kC;obtain⟨i1,i2⟩:=ih h1 fun u hu=>hy u (qCc _ hu);have hr:dot m y (dD m (iD m vs) v)=0:=by
   obtain⟨c,_,e⟩:=i2 v;rw[e,hy v (qAv _ (List.mem_singleton.mpr rfl)),qBy]
  rw[dZ];refine⟨fun r hr'=>?_,fun f=>?_⟩
  ·rcases List.mem_append.mp hr' with hr' | hr'
   ·exact i1 r hr'
   ·rw[List.mem_singleton.mp hr'];exact hr
  ·obtain⟨c,hc,e⟩:=i2 f;refine⟨dD m (iD m vs) v (iP m (dD m (iD m vs) v))*c,qKw (nE h2) hc,?_⟩;rw[cU,DR,hr,e,qBy,qPr,qLt]
def Told (m:Nat)(vs:List (Nat->Int))(f:Nat->Int):Prop:=∀i,i<m->dD m (iD m vs) f i=0
theorem Told.dot (h:iN m vs)(t:Told m vs f)(hy:∀v,v∈vs->dot m y v=0):dot m y f=0:=by
 obtain⟨_,i2⟩:=Gy h hy;obtain⟨c,hc,e⟩:=i2 f;have z:Cm.dot m y (dD m (iD m vs) f)=0:=cD fun i hi=>by rw[t i hi,qBy]
 rw[z] at e;rcases Int.mul_eq_zero.mp e.symm with z | z
 ·exact absurd z hc
 ·exact z
theorem Told.RK (a b:Int)(t:Told m vs f)(u:Told m vs g):Told m vs fun i=>a*f i+b*g i:=fun i hi=>by
 rw[jU];show a*_+b*_=(0:Int);rw[t i hi,u i hi,qBy,qBy];rfl
theorem Told.self (h:iN m vs){v:Nat->Int}(hv:v∈vs):Told m vs v:=fun i _=>wM h v hv i
theorem Told.snoc (t:Told m vs f):Told m (vs++[v]) f:=fun i hi=>by
 rw[dZ,cU];show _*_-_*_=(0:Int);rw[t i hi];rcases qAm (iP m (dD m (iD m vs) v)) m with z | z
 ·rw[t _ z];grind
 ·have e:dD m (iD m vs) v i=0:=iM (by lia) hi;rw[e];grind
theorem r6 (h:¬Told m vs f):iP m (dD m (iD m vs) f)<m:=by
 rcases qAm (iP m (dD m (iD m vs) f)) m with z | z
 ·exact z
 ·exact absurd (fun i hi=>iM (by lia) hi) h
theorem pR:∀(m:Nat) (l:List Nat),l.Nodup->(∀x,x∈l->x<m)->l.length<=m
 | 0,[],_,_=>qAg _
 | 0,x::l,_,h=>absurd (h x (.head _)) (qFy _)
 | m+1,l,hn,h=>by
  have h1:=pR m (l.erase m) (hn.erase m) fun x hx=>by
   have hx':=(List.Nodup.mem_erase_iff hn).mp hx;have:=h x hx'.2;have:=hx'.1;lia
  rw[List.length_erase] at h1;split at h1 <;> lia
theorem r8 {m:Nat}{vs:List (Nat->Int)}(h:iN m vs):((iD m vs).map (iP m)).Nodup:=by
 induction vs using snocInd with
 | nil=>exact qIw
 | append_singleton vs v ih =>
  obtain⟨h1,h2⟩:=h.kC;rw[dZ,qAu];refine List.nodup_append.mpr ⟨ih h1,by simp,fun a ha b hb e=>?_⟩;obtain⟨r,hr,rfl⟩:=List.mem_map.mp ha;have hb':b=iP m (dD m (iD m vs) v):=by simpa using hb
  have z:=Au h1 v r hr;rw[e,hb'] at z;exact nE h2 z
theorem iN.len (h:iN m vs):vs.length<=m:=by
 have z:=pR m _ (r8 h) fun x hx=>by
  obtain⟨r,hr,rfl⟩:=List.mem_map.mp hx;exact h r hr
 rw[qAc,lX] at z;exact z
theorem full:∀(m:Nat) (l:List Nat),l.Nodup->(∀x,x∈l->x<m)->l.length=m->∀i,i<m->i∈l:=by
 intro m l hn h hl i hi;refine qBf fun hc=>?_;have z:=pR m (i::l) (List.nodup_cons.mpr ⟨hc,hn⟩) fun x hx=>by
  rcases List.mem_cons.mp hx with e | e
  ·rw[e];exact hi
  ·exact h x e
 rw[qCn] at z;lia
theorem BX (h:iN m vs)(hl:vs.length=m)(f:Nat->Int):Told m vs f:=fun i hi=>by
 have z:=full m _ (r8 h) (fun x hx=>by
  obtain⟨r,hr,rfl⟩:=List.mem_map.mp hx;exact h r hr) (by rw[qAc,lX,hl]) i hi
 obtain⟨r,hr,rfl⟩:=List.mem_map.mp z;exact Au h f r hr
def e1 (p:Nat):Nat->Int:=fun i=>if i=p then 1 else 0
theorem JN {m p:Nat}:∀(rows:List (Nat->Int)),(∀r,r∈rows->iP m r<m/\iP m r≠p)->∃c:Int,c≠0/\dD m rows (e1 p)=fun i=>c*e1 p i:=by
 intro rows;induction rows using snocInd with
 | nil=>intro _;exact⟨1,by decide,funext fun i=>(qCk _).symm⟩
 | append_singleton rows l ih =>
  intro h;obtain⟨c,hc,e⟩:=ih fun r hr=>h r (qCc _ hr);obtain⟨h1,h2⟩:=h l (qAv _ (List.mem_singleton.mpr rfl));refine⟨c*l (iP m l),qKw hc (nE h1),?_⟩;rw[cU,e];funext i;unfold jS;have z:e1 p (iP m l)=0:=if_neg h2;dsimp only;rw[z];grind
theorem BY (h:iN m vs)(t:∀p,p<m->Told m vs (e1 p)):vs.length=m:=by
 have hle:=h.len;rcases qAm vs.length m with z | z
 ·exfalso;have hex:∃p,p<m/\p∉(iD m vs).map (iP m):=qBf fun hc=>by
   have hall:∀p,p<m->p∈(iD m vs).map (iP m):=fun p hp=>qBf fun hn=>hc ⟨p,hp,hn⟩;have hs:(qAn m).length<=((iD m vs).map (iP m)).length:=by
    exact sub_len List.nodup_range fun x hx=>hall x (List.mem_range.mp hx)
   rw[qAs,qAc,lX] at hs;lia
  obtain⟨p,hp,hn⟩:=hex;obtain⟨c,hc,e⟩:=JN (m:=m) (p:=p) (iD m vs) fun r hr=>⟨h r hr,fun e=>hn (List.mem_map.mpr ⟨r,hr,e⟩)⟩;have z1:=t p hp p hp;rw[e] at z1;have z2:e1 p p=1:=if_pos rfl;dsimp only at z1;rw[z2] at z1;lia
 ·lia
def comb:List (Int×(Nat->Int))->Nat->Int
 | [],_=>0
 | (a,v)::r,i=>a*v i+comb r i
theorem nF (l:List (Int×(Nat->Int)))(a:Int)(v:Nat->Int)(i:Nat):comb (l++[(a,v)]) i=comb l i+a*v i:=by
 induction l with
 | nil=>show a*v i+0=0+a*v i;lia
 | cons p l ih =>
  obtain⟨b,u⟩:=p;show b*u i+comb (l++[(a,v)]) i=(b*u i+comb l i)+a*v i;rw[ih];lia
theorem wN:∀(l:List (Int×(Nat->Int))),(∀p,p∈l->∀i,i<m->dD m rows p.2 i=0)->∀i,i<m->dD m rows (comb l) i=0
 | [],_,i,hi=>by
  have e:(comb []:Nat->Int)=fun i=>0*(0:Int)+0*(0:Int):=rfl;rw[e,jU m rows (fun _=>0) (fun _=>0) 0 0];show 0*_+0*_=(0:Int);lia
 | (a,v)::r,h,i,hi=>by
  have e:comb ((a,v)::r)=fun i=>a*v i+1*comb r i:=by
   funext i;show a*v i+comb r i=_;lia
  rw[e,jU];show a*_+1*_=(0:Int);rw[h _ (.head _) i hi,wN r (fun p hp=>h p (.tail _ hp)) i hi];lia
theorem uE {m:Nat}{rows:List (Nat->Int)}(hr:∀r,r∈rows->iP m r<m){f g:Nat->Int}(h:∀i,i<m->f i=g i):∀i,i<m->dD m rows f i=dD m rows g i:=by
 induction rows using snocInd with
 | nil=>exact h
 | append_singleton rows l ih =>
  intro i hi;have z:=ih fun r hr'=>hr r (qCc _ hr');rw[cU,cU];unfold jS;rw[z i hi,z _ (hr l (qAv _ (List.mem_singleton.mpr rfl)))]
theorem iN.alone {m:Nat}{vs:List (Nat->Int)}(h:iN m vs):∀(as:List Int),as.length=vs.length->(∀i,i<m->comb (as.zip vs) i=0)->∀a,a∈as->a=0:=by
 induction vs using snocInd with
 | nil =>
  intro as hl _ a ha;rw[List.length_eq_zero_iff.mp hl] at ha;cases ha
 | append_singleton vs v ih =>
  intro as hl h0 a ha;obtain⟨h1,h2⟩:=h.kC;have hne:as≠[]:=fun e=>by rw[e] at hl;simp at hl
  obtain⟨bs,b,rfl⟩:∃bs b,as=bs++[b]:=⟨as.dropLast,as.getLast hne,(qGs hne).symm⟩;have hbl:bs.length=vs.length:=by simpa using hl
  have ez:(bs++[b]).zip (vs++[v])=bs.zip vs++[(b,v)]:=by rw[qKp hbl];rfl
  rw[ez] at h0;have hc:∀i,i<m->dD m (iD m vs) (comb (bs.zip vs)) i=0:=wN _ fun p hp i _=>wM h1 p.2 (qFu (a:=p.1) (b:=p.2) hp).2 i;have hb:b=0:=by
   refine qBf fun hb=>?_;have p1:=uE (m:=m) (rows:=iD m vs) h1 (f:=fun i=>1*comb (bs.zip vs) i+b*v i) (g:=fun _=>0*0+0*0) (fun i hi=>by
    have:=h0 i hi;rw[nF] at this;show 1*_+_=(0*0+0*0:Int);lia)
   have p2:=p1 _ h2;rw[jU,jU m _ (fun _=>0) (fun _=>0) 0 0] at p2;dsimp only at p2;rw[hc _ h2] at p2;have p3:b*dD m (iD m vs) v (iP m (dD m (iD m vs) v))=0:=by lia
   rcases Int.mul_eq_zero.mp p3 with z | z
   ·exact hb z
   ·exact nE h2 z
  rcases List.mem_append.mp ha with ha | ha
  ·refine ih h1 bs hbl (fun i hi=>?_) a ha;have:=h0 i hi;rw[nF,hb] at this;lia
  ·rw[List.mem_singleton.mp ha];exact hb
end Cm
namespace Cm
def pt (m:Nat)(e:Nat->Nat->Int)(y:Nat->Int)(g:Nat):Int:=Wg.sm m fun i=>e g i*y i
def Tl (m:Nat)(e:Nat->Nat->Int)(ks:List Nat)(g:Nat):Prop:=∀y:Nat->Int,(∀k,k∈ks->pt m e y k=0)->pt m e y g=0
def Qy (m:Nat)(e:Nat->Nat->Int)(N:Nat)(P:Nat->Prop)(ks:List Nat)(lk:Nat->Int):Prop :=
 ∀S:Nat->Prop,(∀g h,P g->Tl m e ks g->P h->Tl m e ks h->S g->lk g<=lk h->S h)->∀y:Nat->Int,pt m e y N<=0->(∀g,P g->Tl m e ks g->S g->0<=pt m e y g)->∀g,P g->Tl m e ks g->S g->pt m e y N=0/\pt m e y g=0
theorem Tl.more (h:∀k,k∈ks->k∈ks'){g:Nat}(t:Tl m e ks g):Tl m e ks' g:=fun y hy=>t y fun k hk=>hy k (h k hk)
theorem Tl.self (h:g∈ks):Tl m e ks g:=fun _ hy=>hy g h
theorem y9 (h:∀j,j<n->0<=f j)(z:Wg.sm n f<=0):∀j,j<n->f j=0:=by
 induction n with
 | zero=>intro j hj;lia
 | succ n ih =>
  intro j hj;have z:Wg.sm n f+f n<=0:=z;have a:0<=Wg.sm n f:=Wg.pQ fun i hi=>h i (by lia);have b:=h n (by lia);rcases qAm j n with q | q
  ·exact ih (fun i hi=>h i (by lia)) (by lia) j q
  ·obtain rfl:j=n:=by lia
   lia
structure Cert (m:Nat) (e:Nat->Nat->Int) (fr ks:List Nat) (lk:Nat->Int) (dw ev:Int) (lam mu:Nat->Int):Prop where
 Av:0<dw
 l0:∀c,0<=lam c
 sum:Wg.sm fr.length lam=dw
 away:∀y:Nat->Int,(Wg.sm fr.length fun c=>lam c*pt m e y (fr.getD c 0))+(Wg.sm ks.length fun j=>mu j*pt m e y (ks.getD j 0))=0
 hold:∀c,c<fr.length->lam c≠0->lk (fr.getD c 0)=ev
 low:∀g,g∈fr->lk g<=ev
theorem mem_getD {l:List Nat}{c:Nat}(h:c<l.length):l.getD c 0∈l:=by
 rw[qAq,qAd h];exact qEi h
theorem Cert.some (h:Cert m e fr ks lk dw ev lam mu):∃c,c<fr.length/\lam c≠0:=by
 refine qBf fun no=>?_;have z:Wg.sm fr.length lam=0:=Wg.cD fun c hc=>qBf fun ne=>no ⟨c,hc,ne⟩;have:=h.sum;have:=h.Av;lia
theorem Cert.step {m:Nat}{e:Nat->Nat->Int}{N:Nat}{P:Nat->Prop}{fr ks ks':List Nat}{lk lk':Nat->Int}{dw ev:Int}{lam mu:Nat->Int}(h:Cert m e fr ks lk' dw ev lam mu)
  (st:Qy m e N P ks lk) (sub:∀k,k∈ks->k∈ks') (new:∀k,k∈ks'->k∈ks\/∃c,c<fr.length/\lam c≠0/\fr.getD c 0=k)
  (told:∀c,c<fr.length->lam c≠0->Tl m e ks' (fr.getD c 0)) (frP:∀g,g∈fr->P g) (free:∀g,P g->¬Tl m e ks g->g∈fr)
  (same:∀g,P g->Tl m e ks g->lk' g=dw*lk g) (kP:∀k,k∈ks->k=N\/P k) (hN:N∈ks) (old:∀k,k∈ks->k≠N->ev<=lk' k)
  (one:∀g,P g->1<=pt m e (fun _=>1) g) (oneN:0<pt m e (fun _=>1) N):Qy m e N P ks' lk':=by
 intro S up y yN y0 g gP gT gS;have Av:=h.Av;by_cases B:∃c,c<fr.length/\lam c≠0/\S (fr.getD c 0)
 ·obtain⟨c0,hc0,ne0,s0⟩:=B;have inS:∀c,c<fr.length->lam c≠0->S (fr.getD c 0):=fun c hc ne =>
   up _ _ (frP _ (mem_getD hc0)) (told c0 hc0 ne0) (frP _ (mem_getD hc)) (told c hc ne) s0 (by rw[h.hold c hc ne,h.hold c0 hc0 ne0];exact qDq _)
  have hnn:∀c,c<fr.length->0<=lam c*pt m e y (fr.getD c 0):=fun c hc=>by
   by_cases ne:lam c=0
   ·rw[ne,qBg];exact qDq _
   ·exact qDy (h.l0 c) (y0 _ (frP _ (mem_getD hc)) (told c hc ne) (inS c hc ne))
  have kS:∀k,k∈ks->k≠N->P k/\S k:=fun k hk ne=>by
   have p:P k:=(kP k hk).resolve_left ne;exact⟨p,up _ _ (frP _ (mem_getD hc0)) (told c0 hc0 ne0) p (Tl.self (sub k hk)) s0 (by rw[h.hold c0 hc0 ne0];exact old k hk ne)⟩
  have aw:=h.away y;have key:pt m e y N=0/\(∀k,k∈ks->k≠N->pt m e y k=0):=by
   by_cases one':∃k,k∈ks/\k≠N
   ·have ih:∀k,k∈ks->k≠N->pt m e y N=0/\pt m e y k=0:=fun k hk ne =>
     st S (fun g h gp gt hp ht gs le=>up g h gp (gt.more sub) hp (ht.more sub) gs (by rw[same g gp gt,same h hp ht];exact qCr le (by lia))) y yN (fun g gp gt gs=>y0 g gp (gt.more sub) gs) k (kS k hk ne).1 (Tl.self hk) (kS k hk ne).2
    obtain⟨k,hk,ne⟩:=one';exact⟨(ih k hk ne).1,fun k hk ne=>(ih k hk ne).2⟩
   ·have all:∀k,k∈ks->k=N:=fun k hk=>qBf fun ne=>one' ⟨k,hk,ne⟩;have con:∀y:Nat->Int,(Wg.sm ks.length fun j=>mu j*pt m e y (ks.getD j 0))=pt m e y N*Wg.sm ks.length mu:=fun y=>by
     rw[<- Wg.bK];exact Wg.aY fun j hj=>by rw[all _ (mem_getD hj),qEa]
    have a1:=h.away fun _=>1;rw[con] at aw a1;have b1:dw<=Wg.sm fr.length fun c=>lam c*pt m e (fun _=>1) (fr.getD c 0):=by
     rw[<- h.sum];refine Wg.wH fun c hc=>?_;have:=qCr (one _ (frP _ (mem_getD hc))) (h.l0 c);rw[qGj] at this;exact this
    have M:Wg.sm ks.length mu<0:=by
     refine Int.not_le.mp fun z=>?_;have:=qDy (qCe oneN) z;lia
    have a:0<=Wg.sm fr.length fun c=>lam c*pt m e y (fr.getD c 0):=Wg.pQ hnn;have z:pt m e y N=0:=by
     refine qBf fun ne=>?_;have lt:pt m e y N<0:=by lia
     have:=Int.mul_pos_of_neg_of_neg lt M;lia
    exact⟨z,fun k hk ne=>absurd (all k hk) ne⟩
  have k0:∀k,k∈ks->pt m e y k=0:=fun k hk=>by
   by_cases ne:k=N
   ·rw[ne];exact key.1
   ·exact key.2 k hk ne
  rw[show(Wg.sm ks.length fun j=>mu j*pt m e y (ks.getD j 0))=0 from Wg.cD fun j hj=>by rw[k0 _ (mem_getD hj),qBy],qEb] at aw;have hz:=y9 hnn (by lia);refine⟨key.1,gT y fun k hk=>?_⟩;rcases new k hk with o | ⟨c,hc,ne,rfl⟩
  ·exact k0 k o
  ·exact(Int.mul_eq_zero.mp (hz c hc)).resolve_left ne
 ·have inT:∀g,P g->Tl m e ks' g->S g->Tl m e ks g:=fun g gp gt gs=>by
   refine qBf fun no=>?_;have gf:=free g gp no;obtain⟨c,hc,ne⟩:=h.some;exact B ⟨c,hc,ne,up g _ gp gt (frP _ (mem_getD hc)) (told c hc ne) gs (by rw[h.hold c hc ne];exact h.low g gf)⟩
  exact st S (fun g h gp gt hp ht gs le=>up g h gp (gt.more sub) hp (ht.more sub) gs (by rw[same g gp gt,same h hp ht];exact qCr le (by lia))) y yN (fun g gp gt gs=>y0 g gp (gt.more sub) gs) g gP (inT g gP gT gS) gS
theorem Cert.JO {m:Nat}{e:Nat->Nat->Int}{fr ks:List Nat}{lk':Nat->Int}{dw ev ev0:Int}{lam mu:Nat->Int}(h:Cert m e fr ks lk' dw ev lam mu){y:Nat->Int}(hy:∀k,k∈ks->pt m e y k=0)
  (lo:∀g,g∈fr->pt m e y g+lk' g<=dw*ev0):ev<=dw*ev0:=by
 have Av:=h.Av;have aw:=h.away y;rw[show(Wg.sm ks.length fun j=>mu j*pt m e y (ks.getD j 0))=0 from Wg.cD fun j hj=>by rw[hy _ (mem_getD hj),qBy],qEb] at aw;have a1:(Wg.sm fr.length fun c=>lam c*pt m e y (fr.getD c 0))<=Wg.sm fr.length fun c=>(dw*ev0-ev)*lam c:=by
  refine Wg.wH fun c hc=>?_;rw[qEa (dw*ev0-ev)];by_cases ne:lam c=0
  ·rw[ne,qBg,qBg];exact qDq _
  ·refine qCr ?_ (h.l0 c);have:=lo _ (mem_getD hc);rw[h.hold c hc ne] at this;lia
 rw[Wg.bK,h.sum,aw] at a1;refine Int.not_lt.mp fun z=>?_;have:=Int.mul_neg_of_neg_of_pos (show dw*ev0-ev<0 by lia) Av;lia
end Cm
namespace Cm
theorem JP (a b:Nat)(f:Nat->Int):Wg.sm (a+b) f=Wg.sm a f+Wg.sm b fun j=>f (a+j):=by
 induction b with
 | zero=>show _=_+0;rw[qEb];rfl
 | succ b ih =>
  show Wg.sm (a+b) f+f (a+b)=_+(Wg.sm b (fun j=>f (a+j))+f (a+b));rw[ih];lia
theorem DS (f:Nat->Int):∀n,Wg.sm (2*n) f=Wg.sm n fun j=>f (2*j)+f (2*j+1)
 | 0=>rfl
 | n+1=>by
  show Wg.sm (2*n) f+f (2*n)+f (2*n+1)=(Wg.sm n fun j=>f (2*j)+f (2*j+1))+(f (2*n)+f (2*n+1));rw[DS f n];lia
theorem lY (a b:Nat)(f:Nat->Int):Wg.sm (a+2*b) f=Wg.sm a f+Wg.sm b fun j=>f (a+2*j)+f (a+(2*j+1)):=by
 rw[JP,DS]
structure oF (m:Nat) (e:Nat->Nat->Int) (fr ks:List Nat) (A:Nat->Nat->Int):Prop where
 f0:∀c,c<fr.length->(∀i,i<m->A c i=e (fr.getD c 0) i)/\A c m=1
 k0:∀j,j<ks.length->(∀i,i<m->A (fr.length+2*j) i=e (ks.getD j 0) i)/\A (fr.length+2*j) m=0
 k1:∀j,j<ks.length->(∀i,i<m->A (fr.length+(2*j+1)) i=-e (ks.getD j 0) i)/\A (fr.length+(2*j+1)) m=0
theorem oF.pf (h:oF m e fr ks A)(y:Nat->Int){c:Nat}(hc:c<fr.length):(Wg.sm m fun i=>A c i*y i)=pt m e y (fr.getD c 0):=Wg.aY fun i hi=>by rw[(h.f0 c hc).1 i hi]
theorem oF.p0 (h:oF m e fr ks A)(y:Nat->Int){j:Nat}(hj:j<ks.length):(Wg.sm m fun i=>A (fr.length+2*j) i*y i)=pt m e y (ks.getD j 0):=Wg.aY fun i hi=>by rw[(h.k0 j hj).1 i hi]
theorem oF.p1 (h:oF m e fr ks A)(y:Nat->Int){j:Nat}(hj:j<ks.length):(Wg.sm m fun i=>A (fr.length+(2*j+1)) i*y i)=-pt m e y (ks.getD j 0):=by
 have:=Wg.bK m (-1) fun i=>e (ks.getD j 0) i*y i;unfold pt;rw[show(-Wg.sm m fun i=>e (ks.getD j 0) i*y i)=-1*Wg.sm m fun i=>e (ks.getD j 0) i*y i by lia,<- this];exact Wg.aY fun i hi=>by rw[(h.k1 j hj).1 i hi];grind
theorem wO (m n:Nat)(A:Nat->Nat->Int)(x y:Nat->Int):(Wg.sm n fun c=>x c*Wg.sm m fun i=>A c i*y i)=Wg.sm m fun i=>y i*Wg.sm n fun c=>A c i*x c:=by
 have a:(Wg.sm n fun c=>x c*Wg.sm m fun i=>A c i*y i)=Wg.sm n fun c=>Wg.sm m fun i=>x c*(A c i*y i):=Wg.aY fun c _=>(Wg.bK _ _ _).symm;rw[a,Wg.lV];exact Wg.aY fun i _=>by rw[<- Wg.bK];exact Wg.aY fun c _=>by grind
theorem oF.away (h:oF m e fr ks A){X:Nat->Int}(mt:∀i,i<m->(Wg.sm (fr.length+2*ks.length) fun c=>A c i*X c)=0)(y:Nat->Int):
  (Wg.sm fr.length fun c=>X c*pt m e y (fr.getD c 0))+(Wg.sm ks.length fun j=>(X (fr.length+2*j)-X (fr.length+(2*j+1)))*pt m e y (ks.getD j 0))=0:=by
 have t:=wO m (fr.length+2*ks.length) A X y;rw[show(Wg.sm m fun i=>y i*Wg.sm (fr.length+2*ks.length) fun c=>A c i*X c)=0 from Wg.cD fun i hi=>by rw[mt i hi,qBy],lY] at t;rw[<- t];congr 1
 ·exact Wg.aY fun c hc=>by rw[h.pf y hc]
 ·exact Wg.aY fun j hj=>by rw[h.p0 y hj,h.p1 y hj];grind
structure Qz (tb:Nat->Int) (L:Int) (fr ks:List Nat) (tt g:Nat->Int):Prop where
 f0:∀c,c<fr.length->g c=tb (fr.getD c 0)*L
 k0:∀j,j<ks.length->g (fr.length+2*j)=tt j
 k1:∀j,j<ks.length->g (fr.length+(2*j+1))=-tt j
theorem Gz {m:Nat}{e:Nat->Nat->Int}{fr ks:List Nat}{A:Nat->Nat->Int}{tb tt g due X Y:Nat->Int}{L r d:Int}(h:oF m e fr ks A)(hg:Qz tb L fr ks tt g)(r0:0<r)(d0:0<d)
  (du:∀i,i<m->due i=0) (dm:due m=1) (x0:∀j,0<=X j)
  (mt:∀i,i<m+1->(Wg.sm (fr.length+2*ks.length) fun c=>A c i*X c)=due i*d)
  (cols:∀c,c<fr.length+2*ks.length->g c*d<=Wg.sm (m+1) fun i=>A c i*Y i)
  (same:(Wg.sm (m+1) fun i=>due i*Y i)=Wg.sm (fr.length+2*ks.length) fun c=>g c*X c) :
  Cert m e fr ks (fun q=>tb q*(d*(L*r))-pt m e (fun i=>r*Y i) q) d (r*Y m) X (fun j=>X (fr.length+2*j)-X (fr.length+(2*j+1)))/\∀j,j<ks.length->pt m e (fun i=>r*Y i) (ks.getD j 0)=d*(tt j*r):=by
 have last:∀c,(Wg.sm (m+1) fun i=>A c i*Y i)=(Wg.sm m fun i=>A c i*Y i)+A c m*Y m:=fun c=>rfl;have sc:∀q,pt m e (fun i=>r*Y i) q=r*pt m e Y q:=fun q=>by
  unfold pt;rw[<- Wg.bK];exact Wg.aY fun i _=>by grind
 have cf:∀c,c<fr.length->(Wg.sm (m+1) fun i=>A c i*Y i)=pt m e Y (fr.getD c 0)+Y m:=fun c hc=>by rw[last,h.pf Y hc,(h.f0 c hc).2,qCk]
 have slack:∀c,c<fr.length+2*ks.length->X c*((Wg.sm (m+1) fun i=>A c i*Y i)-g c*d)=0:=by
  refine y9 (fun c hc=>qDy (x0 c) (by have:=cols c hc;lia)) ?_;have a:(Wg.sm (fr.length+2*ks.length) fun c=>X c*((Wg.sm (m+1) fun i=>A c i*Y i)-g c*d))=(Wg.sm (fr.length+2*ks.length) fun c=>X c*Wg.sm (m+1) fun i=>A c i*Y i)+Wg.sm (fr.length+2*ks.length) fun c=>-d*(g c*X c):=by
   rw[<- Wg.fG];exact Wg.aY fun c _=>by grind
  rw[a,wO,Wg.bK,<- same];have b:(Wg.sm (m+1) fun i=>Y i*Wg.sm (fr.length+2*ks.length) fun c=>A c i*X c)=Wg.sm (m+1) fun i=>d*(due i*Y i):=Wg.aY fun i hi=>by rw[mt i hi];grind
  rw[b,Wg.bK];grind
 refine⟨⟨d0,x0,?_,h.away fun i hi=>by rw[mt i (by lia),du i hi,qBg],fun c hc ne=>?_,fun q hq=>?_⟩,fun j hj=>?_⟩
 ·have t:=mt m (by lia);rw[dm,qCk,lY] at t;rw[<- t,show(Wg.sm ks.length fun j=>A (fr.length+2*j) m*X (fr.length+2*j)+A (fr.length+(2*j+1)) m*X (fr.length+(2*j+1)))=0 from Wg.cD fun j hj=>by rw[(h.k0 j hj).2,(h.k1 j hj).2,qBg,qBg];rfl,qEb];exact Wg.aY fun c hc=>by rw[(h.f0 c hc).2,qCk]
 ·have z:=(Int.mul_eq_zero.mp (slack c (by lia))).resolve_left ne;rw[cf c hc,hg.f0 c hc] at z;show tb (fr.getD c 0)*(d*(L*r))-pt m e (fun i=>r*Y i) (fr.getD c 0)=r*Y m;rw[sc];generalize pt m e Y (fr.getD c 0)=p at z|-;have:tb (fr.getD c 0)*L*d=p+Y m:=by lia
  have:tb (fr.getD c 0)*L*d*r=(p+Y m)*r:=by rw[this]
  grind
 ·obtain⟨c,hc,hcq⟩:=qDb hq;have eq:fr.getD c 0=q:=by rw[qAq,qAd hc];exact hcq
  have z:=cols c (by lia);rw[cf c hc,hg.f0 c hc,eq] at z;show tb q*(d*(L*r))-pt m e (fun i=>r*Y i) q<=r*Y m;rw[sc];have z:=qCr z (qCe r0);rw[qPx] at z;have:r*(tb q*L*d)=tb q*(d*(L*r)):=by grind
  lia
 ·have z0:=cols (fr.length+2*j) (by lia);have z1:=cols (fr.length+(2*j+1)) (by lia);rw[last,h.p0 Y hj,(h.k0 j hj).2,qBg,qEb,hg.k0 j hj] at z0;rw[last,h.p1 Y hj,(h.k1 j hj).2,qBg,qEb,hg.k1 j hj,qPw] at z1;rw[sc,show pt m e Y (ks.getD j 0)=tt j*d by lia];grind
theorem GA {m:Nat}{e:Nat->Nat->Int}{fr ks:List Nat}{A:Nat->Nat->Int}{due Y:Nat->Int}(h:oF m e fr ks A)(du:∀i,i<m->due i=0)(dm:due m=1)
  (no:∀y:Nat->Int,(∀k,k∈ks->pt m e y k=0)->∃q,q∈fr/\pt m e y q<=0)
  (cols:∀c,c<fr.length+2*ks.length->0<=Wg.sm (m+1) fun i=>A c i*Y i) (neg:(Wg.sm (m+1) fun i=>due i*Y i)<0):False:=by
 have last:∀c,(Wg.sm (m+1) fun i=>A c i*Y i)=(Wg.sm m fun i=>A c i*Y i)+A c m*Y m:=fun c=>rfl;have n1:(Wg.sm (m+1) fun i=>due i*Y i)=(Wg.sm m fun i=>due i*Y i)+due m*Y m:=rfl;rw[n1,dm,qCk,Wg.cD fun i hi=>by rw[du i hi,qBg]] at neg;obtain⟨q,hq,lo⟩:=no Y fun k hk=>by
  obtain⟨j,hj,hjk⟩:=qDb hk;have eq:ks.getD j 0=k:=by rw[qAq,qAd hj];exact hjk
  have z0:=cols (fr.length+2*j) (by lia);have z1:=cols (fr.length+(2*j+1)) (by lia);rw[last,h.p0 Y hj,(h.k0 j hj).2,qBg,qEb,eq] at z0;rw[last,h.p1 Y hj,(h.k1 j hj).2,qBg,qEb,eq] at z1;lia
 obtain⟨c,hc,hcq⟩:=qDb hq;have eq:fr.getD c 0=q:=by rw[qAq,qAd hc];exact hcq
 have z:=cols c (by lia);rw[last,h.pf Y hc,(h.f0 c hc).2,eq] at z;lia
theorem DT:∀(as:List Int) (vs:List (Nat->Int)),as.length=vs.length->∀i,comb (as.zip vs) i=Wg.sm vs.length fun j=>as.getD j 0*(vs.getD j fun _=>0) i:=by
 intro as vs;induction vs using snocInd generalizing as with
 | nil =>
  intro hl i;obtain rfl:as=[]:=qJz hl;rfl
 | append_singleton vs v ih =>
  intro hl i;rw[qAp,qBk] at hl;obtain⟨as',a,rfl⟩:∃as' a,as=as'++[a]:=⟨as.dropLast,as.getLast (by intro z;rw[z] at hl;cases hl),(qGs _).symm⟩;rw[qAp,qBk] at hl;have hl:as'.length=vs.length:=by lia
  rw[qKp hl];show comb (as'.zip vs++[(a,v)]) i=_;rw[nF,ih as' hl i,qAp,qBk];show _=Wg.sm vs.length (fun j=>(as'++[a]).getD j 0*((vs++[v]).getD j fun _=>0) i)+(as'++[a]).getD vs.length 0*((vs++[v]).getD vs.length fun _=>0) i;congr 1
  ·refine Wg.aY fun j hj=>?_;rw[qAq,qAq,qAq,qAq,qBd hj,qBd (by lia)]
  ·rw[qAq,qAq,qBb (qAg _),qBb (by lia),hl,qMk];rfl
theorem JQ {m:Nat}{e:Nat->Nat->Int}{fr ks:List Nat}{A:Nat->Nat->Int}{tb tt g Z:Nat->Int}{L:Int}(h:oF m e fr ks A)(hg:Qz tb L fr ks tt g)(ind:iN m (ks.map e))(z0:∀j,0<=Z j)
  (aw:∀i,i<m+1->(Wg.sm (fr.length+2*ks.length) fun c=>A c i*Z c)=0) (more:0<Wg.sm (fr.length+2*ks.length) fun c=>g c*Z c):False:=by
 have fz:∀c,c<fr.length->Z c=0:=by
  have t:=aw m (by lia);rw[lY,show(Wg.sm ks.length fun j=>A (fr.length+2*j) m*Z (fr.length+2*j)+A (fr.length+(2*j+1)) m*Z (fr.length+(2*j+1)))=0 from Wg.cD fun j hj=>by rw[(h.k0 j hj).2,(h.k1 j hj).2,qBg,qBg];rfl,qEb] at t;have t2:Wg.sm fr.length Z=0:=by rw[<- t];exact Wg.aY fun c hc=>by rw[(h.f0 c hc).2,qCk]
  exact y9 (fun j _=>z0 j) (by lia)
 let as:List Int:=(qAn ks.length).map fun j=>Z (fr.length+2*j)-Z (fr.length+(2*j+1))
 have asl:as.length=ks.length:=by show((qAn ks.length).map _).length=_;rw[qAc,qAs]
 have asg:∀j,j<ks.length->as.getD j 0=Z (fr.length+2*j)-Z (fr.length+(2*j+1)):=fun j hj=>by
  show((qAn ks.length).map _).getD j 0=_;rw[qAq,qAo,qCj hj];rfl
 have zero:=ind.alone as (by rw[asl,qAc]) fun i hi=>by
  rw[DT as _ (by rw[asl,qAc]),qAc];have t:=aw i (by lia);rw[lY,Wg.cD fun c hc=>by rw[fz c hc,qBy],qDt] at t;refine Eq.trans (Wg.aY fun j hj=>?_) t;rw[asg j hj,(h.k0 j hj).1 i hi,(h.k1 j hj).1 i hi,qAq (l:=ks.map e),qAo,qAq,qAd hj];show _*e ks[j] i=e ks[j] i*_ + -e ks[j] i*_;grind
 have dz:∀j,j<ks.length->Z (fr.length+2*j)=Z (fr.length+(2*j+1)):=fun j hj=>by
  have:=zero (as.getD j 0) (by rw[qAq,qAd (by lia)];exact qEi _);rw[asg j hj] at this;lia
 rw[lY,Wg.cD fun c hc=>by rw[fz c hc,qBy],qDt,Wg.cD fun j hj=>by rw[hg.k0 j hj,hg.k1 j hj,dz j hj];grind] at more;exact absurd more (by decide)
end Cm
namespace Cm
theorem t8 (f:Nat->Int):∀{l:List Nat},l≠[]->∃g,g∈l/\∀h,h∈l->f h<=f g
 | [],h=>absurd rfl h
 | [x],_=>⟨x,List.mem_singleton.mpr rfl,fun h hh=>by rw[List.mem_singleton.mp hh];exact qDq _⟩
 | x::y::l,_=>by
  obtain⟨g,hg,m⟩:=t8 f (l:=y::l) (by simp);by_cases z:f x<=f g
  ·refine⟨g,qCh _ hg,fun h hh=>?_⟩;rcases List.mem_cons.mp hh with rfl | hh
   ·exact z
   ·exact m h hh
  ·refine⟨x,qDk ..,fun h hh=>?_⟩;rcases List.mem_cons.mp hh with rfl | hh
   ·exact qDq _
   ·have:=m h hh;lia
end Cm
set_option maxHeartbeats 8000000
namespace K54
open PySem L2
seal PE PT PW PA PS qM PG Ni PI iH PK gC PO Nu ML MM Rh vJ IM Qc Qf
def top (i:Nat):Stmt:=PySem.Challenge.pw_shareparley_k54_tables_refused.main.body.getD i (.Pass ⟨0,0,0,0⟩)
abbrev JR:Stmt:=top 14
abbrev JS:Stmt:=top 17
abbrev QA:Stmt:=top 18
abbrev DU:Stmt:=top 38
abbrev JT:Stmt:=top 39
abbrev JU:Stmt:=top 40
abbrev JV:Stmt:=top 41
abbrev JW:Stmt:=top 42
abbrev JX:Stmt:=top 44
abbrev JY:Stmt:=top 45
abbrev JZ:Stmt:=top 46
abbrev Ka:Stmt:=top 47
abbrev Kb:Stmt:=top 48
abbrev Kc:Stmt:=top 49
abbrev Ke:Stmt:=top 50
abbrev DV:Stmt:=top 15
abbrev Kf:Stmt:=top 20
abbrev Kg:Stmt:=top 21
abbrev Kh:Stmt:=top 23
abbrev Ki:Stmt:=top 24
abbrev QB:Stmt:=top 27
abbrev Kj:Stmt:=top 28
abbrev Kk:Stmt:=top 29
abbrev Kl:Stmt:=top 30
abbrev Km:Stmt:=top 33
abbrev Kn:Stmt:=top 34
abbrev Ko:Stmt:=top 57
abbrev Kq:Stmt:=top 58
abbrev Kr:Stmt:=top 59
abbrev Ks:Stmt:=top 60
abbrev Kt:Stmt:=top 61
abbrev Ku:Stmt:=top 62
abbrev Kv:Stmt:=top 63
abbrev Kw:Stmt:=top 64
abbrev Kx:Stmt:=top 65
abbrev Ky:Stmt:=top 66
abbrev Kz:Stmt:=top 67
abbrev KA:Stmt:=top 70
abbrev KC:Stmt:=top 72
abbrev KD:Stmt:=top 19
abbrev KG:Stmt:=top 22
abbrev KH:Stmt:=top 69
abbrev KI:Stmt:=top 71
abbrev KJ:Stmt:=top 52
abbrev KL:Stmt:=top 53
abbrev KN:Stmt:=top 54
abbrev KO:Stmt:=top 55
abbrev KP:Stmt:=top 74
abbrev KQ:Stmt:=top 75
abbrev KR:Stmt:=top 76
abbrev KS:Stmt:=top 77
abbrev KU:Stmt:=top 78
abbrev KW:Stmt:=top 79
abbrev KY:Stmt:=top 80
abbrev KZ:Stmt:=top 81
abbrev MR:Stmt:=inClass (top 43) 0
abbrev BZ:Stmt:=inClass (top 43) 1
abbrev Ca:Stmt:=inClass (top 43) 2
abbrev Cb:Stmt:=inClass (top 43) 3
abbrev Cc:Stmt:=inClass (top 43) 4
abbrev Cd:Stmt:=inClass (top 43) 5
def dv (a b:Int):Int:=if b<0 then -(qCb a b:Int) else (qCb a b:Int)
theorem Aw (a b:Int)(hb:b≠0):dv a b≠0/\a.fdiv (dv a b)*b=a*b.fdiv (dv a b)/\1<=b.fdiv (dv a b)/\qCb (a.fdiv (dv a b)) (b.fdiv (dv a b))=1:=by
 have hg:0<qCb a b:=qKr _ hb;obtain⟨a',ha⟩:(qCb a b:Int)∣a:=qKg ..;obtain⟨b',hb'⟩:(qCb a b:Int)∣b:=qJu ..;have hgi:(0:Int)<(qCb a b:Int):=by lia
 have hcop:qCb a' b'=1:=by
  have h1:qCb a b*qCb a' b'=qCb a b:=by
   have:=qOm (qCb a b:Int) a' b';rw[<- ha,<- hb'] at this;simpa using this.symm
  exact qLd hg (h1.trans (qPu _).symm)
 unfold dv;generalize hG:(qCb a b:Int)=G at *;clear hG hg;subst ha hb';have hG0:G≠0:=by lia
 have e1:(G*a').fdiv G=a':=qCx _ hG0;have e2:(G*b').fdiv G=b':=qCx _ hG0;have n1:(G*a').fdiv (-G)=-a':=by
  have h:G*a'=(-G)*(-a'):=by rw[qKv]
  rw[h];exact qCx _ (by lia)
 have n2:(G*b').fdiv (-G)=-b':=by
  have h:G*b'=(-G)*(-b'):=by rw[qKv]
  rw[h];exact qCx _ (by lia)
 by_cases h:G*b'<0
 ·rw[if_pos h,n1,n2];have hbn:b'<0:=by
   rcases qHj b' 0 with h' | h'
   ·exact h'
   ·exact absurd (qDy (qCe hgi) h') (Int.not_le.mpr h)
  refine⟨by lia,?_,by lia,?_⟩
  ·rw[qPw,qNj,qOc,qLt]
  ·simpa using hcop
 ·rw[if_neg h,e1,e2];have hbn:0<b':=by
   rcases qOd b' 0 with h' | h' | h'
   ·exact absurd (Int.mul_neg_of_pos_of_neg hgi h') h
   ·subst h';simp at hb
   ·exact h'
  exact⟨hG0,by rw[qOc,qLt],by lia,hcop⟩
theorem DW (d r:Nat):qIn r (d%r)=qIn d r:=by
 rw[qPq,<- Nat.gcd_rec,qPq]
theorem DX (hb:1<=b):(qCb t b:Int)≠0/\qCb t b<=b.natAbs/\1<=b.fdiv (qCb t b:Int)/\qCb (t.fdiv (qCb t b:Int)) (b.fdiv (qCb t b:Int))=1/\b.fdiv (qCb t b:Int)∣b/\(t.fdiv (qCb t b:Int)).natAbs<=t.natAbs:=by
 have hg:0<qCb t b:=qKr _ (by lia);have hle:qCb t b<=b.natAbs:=qLr (by lia) (qNy _ _);have hlast:=qLh t (qCb t b:Int);obtain⟨a',ha⟩:(qCb t b:Int)∣t:=qKg ..;obtain⟨b',hb'⟩:(qCb t b:Int)∣b:=qJu ..;have hgi:(0:Int)<(qCb t b:Int):=by lia
 have hcop:qCb a' b'=1:=by
  have h1:qCb t b*qCb a' b'=qCb t b:=by
   have:=qOm (qCb t b:Int) a' b';rw[<- ha,<- hb'] at this;simpa using this.symm
  exact qLd hg (h1.trans (qPu _).symm)
 have e1:t.fdiv (qCb t b:Int)=a':=by
  conv=>lhs;arg 1;rw[ha]
  exact qCx _ (by lia)
 have e2:b.fdiv (qCb t b:Int)=b':=by
  conv=>lhs;arg 1;rw[hb']
  exact qCx _ (by lia)
 refine⟨by lia,hle,?_,?_,?_,hlast⟩
 ·rw[e2];rcases qHj 0 b' with h | h
  ·lia
  ·have:=Int.mul_nonpos_of_nonneg_of_nonpos (qCe hgi) h;lia
 ·rw[e1,e2];exact hcop
 ·rw[e2];exact⟨_,by rw[qEa];exact hb'⟩
theorem DY (h1:Ga 0 (2^m-1) v=true):∃g:Nat,v = .int (g:Int)/\g<2^m:=by
 cases v with
 | int i =>
  have z:(decide (0<=i)&&decide (i<=2^m-1))=true:=h1;rw[qCd] at z;have z1:=of_decide_eq_true z.1;have z2:=of_decide_eq_true z.2;have e:((2^m:Nat):Int)=2^m:=by push_cast;rfl
  exact⟨i.toNat,by rw[qCt z1],by lia⟩
 | _=>exact(qAj h1).elim
theorem Ax {g m:Nat}(hg:g<2^m):Ga 0 (2^m-1) (.int (g:Int))=true:=by
 show(decide (0<=(g:Int))&&decide ((g:Int)<=2^m-1))=true;have e:((2^m:Nat):Int)=2^m:=by push_cast;rfl
 rw[decide_eq_true (by lia),decide_eq_true (by lia)];rfl
def jA:List Int:=[1,2,4,8,16,32]
def alone (i:Nat):Int:=jA.getD i 0
def r9 (g:Nat)(i:Nat):Option V:=if qGd (g:Int) (alone i)=0 then none else some (.int (i:Int))
def hN (g:Nat):Nat->List Int
 | 0=>[]
 | i+1=>if g/2^i%2=1 then hN g i++[(i:Int)] else hN g i
def dU (g:Nat):List Int:=hN g 6
theorem zA:∀g:_root_.Fin 64,(qAn 6).filterMap (r9 g.1)=(dU g.1).map V.int:=by decide +kernel
theorem zB (g:Nat):∀i,(hN g i).length<=i
 | 0=>qAg _
 | i+1=>by
  have h:=zB g i;unfold hN;split
  ·rw[qAp,qBk];lia
  ·lia
theorem uF {g m:Nat}(hg:g<2^m):∀(i:Nat) (x:Int),x∈hN g i->0<=x/\x<m
 | 0,x,h=>by cases h
 | i+1,x,h=>by
  unfold hN at h;split at h
  ·rename_i hb;rcases List.mem_append.mp h with h | h
   ·exact uF hg i x h
   ·have:x=(i:Int):=by simpa using h
    rcases qAm i m with z | z
    ·lia
    ·have:g/2^i=0:=qOl (qAy hg (qBw (by decide) z));lia
  ·exact uF hg i x h
def Jw (ns:List Int)(g:Nat):Nat->Int
 | 0=>0
 | i+1=>if g/2^i%2=1 then Jw ns g i+ns.getD i 0 else Jw ns g i
theorem DZ (xs:List V)(n:Nat):gE xs (some (n:Int)) none=xs.drop n:=by
 unfold gE;rw[HT.zV,HT.pB];rcases qPp n xs.length with h | h
 ·rw[qIl h];exact qEt (by rw[qHx];lia)
 ·rw[qOj h,qOa,List.drop_of_length_le h];simp
theorem zC (xs:List V)(n:Nat):gE xs none (some (n:Int))=xs.take n:=by
 unfold gE;rw[HT.zV,HT.pB,qKz,qMj];rcases qPp n xs.length with h | h
 ·rw[qIl h]
 ·rw[qOj h,qEh,qEt h]
theorem zD (h:m<=6):2^m<=64:=qBw (n:=2) (by decide) h
theorem all_ints (ns:List Int):(ns.map V.int).all kR=true:=by
 induction ns with
 | nil=>rfl
 | cons n r ih=>exact ih
theorem eB:∀{l:List α},(∀x∈l,f x=g x)->l.filterMap f=l.filterMap g
 | [],_=>rfl
 | x::r,h=>by
  rw[qCo,qCo,h x (by simp),eB fun y hy=>h y (by simp[hy])]
def pS:List Int:=[1,2,4,8,16,32,64]
structure FC (K:qAb) (C fCh fGM fCC fCA fPL:Addr):Prop where
 oc:Qt K C
 nm:iA K C "many"
 nb:iA K C "bottom"
 nr:iA K C "rows"
 nc:iA K C "chosen"
 Rj:Meth K C "choose" fCh
 RL:Meth K C "gains_more" fGM
 Rk:Meth K C "column_to_choose" fCC
 RM:Meth K C "comes_ahead" fCA
 RN:Meth K C "place_to_leave" fPL
structure T (K:qAb) (mg:Str->Option qAi) (AL LN FR iF fCh fGM fCC fCA fPL SE NN NG NT NR NS NV NO NL NX TM UL:Addr):Prop where
 eD:mg "isinstance"=none
 nV:mg "int"=none
 pT:mg "bool"=none
 cM:mg "range"=none
 cK:mg "len"=none
 cQ:mg "list"=none
 lZ:mg "sum"=none
 mB:mg "all"=none
 wQ:mg "any"=none
 hV:mg "tuple"=none
 g4:mg "zip"=none
 sC:mg "abs"=none
 jV:mg "enumerate"=none
 Ay:mg "max"=none
 Az:mg "str"=none
 jW:mg "sorted"=none
 wR:mg "set"=none
 g5:mg "reversed"=none
 Ea:mg "ValueError"=none
 Fx:mg "ALONE"=some (.ref AL)
 al:∀H:Hp,cX K H AL (jA.map V.int)
 MS:mg "LENGTHS"=some (.ref LN)
 ln:∀H:Hp,cX K H LN (pS.map V.int)
 RO:∃o,K.lookup LN=some o/\o.cls = .type "tuple"/\o.dict=none
 mp:∃tk,mg "MOST_PLACES"=some (.int 8 tk)
 mc:∃tk,mg "MOST_COLUMNS"=some (.int 70 tk)
 Oh:mg "Frame"=some (.ref FR)
 cP:FC K FR fCh fGM fCC fCA fPL
 RP:Mk K FR iF
 RQ:∃fd,Mx K "__init__" "Frame.__init__" MR ["self","columns","due"] iF fd
 QC:∃fd,Mx K "choose" "Frame.choose" BZ ["self","place","column"] fCh fd
 QD:∃fd,Mx K "gains_more" "Frame.gains_more" Ca ["self","column","gains"] fGM fd
 QE:∃fd,Mx K "column_to_choose" "Frame.column_to_choose" Cb ["self","gains"] fCC fd
 QF:∃fd,Mx K "comes_ahead" "Frame.comes_ahead" Cc ["self","one","other","column"] fCA fd
 QG:∃fd,Mx K "place_to_leave" "Frame.place_to_leave" Cd ["self","column"] fPL fd
 Oi:mg "ShareError"=some (.ref SE)
 La:mg "NoNumber"=some (.ref NN)
 MT:mg "NoGroup"=some (.ref NG)
 MU:mg "NoTable"=some (.ref NT)
 GB:mg "NoRows"=some (.ref NR)
 MV:mg "NoShares"=some (.ref NS)
 MW:mg "NoVotes"=some (.ref NV)
 Oj:mg "NoOrder"=some (.ref NO)
 Ol:mg "NoRule"=some (.ref NL)
 Om:mg "NoText"=some (.ref NX)
 Oo:mg "TooMany"=some (.ref TM)
 Oq:mg "Unlike"=some (.ref UL)
 RR:gR K SE
 Rm:gR K NT
 Rn:gR K NV
 MX:qDh K NN Bx "ValueError.__new__"=true
 Hw:qDh K NR Bx "ValueError.__new__"=true
 Ot:qDh K NG Bx "ValueError.__new__"=true
 Ou:qDh K NS Bx "ValueError.__new__"=true
 Ov:qDh K NT Bx "ValueError.__new__"=true
 Ow:qDh K NV Bx "ValueError.__new__"=true
 Ox:qCf K NT (.ref SE)=some true
 Oy:qBs K (.ref NT) (.type "ValueError")=some true
 Oz:qBs K (.ref NT) (.ref UL)=some false
 Eb:qCg K (.ref NT) [.ref NG,.ref NN]=some false
 Ec:qCg K (.ref NT) [.ref NO,.ref NL]=some false
 Ed:qCg K (.ref NT) [.ref NR,.ref NS]=some false
 Ee:qCg K (.ref NT) [.ref NX,.ref TM]=some false
 wU:qBs K (.ref NT) (.ref NT)=some true
 wV:qBs K (.ref NT) (.ref NV)=some false
 OA:qCf K NV (.ref SE)=some true
 OB:qBs K (.ref NV) (.type "ValueError")=some true
 OC:qBs K (.ref NV) (.ref UL)=some false
 Ef:qCg K (.ref NV) [.ref NG,.ref NN]=some false
 Eg:qCg K (.ref NV) [.ref NO,.ref NL]=some false
 Eh:qCg K (.ref NV) [.ref NR,.ref NS]=some false
 Ei:qCg K (.ref NV) [.ref NX,.ref TM]=some false
 wW:qBs K (.ref NV) (.ref NT)=some false
 wX:qBs K (.ref NV) (.ref NV)=some true
section
variable {P:qBx}{w:qDe}{K:qAb}{mg:Str->Option qAi}{base:Heap}{AL LN FR iF fCh fGM fCC fCA fPL SE NN NG NT NR NS NV NO NL NX TM UL:Addr}{f:Addr}{fd:qCl}
def sH (K:qAb):Sp:=fun vs H Q _=>∃v,vs=[v]/\Pl K H v/\Q (.bl (kR v)) H
theorem OD:aO ["thing"] ["thing"] (aJ JR):=by constructor<;>first|rfl|decide +kernel
theorem Lb (t:Tx K mg "is_number" JR ["thing"] f fd)(T:T K mg AL LN FR iF fCh fGM fCC fCA fPL SE NN NG NT NR NS NV NO NL NX TM UL):Df P w K mg base cA 1 "is_number" ["thing"] (sH K) f fd:=by
 refine t.iJ OD (fun vs H Q E h=>?_) (fun cdv A outer s H vs Q E hr h=>?_)
 ·obtain⟨v,rfl,_⟩:=h;rfl
 ·obtain⟨v,rfl,pl,k⟩:=h;obtain⟨Ty,ty,kd⟩:=pl.ex;refine⟨_,aH (aS (k6 (aN cV (by rfl) T.eD dI (aA (pv 0) (aA (eW (v:=.ty "int") (by rfl) T.nV tP rfl) aB)))
   (jF (Cw (aN cV (by rfl) T.eD dI (aA (pv 0) (aA (eW (v:=.ty "bool") (by rfl) T.pT FZ rfl) aB))))))),?_⟩
  refine⟨_,rfl,v,.ty "int",_,_,_,rfl,rfl,.of ty,kd.Qr K,_,rfl,?_⟩;refine cJ (fun h1=>?_) (fun h1=>?_)
  ·refine⟨_,rfl,v,.ty "bool",_,_,_,rfl,rfl,.of ty,kd.NH K,_,rfl,?_⟩;have e:(!(Ty == "bool"))=kR v:=by
    rw[Pl.kR ty];cases kd <;> first | rfl | (exact absurd h1 (by decide))
   rw[e];exact k
  ·have e:false=kR v:=by
    rw[Pl.kR ty];cases kd <;> first | rfl | (exact absurd rfl h1)
   rw[e];exact k
def AA:Sp:=fun vs H Q _=>∃a b:Int,vs=[.int a,.int b]/\Q (.int (qCb a b:Int)) H
theorem abs_eq (i:Int):(if i<0 then -i else i)=(i.natAbs:Int):=by split <;> lia
theorem zE {r:Nat}(h:(!decide (V.int (r:Int)=V.int 0))=true):0<r:=by
 rcases qEp r with z | z
 ·subst z;exact absurd h (by decide)
 ·exact z
theorem GC {r:Nat}(h:¬(!decide (V.int (r:Int)=V.int 0))=true):r=0:=by
 rcases qEp r with z | z
 ·exact z
 ·refine absurd ?_ h;rw[decide_eq_false (fun q=>by have:=V.int.inj q;lia)];rfl
theorem sI:aO ["one","other","divisor","rest","left"] ["one","other"] (aJ JS):=by constructor<;>first|rfl|decide +kernel
theorem Lc (t:Tx K mg "greatest_divisor" JS ["one","other"] f fd)(T:T K mg AL LN FR iF fCh fGM fCC fCA fPL SE NN NG NT NR NS NV NO NL NX TM UL):Df P w K mg base cA 1 "greatest_divisor" ["one","other"] AA f fd:=by
 refine t.iJ sI (fun vs H Q E h=>?_) (fun cdv A outer s H vs Q E hr h=>?_)
 ·obtain⟨a,b,rfl,_⟩:=h;rfl
 ·obtain⟨a,b,rfl,k⟩:=h;refine⟨_,(aD (aP (i:=2) sI.nd rfl bP (aN vB (by rfl) T.sC Dc (aA (pv 0) aB)))
   (aD (aP (i:=3) sI.nd rfl bP (aN vB (by rfl) T.sC Dc (aA (pv 1) aB)))
   (aD (pA PassesOwn.never (aW g9 (pv 3) aE (aX _))
    (aD (aP (i:=4) sI.nd rfl bP (aQ dX (pv 2) (pv 3)))
    (aD (aP (i:=2) sI.nd rfl bP (pv 3))
    (aH (aP (i:=3) sI.nd rfl bP (pv 4))))))
   (aH (aS (pv 2)))))),?_⟩
  refine⟨_,rfl,a,rfl,_,rfl,b,rfl,?_⟩;rw[abs_eq,abs_eq];refine⟨fun m σ H2=>H2=H/\∃(d r:Nat) (v:Option V),m=r/\σ=[some (.int a),some (.int b),some (.int (d:Int)),some (.int (r:Int)),v]/\qIn d r=qCb a b,⟨_,rfl,a.natAbs,b.natAbs,none,rfl,rfl,rfl⟩,?_⟩;rintro m σ H2 ⟨rfl,d,r,v,rfl,rfl,hg⟩;refine⟨_,rfl,rfl,_,rfl,?_⟩;refine cJ (fun h1=>?_) (fun h1=>?_)
  ·have hr0:=zE h1;refine⟨fun σ' H'=>H'=H2/\∃(d' r':Nat) (v:Option V),r'<m/\σ'=[some (.int a),some (.int b),some (.int (d':Int)),some (.int (r':Int)),v]/\qIn d' r'=qCb a b,fun σ' H' ⟨e,d',r',v,h1,h2,h3⟩=>⟨r',h1,e,d',r',v,rfl,h2,h3⟩,?_⟩;refine⟨_,rfl,_,rfl,_,_,rfl,rfl,(by show(0:Int)<(m:Int);lia),?_⟩;refine⟨_,rfl,_,rfl,rfl,m,d%m,_,qNx _ hr0,rfl,?_⟩;rw[DW];exact hg
  ·have hr0:=GC h1;subst hr0;rw[Nat.gcd_zero_right] at hg;refine⟨_,rfl,?_⟩;rw[hg];exact k
def uG (K:qAb)(NN:Addr):Sp:=fun vs H Q E=>∃v1 v2,vs=[v1,v2]/\Pl K H v1/\Pl K H v2/\((kR v1=false\/kR v2=false\/v2 = .int 0)->E (.ref NN) none H) /\
 ∀a b:Int,v1 = .int a->v2 = .int b->b≠0->Sm 8000 b/\∀p,H p=none->Q (.ref p) (upd H p (.tup [.int (a.fdiv (dv a b)),.int (b.fdiv (dv a b))]))
theorem Ej (hb:b≠0){n:Nat}(h:Sm n b):Sm n (dv a b):=by
 have h1:qCb a b<=b.natAbs:=qLr (by lia) (qNy _ _);have h2:(dv a b).natAbs=qCb a b:=by
  unfold dv;split <;> lia
 exact h.le (by lia)
theorem Ld:aO ["top","bottom","divisor"] ["top","bottom"] (aJ QA):=by constructor<;>first|rfl|decide +kernel
theorem OE (t:Tx K mg "fraction" QA ["top","bottom"] f fd)(T:T K mg AL LN FR iF fCh fGM fCC fCA fPL SE NN NG NT NR NS NV NO NL NX TM UL)(D_is_number:Df P w K mg base cA 1 "is_number" ["thing"] (sH K) f1 fd1)(D_greatest_divisor:Df P w K mg base cA 1 "greatest_divisor" ["one","other"] AA f2 fd2):
  Df P w K mg base (fY P w) 2 "fraction" ["top","bottom"] (uG K NN) f fd:=by
 refine t.By Ld (fun vs H Q E h=>?_) (fun cdv A outer s H vs Q E hr h=>?_)
 ·obtain⟨v1,v2,rfl,_⟩:=h;rfl
 ·obtain⟨v1,v2,rfl,pl1,pl2,k0,k⟩:=h;refine⟨_,(aD (bU (PW.pt (pw_or (dG (cG (aV D_is_number hr (by decide) (by rfl) (aA (pv 0) aB)))) (pw_or1 (dG (cG (aV D_is_number hr (by decide) (by rfl) (aA (pv 1) aB))))))) (aH (eS bN rfl (by rfl) T.La T.MX (aA dF aB))) a8)
   (aD (bU (aW eO (pv 1) aE (aX _)) (aH (eS bN rfl (by rfl) T.La T.MX (aA dF aB))) a8)
   (aD (aP (i:=2) Ld.nd rfl bP (aV D_greatest_divisor hr (by decide) (by rfl) (aA (pv 0) (aA (pv 1) aB))))
   (aD (bU (aW kQ (pv 1) aE (aX _)) (aH (aP (i:=2) Ld.nd rfl bP (gM fF (pv 2)))) a8)
   (aH (aS (bQ (aA (aQ jN (pv 0) (pv 2)) (aA (aQ jN (pv 1) (pv 2)) aB))))))))),?_⟩
  refine⟨_,rfl,v1,rfl,pl1,_,rfl,?_⟩;cases e1:kR v1 with
  | false=>exact eQ (eQ ⟨jD,k0 (.inl e1)⟩)
  | true =>
   refine dO ⟨_,rfl,v2,rfl,pl2,_,rfl,?_⟩;cases e2:kR v2 with
   | false=>exact eQ ⟨jD,k0 (.inr (.inl e2))⟩
   | true =>
    refine dO ?_;obtain⟨a,rfl⟩:∃a,v1 = .int a:=by
     cases v1 with
     | int a=>exact⟨a,rfl⟩
     | _=>cases e1
    obtain⟨b,rfl⟩:∃b,v2 = .int b:=by
     cases v2 with
     | int b=>exact⟨b,rfl⟩
     | _=>cases e2
    refine⟨_,rfl,rfl,_,rfl,?_⟩;refine cJ (fun h1=>⟨jD,k0 (.inr (.inr (of_decide_eq_true h1)))⟩) (fun h1=>?_);have hb:b≠0:=fun z=>h1 (decide_eq_true (congrArg V.int z));obtain⟨hbig,kk⟩:=k a b rfl rfl hb;refine⟨_,rfl,_,rfl,a,b,rfl,?_⟩;have hd0:=(Aw a b hb).1;have hds:=Ej (a:=a) hb hbig;dsimp only;refine De (fun σ2 H2=>H2=H/\σ2=[some (.int a),some (.int b),some (.int (dv a b))]) ?_ fun tail=>?_
    ·rintro σ2 H2 ⟨rfl,rfl⟩;exact⟨_,rfl,_,rfl,_,_,rfl,rfl,⟨hd0,hds⟩,_,rfl,_,rfl,_,_,rfl,rfl,⟨hd0,hds⟩,jB,fun p hp=>kk p hp⟩
    ·refine⟨_,rfl,_,_,rfl,rfl,_,rfl,?_⟩;refine cJ (fun h2=>⟨_,rfl,_,rfl,tail _ _ ⟨rfl,?_⟩⟩) (fun h2=>tail _ _ ⟨rfl,?_⟩)
     ·show [some (V.int a),some (V.int b),some (V.int (-(qCb a b:Int)))]=_;unfold dv;rw[if_pos (of_decide_eq_true h2)]
     ·show [some (V.int a),some (V.int b),some (V.int (qCb a b:Int))]=_;unfold dv;rw[if_neg (fun z=>h2 (decide_eq_true z))]
def a9 (n:Nat)(f:Nat->Int):List V:=(qAn n).map fun j=>V.int (f j)
theorem aI (n:Nat)(f:Nat->Int):(a9 n f).length=n:=by unfold a9;rw[qAc,qAs]
theorem c8 {n j:Nat}{f:Nat->Int}(h:j<n):(a9 n f)[j]?=some (.int (f j)):=by unfold a9;rw[qAo,qCj h];rfl
theorem dE {n j:Nat}{f:Nat->Int}{v:V}(h:(a9 n f)[j]?=some v):j<n/\v = .int (f j):=by
 obtain⟨z,_⟩:=List.getElem?_eq_some_iff.mp h;rw[aI] at z;rw[c8 z] at h;exact⟨z,(Option.some.inj h).symm⟩
theorem bT {n j:Nat}{f:Nat->Int}(h:j<n):gQ (a9 n f) (j:Int)=some (.int (f j)):=fK (c8 h)
theorem dJ {n:Nat}{f g:Nat->Int}(h:∀j,j<n->f j=g j):a9 n f=a9 n g:=qMt fun j hj=>by rw[h j (List.mem_range.mp hj)]
theorem kD (n:Nat)(f:Nat->Int):a9 n f=((qAn n).map f).map V.int:=by unfold a9;rw[qCz];rfl
theorem mC (n:Nat)(f:Nat->Int):gQ (a9 (n+1) f) (-1)=some (.int (f n)):=by
 unfold gQ;have e:CK (a9 (n+1) f).length (-1)=some n:=by
  rw[aI];unfold CK;rw[if_neg (by lia),if_pos (by lia)];congr 1;lia
 rw[e];exact c8 (by lia)
theorem sJ (n:Nat)(f:Nat->Int):((qAn n).map f).sum=Wg.sm n f:=by
 induction n with
 | zero=>rfl
 | succ n ih =>
  rw[qBt,qAu,qIf,ih];show Wg.sm n f+(f n+0)=Wg.sm n f+f n;rw[qEb]
theorem oP {n p:Nat}{f:Nat->Int}(v:Int):(a9 n f).set p (.int v)=a9 n fun j=>if j=p then v else f j:=by
 refine qFd fun i=>?_;rw[qGh,aI];rcases qAm i n with h | h
 ·rw[c8 h,c8 h];by_cases e:i=p
  ·rw[if_pos e.symm,if_pos (by lia),if_pos e]
  ·rw[if_neg (fun z=>e z.symm),if_neg e]
 ·rw[qBm (by rw[aI];exact h),qBm (by rw[aI];exact h)];split
  ·split
   ·lia
   ·rfl
  ·rfl
theorem kE (n k:Nat)(f g:Nat->Int):a9 n f++a9 k g=a9 (n+k) fun j=>if j<n then f j else g (j-n):=by
 refine qFd fun i=>?_;rcases qAm i n with h | h
 ·rw[qBd (by rw[aI];exact h),c8 h,c8 (by lia),if_pos h]
 ·rw[qBb (by rw[aI];exact h),aI];rcases qAm i (n+k) with h2 | h2
  ·rw[c8 (by lia),c8 h2,if_neg (by lia)]
  ·rw[qBm (by rw[aI];lia),qBm (by rw[aI];lia)]
theorem jX {xs:List V}{n:Nat}(F:Nat->V)(h:xs.length=n):((qAn n).filterMap fun i=>(xs[i]?).bind fun _=>some (F i))=(qAn n).map F:=by
 rw[<- qGm];refine eB fun i hi=>?_;rw[qAd (by rw[h];exact List.mem_range.mp hi)];rfl
theorem uH {xs ys:List V}{n:Nat}(F:Nat->V)(h:xs.length=n)(h2:ys.length=n):((qAn n).filterMap fun i=>(xs[i]?).bind fun _=>(ys[i]?).bind fun _=>some (F i))=(qAn n).map F:=by
 rw[<- qGm];refine eB fun i hi=>?_;rw[qAd (by rw[h];exact List.mem_range.mp hi),qAd (l:=ys) (by rw[h2];exact List.mem_range.mp hi)];rfl
theorem gI (h:j<n):CK n (j:Int)=some j:=by
 unfold CK;rw[if_pos (by lia),if_pos (by lia)];congr 1
def oG (x y:Addr)(H H':Hp):Prop:=∀b o,b≠x->b≠y->H b=some o->H' b=some o
theorem oG.refl (H:Hp):oG x y H H:=fun _ _ _ _ e=>e
theorem Hx (s:aG H H')(x y:Addr):oG x y H H':=fun b o _ _ e=>s b o e
theorem oG.then (a:oG x y H H1)(b:aG H1 H2):oG x y H H2:=fun c o n n2 e=>b c o (a c o n n2 e)
theorem oG.trans (a:oG x y H H1)(b:oG x y H1 H2):oG x y H H2:=fun c o n n2 e=>b c o n n2 (a c o n n2 e)
theorem oG.oA (a:oG x y H H1)(u:HO):oG x y H (upd H1 x u):=fun c o n n2 e=>by rw[aL n];exact a c o n n2 e
theorem oG.QH (a:oG x y H H1)(u:HO):oG x y H (upd H1 y u):=fun c o n n2 e=>by rw[aL n2];exact a c o n n2 e
structure Inst (m n:Nat) (A:Nat->Nat->Int) (due:Nat->Int):Prop where
 m1:1<=m
 m8:m<=8
 pU:n<=70
 bA:∀j i,Sm 700 (A j i)
 bD:∀i,Sm 700 (due i)
theorem gJ (x y:Int):(Wg.sgn x*y).natAbs=y.natAbs:=by
 rw[qDx];rcases Wg.t7 x with e | e <;> rw[e] <;> simp
theorem Inst.gD (h:Inst m n A due)(j r:Nat):(Wg.gD m n A due j r).natAbs<=2^700:=by
 have one:(1:Int).natAbs<=2^700:=Nat.one_le_two_pow;have zero:(0:Int).natAbs<=2^700:=qBr _;unfold Wg.gD;split
 ·split
  ·rw[gJ];exact qAk (h.bA j r)
  ·split
   ·split
    ·exact one
    ·exact zero
   ·split
    ·rw[gJ];exact qAk (h.bD r)
    ·exact zero
 ·exact zero
theorem QI:∀m:_root_.Fin 9,Wg.qO m.1*(2^700)^m.1<2^6000:=by decide +kernel
theorem Inst.size (h:Inst m n A due){S:Wg.St}(ok:S.ok m (Wg.gD m n A due)):Sm 6000 S.d/\∀k,k<m->∀j,Sm 6000 (S.R k j):=by
 have z:=Wg.Fr.bound ok h.gD;have f:=QI ⟨m,by have:=h.m8;lia⟩;exact⟨qBh z.1 f,fun k hk j=>qBh (z.2 k hk j) f⟩
def pV (m:Nat)(A:Nat->Nat->Int)(due:Nat->Int)(d:Int):Prop:=∀B:Nat,1<=B->(∀j i,(A j i).natAbs<=B)->(∀i,(due i).natAbs<=B)->d.natAbs<=Wg.qO m*B^m
theorem Inst.small (h:Inst m n A due){S:Wg.St}(ok:S.ok m (Wg.gD m n A due)):pV m A due S.d:=fun B hB hA hD=>by
 refine(Wg.Fr.bound (X:=B) ok fun j r=>?_).1;have zero:(0:Int).natAbs<=B:=qBr _;unfold Wg.gD;split
 ·split
  ·rw[gJ];exact hA j r
  ·split
   ·split
    ·exact hB
    ·exact zero
   ·split
    ·rw[gJ];exact hD r
    ·exact zero
 ·exact zero
def zF (m:Nat)(A:Nat->Nat->Int)(due g Y:Nat->Int):Prop:=∀B G:Nat,1<=B->(∀j i,(A j i).natAbs<=B)->(∀i,(due i).natAbs<=B)->(∀j,(g j).natAbs<=G)->∀i,(Y i).natAbs<=m*(G*(Wg.qO m*B^m))
theorem sM {f:Nat->Int}{C:Nat}:∀{n:Nat},(∀k,k<n->(f k).natAbs<=C)->(Wg.sm n f).natAbs<=n*C
 | 0,_=>qBr _
 | n+1,h=>by
  have i:=sM (n:=n) fun k hk=>h k (by lia);have z:=h n (by lia);show(Wg.sm n f+f n).natAbs<=(n+1)*C;rw[qNg,qJa];have:=qOb (Wg.sm n f) (f n);lia
theorem Inst.Le (h:Inst m n A due){S:Wg.St}(ok:S.ok m (Wg.gD m n A due)):zF m A due g (fun i=>Wg.sgn (due i)*Wg.fR m n (fun j=>if j<n then g j else 0) S i):=fun B G hB hA hD hG i=>by
 rw[gJ];refine sM fun k hk=>?_;rw[qDx];refine qOz ?_ ?_
 ·show(if S.ch k<n then g (S.ch k) else 0).natAbs<=G;split
  ·exact hG _
  ·exact qBr _
 ·refine(Wg.Fr.bound (X:=B) ok fun j r=>?_).2 k hk _;have zero:(0:Int).natAbs<=B:=qBr _;unfold Wg.gD;split
  ·split
   ·rw[gJ];exact hA j r
   ·split
    ·split
     ·exact hB
     ·exact zero
    ·split
     ·rw[gJ];exact hD r
     ·exact zero
  ·exact zero
def AB:Sp:=fun vs H Q _=>∃i:Int,vs=[.int i]/\Q (.int (Wg.sgn i)) H
theorem OF:aO ["number"] ["number"] (aJ JU):=by constructor<;>first|rfl|decide +kernel
theorem Lf (t:Tx K mg "sign_of" JU ["number"] f fd):Df P w K mg base cA 1 "sign_of" ["number"] AB f fd:=by
 refine t.iJ OF (fun vs H Q E h=>?_) (fun cdv A outer s H vs Q E hr h=>?_)
 ·obtain⟨i,rfl,_⟩:=h;rfl
 ·obtain⟨i,rfl,k⟩:=h;refine⟨_,(aH (aS (lI (aW kQ (pv 0) aE (aX _)) (gM fF aE) aE))),?_⟩;refine⟨_,rfl,_,_,rfl,rfl,_,rfl,cJ (fun z=>?_) (fun z=>?_)⟩
  ·have e:Wg.sgn i=-1:=by unfold Wg.sgn;rw[if_pos (of_decide_eq_true z)]
   rw[e] at k;exact⟨_,rfl,k⟩
  ·have e:Wg.sgn i=1:=by unfold Wg.sgn;rw[if_neg (fun y=>z (decide_eq_true y))]
   rw[e] at k;exact k
structure uI (m n:Nat) (A:Nat->Nat->Int) (due:Nat->Int) (H:Hp) (pc pd:Addr) (cs:List Addr):Prop where
 hc:H pc=some (.lst (cs.map V.ref))
 len:cs.length=n
 at_:∀j c,cs[j]?=some c->H c=some (.lst (a9 m (A j)))
 hd:H pd=some (.lst (a9 m due))
theorem uI.same (h:uI m n A due H pc pd cs)(s:aG H H'):uI m n A due H' pc pd cs :=
 ⟨s _ _ h.hc,h.len,fun j c e=>s _ _ (h.at_ j c e),s _ _ h.hd⟩
theorem dP {as:List Addr}{i:Nat}{x:V}(h:(as.map V.ref)[i]?=some x):∃a,as[i]?=some a/\x = .ref a:=by
 rw[qAo] at h;cases e:as[i]? with
 | none=>rw[e] at h;cases h
 | some a=>rw[e] at h;exact⟨a,rfl,(Option.some.inj h).symm⟩
def Hy:Sp:=fun vs H Q _=>∃(m n:Nat) (A:Nat->Nat->Int) (due:Nat->Int) (pc pd:Addr) (cs:List Addr) (i:Nat),vs=[.ref pc,.ref pd,.int (i:Int)]/\Inst m n A due/\uI m n A due H pc pd cs/\i<m /\
 ∀(r:Addr) (H':Hp),aG H H'->H r=none->H' r=some (.lst (a9 (n+m+1) fun j=>Wg.gD m n A due j i))->Q (.ref r) H'
theorem Ek:aO ["columns","due","place","sign","spares"] ["columns","due","place"] (aJ JV):=by constructor<;>first|rfl|decide +kernel
theorem uJ (x:Int):Sm 2 (Wg.sgn x):=by
 have:(Wg.sgn x).natAbs=1:=by rcases Wg.t7 x with e | e <;> rw[e] <;> rfl
 show(Wg.sgn x).natAbs<2^2;lia
theorem Lg {f1:Addr}{fd1:qCl}(t:Tx K mg "first_row" JV ["columns","due","place"] f fd)(T:T K mg AL LN FR iF fCh fGM fCC fCA fPL SE NN NG NT NR NS NV NO NL NX TM UL)(D_sign_of:Df P w K mg base cA 1 "sign_of" ["number"] AB f1 fd1):
  Df P w K mg base cA 2 "first_row" ["columns","due","place"] Hy f fd:=by
 refine t.iJ Ek (fun vs H Q E h=>?_) (fun cdv _A outer s H vs Q E hr h=>?_)
 ·obtain⟨m,n,A,due,pc,pd,cs,i,rfl,_⟩:=h;rfl
 ·obtain⟨m,n,A,due,pc,pd,cs,i,rfl,ins,co,hi,k⟩:=h;have m8:=ins.m8;have pU:=ins.pU;refine⟨_,(aD (aP (i:=3) Ek.nd rfl (by first|exact .inl rfl|exact .inr rfl) (aV D_sign_of hr (by decide) (by rfl) (aA (aU bC (pv 1) (pv 2) (fun _ _=>rfl)) aB)))
   (aD (cZ (NB:=["other","place"]) (pick:=[none,some 2]) (i:=4) Ek.nd rfl bP (by rfl) (bF (by with_unfolding_all rfl) (by exact(And.intro rfl trivial)) rfl (by decide +kernel) (by decide +kernel) (by rfl) (by rfl)) rfl
     (c9 (by rfl) T.cM (aA (aN aT (by rfl) T.cK bY (aA (pv 1) aB)) aB)) (fun _ _ _=>aM (i:=0) (show(["other","place"]:List Str).Nodup from by decide +kernel) rfl bP)
     (fun _ _ _=>bI) (fun _ _ _=>(lI (aW eO (pv 0) (pv 1) (aX _)) aE aE)))
   (aH (aS (aQ fM (aQ fM (bO (NB:=["column","place","sign"]) (pick:=[none,some 2,some 3]) (bF (by with_unfolding_all rfl) (by exact(And.intro rfl (And.intro rfl trivial))) rfl (by decide +kernel) (by decide +kernel) (by rfl) (by rfl)) rfl
     (bJ (pv 0)) (fun _ _ _=>aM (i:=0) (show(["column","place","sign"]:List Str).Nodup from by decide +kernel) rfl bP)
     (fun _ _ _=>bI) (fun _ _ _=>(aQ bS (pv 2) (aU (bV K) (pv 0) (pv 1) (fun _ _=>rfl))))) (pv 4)) (bL (aA (aQ bS (pv 3) (aU bC (pv 1) (pv 2) (fun _ _=>rfl))) aB))))))),?_⟩
  refine⟨_,rfl,_,rfl,pd,_,_,_,rfl,rfl,aR.of co.hd,bT hi,_,rfl,?_⟩;refine⟨_,rfl,pd,_,rfl,.inl (aR.of co.hd),?_⟩;rw[aI];refine⟨m,rfl,by lia,by lia,?_⟩;refine jQ (n:=m) (fun j=>some (.int (if j=i then 1 else 0))) (qAk (aK (by lia))) (fun j H2 kk kk0 s2 hj g1 g2=>?_) fun D H2 hD s2 hd=>?_
  ·refine⟨_,rfl,_,rfl,rfl,_,rfl,cJ (fun z=>?_) (fun z=>?_)⟩
   ·have e:j=i:=by have:=V.int.inj (of_decide_eq_true z);lia
    exact g1 _ (by rw[if_pos e]) _ (.refl _)
   ·have e:j≠i:=fun q=>z (decide_eq_true (by rw[q];congr 1;lia));exact g1 _ (by rw[if_neg e]) _ (.refl _)
  ·have hs:H2 D=some (.lst (a9 m fun j=>if j=i then 1 else 0)):=by
    rw[hd];unfold a9;rw[qEd]
   have co2:=co.same s2;refine⟨_,rfl,pc,rfl,⟨_,aR.of co2.hc⟩,?_⟩;refine cB (xs:=cs.map V.ref) (fun j _=>some (.int (Wg.sgn (due i)*A j i))) (aR.of co2.hc) (by rw[qAc,co.len];exact qAk (aK (by lia))) (fun j y H3 kk kk0 s3 hy g1 g2=>?_) fun D2 H3 hD2 s3 hd2=>?_
   ·obtain⟨c,hc,rfl⟩:=dP hy;exact⟨_,rfl,_,rfl,_,rfl,c,_,_,_,rfl,rfl,aR.of (s3 _ _ (co2.at_ j c hc)),bT hi,_,_,rfl,rfl,(uJ _).mb (ins.bA j i),g1 _ rfl _ (.refl _)⟩
   ·have hd2':H3 D2=some (.lst (a9 n fun j=>Wg.sgn (due i)*A j i)):=by
     rw[hd2,qAc,co.len,jX _ (by rw[qAc,co.len])];rfl
    have hs3:=s3 _ _ hs;refine⟨_,rfl,D2,D,_,_,rfl,rfl,aR.of hd2',aR.of hs3,by rw[aI,aI];exact qAk (aK (by lia)),fun p1 hp1=>?_⟩;have u1:=aG.aF (o:=.lst (a9 n (fun j=>Wg.sgn (due i)*A j i)++a9 m fun j=>if j=i then 1 else 0)) hp1;have e1:upd H3 p1 (.lst (a9 n (fun j=>Wg.sgn (due i)*A j i)++a9 m fun j=>if j=i then 1 else 0)) p1=_:=aC;generalize upd H3 p1 (.lst (a9 n (fun j=>Wg.sgn (due i)*A j i)++a9 m fun j=>if j=i then 1 else 0))=H4 at u1 e1|-;have s4:=s2.trans (s3.trans u1);refine⟨_,rfl,_,rfl,_,rfl,pd,_,_,_,rfl,rfl,aR.of (s4 _ _ co.hd),bT hi,_,_,rfl,rfl,(uJ _).mb (ins.bD i),jD,fun p2 hp2=>?_⟩;have u2:=aG.aF (o:=.lst [V.int (Wg.sgn (due i)*due i)]) hp2;have e2:upd H4 p2 (.lst [V.int (Wg.sgn (due i)*due i)]) p2=_:=aC;generalize upd H4 p2 (.lst [V.int (Wg.sgn (due i)*due i)])=H5 at u2 e2|-;have s5:=s4.trans u2;refine⟨p1,p2,_,_,rfl,rfl,aR.of (u2 _ _ e1),aR.of e2,by rw[qAp,aI,aI];exact qAk (aK (by show n+m+1<=1000;lia)),fun p3 hp3=>?_⟩;refine k p3 _ (s5.trans (.aF hp3)) (s5.free hp3) ?_;rw[aC,kE,show [V.int (Wg.sgn (due i)*due i)]=a9 1 fun _=>Wg.sgn (due i)*due i from rfl,kE];congr 2;refine dJ fun j hj=>?_;unfold Wg.gD;rw[if_pos hi];by_cases h1:j<n
    ·rw[if_pos (by lia),if_pos h1,if_pos h1]
    ·by_cases h2:j<n+m
     ·rw[if_pos h2,if_neg h1,if_neg h1,if_pos h2];by_cases h3:j=n+i
      ·rw[if_pos h3,if_pos (by lia)]
      ·rw[if_neg h3,if_neg (by lia)]
     ·rw[if_neg h2,if_neg h1,if_neg h2,if_pos (by lia)]
def Hz:Sp:=fun vs H Q _=>∃(r l:Addr) (W q:Nat) (fr fl:Nat->Int) (d:Int),vs=[.ref r,.ref l,.int (q:Int),.int d]/\H r=some (.lst (a9 W fr))/\H l=some (.lst (a9 W fl))/\q<W/\W<=100/\0<d/\Sm 6000 d/\(∀j,j<W->Sm 6000 (fr j))/\(∀j,j<W->Sm 6000 (fl j)) /\
 ∀(D:Addr) (H':Hp),aG H H'->H D=none->H' D=some (.lst (a9 W fun j=>(fr j*fl q-fr q*fl j)/d))->Q (.ref D) H'
theorem OG:aO ["row","lead","column","bottom"] ["row","lead","column","bottom"] (aJ JW):=by constructor<;>first|rfl|decide +kernel
theorem Lh (t:Tx K mg "cleared" JW ["row","lead","column","bottom"] f fd)(T:T K mg AL LN FR iF fCh fGM fCC fCA fPL SE NN NG NT NR NS NV NO NL NX TM UL):Df P w K mg base cA 1 "cleared" ["row","lead","column","bottom"] Hz f fd:=by
 refine t.iJ OG (fun vs H Q E h=>?_) (fun cdv _A outer s H vs Q E hr h=>?_)
 ·obtain⟨r,l,W,q,fr,fl,d,rfl,_⟩:=h;rfl
 ·obtain⟨r,l,W,q,fr,fl,d,rfl,hr1,hl1,hq,hW,d0,ds,sr,sl,k⟩:=h;refine⟨_,(aH (aS (bO (NB:=["number","other","bottom","column","lead","row"]) (pick:=[none,none,some 3,some 2,some 1,some 0]) (bF (by with_unfolding_all rfl) (by exact(And.intro rfl (And.intro rfl (And.intro rfl (And.intro rfl trivial))))) rfl (by decide +kernel) (by decide +kernel) (by rfl) (by rfl)) rfl
     (gU (by rfl) T.g4 (aA (pv 0) (aA (pv 1) aB))) (fun _ _ _=>(show PG _ _ (oZ K 2 (eM (aZ 0) (eM (aZ 1) oY))) from fE rfl (bG (aM (i:=0) (show(["number","other","bottom","column","lead","row"]:List Str).Nodup from by decide +kernel) rfl bP) (bG (aM (i:=1) (show(["number","other","bottom","column","lead","row"]:List Str).Nodup from by decide +kernel) rfl bP) dH))))
     (fun _ _ _=>bI) (fun _ _ _=>(aQ jN (aQ iW (aQ bS (pv 0) (aU (bV K) (pv 4) (pv 3) (fun _ _=>rfl))) (aQ bS (aU (bV K) (pv 5) (pv 3) (fun _ _=>rfl)) (pv 1))) (pv 2)))))),?_⟩
  refine⟨_,rfl,_,rfl,r,l,rfl,⟨_,aR.of hr1⟩,⟨_,aR.of hl1⟩,?_⟩;refine j7 (xs:=a9 W fr) (ys:=a9 W fl) (fun σ'=>∃o0 o1:Option V,σ'=[o0,o1,some (.int d),some (.int (q:Int)),some (.ref l),some (.ref r)]) (fun j _ _=>some (.int ((fr j*fl q-fr q*fl j)/d))) ⟨_,_,rfl⟩ (aR.of hr1) (aR.of hl1) (by rw[aI,aI]) (by rw[aI];exact qAk (aK (by lia))) (fun i x y tt σ1 H2 kk kk0 hσ s2 hx hy ht h1 h2=>?_) fun D H2 hD s2 hd=>?_
  ·obtain⟨o0,o1,rfl⟩:=hσ;obtain⟨hi,rfl⟩:=dE hx;obtain⟨_,rfl⟩:=dE hy;refine⟨tt,_,rfl,cX.of ht,rfl,_,_,rfl,_,_,rfl,rfl,?_⟩;refine⟨_,rfl,_,rfl,_,rfl,l,_,_,_,rfl,rfl,aR.of (s2 _ _ hl1),bT hq,_,_,rfl,rfl,(sr i hi).mb (sl q hq),_,rfl,_,rfl,r,_,_,_,rfl,rfl,aR.of (s2 _ _ hr1),bT hq,_,rfl,_,_,rfl,rfl,(sr q hq).mb (sl i hi),_,_,rfl,rfl,_,rfl,_,_,rfl,rfl,ds.db (by lia),?_⟩;show kk _ (.int ((fr i*fl q-fr q*fl i).fdiv d)) H2;rw[qHf _ (qCe d0)];exact h1 _ _ ⟨_,_,rfl⟩ rfl _ (.refl _)
  ·refine k D H2 s2 hD ?_;rw[hd,aI,uH _ (aI _ _) (aI _ _)];rfl
def uK (m n:Nat)(S:Wg.St)(k:Nat):List V:=a9 (n+m+1) (S.R k)
def uT (m:Nat)(S:Wg.St):List V:=a9 m fun k=>(S.ch k:Int)
structure Rows (m n:Nat) (S:Wg.St) (H:Hp) (lr:Addr) (ras:List Addr):Prop where
 hr:H lr=some (.lst (ras.map V.ref))
 len:ras.length=m
 at_:∀k r,ras[k]?=some r->H r=some (.lst (uK m n S k))
theorem Rows.get (h:Rows m n S H lr ras){k:Nat}(hk:k<m):∃r,ras[k]?=some r/\gQ (ras.map V.ref) (k:Int)=some (.ref r)/\H r=some (.lst (uK m n S k)):=by
 have e:ras[k]?=some (ras[k]'(by rw[h.len];exact hk)):=qAd _;exact⟨_,e,fK (by rw[qAo,e];rfl),h.at_ k _ e⟩
def g8 (FR:Addr)(m n:Nat)(H:Hp)(x lc:Addr)(S:Wg.St):Prop:=∃(dx lr:Addr) (ras:List Addr),H x=some (.ins FR dx [("many",.int (n:Int)),("bottom",.int S.d),("rows",.ref lr),("chosen",.ref lc)])/\Rows m n S H lr ras/\H lc=some (.lst (uT m S))
theorem g8.same (h:g8 FR m n H x lc S)(s:aG H H'):g8 FR m n H' x lc S:=by
 obtain⟨dx,lr,ras,h1,h2,h3⟩:=h;exact⟨dx,lr,ras,s _ _ h1,⟨s _ _ h2.hr,h2.len,fun k r e=>s _ _ (h2.at_ k r e)⟩,s _ _ h3⟩
structure Good (m n:Nat) (A:Nat->Nat->Int) (due:Nat->Int) (S:Wg.St):Prop where
 ins:Inst m n A due
 ok:S.ok m (Wg.gD m n A due)
 ch:∀k,k<m->S.ch k<n+m
theorem Good.start (h:Inst m n A due):Good m n A due (Wg.start m n A due) :=
 ⟨h,Wg.DL,fun k hk=>by show n+k<n+m;lia⟩
theorem Good.next (h:Good m n A due S){p q:Nat}(hp:p<m)(hq:q<n)(nz:S.R p q≠0):Good m n A due (S.next p q) :=
 ⟨h.ins,Wg.St.Aq h.ok hp nz,fun k hk=>by
  by_cases e:k=p
  ·rw[e,Wg.St.gZ];lia
  ·rw[Wg.St.fO e];exact h.ch k hk⟩
def OH (FR:Addr):Sp:=fun vs H Q _=>∃(m n:Nat) (A:Nat->Nat->Int) (due:Nat->Int) (x dx pc pd:Addr) (cs:List Addr),vs=[.ref x,.ref pc,.ref pd]/\H x=some (.ins FR dx [])/\Inst m n A due/\uI m n A due H pc pd cs /\
 ∀(lc:Addr) (H':Hp),SameBut x H H'->H lc=none->g8 FR m n H' x lc (Wg.start m n A due)->Q .non H'
theorem QJ:aO ["self","columns","due"] ["self","columns","due"] (aJ MR):=by constructor<;>first|rfl|decide +kernel
theorem OI (t:Mx K "__init__" "Frame.__init__" MR ["self","columns","due"] f fd)(T:T K mg AL LN FR iF fCh fGM fCC fCA fPL SE NN NG NT NR NS NV NO NL NX TM UL)(D_first_row:Df P w K mg base cA 2 "first_row" ["columns","due","place"] Hy f1 fd1):
  Md P w K mg base 3 ["self","columns","due"] (OH FR) f:=by
 refine t.MQ QJ (fun vs H Q E h=>?_) (fun cdv _A outer s H vs Q E hr h=>?_)
 ·obtain⟨m,n,A,due,x,dx,pc,pd,cs,rfl,_⟩:=h;rfl
 ·obtain⟨m,n,A,due,x,dx,pc,pd,cs,rfl,hx,ins,co,k⟩:=h;have m8:=ins.m8;have pU:=ins.pU;refine⟨_,(aD (mV (pv 0) (aN aT (by rfl) T.cK bY (aA (pv 1) aB)) rfl)
   (aD (mV (pv 0) aE rfl)
   (aD (mV (pv 0) (bO (NB:=["place","columns","due"]) (pick:=[none,some 1,some 2]) (bF (by with_unfolding_all rfl) (by exact(And.intro rfl (And.intro rfl trivial))) rfl (by decide +kernel) (by decide +kernel) (by rfl) (by rfl)) rfl
     (c9 (by rfl) T.cM (aA (aN aT (by rfl) T.cK bY (aA (pv 2) aB)) aB)) (fun _ _ _=>aM (i:=0) (show(["place","columns","due"]:List Str).Nodup from by decide +kernel) rfl bP)
     (fun _ _ _=>bI) (fun _ _ _=>(aV D_first_row hr (by decide) (by rfl) (aA (pv 1) (aA (pv 2) (aA (pv 0) aB)))))) rfl)
   (aH (mV (pv 0) (bO (NB:=["place","self"]) (pick:=[none,some 0]) (bF (by with_unfolding_all rfl) (by exact(And.intro rfl trivial)) rfl (by decide +kernel) (by decide +kernel) (by rfl) (by rfl)) rfl
     (c9 (by rfl) T.cM (aA (aN aT (by rfl) T.cK bY (aA (pv 2) aB)) aB)) (fun _ _ _=>aM (i:=0) (show(["place","self"]:List Str).Nodup from by decide +kernel) rfl bP)
     (fun _ _ _=>bI) (fun _ _ _=>(aQ f9 (lR K (pv 1) rfl) (pv 0)))) rfl))))),?_⟩
  have npc:pc≠x:=kO co.hc hx (by intro z;cases z);have npd:pd≠x:=kO co.hd hx (by intro z;cases z);refine⟨_,rfl,pc,_,rfl,.inl (aR.of co.hc),_,rfl,x,FR,dx,_,rfl,hx,T.cP.oc.cl,T.cP.nm,by decide,?_⟩;rw[qAc,co.len];have e1:upd H x (.ins FR dx (dN "many" (V.int (n:Int)) [])) x=some (.ins FR dx [("many",.int (n:Int))]):=aC;have b1:SameBut x H (upd H x (.ins FR dx (dN "many" (V.int (n:Int)) []))):=((aG.refl H).but x).oA _;generalize upd H x (.ins FR dx (dN "many" (V.int (n:Int)) []))=H1 at e1 b1|-;refine⟨_,rfl,x,FR,dx,_,rfl,e1,T.cP.oc.cl,T.cP.nb,by show 1<1000;decide,?_⟩;have e2:upd H1 x (.ins FR dx (dN "bottom" (V.int 1) [("many",.int (n:Int))])) x=some (.ins FR dx [("many",.int (n:Int)),("bottom",.int 1)]):=aC;have b2:SameBut x H (upd H1 x (.ins FR dx (dN "bottom" (V.int 1) [("many",.int (n:Int))]))):=b1.oA _;generalize upd H1 x (.ins FR dx (dN "bottom" (V.int 1) [("many",.int (n:Int))]))=H2 at e2 b2|-;have ncs:∀j c,cs[j]?=some c->c≠x:=fun j c e=>kO (co.at_ j c e) hx (by intro z;cases z);have co2:uI m n A due H2 pc pd cs:=⟨b2 _ _ npc co.hc,co.len,fun j c e=>b2 _ _ (ncs j c e) (co.at_ j c e),b2 _ _ npd co.hd⟩;refine⟨_,rfl,pd,_,rfl,.inl (aR.of co2.hd),?_⟩;rw[aI];refine⟨m,rfl,by lia,by lia,?_⟩;refine BH (n:=m) (fun i=>a9 (n+m+1) fun j=>Wg.gD m n A due j i) (qAk (aK (by lia))) (fun i H3 kk kk0 s3 hi g1=>?_) fun D ras H3 hD s3 hl nw hd=>?_
  ·refine⟨_,rfl,_,rfl,_,rfl,m,n,A,due,pc,pd,cs,i,?_,ins,co2.same s3,hi,fun r H4 s4 hr4 e4=>g1 r H4 s4 hr4 e4⟩;rw[qDt];rfl
  ·refine⟨_,rfl,x,FR,dx,_,rfl,s3 _ _ e2,T.cP.oc.cl,T.cP.nr,by show 2<1000;decide,?_⟩;have nD:D≠x:=fun z=>by rw[z,e2] at hD;cases hD
   have e3:upd H3 x (.ins FR dx (dN "rows" (V.ref D) [("many",.int (n:Int)),("bottom",.int 1)])) x=some (.ins FR dx [("many",.int (n:Int)),("bottom",.int 1),("rows",.ref D)]):=aC;have b3:SameBut x H (upd H3 x (.ins FR dx (dN "rows" (V.ref D) [("many",.int (n:Int)),("bottom",.int 1)]))):=(b2.then s3).oA _;have rw3:Rows m n (Wg.start m n A due) (upd H3 x (.ins FR dx (dN "rows" (V.ref D) [("many",.int (n:Int)),("bottom",.int 1)]))) D ras:=by
    refine⟨by rw[aL nD];exact hd,hl,fun k' r e=>?_⟩;obtain⟨a1,a2,a3⟩:=nw.at_ k' r e;have nr:r≠x:=fun z=>by rw[z,e2] at a1;cases a1
    rw[aL nr];exact a3
   generalize upd H3 x (.ins FR dx (dN "rows" (V.ref D) [("many",.int (n:Int)),("bottom",.int 1)]))=H4 at e3 b3 rw3|-;refine⟨_,rfl,pd,_,rfl,.inl (aR.of (b3 _ _ npd co.hd)),?_⟩;rw[aI];refine⟨m,rfl,by lia,by lia,?_⟩;refine jQ (n:=m) (fun i=>some (.int ((n+i:Nat):Int))) (qAk (aK (by lia))) (fun i H5 kk kk0 s5 hi g1 g2=>?_) fun D2 H5 hD2 s5 hd2=>?_
   ·refine⟨_,rfl,x,FR,dx,_,_,rfl,s5 _ _ e3,T.cP.oc.cl,T.cP.nm,rfl,_,rfl,_,_,rfl,rfl,?_⟩;rw[qDt];exact g1 _ (by rw[qOr]) _ (.refl _)
   ·have nD2:D2≠x:=fun z=>by rw[z,e3] at hD2;cases hD2
    refine⟨_,rfl,x,FR,dx,_,rfl,s5 _ _ e3,T.cP.oc.cl,T.cP.nc,by show 3<1000;decide,?_⟩;refine k D2 _ ((b3.then s5).oA _) ?_ ⟨dx,D,ras,aC,⟨?_,rw3.len,fun k' r e=>?_⟩,?_⟩
    ·cases e:H D2 with
     | none=>rfl
     | some o =>
      have z:=b3 _ _ nD2 e;rw[hD2] at z;cases z
    ·rw[aL nD];exact s5 _ _ rw3.hr
    ·have z:=rw3.at_ k' r e;have nr:r≠x:=fun y=>by rw[y,e3] at z;cases z
     rw[aL nr];exact s5 _ _ z
    ·rw[aL nD2,hd2,qEd];rfl
theorem Li (h:Rows m n S H lr ras){C dx:Addr}{fs:List (Str×V)}(hx:H x=some (.ins C dx fs)):lr≠x/\∀(k:Nat) (r:Addr),ras[k]?=some r->r≠x :=
 ⟨kO h.hr hx (by intro z;cases z),fun k r e=>kO (h.at_ k r e) hx (by intro z;cases z)⟩
def El (FR:Addr):Sp:=fun vs H Q _=>∃(m n:Nat) (A:Nat->Nat->Int) (due:Nat->Int) (x lc:Addr) (S:Wg.St) (p q:Nat),vs=[.ref x,.int (p:Int),.int (q:Int)]/\g8 FR m n H x lc S/\Good m n A due S/\p<m/\q<n/\S.R p q≠0 /\
 ∀H',oG x lc H H'->g8 FR m n H' x lc (S.next p q)->Q .non H'
theorem AD:aO ["self","place","column","sign","lead","rows"] ["self","place","column"] (aJ BZ):=by constructor<;>first|rfl|decide +kernel
theorem Lj {f1 f2:Addr}{fd1 fd2:qCl}(t:Mx K "choose" "Frame.choose" BZ ["self","place","column"] f fd)(T:T K mg AL LN FR iF fCh fGM fCC fCA fPL SE NN NG NT NR NS NV NO NL NX TM UL)(D_sign_of:Df P w K mg base cA 1 "sign_of" ["number"] AB f1 fd1)(D_cleared:Df P w K mg base cA 1 "cleared" ["row","lead","column","bottom"] Hz f2 fd2):
  Md P w K mg base 2 ["self","place","column"] (El FR) f:=by
 refine t.MQ AD (fun vs H Q E h=>?_) (fun cdv _A outer s H vs Q E hr h=>?_)
 ·obtain⟨m,n,A,due,x,lc,S,p,q,rfl,_⟩:=h;rfl
 ·obtain⟨m,n,A,due,x,lc,S,p,q,rfl,⟨dx,lr,ras,hx,rs,hlc⟩,gd,hp,hq,nz,k⟩:=h;have m8:=gd.ins.m8;have pU:=gd.ins.pU;obtain⟨sd,sR⟩:=gd.ins.size gd.ok;have d0:=Wg.Fr.pos gd.ok;refine⟨_,(aD (aP (i:=3) AD.nd rfl (by first|exact .inl rfl|exact .inr rfl) (aV D_sign_of hr (by decide) (by rfl) (aA (aU bC (aU bC (bX (pv 0) rfl) (pv 1) (fun _ _=>rfl)) (pv 2) (fun _ _=>rfl)) aB)))
   (aD (aP (i:=4) AD.nd rfl (by first|exact .inl rfl|exact .inr rfl) (bO (NB:=["number","sign"]) (pick:=[none,some 3]) (bF (by with_unfolding_all rfl) (by exact(And.intro rfl trivial)) rfl (by decide +kernel) (by decide +kernel) (by rfl) (by rfl)) rfl
     (bJ (aU bC (bX (pv 0) rfl) (pv 1) (fun _ _=>rfl))) (fun _ _ _=>aM (i:=0) (show(["number","sign"]:List Str).Nodup from by decide +kernel) rfl bP)
     (fun _ _ _=>bI) (fun _ _ _=>(aQ bS (pv 1) (pv 0)))))
   (aD (cZ (NB:=["row","column","lead","self"]) (pick:=[none,some 2,some 4,some 0]) (i:=5) AD.nd rfl bP (by rfl) (bF (by with_unfolding_all rfl) (by exact(And.intro rfl (And.intro rfl (And.intro rfl trivial)))) rfl (by decide +kernel) (by decide +kernel) (by rfl) (by rfl)) rfl
     (bJ (bX (pv 0) rfl)) (fun _ _ _=>aM (i:=0) (show(["row","column","lead","self"]:List Str).Nodup from by decide +kernel) rfl bP)
     (fun _ _ _=>bI) (fun _ _ _=>(aV D_cleared hr (by decide) (by rfl) (aA (pv 0) (aA (pv 2) (aA (pv 1) (aA (lR K (pv 3) rfl) aB)))))))
   (aD (iU (pv 4) (iS (pv 5) (pv 1) set_list))
   (aD (mV (pv 0) (pv 5) rfl)
   (aD (mV (pv 0) (aU bC (pv 4) (pv 2) (fun _ _=>rfl)) rfl)
   (aH (iU (pv 2) (iS (bX (pv 0) rfl) (pv 1) set_list))))))))),?_⟩
  obtain⟨rp,erp,arp,hrp⟩:=rs.get hp;refine⟨_,rfl,x,FR,dx,_,_,rfl,hx,T.cP.oc.cl,T.cP.nr,rfl,_,rfl,lr,_,_,_,rfl,rfl,aR.of rs.hr,arp,_,rfl,rp,_,_,_,rfl,rfl,aR.of hrp,bT (by lia),_,rfl,?_⟩;refine⟨_,rfl,x,FR,dx,_,_,rfl,hx,T.cP.oc.cl,T.cP.nr,rfl,_,rfl,lr,_,_,_,rfl,rfl,aR.of rs.hr,arp,rp,rfl,⟨_,aR.of hrp⟩,?_⟩;refine cB (xs:=uK m n S p) (fun j _=>some (.int (Wg.sgn (S.R p q)*S.R p j))) (aR.of hrp) (by unfold uK;rw[aI];exact qAk (aK (by lia))) (fun j y H2 kk kk0 s2 hy g1 g2=>?_) fun D H2 hD s2 hd=>?_
  ·obtain⟨hj,rfl⟩:=dE hy;exact⟨_,rfl,_,rfl,_,_,rfl,rfl,(uJ _).mb (sR p hp j),g1 _ rfl _ (.refl _)⟩
  have hL:H2 D=some (.lst (a9 (n+m+1) fun j=>Wg.sgn (S.R p q)*S.R p j)):=by
   rw[hd];unfold uK;rw[aI,jX _ (aI _ _)];rfl
  have sl:∀j,Sm 6000 (Wg.sgn (S.R p q)*S.R p j):=fun j=>(sR p hp j).le (by rw[gJ];exact qAg _);refine⟨_,rfl,x,FR,dx,_,_,rfl,s2 _ _ hx,T.cP.oc.cl,T.cP.nr,rfl,lr,rfl,⟨_,aR.of (s2 _ _ rs.hr)⟩,?_⟩;refine iK (xs:=ras.map V.ref) (fun k'=>a9 (n+m+1) fun j=>(S.R k' j*(Wg.sgn (S.R p q)*S.R p q)-S.R k' q*(Wg.sgn (S.R p q)*S.R p j))/S.d) (aR.of (s2 _ _ rs.hr)) (by rw[qAc,rs.len];exact qAk (aK (by lia))) (fun k' y H3 kk kk0 s3 hy g1=>?_) fun D2 ras2 H3 hD2 s3 hl2 nw hd2=>?_
  ·obtain⟨r,hr',rfl⟩:=dP hy;have hk':k'<m:=by
    obtain⟨z,_⟩:=List.getElem?_eq_some_iff.mp hr';rw[rs.len] at z;exact z
   refine⟨_,rfl,_,rfl,_,rfl,_,rfl,x,FR,dx,_,_,rfl,s3 _ _ (s2 _ _ hx),T.cP.oc.cl,T.cP.nb,rfl,r,D,n+m+1,q,S.R k',fun j=>Wg.sgn (S.R p q)*S.R p j,S.d,rfl,s3 _ _ (s2 _ _ (rs.at_ k' r hr')),s3 _ _ hL,by lia,by lia,d0,sd,fun j _=>sR k' hk' j,fun j _=>sl j,fun r2 H4 s4 hr4 e4=>g1 r2 H4 s4 hr4 e4⟩
  rw[qAc,rs.len] at hl2;have hL3:=s3 _ _ hL;have hx3:=s3 _ _ (s2 _ _ hx);have hlc3:=s3 _ _ (s2 _ _ hlc);refine⟨_,rfl,_,rfl,_,rfl,D2,_,_,p,rfl,rfl,hd2,by rw[qAc,hl2];exact gI hp,?_⟩;have s23:=s2.trans s3;have b4:oG x lc H (upd H3 D2 (.lst ((ras2.map V.ref).set p (V.ref D)))):=fun b o n1 n2 e=>by
   rw[aL (fun z=>by rw[z] at e;exact absurd (s2 _ _ e) (by rw[hD2];intro q;cases q))];exact s23 _ _ e
  have hx4:upd H3 D2 (.lst ((ras2.map V.ref).set p (V.ref D))) x=_:=(aL (fun z=>by rw[<- z,s2 _ _ hx] at hD2;cases hD2)).trans hx3;have hlc4:upd H3 D2 (.lst ((ras2.map V.ref).set p (V.ref D))) lc=_:=(aL (fun z=>by rw[<- z,s2 _ _ hlc] at hD2;cases hD2)).trans hlc3;have hL4:upd H3 D2 (.lst ((ras2.map V.ref).set p (V.ref D))) D=_:=(aL (fun z=>by rw[<- z,hL] at hD2;cases hD2)).trans hL3;have rs4:Rows m n (S.next p q) (upd H3 D2 (.lst ((ras2.map V.ref).set p (V.ref D)))) D2 (ras2.set p D):=by
   refine⟨by rw[aC,qPj],by rw[qIh];exact hl2,fun k' r e=>?_⟩;rw[qGh] at e;by_cases ek:p=k'
   ·rw[if_pos ek] at e;subst ek;rw[if_pos (by rw[hl2];exact hp)] at e;cases e;rw[hL4];congr 2;refine dJ fun j _=>?_;show _=Wg.iC S.d S.R p q p j;unfold Wg.iC;rw[if_pos rfl]
   ·rw[if_neg ek] at e;obtain⟨a1,a2,a3⟩:=nw.at_ k' r e;rw[aL a2,a3];congr 2;refine dJ fun j _=>?_;show _=Wg.iC S.d S.R p q k' j;unfold Wg.iC;rw[if_neg (fun z=>ek z.symm)]
  have nDx:D≠x:=fun z=>by rw[z,hx] at hD;cases hD
  have nDl:D≠lc:=fun z=>by rw[z,hlc] at hD;cases hD
  have nD2l:D2≠lc:=fun z=>by rw[z,s2 _ _ hlc] at hD2;cases hD2
  have nrl:∀k' r,(ras2.set p D)[k']?=some r->r≠lc:=fun k' r e=>by
   rw[qGh] at e;by_cases ek:p=k'
   ·rw[if_pos ek] at e;subst ek;rw[if_pos (by rw[hl2];exact hp)] at e;cases e;exact nDl
   ·rw[if_neg ek] at e;obtain⟨a1,_,_⟩:=nw.at_ k' r e;exact fun z=>by rw[z,s2 _ _ hlc] at a1;cases a1
  generalize upd H3 D2 (.lst ((ras2.map V.ref).set p (V.ref D)))=H4 at b4 hx4 hlc4 hL4 rs4|-;obtain⟨nrx1,nrx2⟩:=Li rs4 hx4;refine⟨_,rfl,_,rfl,x,FR,dx,_,rfl,hx4,T.cP.oc.cl,T.cP.nr,by show 4<1000;decide,?_⟩;have nlx:lc≠x:=kO hlc hx (by intro z;cases z);have e5:upd H4 x (.ins FR dx (dN "rows" (V.ref D2) [("many",V.int (n:Int)),("bottom",.int S.d),("rows",.ref lr),("chosen",.ref lc)])) x=some (.ins FR dx [("many",V.int (n:Int)),("bottom",.int S.d),("rows",.ref D2),("chosen",.ref lc)]):=aC;have b5:oG x lc H (upd H4 x (.ins FR dx (dN "rows" (V.ref D2) [("many",V.int (n:Int)),("bottom",.int S.d),("rows",.ref lr),("chosen",.ref lc)]))):=b4.oA _;have hL5:=(aL (H:=H4) (o:=.ins FR dx (dN "rows" (V.ref D2) [("many",V.int (n:Int)),("bottom",.int S.d),("rows",.ref lr),("chosen",.ref lc)])) nDx).trans hL4;have rs5:Rows m n (S.next p q) (upd H4 x (.ins FR dx (dN "rows" (V.ref D2) [("many",V.int (n:Int)),("bottom",.int S.d),("rows",.ref lr),("chosen",.ref lc)]))) D2 (ras2.set p D) :=
   ⟨by rw[aL nrx1];exact rs4.hr,rs4.len,fun k' r e=>by rw[aL (nrx2 k' r e)];exact rs4.at_ k' r e⟩
  have hlc5:=(aL (H:=H4) (o:=.ins FR dx (dN "rows" (V.ref D2) [("many",V.int (n:Int)),("bottom",.int S.d),("rows",.ref lr),("chosen",.ref lc)])) nlx).trans hlc4;generalize upd H4 x (.ins FR dx (dN "rows" (V.ref D2) [("many",V.int (n:Int)),("bottom",.int S.d),("rows",.ref lr),("chosen",.ref lc)]))=H5 at e5 b5 hL5 rs5 hlc5|-;refine⟨_,rfl,_,rfl,D,_,_,_,rfl,rfl,aR.of hL5,bT (by lia),_,rfl,x,FR,dx,_,rfl,e5,T.cP.oc.cl,T.cP.nb,by show 4<1000;decide,?_⟩;have e6:upd H5 x (.ins FR dx (dN "bottom" (V.int (Wg.sgn (S.R p q)*S.R p q)) [("many",V.int (n:Int)),("bottom",.int S.d),("rows",.ref D2),("chosen",.ref lc)])) x=some (.ins FR dx [("many",V.int (n:Int)),("bottom",.int (Wg.sgn (S.R p q)*S.R p q)),("rows",.ref D2),("chosen",.ref lc)]):=aC;have b6:oG x lc H (upd H5 x (.ins FR dx (dN "bottom" (V.int (Wg.sgn (S.R p q)*S.R p q)) [("many",V.int (n:Int)),("bottom",.int S.d),("rows",.ref D2),("chosen",.ref lc)]))):=b5.oA _;have rs6:Rows m n (S.next p q) (upd H5 x (.ins FR dx (dN "bottom" (V.int (Wg.sgn (S.R p q)*S.R p q)) [("many",V.int (n:Int)),("bottom",.int S.d),("rows",.ref D2),("chosen",.ref lc)]))) D2 (ras2.set p D) :=
   ⟨by rw[aL nrx1];exact rs5.hr,rs5.len,fun k' r e=>by rw[aL (nrx2 k' r e)];exact rs5.at_ k' r e⟩
  have hlc6:=(aL (H:=H5) (o:=.ins FR dx (dN "bottom" (V.int (Wg.sgn (S.R p q)*S.R p q)) [("many",V.int (n:Int)),("bottom",.int S.d),("rows",.ref D2),("chosen",.ref lc)])) nlx).trans hlc5;generalize upd H5 x (.ins FR dx (dN "bottom" (V.int (Wg.sgn (S.R p q)*S.R p q)) [("many",V.int (n:Int)),("bottom",.int S.d),("rows",.ref D2),("chosen",.ref lc)]))=H6 at e6 b6 rs6 hlc6|-;refine⟨_,rfl,_,rfl,x,FR,dx,_,_,rfl,e6,T.cP.oc.cl,T.cP.nc,rfl,_,rfl,lc,_,_,p,rfl,rfl,hlc6,by unfold uT;rw[aI];exact gI hp,?_⟩;refine k _ (b6.QH _) ⟨dx,D2,_,(aL (fun z=>nlx z.symm)).trans e6,⟨(aL nD2l).trans rs6.hr,rs6.len,fun k' r e=>(aL (nrl k' r e)).trans (rs6.at_ k' r e)⟩,?_⟩;rw[aC];unfold uT;rw[oP];congr 2;refine dJ fun k' _=>?_;show _=((Wg.Gu S.ch p q k':Nat):Int);unfold Wg.Gu;split <;> rfl
structure Ct (m n:Nat) (c:Nat->Int) (H:Hp) (pg:Addr):Prop where
 hg:H pg=some (.lst (a9 (n+m) c))
 sz:∀j,Sm 100000 (c j)
theorem Ct.same (h:Ct m n c H pg)(s:aG H H'):Ct m n c H' pg:=⟨s _ _ h.hg,h.sz⟩
theorem uL (rs:Rows m n S H lr ras):(uT m S).length=(ras.map V.ref).length:=by unfold uT;rw[aI,qAc,rs.len]
def HA (FR:Addr):Sp:=fun vs H Q _=>∃(m n:Nat) (A:Nat->Nat->Int) (due:Nat->Int) (c:Nat->Int) (x lc pg:Addr) (S:Wg.St) (q:Nat),vs=[.ref x,.int (q:Int),.ref pg]/\g8 FR m n H x lc S/\Good m n A due S/\Ct m n c H pg/\q<n /\
 ∀H',aG H H'->Q (.bl (decide (0<S.red m c q))) H'
theorem HB:aO ["self","column","gains","given_up"] ["self","column","gains"] (aJ Ca):=by constructor<;>first|rfl|decide +kernel
theorem Lk (t:Mx K "gains_more" "Frame.gains_more" Ca ["self","column","gains"] f fd)(T:T K mg AL LN FR iF fCh fGM fCC fCA fPL SE NN NG NT NR NS NV NO NL NX TM UL):Md P w K mg base 1 ["self","column","gains"] (HA FR) f:=by
 refine t.MQ HB (fun vs H Q E h=>?_) (fun cdv _A outer s H vs Q E hr h=>?_)
 ·obtain⟨m,n,A,due,c,x,lc,pg,S,q,rfl,_⟩:=h;rfl
 ·obtain⟨m,n,A,due,c,x,lc,pg,S,q,rfl,⟨dx,lr,ras,hx,rs,hlc⟩,gd,gn,hq,k⟩:=h;have m8:=gd.ins.m8;have pU:=gd.ins.pU;obtain⟨sd,sR⟩:=gd.ins.size gd.ok;refine⟨_,(aD (aP (i:=3) HB.nd rfl bP (aN (jO rfl) (by rfl) T.lZ pG (aA (bO (NB:=["chosen","row","column","gains"]) (pick:=[none,none,some 1,some 2]) (bF (by with_unfolding_all rfl) (by exact(And.intro rfl (And.intro rfl trivial))) rfl (by decide +kernel) (by decide +kernel) (by rfl) (by rfl)) rfl
     (gU (by rfl) T.g4 (aA (bX (pv 0) rfl) (aA (bX (pv 0) rfl) aB))) (fun _ _ _=>(show PG _ _ (oZ K 2 (eM (aZ 0) (eM (aZ 1) oY))) from fE rfl (bG (aM (i:=0) (show(["chosen","row","column","gains"]:List Str).Nodup from by decide +kernel) rfl bP) (bG (aM (i:=1) (show(["chosen","row","column","gains"]:List Str).Nodup from by decide +kernel) rfl bP) dH))))
     (fun _ _ _=>bI) (fun _ _ _=>(aQ bS (aU (bV K) (pv 3) (pv 0) (fun _ _=>rfl)) (aU (bV K) (pv 1) (pv 2) (fun _ _=>rfl))))) aB)))
   (aH (aS (dR kQ (pv 3) (aQ bS (aU bC (pv 2) (pv 1) (fun _ _=>rfl)) (bX (pv 0) rfl)) (aX _))))),?_⟩
  refine⟨_,rfl,x,FR,dx,_,_,rfl,hx,T.cP.oc.cl,T.cP.nc,rfl,_,rfl,x,FR,dx,_,_,rfl,hx,T.cP.oc.cl,T.cP.nr,rfl,lc,lr,rfl,⟨_,aR.of hlc⟩,⟨_,aR.of rs.hr⟩,?_⟩;refine j7 (xs:=uT m S) (ys:=ras.map V.ref) (fun σ'=>∃o0 o1:Option V,σ'=[o0,o1,some (.int (q:Int)),some (.ref pg)]) (fun k' _ _=>some (.int (c (S.ch k')*S.R k' q))) ⟨_,_,rfl⟩ (aR.of hlc) (aR.of rs.hr) (uL rs) (by unfold uT;rw[aI];exact qAk (aK (by lia))) (fun k' x' y' tt σ1 H2 kk kk0 hσ s2 hx' hy' ht h1 h2=>?_) fun D H2 hD s2 hd=>?_
  ·obtain⟨o0,o1,rfl⟩:=hσ;obtain⟨hk',rfl⟩:=dE hx';obtain⟨r,er,rfl⟩:=dP hy';have hch:=gd.ch k' hk';refine⟨tt,_,rfl,cX.of ht,rfl,_,_,rfl,_,_,rfl,rfl,?_⟩;exact⟨_,rfl,_,rfl,pg,_,_,_,rfl,rfl,aR.of (s2 _ _ gn.hg),bT hch,_,rfl,_,rfl,r,_,_,_,rfl,rfl,aR.of (s2 _ _ (rs.at_ k' r er)),bT (by lia),_,_,rfl,rfl,(gn.sz _).mb (sR k' hk' q),h1 _ _ ⟨_,_,rfl⟩ rfl _ (.refl _)⟩
  ·have hd':H2 D=some (.lst (((qAn m).map fun k'=>c (S.ch k')*S.R k' q).map V.int)):=by
    have e:(uT m S).length=m:=aI _ _;rw[hd,e,uH _ e (by rw[qAc,rs.len]),qCz];rfl
   refine⟨D,_,rfl,.inl (aR.of hd'),?_⟩;refine⟨_,rfl,_,rfl,_,rfl,pg,_,_,_,rfl,rfl,aR.of (s2 _ _ gn.hg),bT (by lia),_,rfl,x,FR,dx,_,_,rfl,s2 _ _ hx,T.cP.oc.cl,T.cP.nb,rfl,_,_,rfl,rfl,(gn.sz q).mb sd,_,_,rfl,rfl,?_⟩;rw[sJ];have e:decide (Wg.sm m (fun k'=>c (S.ch k')*S.R k' q)<c q*S.d)=decide (0<S.red m c q):=by
    refine decide_eq_decide.mpr ?_;unfold Wg.St.red Wg.red;lia
   show Q (.bl (decide (Wg.sm m (fun k'=>c (S.ch k')*S.R k' q)<c q*S.d))) H2;rw[e];exact k H2 s2
def Em (FR:Addr):Sp:=fun vs H Q _=>∃(m n:Nat) (A:Nat->Nat->Int) (due:Nat->Int) (c:Nat->Int) (x lc pg:Addr) (S:Wg.St),vs=[.ref x,.ref pg]/\g8 FR m n H x lc S/\Good m n A due S/\Ct m n c H pg /\
 ∀H',aG H H'->((∀j,j<n->S.red m c j<=0)->Q .non H')/\∀q:Nat,q<n->0<S.red m c q->(∀j,j<q->S.red m c j<=0)->Q (.int (q:Int)) H'
theorem HC:aO ["self","gains","column"] ["self","gains"] (aJ Cb):=by constructor<;>first|rfl|decide +kernel
theorem Ll (t:Mx K "column_to_choose" "Frame.column_to_choose" Cb ["self","gains"] f fd)(T:T K mg AL LN FR iF fCh fGM fCC fCA fPL SE NN NG NT NR NS NV NO NL NX TM UL)(DG:Md P w K mg base 1 ["self","column","gains"] (HA FR) fGM):Md P w K mg base 2 ["self","gains"] (Em FR) f:=by
 refine t.MQ HC (fun vs H Q E h=>?_) (fun cdv _A outer s H vs Q E hr h=>?_)
 ·obtain⟨m,n,A,due,c,x,lc,pg,S,rfl,_⟩:=h;rfl
 ·obtain⟨m,n,A,due,c,x,lc,pg,S,rfl,fo,gd,gn,k⟩:=h;have pU:=gd.ins.pU;obtain⟨dx,lr,ras,hx,rs,hlc⟩:=id fo;refine⟨_,(aD (eL PassesOwn.never rfl (c9 (by rfl) T.cM (aA (bX (pv 0) rfl) aB)) (aM (i:=2) HC.nd rfl bP)
    (aH (bU (cG (gW (k:=1) cI (pv 0) hr (by decide) (aA (pv 2) (aA (pv 1) aB)))) (aH (aS (pv 2))) a8)))
   (aH (aS iQ))),?_⟩
  refine⟨_,rfl,x,FR,dx,_,_,rfl,hx,T.cP.oc.cl,T.cP.nm,rfl,n,rfl,by lia,by lia,?_⟩;refine qZ (n:=n) (fun i σ H2=>aG H H2/\(∃o:Option V,σ=[some (.ref x),some (.ref pg),o])/\∀j,j<i->S.red m c j<=0) ⟨.refl _,⟨_,rfl⟩,fun j hj=>by lia⟩ (fun i σ H2 hi ⟨s2,⟨o,eσ⟩,le⟩=>?_) (fun σ H2 ⟨s2,⟨o,eσ⟩,le⟩=>?_)
  ·subst eσ;refine⟨_,rfl,x,FR,dx,_,fGM,_,rfl,s2 _ _ hx,rfl,T.cP.oc.cl,T.cP.RL,⟨_,DG⟩,?_⟩;refine⟨_,rfl,_,rfl,m,n,A,due,c,x,lc,pg,S,i,?_,fo.same s2,gd,gn.same s2,hi,fun H3 s3=>?_⟩
   ·rw[qDt]
   ·refine⟨_,rfl,cJ (fun z=>⟨_,rfl,?_⟩) (fun z=>⟨s2.trans s3,⟨_,rfl⟩,fun j hj=>?_⟩)⟩
    ·rw[qDt];exact(k H3 (s2.trans s3)).2 i hi (of_decide_eq_true z) le
    ·by_cases e:j=i
     ·subst e;have:¬(0<S.red m c j):=fun y=>z (decide_eq_true y);lia
     ·exact le j (by lia)
  ·exact(k H2 s2).1 le
def HD (FR:Addr):Sp:=fun vs H Q _=>∃(m n:Nat) (A:Nat->Nat->Int) (due:Nat->Int) (x lc:Addr) (S:Wg.St) (a b q:Nat),vs=[.ref x,.int (a:Int),.int (b:Int),.int (q:Int)]/\g8 FR m n H x lc S/\Good m n A due S/\a<m/\b<m/\q<n /\
 Q (.bl (decide (S.R a (n+m)*S.R b q<S.R b (n+m)*S.R a q\/(S.R a (n+m)*S.R b q=S.R b (n+m)*S.R a q/\S.ch a<S.ch b)))) H
theorem En:aO ["self","one","other","column","first","second"] ["self","one","other","column"] (aJ Cc):=by constructor<;>first|rfl|decide +kernel
theorem Lm (t:Mx K "comes_ahead" "Frame.comes_ahead" Cc ["self","one","other","column"] f fd)(T:T K mg AL LN FR iF fCh fGM fCC fCA fPL SE NN NG NT NR NS NV NO NL NX TM UL):Md P w K mg base 1 ["self","one","other","column"] (HD FR) f:=by
 refine t.MQ En (fun vs H Q E h=>?_) (fun cdv _A outer s H vs Q E hr h=>?_)
 ·obtain⟨m,n,A,due,x,lc,S,a,b,q,rfl,_⟩:=h;rfl
 ·obtain⟨m,n,A,due,x,lc,S,a,b,q,rfl,⟨dx,lr,ras,hx,rs,hlc⟩,gd,ha,hb,hq,k⟩:=h;obtain⟨sd,sR⟩:=gd.ins.size gd.ok;obtain⟨ra,ea,aa,hra⟩:=rs.get ha;obtain⟨rb,eb,ab,hrb⟩:=rs.get hb;refine⟨_,(aD (aP (i:=4) En.nd rfl bP (aQ bS (aU bC (aU bC (bX (pv 0) rfl) (pv 1) (fun _ _=>rfl)) (gM fF aE) (fun _ _=>rfl)) (aU bC (aU bC (bX (pv 0) rfl) (pv 2) (fun _ _=>rfl)) (pv 3) (fun _ _=>rfl))))
   (aD (aP (i:=5) En.nd rfl bP (aQ bS (aU bC (aU bC (bX (pv 0) rfl) (pv 2) (fun _ _=>rfl)) (gM fF aE) (fun _ _=>rfl)) (aU bC (aU bC (bX (pv 0) rfl) (pv 1) (fun _ _=>rfl)) (pv 3) (fun _ _=>rfl))))
   (aH (aS (Ng (dR kQ (pv 4) (pv 5) (aX _)) (jF (k6 (dR eO (pv 4) (pv 5) (aX _)) (jF (dR kQ (aU bC (bX (pv 0) rfl) (pv 1) (fun _ _=>rfl)) (aU bC (bX (pv 0) rfl) (pv 2) (fun _ _=>rfl)) (aX _)))))))))),?_⟩
  have la:gQ (uK m n S a) (-1)=some (.int (S.R a (n+m))):=mC (n+m) _;have lb:gQ (uK m n S b) (-1)=some (.int (S.R b (n+m))):=mC (n+m) _;refine⟨_,rfl,x,FR,dx,_,_,rfl,hx,T.cP.oc.cl,T.cP.nr,rfl,_,rfl,lr,_,_,_,rfl,rfl,aR.of rs.hr,aa,_,rfl,ra,_,_,_,rfl,rfl,aR.of hra,la,?_⟩;refine⟨_,rfl,x,FR,dx,_,_,rfl,hx,T.cP.oc.cl,T.cP.nr,rfl,_,rfl,lr,_,_,_,rfl,rfl,aR.of rs.hr,ab,_,rfl,rb,_,_,_,rfl,rfl,aR.of hrb,bT (by lia),_,_,rfl,rfl,(sR a ha _).mb (sR b hb _),?_⟩;refine⟨_,rfl,x,FR,dx,_,_,rfl,hx,T.cP.oc.cl,T.cP.nr,rfl,_,rfl,lr,_,_,_,rfl,rfl,aR.of rs.hr,ab,_,rfl,rb,_,_,_,rfl,rfl,aR.of hrb,lb,?_⟩;refine⟨_,rfl,x,FR,dx,_,_,rfl,hx,T.cP.oc.cl,T.cP.nr,rfl,_,rfl,lr,_,_,_,rfl,rfl,aR.of rs.hr,aa,_,rfl,ra,_,_,_,rfl,rfl,aR.of hra,bT (by lia),_,_,rfl,rfl,(sR b hb _).mb (sR a ha _),?_⟩;refine⟨_,rfl,_,rfl,_,_,rfl,rfl,_,rfl,cJ (fun z=>?_) (fun z=>?_)⟩
  ·rw[decide_eq_true (.inl (of_decide_eq_true z))] at k;exact k
  ·have z1:¬S.R a (n+m)*S.R b q<S.R b (n+m)*S.R a q:=fun y=>z (decide_eq_true y);refine⟨_,rfl,_,rfl,rfl,_,rfl,cJ (fun z2=>?_) (fun z2=>?_)⟩
   ·have e:=V.int.inj (of_decide_eq_true z2);refine⟨_,rfl,x,FR,dx,_,_,rfl,hx,T.cP.oc.cl,T.cP.nc,rfl,_,rfl,lc,_,_,_,rfl,rfl,aR.of hlc,bT ha,_,rfl,x,FR,dx,_,_,rfl,hx,T.cP.oc.cl,T.cP.nc,rfl,_,rfl,lc,_,_,_,rfl,rfl,aR.of hlc,bT hb,_,_,rfl,rfl,?_⟩;have e2:decide (((S.ch a:Nat):Int)<((S.ch b:Nat):Int))=decide (S.R a (n+m)*S.R b q<S.R b (n+m)*S.R a q\/S.R a (n+m)*S.R b q=S.R b (n+m)*S.R a q/\S.ch a<S.ch b):=by
     refine decide_eq_decide.mpr ⟨fun y=>.inr ⟨e,by lia⟩,fun y=>?_⟩;rcases y with y | ⟨_,y⟩ <;> lia
    rw[<- e2] at k;exact k
   ·have e:¬S.R a (n+m)*S.R b q=S.R b (n+m)*S.R a q:=fun y=>z2 (decide_eq_true (congrArg V.int y));rw[decide_eq_false (fun y=>by rcases y with y | ⟨y,_⟩ <;> contradiction)] at k;exact k
def HE (FR:Addr):Sp:=fun vs H Q _=>∃(m n:Nat) (A:Nat->Nat->Int) (due:Nat->Int) (x lc:Addr) (S:Wg.St) (q:Nat),vs=[.ref x,.int (q:Int)]/\g8 FR m n H x lc S/\Good m n A due S/\q<n /\
 ∀H',aG H H'->((∀k,k<m->S.R k q<=0)->Q .non H')/\∀p:Nat,p<m->0<S.R p q->(∀k,k<m->0<S.R k q->Wg.Ah (n+m) q S p k)->Q (.int (p:Int)) H'
def QK (L q:Nat)(S:Wg.St)(i:Nat)(v:V):Prop:=(v = .non/\∀k,k<i->S.R k q<=0)\/∃p:Nat,v = .int (p:Int)/\p<i/\0<S.R p q/\∀k,k<i->0<S.R k q->Wg.Ah L q S p k
theorem wY:aO ["self","column","found","place","row"] ["self","column"] (aJ Cd):=by constructor<;>first|rfl|decide +kernel
theorem Ln (t:Mx K "place_to_leave" "Frame.place_to_leave" Cd ["self","column"] f fd)(T:T K mg AL LN FR iF fCh fGM fCC fCA fPL SE NN NG NT NR NS NV NO NL NX TM UL)(DA:Md P w K mg base 1 ["self","one","other","column"] (HD FR) fCA):Md P w K mg base 2 ["self","column"] (HE FR) f:=by
 refine t.MQ wY (fun vs H Q E h=>?_) (fun cdv _A outer s H vs Q E hr h=>?_)
 ·obtain⟨m,n,A,due,x,lc,S,q,rfl,_⟩:=h;rfl
 ·obtain⟨m,n,A,due,x,lc,S,q,rfl,fo,gd,hq,k⟩:=h;obtain⟨dx,lr,ras,hx,rs,hlc⟩:=id fo;refine⟨_,(aD (aP (i:=2) wY.nd rfl bP iQ)
   (aD (eL PassesOwn.never rfl (oK (by rfl) T.jV (aA (bX (pv 0) rfl) aB)) (fE rfl (bG (aM (i:=3) wY.nd rfl bP) (bG (aM (i:=4) wY.nd rfl bP) dH)))
    (aH (bU (PW.pt (pw_and (aW uZ (aU bC (pv 4) (pv 1) (fun _ _=>rfl)) aE (aX _)) (pw_and1 (PW.pt (pw_or (aW xS (pv 2) iQ (aX _)) (pw_or1 (cG (gW (k:=1) cI (pv 0) hr (by decide) (aA (pv 3) (aA (pv 2) (aA (pv 1) aB))))))))))) (aH (aP (i:=2) wY.nd rfl bP (pv 3))) a8)))
   (aH (aS (pv 2))))),?_⟩
  refine⟨_,rfl,x,FR,dx,_,_,rfl,hx,T.cP.oc.cl,T.cP.nr,rfl,lr,rfl,⟨_,aR.of rs.hr⟩,?_⟩;refine vR (xs:=ras.map V.ref) (fun i σ H2=>aG H H2/\∃(v:V) (o3 o4:Option V),σ=[some (.ref x),some (.int (q:Int)),some v,o3,o4]/\QK (n+m) q S i v) ⟨.refl _,.non,_,_,rfl,.inl ⟨rfl,fun k' hk'=>by lia⟩⟩ (fun i σ H2 _ ⟨s2,_⟩=>aR.of (s2 _ _ rs.hr)) (fun i y tt σ H2 hy ht ⟨s2,v,o3,o4,eσ,fn⟩=>?_) (fun σ H2 ⟨s2,v,o3,o4,eσ,fn⟩=>?_)
  ·subst eσ;obtain⟨r,er,rfl⟩:=dP hy;have hi:i<m:=by
    obtain⟨z,_⟩:=List.getElem?_eq_some_iff.mp er;rw[rs.len] at z;exact z
   have u2:=aG.aF (o:=.tup [.int (i:Int),.ref r]) ht;have e2:upd H2 tt (.tup [.int (i:Int),.ref r]) tt=some (.tup [.int (i:Int),.ref r]):=aC;generalize upd H2 tt (.tup [.int (i:Int),.ref r])=H3 at u2 e2|-;have s3:=s2.trans u2;refine⟨tt,_,rfl,cX.of e2,rfl,_,_,rfl,_,_,rfl,rfl,?_⟩;have goOn:∀(v':V),(∀w',v'=w'->True)->QK (n+m) q S (i+1) v'->aG H H3/\∃(v:V) (o3 o4:Option V),[some (V.ref x),some (V.int (q:Int)),some v',some (V.int (i:Int)),some (V.ref r)]=[some (.ref x),some (.int (q:Int)),some v,o3,o4]/\QK (n+m) q S (i+1) v:=fun v' _ h=>⟨s3,v',_,_,rfl,h⟩;refine⟨_,rfl,_,rfl,r,_,_,_,rfl,rfl,aR.of (s3 _ _ (rs.at_ i r er)),bT (by lia),_,_,rfl,rfl,_,rfl,cJ (fun z=>?_) (fun z=>?_)⟩
   ·have pos:0<S.R i q:=of_decide_eq_true z;rcases fn with ⟨rfl,no⟩ | ⟨p,rfl,hp,pp,ah⟩
    ·refine⟨_,rfl,rfl,_,rfl,eQ ?_⟩;refine⟨_,rfl,goOn _ (fun _ _=>trivial) (.inr ⟨i,rfl,by lia,pos,fun k' hk' pk=>?_⟩)⟩;by_cases e:k'=i
     ·rw[e];exact .refl _
     ·have:=no k' (by lia);lia
    ·refine⟨_,rfl,rfl,_,rfl,dO ?_⟩;refine⟨_,rfl,x,FR,dx,_,fCA,_,rfl,s3 _ _ hx,rfl,T.cP.oc.cl,T.cP.RM,⟨_,DA⟩,?_⟩;refine⟨_,rfl,_,rfl,_,rfl,m,n,A,due,x,lc,S,i,p,q,rfl,fo.same s3,gd,hi,by lia,hq,?_⟩;refine⟨_,rfl,cJ (fun y=>?_) (fun y=>?_)⟩
     ·refine⟨_,rfl,goOn _ (fun _ _=>trivial) (.inr ⟨i,rfl,by lia,pos,fun k' hk' pk=>?_⟩)⟩;by_cases e:k'=i
      ·rw[e];exact .refl _
      ·exact .trans pos pp pk (.of (of_decide_eq_true y)) (ah k' (by lia) pk)
     ·refine goOn _ (fun _ _=>trivial) (.inr ⟨p,rfl,by lia,pp,fun k' hk' pk=>?_⟩);by_cases e:k'=i
      ·rw[e];exact .JM (fun z=>y (decide_eq_true z))
      ·exact ah k' (by lia) pk
   ·have le:S.R i q<=0:=by
     have:¬(0<S.R i q):=fun y=>z (decide_eq_true y);lia
    refine goOn _ (fun _ _=>trivial) ?_;rcases fn with ⟨rfl,no⟩ | ⟨p,rfl,hp,pp,ah⟩
    ·refine .inl ⟨rfl,fun k' hk'=>?_⟩;by_cases e:k'=i
     ·rw[e];exact le
     ·exact no k' (by lia)
    ·refine .inr ⟨p,rfl,by lia,pp,fun k' hk' pk=>?_⟩;by_cases e:k'=i
     ·rw[e] at pk;lia
     ·exact ah k' (by lia) pk
  ·subst eσ;rw[qAc,rs.len] at fn;refine⟨_,rfl,?_⟩;rcases fn with ⟨rfl,no⟩ | ⟨p,rfl,hp,pp,ah⟩
   ·exact(k H2 s2).1 no
   ·exact(k H2 s2).2 p hp pp ah
def HF (FR:Addr):Sp:=fun vs H Q _=>∃(m n:Nat) (A:Nat->Nat->Int) (due:Nat->Int) (c:Nat->Int) (x lc pg:Addr) (S:Wg.St),vs=[.ref x,.ref pg]/\g8 FR m n H x lc S/\Good m n A due S/\(∀k,k<m->0<=S.R k (n+m))/\Ct m n c H pg/\pg≠lc /\
 ∀(S':Wg.St) (H':Hp),oG x lc H H'->g8 FR m n H' x lc S'->Good m n A due S'->(∃T st p q,Wg.Run m n (n+m) (Wg.gD m n A due) c T st p q/\st 0=S/\st T=S') ->
  ((∀j,j<n->S'.red m c j<=0)->Q .non H')/\∀q:Nat,q<n->0<S'.red m c q->(∀k,k<m->S'.R k q<=0)->Q (.int (q:Int)) H'
def QL (m n:Nat)(c:Nat->Int)(S:Wg.St)(v:V):Prop:=(v = .non/\∀j,j<n->S.red m c j<=0)\/∃q:Nat,v = .int (q:Int)/\q<n/\0<S.red m c q/\∀j,j<q->S.red m c j<=0
theorem AE:aO ["frame","gains","column","place"] ["frame","gains"] (aJ JX):=by constructor<;>first|rfl|decide +kernel
theorem Lo (t:Tx K mg "climb" JX ["frame","gains"] f fd)(T:T K mg AL LN FR iF fCh fGM fCC fCA fPL SE NN NG NT NR NS NV NO NL NX TM UL)(DC:Md P w K mg base 2 ["self","gains"] (Em FR) fCC)(DP:Md P w K mg base 2 ["self","column"] (HE FR) fPL)(DH:Md P w K mg base 2 ["self","place","column"] (El FR) fCh):
  Df P w K mg base cA 3 "climb" ["frame","gains"] (HF FR) f fd:=by
 refine t.iJ AE (fun vs H Q E h=>?_) (fun cdv _A outer s H vs Q E hr h=>?_)
 ·obtain⟨m,n,A,due,c,x,lc,pg,S,rfl,_⟩:=h;rfl
 ·obtain⟨m,n,A,due,c,x,lc,pg,S,rfl,fo,gd,fe,gn,npl,k⟩:=h;have hch:=gd.ch;refine⟨_,(aD (aP (i:=2) AE.nd rfl bP (gW (k:=2) cI (pv 0) hr (by decide) (aA (pv 1) aB)))
   (aD (pA PassesOwn.never (aW FK (pv 2) iQ (aX _))
    (aD (aP (i:=3) AE.nd rfl bP (gW (k:=2) cI (pv 0) hr (by decide) (aA (pv 2) aB)))
    (aD (bU (aW xS (pv 3) iQ (aX _)) (aH (aS (pv 2))) a8)
    (aD (eX (gW (k:=2) cI (pv 0) hr (by decide) (aA (pv 3) (aA (pv 2) aB))))
    (aH (aP (i:=2) AE.nd rfl bP (gW (k:=2) cI (pv 0) hr (by decide) (aA (pv 1) aB))))))))
   (aH (aS iQ)))),?_⟩
  have ask:∀{S1:Wg.St}{H1:Hp}{R:VK}{E':XK},g8 FR m n H1 x lc S1->Good m n A due S1->Ct m n c H1 pg->(∀v H2,aG H1 H2->QL m n c S1 v->R v H2)->Em FR [.ref x,.ref pg] H1 R E':=fun {S1 H1 R E'} f1 g1 n1 kk =>
   ⟨m,n,A,due,c,x,lc,pg,S1,rfl,f1,g1,n1,fun H2 s2=>⟨fun no=>kk _ H2 s2 (.inl ⟨rfl,no⟩),fun q hq pos le=>kk _ H2 s2 (.inr ⟨q,rfl,hq,pos,le⟩)⟩⟩
  obtain⟨dx,lr,ras,hx,rs,hlc⟩:=id fo;refine⟨_,rfl,x,FR,dx,_,fCC,_,rfl,hx,rfl,T.cP.oc.cl,T.cP.Rk,⟨_,DC⟩,_,rfl,?_⟩;dsimp only[fP];refine ask fo gd gn fun v0 H1 s1 nx0=>?_;refine⟨fun mm σ H2=>∃(TT:Nat) (st:Nat->Wg.St) (p q:Nat->Nat) (v:V) (o:Option V),Wg.Run m n (n+m) (Wg.gD m n A due) c TT st p q/\st 0=S/\mm=(n+m)^m-TT/\oG x lc H H2/\g8 FR m n H2 x lc (st TT)/\Good m n A due (st TT)/\σ=[some (.ref x),some (.ref pg),some v,o]/\QL m n c (st TT) v,
   ⟨_,0,fun _=>S,fun _=>0,fun _=>0,v0,none,.none gd.ok fe,rfl,rfl,Hx s1 x lc,fo.same s1,gd,rfl,nx0⟩,?_⟩
  rintro mm σ H2 ⟨TT,st,p,q,v,o,run,e0,rfl,sb,f2,g2,rfl,nx⟩;have hpx:pg≠x:=kO gn.hg hx (by intro z;cases z);have gn2:Ct m n c H2 pg:=⟨sb _ _ hpx npl gn.hg,gn.sz⟩;obtain⟨dx2,lr2,ras2,hx2,rs2,hlc2⟩:=id f2;refine⟨_,rfl,rfl,_,rfl,?_⟩;rcases nx with ⟨rfl,no⟩ | ⟨q0,rfl,hq0,pos,le⟩
  ·exact dO ((k (st TT) H2 sb f2 g2 ⟨TT,st,p,q,run,e0,rfl⟩).1 no)
  ·refine eQ ⟨fun σ' H'=>∃(TT':Nat) (st':Nat->Wg.St) (p' q':Nat->Nat) (v:V) (o:Option V),Wg.Run m n (n+m) (Wg.gD m n A due) c TT' st' p' q'/\st' 0=S/\TT'=TT+1/\oG x lc H H'/\g8 FR m n H' x lc (st' TT')/\Good m n A due (st' TT')/\σ'=[some (.ref x),some (.ref pg),some v,o]/\QL m n c (st' TT') v,?_,?_⟩
   ·rintro σ' H' ⟨TT',st',p',q',v,o,run',e0',rfl,sb',f',g',eσ,nx'⟩;have z:=run'.ends (N:=n+m) (by lia) (by rw[e0'];exact hch);exact⟨_,by lia,TT+1,st',p',q',v,o,run',e0',rfl,sb',f',g',eσ,nx'⟩
   ·refine⟨_,rfl,x,FR,dx2,_,fPL,_,rfl,hx2,rfl,T.cP.oc.cl,T.cP.RN,⟨_,DP⟩,_,rfl,m,n,A,due,x,lc,st TT,q0,rfl,f2,g2,hq0,fun H3 s3=>⟨fun no=>?_,fun p0 hp0 pp ah=>?_⟩⟩
    ·refine⟨_,rfl,rfl,_,rfl,eQ ⟨_,rfl,?_⟩⟩;exact(k (st TT) H3 (sb.then s3) (f2.same s3) g2 ⟨TT,st,p,q,run,e0,rfl⟩).2 q0 hq0 pos no
    ·have go:Wg.Goes m n (n+m) c (st TT) p0 q0:=⟨hq0,pos,le,hp0,pp,ah⟩;obtain⟨st',p',q',run',e0',e1'⟩:=run.more go;have g3:Good m n A due ((st TT).next p0 q0):=g2.next hp0 hq0 (by lia);refine⟨_,rfl,rfl,_,rfl,dO ?_⟩;have hx3:=s3 _ _ hx2;refine⟨_,rfl,x,FR,dx2,_,fCh,_,rfl,hx3,rfl,T.cP.oc.cl,T.cP.Rj,⟨_,DH⟩,_,rfl,_,rfl,m,n,A,due,x,lc,st TT,p0,q0,rfl,f2.same s3,g2,hp0,hq0,by lia,fun H4 s4 f4=>?_⟩;obtain⟨dx4,lr4,ras4,hx4,rs4,hlc4⟩:=id f4;have sb4:=(sb.then s3).trans s4;refine⟨_,rfl,x,FR,dx4,_,fCC,_,rfl,hx4,rfl,T.cP.oc.cl,T.cP.Rk,⟨_,DC⟩,_,rfl,?_⟩;dsimp only[fP];refine ask f4 g3 ⟨sb4 _ _ hpx npl gn.hg,gn.sz⟩ fun v5 H5 s5 nx5=>?_;refine⟨TT+1,st',p',q',v5,_,run',e0'.trans e0,rfl,sb4.then s5,?_,?_,rfl,?_⟩
     ·rw[e1'];exact f4.same s5
     ·rw[e1'];exact g3
     ·rw[e1'];exact nx5
def uU (m n:Nat)(S:Wg.St):List Nat:=(qAn m).filter fun k=>decide (n<=S.ch k)
theorem mD:k∈uU m n S↔k<m/\n<=S.ch k:=by
 unfold uU;rw[qIg,qOp,decide_eq_true_iff]
def bE (ks:List Nat):List V:=ks.map fun(k:Nat)=>V.int (k:Int)
theorem AF {ks:List Nat}{i:Nat}{v:V}(h:(bE ks)[i]?=some v):∃k,ks[i]?=some k/\v = .int (k:Int):=by
 unfold bE at h;rw[qAo] at h;cases e:ks[i]? with
 | none=>rw[e] at h;cases h
 | some a=>rw[e] at h;exact⟨a,rfl,(Option.some.inj h).symm⟩
def Eo (FR:Addr):Sp:=fun vs H Q _=>∃(m n:Nat) (A:Nat->Nat->Int) (due:Nat->Int) (x lc:Addr) (S:Wg.St),vs=[.ref x]/\g8 FR m n H x lc S/\Good m n A due S/\∀D H',H D=none->aG H H'->H' D=some (.lst (bE (uU m n S)))->Q (.ref D) H'
theorem OJ:aO ["frame"] ["frame"] (aJ JY):=by constructor<;>first|rfl|decide +kernel
theorem Lp (t:Tx K mg "spare_places" JY ["frame"] f fd)(T:T K mg AL LN FR iF fCh fGM fCC fCA fPL SE NN NG NT NR NS NV NO NL NX TM UL):Df P w K mg base cA 1 "spare_places" ["frame"] (Eo FR) f fd:=by
 refine t.iJ OJ (fun vs H Q E h=>?_) (fun cdv _A outer s H vs Q E hr h=>?_)
 ·obtain⟨m,n,A,due,x,lc,S,rfl,_⟩:=h;rfl
 ·obtain⟨m,n,A,due,x,lc,S,rfl,⟨dx,lr,ras,hx,rs,hlc⟩,gd,k⟩:=h;have m8:=gd.ins.m8;refine⟨_,(aH (aS (bO (NB:=["place","column","frame"]) (pick:=[none,none,some 0]) (bF (by with_unfolding_all rfl) (by exact(And.intro rfl trivial)) rfl (by decide +kernel) (by decide +kernel) (by rfl) (by rfl)) rfl
     (oK (by rfl) T.jV (aA (bX (pv 0) rfl) aB)) (fun _ _ _=>(show PG _ _ (oZ K 2 (eM (aZ 0) (eM (aZ 1) oY))) from fE rfl (bG (aM (i:=0) (show(["place","column","frame"]:List Str).Nodup from by decide +kernel) rfl bP) (bG (aM (i:=1) (show(["place","column","frame"]:List Str).Nodup from by decide +kernel) rfl bP) dH))))
     (fun _ _ _=>eZ (aW CB (pv 1) (lR K (pv 2) rfl) (aX _))) (fun _ _ _=>(pv 0))))),?_⟩
  refine⟨_,rfl,x,FR,dx,_,_,rfl,hx,T.cP.oc.cl,T.cP.nc,rfl,lc,rfl,⟨_,aR.of hlc⟩,?_⟩;refine pI (xs:=uT m S) (fun σ'=>∃o0 o1:Option V,σ'=[o0,o1,some (.ref x)]) (fun k' _=>if n<=S.ch k' then some (.int (k':Int)) else none) ⟨_,_,rfl⟩ (aR.of hlc) (by unfold uT;rw[aI];exact qAk (aK (by lia))) (fun i y tt σ1 H2 kk kk0 hσ s2 hy ht h1 h2=>?_) fun D H2 hD s2 hd=>?_
  ·obtain⟨o0,o1,rfl⟩:=hσ;obtain⟨hi,rfl⟩:=dE hy;refine⟨tt,_,rfl,cX.of ht,rfl,_,_,rfl,_,_,rfl,rfl,?_⟩;refine⟨_,rfl,_,rfl,x,FR,dx,_,_,rfl,s2 _ _ hx,T.cP.oc.cl,T.cP.nm,rfl,_,_,rfl,rfl,_,rfl,cJ (fun z=>?_) (fun z=>?_)⟩
   ·have z':n<=S.ch i:=by have:((n:Nat):Int)<=((S.ch i:Nat):Int):=of_decide_eq_true z;lia
    exact⟨_,rfl,h1 _ _ ⟨_,_,rfl⟩ (if_pos z') _ (.refl _)⟩
   ·have z':¬n<=S.ch i:=fun y=>z (decide_eq_true (by show((n:Nat):Int)<=((S.ch i:Nat):Int);lia));exact h2 _ ⟨_,_,rfl⟩ (if_neg z') _ (.refl _)
  ·refine k D H2 hD s2 ?_;rw[hd];have e:(uT m S).length=m:=aI _ _;rw[e];congr 2;unfold bE uU;rw[<- qGm,qMe];refine eB fun i hi=>?_;rw[qAd (by rw[e];exact List.mem_range.mp hi)];show(if n<=S.ch i then some (V.int (i:Int)) else none)=if decide (n<=S.ch i)=true then some (V.int (i:Int)) else none;by_cases z:n<=S.ch i
   ·rw[if_pos z,if_pos (decide_eq_true z)]
   ·rw[if_neg z,if_neg (fun y=>z (of_decide_eq_true y))]
def HG (FR:Addr):Sp:=fun vs H Q _=>∃(m n:Nat) (A:Nat->Nat->Int) (due:Nat->Int) (x lc:Addr) (S:Wg.St),vs=[.ref x]/\g8 FR m n H x lc S/\Good m n A due S/\(∀k,k<m->0<=S.R k (n+m))/\(∀k,k<m->n<=S.ch k->S.R k (n+m)=0) /\
 ∀(S':Wg.St) (H':Hp),oG x lc H H'->g8 FR m n H' x lc S'->Good m n A due S'->(∀k,k<m->0<=S'.R k (n+m))->Wg.Clean m n S'->Q .non H'
structure Lq (m n:Nat) (S:Wg.St) (ps:List Nat):Prop where
 fe:∀k,k<m->0<=S.R k (n+m)
 z0:∀k,k<m->n<=S.ch k->S.R k (n+m)=0
 GD:∀k∈ps,k<m/\n<=S.ch k
 done:∀k,k<m->n<=S.ch k->k∉ps->∀j,j<n->S.R k j=0
 nd:ps.Nodup
theorem Lq.skip (h:Lq m n S (p::ps))(r0:∀j,j<n->S.R p j=0):Lq m n S ps :=
 ⟨h.fe,h.z0,fun k hk=>h.GD k (qCh _ hk),fun k hk sp no=>by
  by_cases e:k=p
  ·rw[e];exact r0
  ·exact h.done k hk sp (fun z=>by rcases List.mem_cons.mp z with y | y <;> contradiction),(List.nodup_cons.mp h.nd).2⟩
theorem Lq.go (h:Lq m n S (p::ps))(ok:S.ok m M)(hq:q<n)(nz:S.R p q≠0):Lq m n (S.next p q) ps:=by
 obtain⟨hp,spp⟩:=h.GD p (qDk ..);obtain⟨z1,z2⟩:=Wg.BS ok hp nz (h.z0 p hp spp) h.fe;have nd:=List.nodup_cons.mp h.nd;have back:∀k,n<=(S.next p q).ch k->k≠p/\n<=S.ch k:=fun k sp=>by
  have ne:k≠p:=fun e=>by rw[e,Wg.St.gZ] at sp;lia
  rw[Wg.St.fO ne] at sp;exact⟨ne,sp⟩
 refine⟨z1,fun k hk sp=>z2 k hk (h.z0 k hk (back k sp).2),fun k hk=>?_,fun k hk sp no=>?_,nd.2⟩
 ·obtain⟨a,b⟩:=h.GD k (qCh _ hk);have ne:k≠p:=fun e=>nd.1 (e▸hk);exact⟨a,by rw[Wg.St.fO ne];exact b⟩
 ·obtain⟨ne,sp'⟩:=back k sp;exact Wg.DO ok hp hq nz hk ne (h.done k hk sp' (fun z=>by rcases List.mem_cons.mp z with y | y <;> contradiction))
def OK (n:Nat)(f:Nat->Int):List Nat:=(qAn n).filter fun j=>decide (f j≠0)
theorem Ep:aO ["frame","place","others"] ["frame"] (aJ JZ):=by constructor<;>first|rfl|decide +kernel
theorem Lr {f1:Addr}{fd1:qCl}(t:Tx K mg "leave_spares" JZ ["frame"] f fd)(T:T K mg AL LN FR iF fCh fGM fCC fCA fPL SE NN NG NT NR NS NV NO NL NX TM UL)(D_spare_places:Df P w K mg base cA 1 "spare_places" ["frame"] (Eo FR) f1 fd1)(DH:Md P w K mg base 2 ["self","place","column"] (El FR) fCh):
  Df P w K mg base cA 3 "leave_spares" ["frame"] (HG FR) f fd:=by
 refine t.iJ Ep (fun vs H Q E h=>?_) (fun cdv _A outer s H vs Q E hr h=>?_)
 ·obtain⟨m,n,A,due,x,lc,S,rfl,_⟩:=h;rfl
 ·obtain⟨m,n,A,due,x,lc,S,rfl,fo,gd,fe,z0,k⟩:=h;have pU:=gd.ins.pU;refine⟨_,(aH (eL PassesOwn.never rfl (bJ (aV D_spare_places hr (by decide) (by rfl) (aA (pv 0) aB))) (aM (i:=1) Ep.nd rfl (by first|exact .inl rfl|exact .inr rfl))
    (aD (cZ (NB:=["column","frame","place"]) (pick:=[none,some 0,some 1]) (i:=2) Ep.nd rfl bP (by rfl) (bF (by with_unfolding_all rfl) (by exact(And.intro rfl (And.intro rfl trivial))) rfl (by decide +kernel) (by decide +kernel) (by rfl) (by rfl)) rfl
     (c9 (by rfl) T.cM (aA (bX (pv 0) rfl) aB)) (fun _ _ _=>aM (i:=0) (show(["column","frame","place"]:List Str).Nodup from by decide +kernel) rfl bP)
     (fun _ _ _=>eZ (aW g9 (aU (bV K) (aU (bV K) (lR K (pv 1) rfl) (pv 2) (fun _ _=>rfl)) (pv 0) (fun _ _=>rfl)) aE (aX _))) (fun _ _ _=>(pv 0)))
    (aH (bU (aW uZ (aN aT (by rfl) T.cK bY (aA (pv 2) aB)) aE (aX _)) (aH (eX (gW (k:=2) cI (pv 0) hr (by decide) (aA (pv 1) (aA (aU bC (pv 2) aE (fun _ _=>rfl)) aB))))) a8))))),?_⟩
  refine⟨_,rfl,m,n,A,due,x,lc,S,rfl,fo,gd,fun D H1 hD s1 hd=>⟨D,rfl,⟨_,aR.of hd⟩,?_⟩⟩;obtain⟨dx0,lr0,ras0,hx0,rs0,hlc0⟩:=id fo;have nDx:D≠x:=fun z=>by rw[z,hx0] at hD;cases hD
  have nDl:D≠lc:=fun z=>by rw[z,hlc0] at hD;cases hD
  refine fV (xs:=bE (uU m n S)) (fun i σ H2=>∃(S2:Wg.St) (o1 o2:Option V),σ=[some (.ref x),o1,o2]/\oG x lc H1 H2/\g8 FR m n H2 x lc S2/\Good m n A due S2/\Lq m n S2 ((uU m n S).drop i)) ⟨S,_,_,rfl,.refl _,fo.same s1,gd,⟨fe,z0,fun k' hk'=>mD.mp hk',fun k' hk' sp no=>absurd (mD.mpr ⟨hk',sp⟩) no,List.nodup_range.filter _⟩⟩ (fun i σ H2 _ ⟨S2,o1,o2,_,sb,_⟩=>aR.of (sb _ _ nDx nDl hd)) (fun i y σ H2 hy ⟨S2,o1,o2,eσ,sb,f2,g2,lv⟩=>?_) (fun σ H2 ⟨S2,o1,o2,eσ,sb,f2,g2,lv⟩=>?_)
  ·subst eσ;obtain⟨p,ep,rfl⟩:=AF hy;obtain⟨hi,ep'⟩:=List.getElem?_eq_some_iff.mp ep;rw[List.drop_eq_getElem_cons hi,ep'] at lv;obtain⟨hp,spp⟩:=lv.GD p (qDk ..);obtain⟨dx,lr,ras,hx,rs,hlc⟩:=id f2;obtain⟨rp,erp,arp,hrp⟩:=rs.get hp;refine⟨_,rfl,x,FR,dx,_,_,rfl,hx,T.cP.oc.cl,T.cP.nm,rfl,n,rfl,by lia,by lia,?_⟩;refine jQ (n:=n) (fun j=>if S2.R p j≠0 then some (.int (j:Int)) else none) (qAk (aK (by lia))) (fun j H3 kk kk0 s3 hj g1 g2=>?_) fun D2 H3 hD2 s3 hd2=>?_
   ·refine⟨_,rfl,x,FR,dx,_,_,rfl,s3 _ _ hx,T.cP.oc.cl,T.cP.nr,rfl,_,rfl,lr,_,_,_,rfl,rfl,aR.of (s3 _ _ rs.hr),arp,_,rfl,rp,_,_,_,rfl,rfl,aR.of (s3 _ _ hrp),(show gQ (uK m n S2 p) (0+(j:Int))=some (.int (S2.R p j)) by rw[qDt];exact bT (by lia)),rfl,_,rfl,cJ (fun z=>?_) (fun z=>?_)⟩
    ·have z':S2.R p j≠0:=fun y=>by rw[y] at z;exact absurd z (by decide)
     exact⟨_,rfl,g1 _ (by rw[if_pos z',qDt]) _ (.refl _)⟩
    ·have z':¬S2.R p j≠0:=fun y=>z (by rw[decide_eq_false (fun q=>y (V.int.inj q))];rfl);exact g2 (if_neg z') _ (.refl _)
   ·have hd3:H3 D2=some (.lst (bE (OK n (S2.R p)))):=by
     rw[hd2];congr 2;unfold bE OK;rw[<- qGm,qMe];refine eB fun j hj=>?_;by_cases z:S2.R p j≠0
     ·rw[if_pos z,if_pos (decide_eq_true z)];rfl
     ·rw[if_neg z,if_neg (fun y=>z (of_decide_eq_true y))]
    refine⟨_,rfl,D2,_,rfl,.inl (aR.of hd3),_,_,rfl,rfl,_,rfl,?_⟩;cases en:OK n (S2.R p) with
    | nil =>
     rw[en] at hd3;refine cJ (fun z=>absurd z (by decide)) (fun _=>⟨S2,_,_,rfl,sb.then s3,f2.same s3,g2,lv.skip fun j hj=>qBf fun nz=>?_⟩);have:j∈OK n (S2.R p):=List.mem_filter.mpr ⟨List.mem_range.mpr hj,decide_eq_true nz⟩;rw[en] at this;cases this
    | cons q qs =>
     rw[en] at hd3;have hqm:q∈OK n (S2.R p):=by rw[en];exact qDk ..
     obtain⟨hq,nz⟩:=List.mem_filter.mp hqm;have hq:=List.mem_range.mp hq;have nz:S2.R p q≠0:=of_decide_eq_true nz;refine cJ (fun _=>?_) (fun z=>absurd (decide_eq_true (by show(0:Int)<(((bE (q::qs)).length:Nat):Int);exact Int.natCast_pos.mpr (qPn _))) z);refine⟨_,rfl,x,FR,dx,_,fCh,_,rfl,s3 _ _ hx,rfl,T.cP.oc.cl,T.cP.Rj,⟨_,DH⟩,_,rfl,_,rfl,D2,_,_,_,rfl,rfl,aR.of hd3,(show gQ (bE (q::qs)) ((0:Nat):Int)=some (.int (q:Int)) from fK rfl),m,n,A,due,x,lc,S2,p,q,rfl,f2.same s3,g2,hp,hq,nz,fun H4 s4 f4=>?_⟩;exact⟨S2.next p q,_,_,rfl,(sb.then s3).trans s4,f4,g2.next hp hq nz,lv.go g2.ok hq nz⟩
  ·subst eσ;have el:(bE (uU m n S)).length=(uU m n S).length:=by unfold bE;rw[qAc]
   rw[el,qOa] at lv;exact k S2 H2 ((Hx s1 x lc).trans sb) f2 g2 lv.fe fun k' hk' sp=>⟨lv.z0 k' hk' sp,lv.done k' hk' sp (qCv)⟩
abbrev fZ (a d:Int):HO:=.tup [.int (a.fdiv (dv a d)),.int (d.fdiv (dv a d))]
theorem pW (h:0<d):fZ 0 d = .tup [.int 0,.int 1]:=by
 have e:dv 0 d=d:=by
  unfold dv;rw[if_neg (by lia),Int.gcd_zero_left];lia
 unfold fZ;rw[e,Int.zero_fdiv,qPl (by lia)]
theorem GF (h:0<d):fZ d d = .tup [.int 1,.int 1]:=by
 have e:dv d d=d:=by
  unfold dv;rw[if_neg (by lia),Int.gcd_self];lia
 unfold fZ;rw[e,qPl (by lia)]
structure kN (n:Nat) (X:Nat->Int) (d:Int) (H:Hp) (l:Addr) (ws:List Addr):Prop where
 hr:H l=some (.lst (ws.map V.ref))
 len:ws.length=n
 at_:∀j w,ws[j]?=some w->H w=some (fZ (X j) d)
theorem kN.same (h:kN n X d H l ws)(s:aG H H'):kN n X d H' l ws:=⟨s _ _ h.hr,h.len,fun j w e=>s _ _ (h.at_ j w e)⟩
theorem kN.ext (h:kN n X d H l ws)(e:∀j,j<n->X j=Y j):kN n Y d H l ws:=⟨h.hr,h.len,fun j w ej=>by
 obtain⟨z,_⟩:=List.getElem?_eq_some_iff.mp ej;rw[<- e j (by rw[<- h.len];exact z)];exact h.at_ j w ej⟩
theorem kN.put (h:kN n X d H l ws){o:HO}{q:Nat}{a:Int}(ho:o=fZ a d)(hp:H p=none):kN n (fun j=>if j=q then a else X j) d (upd (upd H p o) l (.lst ((ws.map V.ref).set q (.ref p)))) l (ws.set q p):=by
 have npl:p≠l:=fun z=>by rw[z,h.hr] at hp;cases hp
 refine⟨by rw[aC,qPj],by rw[qIh];exact h.len,fun j w e=>?_⟩;rw[qGh] at e;by_cases ej:q=j
 ·rw[if_pos ej] at e;by_cases ql:q<ws.length
  ·rw[if_pos ql] at e;cases e;rw[aL npl,aC,if_pos ej.symm,ho]
  ·rw[if_neg ql] at e;cases e
 ·rw[if_neg ej] at e;have z:=h.at_ j w e;have n1:w≠l:=kO z h.hr (by intro z;cases z);have n2:w≠p:=bB z hp;rw[aL n1,aL n2,if_neg (fun y=>ej y.symm)];exact z
theorem Ls (a:Int)(hb:b≠0)(z:kR (.int a)=false\/kR (.int b)=false\/V.int b = .int 0):False:=by
 rcases z with z | z | z
 ·cases z
 ·cases z
 ·exact hb (V.int.inj z)
theorem pX (hb:b≠0)(sb:Sm 8000 b)(k:∀p,H p=none->R (.ref p) (upd H p (fZ a b))):uG K NN [.int a,.int b] H R E :=
 ⟨_,_,rfl,.int _,.int _,fun z=>(Ls a hb z).elim,fun a' b' h1 h2 _=>by
  cases h1
  cases h2
  exact⟨sb,k⟩⟩
theorem oQ (ok:S.ok m M)(hi:i<m)(f:Nat->Int)(j:Nat):Wg.wt (i+1) f S j=if j=S.ch i then f i else Wg.wt i f S j:=by
 show Wg.wt i f S j+(if S.ch i=j then f i else 0)=_;by_cases e:j=S.ch i
 ·rw[if_pos e,if_pos e.symm,Wg.Hv f fun k hk z=>?_,qDt];have:=Wg.Fr.inj ok (by lia) hi (z.trans e);lia
 ·rw[if_neg e,if_neg (fun z=>e z.symm),qEb]
theorem pY (n:Nat)(t:Addr):(qBc n [V.ref t]).flatten=(qBc n t).map V.ref:=by
 induction n with
 | zero=>rfl
 | succ n ih=>rw[qEf,qFc,ih,qEf];rfl
theorem eU (n:Nat)(v:Int):(qBc n [V.int v]).flatten=a9 n fun _=>v:=by
 unfold a9;induction n with
 | zero=>rfl
 | succ n ih =>
  rw[qEf,qFc,ih];refine qFd fun i=>?_;cases i with
  | zero=>rw[qAo,qCj (by lia)];rfl
  | succ i =>
   show((qAn n).map fun _=>V.int v)[i]?=_;rw[qAo,qAo];rcases qAm i n with h | h
   ·rw[qCj h,qCj (by lia)];rfl
   ·rw[qBm (by rw[qAs];exact h),qBm (by rw[qAs];lia)]
def HH (FR:Addr):Sp:=fun vs H Q _=>∃(m n:Nat) (A:Nat->Nat->Int) (due:Nat->Int) (x lc:Addr) (S:Wg.St),vs=[.ref x]/\g8 FR m n H x lc S/\Good m n A due S /\
 ∀(l:Addr) (ws:List Addr) (H':Hp),H l=none->aG H H'->kN n (Wg.wt m (fun k=>S.R k (n+m)) S) S.d H' l ws->Q (.ref l) H'
theorem AG:aO ["frame","weights","column","row"] ["frame"] (aJ Ka):=by constructor<;>first|rfl|decide +kernel
theorem Lu (t:Tx K mg "weights_of" Ka ["frame"] f fd)(T:T K mg AL LN FR iF fCh fGM fCC fCA fPL SE NN NG NT NR NS NV NO NL NX TM UL)(D_fraction:Df P w K mg base (fY P w) 2 "fraction" ["top","bottom"] (uG K NN) f1 fd1):Df P w K mg base cA 3 "weights_of" ["frame"] (HH FR) f fd:=by
 refine t.iJ AG (fun vs H Q E h=>?_) (fun cdv _A outer s H vs Q E hr h=>?_)
 ·obtain⟨m,n,A,due,x,lc,S,rfl,_⟩:=h;rfl
 ·obtain⟨m,n,A,due,x,lc,S,rfl,⟨dx,lr,ras,hx,rs,hlc⟩,gd,k⟩:=h;have m8:=gd.ins.m8;have pU:=gd.ins.pU;have d0:=Wg.Fr.pos gd.ok;obtain⟨sd,sR⟩:=gd.ins.size gd.ok;refine⟨_,(aD (aP (i:=1) AG.nd rfl bP (aQ fL (bL (aA (bQ (aA aE (aA aE aB))) aB)) (bX (pv 0) rfl)))
   (aD (eL PassesOwn.never rfl (gU (by rfl) T.g4 (aA (bX (pv 0) rfl) (aA (bX (pv 0) rfl) aB))) (fE rfl (bG (aM (i:=2) AG.nd rfl bP) (bG (aM (i:=3) AG.nd rfl bP) dH)))
    (aH (bU (aW kQ (pv 2) (bX (pv 0) rfl) (aX _)) (aH (iU (cR cI D_fraction hr (by decide) (by rfl) (aA (aU bC (pv 3) (gM fF aE) (fun _ _=>rfl)) (aA (bX (pv 0) rfl) aB))) (iS (pv 1) (pv 2) set_list))) a8)))
   (aH (aS (pv 1))))),?_⟩
  refine⟨jB,fun t0 ht0=>⟨jD,fun l0 hl0=>?_⟩⟩;have u0:=aG.aF (o:=.tup [.int 0,.int 1]) ht0;have e0:upd H t0 (.tup [.int 0,.int 1]) t0=some (.tup [.int 0,.int 1]):=aC;generalize upd H t0 (.tup [.int 0,.int 1])=H0 at u0 e0 hl0|-;have u1:=aG.aF (o:=.lst [.ref t0]) hl0;have e1:upd H0 l0 (.lst [.ref t0]) l0=some (.lst [.ref t0]):=aC;generalize upd H0 l0 (.lst [.ref t0])=H1 at u1 e1|-;have s1:=u0.trans u1;refine⟨_,rfl,x,FR,dx,_,_,rfl,s1 _ _ hx,T.cP.oc.cl,T.cP.nm,rfl,l0,_,_,rfl,rfl,e1,by lia,by lia,?_,fun l hl=>?_⟩
  ·show 1*((n:Int)).toNat<=qAf;exact qAk (aK (by lia))
  rw[qBl,pY];have u2:=aG.aF (o:=.lst ((qBc n t0).map V.ref)) hl;have e2:upd H1 l (.lst ((qBc n t0).map V.ref)) l=_:=aC;have et0:=u2 _ _ (u1 _ _ e0);generalize upd H1 l (.lst ((qBc n t0).map V.ref))=H2 at u2 e2 et0|-;have s2:=s1.trans u2;have hlc2:=s2 _ _ hlc;have hlr2:=s2 _ _ rs.hr;have hx2:=s2 _ _ hx;have nlc:lc≠l:=fun z=>by rw[<- z,s1 _ _ hlc] at hl;cases hl
  have nlr:lr≠l:=fun z=>by rw[<- z,s1 _ _ rs.hr] at hl;cases hl
  have nx:x≠l:=fun z=>by rw[<- z,s1 _ _ hx] at hl;cases hl
  refine⟨_,rfl,x,FR,dx,_,_,rfl,hx2,T.cP.oc.cl,T.cP.nc,rfl,_,rfl,x,FR,dx,_,_,rfl,hx2,T.cP.oc.cl,T.cP.nr,rfl,lc,lr,rfl,⟨_,aR.of hlc2⟩,⟨_,aR.of hlr2⟩,?_⟩;refine tQ (K:=K) (l1:=lc) (l2:=lr) (xs:=uT m S) (ys:=ras.map V.ref) (fun i σ H3=>∃(ws:List Addr) (o2 o3:Option V),σ=[some (.ref x),some (.ref l),o2,o3]/\SameBut l H2 H3/\kN n (Wg.wt i (fun k=>S.R k (n+m)) S) S.d H3 l ws) ⟨qBc n t0,_,_,rfl,(aG.refl _).but l,e2,qEy ..,fun j w e=>?_⟩ (fun i σ H3 _ ⟨ws,o2,o3,_,sb,_⟩=>⟨aR.of (sb _ _ nlc hlc2),aR.of (sb _ _ nlr hlr2)⟩) (uL rs) (fun i y1 y2 tt σ H3 hy1 hy2 ht ⟨ws,o2,o3,eσ,sb,fl⟩=>?_) (fun σ H3 ⟨ws,o2,o3,eσ,sb,fl⟩=>?_)
  ·obtain⟨_,rfl⟩:=List.mem_replicate.mp (qBa e);show _=some (fZ 0 S.d);rw[pW d0];exact et0
  ·subst eσ;obtain⟨hi,rfl⟩:=dE hy1;obtain⟨r,er,rfl⟩:=dP hy2;have u4:=aG.aF (o:=.tup [.int ((S.ch i:Nat):Int),.ref r]) ht;have e4:upd H3 tt (.tup [.int ((S.ch i:Nat):Int),.ref r]) tt=_:=aC;generalize upd H3 tt (.tup [.int ((S.ch i:Nat):Int),.ref r])=H4 at u4 e4|-;have sb4:=sb.then u4;have fl4:=fl.same u4;refine⟨tt,_,rfl,cX.of e4,rfl,_,_,rfl,_,_,rfl,rfl,?_⟩;refine⟨_,rfl,_,rfl,x,FR,dx,_,_,rfl,sb4 _ _ nx hx2,T.cP.oc.cl,T.cP.nm,rfl,_,_,rfl,rfl,_,rfl,cJ (fun z=>?_) (fun z=>?_)⟩
   ·have hc:S.ch i<n:=by have:((S.ch i:Nat):Int)<((n:Nat):Int):=of_decide_eq_true z;lia
    have hrow:=s2 _ _ (rs.at_ i r er);have nrl:r≠l:=bB (s1 _ _ (rs.at_ i r er)) hl;refine⟨_,rfl,_,rfl,r,_,_,_,rfl,rfl,aR.of (sb4 _ _ nrl hrow),mC (n+m) _,_,rfl,x,FR,dx,_,_,rfl,sb4 _ _ nx hx2,T.cP.oc.cl,T.cP.nb,rfl,?_⟩;dsimp only[fP,qBn,qBp];refine pX (by lia) (sd.mono (by decide)) fun p hp=>?_;have npl:p≠l:=fun z=>by rw[z,fl4.hr] at hp;cases hp
    refine⟨_,rfl,_,rfl,l,_,_,S.ch i,rfl,rfl,(aL (fun z=>npl z.symm)).trans fl4.hr,by rw[qAc,fl4.len];exact gI hc,?_⟩;refine⟨ws.set (S.ch i) p,_,_,rfl,(sb4.then (.aF hp)).oA _,(fl4.put rfl hp).ext fun j hj=>?_⟩;rw[oQ gd.ok hi]
   ·have hc:¬S.ch i<n:=fun y=>z (decide_eq_true (by show((S.ch i:Nat):Int)<((n:Nat):Int);lia));refine⟨ws,_,_,rfl,sb4,fl4.ext fun j hj=>?_⟩;rw[oQ gd.ok hi,if_neg (by lia)]
  ·subst eσ;rw[show(uT m S).length=m from aI _ _] at fl;exact⟨_,rfl,k l ws H3 (s1.free hl) (fun b o e=>sb b o (fun z=>by rw[z] at e;rw[s1 _ _ e] at hl;cases hl) (s2 _ _ e)) fl⟩
def HI (FR:Addr):Sp:=fun vs H Q _=>∃(m n:Nat) (A:Nat->Nat->Int) (due:Nat->Int) (x lc:Addr) (S:Wg.St) (q:Nat),vs=[.ref x,.int (q:Int)]/\g8 FR m n H x lc S/\Good m n A due S/\q<n /\
 ∀(l:Addr) (ws:List Addr) (H':Hp),H l=none->aG H H'->kN n (Wg.way m q S) S.d H' l ws->Q (.ref l) H'
theorem AH:aO ["frame","growing","way","column","row"] ["frame","growing"] (aJ Kc):=by constructor<;>first|rfl|decide +kernel
theorem Lv (t:Tx K mg "way_of" Kc ["frame","growing"] f fd)(T:T K mg AL LN FR iF fCh fGM fCC fCA fPL SE NN NG NT NR NS NV NO NL NX TM UL)(D_fraction:Df P w K mg base (fY P w) 2 "fraction" ["top","bottom"] (uG K NN) f1 fd1):Df P w K mg base cA 3 "way_of" ["frame","growing"] (HI FR) f fd:=by
 refine t.iJ AH (fun vs H Q E h=>?_) (fun cdv _A outer s H vs Q E hr h=>?_)
 ·obtain⟨m,n,A,due,x,lc,S,q,rfl,_⟩:=h;rfl
 ·obtain⟨m,n,A,due,x,lc,S,q,rfl,⟨dx,lr,ras,hx,rs,hlc⟩,gd,hq,k⟩:=h;have m8:=gd.ins.m8;have pU:=gd.ins.pU;have d0:=Wg.Fr.pos gd.ok;obtain⟨sd,sR⟩:=gd.ins.size gd.ok;refine⟨_,(aD (aP (i:=2) AH.nd rfl bP (aQ fL (bL (aA (bQ (aA aE (aA aE aB))) aB)) (bX (pv 0) rfl)))
   (aD (eL PassesOwn.never rfl (gU (by rfl) T.g4 (aA (bX (pv 0) rfl) (aA (bX (pv 0) rfl) aB))) (fE rfl (bG (aM (i:=3) AH.nd rfl bP) (bG (aM (i:=4) AH.nd rfl bP) dH)))
    (aH (bU (aW kQ (pv 3) (bX (pv 0) rfl) (aX _)) (aH (iU (cR cI D_fraction hr (by decide) (by rfl) (aA (gM fF (aU bC (pv 4) (pv 1) (fun _ _=>rfl))) (aA (bX (pv 0) rfl) aB))) (iS (pv 2) (pv 3) set_list))) a8)))
   (aD (iU (bQ (aA aE (aA aE aB))) (iS (pv 2) (pv 1) set_list))
   (aH (aS (pv 2)))))),?_⟩
  refine⟨jB,fun t0 ht0=>⟨jD,fun l0 hl0=>?_⟩⟩;have u0:=aG.aF (o:=.tup [.int 0,.int 1]) ht0;have e0:upd H t0 (.tup [.int 0,.int 1]) t0=some (.tup [.int 0,.int 1]):=aC;generalize upd H t0 (.tup [.int 0,.int 1])=H0 at u0 e0 hl0|-;have u1:=aG.aF (o:=.lst [.ref t0]) hl0;have e1:upd H0 l0 (.lst [.ref t0]) l0=some (.lst [.ref t0]):=aC;generalize upd H0 l0 (.lst [.ref t0])=H1 at u1 e1|-;have s1:=u0.trans u1;refine⟨_,rfl,x,FR,dx,_,_,rfl,s1 _ _ hx,T.cP.oc.cl,T.cP.nm,rfl,l0,_,_,rfl,rfl,e1,by lia,by lia,?_,fun l hl=>?_⟩
  ·show 1*((n:Int)).toNat<=qAf;exact qAk (aK (by lia))
  rw[qBl,pY];have u2:=aG.aF (o:=.lst ((qBc n t0).map V.ref)) hl;have e2:upd H1 l (.lst ((qBc n t0).map V.ref)) l=_:=aC;have et0:=u2 _ _ (u1 _ _ e0);generalize upd H1 l (.lst ((qBc n t0).map V.ref))=H2 at u2 e2 et0|-;have s2:=s1.trans u2;have hlc2:=s2 _ _ hlc;have hlr2:=s2 _ _ rs.hr;have hx2:=s2 _ _ hx;have nlc:lc≠l:=fun z=>by rw[<- z,s1 _ _ hlc] at hl;cases hl
  have nlr:lr≠l:=fun z=>by rw[<- z,s1 _ _ rs.hr] at hl;cases hl
  have nx:x≠l:=fun z=>by rw[<- z,s1 _ _ hx] at hl;cases hl
  refine⟨_,rfl,x,FR,dx,_,_,rfl,hx2,T.cP.oc.cl,T.cP.nc,rfl,_,rfl,x,FR,dx,_,_,rfl,hx2,T.cP.oc.cl,T.cP.nr,rfl,lc,lr,rfl,⟨_,aR.of hlc2⟩,⟨_,aR.of hlr2⟩,?_⟩;refine tQ (K:=K) (l1:=lc) (l2:=lr) (xs:=uT m S) (ys:=ras.map V.ref) (fun i σ H3=>∃(ws:List Addr) (o2 o3:Option V),σ=[some (.ref x),some (.int (q:Int)),some (.ref l),o2,o3]/\SameBut l H2 H3/\kN n (Wg.wt i (fun k=>- S.R k q) S) S.d H3 l ws) ⟨qBc n t0,_,_,rfl,(aG.refl _).but l,e2,qEy ..,fun j w e=>?_⟩ (fun i σ H3 _ ⟨ws,o2,o3,_,sb,_⟩=>⟨aR.of (sb _ _ nlc hlc2),aR.of (sb _ _ nlr hlr2)⟩) (uL rs) (fun i y1 y2 tt σ H3 hy1 hy2 ht ⟨ws,o2,o3,eσ,sb,fl⟩=>?_) (fun σ H3 ⟨ws,o2,o3,eσ,sb,fl⟩=>?_)
  ·obtain⟨_,rfl⟩:=List.mem_replicate.mp (qBa e);show _=some (fZ 0 S.d);rw[pW d0];exact et0
  ·subst eσ;obtain⟨hi,rfl⟩:=dE hy1;obtain⟨r,er,rfl⟩:=dP hy2;have u4:=aG.aF (o:=.tup [.int ((S.ch i:Nat):Int),.ref r]) ht;have e4:upd H3 tt (.tup [.int ((S.ch i:Nat):Int),.ref r]) tt=_:=aC;generalize upd H3 tt (.tup [.int ((S.ch i:Nat):Int),.ref r])=H4 at u4 e4|-;have sb4:=sb.then u4;have fl4:=fl.same u4;refine⟨tt,_,rfl,cX.of e4,rfl,_,_,rfl,_,_,rfl,rfl,?_⟩;refine⟨_,rfl,_,rfl,x,FR,dx,_,_,rfl,sb4 _ _ nx hx2,T.cP.oc.cl,T.cP.nm,rfl,_,_,rfl,rfl,_,rfl,cJ (fun z=>?_) (fun z=>?_)⟩
   ·have hc:S.ch i<n:=by have:((S.ch i:Nat):Int)<((n:Nat):Int):=of_decide_eq_true z;lia
    have hrow:=s2 _ _ (rs.at_ i r er);have nrl:r≠l:=bB (s1 _ _ (rs.at_ i r er)) hl;refine⟨_,rfl,_,rfl,r,_,_,_,rfl,rfl,aR.of (sb4 _ _ nrl hrow),bT (by lia),_,rfl,_,rfl,x,FR,dx,_,_,rfl,sb4 _ _ nx hx2,T.cP.oc.cl,T.cP.nb,rfl,?_⟩;dsimp only[fP,qBn,qBp];refine pX (by lia) (sd.mono (by decide)) fun p hp=>?_;have npl:p≠l:=fun z=>by rw[z,fl4.hr] at hp;cases hp
    refine⟨_,rfl,_,rfl,l,_,_,S.ch i,rfl,rfl,(aL (fun z=>npl z.symm)).trans fl4.hr,by rw[qAc,fl4.len];exact gI hc,?_⟩;refine⟨ws.set (S.ch i) p,_,_,rfl,(sb4.then (.aF hp)).oA _,(fl4.put rfl hp).ext fun j hj=>?_⟩;rw[oQ gd.ok hi]
   ·have hc:¬S.ch i<n:=fun y=>z (decide_eq_true (by show((S.ch i:Nat):Int)<((n:Nat):Int);lia));refine⟨ws,_,_,rfl,sb4,fl4.ext fun j hj=>?_⟩;rw[oQ gd.ok hi,if_neg (by lia)]
  ·subst eσ;rw[show(uT m S).length=m from aI _ _] at fl;refine⟨jB,fun p hp=>?_⟩;have npl:p≠l:=fun z=>by rw[z,fl.hr] at hp;cases hp
   refine⟨_,rfl,_,rfl,l,_,_,q,rfl,rfl,(aL (fun z=>npl z.symm)).trans fl.hr,by rw[qAc,fl.len];exact gI hq,?_⟩;have f5:=fl.put (q:=q) (a:=S.d) (GF d0).symm hp;refine⟨_,rfl,k l _ _ (s1.free hl) (fun b o e=>?_) (f5.ext fun j hj=>rfl)⟩;have nb:b≠l:=fun z=>by rw[z] at e;rw[s1 _ _ e] at hl;cases hl
   rw[aL nb];exact aG.aF hp _ _ (sb b o nb (s2 _ _ e))
theorem sN {a:Nat}{f:Nat->Int}:∀m,(∀k,k<m->Sm a (f k))->Sm (a+m) (Wg.sm m f)
 | 0,_=>Sm.zero
 | m+1,h=>(sN m fun k hk=>h k (by lia)).add ((h m (by lia)).mono (by lia))
def HJ (FR:Addr):Sp:=fun vs H Q _=>∃(m n:Nat) (A:Nat->Nat->Int) (due:Nat->Int) (c:Nat->Int) (x lc pg pd:Addr) (S:Wg.St),vs=[.ref x,.ref pg,.ref pd]/\g8 FR m n H x lc S/\Good m n A due S/\Ct m n c H pg/\H pd=some (.lst (a9 m due)) /\
 ∀(l:Addr) (ws:List Addr) (H':Hp),H l=none->aG H H'->kN m (fun i=>Wg.sgn (due i)*Wg.fR m n c S i) S.d H' l ws->Q (.ref l) H'
theorem sO:aO ["frame","gains","due","prices","place","number","column","price"] ["frame","gains","due"] (aJ Kb):=by constructor<;>first|rfl|decide +kernel
theorem Lw (t:Tx K mg "prices_of" Kb ["frame","gains","due"] f fd)(T:T K mg AL LN FR iF fCh fGM fCC fCA fPL SE NN NG NT NR NS NV NO NL NX TM UL)(D_fraction:Df P w K mg base (fY P w) 2 "fraction" ["top","bottom"] (uG K NN) f1 fd1)(D_sign_of:Df P w K mg base cA 1 "sign_of" ["number"] AB f2 fd2):Df P w K mg base cA 3 "prices_of" ["frame","gains","due"] (HJ FR) f fd:=by
 refine t.iJ sO (fun vs H Q E h=>?_) (fun cdv _A outer s H vs Q E hr h=>?_)
 ·obtain⟨m,n,A,due,c,x,lc,pg,pd,S,rfl,_⟩:=h;rfl
 ·obtain⟨m,n,A,due,c,x,lc,pg,pd,S,rfl,fo,gd,gn,hpd,k⟩:=h;have m8:=gd.ins.m8;have pU:=gd.ins.pU;have d0:=Wg.Fr.pos gd.ok;obtain⟨sd,sR⟩:=gd.ins.size gd.ok;obtain⟨dx,lr,ras,hx,rs,hlc⟩:=id fo;refine⟨_,(aD (aP (i:=3) sO.nd rfl bP (bL aB))
   (aD (eL PassesOwn.never rfl (oK (by rfl) T.jV (aA (pv 2) aB)) (fE rfl (bG (aM (i:=4) sO.nd rfl bP) (bG (aM (i:=5) sO.nd rfl bP) dH)))
    (aD (aP (i:=6) sO.nd rfl (by first|exact .inl rfl|exact .inr rfl) (aQ f9 (bX (pv 0) rfl) (pv 4)))
    (aD (aP (i:=7) sO.nd rfl bP (aN (jO rfl) (by rfl) T.lZ pG (aA (bO (NB:=["chosen","row","column","gains"]) (pick:=[none,none,some 6,some 1]) (bF (by with_unfolding_all rfl) (by exact(And.intro rfl (And.intro rfl trivial))) rfl (by decide +kernel) (by decide +kernel) (by rfl) (by rfl)) rfl
     (gU (by rfl) T.g4 (aA (bX (pv 0) rfl) (aA (bX (pv 0) rfl) aB))) (fun _ _ _=>(show PG _ _ (oZ K 2 (eM (aZ 0) (eM (aZ 1) oY))) from fE rfl (bG (aM (i:=0) (show(["chosen","row","column","gains"]:List Str).Nodup from by decide +kernel) rfl bP) (bG (aM (i:=1) (show(["chosen","row","column","gains"]:List Str).Nodup from by decide +kernel) rfl bP) dH))))
     (fun _ _ _=>bI) (fun _ _ _=>(aQ bS (aU (bV K) (pv 3) (pv 0) (fun _ _=>rfl)) (aU (bV K) (pv 1) (pv 2) (fun _ _=>rfl))))) aB)))
    (aH (eX (vD qFq qHd qHc k7 (pv 3) (aA (cR cI D_fraction hr (by decide) (by rfl) (aA (aQ bS (aV D_sign_of hr (by decide) (by rfl) (aA (pv 5) aB)) (pv 7)) (aA (bX (pv 0) rfl) aB))) aB)))))))
   (aH (aS (pv 3))))),?_⟩
  refine⟨by show 0<=qAf;decide,fun l hl=>?_⟩;have u1:=aG.aF (o:=.lst []) hl;have e1:upd H l (.lst []) l=some (.lst []):=aC;generalize upd H l (.lst [])=H1 at u1 e1|-;have npd:pd≠l:=bB hpd hl;have npg:pg≠l:=bB gn.hg hl;have nx:x≠l:=bB hx hl;have nlc:lc≠l:=bB hlc hl;have nlr:lr≠l:=bB rs.hr hl;refine⟨_,rfl,pd,rfl,⟨_,aR.of (u1 _ _ hpd)⟩,?_⟩;refine vR (xs:=a9 m due) (fun i σ H2=>∃(ws:List Addr) (o4 o5 o6 o7:Option V),σ=[some (.ref x),some (.ref pg),some (.ref pd),some (.ref l),o4,o5,o6,o7]/\SameBut l H H2/\kN i (fun i=>Wg.sgn (due i)*Wg.fR m n c S i) S.d H2 l ws) ⟨[],_,_,_,_,rfl,u1.but l,e1,rfl,fun j w e=>by cases e⟩ (fun i σ H2 _ ⟨ws,o4,o5,o6,o7,_,sb,_⟩=>aR.of (sb _ _ npd hpd)) (fun i y tt σ H2 hy ht ⟨ws,o4,o5,o6,o7,eσ,sb,fl⟩=>?_) (fun σ H2 ⟨ws,o4,o5,o6,o7,eσ,sb,fl⟩=>?_)
  ·subst eσ;obtain⟨hi,rfl⟩:=dE hy;have u2:=aG.aF (o:=.tup [.int (i:Int),.int (due i)]) ht;have e2:upd H2 tt (.tup [.int (i:Int),.int (due i)]) tt=_:=aC;generalize upd H2 tt (.tup [.int (i:Int),.int (due i)])=H3 at u2 e2|-;have sb3:=sb.then u2;have fl3:=fl.same u2;have hx3:=sb3 _ _ nx hx;refine⟨tt,_,rfl,cX.of e2,rfl,_,_,rfl,_,_,rfl,rfl,?_⟩;refine⟨_,rfl,x,FR,dx,_,_,rfl,hx3,T.cP.oc.cl,T.cP.nm,rfl,_,rfl,_,_,rfl,rfl,?_⟩;refine⟨_,rfl,x,FR,dx,_,_,rfl,hx3,T.cP.oc.cl,T.cP.nc,rfl,_,rfl,x,FR,dx,_,_,rfl,hx3,T.cP.oc.cl,T.cP.nr,rfl,lc,lr,rfl,⟨_,aR.of (sb3 _ _ nlc hlc)⟩,⟨_,aR.of (sb3 _ _ nlr rs.hr)⟩,?_⟩;refine j7 (xs:=uT m S) (ys:=ras.map V.ref) (fun σ'=>∃o0 o1:Option V,σ'=[o0,o1,some (.int ((n:Int)+(i:Int))),some (.ref pg)]) (fun k' _ _=>some (.int (c (S.ch k')*S.R k' (n+i)))) ⟨_,_,rfl⟩ (aR.of (sb3 _ _ nlc hlc)) (aR.of (sb3 _ _ nlr rs.hr)) (uL rs) (by unfold uT;rw[aI];exact qAk (aK (by lia))) (fun k' x' y' tt2 σ1 H4 kk kk0 hσ s4 hx' hy' ht2 h1 h2=>?_) fun D H4 hD s4 hd=>?_
   ·obtain⟨o0,o1,rfl⟩:=hσ;obtain⟨hk',rfl⟩:=dE hx';obtain⟨r,er,rfl⟩:=dP hy';have hch:=gd.ch k' hk';have nrl:r≠l:=bB (rs.at_ k' r er) hl;refine⟨tt2,_,rfl,cX.of ht2,rfl,_,_,rfl,_,_,rfl,rfl,?_⟩;refine⟨_,rfl,_,rfl,pg,_,_,_,rfl,rfl,aR.of (s4 _ _ (sb3 _ _ npg gn.hg)),bT hch,_,rfl,_,rfl,r,_,_,_,rfl,rfl,aR.of (s4 _ _ (sb3 _ _ nrl (rs.at_ k' r er))),(show gQ (uK m n S k') ((n:Int)+(i:Int))=some (.int (S.R k' (n+i))) by rw[<- qOr];exact bT (by lia)),_,_,rfl,rfl,(gn.sz _).mb (sR k' hk' _),h1 _ _ ⟨_,_,rfl⟩ rfl _ (.refl _)⟩
   ·have hd':H4 D=some (.lst (((qAn m).map fun k'=>c (S.ch k')*S.R k' (n+i)).map V.int)):=by
     have e:(uT m S).length=m:=aI _ _;rw[hd,e,uH _ e (by rw[qAc,rs.len]),qCz];rfl
    refine⟨D,_,rfl,.inl (aR.of hd'),?_⟩;rw[sJ];have sp:Sm 200000 (Wg.fR m n c S i):=(sN (a:=106000) m fun k' hk'=>((gn.sz _).mul (sR k' hk' _)).mono (by decide)).mono (by lia);have fl4:=fl3.same s4;have sb4:=sb3.then s4;refine⟨_,rfl,.inl ⟨rfl,_,aR.of fl4.hr⟩,?_⟩;refine⟨_,rfl,_,rfl,_,rfl,_,_,rfl,rfl,(uJ _).mb sp,_,rfl,x,FR,dx,_,_,rfl,sb4 _ _ nx hx,T.cP.oc.cl,T.cP.nb,rfl,?_⟩;dsimp only[fP,qBn,qBp];refine pX (by lia) (sd.mono (by decide)) fun p hp=>?_;have npl:p≠l:=fun z=>by rw[z,fl4.hr] at hp;cases hp
    refine⟨l,_,_,rfl,rfl,(aL (fun z=>npl z.symm)).trans fl4.hr,by rw[qAc,fl4.len];exact aK (by lia),?_⟩;refine⟨ws++[p],_,_,_,_,rfl,(sb4.then (.aF hp)).oA _,by rw[aC,qAu];rfl,by rw[qAp,fl4.len];rfl,fun j w e=>?_⟩;rcases qAm j ws.length with z1 | z1
    ·rw[qBd z1] at e;have z:=fl4.at_ j w e;rw[aL (kO z fl4.hr (by intro z;cases z)),aL (bB z hp)];exact z
    ·rw[qBb z1] at e;obtain⟨rfl,rfl⟩:j=i/\p=w:=by
      rcases qEp (j-ws.length) with q | q
      ·rw[q] at e;exact⟨by rw[fl4.len] at z1 q;lia,Option.some.inj e⟩
      ·rw[qBm (by show 1<=_;lia)] at e;cases e
     rw[aL npl,aC];rfl
  ·subst eσ;rw[aI] at fl;exact⟨_,rfl,k l ws H2 hl (fun b o e=>sb b o (bB e hl) e) fl⟩
def jY (lo hi:Nat)(xs:List V):Bool:=decide (lo<=xs.length)&&decide (xs.length<=hi)&&xs.all kR
def Er (K:qAb):Sp:=fun vs H Q _=>∃(p:Addr) (xs:List V) (lo hi:Nat),vs=[.ref p,.int (lo:Int),.int (hi:Int)]/\H p=some (.lst xs)/\(∀v∈xs,Pl K H v)/\xs.length<=1000/\∀H',aG H H'->Q (.bl (jY lo hi xs)) H'
theorem Lx:aO ["thing","least","most"] ["thing","least","most"] (aJ DU):=by constructor<;>first|rfl|decide +kernel
theorem GG (t:Tx K mg "are_numbers" DU ["thing","least","most"] f fd)(T:T K mg AL LN FR iF fCh fGM fCC fCA fPL SE NN NG NT NR NS NV NO NL NX TM UL)(D_is_number:Df P w K mg base cA 1 "is_number" ["thing"] (sH K) f1 fd1):
  Df P w K mg base cA 2 "are_numbers" ["thing","least","most"] (Er K) f fd:=by
 refine t.iJ Lx (fun vs H Q E h=>?_) (fun cdv _A outer s H vs Q E hr h=>?_)
 ·obtain⟨p,xs,lo,hi,rfl,_⟩:=h;rfl
 ·obtain⟨p,xs,lo,hi,rfl,hp,pl,hlen,k⟩:=h;refine⟨_,(aD (bU (PW.pt (pw_or (dG (cG (aN cV (by rfl) T.eD dI (aA (pv 0) (aA (eW (v:=.ty "list") (by rfl) T.cQ c5 rfl) aB))))) (pw_or1 (dG (CF zU zU (pv 1) (aN aT (by rfl) T.cK bY (aA (pv 0) aB)) (pv 2)))))) (aH (aS iG)) a8)
   (aH (aS (aN (jP rfl) (by rfl) T.mB pH (aA (bO (NB:=["number"]) (pick:=[none]) (bF (by with_unfolding_all rfl) (by exact trivial) rfl (by decide +kernel) (by decide +kernel) (by rfl) (by rfl)) rfl
     (bJ (pv 0)) (fun _ _ _=>aM (i:=0) (show(["number"]:List Str).Nodup from by decide +kernel) rfl bP)
     (fun _ _ _=>bI) (fun _ _ _=>(aV D_is_number hr (by decide) (by rfl) (aA (pv 0) aB)))) aB))))),?_⟩
  refine⟨_,rfl,.ref p,.ty "list",_,_,_,rfl,rfl,.of (.lst hp),Kd.lst.vQ K,_,rfl,dO ?_⟩;have out:jY lo hi xs=false->∀H',aG H H'->Q (.bl false) H':=fun e H' s'=>by
   have z:=k H' s';rw[e] at z;exact z
  refine⟨_,rfl,_,rfl,p,_,rfl,.inl (aR.of hp),_,_,rfl,rfl,_,rfl,?_⟩;refine cJ (fun z1=>?_) (fun z1=>?_)
  ·have h1:lo<=xs.length:=by have:((lo:Nat):Int)<=((xs.length:Nat):Int):=of_decide_eq_true z1;lia
   refine⟨_,rfl,_,_,rfl,rfl,_,rfl,?_⟩;cases e2:decide (((xs.length:Nat):Int)<=((hi:Nat):Int)) with
   | false =>
    refine eQ (out ?_ H (.refl _));have:¬xs.length<=hi:=fun y=>(of_decide_eq_false e2) (by lia);unfold jY;rw[decide_eq_false this,qGk,qFi]
   | true =>
    have h2:xs.length<=hi:=by have:=of_decide_eq_true e2;lia
    refine dO ⟨_,rfl,p,rfl,⟨xs,aR.of hp⟩,?_⟩;refine cB (xs:=xs) (fun _ x=>some (.bl (kR x))) (aR.of hp) (qAk (aK hlen)) (fun i x H2 kk kk0 s2 hx h1 h2=>?_) fun D H2 hD s2 hd=>?_
    ·exact⟨_,rfl,x,rfl,(pl x (qBa hx)).same s2,h1 _ rfl _ (.refl _)⟩
    ·have ed:((qAn xs.length).filterMap fun i=>(xs[i]?).bind fun x=>some (V.bl (kR x)))=(xs.map kR).map V.bl:=by
      rw[qCz,<- tR];rfl
     rw[ed] at hd;refine⟨D,_,rfl,aR.of hd,?_⟩;have ea:(xs.map kR).all id=jY lo hi xs:=by
      unfold jY;rw[qPk,decide_eq_true h1,decide_eq_true h2];rfl
     rw[ea];exact k H2 s2
  ·refine⟨_,rfl,eQ (out ?_ H (.refl _))⟩;have:¬lo<=xs.length:=fun y=>z1 (decide_eq_true (by show((lo:Nat):Int)<=((xs.length:Nat):Int);lia));unfold jY;rw[decide_eq_false this,qFi,qFi]
structure Ce (K:qAb) (H:Hp) (pc pd pg:Addr) (cs:List Addr) (col:Nat->List V) (ds gs:List V):Prop where
 hc:H pc=some (.lst (cs.map V.ref))
 lc:cs.length<=1000
 at_:∀j c,cs[j]?=some c->H c=some (.lst (col j))/\(∀v∈col j,Pl K H v)/\(col j).length<=1000
 hd:H pd=some (.lst ds)
 Ro:∀v∈ds,Pl K H v
 ld:ds.length<=1000
 hg:H pg=some (.lst gs)
 Rp:∀v∈gs,Pl K H v
 lg:gs.length<=1000
theorem Ce.same (h:Ce K H pc pd pg cs col ds gs)(s:aG H H'):Ce K H' pc pd pg cs col ds gs :=
 ⟨s _ _ h.hc,h.lc,fun j c e=>⟨s _ _ (h.at_ j c e).1,fun v hv=>((h.at_ j c e).2.1 v hv).same s,(h.at_ j c e).2.2⟩,s _ _ h.hd,fun v hv=>(h.Ro v hv).same s,h.ld,s _ _ h.hg,fun v hv=>(h.Rp v hv).same s,h.lg⟩
def jZ (n:Nat)(col:Nat->List V)(ds gs:List V):Bool:=jY 1 8 ds&&(decide (n<=70)&&(((qAn n).map fun j=>jY ds.length ds.length (col j)).all id&&jY n n gs))
def HK (K:qAb)(NR:Addr):Sp:=fun vs H Q E=>∃(pc pd pg:Addr) (cs:List Addr) (col:Nat->List V) (ds gs:List V),vs=[.ref pc,.ref pd,.ref pg]/\Ce K H pc pd pg cs col ds gs/\(jZ cs.length col ds gs=false->∀H',aG H H'->E (.ref NR) none H')/\(jZ cs.length col ds gs=true->∀H',aG H H'->Q .non H')
theorem OL:aO ["columns","due","gains"] ["columns","due","gains"] (aJ JT):=by constructor<;>first|rfl|decide +kernel
theorem Ly {f1:Addr}{fd1:qCl}(t:Tx K mg "check_rows" JT ["columns","due","gains"] f fd)(T:T K mg AL LN FR iF fCh fGM fCC fCA fPL SE NN NG NT NR NS NV NO NL NX TM UL)(D_are_numbers:Df P w K mg base cA 2 "are_numbers" ["thing","least","most"] (Er K) f1 fd1):
  Df P w K mg base (fY P w) 3 "check_rows" ["columns","due","gains"] (HK K NR) f fd:=by
 refine t.By OL (fun vs H Q E h=>?_) (fun cdv _A outer s H vs Q E hr h=>?_)
 ·obtain⟨pc,pd,pg,cs,col,ds,gs,rfl,_⟩:=h;rfl
 ·obtain⟨pc,pd,pg,cs,col,ds,gs,rfl,rw0,k0,k⟩:=h;obtain⟨tkMP,hMP⟩:=T.mp;obtain⟨tkMC,hMC⟩:=T.mc;refine⟨_,(aD (bU (dG (cG (aV D_are_numbers hr (by decide) (by rfl) (aA (pv 1) (aA aE (aA (cH (v:=.int 8) (by rfl) hMP ⟨tkMP,rfl⟩) aB)))))) (aH (eS bN rfl (by rfl) T.GB T.Hw (aA dF aB))) a8)
   (aD (bU (PW.pt (pw_or (dG (cG (aN cV (by rfl) T.eD dI (aA (pv 0) (aA (eW (v:=.ty "list") (by rfl) T.cQ c5 rfl) aB))))) (pw_or1 (aW uZ (aN aT (by rfl) T.cK bY (aA (pv 0) aB)) (cH (v:=.int 70) (by rfl) hMC ⟨tkMC,rfl⟩) (aX _))))) (aH (eS bN rfl (by rfl) T.GB T.Hw (aA dF aB))) a8)
   (aD (bU (dG (cG (aN (jP rfl) (by rfl) T.mB pH (aA (bO (NB:=["column","due"]) (pick:=[none,some 1]) (bF (by with_unfolding_all rfl) (by exact(And.intro rfl trivial)) rfl (by decide +kernel) (by decide +kernel) (by rfl) (by rfl)) rfl
     (bJ (pv 0)) (fun _ _ _=>aM (i:=0) (show(["column","due"]:List Str).Nodup from by decide +kernel) rfl bP)
     (fun _ _ _=>bI) (fun _ _ _=>(aV D_are_numbers hr (by decide) (by rfl) (aA (pv 0) (aA (aN (rK K) (by rfl) T.cK bY (aA (pv 1) aB)) (aA (aN (rK K) (by rfl) T.cK bY (aA (pv 1) aB)) aB)))))) aB)))) (aH (eS bN rfl (by rfl) T.GB T.Hw (aA dF aB))) a8)
   (aH (bU (dG (cG (aV D_are_numbers hr (by decide) (by rfl) (aA (pv 2) (aA (aN aT (by rfl) T.cK bY (aA (pv 0) aB)) (aA (aN aT (by rfl) T.cK bY (aA (pv 0) aB)) aB)))))) (aH (eS bN rfl (by rfl) T.GB T.Hw (aA dF aB))) a8))))),?_⟩
  refine⟨_,rfl,pd,ds,1,8,rfl,rw0.hd,rw0.Ro,rw0.ld,fun H1 s1=>⟨_,rfl,?_⟩⟩;cases e1:jY 1 8 ds with
  | false=>exact eQ ⟨jD,k0 (by unfold jZ;rw[e1];rfl) H1 s1⟩
  | true =>
   have rw1:=rw0.same s1;refine dO ⟨_,rfl,.ref pc,.ty "list",_,_,_,rfl,rfl,.of (.lst rw1.hc),Kd.lst.vQ K,_,rfl,dO ?_⟩;refine⟨_,rfl,pc,_,rfl,.inl (aR.of rw1.hc),_,_,rfl,rfl,_,rfl,?_⟩;rw[qAc];have ec:decide (((cs.length:Nat):Int)>70) = !decide (cs.length<=70):=by
    by_cases z:cs.length<=70
    ·rw[decide_eq_true z,decide_eq_false (by lia)];rfl
    ·rw[decide_eq_false z,decide_eq_true (by lia)];rfl
   show if decide (((cs.length:Nat):Int)>70)=true then _ else _;rw[ec];cases e2:decide (cs.length<=70) with
   | false=>exact eQ ⟨jD,k0 (by unfold jZ;rw[e1,e2];rfl) H1 s1⟩
   | true =>
    refine dO ⟨_,rfl,pc,rfl,⟨_,aR.of rw1.hc⟩,?_⟩;refine cB (xs:=cs.map V.ref) (fun j _=>some (.bl (jY ds.length ds.length (col j)))) (aR.of rw1.hc) (by rw[qAc];exact qAk (aK rw0.lc)) (fun j y H2 kk kk0 s2 hy h1 h2=>?_) fun D H2 hD s2 hd=>?_
    ·obtain⟨c,hc,rfl⟩:=dP hy;have rw2:=rw1.same s2;obtain⟨a1,a2,a3⟩:=rw2.at_ j c hc;exact⟨_,rfl,_,rfl,pd,_,rfl,.inl (aR.of rw2.hd),_,rfl,pd,_,rfl,.inl (aR.of rw2.hd),c,col j,ds.length,ds.length,rfl,a1,a2,a3,fun H3 s3=>h1 _ rfl _ s3⟩
    ·have hd':H2 D=some (.lst (((qAn cs.length).map fun j=>jY ds.length ds.length (col j)).map V.bl)):=by
      rw[hd,qAc,jX _ (qAc ..),qCz];rfl
     refine⟨D,_,rfl,aR.of hd',_,rfl,?_⟩;cases e3:((qAn cs.length).map fun j=>jY ds.length ds.length (col j)).all id with
     | false=>exact eQ ⟨jD,k0 (by unfold jZ;rw[e1,e2,e3];rfl) H2 (s1.trans s2)⟩
     | true =>
      have rw2:=rw1.same s2;refine dO ⟨_,rfl,_,rfl,pc,_,rfl,.inl (aR.of rw2.hc),_,rfl,pc,_,rfl,.inl (aR.of rw2.hc),pg,gs,cs.length,cs.length,by rw[qAc];rfl,rw2.hg,rw2.Rp,rw2.lg,fun H3 s3=>⟨_,rfl,?_⟩⟩;cases e4:jY cs.length cs.length gs with
      | false=>exact eQ ⟨jD,k0 (by unfold jZ;rw[e1,e2,e3,e4];rfl) H3 (s1.trans (s2.trans s3))⟩
      | true=>exact dO (k (by unfold jZ;rw[e1,e2,e3,e4];rfl) H3 (s1.trans (s2.trans s3)))
theorem uM (hq:H q=some o)(hx:H x=none)(hd:H dx=none):upd (upd H dx u) x v q=some o:=by
 rw[aL (bB hq hx),aL (bB hq hd)];exact hq
structure OM (m n:Nat) (A:Nat->Nat->Int) (due g:Nat->Int) (H H':Hp) (r lw lp:Addr) (ws ps:List Addr) (d:Int) (X Y:Nat->Int):Prop where
 tup:H' r=some (.tup [.str "best",.ref lw,.ref lp])
 d0:0<d
 ds:Sm 6000 d
 dm:pV m A due d
 ym:zF m A due g Y
 fw:kN n X d H' lw ws
 fp:kN m Y d H' lp ps
 nw:H lw=none
 np:H lp=none
 sX:∀j,Sm 300000 (X j)
 sY:∀j,Sm 300000 (Y j)
 x0:∀j,0<=X j
 meets:∀i,i<m->(Wg.sm n fun j=>A j i*X j)=due i*d
 cols:∀j,j<n->g j*d<=Wg.sm m fun i=>A j i*Y i
 same:(Wg.sm m fun i=>due i*Y i)=Wg.sm n fun j=>g j*X j
structure ON (m n:Nat) (A:Nat->Nat->Int) (due:Nat->Int) (H H':Hp) (r lp:Addr) (ps:List Addr) (d:Int) (Y:Nat->Int):Prop where
 tup:H' r=some (.tup [.str "none",.ref lp])
 d0:0<d
 ds:Sm 6000 d
 fp:kN m Y d H' lp ps
 np:H lp=none
 sY:∀j,Sm 300000 (Y j)
 cols:∀j,j<n->0<=Wg.sm m fun i=>A j i*Y i
 neg:(Wg.sm m fun i=>due i*Y i)<0
structure QM (m n:Nat) (A:Nat->Nat->Int) (due g:Nat->Int) (H H':Hp) (r lw lv:Addr) (ws vs:List Addr) (d:Int) (X Z:Nat->Int):Prop where
 tup:H' r=some (.tup [.str "endless",.ref lw,.ref lv])
 d0:0<d
 ds:Sm 6000 d
 fw:kN n X d H' lw ws
 fv:kN n Z d H' lv vs
 nw:H lw=none
 nv:H lv=none
 sX:∀j,Sm 300000 (X j)
 sZ:∀j,Sm 300000 (Z j)
 x0:∀j,0<=X j
 meets:∀i,i<m->(Wg.sm n fun j=>A j i*X j)=due i*d
 z0:∀j,0<=Z j
 away:∀i,i<m->(Wg.sm n fun j=>A j i*Z j)=0
 more:0<Wg.sm n fun j=>g j*Z j
def Told (m n:Nat)(A:Nat->Nat->Int)(due g:Nat->Int)(H H':Hp)(r:Addr):Prop :=
 (∃lw lp ws ps d X Y,OM m n A due g H H' r lw lp ws ps d X Y)\/(∃lp ps d Y,ON m n A due H H' r lp ps d Y)\/(∃lw lv ws vs d X Z,QM m n A due g H H' r lw lv ws vs d X Z)
def pZ (K:qAb)(NR:Addr):Sp:=fun vs H Q E=>∃(pc pd pg:Addr) (cs:List Addr) (col:Nat->List V) (ds gs:List V),vs=[.ref pc,.ref pd,.ref pg]/\Ce K H pc pd pg cs col ds gs/\(jZ cs.length col ds gs=false->∀H',aG H H'->E (.ref NR) none H') /\
 (jZ cs.length col ds gs=true->∃(m n:Nat) (A:Nat->Nat->Int) (due g:Nat->Int),Inst m n A due/\cs.length=n/\(∀j,j<n->col j=a9 m (A j))/\ds=a9 m due/\gs=a9 n g/\(∀j,Sm 90000 (g j))/\∀(r:Addr) (H':Hp),aG H H'->Told m n A due g H H' r->Q (.ref r) H')
theorem Clean.run (h:∃T st p q,Wg.Run m n (n+m) M c T st p q/\st 0=S/\st T=S')(cl:Wg.Clean m n S):Wg.Clean m n S':=by
 obtain⟨TT,st,p,q,r,rfl,rfl⟩:=h;exact r.keeps (P:=Wg.Clean m n) cl fun S p q ok _ g cl=>Wg.y8 ok g.pm g.qn (by have:=g.pos;lia) cl
theorem wZ (h:∃T st p q,Wg.Run m n (n+m) M c T st p q/\st 0=S/\st T=S'):∀k,k<m->0<=S'.R k (n+m):=by
 obtain⟨TT,st,p,q,r,rfl,rfl⟩:=h;exact(r.rW TT (qAg _)).2
theorem w4:aO ["columns","due","gains","frame","leaving","all_gains","growing"] ["columns","due","gains"] (aJ Ke):=by constructor<;>first|rfl|decide +kernel
theorem Es {m n:Nat}{A:Nat->Nat->Int}{due:Nat->Int}{S:Wg.St}(gd:Good m n A due S)(f:Nat->Int)(h:∀k,k<m->Sm 6000 (f k))(j:Nat):Sm 300000 (Wg.wt m f S j):=by
 unfold Wg.wt;refine(sN (a:=6000) m fun k hk=>?_).mono (by have:=gd.ins.m8;lia);split
 ·exact h k hk
 ·exact Sm.zero
theorem w6 {m n:Nat}{A:Nat->Nat->Int}{due c:Nat->Int}{S:Wg.St}(gd:Good m n A due S)(h:∀j,Sm 100000 (c j))(i:Nat):Sm 300000 (Wg.sgn (due i)*Wg.fR m n c S i):=by
 obtain⟨sd,sR⟩:=gd.ins.size gd.ok;have m8:=gd.ins.m8;have z:Sm 300000 (Wg.fR m n c S i):=(sN (a:=106000) m fun k hk=>((h _).mul (sR k hk _)).mono (by decide)).mono (by lia);exact z.le (by rw[gJ];exact qAg _)
theorem Lz {f1 f2 f3 f4 f5 f6 f7:Addr}{fd1 fd2 fd3 fd4 fd5 fd6 fd7:qCl}(t:Tx K mg "weigh" Ke ["columns","due","gains"] f fd)(T:T K mg AL LN FR iF fCh fGM fCC fCA fPL SE NN NG NT NR NS NV NO NL NX TM UL)(D_check_rows:Df P w K mg base (fY P w) 3 "check_rows" ["columns","due","gains"] (HK K NR) f1 fd1)(D_FI:Md P w K mg base 3 ["self","columns","due"] (OH FR) iF)
  (D_climb:Df P w K mg base cA 3 "climb" ["frame","gains"] (HF FR) f2 fd2) (D_spare_places:Df P w K mg base cA 1 "spare_places" ["frame"] (Eo FR) f3 fd3) (D_leave_spares:Df P w K mg base cA 3 "leave_spares" ["frame"] (HG FR) f4 fd4) (D_weights_of:Df P w K mg base cA 3 "weights_of" ["frame"] (HH FR) f5 fd5)
  (D_prices_of:Df P w K mg base cA 3 "prices_of" ["frame","gains","due"] (HJ FR) f6 fd6) (D_way_of:Df P w K mg base cA 3 "way_of" ["frame","growing"] (HI FR) f7 fd7) :
  Df P w K mg base (fY P w) 5 "weigh" ["columns","due","gains"] (pZ K NR) f fd:=by
 refine t.By w4 (fun vs H Q E h=>?_) (fun cdv _A outer s H vs Q E hr h=>?_)
 ·obtain⟨pc,pd,pg,cs,col,ds,gs,rfl,_⟩:=h;rfl
 ·obtain⟨pc,pd,pg,cs,col,ds,gs,rfl,rw0,k0,k⟩:=h;refine⟨_,(aD (eX (cR bN.toPass D_check_rows hr (by decide) (by rfl) (aA (pv 0) (aA (pv 1) (aA (pv 2) aB)))))
   (aD (aP (i:=3) w4.nd rfl (by first|exact .inl rfl|exact .inr rfl) (Dg bN.toPass T.RP D_FI hr (by decide) (by rfl) T.Oh (aA (pv 0) (aA (pv 1) aB))))
   (aD (aP (i:=4) w4.nd rfl bP (aQ fM (aQ fL (bL (aA aE aB)) (aN aT (by rfl) T.cK bY (aA (pv 0) aB))) (aQ fL (bL (aA (gM fF aE) aB)) (aN aT (by rfl) T.cK bY (aA (pv 1) aB)))))
   (aD (eX (aV D_climb hr (by decide) (by rfl) (aA (pv 3) (aA (pv 4) aB))))
   (aD (bU (cG (aN (Dh rfl) (by rfl) T.wQ Jt (aA (bO (NB:=["place","frame"]) (pick:=[none,some 3]) (bF (by with_unfolding_all rfl) (by exact(And.intro rfl trivial)) rfl (by decide +kernel) (by decide +kernel) (by rfl) (by rfl)) rfl
     (bJ (aV D_spare_places hr (by decide) (by rfl) (aA (pv 3) aB))) (fun _ _ _=>aM (i:=0) (show(["place","frame"]:List Str).Nodup from by decide +kernel) rfl bP)
     (fun _ _ _=>bI) (fun _ _ _=>(dR g9 (aU (bV K) (aU (bV K) (lR K (pv 1) rfl) (pv 0) (fun _ _=>rfl)) (gM fF aE) (fun _ _=>rfl)) aE (aX _)))) aB))) (aH (aS (bQ (aA dF (aA (aV D_prices_of hr (by decide) (by rfl) (aA (pv 3) (aA (pv 4) (aA (pv 1) aB)))) aB))))) a8)
   (aD (eX (aV D_leave_spares hr (by decide) (by rfl) (aA (pv 3) aB)))
   (aD (aP (i:=5) w4.nd rfl bP (aQ fM (pv 2) (aQ fL (bL (aA aE aB)) (aN aT (by rfl) T.cK bY (aA (pv 1) aB)))))
   (aD (aP (i:=6) w4.nd rfl bP (aV D_climb hr (by decide) (by rfl) (aA (pv 3) (aA (pv 5) aB))))
   (aD (bU (aW xS (pv 6) iQ (aX _)) (aH (aS (bQ (aA dF (aA (aV D_weights_of hr (by decide) (by rfl) (aA (pv 3) aB)) (aA (aV D_prices_of hr (by decide) (by rfl) (aA (pv 3) (aA (pv 5) (aA (pv 1) aB)))) aB)))))) a8)
   (aH (aS (bQ (aA dF (aA (aV D_weights_of hr (by decide) (by rfl) (aA (pv 3) aB)) (aA (aV D_way_of hr (by decide) (by rfl) (aA (pv 3) (aA (pv 6) aB))) aB))))))))))))))),?_⟩
  refine⟨_,rfl,_,rfl,_,rfl,pc,pd,pg,cs,col,ds,gs,rfl,rw0,k0,fun yes H1 s1=>?_⟩;obtain⟨m,n,A,due,g,ins,hn,hcol,rfl,rfl,sg,k⟩:=k yes;have m8:=ins.m8;have pU:=ins.pU;have co:uI m n A due H pc pd cs:=⟨rw0.hc,hn,fun j c e=>by
   have hj:j<n:=by rw[<- hn];exact(List.getElem?_eq_some_iff.mp e).1
   rw[<- hcol j hj];exact(rw0.at_ j c e).1,rw0.hd⟩
  have co1:=co.same s1;have hg1:=s1 _ _ rw0.hg;refine⟨_,rfl,_,rfl,fun x dx hx hdx ne=>?_⟩;refine⟨m,n,A,due,x,dx,pc,pd,cs,rfl,aC,ins,⟨uM co1.hc hx hdx,hn,fun j c e=>uM (co1.at_ j c e) hx hdx,uM co1.hd hx hdx⟩,fun lc H2 sb2 hlc0 fo2=>?_⟩;have s2:aG H1 H2:=sb2.made hx hdx ne;have hlc1:H1 lc=none:=by
   have nl:lc≠x:=fun z=>by rw[z,aC] at hlc0;cases hlc0
   have nd:lc≠dx:=fun z=>by rw[z,aL ne,aC] at hlc0;cases hlc0
   rw[aL nl,aL nd] at hlc0;exact hlc0
  have co2:=co1.same s2;have gd0:=Good.start ins;refine⟨rfl,jD,fun a1 ha1=>?_⟩;have u3:=aG.aF (o:=.lst [.int 0]) ha1;have e3:upd H2 a1 (.lst [.int 0]) a1=some (.lst [.int 0]):=aC;generalize upd H2 a1 (.lst [.int 0])=H3 at u3 e3|-;refine⟨_,rfl,pc,_,rfl,.inl (aR.of (u3 _ _ co2.hc)),a1,_,_,rfl,rfl,e3,by rw[qAc];lia,by rw[qAc];lia,?_,fun a2 ha2=>?_⟩
  ·rw[qAc,hn];show 1*((n:Int)).toNat<=qAf;exact qAk (aK (by lia))
  rw[qAc,hn,qBl,eU];have u4:=aG.aF (o:=.lst (a9 n fun _=>0)) ha2;have e4:upd H3 a2 (.lst (a9 n fun _=>0)) a2=_:=aC;generalize upd H3 a2 (.lst (a9 n fun _=>0))=H4 at u4 e4|-;refine⟨_,rfl,jD,fun a3 ha3=>?_⟩;have u5:=aG.aF (o:=.lst [.int (-1)]) ha3;have e5:upd H4 a3 (.lst [.int (-1)]) a3=some (.lst [.int (-1)]):=aC;generalize upd H4 a3 (.lst [.int (-1)])=H5 at u5 e5|-;have s5:=s2.trans (u3.trans (u4.trans u5));refine⟨_,rfl,pd,_,rfl,.inl (aR.of (s5 _ _ co1.hd)),a3,_,_,rfl,rfl,e5,by rw[aI];lia,by rw[aI];lia,?_,fun a4 ha4=>?_⟩
  ·rw[aI];show 1*((m:Int)).toNat<=qAf;exact qAk (aK (by lia))
  rw[aI,qBl,eU];have u6:=aG.aF (o:=.lst (a9 m fun _=>-1)) ha4;have e6:upd H5 a4 (.lst (a9 m fun _=>-1)) a4=_:=aC;generalize upd H5 a4 (.lst (a9 m fun _=>-1))=H6 at u6 e6|-;refine⟨a2,a4,_,_,rfl,rfl,aR.of (u6 _ _ (u5 _ _ e4)),aR.of e6,by rw[aI,aI];exact qAk (aK (by lia)),fun pl hpl=>?_⟩;rw[kE];have u7:=aG.aF (o:=.lst (a9 (n+m) fun j=>if j<n then 0 else -1)) hpl;have e7:upd H6 pl (.lst (a9 (n+m) fun j=>if j<n then 0 else -1)) pl=_:=aC;generalize upd H6 pl (.lst (a9 (n+m) fun j=>if j<n then 0 else -1))=H7 at u7 e7|-;have s26:=u3.trans (u4.trans (u5.trans u6));have s27:=s26.trans u7;have s7:=s2.trans s27;have fo7:=fo2.same s27;obtain⟨dx2,lr2,ras2,hx2,rs2,hlc2⟩:=id fo2;have gn7:Ct m n (Wg.lv m n) H7 pl:=⟨by
   rw[e7];congr 2;refine dJ fun j hj=>?_;unfold Wg.lv;by_cases z:j<n
   ·rw[if_pos z,if_neg (by lia)]
   ·rw[if_neg z,if_pos ⟨by lia,hj⟩],fun j=>by
   unfold Wg.lv;split
   ·exact Sm.of 1 (by decide) (by decide)
   ·exact Sm.zero⟩
  have npl:pl≠lc:=fun z=>by rw[z,s26 _ _ hlc2] at hpl;cases hpl
  have npx:pl≠x:=fun z=>by rw[z,s26 _ _ hx2] at hpl;cases hpl
  have old:∀{b o},H1 b=some o->b≠x/\b≠lc:=fun {b o} e=>⟨bB e hx,bB e hlc1⟩;refine⟨_,rfl,_,rfl,m,n,A,due,_,x,lc,pl,_,rfl,fo7,gd0,Wg.y6,gn7,npl,fun S1 H8 sb8 fo8 gd1 run1=>?_⟩;have fe1:=wZ run1;have s18:aG H1 H8:=fun b o e=>sb8 b o (old e).1 (old e).2 (s7 _ _ e);refine⟨fun le=>?_,fun q hq gr nn=>(Wg.uB gd1.ok hq gr nn).elim⟩;refine⟨_,rfl,m,n,A,due,x,lc,S1,rfl,fo8,gd1,fun D H9 hD s9 hd=>⟨D,rfl,⟨_,aR.of hd⟩,?_⟩⟩;obtain⟨dx8,lr8,ras8,hx8,rs8,hlc8⟩:=id fo8;refine cB (xs:=bE (uU m n S1)) (fun i _=>((uU m n S1)[i]?).map fun p=>V.bl (!decide (V.int (S1.R p (n+m))=V.int 0))) (aR.of hd) (by unfold bE uU;rw[qAc];exact qDa (qEz ..) (by rw[qAs];exact qAk (aK (by lia)))) (fun i y H10 kk kk0 s10 hy h1 h2=>?_) fun D2 H10 hD2 s10 hd2=>?_
  ·obtain⟨p,ep,rfl⟩:=AF hy;have hp:=(mD.mp (qBa ep)).1;obtain⟨rp,erp,arp,hrp⟩:=rs8.get hp;have s810:=s9.trans s10;refine⟨_,rfl,x,FR,dx8,_,_,rfl,s810 _ _ hx8,T.cP.oc.cl,T.cP.nr,rfl,_,rfl,lr8,_,_,_,rfl,rfl,aR.of (s810 _ _ rs8.hr),arp,_,rfl,rp,_,_,_,rfl,rfl,aR.of (s810 _ _ hrp),mC (n+m) _,rfl,?_⟩;exact h1 _ (by rw[ep];rfl) _ (.refl _)
  have el:(bE (uU m n S1)).length=(uU m n S1).length:=by unfold bE;rw[qAc]
  have hd3:H10 D2=some (.lst (((uU m n S1).map fun p=>!decide (V.int (S1.R p (n+m))=V.int 0)).map V.bl)):=by
   rw[hd2,el,qCz];congr 2;refine Eq.trans (eB (g:=fun i=>((uU m n S1)[i]?).bind fun p=>some (V.bl (!decide (V.int (S1.R p (n+m))=V.int 0)))) fun i hi=>?_) ?_
   ·have hi:=List.mem_range.mp hi;rw[qAd (l:=bE (uU m n S1)) (by rw[el];exact hi),qAd hi];rfl
   ·rw[Ad,qEd];rfl
  refine⟨D2,_,rfl,aR.of hd3,_,rfl,?_⟩;have s810:=s9.trans s10;have fo10:=fo8.same s810;have s110:=s18.trans s810;have gn10:Ct m n (Wg.lv m n) H10 pl:=⟨s810 _ _ (sb8 _ _ npx npl gn7.hg),gn7.sz⟩;obtain⟨sd1,sR1⟩:=ins.size gd1.ok;cases ea:((uU m n S1).map fun p=>!decide (V.int (S1.R p (n+m))=V.int 0)).any id with
  | true =>
   refine eQ ?_;obtain⟨b,hb,eb⟩:=List.any_eq_true.mp ea;obtain⟨p,hp,rfl⟩:=List.mem_map.mp hb;obtain⟨hpm,sp⟩:=mD.mp hp;have nz:S1.R p (n+m)≠0:=fun z=>by rw[z] at eb;exact absurd eb (by decide)
   obtain⟨t1,t2⟩:=Wg.BU gd1.ok fe1 le gd1.ch hpm sp nz;refine⟨_,rfl,_,rfl,_,rfl,m,n,A,due,_,x,lc,pl,pd,S1,rfl,fo10,gd1,gn10,s110 _ _ co1.hd,fun lp ps H11 hlp s11 fl=>⟨jB,fun r hr=>?_⟩⟩;have u12:=aG.aF (o:=.tup [.str "none",.ref lp]) hr;exact k r _ (s1.trans (s110.trans (s11.trans u12))) (.inr (.inl ⟨lp,ps,S1.d,_,aC,Wg.Fr.pos gd1.ok,sd1,fl.same u12,(s1.trans s110).free hlp,w6 gd1 gn7.sz,t1,t2⟩))
  | false =>
   refine dO ?_;have z1:∀k',k'<m->n<=S1.ch k'->S1.R k' (n+m)=0:=fun k' hk' sp=>qBf fun nz=>by
    have:((uU m n S1).map fun p=>!decide (V.int (S1.R p (n+m))=V.int 0)).any id=true:=List.any_eq_true.mpr ⟨_,List.mem_map.mpr ⟨k',mD.mpr ⟨hk',sp⟩,rfl⟩,by
     rw[decide_eq_false (fun y=>nz (V.int.inj y))];rfl⟩
    rw[ea] at this;cases this
   refine⟨_,rfl,m,n,A,due,x,lc,S1,rfl,fo10,gd1,fe1,z1,fun S2 H11 sb11 fo11 gd2 fe2 cl2=>?_⟩;have s111:aG H1 H11:=fun b o e=>sb11 b o (old e).1 (old e).2 (s110 _ _ e);have hg11:=s111 _ _ hg1;refine⟨_,rfl,jD,fun b1 hb1=>?_⟩;have v1:=aG.aF (o:=.lst [.int 0]) hb1;have w1:upd H11 b1 (.lst [.int 0]) b1=some (.lst [.int 0]):=aC;generalize upd H11 b1 (.lst [.int 0])=H12 at v1 w1|-;refine⟨_,rfl,pd,_,rfl,.inl (aR.of (v1 _ _ (s111 _ _ co1.hd))),b1,_,_,rfl,rfl,w1,by rw[aI];lia,by rw[aI];lia,?_,fun b2 hb2=>?_⟩
   ·rw[aI];show 1*((m:Int)).toNat<=qAf;exact qAk (aK (by lia))
   rw[aI,qBl,eU];have v2:=aG.aF (o:=.lst (a9 m fun _=>0)) hb2;have w2:upd H12 b2 (.lst (a9 m fun _=>0)) b2=_:=aC;generalize upd H12 b2 (.lst (a9 m fun _=>0))=H13 at v2 w2|-;refine⟨pg,b2,_,_,rfl,rfl,aR.of (v2 _ _ (v1 _ _ hg11)),aR.of w2,by rw[aI,aI];exact qAk (aK (by lia)),fun pa hpa=>?_⟩;rw[kE];have v3:=aG.aF (o:=.lst (a9 (n+m) fun j=>if j<n then g j else 0)) hpa;have w3:upd H13 pa (.lst (a9 (n+m) fun j=>if j<n then g j else 0)) pa=_:=aC;generalize upd H13 pa (.lst (a9 (n+m) fun j=>if j<n then g j else 0))=H14 at v3 w3|-;have v13:=v1.trans (v2.trans v3);have fo14:=fo11.same v13;have s114:=s111.trans v13;obtain⟨dx11,lr11,ras11,hx11,rs11,hlc11⟩:=id fo11;have npal:pa≠lc:=fun z=>by rw[z,v2 _ _ (v1 _ _ hlc11)] at hpa;cases hpa
   have npax:pa≠x:=fun z=>by rw[z,v2 _ _ (v1 _ _ hx11)] at hpa;cases hpa
   have gn14:Ct m n (fun j=>if j<n then g j else 0) H14 pa:=⟨w3,fun j=>by
    show Sm 100000 (if j<n then g j else 0);split
    ·exact(sg j).mono (by decide)
    ·exact Sm.zero⟩
   have g0:∀j,n<=j->(if j<n then g j else 0)=0:=fun j hj=>if_neg (by lia);refine⟨_,rfl,_,rfl,m,n,A,due,_,x,lc,pa,S2,rfl,fo14,gd2,fe2,gn14,npal,fun S3 H15 sb15 fo15 gd3 run3=>?_⟩;have fe3:=wZ run3;have cl3:=Clean.run run3 cl2;have s115:aG H1 H15:=fun b o e=>sb15 b o (old e).1 (old e).2 (s114 _ _ e);obtain⟨sd3,sR3⟩:=ins.size gd3.ok;have d3:=Wg.Fr.pos gd3.ok;have gsum:∀X:Nat->Int,(Wg.sm n fun j=>(if j<n then g j else 0)*X j)=Wg.sm n fun j=>g j*X j:=fun X=>Wg.aY fun j hj=>by rw[if_pos hj]
   refine⟨fun le3=>?_,fun q hq gr nn=>?_⟩
   ·obtain⟨t1,t2⟩:=Wg.BV gd3.ok cl3 le3 g0;refine⟨_,rfl,rfl,_,rfl,eQ ?_⟩;refine⟨_,rfl,m,n,A,due,x,lc,S3,rfl,fo15,gd3,fun lw ws H16 hlw s16 fw=>?_⟩;have s116:=s115.trans s16;refine⟨_,rfl,_,rfl,_,rfl,m,n,A,due,_,x,lc,pa,pd,S3,rfl,fo15.same s16,gd3,⟨s16 _ _ (sb15 _ _ npax npal gn14.hg),gn14.sz⟩,s116 _ _ co1.hd,fun lp ps H17 hlp s17 fp=>⟨IB,fun r hr=>?_⟩⟩;have u18:=aG.aF (o:=.tup [.str "best",.ref lw,.ref lp]) hr;refine k r _ (s1.trans (s116.trans (s17.trans u18))) (.inl ⟨lw,lp,ws,ps,S3.d,_,_,aC,d3,sd3,ins.small gd3.ok,ins.Le gd3.ok,(fw.same s17).same u18,fp.same u18,(s1.trans s115).free hlw,(s1.trans s116).free hlp,Es gd3 _ fun k' hk'=>sR3 k' hk' _,w6 gd3 gn14.sz,Wg.DN fe3 S3,fun i hi=>Wg.meets gd3.ok cl3 hi,fun j hj=>?_,?_⟩)
    ·have z:=t1 j hj;rw[if_pos hj] at z;exact z
    ·rw[t2,gsum]
   ·obtain⟨t1,t2,t3⟩:=Wg.uD gd3.ok cl3 g0 hq gr nn;refine⟨_,rfl,rfl,_,rfl,dO ?_⟩;refine⟨_,rfl,m,n,A,due,x,lc,S3,rfl,fo15,gd3,fun lw ws H16 hlw s16 fw=>?_⟩;have s116:=s115.trans s16;refine⟨_,rfl,_,rfl,m,n,A,due,x,lc,S3,q,rfl,fo15.same s16,gd3,hq,fun lv vs' H17 hlv s17 fv=>⟨IB,fun r hr=>?_⟩⟩;have u18:=aG.aF (o:=.tup [.str "endless",.ref lw,.ref lv]) hr;rw[gsum] at t3;refine k r _ (s1.trans (s116.trans (s17.trans u18))) (.inr (.inr ⟨lw,lv,ws,vs',S3.d,_,_,aC,d3,sd3,(fw.same s17).same u18,fv.same u18,(s1.trans s115).free hlw,(s1.trans s116).free hlv,Es gd3 _ fun k' hk'=>sR3 k' hk' _,fun j=>?_,Wg.DN fe3 S3,fun i hi=>Wg.meets gd3.ok cl3 hi,t1,t2,t3⟩));unfold Wg.way;split
    ·exact sd3.mono (by decide)
    ·exact Es gd3 _ (fun k' hk'=>(sR3 k' hk' q).le (by rw[qLg];exact qAg _)) j
theorem GH (hl:0<l)(hb:0<b)(h1:l∣d)(h2:b∣d):0<l/qIn l b*b/\l/qIn l b*b∣d/\l∣l/qIn l b*b/\b∣l/qIn l b*b:=by
 have e:l/qIn l b*b=Nat.lcm l b:=by
  unfold Nat.lcm;exact Nat.div_mul_right_comm (qOk l b) b
 rw[e];exact⟨Nat.lcm_pos hl hb,Nat.lcm_dvd h1 h2,Nat.dvd_lcm_left l b,Nat.dvd_lcm_right l b⟩
theorem Et {l b d:Int}(hl:0<l)(hb:0<b)(hd:0<d)(h1:l∣d)(h2:b∣d):0<l.fdiv (qCb l b:Int)*b/\l.fdiv (qCb l b:Int)*b∣d/\l∣l.fdiv (qCb l b:Int)*b/\b∣l.fdiv (qCb l b:Int)*b:=by
 obtain⟨l,rfl⟩:=qHy (qCe hl);obtain⟨b,rfl⟩:=qHy (qCe hb);obtain⟨d,rfl⟩:=qHy (qCe hd);have z:=GH (l:=l) (b:=b) (d:=d) (by lia) (by lia) (Int.natCast_dvd_natCast.mp h1) (Int.natCast_dvd_natCast.mp h2);have e:(l:Int).fdiv (qCb (l:Int) (b:Int):Int)*(b:Int)=((l/qIn l b*b:Nat):Int):=by
  rw[qHf _ (by lia),Int.gcd_natCast_natCast,Int.natCast_mul,Int.natCast_ediv]
 rw[e];exact⟨by lia,Int.natCast_dvd_natCast.mpr z.2.1,Int.natCast_dvd_natCast.mpr z.2.2.1,Int.natCast_dvd_natCast.mpr z.2.2.2⟩
abbrev ta (X d:Int):Int:=X.fdiv (dv X d)
abbrev tb (X d:Int):Int:=d.fdiv (dv X d)
theorem LA (h:0<d):dv X d=(qCb X d:Int):=by unfold dv;rw[if_neg (by lia)]
theorem fH (h:0<d):ta X d*d=X*tb X d/\1<=tb X d/\qCb (ta X d) (tb X d)=1/\tb X d∣d:=by
 obtain⟨_,a,b,c⟩:=Aw X d (by lia);obtain⟨_,_,_,_,e,_⟩:=DX (t:=X) (b:=d) (by lia);refine⟨a,b,c,?_⟩;show d.fdiv (dv X d)∣d;rw[LA h];exact e
theorem nW (h:0<d){n:Nat}(s:Sm n d):Sm n (tb X d):=s.le (by
 have a:=fH (X:=X) h;have:=qFz h a.2.2.2;lia)
theorem p5 (s:Sm n X):Sm n (ta X d):=s.fdiv
structure OO (n:Nat) (X:Nat->Int) (d L:Int):Prop where
 pos:0<L
 dvd:L∣d
 all:∀j,j<n->tb (X j) d∣L
theorem Eu {n:Nat}{X:Nat->Int}{d L:Int}(d0:0<d)(h:OO n X d L):OO (n+1) X d (L.fdiv (qCb L (tb (X n) d):Int)*tb (X n) d):=by
 obtain⟨_,y1,_,yd⟩:=fH (X:=X n) d0;obtain⟨a,b,c,e⟩:=Et h.pos (show 0<tb (X n) d by lia) d0 h.dvd yd;refine⟨a,b,fun j hj=>?_⟩;by_cases z:j=n
 ·rw[z];exact e
 ·exact Int.dvd_trans (h.all j (by lia)) c
theorem HL {d L t X:Int}(d0:0<d)(L0:0<L)(x0:0<=X)(e:t*d=X*L):0<=t:=by
 have:0<=t*d:=by rw[e];exact qDy x0 (qCe L0)
 exact Int.nonneg_of_mul_nonneg_left this d0
theorem mE {n:Nat}{a t X:Nat->Int}{d L:Int}(e:∀j,j<n->t j*d=X j*L):(Wg.sm n fun j=>a j*t j)*d=(Wg.sm n fun j=>a j*X j)*L:=by
 rw[qEa,<- Wg.bK,qEa (Wg.sm n fun j=>a j*X j),<- Wg.bK];refine Wg.aY fun j hj=>?_;have:=e j hj;grind
theorem AI (h:k∣m*n)(g:qCb k m=1):k∣n:=by
 rw[<- qMn,qDx] at h;rw[<- qMn];exact Nat.Coprime.dvd_of_dvd_mul_left (show Nat.Coprime k.natAbs m.natAbs from g) h
theorem uN (h1:lo<=n)(h2:n<=hi):jY lo hi (a9 n a)=true:=by
 unfold jY;rw[aI,decide_eq_true h1,decide_eq_true h2];show(a9 n a).all kR=true;rw[qKa];intro v hv;obtain⟨j,_,rfl⟩:=List.mem_map.mp hv;rfl
theorem w8:∀v∈a9 n a,Pl K H v:=fun v hv=>by
 obtain⟨j,_,rfl⟩:=List.mem_map.mp hv;exact .int _
theorem OP (ins:Inst m n A due)(co:uI m n A due H pc pd cs)(hg:H pg=some (.lst (a9 n g))):Ce K H pc pd pg cs (fun j=>a9 m (A j)) (a9 m due) (a9 n g):=by
 have m8:=ins.m8;have pU:=ins.pU;exact⟨co.hc,by rw[co.len];lia,fun j c e=>⟨co.at_ j c e,w8,by rw[aI];lia⟩,co.hd,w8,by rw[aI];lia,hg,w8,by rw[aI];lia⟩
theorem Ew (ins:Inst m n A due):jZ n (fun j=>a9 m (A j)) (a9 m due) (a9 n g)=true:=by
 unfold jZ;rw[uN ins.m1 ins.m8,decide_eq_true ins.pU,uN (qAg _) (qAg _),aI];have e:((qAn n).map fun j=>jY m m (a9 m (A j))).all id=true:=by
  rw[qKa];intro b hb;obtain⟨j,_,rfl⟩:=List.mem_map.mp hb;exact uN (qAg _) (qAg _)
 rw[e];rfl
theorem p6 (ins:Inst m n A due)(co:uI m n A due H pc pd cs)(hg:H pg=some (.lst (a9 n g)))(sg:∀j,Sm 90000 (g j))(k:∀(r:Addr) (H':Hp),aG H H'->Told m n A due g H H' r->R (.ref r) H'):pZ K NR [.ref pc,.ref pd,.ref pg] H R E:=by
 refine⟨pc,pd,pg,cs,_,_,_,rfl,OP ins co hg,fun no=>?_,fun _=>⟨m,n,A,due,g,ins,co.len,fun j _=>rfl,rfl,rfl,sg,k⟩⟩;rw[co.len,Ew ins] at no;cases no
def Ey (K:qAb):Sp:=fun vs H Q _=>∃(v:V) (lo hi:Int),vs=[v,.int lo,.int hi]/\Pl K H v/\Q (.bl (Ga lo hi v)) H
theorem LB:aO ["thing","least","most"] ["thing","least","most"] (aJ DV):=by constructor<;>first|rfl|decide +kernel
theorem GI (t:Tx K mg "is_number_within" DV ["thing","least","most"] f fd)(D:Df P w K mg base cA 1 "is_number" ["thing"] (sH K) f1 fd1):
  Df P w K mg base cA 2 "is_number_within" ["thing","least","most"] (Ey K) f fd:=by
 refine t.iJ LB (fun vs H Q E h=>?_) (fun cdv A outer s H vs Q E hr h=>?_)
 ·obtain⟨v,lo,hi,rfl,_⟩:=h;rfl
 ·obtain⟨v,lo,hi,rfl,pl,k⟩:=h;refine⟨_,aH (aS (k6 (aV D hr (qAg _) (by rfl) (aA (pv 0) aB)) (jF (CD zU zU (pv 1) (pv 0) (pv 2))))),?_⟩;refine⟨_,rfl,v,rfl,pl,_,rfl,?_⟩;cases v with
  | int i =>
   refine eQ ⟨_,rfl,_,rfl,lo,i,rfl,rfl,_,rfl,?_⟩;refine cJ (fun h1=>⟨_,rfl,i,hi,rfl,rfl,?_⟩) (fun h1=>?_)
   ·have e:decide (i<=hi)=Ga lo hi (.int i):=by
     show _=(decide (lo<=i)&&decide (i<=hi));rw[h1,qJi]
    show Q (.bl (decide (i<=hi))) H;rw[e];exact k
   ·have e:false=Ga lo hi (.int i):=by
     show _=(decide (lo<=i)&&decide (i<=hi));rw[Bool.eq_false_iff.mpr h1,qFi]
    rw[e];exact k
  | _=>exact dO k
def Ez:Sp:=fun vs H Q _=>∃m:Nat,vs=[.int (m:Int)]/\m<=6/\∀H',aG H H'->Q (.int (2^m-1)) H'
theorem Cf:∀m:_root_.Fin 7,(jA.take m.1).sum=2^m.1-1:=by decide
theorem QN:aO ["many"] ["many"] (aJ QB):=by constructor<;>first|rfl|decide +kernel
theorem OQ (t:Tx K mg "whole_company" QB ["many"] f fd)(T:T K mg AL LN FR iF fCh fGM fCC fCA fPL SE NN NG NT NR NS NV NO NL NX TM UL):Df P w K mg base cA 1 "whole_company" ["many"] Ez f fd:=by
 refine t.iJ QN (fun vs H Q E h=>?_) (fun cdv A outer s H vs Q E hr h=>?_)
 ·obtain⟨m,rfl,_⟩:=h;rfl
 ·obtain⟨m,rfl,hm,k⟩:=h;refine⟨_,(aH (aS (aN (jO rfl) (by rfl) T.lZ pG (aA (gO Ae (cH (v:=.ref AL) (by rfl) T.Fx rfl) iX (iY (pv 0))) aB)))),?_⟩;refine⟨_,rfl,_,rfl,AL,_,rfl,T.al _,fun p H' s hq=>⟨p,jA.take m,rfl,.inr ?_,?_⟩⟩
  ·rw[zC,<- qLl] at hq;exact hq
  ·rw[Cf ⟨m,by lia⟩];exact k H' s
def HM (K:qAb)(NG:Addr):Sp:=fun vs H Q E=>∃(v:V) (m:Nat),vs=[v,.int (m:Int)]/\m<=6/\Pl K H v/\(Ga 0 (2^m-1) v=false->∀H',aG H H'->E (.ref NG) none H')/\(Ga 0 (2^m-1) v=true->∀H',aG H H'->Q .non H')
theorem OR:aO ["group","many"] ["group","many"] (aJ Kj):=by constructor<;>first|rfl|decide +kernel
theorem LC (t:Tx K mg "check_group" Kj ["group","many"] f fd)(T:T K mg AL LN FR iF fCh fGM fCC fCA fPL SE NN NG NT NR NS NV NO NL NX TM UL)(D_is_number_within:Df P w K mg base cA 2 "is_number_within" ["thing","least","most"] (Ey K) f1 fd1)
  (D_whole_company:Df P w K mg base cA 1 "whole_company" ["many"] Ez f2 fd2):Df P w K mg base (fY P w) 3 "check_group" ["group","many"] (HM K NG) f fd:=by
 refine t.By OR (fun vs H Q E h=>?_) (fun cdv A outer s H vs Q E hr h=>?_)
 ·obtain⟨v,m,rfl,_⟩:=h;rfl
 ·obtain⟨v,m,rfl,hm,pl,k0,k⟩:=h;refine⟨_,(aH (bU (dG (cG (aV D_is_number_within hr (by decide) (by rfl) (aA (pv 0) (aA aE (aA (aV D_whole_company hr (by decide) (by rfl) (aA (pv 1) aB)) aB)))))) (aH (eS bN rfl (by rfl) T.MT T.Ot (aA dF aB))) a8)),?_⟩;refine⟨_,rfl,_,rfl,m,rfl,hm,fun H' s=>⟨v,0,_,rfl,pl.same s,_,rfl,?_⟩⟩;cases e:Ga 0 (2^m-1) v with
  | true=>exact dO (k e H' s)
  | false=>exact eQ ⟨jD,k0 e H' s⟩
theorem p7 (h0:0<=i)(h5:i<=5):gQ (jA.map V.int) i=some (.int (alone i.toNat)):=by
 have h:i.toNat<6:=by lia
 have all:∀j:_root_.Fin 6,(jA.map V.int)[j.1]?=some (.int (alone j.1)):=by decide
 have z:=fK (all ⟨i.toNat,h⟩);rw[show(((⟨i.toNat,h⟩:_root_.Fin 6).1:Nat):Int)=i from qCt h0] at z;exact z
def EA (K:qAb)(NG:Addr):Sp:=fun vs H Q E=>∃v,vs=[v]/\Pl K H v/\(Ga 0 (2^6-1) v=false->∀H',aG H H'->E (.ref NG) none H') /\
 ∀(g:Nat) (l:Addr) (H':Hp),v = .int (g:Int)->g<64->H l=none->aG H H'->H' l=some (.lst ((dU g).map V.int))->Q (.ref l) H'
theorem OS:aO ["group"] ["group"] (aJ Kk):=by constructor<;>first|rfl|decide +kernel
theorem LD (t:Tx K mg "hands_of" Kk ["group"] f fd)(T:T K mg AL LN FR iF fCh fGM fCC fCA fPL SE NN NG NT NR NS NV NO NL NX TM UL)(D_check_group:Df P w K mg base (fY P w) 3 "check_group" ["group","many"] (HM K NG) f1 fd1):
  Df P w K mg base (fY P w) 4 "hands_of" ["group"] (EA K NG) f fd:=by
 refine t.By OS (fun vs H Q E h=>?_) (fun cdv A outer s H vs Q E hr h=>?_)
 ·obtain⟨v,rfl,_⟩:=h;rfl
 ·obtain⟨v,rfl,pl,k0,k⟩:=h;refine⟨_,(aD (eX (cR bN.toPass D_check_group hr (by decide) (by rfl) (aA (pv 0) (aA (aN aT (by rfl) T.cK bY (aA (cH (v:=.ref AL) (by rfl) T.Fx rfl) aB)) aB))))
   (aH (aS (bO (NB:=["hand","group"]) (pick:=[none,some 0]) (bF (by with_unfolding_all rfl) (by exact(And.intro rfl trivial)) rfl (by decide +kernel) (by decide +kernel) (by rfl) (by rfl)) rfl
     (c9 (by rfl) T.cM (aA (aN aT (by rfl) T.cK bY (aA (cH (v:=.ref AL) (by rfl) T.Fx rfl) aB)) aB)) (fun _ _ _=>aM (i:=0) (show(["hand","group"]:List Str).Nodup from by decide +kernel) rfl bP)
     (fun _ _ _=>eZ (aW g9 (aQ Cz (pv 1) (aU (iZ K) (cH (v:=.ref AL) (by rfl) T.Fx rfl) (pv 0) (fun _ _=>rfl))) aE (aX _))) (fun _ _ _=>(pv 0)))))),?_⟩
  refine⟨_,rfl,AL,_,rfl,.inr (T.al _),v,6,rfl,by decide,pl,k0,fun h1 H' s1=>?_⟩;obtain⟨g,rfl,hg⟩:=DY h1;have hg:g<64:=hg;refine⟨AL,_,rfl,.inr (T.al _),_,rfl,by decide,by decide,?_⟩;refine CZ (r9 g) (by decide) (fun i H2 kk kk0 hi h1 h2=>?_) fun D hD=>?_
  ·obtain⟨j,rfl⟩:∃j:Nat,j=i:=⟨i,rfl⟩;have e0:(0:Int)+(j:Int)=(j:Int):=qDt _;have hat:gQ (jA.map V.int) ((0:Int)+(j:Int))=some (.int (alone j)):=by
    rw[e0];have z:=p7 (i:=(j:Int)) (by lia) (by have:j<6:=hi;lia);simpa using z
   refine⟨_,rfl,_,rfl,AL,_,_,_,rfl,rfl,T.al _,hat,_,_,rfl,rfl,rfl,_,rfl,?_⟩;refine cJ (fun h3=>⟨_,rfl,h1 _ ?_⟩) (fun h3=>h2 ?_)
   ·have z:¬V.int (qGd (g:Int) (alone j))=V.int 0:=of_decide_eq_false (by
     have z:(!decide (V.int (qGd (g:Int) (alone j))=V.int 0))=true:=h3;simpa using z)
    rw[e0];unfold r9;rw[if_neg fun q=>z (congrArg V.int q)]
   ·unfold r9;refine if_pos (qBf fun q=>h3 ?_);show(!decide (V.int (qGd (g:Int) (alone j))=V.int 0))=true;rw[decide_eq_false fun z=>q (V.int.inj z)];rfl
  ·have e':(qAn 6).filterMap (r9 g)=(dU g).map V.int:=zA ⟨g,hg⟩;show Q _ (upd H' D (.lst ((qAn 6).filterMap (r9 g))));rw[e'];exact k g D _ rfl hg (s1.free hD) (s1.trans (.aF hD)) aC
def dQ (xs:List V):Bool:=[2,4,8,16,32,64].contains xs.length&&xs.all kR&&decide (xs[0]?=some (.int 0))
def HN (K:qAb):Sp:=fun vs H Q _=>∃(p:Addr) (xs:List V),vs=[.ref p]/\H p=some (.lst xs)/\(∀v∈xs,Pl K H v)/\xs.length<=1000/\∀H',aG H H'->Q (.bl (dQ xs)) H'
theorem OT:aO ["thing"] ["thing"] (aJ Km):=by constructor<;>first|rfl|decide +kernel
theorem GJ (n:Nat):(!Jb (.int (n:Int)) (gE (pS.map V.int) (some 1) none)) = !([2,4,8,16,32,64].contains n):=by
 have e:gE (pS.map V.int) (some 1) none=[V.int 2,.int 4,.int 8,.int 16,.int 32,.int 64]:=by decide
 rw[e];have q:∀k:Nat,FU (.int (k:Int)) (.int (n:Int))=(n == k):=fun k=>by
  show((k:Int) == (n:Int))=(n == k);rw[qFv,beq_iff_eq,beq_iff_eq];lia
 have:=q 2;have:=q 4;have:=q 8;have:=q 16;have:=q 32;have:=q 64;simp_all [Jb];rfl
theorem LF (t:Tx K mg "is_table" Km ["thing"] f fd)(T:T K mg AL LN FR iF fCh fGM fCC fCA fPL SE NN NG NT NR NS NV NO NL NX TM UL)(D_is_number:Df P w K mg base cA 1 "is_number" ["thing"] (sH K) f1 fd1):
  Df P w K mg base cA 2 "is_table" ["thing"] (HN K) f fd:=by
 refine t.iJ OT (fun vs H Q E h=>?_) (fun cdv A outer s H vs Q E hr h=>?_)
 ·obtain⟨p,xs,rfl,_⟩:=h;rfl
 ·obtain⟨p,xs,rfl,hp,pl,hlen,k⟩:=h;refine⟨_,(aD (bU (PW.pt (pw_or (dG (cG (aN cV (by rfl) T.eD dI (aA (pv 0) (aA (eW (v:=.ty "list") (by rfl) T.cQ c5 rfl) aB))))) (pw_or1 (aW tM (aN aT (by rfl) T.cK bY (aA (pv 0) aB)) (gO Ae (cH (v:=.ref LN) (by rfl) T.MS rfl) (iY aE) iX) (by rfl))))) (aH (aS iG)) a8)
   (aH (aS (k6 (aN (jP rfl) (by rfl) T.mB pH (aA (bO (NB:=["number"]) (pick:=[none]) (bF (by with_unfolding_all rfl) (by exact trivial) rfl (by decide +kernel) (by decide +kernel) (by rfl) (by rfl)) rfl
     (bJ (pv 0)) (fun _ _ _=>aM (i:=0) (show(["number"]:List Str).Nodup from by decide +kernel) rfl bP)
     (fun _ _ _=>bI) (fun _ _ _=>(aV D_is_number hr (by decide) (by rfl) (aA (pv 0) aB)))) aB)) (jF (dR eO (aU bC (pv 0) aE (fun _ _=>rfl)) aE (aX _))))))),?_⟩
  refine⟨_,rfl,.ref p,.ty "list",_,_,_,rfl,rfl,.of (.lst hp),Kd.lst.vQ K,_,rfl,dO ?_⟩;refine⟨_,rfl,p,_,rfl,.inl (aR.of hp),_,rfl,LN,_,rfl,T.ln _,fun q H1 s1 hq=>⟨q,_,rfl,.inr hq,rfl,by decide,_,rfl,?_⟩⟩;show if (!Jb (.int (xs.length:Int)) (gE (pS.map V.int) (some 1) none))=true then _ else _;rw[GJ];cases ec:[2,4,8,16,32,64].contains xs.length with
  | false =>
   have e:false=dQ xs:=by unfold dQ;rw[ec];rfl
   refine eQ ?_;have z:=k H1 s1;rw[<- e] at z;exact z
  | true =>
   refine dO ⟨_,rfl,p,rfl,⟨xs,aR.of (s1 _ _ hp)⟩,?_⟩;refine cB (xs:=xs) (fun _ x=>some (.bl (kR x))) (aR.of (s1 _ _ hp)) (qAk (aK hlen)) (fun i x H2 kk kk0 s2 hx h1 h2=>?_) fun D H2 hD s2 hd=>?_
   ·exact⟨_,rfl,x,rfl,(pl x (qBa hx)).same (s1.trans s2),h1 _ rfl _ (.refl _)⟩
   ·have ed:((qAn xs.length).filterMap fun i=>(xs[i]?).bind fun x=>some (V.bl (kR x)))=(xs.map kR).map V.bl:=by
     rw[qCz,<- tR];rfl
    rw[ed] at hd;refine⟨D,_,rfl,aR.of hd,_,rfl,?_⟩;have ea:(xs.map kR).all id=xs.all kR:=by rw[qPk];rfl
    rw[ea];cases eb:xs.all kR with
    | false =>
     have e:false=dQ xs:=by unfold dQ;rw[ec,eb];rfl
     refine dO ?_;have z:=k H2 (s1.trans s2);rw[<- e] at z;exact z
    | true =>
     have hpos:0<xs.length:=by
      cases xs with
      | nil=>exact absurd ec (by decide)
      | cons _ _=>exact qPn _
     obtain⟨i,hi⟩:∃i,xs[0]?=some (.int i):=by
      have hm:=List.all_eq_true.mp eb xs[0] (qEi hpos);cases e0:xs[0] with
      | int i=>exact⟨i,by rw[qAd hpos,e0]⟩
      | _=>rw[e0] at hm;exact(qAj hm).elim
     refine eQ ⟨_,rfl,p,_,_,_,rfl,rfl,aR.of (s2 _ _ (s1 _ _ hp)),fK hi,rfl,?_⟩;have e:decide (V.int i=V.int 0)=dQ xs:=by unfold dQ;rw[ec,eb,hi];simp
     show Q (.bl (decide (V.int i=V.int 0))) H2;rw[e];exact k H2 (s1.trans s2)
def xA (K:qAb)(NT:Addr):Sp:=fun vs H Q E=>∃(p:Addr) (xs:List V),vs=[.ref p]/\H p=some (.lst xs)/\(∀v∈xs,Pl K H v)/\xs.length<=1000/\(dQ xs=false->∀H',aG H H'->E (.ref NT) none H') /\
 ∀m:Nat,1<=m->m<=6->xs.length=2^m->dQ xs=true->∀H',aG H H'->Q (.int (m:Int)) H'
theorem OU:aO ["table"] ["table"] (aJ Kn):=by constructor<;>first|rfl|decide +kernel
theorem GK (h:dQ xs=true):∃m:Nat,1<=m/\m<=6/\xs.length=2^m:=by
 have z:[2,4,8,16,32,64].contains xs.length=true:=by
  unfold dQ at h;rw[qCd,qCd] at h;exact h.1.1
 have z:xs.length∈[2,4,8,16,32,64]:=by simpa using z
 simp only[qDw,qCv,or_false] at z;rcases z with z | z | z | z | z | z
 ·exact⟨1,by decide,by decide,z⟩
 ·exact⟨2,by decide,by decide,z⟩
 ·exact⟨3,by decide,by decide,z⟩
 ·exact⟨4,by decide,by decide,z⟩
 ·exact⟨5,by decide,by decide,z⟩
 ·exact⟨6,by decide,by decide,z⟩
theorem GL:∀m:_root_.Fin 7,pS[m.1]?=some ((2:Int)^m.1)/\∀j:_root_.Fin 7,j.1<m.1->pS[j.1]?≠some ((2:Int)^m.1):=by decide
theorem LG (t:Tx K mg "hands_in" Kn ["table"] f fd)(T:T K mg AL LN FR iF fCh fGM fCC fCA fPL SE NN NG NT NR NS NV NO NL NX TM UL)(D_is_table:Df P w K mg base cA 2 "is_table" ["thing"] (HN K) f1 fd1):
  Df P w K mg base (fY P w) 3 "hands_in" ["table"] (xA K NT) f fd:=by
 refine t.By OU (fun vs H Q E h=>?_) (fun cdv A outer s H vs Q E hr h=>?_)
 ·obtain⟨p,xs,rfl,_⟩:=h;rfl
 ·obtain⟨p,xs,rfl,hp,pl,hlen,k0,k⟩:=h;refine⟨_,(aD (bU (dG (cG (aV D_is_table hr (by decide) (by rfl) (aA (pv 0) aB)))) (aH (eS bN rfl (by rfl) T.MU T.Ov (aA dF aB))) a8)
   (aH (aS (vD PySem.F.plainAttrs_tuple PySem.F.slot_tuple_index PySem.F.type_tuple_index Di (cH (v:=.ref LN) (by rfl) T.MS rfl) (aA (aN aT (by rfl) T.cK bY (aA (pv 0) aB)) aB))))),?_⟩
  refine⟨_,rfl,p,xs,rfl,hp,pl,hlen,fun H1 s1=>⟨_,rfl,?_⟩⟩;cases e:dQ xs with
  | false=>exact eQ ⟨jD,k0 e H1 s1⟩
  | true =>
   obtain⟨m,h1,h6,hm⟩:=GK e;obtain⟨l1,l2⟩:=GL ⟨m,by lia⟩;refine dO ⟨.inr (.inl ⟨rfl,T.RO⟩),_,rfl,p,_,rfl,.inl (aR.of (s1 _ _ hp)),LN,pS,_,m,rfl,rfl,T.ln _,?_,?_,k m h1 h6 hm e H1 s1⟩
   ·rw[hm,l1];push_cast;rfl
   ·intro j hj;have z:=l2 ⟨j,by lia⟩ hj;rw[hm];intro q;refine z (q.trans ?_);push_cast;rfl
def QO (m:Nat)(rs:List Int):Prop:=1<=m/\m<=6/\rs.length=2^m/\rs[0]?=some 0
theorem GN (t:QO m rs):dQ (rs.map V.int)=true:=by
 obtain⟨m1,m6,h,h0⟩:=t;have hc:[2,4,8,16,32,64].contains (2^m)=true:=by
  have all:∀k:_root_.Fin 7,1<=k.1->[2,4,8,16,32,64].contains (2^k.1)=true:=by decide
  exact all ⟨m,by lia⟩ m1
 unfold dQ;rw[qAc,h,hc,all_ints,qAo,h0];rfl
def bt (g i:Nat):Int:=((g/2^i%2:Nat):Int)
theorem p8 (g i:Nat):bt g i=0\/bt g i=1:=by unfold bt;lia
theorem p9 (g i:Nat):Sm 2 (bt g i):=by
 show(bt g i).natAbs<2^2;rcases p8 g i with e | e <;> rw[e] <;> decide
theorem EB:∀(g:_root_.Fin 64) (i:_root_.Fin 6),(if (!decide (V.int (qGd ((g.1:Nat):Int) (alone i.1))=V.int 0))=true then (1:Int) else 0)=bt g.1 i.1:=by decide +kernel
def qA:Sp:=fun vs H Q _=>∃g m:Nat,vs=[.int (g:Int),.int (m:Int)]/\g<64/\m<=6/\∀D H',H D=none->aG H H'->H' D=some (.lst (a9 m (bt g)))->Q (.ref D) H'
theorem OV:aO ["group","many"] ["group","many"] (aJ Kl):=by constructor<;>first|rfl|decide +kernel
theorem LH (t:Tx K mg "marks_of" Kl ["group","many"] f fd)(T:T K mg AL LN FR iF fCh fGM fCC fCA fPL SE NN NG NT NR NS NV NO NL NX TM UL):Df P w K mg base cA 1 "marks_of" ["group","many"] qA f fd:=by
 refine t.iJ OV (fun vs H Q E h=>?_) (fun cdv _A outer s H vs Q E hr h=>?_)
 ·obtain⟨g,m,rfl,_⟩:=h;rfl
 ·obtain⟨g,m,rfl,hg,hm,k⟩:=h;refine⟨_,(aH (aS (bO (NB:=["hand","group"]) (pick:=[none,some 0]) (bF (by with_unfolding_all rfl) (by exact(And.intro rfl trivial)) rfl (by decide +kernel) (by decide +kernel) (by rfl) (by rfl)) rfl
     (c9 (by rfl) T.cM (aA (pv 1) aB)) (fun _ _ _=>aM (i:=0) (show(["hand","group"]:List Str).Nodup from by decide +kernel) rfl bP)
     (fun _ _ _=>bI) (fun _ _ _=>(lI (aW g9 (aQ Cz (pv 1) (aU (iZ K) (cH (v:=.ref AL) (by rfl) T.Fx rfl) (pv 0) (fun _ _=>rfl))) aE (aX _)) aE aE))))),?_⟩
  refine⟨_,rfl,m,rfl,by lia,by lia,?_⟩;refine jQ (n:=m) (fun j=>some (.int (bt g j))) (qAk (aK (by lia))) (fun j H2 kk kk0 s2 hj g1 g2=>?_) fun D H2 hD s2 hd=>?_
  ·have e0:(0:Int)+(j:Int)=(j:Int):=qDt _;have hat:gQ (jA.map V.int) ((0:Int)+(j:Int))=some (.int (alone j)):=by
    rw[e0];have z:=p7 (i:=(j:Int)) (by lia) (by lia);simpa using z
   have z:=EB ⟨g,hg⟩ ⟨j,by lia⟩;dsimp only at z;refine⟨_,rfl,_,rfl,AL,_,_,_,rfl,rfl,T.al _,hat,_,_,rfl,rfl,rfl,_,rfl,cJ (fun h3=>?_) (fun h3=>?_)⟩
   ·rw[if_pos h3] at z;exact g1 _ (by rw[<- z]) _ (.refl _)
   ·rw[if_neg h3] at z;exact g1 _ (by rw[<- z]) _ (.refl _)
  ·refine k D H2 hD s2 ?_;rw[hd,qEd];rfl
theorem EC {l b:Int}(hl:0<l)(hb:0<b):l*b.fdiv (qCb l b:Int)=l.fdiv (qCb l b:Int)*b:=by
 have g0:(0:Int)<(qCb l b:Int):=by
  have:=qKx b (show l≠0 by lia);lia
 obtain⟨c,hc⟩:=qKg (a:=l) (b:=b);obtain⟨e,he⟩:=qJu (a:=l) (b:=b);generalize hG:(qCb l b:Int)=G at *;have e1:b.fdiv G=e:=by rw[he];exact qCx _ (by lia)
 have e2:l.fdiv G=c:=by rw[hc];exact qCx _ (by lia)
 rw[e1,e2,hc];grind
def AJ:Sp:=fun vs H Q _=>∃(l:Addr) (n:Nat) (X:Nat->Int) (d:Int) (ws:List Addr),vs=[.ref l]/\kN n X d H l ws/\0<d/\Sm 6000 d/\∀L,OO n X d L->Q (.int L) H
theorem AK:aO ["fractions","common","one"] ["fractions"] (aJ Kh):=by constructor<;>first|rfl|decide +kernel
theorem LI {f1:Addr}{fd1:qCl}(t:Tx K mg "common_bottom" Kh ["fractions"] f fd)(T:T K mg AL LN FR iF fCh fGM fCC fCA fPL SE NN NG NT NR NS NV NO NL NX TM UL)(D_greatest_divisor:Df P w K mg base cA 1 "greatest_divisor" ["one","other"] AA f1 fd1):
  Df P w K mg base cA 2 "common_bottom" ["fractions"] AJ f fd:=by
 refine t.iJ AK (fun vs H Q E h=>?_) (fun cdv A outer s H vs Q E hr h=>?_)
 ·obtain⟨l,n,X,d,ws,rfl,_⟩:=h;rfl
 ·obtain⟨l,n,X,d,ws,rfl,fl,d0,sd,k⟩:=h;refine⟨_,(aD (aP (i:=1) AK.nd rfl bP aE)
   (aD (eL PassesOwn.never rfl (bJ (pv 0)) (aM (i:=2) AK.nd rfl bP)
    (aH (aP (i:=1) AK.nd rfl bP (aQ bS (pv 1) (aQ jN (aU bR (pv 2) aE (fun _ _=>rfl)) (aV D_greatest_divisor hr (by decide) (by rfl) (aA (pv 1) (aA (aU bR (pv 2) aE (fun _ _=>rfl)) aB))))))))
   (aH (aS (pv 1))))),?_⟩
  refine⟨_,rfl,l,rfl,⟨_,aR.of fl.hr⟩,?_⟩;refine fV (xs:=ws.map V.ref) (fun i σ H2=>H2=H/\∃(L:Int) (o:Option V),σ=[some (.ref l),some (.int L),o]/\OO i X d L) ⟨rfl,1,_,rfl,by decide,Int.one_dvd _,fun j hj=>by lia⟩ (fun i σ H2 _ ⟨e,_⟩=>by rw[e];exact aR.of fl.hr) (fun i y σ H2 hy ⟨eH,L,o,eσ,lo⟩=>?_) (fun σ H2 ⟨eH,L,o,eσ,lo⟩=>?_)
  ·subst eH eσ;obtain⟨p,hp,rfl⟩:=dP hy;have hpt:=fl.at_ i p hp;obtain⟨_,y1,_,yd⟩:=fH (X:=X i) d0;have sL:Sm 6000 L:=sd.le (by have:=qFz d0 lo.dvd;have:=lo.pos;lia);have sb:=nW (X:=X i) d0 sd;have g0:(qCb L (tb (X i) d):Int)≠0:=by
    have:=qKx (tb (X i) d) (show L≠0 by have:=lo.pos;lia);lia
   have sg:Sm 6000 ((qCb L (tb (X i) d):Nat):Int):=sL.le (by
    rw[Int.natAbs_natCast];exact qLr (by have:=lo.pos;lia) (qOk _ _))
   have st:=Eu d0 lo;rw[<- EC lo.pos (show 0<tb (X i) d by lia)] at st;exact⟨_,rfl,_,rfl,p,_,_,_,rfl,rfl,cX.of hpt,rfl,_,rfl,_,rfl,p,_,_,_,rfl,rfl,cX.of hpt,rfl,_,_,rfl,_,_,rfl,rfl,sg.db g0,_,_,rfl,rfl,sL.mb sb.fdiv,rfl,_,_,rfl,st⟩
  ·subst eH eσ;rw[qAc,fl.len] at lo;exact⟨_,rfl,k L lo⟩
def AM:Sp:=fun vs H Q _=>∃(l:Addr) (n:Nat) (X:Nat->Int) (d L:Int) (ws:List Addr),vs=[.int L,.ref l]/\kN n X d H l ws/\n<=100/\0<d/\Sm 6000 d/\(∀j,Sm 300000 (X j))/\OO n X d L /\
 ∀(D:Addr) (H':Hp) (tt:Nat->Int),H D=none->aG H H'->H' D=some (.lst (a9 n tt))->(∀j,j<n->tt j*d=X j*L)->(∀j,Sm 320000 (tt j))->Q (.ref D) H'
theorem OW:aO ["bottom","fractions"] ["bottom","fractions"] (aJ Ki):=by constructor<;>first|rfl|decide +kernel
theorem LJ (t:Tx K mg "tops_over" Ki ["bottom","fractions"] f fd)(T:T K mg AL LN FR iF fCh fGM fCC fCA fPL SE NN NG NT NR NS NV NO NL NX TM UL):Df P w K mg base cA 1 "tops_over" ["bottom","fractions"] AM f fd:=by
 refine t.iJ OW (fun vs H Q E h=>?_) (fun cdv A outer s H vs Q E hr h=>?_)
 ·obtain⟨l,n,X,d,L,ws,rfl,_⟩:=h;rfl
 ·obtain⟨l,n,X,d,L,ws,rfl,fl,n1,d0,sd,sX,lo,k⟩:=h;refine⟨_,(aH (aS (bO (NB:=["one","bottom"]) (pick:=[none,some 0]) (bF (by with_unfolding_all rfl) (by exact(And.intro rfl trivial)) rfl (by decide +kernel) (by decide +kernel) (by rfl) (by rfl)) rfl
     (bJ (pv 1)) (fun _ _ _=>aM (i:=0) (show(["one","bottom"]:List Str).Nodup from by decide +kernel) rfl bP)
     (fun _ _ _=>bI) (fun _ _ _=>(aQ bS (aU (iZ K) (pv 0) aE (fun _ _=>rfl)) (aQ jN (pv 1) (aU (iZ K) (pv 0) aE (fun _ _=>rfl)))))))),?_⟩
  have sL:Sm 6000 L:=sd.le (by have:=qFz d0 lo.dvd;have:=lo.pos;lia);refine⟨_,rfl,l,rfl,⟨_,aR.of fl.hr⟩,?_⟩;refine cB (xs:=ws.map V.ref) (fun j _=>some (.int (ta (X j) d*L.fdiv (tb (X j) d)))) (aR.of fl.hr) (by rw[qAc,fl.len];exact qAk (aK (by lia))) (fun j y H2 kk kk0 s2 hy g1 g2=>?_) fun D H2 hD s2 hd=>?_
  ·obtain⟨p,hp,rfl⟩:=dP hy;have hpt:=s2 _ _ (fl.at_ j p hp);obtain⟨_,y1,_,yd⟩:=fH (X:=X j) d0;exact⟨_,rfl,p,_,_,_,rfl,rfl,cX.of hpt,rfl,_,rfl,_,rfl,p,_,_,_,rfl,rfl,cX.of hpt,rfl,_,_,rfl,rfl,(nW (X:=X j) d0 sd).db (show tb (X j) d≠0 by lia),_,_,rfl,rfl,(p5 (sX j)).mb sL.fdiv,g1 _ rfl _ (.refl _)⟩
  ·refine k D H2 (fun j=>ta (X j) d*L.fdiv (tb (X j) d)) hD s2 ?_ (fun j hj=>?_) fun j=>((p5 (sX j)).mul sL.fdiv).mono (by decide)
   ·rw[hd,qAc,fl.len,jX _ (by rw[qAc,fl.len])];rfl
   ·obtain⟨e,y1,_,yd⟩:=fH (X:=X j) d0;obtain⟨c,hc⟩:=lo.all j hj;have e2:L.fdiv (tb (X j) d)=c:=by
     rw[hc];exact qCx _ (by lia)
    rw[e2,hc];generalize ta (X j) d=a at e;generalize tb (X j) d=b at e;grind
theorem lC (hy:0<y)(hd:0<d)(e:x*d=X*y):fZ x y=fZ X d:=by
 obtain⟨a1,b1,c1,_⟩:=fH (X:=x) hy;obtain⟨a2,b2,c2,_⟩:=fH (X:=X) hd;generalize hp1:ta x y=p1 at *;generalize hq1:tb x y=q1 at *;generalize hp2:ta X d=p2 at *;generalize hq2:tb X d=q2 at *;have cross:p1*q2=p2*q1:=by
  have hne:y*d≠0:=qKw (by lia) (by lia);refine qLb hne ?_;have e1:p1*q2*(y*d)=(p1*y)*q2*d:=by grind
  have e2:p2*q1*(y*d)=(p2*d)*q1*y:=by grind
  rw[e1,e2,a1,a2];have e3:x*q1*q2*d=x*d*(q1*q2):=by grind
  have e4:X*q2*q1*y=X*y*(q1*q2):=by grind
  rw[e3,e4,e]
 have d12:q1∣q2:=AI (m:=p1) (by rw[cross];exact qOn ..) (by rw[qPs];exact c1);have d21:q2∣q1:=AI (m:=p2) (by rw[<- cross];exact qOn ..) (by rw[qPs];exact c2);have qq:q1=q2:=by
  have l1:=qFz (by lia) d12;have l2:=qFz (by lia) d21;lia
 have pp:p1=p2:=by
  rw[qq] at cross;exact qLb (by lia) cross
 show HO.tup [V.int (ta x y),V.int (tb x y)]=HO.tup [V.int (ta X d),V.int (tb X d)];rw[hp1,hq1,hp2,hq2,pp,qq]
def ED:Sp:=fun vs H Q _=>∃(p q:Addr) (a b d:Int),vs=[.ref p,.ref q]/\H p=some (fZ a d)/\H q=some (fZ b d)/\0<d/\Sm 3000 d/\Sm 400000 a/\Sm 400000 b/\∀r H',aG H H'->H' r=some (fZ (a+b) d)->Q (.ref r) H'
theorem OX:aO ["one","other"] ["one","other"] (aJ Kf):=by constructor<;>first|rfl|decide +kernel
theorem LK (t:Tx K mg "plus" Kf ["one","other"] f fd)(T:T K mg AL LN FR iF fCh fGM fCC fCA fPL SE NN NG NT NR NS NV NO NL NX TM UL)(D_fraction:Df P w K mg base (fY P w) 2 "fraction" ["top","bottom"] (uG K NN) f1 fd1):
  Df P w K mg base cA 3 "plus" ["one","other"] ED f fd:=by
 refine t.iJ OX (fun vs H Q E h=>?_) (fun cdv A outer s H vs Q E hr h=>?_)
 ·obtain⟨p,q,a,b,d,rfl,_⟩:=h;rfl
 ·obtain⟨p,q,a,b,d,rfl,hp,hq,d0,sd,sa,sb,k⟩:=h;obtain⟨e1,y1,_,_⟩:=fH (X:=a) d0;obtain⟨e2,y2,_,_⟩:=fH (X:=b) d0;have n2:1*1<=tb a d*tb b d:=qPb y1 y2 (by decide) (by lia);have s1:=nW (X:=a) d0 sd;have s2:=nW (X:=b) d0 sd;refine⟨_,(aH (aS (cR cI D_fraction hr (by decide) (by rfl) (aA (aQ f9 (aQ bS (aU bR (pv 0) aE (fun _ _=>rfl)) (aU bR (pv 1) aE (fun _ _=>rfl))) (aQ bS (aU bR (pv 1) aE (fun _ _=>rfl)) (aU bR (pv 0) aE (fun _ _=>rfl)))) (aA (aQ bS (aU bR (pv 0) aE (fun _ _=>rfl)) (aU bR (pv 1) aE (fun _ _=>rfl))) aB))))),?_⟩;refine⟨_,rfl,p,_,_,_,rfl,rfl,cX.of hp,rfl,_,rfl,q,_,_,_,rfl,rfl,cX.of hq,rfl,_,_,rfl,rfl,(p5 sa).mb s2,_,rfl,q,_,_,_,rfl,rfl,cX.of hq,rfl,_,rfl,p,_,_,_,rfl,rfl,cX.of hp,rfl,_,_,rfl,rfl,(p5 sb).mb s1,_,_,rfl,rfl,_,rfl,p,_,_,_,rfl,rfl,cX.of hp,rfl,_,rfl,q,_,_,_,rfl,rfl,cX.of hq,rfl,_,_,rfl,rfl,s1.mb s2,?_⟩;dsimp only[fP,qBn,qBp];refine pX (by show tb a d*tb b d≠0;lia) ((s1.mul s2).mono (by decide)) fun r hr=>k r _ (.aF hr) ?_;rw[aC];have e:fZ (ta a d*tb b d+ta b d*tb a d) (tb a d*tb b d)=fZ (a+b) d:=by
   refine lC (by lia) d0 ?_;have z1:(ta a d*tb b d+ta b d*tb a d)*d=(ta a d*d)*tb b d+(ta b d*d)*tb a d:=by grind
   rw[z1,e1,e2];grind
  exact congrArg some e
theorem EE (g:Nat)(Y:Nat->Int):∀i,((hN g i).map fun h=>Y h.toNat).sum=Wg.sm i fun h=>bt g h*Y h
 | 0=>rfl
 | i+1=>by
  have ih:=EE g Y i;show _=(Wg.sm i fun h=>bt g h*Y h)+bt g i*Y i;rw[<- ih];have eh:hN g (i+1)=if g/2^i%2=1 then hN g i++[(i:Int)] else hN g i:=rfl;rw[eh];unfold bt;split
  ·rename_i e;rw[e,qAu,qIf,qDj,qEn,qLk,qPi,qEb,qBl];simp
  ·have e:g/2^i%2=0:=by lia
   rw[e];simp
theorem OY (hg:g<2^m)(hi:m<=i):bt g i=0:=by
 unfold bt;rw[qOl (qAy hg (qBw (by decide) hi))];rfl
theorem uO {m g:Nat}{Y:Nat->Int}(hg:g<2^m):∀k,(Wg.sm (m+k) fun h=>bt g h*Y h)=Wg.sm m fun h=>bt g h*Y h
 | 0=>rfl
 | k+1=>by
  show(Wg.sm (m+k) fun h=>bt g h*Y h)+bt g (m+k)*Y (m+k)=_;rw[uO hg k,OY hg (by lia),qBg,qEb]
def EF (K:qAb):Sp:=fun vs H Q _=>∃(q:Addr) (m g:Nat) (Y:Nat->Int) (d:Int) (ws:List Addr),vs=[.int (g:Int),.ref q]/\kN m Y d H q ws/\m<=6/\g<2^m/\0<d/\Sm 3000 d/\(∀j,Sm 330000 (Y j)) /\
 ∀r H',aG H H'->H' r=some (fZ (Wg.sm m fun i=>bt g i*Y i) d)->Q (.ref r) H'
theorem AN:aO ["group","shares","total","hand"] ["group","shares"] (aJ KA):=by constructor<;>first|rfl|decide +kernel
theorem EG {Y:Nat->Int}(hY:∀j,Sm 330000 (Y j)):∀(l:List Int),l.length<=60000->Sm (330000+l.length) (l.map fun h=>Y h.toNat).sum
 | [],_=>Sm.zero
 | h::l,hl=>by
  have ih:=EG hY l (by rw[qCn] at hl;lia);rw[qDj,qLk,qCn];exact(((hY h.toNat).mono (qKf _ _)).add ih)
theorem LL {f1 f2:Addr}{fd1 fd2:qCl}(t:Tx K mg "share_of" KA ["group","shares"] f fd)(T:T K mg AL LN FR iF fCh fGM fCC fCA fPL SE NN NG NT NR NS NV NO NL NX TM UL)(D_hands_of:Df P w K mg base (fY P w) 4 "hands_of" ["group"] (EA K NG) f1 fd1)
  (D_plus:Df P w K mg base cA 3 "plus" ["one","other"] ED f2 fd2):Df P w K mg base cA 5 "share_of" ["group","shares"] (EF K) f fd:=by
 refine t.iJ AN (fun vs H Q E h=>?_) (fun cdv A outer s H vs Q E hr h=>?_)
 ·obtain⟨q,m,g,Y,d,ws,rfl,_⟩:=h;rfl
 ·obtain⟨q,m,g,Y,d,ws,rfl,fl,m6,gm,d0,sd,sY,k⟩:=h;have h64:g<64:=qAy gm (zD m6);refine⟨_,(aD (aP (i:=2) AN.nd rfl bP (bQ (aA aE (aA aE aB))))
   (aD (eL PassesOwn.never rfl (bJ (cR cI D_hands_of hr (by decide) (by rfl) (aA (pv 0) aB))) (aM (i:=3) AN.nd rfl bP)
    (aH (aP (i:=2) AN.nd rfl bP (aV D_plus hr (by decide) (by rfl) (aA (pv 2) (aA (aU bC (pv 1) (pv 3) (fun _ _=>rfl)) aB))))))
   (aH (aS (pv 2))))),?_⟩
  refine⟨jB,fun r0 hr0=>?_⟩;have u0:=aG.aF (o:=.tup [V.int 0,V.int 1]) hr0;have k0:upd H r0 (.tup [V.int 0,V.int 1]) r0=some (fZ 0 d):=by rw[pW d0];exact aC
  generalize upd H r0 (.tup [V.int 0,V.int 1])=H0 at u0 k0|-;refine⟨_,rfl,_,rfl,.int _,fun no=>?_,fun g' la H1 hv _ hla s1 hl1=>?_⟩
  ·exact absurd no (by rw[Ax (m:=6) h64];decide)
  obtain rfl:g=g':=by have:=V.int.inj hv;lia
  have hal:∀h∈dU g,0<=h/\h<m:=fun h hh=>uF gm 6 h hh;have hlen:(dU g).length<=6:=zB g 6;refine⟨la,rfl,⟨_,aR.of hl1⟩,?_⟩;refine fV (xs:=(dU g).map V.int) (fun j σ' H'=>aG H1 H'/\∃(r:Addr) (o3:Option V),H' r=some (fZ (((dU g).take j).map fun h=>Y h.toNat).sum d)/\σ'=[some (.int (g:Int)),some (.ref q),some (.ref r),o3]) ⟨.refl _,r0,_,s1 _ _ k0,rfl⟩ ?_ ?_ ?_
  ·rintro j σ' H' _ ⟨s2,_⟩;exact aR.of (s2 _ _ hl1)
  ·rintro j x σ' H2 hx ⟨s2,r,o3,hr2,rfl⟩;obtain⟨h,hh,rfl⟩:∃h:Int,(dU g)[j]?=some h/\V.int h=x:=by
    rw[qAo] at hx;cases e:(dU g)[j]? with
    | none=>rw[e] at hx;cases hx
    | some h=>rw[e] at hx;exact⟨h,rfl,Option.some.inj hx⟩
   obtain⟨z0,zm⟩:=hal h (qBa hh);have hw:h.toNat<ws.length:=by rw[fl.len];lia
   have s02:=u0.trans (s1.trans s2);have hat:gQ (ws.map V.ref) h=some (.ref ws[h.toNat]):=by
    have z:=fK (xs:=ws.map V.ref) (j:=h.toNat) (v:=.ref ws[h.toNat]) (by rw[qAo,qAd hw];rfl);rw[qCt z0] at z;exact z
   have sS:=EG sY ((dU g).take j) (by rw[qDz];lia);refine⟨_,rfl,_,rfl,_,rfl,q,_,_,_,rfl,rfl,aR.of (s02 _ _ fl.hr),hat,r,ws[h.toNat],_,Y h.toNat,d,rfl,hr2,s02 _ _ (fl.at_ _ _ (qAd hw)),d0,sd,sS.mono (by rw[qDz];lia),(sY _).mono (by decide),fun r' H3 s3 h3=>?_⟩;refine⟨s2.trans s3,r',_,?_,rfl⟩;have et:(dU g).take (j+1)=(dU g).take j++[h]:=by rw[qEr,hh];rfl
   rw[h3,et,qAu,qIf,qDj,qEn,qLk,qPi,qEb]
  ·rintro σ' H2 ⟨s2,r,o3,hr2,rfl⟩;refine⟨_,rfl,k r H2 (u0.trans (s1.trans s2)) ?_⟩;rw[hr2,qAc,qEh];have e:((dU g).map fun h=>Y h.toNat).sum=Wg.sm m fun i=>bt g i*Y i:=by
    unfold dU;rw[EE];have z:=uO (Y:=Y) gm (6-m);rw[show m+(6-m)=6 by lia] at z;exact z
   rw[e]
theorem xB (a b c e:Int):PyData.eqv (.tuple [.int a,.int b]) (.tuple [.int c,.int e])=(decide (a=c)&&decide (b=e)):=by
 simp[PyData.eqv,PyData.eqvAll];rfl
theorem fW (a b:Int):(PyData.tuple [.int a,.int b]).depth<=64:=by simp[PyData.depth,PyData.depthAll]
theorem uP {K:qAb}{H:Hp}{w:Addr}{X d:Int}(h:H w=some (fZ X d)):gG K H (.ref w) (.tuple [.int (ta X d),.int (tb X d)]):=.tup (cX.of h) (.cons (.int _) (.cons (.int _) .nil))
theorem xC (d0:0<d):(decide (ta X d=c)&&decide (tb X d=1))=decide (X=c*d):=by
 obtain⟨e1,y1,_,yd⟩:=fH (X:=X) d0;by_cases h:X=c*d
 ·have z:fZ X d=fZ c 1:=lC d0 (by decide) (by rw[h];grind);have z1:fZ c 1 = .tup [.int c,.int 1]:=by
   have e:dv c 1=1:=by unfold dv;rw[if_neg (by decide),qPy];rfl
   unfold fZ;rw[e,qKc,qKc]
  rw[z1] at z;have z:HO.tup [V.int (ta X d),V.int (tb X d)]=HO.tup [V.int c,V.int 1]:=z;injection z with z;injection z with a b;injection b with b _;rw[decide_eq_true h,V.int.inj a,V.int.inj b];simp
 ·rw[decide_eq_false h];by_cases h1:tb X d=1
  ·rw[h1,qGj] at e1;rw[decide_eq_false fun z=>h (by rw[<- e1,z])];rfl
  ·rw[decide_eq_false h1,qGk]
def fS (H:Hp)(d:Int):List V->List (Int×Int)->Prop
 | [],[]=>True
 | v::vs,p::ps=>(∃a w,v = .ref a/\H a=some (.tup [.int p.1,.ref w])/\H w=some (fZ p.2 d))/\fS H d vs ps
 | _,_=>False
theorem fS.t (s:kT H H'):∀{vs:List V}{ps:List (Int×Int)},fS H d vs ps->fS H' d vs ps
 | [],[],_=>trivial
 | v::vs,p::ps,⟨⟨a,w,e,h,h'⟩,r⟩=>⟨⟨a,w,e,s _ _ h,s _ _ h'⟩,r.t s⟩
 | [],_::_,h=>h.elim
 | _::_,[],h=>h.elim
theorem fS.app {H:Hp}{d:Int}{a w:Addr}{p:Int×Int}(h:H a=some (.tup [.int p.1,.ref w]))(h':H w=some (fZ p.2 d)):∀{vs:List V}{ps:List (Int×Int)},fS H d vs ps->fS H d (vs++[.ref a]) (ps++[p])
 | [],[],_=>⟨⟨a,w,rfl,h,h'⟩,trivial⟩
 | v::vs,q::ps,⟨x,r⟩=>⟨x,r.app h h'⟩
 | [],_::_,h=>h.elim
 | _::_,[],h=>h.elim
def MY (n:Nat)(X:Nat->Int):List (Int×Int):=((qAn n).filter fun j=>decide (X j≠0)).map fun(j:Nat)=>(1+(j:Int),X j)
theorem xD (n:Nat)(X:Nat->Int):MY (n+1) X=if X n≠0 then MY n X++[(1+(n:Int),X n)] else MY n X:=by
 unfold MY;rw[qBt,qEv,qAu,qDi,qGx];by_cases h:X n≠0
 ·rw[if_pos (decide_eq_true h),if_pos h];rfl
 ·rw[if_neg (by rw[decide_eq_false h];exact qAj),if_neg h,qEn,qDo]
structure QP (m n:Nat) (tb:Nat->Int) (d:Int) (Y:Nat->Int):Prop where
 d0:0<d
 ds:Sm 3000 d
 sY:∀j,Sm 300000 (Y j)
 no:∀g,g<n->tb g*d<=Wg.sm m fun i=>bt g i*Y i
 all:(Wg.sm m Y)=tb (n-1)*d
structure QQ (m n:Nat) (tb:Nat->Int) (d:Int) (X:Nat->Int):Prop where
 d0:0<d
 ds:Sm 3000 d
 sX:∀j,Sm 300000 (X j)
 x0:∀j,0<=X j
 dU:∀i,i<m->(Wg.sm (n-1) fun j=>bt (j+1) i*X j)=d
 more:tb (n-1)*d<Wg.sm (n-1) fun j=>tb (j+1)*X j
def OZ (m n:Nat)(tb:Nat->Int)(H H':Hp)(r:Addr):Prop :=
 (∃lp ps d Y,H' r=some (.tup [.str "shares",.ref lp])/\kN m Y d H' lp ps/\H lp=none/\QP m n tb d Y) \/
 (∃lz ys d X,H' r=some (.tup [.str "weighing",.ref lz])/\H' lz=some (.lst ys)/\H lz=none/\fS H' d ys (MY (n-1) X)/\QQ m n tb d X)
def HP (K:qAb)(NT:Addr):Sp:=fun vs H Q E=>∃(p:Addr) (xs:List V),vs=[.ref p]/\H p=some (.lst xs)/\(∀v∈xs,Pl K H v)/\xs.length<=1000/\(dQ xs=false->∀H',aG H H'->E (.ref NT) none H') /\
 (dQ xs=true->∃(m n:Nat) (tb:Nat->Int),1<=m/\m<=6/\n=2^m/\xs=a9 n tb/\tb 0=0/\(∀j,Sm 90000 (tb j))/\∀r H',aG H H'->OZ m n tb H H' r->Q (.ref r) H')
theorem oR:∀a b:_root_.Fin 7,2^a.1=2^b.1->a.1=b.1:=by decide
theorem GO (m1:1<=m)(m6:m<=6)(hn:n<=64):Inst m (n-1) (fun j=>bt (j+1)) (fun _=>1):=⟨m1,by lia,by lia,fun j i=>(p9 (j+1) i).mono (by decide),fun _=>Sm.of 2 (by decide) (by decide)⟩
theorem QR:∀m:_root_.Fin 7,Wg.qO m.1*1^m.1<2^3000:=by decide +kernel
theorem xE (m6:m<=6)(dm:pV m A due d)(hA:∀j i,(A j i).natAbs<=1)(hd:∀i,(due i).natAbs<=1):Sm 3000 d :=
 qBh (dm 1 (qAg _) hA hd) (QR ⟨m,by lia⟩)
theorem nG (g i:Nat):(bt g i).natAbs<=1:=by rcases p8 g i with e | e <;> rw[e] <;> decide
theorem mF:∀(m:_root_.Fin 7) (i:_root_.Fin 6),i.1<m.1->bt (2^m.1-1) i.1=1:=by decide +kernel
theorem mG (m6:m<=6)(Y:Nat->Int):(Wg.sm m fun i=>bt (2^m-1) i*Y i)=Wg.sm m Y:=Wg.aY fun i hi=>by
 rw[show bt (2^m-1) i=1 from mF ⟨m,by lia⟩ ⟨i,by lia⟩ hi,qCk]
theorem sQ:∀(m:_root_.Fin 7) (g:_root_.Fin 64),1<=g.1->g.1<2^m.1->∃i:_root_.Fin 6,i.1<m.1/\bt g.1 i.1=1:=by decide +kernel
theorem pQ {n:Nat}{f:Nat->Int}(h:∀j,j<n->0<=f j):0<=Wg.sm n f:=by
 have z:(Wg.sm n fun _=>(0:Int))=0:=Wg.cD fun _ _=>rfl;rw[<- z];exact Wg.wH h
theorem qB {n:Nat}{f:Nat->Int}(h:∀j,j<n->0<=f j)(e:Wg.sm n f=0):∀j,j<n->f j=0:=by
 induction n with
 | zero=>intro j hj;lia
 | succ n ih =>
  have e:Wg.sm n f+f n=0:=e;have a:=pQ (n:=n) fun j hj=>h j (by lia);have b:=h n (by lia);intro j hj;by_cases z:j=n
  ·subst z;lia
  ·exact ih (fun j hj=>h j (by lia)) (by lia) j (by lia)
theorem GP:gE (a9 n g) (some 1) none=a9 (n-1) fun j=>g (j+1):=by
 rw[show(1:Int)=((1:Nat):Int) from rfl,DZ];refine qFd fun i=>?_;rw[qNi];rcases qAm i (n-1) with h | h
 ·rw[c8 (by lia),c8 h,qJw]
 ·rw[qBm (by rw[aI];lia),qBm (by rw[aI];lia)]
theorem lD (d0:0<d):(!PyData.eqv (.tuple [.int (ta X d),.int (tb X d)]) (.tuple [.int 0,.int 1]))=decide (X≠0):=by
 rw[xB,xC d0,qBg];by_cases h:X=0
 ·rw[decide_eq_true h,decide_eq_false (fun z=>z h)];rfl
 ·rw[decide_eq_false h,decide_eq_true h];rfl
theorem nX:aO ["table","many","whole","groups","columns","told","weights","prices"] ["table"] (aJ KC):=by constructor<;>first|rfl|decide +kernel
theorem LM {f1 f2 f3 f4 f5:Addr}{fd1 fd2 fd3 fd4 fd5:qCl}(t:Tx K mg "stable" KC ["table"] f fd)(T:T K mg AL LN FR iF fCh fGM fCC fCA fPL SE NN NG NT NR NS NV NO NL NX TM UL)(D_hands_in:Df P w K mg base (fY P w) 3 "hands_in" ["table"] (xA K NT) f1 fd1)(D_whole_company:Df P w K mg base cA 1 "whole_company" ["many"] Ez f2 fd2)
  (D_marks_of:Df P w K mg base cA 1 "marks_of" ["group","many"] qA f3 fd3) (D_weigh:Df P w K mg base (fY P w) 5 "weigh" ["columns","due","gains"] (pZ K NR) f4 fd4) (D_share_of:Df P w K mg base cA 5 "share_of" ["group","shares"] (EF K) f5 fd5) :
  Df P w K mg base (fY P w) 6 "stable" ["table"] (HP K NT) f fd:=by
 refine t.By nX (fun vs H Q E h=>?_) (fun cdv _A outer s H vs Q E hr h=>?_)
 ·obtain⟨p,xs,rfl,_⟩:=h;rfl
 ·obtain⟨p,xs,rfl,hp,pl,hl,k0,k⟩:=h;refine⟨_,(aD (aP (i:=1) nX.nd rfl (by first|exact .inl rfl|exact .inr rfl) (cR bN.toPass D_hands_in hr (by decide) (by rfl) (aA (pv 0) aB)))
   (aD (aP (i:=2) nX.nd rfl bP (aV D_whole_company hr (by decide) (by rfl) (aA (pv 1) aB)))
   (aD (aP (i:=3) nX.nd rfl (by first|exact .inl rfl|exact .inr rfl) (kU (by rfl) T.cQ (by rfl) T.cM rfl (aA aE (aA (aQ f9 (pv 2) aE) aB))))
   (aD (cZ (NB:=["group","many"]) (pick:=[none,some 1]) (i:=4) nX.nd rfl bP (by rfl) (bF (by with_unfolding_all rfl) (by exact(And.intro rfl trivial)) rfl (by decide +kernel) (by decide +kernel) (by rfl) (by rfl)) rfl
     (bJ (pv 3)) (fun _ _ _=>aM (i:=0) (show(["group","many"]:List Str).Nodup from by decide +kernel) rfl bP)
     (fun _ _ _=>bI) (fun _ _ _=>(aV D_marks_of hr (by decide) (by rfl) (aA (pv 0) (aA (pv 1) aB)))))
   (aD (aP (i:=5) nX.nd rfl bP (cR bN.toPass D_weigh hr (by decide) (by rfl) (aA (pv 4) (aA (aQ fL (bL (aA aE aB)) (pv 1)) (aA (gO lK (pv 0) (iY aE) iX) aB)))))
   (aD (aP (i:=6) nX.nd rfl (by first|exact .inl rfl|exact .inr rfl) (aU bR (pv 5) aE (fun _ _=>rfl)))
   (aD (aP (i:=7) nX.nd rfl bP (aU bR (pv 5) aE (fun _ _=>rfl)))
   (aD (bU (aW (Ai hr.units) (aV D_share_of hr (by decide) (by rfl) (aA (pv 2) (aA (pv 7) aB))) (bQ (aA (aU bC (pv 0) (pv 2) (fun _ _=>rfl)) (aA aE aB))) (aX _)) (aH (aS (bQ (aA dF (aA (pv 7) aB))))) a8)
   (aH (aS (bQ (aA dF (aA (bO (NB:=["group","weight"]) (pick:=[none,none]) (bF (by with_unfolding_all rfl) (by exact trivial) rfl (by decide +kernel) (by decide +kernel) (by rfl) (by rfl)) rfl
     (gU (by rfl) T.g4 (aA (pv 3) (aA (pv 6) aB))) (fun _ _ _=>(show PG _ _ (oZ K 2 (eM (aZ 0) (eM (aZ 1) oY))) from fE rfl (bG (aM (i:=0) (show(["group","weight"]:List Str).Nodup from by decide +kernel) rfl bP) (bG (aM (i:=1) (show(["group","weight"]:List Str).Nodup from by decide +kernel) rfl bP) dH))))
     (fun _ _ _=>eZ (aW (pL K hr.units) (pv 1) (bQ (aA aE (aA aE aB))) (aX _))) (fun _ _ _=>(bQ (aA (pv 0) (aA (pv 1) aB))))) aB))))))))))))),?_⟩
  refine⟨_,rfl,p,xs,rfl,hp,pl,hl,k0,fun m' m1' m6' hm' yes H1 s1=>?_⟩;obtain⟨m,n,tb,m1,m6,hn,rfl,t0,st,k⟩:=k yes;rw[aI,hn] at hm';obtain rfl:m=m':=oR ⟨m,by lia⟩ ⟨m',by lia⟩ hm';have n64:n<=64:=by rw[hn];exact zD m6
  have n2:2<=n:=by rw[hn];exact qBw (n:=2) (i:=1) (by decide) m1
  have cn:(2:Int)^m-1=((n-1:Nat):Int):=by
   have e:((2^m:Nat):Int)=(2:Int)^m:=by push_cast;rfl
   rw[<- e,<- hn];lia
  refine⟨_,rfl,m,rfl,m6,fun H2 s2=>?_⟩;rw[cn];have s2:=s1.trans s2;refine⟨_,rfl,_,_,rfl,rfl,1,_,n-1,rfl,by lia,by lia,by decide,by decide,fun pg hpg=>?_⟩;have u3:=aG.aF (o:=.lst (fA 1 (n-1))) hpg;have e3:upd H2 pg (.lst (fA 1 (n-1))) pg=some (.lst (a9 (n-1) fun j=>1+(j:Int))):=aC;generalize upd H2 pg (.lst (fA 1 (n-1)))=H3 at u3 e3|-;have s3:=s2.trans u3;refine⟨_,rfl,pg,rfl,⟨_,aR.of e3⟩,?_⟩;refine iK (xs:=a9 (n-1) fun j=>1+(j:Int)) (fun j=>a9 m (bt (j+1))) (aR.of e3) (by rw[aI];exact qAk (aK (by lia))) (fun j y H4 kk kk0 s4 hy g1=>?_) fun pc cs H4 hpc s4 hcs ncs hD=>?_
  ·obtain⟨hj,rfl⟩:=dE hy;exact⟨_,rfl,_,rfl,j+1,m,(by show [V.int (1+(j:Int)),V.int (m:Int)]=[V.int ((j+1:Nat):Int),V.int (m:Int)];rw[show(1:Int)+(j:Int)=((j+1:Nat):Int) by lia]),by lia,m6,fun D H5 hD5 s5 h5=>g1 D H5 s5 hD5 h5⟩
  have hg4:=s4 _ _ e3;have s34:=s4;have s4:=s3.trans s4;refine⟨_,rfl,jD,fun a1 ha1=>?_⟩;have u6:=aG.aF (o:=.lst [.int 1]) ha1;have e6:upd H4 a1 (.lst [.int 1]) a1=some (.lst [.int 1]):=aC;generalize upd H4 a1 (.lst [.int 1])=H6 at u6 e6|-;refine⟨_,rfl,a1,_,_,rfl,rfl,e6,by lia,by lia,?_,fun pd hpd=>?_⟩
  ·show 1*((m:Nat):Int).toNat<=qAf;exact qAk (aK (by lia))
  rw[qBl,eU];have u7:=aG.aF (o:=.lst (a9 m fun _=>1)) hpd;have e7:upd H6 pd (.lst (a9 m fun _=>1)) pd=_:=aC;generalize upd H6 pd (.lst (a9 m fun _=>1))=H7 at u7 e7|-;have s47:=u6.trans u7;have s7:=s4.trans s47;refine⟨_,rfl,_,rfl,p,_,rfl,aR.of (s7 _ _ hp),fun pgn hpgn=>?_⟩;rw[GP];have u8:=aG.aF (o:=.lst (a9 (n-1) fun j=>tb (j+1))) hpgn;have e8:upd H7 pgn (.lst (a9 (n-1) fun j=>tb (j+1))) pgn=_:=aC;generalize upd H7 pgn (.lst (a9 (n-1) fun j=>tb (j+1)))=H8 at u8 e8|-;have s48:=s47.trans u8;dsimp only[fP,qBn,qBp];refine p6 (GO m1 m6 n64) ⟨s48 _ _ hD,by rw[hcs,aI],fun j c e=>s48 _ _ (ncs.at_ j c e).2.2,u8 _ _ e7⟩ e8 (fun j=>st (j+1)) fun r H9 s9 told=>?_;have s9':=s7.trans (u8.trans s9);have hp9:=s9' _ _ hp;have hg9:=s9 _ _ (s48 _ _ hg4);rcases told with ⟨lw,lp,ws,ps,d,X,Y,to⟩ | ⟨lp,ps,d,Y,to⟩ | ⟨lw,lp,ws,ps,d,X,Y,to⟩
  ·have a1:gQ [V.str "best",V.ref lw,V.ref lp] 1=some (.ref lw):=rfl;have a2:gQ [V.str "best",V.ref lw,V.ref lp] 2=some (.ref lp):=rfl;have sd:=xE m6 to.dm (fun j i=>nG (j+1) i) (fun _=>qAg _);have d0:=to.d0;have sm1:(Wg.sm m fun i=>1*Y i)=Wg.sm m Y:=Wg.aY fun i _=>qCk _;have same:=to.same;rw[sm1] at same;refine⟨_,rfl,r,_,_,_,rfl,rfl,cX.of to.tup,a1,?_⟩;refine⟨_,rfl,r,_,_,_,rfl,rfl,cX.of to.tup,a2,?_⟩;refine⟨_,rfl,_,rfl,lp,m,n-1,Y,d,ps,rfl,to.fp,m6,by lia,d0,sd,fun j=>(to.sY j).mono (by decide),fun rs H10 s10 h10=>?_⟩;have hp10:=s10 _ _ hp9;refine⟨_,rfl,_,rfl,p,_,_,_,rfl,rfl,aR.of hp10,bT (by lia),jB,fun rt hrt=>?_⟩;have u11:=aG.aF (o:=.tup [.int (tb (n-1)),.int 1]) hrt;have x11:upd H10 rt (.tup [.int (tb (n-1)),.int 1]) rt=_:=aC;generalize upd H10 rt (.tup [.int (tb (n-1)),.int 1])=H11 at u11 x11|-;have s11:=s10.trans u11;refine⟨_,_,uP (u11 _ _ h10),.tup (cX.of x11) (.cons (.int _) (.cons (.int _) .nil)),fW _ _,fW _ _,_,rfl,?_⟩;rw[xB,xC d0,show n-1=2^m-1 by lia,mG m6,show 2^m-1=n-1 by lia];have colg:∀g,1<=g->g<n->tb g*d<=Wg.sm m fun i=>bt g i*Y i:=fun g h1 h2=>by
    have z:=to.cols (g-1) (by lia);rw[show g-1+1=g by lia] at z;exact z
   refine cJ (fun e=>?_) (fun e=>?_)
   ·have e:=of_decide_eq_true e;refine⟨_,rfl,jB,fun r2 hr2=>?_⟩;have u12:=aG.aF (o:=.tup [.str "shares",.ref lp]) hr2;refine k r2 _ (s9'.trans (s11.trans u12)) (.inl ⟨lp,ps,d,Y,aC,(to.fp.same s11).same u12,(s7.trans u8).free to.np,d0,sd,to.sY,fun g hg=>?_,e⟩);rcases qEp g with z | z
    ·subst z;rw[t0,qBg,Wg.cD fun i _=>by rw[show bt 0 i=0 by unfold bt;rw[Nat.zero_div];rfl,qBg]];exact qDq _
    ·exact colg g z hg
   ·have e:¬(Wg.sm m Y=tb (n-1)*d):=fun z=>e (decide_eq_true z);have more:tb (n-1)*d<Wg.sm m Y:=by
     have z:=colg (n-1) (by lia) (by lia);rw[show n-1=2^m-1 by lia,mG m6,show 2^m-1=n-1 by lia] at z;lia
    have fw11:=to.fw.same s11;refine⟨_,rfl,_,rfl,pg,lw,rfl,⟨_,aR.of (s11 _ _ hg9)⟩,⟨_,aR.of fw11.hr⟩,?_⟩;refine m9 (xs:=a9 (n-1) fun j=>1+(j:Int)) (xs':=ws.map V.ref) (fun σ'=>∃o0 o1:Option V,σ'=[o0,o1]) (fun i ys H'=>fS H' d ys (MY i X) ) (fun i ys H1 H2 st h=>h.t st) ⟨_,_,rfl⟩ trivial (aR.of (s11 _ _ hg9)) (aR.of fw11.hr) (by rw[aI,qAc,to.fw.len]) (by rw[aI];exact qAk (aK (by lia))) (fun i x y tt σ1 H12 kk kk0 ys hσ s12 hx hy ht iv g1 g2=>?_) fun D ys H12 hD s12 iv hd=>?_
    ·obtain⟨o0,o1,rfl⟩:=hσ;obtain⟨hi,rfl⟩:=dE hx;obtain⟨w',hw',rfl⟩:=dP hy;have hfw:=s12 _ _ (fw11.at_ i w' hw');refine⟨tt,_,rfl,cX.of ht,rfl,?_⟩;refine⟨_,_,rfl,_,_,rfl,rfl,_,rfl,jB,fun z1 hz1=>?_⟩;have u13:=aG.aF (o:=.tup [.int 0,.int 1]) hz1;have x13:upd H12 z1 (.tup [.int 0,.int 1]) z1=_:=aC;generalize upd H12 z1 (.tup [.int 0,.int 1])=H13 at u13 x13|-;refine⟨_,_,uP (u13 _ _ hfw),.tup (cX.of x13) (.cons (.int _) (.cons (.int _) .nil)),fW _ _,fW _ _,_,rfl,?_⟩;rw[lD d0];by_cases e:X i≠0
     ·refine cJ (fun _=>?_) (fun no=>absurd (decide_eq_true e) no);refine⟨_,rfl,_,rfl,jB,fun z2 hz2=>?_⟩;have u14:=aG.aF (o:=.tup [.int (1+(i:Int)),.ref w']) hz2;refine g1 _ _ _ ⟨_,_,rfl⟩ (u13.trans u14) ?_;rw[xD,if_pos e];exact fS.app (p:=(1+(i:Int),X i)) aC (u14 _ _ (u13 _ _ hfw)) (iv.t (u13.trans u14).t)
     ·refine cJ (fun y=>absurd (of_decide_eq_true y) e) (fun _=>g2 _ _ ⟨_,_,rfl⟩ u13 ?_);rw[xD,if_neg e];exact iv.t u13.t
    ·rw[aI] at iv;refine⟨jB,fun r2 hr2=>?_⟩;have u15:=aG.aF (o:=.tup [.str "weighing",.ref D]) hr2;refine k r2 _ (s9'.trans (s11.trans (s12.trans u15))) (.inr ⟨D,ys,d,X,aC,u15 _ _ hd,(s9'.trans s11).free hD,iv.t u15.t,d0,sd,to.sX,to.x0,fun i hi=>?_,?_⟩)
     ·rw[to.meets i hi,qCk]
     ·rw[<- same];exact more
  ·have z:=to.neg;have y:=to.cols (n-2) (by lia);have sm1:(Wg.sm m fun i=>1*Y i)=Wg.sm m Y:=Wg.aY fun i _=>qCk _;rw[sm1] at z;rw[show n-2+1=2^m-1 by lia,mG m6] at y;lia
  ·have z0:∀j,j<n-1->Y j=0:=fun j hj=>by
    obtain⟨i,hi,hb⟩:=sQ ⟨m,by lia⟩ ⟨j+1,by lia⟩ (by show 1<=j+1;lia) (by show j+1<2^m;lia);have aw:=to.away i.1 hi;have zz:=qB (fun j' _=>qDy (by rcases p8 (j'+1) i.1 with e | e <;> rw[e] <;> decide) (to.z0 j')) aw j hj
    dsimp only at hb zz;rw[hb,qCk] at zz;exact zz
   have mo:=to.more;rw[Wg.cD fun j hj=>by rw[z0 j hj,qBy]] at mo;exact absurd mo (by decide)
def QS:V->V->Bool
 | .int a,.int b=>decide (1<=b)&&decide (qCb a b=1)
 | _,_=>false
inductive xF (K:qAb) (H:Hp):V->Bool->Prop where
 | other {v:V}{T:String} (ty:jK K H v (.type T)) (kd:Kd T) (n:(T == "tuple")=false):xF K H v false
 | len {p:Addr}{xs:List V} (h:H p=some (.tup xs)) (n:xs.length≠2):xF K H (.ref p) false
 | two {p:Addr}{x y:V}{b:Bool} (h:H p=some (.tup [x,y])) (px:Pl K H x) (py:Pl K H y) (e:QS x y=b):xF K H (.ref p) b
theorem xF.same (h:xF K H v b)(s:aG H H'):xF K H' v b:=by
 cases h with
 | other ty kd n=>exact .other (s.ty ty) kd n
 | len h n=>exact .len (s _ _ h) n
 | two h px py e=>exact .two (s _ _ h) (px.same s) (py.same s) e
def HQ (K:qAb):Sp:=fun vs H Q _=>∃v b,vs=[v]/\xF K H v b/\Q (.bl b) H
theorem EH:aO ["thing","top","bottom"] ["thing"] (aJ KD):=by constructor<;>first|rfl|decide +kernel
theorem LO (t:Tx K mg "is_fraction" KD ["thing"] f fd)(T:T K mg AL LN FR iF fCh fGM fCC fCA fPL SE NN NG NT NR NS NV NO NL NX TM UL)(D_is_number:Df P w K mg base cA 1 "is_number" ["thing"] (sH K) f1 fd1)(D_greatest_divisor:Df P w K mg base cA 1 "greatest_divisor" ["one","other"] AA f2 fd2):
  Df P w K mg base cA 2 "is_fraction" ["thing"] (HQ K) f fd:=by
 refine t.iJ EH (fun vs H Q E h=>?_) (fun cdv A outer s H vs Q E hr h=>?_)
 ·obtain⟨v,b,rfl,_⟩:=h;rfl
 ·obtain⟨v,r,rfl,fi,k⟩:=h;refine⟨_,(aD (bU (PW.pt (pw_or (dG (cG (aN cV (by rfl) T.eD dI (aA (pv 0) (aA (eW (v:=.ty "tuple") (by rfl) T.hV lO rfl) aB))))) (pw_or1 (aW g9 (aN aT (by rfl) T.cK bY (aA (pv 0) aB)) aE (aX _))))) (aH (aS iG)) a8)
   (aD (aP (i:=1) EH.nd rfl bP (aU bR (pv 0) aE (fun _ _=>rfl)))
   (aD (aP (i:=2) EH.nd rfl bP (aU bR (pv 0) aE (fun _ _=>rfl)))
   (aD (bU (PW.pt (pw_or (dG (cG (aV D_is_number hr (by decide) (by rfl) (aA (pv 1) aB)))) (pw_or1 (dG (cG (aV D_is_number hr (by decide) (by rfl) (aA (pv 2) aB))))))) (aH (aS iG)) a8)
   (aH (aS (k6 (dR CB (pv 2) aE (aX _)) (jF (dR eO (aV D_greatest_divisor hr (by decide) (by rfl) (aA (pv 1) (aA (pv 2) aB))) aE (aX _)))))))))),?_⟩
  cases fi with
  | other ty kd n =>
   refine⟨_,rfl,v,.ty "tuple",_,_,_,rfl,rfl,.of ty,kd.mX K,_,rfl,?_⟩;rw[n];exact eQ (eQ k)
  | @len p xs h n =>
   refine⟨_,rfl,.ref p,.ty "tuple",_,_,_,rfl,rfl,.of (.tup h),Kd.tup.mX K,_,rfl,?_⟩;refine dO ⟨_,rfl,p,_,rfl,.inr (cX.of h),rfl,_,rfl,?_⟩;refine cJ (fun _=>k) (fun h2=>absurd ?_ h2);show(!decide (V.int (xs.length:Int)=V.int 2))=true;rw[decide_eq_false (fun q=>n (by have:=V.int.inj q;lia))];rfl
  | @two p x y _ h px py e =>
   refine⟨_,rfl,.ref p,.ty "tuple",_,_,_,rfl,rfl,.of (.tup h),Kd.tup.mX K,_,rfl,?_⟩;refine dO ⟨_,rfl,p,_,rfl,.inr (cX.of h),rfl,_,rfl,?_⟩;refine pD rfl ?_;refine⟨_,rfl,p,_,_,x,rfl,rfl,cX.of h,rfl,?_⟩;refine⟨_,rfl,p,_,_,y,rfl,rfl,cX.of h,rfl,?_⟩;refine⟨_,rfl,x,rfl,px,_,rfl,?_⟩;cases e1:kR x with
   | false =>
    have z:r=false:=by
     rw[<- e];cases x with
     | int a=>cases e1
     | _=>rfl
    subst z;exact eQ (eQ k)
   | true =>
    refine dO ⟨_,rfl,y,rfl,py,_,rfl,?_⟩;cases e2:kR y with
    | false =>
     have z:r=false:=by
      rw[<- e];cases x with
      | int a =>
       cases y with
       | int b=>cases e2
       | _=>rfl
      | _=>rfl
     subst z;exact eQ k
    | true =>
     refine dO ?_;cases x with
     | int a =>
      cases y with
      | int b =>
       have e':(decide (1<=b)&&decide (qCb a b=1))=r:=e;refine⟨_,rfl,_,_,rfl,rfl,_,rfl,?_⟩;refine cJ (fun h2=>?_) (fun h2=>?_)
       ·refine⟨_,rfl,_,rfl,a,b,rfl,rfl,?_⟩;have z:decide (V.int ((qCb a b:Nat):Int)=V.int 1)=r:=by
         rw[<- e',h2,qJi];by_cases hg:qCb a b=1
         ·rw[decide_eq_true hg,hg];rfl
         ·rw[decide_eq_false hg,decide_eq_false (fun q=>hg (by have:=V.int.inj q;lia))]
        rw[z];exact k
       ·have z:r=false:=by rw[<- e',Bool.eq_false_iff.mpr h2,qFi]
        subst z;exact k
      | _=>cases e2
     | _=>cases e1
def HR (K:qAb)(H:Hp)(xs:List V)(bs:List Bool):Prop:=bs.length=xs.length/\∀(i:Nat) (x:V) (b:Bool),xs[i]?=some x->bs[i]?=some b->xF K H x b
def nY (m:Nat)(xs:List V)(bs:List Bool):Bool:=decide (xs.length=m)&&bs.all id
def HS (K:qAb)(NS:Addr):Sp:=fun vs H Q E=>∃(q:Addr) (xs:List V) (bs:List Bool) (m:Nat),vs=[.ref q,.int (m:Int)]/\H q=some (.lst xs)/\xs.length<=60/\HR K H xs bs/\(nY m xs bs=false->∀H',aG H H'->E (.ref NS) none H')/\(nY m xs bs=true->∀H',aG H H'->Q .non H')
theorem Pa:aO ["shares","many"] ["shares","many"] (aJ KH):=by constructor<;>first|rfl|decide +kernel
theorem LP (t:Tx K mg "check_shares" KH ["shares","many"] f fd)(T:T K mg AL LN FR iF fCh fGM fCC fCA fPL SE NN NG NT NR NS NV NO NL NX TM UL)(D_is_fraction:Df P w K mg base cA 2 "is_fraction" ["thing"] (HQ K) f1 fd1):
  Df P w K mg base (fY P w) 3 "check_shares" ["shares","many"] (HS K NS) f fd:=by
 refine t.By Pa (fun vs H Q E h=>?_) (fun cdv A outer s H vs Q E hr h=>?_)
 ·obtain⟨q,xs,bs,m,rfl,_⟩:=h;rfl
 ·obtain⟨q,xs,bs,m,rfl,hq,hl,fi,k0,k⟩:=h;refine⟨_,(aH (bU (PW.pt (pw_or (dG (cG (aN cV (by rfl) T.eD dI (aA (pv 0) (aA (eW (v:=.ty "list") (by rfl) T.cQ c5 rfl) aB))))) (pw_or (aW g9 (aN aT (by rfl) T.cK bY (aA (pv 0) aB)) (pv 1) (aX _)) (pw_or1 (dG (cG (aN (jP rfl) (by rfl) T.mB pH (aA (bO (NB:=["share"]) (pick:=[none]) (bF (by with_unfolding_all rfl) (by exact trivial) rfl (by decide +kernel) (by decide +kernel) (by rfl) (by rfl)) rfl
     (bJ (pv 0)) (fun _ _ _=>aM (i:=0) (show(["share"]:List Str).Nodup from by decide +kernel) rfl bP)
     (fun _ _ _=>bI) (fun _ _ _=>(aV D_is_fraction hr (by decide) (by rfl) (aA (pv 0) aB)))) aB)))))))) (aH (eS bN rfl (by rfl) T.MV T.Ou (aA dF aB))) a8)),?_⟩
  refine⟨_,rfl,.ref q,.ty "list",_,_,_,rfl,rfl,.of (.lst hq),Kd.lst.vQ K,_,rfl,dO ?_⟩;refine⟨_,rfl,q,_,rfl,.inl (aR.of hq),_,rfl,rfl,_,rfl,?_⟩;by_cases e:xs.length=m
  ·subst e;refine pD rfl ?_;refine⟨_,rfl,q,rfl,⟨_,aR.of hq⟩,?_⟩;refine cB (xs:=xs) (fun i _=>some (.bl (bs.getD i false))) (aR.of hq) (qAk (aK (by lia))) (fun i x H2 kk kk0 s2 hx h1 h2=>?_) fun D H2 hD s2 hd=>?_
   ·have hi:i<bs.length:=by
     obtain⟨z,_⟩:=List.getElem?_eq_some_iff.mp hx;rw[fi.1];exact z
    have eb:bs[i]?=some (bs.getD i false):=by rw[qAq,qAd hi];rfl
    exact⟨_,rfl,x,_,rfl,(fi.2 i x _ hx eb).same s2,h1 _ rfl _ (.refl _)⟩
   have ed:((qAn xs.length).filterMap fun i=>(xs[i]?).bind fun _=>some (V.bl (bs.getD i false)))=bs.map V.bl:=by
    rw[<- fi.1];refine Eq.trans (eB (g:=fun i=>some (V.bl (bs.getD i false))) fun i hi=>?_) ?_
    ·have hi:=List.mem_range.mp hi;rw[qAd (by rw[<- fi.1];exact hi)];rfl
    ·rw[qEd];refine qJy (by rw[qAc,qAc,qAs]) fun i a b=>?_;rw[qAc] at b;rw[qGo,qGo,qJg,qAq,qAd b];rfl
   rw[ed] at hd;refine⟨D,_,rfl,aR.of hd,_,rfl,?_⟩;have eg:nY xs.length xs bs=bs.all id:=by unfold nY;rw[decide_eq_true rfl,qJi]
   cases ea:bs.all id with
   | false=>exact eQ ⟨jD,k0 (eg.trans ea) H2 s2⟩
   | true=>exact dO (k (eg.trans ea) H2 s2)
  ·have eg:nY m xs bs=false:=by unfold nY;rw[decide_eq_false e];rfl
   rw[decide_eq_false (show ¬V.int (xs.length:Int)=V.int (m:Int) from fun z=>e (by have:=V.int.inj z;lia))];exact eQ (eQ ⟨jD,k0 eg H (.refl _)⟩)
theorem AO {m n:Nat}{tb:Nat->Int}(m1:1<=m)(m6:m<=6)(hn:n=2^m)(h0:tb 0=0):dQ (a9 n tb)=true:=by
 rw[kD];have n0:0<n:=by rw[hn];exact Nat.pow_pos (by decide)
 exact GN (m:=m) ⟨m1,m6,by rw[qAc,qAs,hn],by rw[qAo,qCj n0];exact congrArg some h0⟩
def HU:Sp:=fun vs H Q _=>∃(p q:Addr) (S d e:Int),vs=[.ref p,.ref q]/\H p=some (fZ S d)/\H q=some (.tup [.int e,.int 1])/\0<d/\Sm 3000 d/\Sm 400000 S/\Sm 400000 e/\Q (.bl (decide (S<e*d))) H
theorem Pb:aO ["one","other"] ["one","other"] (aJ KG):=by constructor<;>first|rfl|decide +kernel
theorem LQ (d0:0<d):decide (ta S d*1<e*tb S d)=decide (S<e*d):=by
 obtain⟨e1,y1,_,_⟩:=fH (X:=S) d0;rw[qGj];refine decide_eq_decide.mpr ⟨fun h=>?_,fun h=>?_⟩
 ·have z:=qEk h d0;rw[e1,show e*tb S d*d=e*d*tb S d by grind] at z;exact qHe z (by lia)
 ·have z:=qEk h (show 0<tb S d by lia);rw[<- e1,show e*d*tb S d=e*tb S d*d by grind] at z;exact qHe z (by lia)
theorem LR (t:Tx K mg "under" KG ["one","other"] f fd)(T:T K mg AL LN FR iF fCh fGM fCC fCA fPL SE NN NG NT NR NS NV NO NL NX TM UL):Df P w K mg base cA 1 "under" ["one","other"] HU f fd:=by
 refine t.iJ Pb (fun vs H Q E h=>?_) (fun cdv A outer s H vs Q E hr h=>?_)
 ·obtain⟨p,q,S,d,e,rfl,_⟩:=h;rfl
 ·obtain⟨p,q,S,d,e,rfl,hp,hq,d0,sd,sS,se,k⟩:=h;refine⟨_,(aH (aS (dR kQ (aQ bS (aU bR (pv 0) aE (fun _ _=>rfl)) (aU bR (pv 1) aE (fun _ _=>rfl))) (aQ bS (aU bR (pv 1) aE (fun _ _=>rfl)) (aU bR (pv 0) aE (fun _ _=>rfl))) (aX _)))),?_⟩;refine⟨_,rfl,p,_,_,_,rfl,rfl,cX.of hp,rfl,_,rfl,q,_,_,_,rfl,rfl,cX.of hq,rfl,_,_,rfl,rfl,(p5 sS).mb (Sm.of (i:=1) 2 (by decide) (qAg _)),_,rfl,q,_,_,_,rfl,rfl,cX.of hq,rfl,_,rfl,p,_,_,_,rfl,rfl,cX.of hp,rfl,_,_,rfl,rfl,se.mb (nW (X:=S) d0 sd),_,_,rfl,rfl,?_⟩;show Q (.bl (decide (ta S d*1<e*tb S d))) H;rw[LQ d0];exact k
theorem Pc (d0:0<d)(fl:kN m Y d H q ws):HR K H (ws.map V.ref) (qBc m true):=by
 refine⟨by rw[qEy,qAc,fl.len],fun i x b e1 e2=>?_⟩;obtain⟨w,hw,rfl⟩:=dP e1;have hi:i<m:=by rw[<- fl.len];exact(List.getElem?_eq_some_iff.mp hw).1
 rw[qHu,if_pos hi] at e2;obtain rfl:true=b:=Option.some.inj e2;obtain⟨_,y1,g1,_⟩:=fH (X:=Y i) d0;refine .two (fl.at_ i w hw) (.int _) (.int _) ?_;show(decide (1<=tb (Y i) d)&&decide (qCb (ta (Y i) d) (tb (Y i) d)=1))=true;rw[decide_eq_true y1,decide_eq_true g1];rfl
def LS (m n:Nat)(tb Y:Nat->Int)(d:Int):List Int:=(qAn n).filterMap fun g=>if (Wg.sm m fun i=>bt g i*Y i)<tb g*d then some (g:Int) else none
theorem LU (m n:Nat)(tb Y:Nat->Int)(d:Int):((qAn (a9 n tb).length).filterMap fun g=>((a9 n tb)[g]?).bind fun _=>if (Wg.sm m fun i=>bt g i*Y i)<tb g*d then some (V.int (g:Int)) else none)=(LS m n tb Y d).map V.int:=by
 unfold LS;rw[qNh,aI];refine eB fun i hi=>?_;rw[c8 (List.mem_range.mp hi)];show(if _ then _ else _)=_;split <;> rfl
def HV (K:qAb)(NT:Addr):Sp:=fun vs H Q E=>∃(l q:Addr) (xs:List V),vs=[.ref l,.ref q]/\H l=some (.lst xs)/\(∀v∈xs,Pl K H v)/\xs.length<=1000/\(dQ xs=false->∀H',aG H H'->E (.ref NT) none H')/\(dQ xs=true->∃(m n:Nat) (tb Y:Nat->Int) (d:Int) (ws:List Addr),xs=a9 n tb/\1<=m/\m<=6/\n=2^m/\tb 0=0/\(∀j,Sm 90000 (tb j))/\kN m Y d H q ws/\0<d/\Sm 3000 d/\(∀j,Sm 330000 (Y j))/\∀D H',H D=none->aG H H'->H' D=some (.lst ((LS m n tb Y d).map V.int))->Q (.ref D) H')
theorem HW:aO ["table","shares","many"] ["table","shares"] (aJ KI):=by constructor<;>first|rfl|decide +kernel
theorem RS {m g:Nat}{Y:Nat->Int}(m6:m<=6)(sY:∀j,Sm 330000 (Y j)):Sm 400000 (Wg.sm m fun i=>bt g i*Y i):=by
 refine(sN (a:=330002) m fun i _=>?_).mono (by lia);exact((p9 g i).mul (sY i)).mono (by decide)
theorem LV {f1 f2 f3 f4:Addr}{fd1 fd2 fd3 fd4:qCl}(t:Tx K mg "bettering" KI ["table","shares"] f fd)(T:T K mg AL LN FR iF fCh fGM fCC fCA fPL SE NN NG NT NR NS NV NO NL NX TM UL)(D_hands_in:Df P w K mg base (fY P w) 3 "hands_in" ["table"] (xA K NT) f1 fd1)(D_check_shares:Df P w K mg base (fY P w) 3 "check_shares" ["shares","many"] (HS K NS) f2 fd2)
  (D_under:Df P w K mg base cA 1 "under" ["one","other"] HU f3 fd3) (D_share_of:Df P w K mg base cA 5 "share_of" ["group","shares"] (EF K) f4 fd4):Df P w K mg base (fY P w) 6 "bettering" ["table","shares"] (HV K NT) f fd:=by
 refine t.By HW (fun vs H Q E h=>?_) (fun cdv A outer s H vs Q E hr h=>?_)
 ·obtain⟨l,q,xs,rfl,_⟩:=h;rfl
 ·obtain⟨l,q,xs,rfl,hl,pl,hlen,k0,k⟩:=h;refine⟨_,(aD (aP (i:=2) HW.nd rfl bP (cR bN.toPass D_hands_in hr (by decide) (by rfl) (aA (pv 0) aB)))
   (aD (eX (cR bN.toPass D_check_shares hr (by decide) (by rfl) (aA (pv 1) (aA (pv 2) aB))))
   (aH (aS (bO (NB:=["group","earning","shares"]) (pick:=[none,none,some 1]) (bF (by with_unfolding_all rfl) (by exact(And.intro rfl trivial)) rfl (by decide +kernel) (by decide +kernel) (by rfl) (by rfl)) rfl
     (oK (by rfl) T.jV (aA (pv 0) aB)) (fun _ _ _=>(show PG _ _ (oZ K 2 (eM (aZ 0) (eM (aZ 1) oY))) from fE rfl (bG (aM (i:=0) (show(["group","earning","shares"]:List Str).Nodup from by decide +kernel) rfl bP) (bG (aM (i:=1) (show(["group","earning","shares"]:List Str).Nodup from by decide +kernel) rfl bP) dH))))
     (fun _ _ _=>eZ (cG (aV D_under hr (by decide) (by rfl) (aA (aV D_share_of hr (by decide) (by rfl) (aA (pv 0) (aA (pv 2) aB))) (aA (bQ (aA (pv 1) (aA aE aB))) aB))))) (fun _ _ _=>(pv 0))))))),?_⟩
  refine⟨_,rfl,l,_,rfl,hl,pl,hlen,k0,fun m' m1' m6' hm yes H1 s1=>?_⟩;obtain⟨m,n,tb',Y,d,ws,rfl,m1,m6,hn,t0,st,fl,d0,sd,sY,k⟩:=k yes;have n64:n<=64:=by rw[hn];exact zD m6
  rw[aI,hn] at hm;obtain rfl:m=m':=oR ⟨m,by lia⟩ ⟨m',by lia⟩ hm;have good:nY m (ws.map V.ref) (qBc m true)=true:=by
   unfold nY;rw[decide_eq_true (by rw[qAc,fl.len]),qJi,qKa];intro b hb;rw[List.mem_replicate] at hb;rw[hb.2];rfl
  refine⟨_,rfl,_,rfl,q,ws.map V.ref,_,m,rfl,s1 _ _ fl.hr,by rw[qAc,fl.len];lia,Pc d0 (fl.same s1),(fun e=>by rw[good] at e;cases e),fun _ H2 s2=>?_⟩;have s12:=s1.trans s2;have hl2:=s12 _ _ hl;refine⟨_,rfl,l,rfl,⟨_,aR.of hl2⟩,?_⟩;refine pI (xs:=a9 n tb') (fun σ'=>∃o0 o1:Option V,σ'=[o0,o1,some (.ref q)]) (fun i _=>if (Wg.sm m fun h=>bt i h*Y h)<tb' i*d then some (V.int (i:Int)) else none) ⟨_,_,rfl⟩ (aR.of hl2) (by rw[aI];exact qAk (aK (by lia))) (fun i x t σ1 H3 kk kk0 hσ s3 hx ht g1 g2=>?_) fun D H3 hD s3 hd=>?_
  ·obtain⟨o0,o1,rfl⟩:=hσ;obtain⟨hi,rfl⟩:=dE hx;refine⟨t,_,rfl,cX.of ht,rfl,_,_,rfl,_,_,rfl,rfl,?_⟩;refine⟨_,rfl,_,rfl,q,m,i,Y,d,ws,rfl,(fl.same s12).same s3,m6,by rw[<- hn];exact hi,d0,sd,sY,fun r H4 s4 h4=>?_⟩;refine⟨_,rfl,jB,fun r2 hr2=>?_⟩;have u5:=aG.aF (o:=.tup [V.int (tb' i),V.int 1]) hr2;refine⟨r,r2,_,d,tb' i,rfl,u5 _ _ h4,aC,d0,sd,RS m6 sY,(st i).mono (by decide),_,rfl,cJ (fun z=>?_) (fun z=>?_)⟩
   ·have z:=of_decide_eq_true z;exact⟨_,rfl,g1 _ _ ⟨_,_,rfl⟩ (if_pos z) _ (s4.trans u5)⟩
   ·have z:¬(Wg.sm m fun h=>bt i h*Y h)<tb' i*d:=fun q=>z (decide_eq_true q);exact g2 _ ⟨_,_,rfl⟩ (if_neg z) _ (s4.trans u5)
  ·rw[LU] at hd;exact k D H3 (s12.free hD) (s12.trans s3) hd
def HX (NV:Addr):Sp:=fun vs H Q E=>∃(p:Addr) (n:Nat) (tb:Nat->Int),vs=[.ref p]/\H p=some (.lst (a9 n tb))/\n<=100/\((∃j,j<n/\tb j≠0/\tb j≠1)->∀H',aG H H'->E (.ref NV) none H')/\((∀j,j<n->tb j=0\/tb j=1)->∀H',aG H H'->Q .non H')
theorem QT (x:Int):Jb (.int x) [V.int 0,V.int 1]=decide (x=0\/x=1):=by
 show((0:Int) == x||((1:Int) == x||false))=_
 rw[qPc,qFv,qOo,beq_iff_eq,beq_iff_eq,decide_eq_true_iff];lia
theorem Pd:aO ["table"] ["table"] (aJ KJ):=by constructor<;>first|rfl|decide +kernel
theorem LW (t:Tx K mg "check_votes" KJ ["table"] f fd)(T:T K mg AL LN FR iF fCh fGM fCC fCA fPL SE NN NG NT NR NS NV NO NL NX TM UL):Df P w K mg base (fY P w) 1 "check_votes" ["table"] (HX NV) f fd:=by
 refine t.By Pd (fun vs H Q E h=>?_) (fun cdv A outer s H vs Q E hr h=>?_)
 ·obtain⟨p,n,tb,rfl,_⟩:=h;rfl
 ·obtain⟨p,n,tb,rfl,hp,n1,k0,k⟩:=h;refine⟨_,(aH (bU (dG (cG (aN (jP rfl) (by rfl) T.mB pH (aA (bO (NB:=["number"]) (pick:=[none]) (bF (by with_unfolding_all rfl) (by exact trivial) rfl (by decide +kernel) (by decide +kernel) (by rfl) (by rfl)) rfl
     (bJ (pv 0)) (fun _ _ _=>aM (i:=0) (show(["number"]:List Str).Nodup from by decide +kernel) rfl bP)
     (fun _ _ _=>bI) (fun _ _ _=>(dR (Ju K) (pv 0) (bQ (aA aE (aA aE aB))) (by rfl)))) aB)))) (aH (eS bN rfl (by rfl) T.MW T.Ow (aA dF aB))) a8)),?_⟩
  refine⟨_,rfl,p,rfl,⟨_,aR.of hp⟩,?_⟩;refine cB (xs:=a9 n tb) (fun j _=>some (.bl (decide (tb j=0\/tb j=1)))) (aR.of hp) (by rw[aI];exact qAk (aK (by lia))) (fun j y H2 kk kk0 s2 hy g1 g2=>?_) fun D H2 hD s2 hd=>?_
  ·obtain⟨hj,rfl⟩:=dE hy;refine⟨_,rfl,jB,fun tp htp=>?_⟩;have u2:=aG.aF (o:=.tup [.int 0,.int 1]) htp;refine⟨tp,_,rfl,.inr (cX.of aC),rfl,by decide,?_⟩;refine g1 _ ?_ _ u2;show some (V.bl (decide (tb j=0\/tb j=1)))=some (V.bl (Jb (.int (tb j)) [V.int 0,V.int 1]));rw[QT]
  ·have hd':H2 D=some (.lst (((qAn n).map fun j=>decide (tb j=0\/tb j=1)).map V.bl)):=by
    rw[hd,aI,jX _ (aI _ _),qCz];rfl
   refine⟨D,_,rfl,aR.of hd',_,rfl,?_⟩;cases e:((qAn n).map fun j=>decide (tb j=0\/tb j=1)).all id with
   | false =>
    refine eQ ⟨jD,k0 (qBf fun no=>?_) H2 s2⟩;rw[List.all_eq_true.mpr fun b hb=>?_] at e
    ·cases e
    ·obtain⟨j,hj,rfl⟩:=List.mem_map.mp hb;refine decide_eq_true (qBf fun z=>no ⟨j,List.mem_range.mp hj,?_⟩);lia
   | true=>exact dO (k (fun j hj=>of_decide_eq_true (List.all_eq_true.mp e _ (List.mem_map.mpr ⟨j,List.mem_range.mpr hj,rfl⟩))) H2 s2)
def xG (m:Nat)(b:Bool)(g i:Nat):Int:=if b=true then (if i<m then bt g i else -1) else -(if i<m then bt g i else -1)
theorem GQ (m:Nat)(b:Bool)(g i:Nat):Sm 2 (xG m b g i):=by
 unfold xG;show(if b=true then (if i<m then bt g i else -1) else -(if i<m then bt g i else -1):Int).natAbs<2^2;rcases p8 g i with e | e <;> rw[e] <;> split <;> split <;> decide
def HY:Sp:=fun vs H Q _=>∃(g m:Nat) (b:Bool),vs=[.int (g:Int),.bl b,.int (m:Int)]/\g<64/\m<=6/\∀D H',H D=none->aG H H'->H' D=some (.lst (a9 (m+1) (xG m b g)))->Q (.ref D) H'
theorem HZ:aO ["group","wins","many","column"] ["group","wins","many"] (aJ KL):=by constructor<;>first|rfl|decide +kernel
theorem LX (t:Tx K mg "column_of" KL ["group","wins","many"] f fd)(T:T K mg AL LN FR iF fCh fGM fCC fCA fPL SE NN NG NT NR NS NV NO NL NX TM UL)(D_marks_of:Df P w K mg base cA 1 "marks_of" ["group","many"] qA f1 fd1):
  Df P w K mg base cA 2 "column_of" ["group","wins","many"] HY f fd:=by
 refine t.iJ HZ (fun vs H Q E h=>?_) (fun cdv A outer s H vs Q E hr h=>?_)
 ·obtain⟨g,m,b,rfl,_⟩:=h;rfl
 ·obtain⟨g,m,b,rfl,hg,hm,k⟩:=h;refine⟨_,(aD (aP (i:=3) HZ.nd rfl (by first|exact .inl rfl|exact .inr rfl) (aQ fM (aV D_marks_of hr (by decide) (by rfl) (aA (pv 0) (aA (pv 2) aB))) (bL (aA (gM fF aE) aB))))
   (aH (aS (lI (cG (pv 1)) (pv 3) (bO (NB:=["number"]) (pick:=[none]) (bF (by with_unfolding_all rfl) (by exact trivial) rfl (by decide +kernel) (by decide +kernel) (by rfl) (by rfl)) rfl
     (bJ (pv 3)) (fun _ _ _=>aM (i:=0) (show(["number"]:List Str).Nodup from by decide +kernel) rfl bP)
     (fun _ _ _=>bI) (fun _ _ _=>(gM fF (pv 0)))))))),?_⟩
  refine⟨_,rfl,_,rfl,g,m,rfl,hg,hm,fun D1 H1 hD1 s1 h1=>?_⟩;refine⟨_,rfl,jD,fun p1 hp1=>?_⟩;have u1:=aG.aF (o:=.lst [V.int (-1)]) hp1;have e1:upd H1 p1 (.lst [V.int (-1)]) p1=_:=aC;generalize upd H1 p1 (.lst [V.int (-1)])=H2 at u1 e1|-;have h1:=u1 _ _ h1;have e1:H2 p1=some (.lst (a9 1 fun _=>-1)):=e1;refine⟨D1,p1,_,_,rfl,rfl,aR.of h1,aR.of e1,by rw[aI,aI];exact qAk (aK (by lia)),fun p2 hp2=>?_⟩;rw[kE];have u2:=aG.aF (o:=.lst (a9 (m+1) fun j=>if j<m then bt g j else -1)) hp2;have e2:upd H2 p2 (.lst (a9 (m+1) fun j=>if j<m then bt g j else -1)) p2=_:=aC;generalize upd H2 p2 (.lst (a9 (m+1) fun j=>if j<m then bt g j else -1))=H3 at u2 e2|-;have s3:=s1.trans (u1.trans u2);cases b with
  | true =>
   refine⟨_,rfl,_,rfl,eQ ⟨_,rfl,k p2 H3 ((s1.trans u1).free hp2) s3 ?_⟩⟩;rw[e2];rfl
  | false =>
   refine⟨_,rfl,_,rfl,dO ⟨_,rfl,p2,rfl,⟨_,aR.of e2⟩,?_⟩⟩;refine cB (xs:=a9 (m+1) fun j=>if j<m then bt g j else -1) (fun j _=>some (.int (xG m false g j))) (aR.of e2) (by rw[aI];exact qAk (aK (by lia))) (fun j y H4 kk kk0 s4 hy g1 g2=>?_) fun D H4 hD s4 hd=>?_
   ·obtain⟨hj,rfl⟩:=dE hy;exact⟨_,rfl,_,rfl,g1 _ rfl _ (.refl _)⟩
   ·refine k D H4 (s3.free hD) (s3.trans s4) ?_;rw[hd,aI,jX _ (aI _ _)];rfl
def gB (H:Hp):List V->List (Int×Int)->Prop
 | [],[]=>True
 | v::vs,p::ps=>(∃a,v = .ref a/\H a=some (.tup [.int p.1,.int p.2]))/\gB H vs ps
 | _,_=>False
theorem gB.t (s:kT H H'):∀{vs:List V}{ps:List (Int×Int)},gB H vs ps->gB H' vs ps
 | [],[],_=>trivial
 | v::vs,p::ps,⟨⟨a,e,h⟩,r⟩=>⟨⟨a,e,s _ _ h⟩,r.t s⟩
 | [],_::_,h=>h.elim
 | _::_,[],h=>h.elim
theorem gB.app (h:H a=some (.tup [.int p.1,.int p.2])):∀{vs:List V}{ps:List (Int×Int)},gB H vs ps->gB H (vs++[.ref a]) (ps++[p])
 | [],[],_=>⟨⟨a,rfl,h⟩,trivial⟩
 | v::vs,q::ps,⟨x,r⟩=>⟨x,r.app h⟩
 | [],_::_,h=>h.elim
 | _::_,[],h=>h.elim
def MZ (gs:List Nat)(z:Nat->Int):List (Int×Int):=(gs.filter fun g=>decide (z g≠0)).map fun(g:Nat)=>((g:Int),z g)
def Ia:Sp:=fun vs H Q _=>∃(p q:Addr) (gs:List Nat) (n:Nat) (z:Nat->Int),vs=[.ref p,.ref q]/\H p=some (.lst (gs.map fun(g:Nat)=>V.int (g:Int)))/\H q=some (.lst (a9 n z))/\gs.length<=100/\(∀g∈gs,g<n) /\
 ∀D H' ys,H D=none->aG H H'->H' D=some (.lst ys)->gB H' ys (MZ gs z)->Q (.ref D) H'
theorem Pe:aO ["groups","times"] ["groups","times"] (aJ KN):=by constructor<;>first|rfl|decide +kernel
theorem Pf (x:Int):(!decide (V.int x=V.int 0))=decide (x≠0):=by
 by_cases h:x=0
 ·subst h;rfl
 ·rw[decide_eq_false fun q=>h (V.int.inj q),decide_eq_true h];rfl
theorem LY (t:Tx K mg "with_times" KN ["groups","times"] f fd)(T:T K mg AL LN FR iF fCh fGM fCC fCA fPL SE NN NG NT NR NS NV NO NL NX TM UL):Df P w K mg base cA 1 "with_times" ["groups","times"] Ia f fd:=by
 refine t.iJ Pe (fun vs H Q E h=>?_) (fun cdv A outer s H vs Q E hr h=>?_)
 ·obtain⟨p,q,gs,n,z,rfl,_⟩:=h;rfl
 ·obtain⟨p,q,gs,n,z,rfl,hp,hq,hl,hgs,k⟩:=h;refine⟨_,(aH (aS (bO (NB:=["group","times"]) (pick:=[none,some 1]) (bF (by with_unfolding_all rfl) (by exact(And.intro rfl trivial)) rfl (by decide +kernel) (by decide +kernel) (by rfl) (by rfl)) rfl
     (bJ (pv 0)) (fun _ _ _=>aM (i:=0) (show(["group","times"]:List Str).Nodup from by decide +kernel) rfl bP)
     (fun _ _ _=>eZ (aW g9 (aU (bV K) (pv 1) (pv 0) (fun _ _=>rfl)) aE (aX _))) (fun _ _ _=>(bQ (aA (pv 0) (aA (aU (bV K) (pv 1) (pv 0) (fun _ _=>rfl)) aB))))))),?_⟩
  refine⟨_,rfl,p,rfl,⟨_,aR.of hp⟩,?_⟩;refine rO (xs:=gs.map fun(g:Nat)=>V.int (g:Int)) (fun i ys H'=>gB H' ys (MZ (gs.take i) z)) (fun i ys H1 H2 st h=>h.t st) trivial (aR.of hp) (by rw[qAc];exact qAk (aK (by lia))) (fun i x H2 kk kk0 ys s2 hx iv g1 g2=>?_) fun D ys H2 hD s2 iv hd=>?_
  ·obtain⟨g,hg,rfl⟩:∃g:Nat,gs[i]?=some g/\V.int (g:Int)=x:=by
    rw[qAo] at hx;cases e:gs[i]? with
    | none=>rw[e] at hx;cases hx
    | some g=>rw[e] at hx;exact⟨g,rfl,Option.some.inj hx⟩
   have hgn:=hgs g (qBa hg);have et:gs.take (i+1)=gs.take i++[g]:=by rw[qEr,hg];rfl
   have hat:gQ (a9 n z) (g:Int)=some (.int (z g)):=bT hgn;refine⟨_,rfl,_,rfl,q,_,_,_,rfl,rfl,aR.of (s2 _ _ hq),hat,rfl,_,rfl,?_⟩;show if (!decide (V.int (z g)=V.int 0))=true then _ else _;rw[Pf];by_cases e:z g≠0
   ·refine cJ (fun _=>?_) (fun no=>absurd (decide_eq_true e) no);refine⟨_,rfl,_,rfl,_,rfl,q,_,_,_,rfl,rfl,aR.of (s2 _ _ hq),hat,jB,fun r hr=>?_⟩;have u:=aG.aF (o:=.tup [.int (g:Int),.int (z g)]) hr;refine g1 _ _ u ?_;rw[et];unfold MZ;rw[qEv,qAu,qDi,if_pos (decide_eq_true e)];exact gB.app (p:=((g:Int),z g)) aC (iv.t u.t)
   ·refine cJ (fun y=>absurd (of_decide_eq_true y) e) (fun _=>g2 _ (.refl _) ?_);rw[et];unfold MZ;rw[qEv,qDi,if_neg (by rw[decide_eq_false e];exact qAj),qGx,qDo];exact iv
  ·rw[qAc,qEh] at iv;exact k D H2 ys hD s2 hd iv
def Rq (m n:Nat)(tb:Nat->Int)(q:Int)(w:Nat->Int):Prop:=∀g,g<n->(q<=(Wg.sm m fun i=>bt g i*w i)↔tb g=1)
structure Pg (m n:Nat) (tb z:Nat->Int):Prop where
 nn:∀j,j<n->0<=z j
 dU:∀i,i<m->(Wg.sm n fun j=>tb j*(bt j i*z j))=Wg.sm n fun j=>(1-tb j)*(bt j i*z j)
 all:(Wg.sm n fun j=>tb j*z j)=Wg.sm n fun j=>(1-tb j)*z j
 pos:0<Wg.sm n fun j=>(1-tb j)*z j
def vA (m:Nat)(tb:Nat->Int)(j i:Nat):Int:=xG m (decide (tb j=1)) j i
def vG (tb:Nat->Int)(j:Nat):Int:=if tb j=1 then 0 else 1
theorem AQ {m j i:Nat}{tb:Nat->Int}(h:tb j=0\/tb j=1)(hi:i<m)(z:Int):vA m tb j i*z=tb j*(bt j i*z) + -1*((1-tb j)*(bt j i*z)):=by
 unfold vA xG;rcases h with e | e
 ·rw[e,decide_eq_false (by decide),if_neg qAj,if_pos hi];grind
 ·rw[e,decide_eq_true rfl,if_pos rfl,if_pos hi];grind
theorem AR {m j:Nat}{tb:Nat->Int}(h:tb j=0\/tb j=1)(z:Int):vA m tb j m*z=-1*(tb j*z)+(1-tb j)*z:=by
 unfold vA xG;rcases h with e | e
 ·rw[e,decide_eq_false (by decide),if_neg qAj,if_neg (qDc m)];grind
 ·rw[e,decide_eq_true rfl,if_pos rfl,if_neg (qDc m)];grind
theorem Ib {j:Nat}{tb:Nat->Int}(h:tb j=0\/tb j=1):vG tb j=1-tb j:=by
 unfold vG;rcases h with e | e <;> rw[e] <;> decide
theorem EI {d L t X:Int}(d0:0<d)(L0:0<L)(x0:0<X)(e:t*d=X*L):0<t:=by
 have:0<t*d:=by rw[e];exact qGz x0 L0
 exact Int.pos_of_mul_pos_left this d0
theorem EJ {m n:Nat}{tb Y tt:Nat->Int}{d L:Int}(h01:∀j,j<n->tb j=0\/tb j=1)(d0:0<d)(L0:0<L)(cols:∀j,j<n->vG tb j*d<=Wg.sm (m+1) fun i=>vA m tb j i*Y i)(et:∀i,i<m+1->tt i*d=Y i*L):Rq m n tb (tt m) tt:=by
 intro g hg;have c:=cols g hg;have e:=mE (a:=vA m tb g) et;have hb:=h01 g hg;have es:(Wg.sm (m+1) fun i=>vA m tb g i*tt i)=(if tb g=1 then 1 else -1)*((Wg.sm m fun i=>bt g i*tt i)-tt m):=by
  show(Wg.sm m fun i=>vA m tb g i*tt i)+vA m tb g m*tt m=_;rw[AR hb];have e1:(Wg.sm m fun i=>vA m tb g i*tt i)=(if tb g=1 then 1 else -1)*Wg.sm m fun i=>bt g i*tt i:=by
   rw[<- Wg.bK];refine Wg.aY fun i hi=>?_;rw[AQ hb hi];rcases hb with z | z
   ·rw[z,if_neg (by decide)];grind
   ·rw[z,if_pos rfl];grind
  rw[e1];rcases hb with z | z
  ·rw[z,if_neg (by decide)];grind
  ·rw[z,if_pos rfl];grind
 rw[es] at e;generalize (Wg.sm m fun i=>bt g i*tt i)=S at e|-;generalize (Wg.sm (m+1) fun i=>vA m tb g i*Y i)=C at c e;rcases hb with z | z
 ·rw[z] at e|-;rw[if_neg (by decide)] at e;have hv:vG tb g=1:=by unfold vG;rw[z];decide
  rw[hv,qCk] at c;have:=EI d0 L0 (show 0<C by lia) e;constructor
  ·intro q;lia
  ·intro q;lia
 ·rw[z] at e|-;rw[if_pos rfl] at e;have hv:vG tb g=0:=by unfold vG;rw[z];decide
  rw[hv,qBg] at c;have:=HL d0 L0 c e;exact⟨fun _=>rfl,fun _=>by lia⟩
theorem EK {m n:Nat}{tb Z z:Nat->Int}{d L:Int}(h01:∀j,j<n->tb j=0\/tb j=1)(d0:0<d)(L0:0<L)(z0:∀j,0<=Z j)(away:∀i,i<m+1->(Wg.sm n fun j=>vA m tb j i*Z j)=0)(more:0<Wg.sm n fun j=>vG tb j*Z j)(et:∀j,j<n->z j*d=Z j*L):Pg m n tb z:=by
 have aw:∀i,i<m+1->(Wg.sm n fun j=>vA m tb j i*z j)=0:=fun i hi=>by
  have e:=mE (a:=fun j=>vA m tb j i) et;rw[away i hi,qBg] at e;rcases Int.mul_eq_zero.mp e with q | q
  ·exact q
  ·lia
 refine⟨fun j hj=>HL d0 L0 (z0 j) (et j hj),fun i hi=>?_,?_,?_⟩
 ·have e:=aw i (by lia);rw[Wg.aY fun j hj=>AQ (h01 j hj) hi (z j),Wg.fG,Wg.bK] at e;lia
 ·have e:=aw m (by lia);rw[Wg.aY fun j hj=>AR (h01 j hj) (z j),Wg.fG,Wg.bK] at e;lia
 ·have e:=mE (a:=vG tb) et;have p:=EI d0 L0 more e;rw[Wg.aY fun j hj=>by rw[Ib (h01 j hj)]] at p;exact p
def Ic (n:Nat)(tb:Nat->Int)(c:Int):List Nat:=(qAn n).filter fun g=>decide (tb g=c)
def Ph (m n:Nat)(tb:Nat->Int)(H H':Hp)(r:Addr):Prop :=
 (∃lw q w,H' r=some (.tup [.str "weights",.int q,.ref lw])/\H' lw=some (.lst (a9 m w))/\H lw=none/\Rq m n tb q w) \/
 (∃l1 l2 ys1 ys2 z,H' r=some (.tup [.str "exchange",.ref l1,.ref l2])/\H' l1=some (.lst ys1)/\H' l2=some (.lst ys2)/\H l1=none/\H l2=none/\gB H' ys1 (MZ (Ic n tb 1) z)/\gB H' ys2 (MZ (Ic n tb 0) z)/\(∀j,Sm 320000 (z j))/\Pg m n tb z)
def Ie (K:qAb)(NT NV:Addr):Sp:=fun vs H Q E=>∃(p:Addr) (xs:List V),vs=[.ref p]/\H p=some (.lst xs)/\(∀v∈xs,Pl K H v)/\xs.length<=1000/\(dQ xs=false->∀H',aG H H'->E (.ref NT) none H') /\
 (dQ xs=true->∃(m n:Nat) (tb:Nat->Int),1<=m/\m<=6/\n=2^m/\xs=a9 n tb/\((∃j,j<n/\tb j≠0/\tb j≠1)->∀H',aG H H'->E (.ref NV) none H')/\((∀j,j<n->tb j=0\/tb j=1)->∀r H',aG H H'->Ph m n tb H H' r->Q (.ref r) H'))
theorem Cg {m n:Nat}{tb:Nat->Int}(m6:m<=6)(hn:n<=64):Inst (m+1) n (vA m tb) (fun _=>0):=⟨by lia,by lia,by lia,fun j i=>(GQ m _ j i).mono (by decide),fun _=>Sm.zero⟩
theorem Pj (tb:Nat->Int)(j:Nat):Sm 90000 (vG tb j):=by
 refine Sm.mono (a:=2) ?_ (by decide);show(vG tb j).natAbs<2^2;unfold vG;split <;> decide
theorem EL {n:Nat}{tb:Nat->Int}(c:Int):((qAn n).filterMap fun(i:Nat)=>((cT n)[i]?).bind fun _=>if tb i=c then some (V.int (i:Int)) else none)=(Ic n tb c).map fun(g:Nat)=>V.int (g:Int):=by
 have e:∀l:List Nat,(∀i∈l,i<n)->(l.filterMap fun(i:Nat)=>((cT n)[i]?).bind fun _=>if tb i=c then some (V.int (i:Int)) else none)=(l.filter fun g=>decide (tb g=c)).map fun(g:Nat)=>V.int (g:Int):=by
  intro l;induction l with
  | nil=>intro _;rfl
  | cons a l ih =>
   intro h;have ha:=h a (by simp);have er:(cT n)[a]?=some (V.int (a:Int)):=by unfold cT;rw[qAo,qCj ha];rfl
   rw[qCo,qDi,ih fun i hi=>h i (by simp[hi]),er];by_cases z:tb a=c
   ·simp[z]
   ·simp[z]
 exact e _ fun i hi=>List.mem_range.mp hi
theorem nH (h:(cT n)[i]?=some x):i<n/\x = .int (i:Int):=by
 obtain⟨z,_⟩:=List.getElem?_eq_some_iff.mp h;unfold cT at z h;rw[qAc,qAs] at z;rw[qAo,qCj z] at h;exact⟨z,(Option.some.inj h).symm⟩
theorem fU (n:Nat):(cT n).length=n:=by unfold cT;rw[qAc,qAs]
theorem AS (n:Nat)(tb:Nat->Int)(c:Int):(Ic n tb c).length<=n:=by
 have:=qEz (fun g=>decide (tb g=c)) (qAn n);rw[qAs] at this;exact this
theorem AU {n g:Nat}{tb:Nat->Int}{c:Int}(h:g∈Ic n tb c):g<n/\tb g=c:=by
 unfold Ic at h;rw[qIg,qOp] at h;exact⟨h.1,of_decide_eq_true h.2⟩
theorem eq1 (x:Int):decide (V.int x=V.int 1)=decide (x=1):=decide_eq_decide.mpr ⟨fun y=>V.int.inj y,fun y=>by rw[y]⟩
theorem EM {k n:Nat}{f:Nat->Int}(h:k<=n):(a9 n f).take k=a9 k f:=by
 unfold a9;rw[<- qLl,List.take_range,qIl h]
theorem mH:aO ["table","many","groups","columns","gains","told","numbers","winners","losers"] ["table"] (aJ KO):=by constructor<;>first|rfl|decide +kernel
theorem LZ (t:Tx K mg "weights_for" KO ["table"] f fd)(T:T K mg AL LN FR iF fCh fGM fCC fCA fPL SE NN NG NT NR NS NV NO NL NX TM UL)(D_hands_in:Df P w K mg base (fY P w) 3 "hands_in" ["table"] (xA K NT) f1 fd1)(D_check_votes:Df P w K mg base (fY P w) 1 "check_votes" ["table"] (HX NV) f2 fd2)
  (D_column_of:Df P w K mg base cA 2 "column_of" ["group","wins","many"] HY f3 fd3) (D_weigh:Df P w K mg base (fY P w) 5 "weigh" ["columns","due","gains"] (pZ K NR) f4 fd4) (D_common_bottom:Df P w K mg base cA 2 "common_bottom" ["fractions"] AJ f5 fd5)
  (D_tops_over:Df P w K mg base cA 1 "tops_over" ["bottom","fractions"] AM f6 fd6) (D_with_times:Df P w K mg base cA 1 "with_times" ["groups","times"] Ia f7 fd7) :
  Df P w K mg base (fY P w) 6 "weights_for" ["table"] (Ie K NT NV) f fd:=by
 refine t.By mH (fun vs H Q E h=>?_) (fun cdv _A outer s H vs Q E hr h=>?_)
 ·obtain⟨p,xs,rfl,_⟩:=h;rfl
 ·obtain⟨p,xs,rfl,hp,pl,hl,k0,k⟩:=h;refine⟨_,(aD (aP (i:=1) mH.nd rfl (by first|exact .inl rfl|exact .inr rfl) (cR bN.toPass D_hands_in hr (by decide) (by rfl) (aA (pv 0) aB)))
   (aD (eX (cR bN.toPass D_check_votes hr (by decide) (by rfl) (aA (pv 0) aB)))
   (aD (aP (i:=2) mH.nd rfl (by first|exact .inl rfl|exact .inr rfl) (tS (by rfl) T.cQ (by rfl) T.cM rfl (aA (aN aT (by rfl) T.cK bY (aA (pv 0) aB)) aB)))
   (aD (cZ (NB:=["group","many","table"]) (pick:=[none,some 1,some 0]) (i:=3) mH.nd rfl bP (by rfl) (bF (by with_unfolding_all rfl) (by exact(And.intro rfl (And.intro rfl trivial))) rfl (by decide +kernel) (by decide +kernel) (by rfl) (by rfl)) rfl
     (bJ (pv 2)) (fun _ _ _=>aM (i:=0) (show(["group","many","table"]:List Str).Nodup from by decide +kernel) rfl bP)
     (fun _ _ _=>bI) (fun _ _ _=>(aV D_column_of hr (by decide) (by rfl) (aA (pv 0) (aA (dR eO (aU (bV K) (pv 2) (pv 0) (fun _ _=>rfl)) aE (aX _)) (aA (pv 1) aB))))))
   (aD (cZ (NB:=["earning"]) (pick:=[none]) (i:=4) mH.nd rfl bP (by rfl) (bF (by with_unfolding_all rfl) (by exact trivial) rfl (by decide +kernel) (by decide +kernel) (by rfl) (by rfl)) rfl
     (bJ (pv 0)) (fun _ _ _=>aM (i:=0) (show(["earning"]:List Str).Nodup from by decide +kernel) rfl bP)
     (fun _ _ _=>bI) (fun _ _ _=>(aQ iW aE (pv 0))))
   (aD (aP (i:=5) mH.nd rfl bP (cR bN.toPass D_weigh hr (by decide) (by rfl) (aA (pv 3) (aA (aQ fL (bL (aA aE aB)) (aQ f9 (pv 1) aE)) (aA (pv 4) aB)))))
   (aD (aP (i:=6) mH.nd rfl bP (aV D_tops_over hr (by decide) (by rfl) (aA (aV D_common_bottom hr (by decide) (by rfl) (aA (aU bR (pv 5) aE (fun _ _=>rfl)) aB)) (aA (aU bR (pv 5) aE (fun _ _=>rfl)) aB))))
   (aD (bU (aW eO (aU bR (pv 5) aE (fun _ _=>rfl)) dF (aX _)) (aH (aS (bQ (aA dF (aA (aU bC (pv 6) (pv 1) (fun _ _=>rfl)) (aA (gO lK (pv 6) iX (iY (pv 1))) aB)))))) a8)
   (aD (cZ (NB:=["group","table"]) (pick:=[none,some 0]) (i:=7) mH.nd rfl bP (by rfl) (bF (by with_unfolding_all rfl) (by exact(And.intro rfl trivial)) rfl (by decide +kernel) (by decide +kernel) (by rfl) (by rfl)) rfl
     (bJ (pv 2)) (fun _ _ _=>aM (i:=0) (show(["group","table"]:List Str).Nodup from by decide +kernel) rfl bP)
     (fun _ _ _=>eZ (aW eO (aU (bV K) (pv 1) (pv 0) (fun _ _=>rfl)) aE (aX _))) (fun _ _ _=>(pv 0)))
   (aD (cZ (NB:=["group","table"]) (pick:=[none,some 0]) (i:=8) mH.nd rfl bP (by rfl) (bF (by with_unfolding_all rfl) (by exact(And.intro rfl trivial)) rfl (by decide +kernel) (by decide +kernel) (by rfl) (by rfl)) rfl
     (bJ (pv 2)) (fun _ _ _=>aM (i:=0) (show(["group","table"]:List Str).Nodup from by decide +kernel) rfl bP)
     (fun _ _ _=>eZ (aW eO (aU (bV K) (pv 1) (pv 0) (fun _ _=>rfl)) aE (aX _))) (fun _ _ _=>(pv 0)))
   (aH (aS (bQ (aA dF (aA (aV D_with_times hr (by decide) (by rfl) (aA (pv 7) (aA (pv 6) aB))) (aA (aV D_with_times hr (by decide) (by rfl) (aA (pv 8) (aA (pv 6) aB))) aB)))))))))))))))),?_⟩
  refine⟨_,rfl,p,xs,rfl,hp,pl,hl,k0,fun m' m1' m6' hm' yes H1 s1=>?_⟩;obtain⟨m,n,tb,m1,m6,hn,rfl,kv,k⟩:=k yes;rw[aI,hn] at hm';obtain rfl:m=m':=oR ⟨m,by lia⟩ ⟨m',by lia⟩ hm';have n64:n<=64:=by rw[hn];exact zD m6
  refine⟨_,rfl,p,n,tb,rfl,s1 _ _ hp,by lia,fun bad H2 s2=>kv bad H2 (s1.trans s2),fun h01 H2 s2=>?_⟩;have k:=k h01;have s2:=s1.trans s2;refine⟨_,rfl,p,_,rfl,.inl (aR.of (s2 _ _ hp)),?_⟩;rw[aI];refine⟨n,rfl,by lia,fun pg hpg=>?_⟩;have u3:=aG.aF (o:=.lst (cT n)) hpg;have e3:upd H2 pg (.lst (cT n)) pg=_:=aC;generalize upd H2 pg (.lst (cT n))=H3 at u3 e3|-;have s3:=s2.trans u3;refine⟨_,rfl,pg,rfl,⟨_,aR.of e3⟩,?_⟩;refine iK (xs:=cT n) (fun j=>a9 (m+1) (vA m tb j)) (aR.of e3) (by rw[fU];exact qAk (aK (by lia))) (fun j y H4 kk kk0 s4 hy g1=>?_) fun pc cs H4 hpc s4 hcs ncs hD=>?_
  ·obtain⟨hj,rfl⟩:=nH hy;refine⟨_,rfl,_,rfl,_,rfl,p,_,_,_,rfl,rfl,aR.of (s4 _ _ (s3 _ _ hp)),bT hj,rfl,_,rfl,j,m,_,rfl,qAy hj n64,m6,fun D H5 hD5 s5 h5=>g1 D H5 s5 hD5 ?_⟩;rw[h5];unfold vA;show some (HO.lst (a9 (m+1) (xG m (decide (V.int (tb j)=V.int 1)) j)))=_;rw[eq1]
  have s4:=s3.trans s4;refine⟨_,rfl,p,rfl,⟨_,aR.of (s4 _ _ hp)⟩,?_⟩;refine cB (xs:=a9 n tb) (fun j _=>some (.int (1-tb j))) (aR.of (s4 _ _ hp)) (by rw[aI];exact qAk (aK (by lia))) (fun j y H5 kk kk0 s5 hy g1 g2=>?_) fun pgn H5 hpgn s5 hgn=>?_
  ·obtain⟨hj,rfl⟩:=dE hy;exact⟨_,rfl,_,_,rfl,rfl,g1 _ rfl _ (.refl _)⟩
  have hgn:H5 pgn=some (.lst (a9 n (vG tb))):=by
   rw[hgn,aI,jX _ (aI _ _)];show some (HO.lst (a9 n fun j=>1-tb j))=_;rw[dJ fun j hj=>(Ib (h01 j hj)).symm]
  refine⟨_,rfl,jD,fun a1 ha1=>?_⟩;have u6:=aG.aF (o:=.lst [.int 0]) ha1;have e6:upd H5 a1 (.lst [.int 0]) a1=some (.lst [.int 0]):=aC;generalize upd H5 a1 (.lst [.int 0])=H6 at u6 e6|-;refine⟨_,rfl,_,_,rfl,rfl,a1,_,_,rfl,rfl,e6,by lia,by lia,?_,fun pd hpd=>?_⟩
  ·show 1*((m:Int)+1).toNat<=qAf;exact qAk (aK (by lia))
  rw[show((m:Int)+1).toNat=m+1 by lia,eU];have u7:=aG.aF (o:=.lst (a9 (m+1) fun _=>0)) hpd;have e7:upd H6 pd (.lst (a9 (m+1) fun _=>0)) pd=_:=aC;generalize upd H6 pd (.lst (a9 (m+1) fun _=>0))=H7 at u7 e7|-;have s7:=s4.trans (s5.trans (u6.trans u7));have s47:=s5.trans (u6.trans u7);refine⟨_,rfl,?_⟩;dsimp only[fP,qBn,qBp];refine p6 (Cg m6 n64) ⟨s47 _ _ hD,by rw[hcs,fU],fun j c e=>s47 _ _ (ncs.at_ j c e).2.2,e7⟩ ((u6.trans u7) _ _ hgn) (Pj tb) fun r H8 s8 told=>?_;have s8:=s7.trans s8;have hp8:=s8 _ _ hp;have hg8:H8 pg=some (.lst (cT n)):=by
   have z:=s47 _ _ (‹aG H3 H4› _ _ e3);exact ‹aG H7 H8› _ _ z
  rcases told with ⟨lw,lp,ws,ps,d,X,Y,to⟩ | ⟨lp,ps,d,Y,to⟩ | ⟨lw,lp,ws,ps,d,X,Y,to⟩
  ·have a2:gQ [V.str "best",V.ref lw,V.ref lp] 2=some (.ref lp):=rfl;have a0:gQ [V.str "best",V.ref lw,V.ref lp] 0=some (.str "best"):=rfl;refine⟨_,rfl,r,_,_,_,rfl,rfl,cX.of to.tup,a2,lp,m+1,Y,d,ps,rfl,to.fp,to.d0,to.ds,fun L lo=>?_⟩;refine⟨_,rfl,r,_,_,_,rfl,rfl,cX.of to.tup,a2,lp,m+1,Y,d,L,ps,rfl,to.fp,by lia,to.d0,to.ds,to.sY,lo,fun D H9 tt hD9 s9 hd9 et st=>?_⟩;refine⟨_,rfl,r,_,_,_,rfl,rfl,cX.of (s9 _ _ to.tup),a0,rfl,_,rfl,eQ ?_⟩;refine⟨_,rfl,_,rfl,D,_,_,_,rfl,rfl,aR.of hd9,bT (by lia),_,rfl,_,rfl,_,rfl,D,_,rfl,aR.of hd9,fun p1 hp1=>?_⟩;rw[zC,EM (by lia)];have u1:=aG.aF (o:=.lst (a9 m tt)) hp1;have x1:upd H9 p1 (.lst (a9 m tt)) p1=_:=aC;generalize upd H9 p1 (.lst (a9 m tt))=H10 at u1 x1|-;refine⟨IB,fun r2 hr2=>?_⟩;have u2:=aG.aF (o:=.tup [.str "weights",.int (tt m),.ref p1]) hr2;exact k r2 _ (s8.trans (s9.trans (u1.trans u2))) (.inl ⟨p1,tt m,tt,aC,u2 _ _ x1,(s8.trans s9).free hp1,EJ h01 to.d0 lo.pos to.cols et⟩)
  ·have z:=to.neg;rw[Wg.cD fun i _=>qBg _] at z;exact absurd z (by decide)
  ·have a2:gQ [V.str "endless",V.ref lw,V.ref lp] 2=some (.ref lp):=rfl;have a0:gQ [V.str "endless",V.ref lw,V.ref lp] 0=some (.str "endless"):=rfl;refine⟨_,rfl,r,_,_,_,rfl,rfl,cX.of to.tup,a2,lp,n,Y,d,ps,rfl,to.fv,to.d0,to.ds,fun L lo=>?_⟩;refine⟨_,rfl,r,_,_,_,rfl,rfl,cX.of to.tup,a2,lp,n,Y,d,L,ps,rfl,to.fv,by lia,to.d0,to.ds,to.sZ,lo,fun D H9 tt hD9 s9 hd9 et st=>?_⟩;refine⟨_,rfl,r,_,_,_,rfl,rfl,cX.of (s9 _ _ to.tup),a0,rfl,_,rfl,dO ?_⟩;have s9':=s8.trans s9;have hg9:=s9 _ _ hg8;refine⟨_,rfl,pg,rfl,⟨_,aR.of hg9⟩,?_⟩;refine cB (xs:=cT n) (fun j _=>if tb j=1 then some (V.int (j:Int)) else none) (aR.of hg9) (by rw[fU];exact qAk (aK (by lia))) (fun j y H10 kk kk0 s10 hy g1 g2=>?_) fun pw H10 hpw s10 hdw=>?_
   ·obtain⟨hj,rfl⟩:=nH hy;refine⟨_,rfl,_,rfl,p,_,_,_,rfl,rfl,aR.of (s10 _ _ (s9' _ _ hp)),bT hj,rfl,_,rfl,cJ (fun e=>?_) (fun e=>g2 (if_neg fun q=>e (decide_eq_true (by rw[q]))) _ (.refl _))⟩;exact⟨_,rfl,g1 _ (if_pos (V.int.inj (of_decide_eq_true e))) _ (.refl _)⟩
   rw[fU,EL] at hdw;have s10':=s9'.trans s10;have hg10:=s10 _ _ hg9;refine⟨_,rfl,pg,rfl,⟨_,aR.of hg10⟩,?_⟩;refine cB (xs:=cT n) (fun j _=>if tb j=0 then some (V.int (j:Int)) else none) (aR.of hg10) (by rw[fU];exact qAk (aK (by lia))) (fun j y H11 kk kk0 s11 hy g1 g2=>?_) fun pl' H11 hpl' s11 hdl=>?_
   ·obtain⟨hj,rfl⟩:=nH hy;refine⟨_,rfl,_,rfl,p,_,_,_,rfl,rfl,aR.of (s11 _ _ (s10' _ _ hp)),bT hj,rfl,_,rfl,cJ (fun e=>?_) (fun e=>g2 (if_neg fun q=>e (decide_eq_true (by rw[q]))) _ (.refl _))⟩;exact⟨_,rfl,g1 _ (if_pos (V.int.inj (of_decide_eq_true e))) _ (.refl _)⟩
   rw[fU,EL] at hdl;have s11':=s10'.trans s11;have hd11:=s11 _ _ (s10 _ _ hd9);refine⟨_,rfl,_,rfl,pw,D,Ic n tb 1,n,tt,rfl,s11 _ _ hdw,hd11,by have:=AS n tb 1;lia,fun g hg=>(AU hg).1,fun l1 H12 ys1 hl1 s12 h12 t1=>?_⟩;refine⟨_,rfl,_,rfl,pl',D,Ic n tb 0,n,tt,rfl,s12 _ _ hdl,s12 _ _ hd11,by have:=AS n tb 0;lia,fun g hg=>(AU hg).1,fun l2 H13 ys2 hl2 s13 h13 t2=>?_⟩;refine⟨IB,fun r2 hr2=>?_⟩;have u2:=aG.aF (o:=.tup [.str "exchange",.ref l1,.ref l2]) hr2;exact k r2 _ (s11'.trans (s12.trans (s13.trans u2))) (.inr ⟨l1,l2,ys1,ys2,tt,aC,u2 _ _ (s13 _ _ h12),u2 _ _ h13,s11'.free hl1,(s11'.trans s12).free hl2,t1.t (s13.trans u2).t,t2.t u2.t,st,EK h01 to.d0 lo.pos to.z0 to.away to.more et⟩)
def EN:Sp:=fun vs H Q _=>∃(p q:Addr) (a b d:Int),vs=[.ref p,.ref q]/\H p=some (fZ a d)/\H q=some (fZ b d)/\0<d/\Sm 3000 d/\Sm 400000 a/\Sm 400000 b/\∀r H',aG H H'->H' r=some (fZ (a-b) d)->Q (.ref r) H'
theorem Pk:aO ["one","other"] ["one","other"] (aJ Kg):=by constructor<;>first|rfl|decide +kernel
theorem Ma (t:Tx K mg "minus" Kg ["one","other"] f fd)(T:T K mg AL LN FR iF fCh fGM fCC fCA fPL SE NN NG NT NR NS NV NO NL NX TM UL)(D_fraction:Df P w K mg base (fY P w) 2 "fraction" ["top","bottom"] (uG K NN) f1 fd1):
  Df P w K mg base cA 3 "minus" ["one","other"] EN f fd:=by
 refine t.iJ Pk (fun vs H Q E h=>?_) (fun cdv A outer s H vs Q E hr h=>?_)
 ·obtain⟨p,q,a,b,d,rfl,_⟩:=h;rfl
 ·obtain⟨p,q,a,b,d,rfl,hp,hq,d0,sd,sa,sb,k⟩:=h;obtain⟨e1,y1,_,_⟩:=fH (X:=a) d0;obtain⟨e2,y2,_,_⟩:=fH (X:=b) d0;have n2:1*1<=tb a d*tb b d:=qPb y1 y2 (by decide) (by lia);have s1:=nW (X:=a) d0 sd;have s2:=nW (X:=b) d0 sd;refine⟨_,(aH (aS (cR cI D_fraction hr (by decide) (by rfl) (aA (aQ iW (aQ bS (aU bR (pv 0) aE (fun _ _=>rfl)) (aU bR (pv 1) aE (fun _ _=>rfl))) (aQ bS (aU bR (pv 1) aE (fun _ _=>rfl)) (aU bR (pv 0) aE (fun _ _=>rfl)))) (aA (aQ bS (aU bR (pv 0) aE (fun _ _=>rfl)) (aU bR (pv 1) aE (fun _ _=>rfl))) aB))))),?_⟩;refine⟨_,rfl,p,_,_,_,rfl,rfl,cX.of hp,rfl,_,rfl,q,_,_,_,rfl,rfl,cX.of hq,rfl,_,_,rfl,rfl,(p5 sa).mb s2,_,rfl,q,_,_,_,rfl,rfl,cX.of hq,rfl,_,rfl,p,_,_,_,rfl,rfl,cX.of hp,rfl,_,_,rfl,rfl,(p5 sb).mb s1,_,_,rfl,rfl,_,rfl,p,_,_,_,rfl,rfl,cX.of hp,rfl,_,rfl,q,_,_,_,rfl,rfl,cX.of hq,rfl,_,_,rfl,rfl,s1.mb s2,?_⟩;dsimp only[fP,qBn,qBp];refine pX (by show tb a d*tb b d≠0;lia) ((s1.mul s2).mono (by decide)) fun r hr=>k r _ (.aF hr) ?_;rw[aC];have e:fZ (ta a d*tb b d-ta b d*tb a d) (tb a d*tb b d)=fZ (a-b) d:=by
   refine lC (by lia) d0 ?_;have z1:(ta a d*tb b d-ta b d*tb a d)*d=(ta a d*d)*tb b d-(ta b d*d)*tb a d:=by grind
   rw[z1,e1,e2];grind
  exact congrArg some e
def EO:Sp:=fun vs H Q _=>∃(p:Addr) (n:Nat) (g:Nat->Int),vs=[.ref p]/\H p=some (.lst (a9 n g))/\n<=100/\∀D H',H D=none->aG H H'->H' D=some (.lst (a9 n fun i=>-g i))->Q (.ref D) H'
theorem Pm:aO ["column"] ["column"] (aJ Ko):=by constructor<;>first|rfl|decide +kernel
theorem Mb (t:Tx K mg "below_nought" Ko ["column"] f fd)(T:T K mg AL LN FR iF fCh fGM fCC fCA fPL SE NN NG NT NR NS NV NO NL NX TM UL):Df P w K mg base cA 1 "below_nought" ["column"] EO f fd:=by
 refine t.iJ Pm (fun vs H Q E h=>?_) (fun cdv _A outer s H vs Q E hr h=>?_)
 ·obtain⟨p,n,g,rfl,_⟩:=h;rfl
 ·obtain⟨p,n,g,rfl,hp,hn,k⟩:=h;refine⟨_,(aH (aS (bO (NB:=["number"]) (pick:=[none]) (bF (by with_unfolding_all rfl) (by exact trivial) rfl (by decide +kernel) (by decide +kernel) (by rfl) (by rfl)) rfl
     (bJ (pv 0)) (fun _ _ _=>aM (i:=0) (show(["number"]:List Str).Nodup from by decide +kernel) rfl bP)
     (fun _ _ _=>bI) (fun _ _ _=>(gM fF (pv 0)))))),?_⟩
  refine⟨_,rfl,p,rfl,⟨_,aR.of hp⟩,?_⟩;refine cB (xs:=a9 n g) (fun i _=>some (.int (-g i))) (aR.of hp) (by rw[aI];exact qAk (aK (by lia))) (fun i x H2 kk kk0 s2 hx g1 g2=>?_) fun D H2 hD s2 hd=>?_
  ·obtain⟨hi,rfl⟩:=dE hx;refine⟨_,rfl,_,rfl,?_⟩;exact g1 _ rfl _ (.refl _)
  ·refine k D H2 hD s2 ?_;rw[hd,aI,jX _ (aI _ _)];rfl
theorem Pn (x:Int):(!decide (V.int x=V.int 0))=decide (x≠0):=by
 by_cases e:x=0
 ·rw[decide_eq_true (show V.int x=V.int 0 by rw[e]),decide_eq_false (Classical.not_not.mpr e)];rfl
 ·rw[decide_eq_false (fun z=>e (V.int.inj z)),decide_eq_true e];rfl
def GR:Nat->Nat
 | 0=>0
 | k+1=>2*GR k+3
theorem qC:∀{j k:Nat},j<=k->GR j<=GR k
 | j,0,h=>by rw[Nat.le_zero.mp h];exact qAg _
 | j,k+1,h=>by
  rcases qAm k j with z | z
  ·rw[show j=k+1 by lia];exact qAg _
  ·have:=qC (j:=j) (k:=k) z;show GR j<=2*GR k+3;lia
structure Po (m:Nat) (rs:List (Nat->Int)) (H:Hp) (q:Addr) (as:List Addr):Prop where
 hq:H q=some (.lst (as.map V.ref))
 len:as.length=rs.length
 at_:∀(k:Nat) (a:Addr) (r:Nat->Int),as[k]?=some a->rs[k]?=some r->H a=some (.lst (a9 m r))
theorem Po.same {m:Nat}{rs:List (Nat->Int)}{H H':Hp}{q:Addr}{as:List Addr}(h:Po m rs H q as)(s:aG H H'):Po m rs H' q as:=⟨s _ _ h.hq,h.len,fun k a r e1 e2=>s _ _ (h.at_ k a r e1 e2)⟩
def QU (rs:List (Nat->Int)):Prop:=∀(k:Nat) (r:Nat->Int),rs[k]?=some r->∀i,Sm (2+GR k) (r i)
theorem zG (h:QU rs){g:Nat->Int}(hg:∀i,Sm 2 (g i)):∀(k:Nat),k<=rs.length->∀i,Sm (2+GR k) (Cm.dD m (rs.take k) g i)
 | 0,_,i=>hg i
 | k+1,hk,i=>by
  have e:=qAd (l:=rs) (i:=k) (by lia);have ih:=zG (m:=m) h hg k (by lia);have et:rs.take (k+1)=rs.take k++[rs[k]]:=by rw[qEr,e];rfl
  rw[et,Cm.cU];have a1:=(ih i).mul (h k _ e (Cm.iP m rs[k]));have a2:=(h k _ e i).mul (ih (Cm.iP m rs[k]));refine Sm.mono (a1.sub (a2.mono (by lia))) ?_;show _<=2+(2*GR k+3);lia
def Ig:Sp:=fun vs H Q _=>∃(p q:Addr) (m:Nat) (g:Nat->Int) (rs:List (Nat->Int)) (as:List Addr),vs=[.ref p,.ref q]/\H p=some (.lst (a9 m g))/\Po m rs H q as/\m<=6/\rs.length<=6/\(∀r,r∈rs->Cm.iP m r<m)/\(∀i,Sm 2 (g i))/\QU rs /\
 ∀D H',aG H H'->H' D=some (.lst (a9 m (Cm.dD m rs g)))->Q (.ref D) H'
theorem sT:aO ["row","rows","rest","lead","place","factor"] ["row","rows"] (aJ Kq):=by constructor<;>first|rfl|decide +kernel
theorem Mc (t:Tx K mg "rest_of" Kq ["row","rows"] f fd)(T:T K mg AL LN FR iF fCh fGM fCC fCA fPL SE NN NG NT NR NS NV NO NL NX TM UL):Df P w K mg base cA 1 "rest_of" ["row","rows"] Ig f fd:=by
 refine t.iJ sT (fun vs H Q E h=>?_) (fun cdv _A outer s H vs Q E hr h=>?_)
 ·obtain⟨p,q,m,g,rs,as,rfl,_⟩:=h;rfl
 ·obtain⟨p,q,m,g,rs,as,rfl,hp,rw_,hm,hl,hpv,sg,sr,k⟩:=h;refine⟨_,(aD (aP (i:=2) sT.nd rfl (by first|exact .inl rfl|exact .inr rfl) (pv 0))
   (aD (eL PassesOwn.never rfl (bJ (pv 1)) (aM (i:=3) sT.nd rfl (by first|exact .inl rfl|exact .inr rfl))
    (aD (aP (i:=4) sT.nd rfl (by first|exact .inl rfl|exact .inr rfl) (Jx K rfl qFq PySem.F.slot_list_index PySem.F.type_list_index (BI K rfl) (bO (NB:=["number"]) (pick:=[none]) (bF (by with_unfolding_all rfl) (by exact trivial) rfl (by decide +kernel) (by decide +kernel) (by rfl) (by rfl)) rfl
     (bJ (pv 3)) (fun _ _ _=>aM (i:=0) (show(["number"]:List Str).Nodup from by decide +kernel) rfl bP)
     (fun _ _ _=>bI) (fun _ _ _=>(dR g9 (pv 0) aE (aX _)))) (aA iG aB)))
    (aD (aP (i:=5) sT.nd rfl (by first|exact .inl rfl|exact .inr rfl) (aU bC (pv 2) (pv 4) (fun _ _=>rfl)))
    (aH (cZ (NB:=["number","other","factor","lead","place"]) (pick:=[none,none,some 5,some 3,some 4]) (i:=2) sT.nd rfl (by first|exact .inl rfl|exact .inr rfl) (by rfl) (bF (by with_unfolding_all rfl) (by exact(And.intro rfl (And.intro rfl (And.intro rfl trivial)))) rfl (by decide +kernel) (by decide +kernel) (by rfl) (by rfl)) rfl
     (gU (by rfl) T.g4 (aA (pv 2) (aA (pv 3) aB))) (fun _ _ _=>(show PG _ _ (oZ K 2 (eM (aZ 0) (eM (aZ 1) oY))) from fE rfl (bG (aM (i:=0) (show(["number","other","factor","lead","place"]:List Str).Nodup from by decide +kernel) rfl bP) (bG (aM (i:=1) (show(["number","other","factor","lead","place"]:List Str).Nodup from by decide +kernel) rfl bP) dH))))
     (fun _ _ _=>bI) (fun _ _ _=>(aQ iW (aQ bS (pv 0) (aU (bV K) (pv 3) (pv 4) (fun _ _=>rfl))) (aQ bS (pv 1) (pv 2)))))))))
   (aH (aS (pv 2))))),?_⟩
  refine⟨_,rfl,_,rfl,q,rfl,⟨_,aR.of rw_.hq⟩,?_⟩;refine fV (xs:=as.map V.ref) (fun j σ' H'=>aG H H'/\∃(r:Addr) (o3 o4 o5:Option V),H' r=some (.lst (a9 m (Cm.dD m (rs.take j) g)))/\σ'=[some (.ref p),some (.ref q),some (.ref r),o3,o4,o5]) ⟨.refl _,p,_,_,_,hp,rfl⟩ ?_ ?_ ?_
  ·rintro j σ' H' _ ⟨s2,_⟩;exact aR.of (s2 _ _ rw_.hq)
  ·rintro j x σ' H2 hx ⟨s2,r,o3,o4,o5,hr2,rfl⟩;obtain⟨a,ha,rfl⟩:=dP hx;have hj:j<rs.length:=by
    rw[<- rw_.len];exact(List.getElem?_eq_some_iff.mp ha).1
   have er:=qAd hj;have hla:=s2 _ _ (rw_.at_ j a _ ha er);have hpj:=hpv _ (qBa er);generalize rs[j]=lead at er hla hpj;have s1:=zG (m:=m) sr sg j (by lia);have sl:=sr j _ er;have hb:GR j<=200:=qDa (qC (j:=j) (k:=6) (by lia)) (by decide);have s1':∀i,Sm 202 (Cm.dD m (rs.take j) g i):=fun i=>(s1 i).mono (by lia);have sl':∀i,Sm 202 (lead i):=fun i=>(sl i).mono (by lia);refine⟨_,rfl,a,rfl,⟨_,aR.of hla⟩,?_⟩;refine cB (xs:=a9 m lead) (fun i _=>some (.bl (decide (lead i≠0)))) (aR.of hla) (by rw[aI];exact qAk (aK (by lia))) (fun i x H3 kk kk0 s3 hx g1 g2=>?_) fun D H3 hD s3 hd=>?_
   ·obtain⟨hi,rfl⟩:=dE hx;refine⟨_,rfl,rfl,?_⟩;exact g1 _ (by rw[Pn]) _ (.refl _)
   ·rw[aI,jX _ (aI _ _)] at hd;refine⟨.inl ⟨rfl,_,aR.of hd⟩,D,(qAn m).map fun i=>decide (lead i≠0),Cm.iP m lead,rfl,rfl,?_,?_,fun i hi=>?_,?_⟩
    ·rw[qCz];exact aR.of hd
    ·rw[qAo,qCj hpj];exact congrArg some (decide_eq_true (Cm.nE hpj))
    ·rw[qAo,qCj (by lia)];exact congrArg some (decide_eq_false (Classical.not_not.mpr (Cm.iM hi (by lia))))
    dsimp only[aZ];have hr3:=s3 _ _ hr2;have hl3:=s3 _ _ hla;refine⟨_,rfl,_,rfl,r,_,_,_,rfl,rfl,aR.of hr3,bT hpj,?_⟩;dsimp only[aZ];refine⟨_,rfl,_,rfl,r,a,rfl,⟨_,aR.of hr3⟩,⟨_,aR.of hl3⟩,?_⟩;refine j7 (xs:=a9 m (Cm.dD m (rs.take j) g)) (ys:=a9 m lead) (fun σ'=>∃o0 o1:Option V,σ'=[o0,o1,some (.int (Cm.dD m (rs.take j) g (Cm.iP m lead))),some (.ref a),some (.int (Cm.iP m lead:Nat))]) (fun i _ _=>some (.int (Cm.jS m lead (Cm.dD m (rs.take j) g) i))) ⟨_,_,rfl⟩ (aR.of hr3) (aR.of hl3) (by rw[aI,aI]) (by rw[aI];exact qAk (aK (by lia))) (fun i x y tt σ1 H4 kk kk0 hσ s4 hx hy ht h1 h2=>?_) fun D2 H4 hD2 s4 hd4=>?_
    ·obtain⟨o0,o1,rfl⟩:=hσ;obtain⟨hi,rfl⟩:=dE hx;obtain⟨_,rfl⟩:=dE hy;refine⟨tt,_,rfl,cX.of ht,rfl,_,_,rfl,_,_,rfl,rfl,?_⟩;refine⟨_,rfl,_,rfl,_,rfl,a,_,_,_,rfl,rfl,aR.of (s4 _ _ hl3),bT hpj,_,_,rfl,rfl,(s1' i).mb (sl' _),_,rfl,_,rfl,_,_,rfl,rfl,(sl' i).mb (s1' _),_,_,rfl,rfl,?_⟩;exact h1 _ _ ⟨_,_,rfl⟩ rfl _ (.refl _)
    ·refine⟨s2.trans (s3.trans s4),D2,_,_,_,?_,rfl⟩;have et:rs.take (j+1)=rs.take j++[lead]:=by rw[qEr,er];rfl
     rw[hd4,aI,uH _ (aI _ _) (aI _ _),et,Cm.cU];rfl
  ·rintro σ' H2 ⟨s2,r,o3,o4,o5,hr2,rfl⟩;refine⟨_,rfl,k r H2 s2 ?_⟩;rw[hr2,qAc,rw_.len,qEh]
theorem fC {l:List Nat}{i:Nat}{x:V}(h:(bE l)[i]?=some x):∃g,l[i]?=some g/\x = .int (g:Int):=by
 unfold bE at h;rw[qAo] at h;cases e:l[i]? with
 | none=>rw[e] at h;cases h
 | some g=>rw[e] at h;exact⟨g,rfl,(Option.some.inj h).symm⟩
theorem ER (h:∀v,v∈vs->∀i,Sm 2 (v i)):QU (Cm.iD m vs):=by
 induction vs using Cm.snocInd with
 | nil=>intro k r e;cases e
 | append_singleton vs v ih =>
  have i1:=ih fun u hu=>h u (qCc _ hu);intro k r e i;rw[Cm.dZ] at e;rcases qAm k (Cm.iD m vs).length with z | z
  ·rw[qBd z] at e;exact i1 k r e i
  ·rw[qBb z] at e;have hk:k-(Cm.iD m vs).length=0:=by
    have:=(List.getElem?_eq_some_iff.mp e).1;rw[qBk] at this;lia
   rw[hk] at e;obtain rfl:=Option.some.inj e;have q:=zG (m:=m) i1 (h v (qAv _ (List.mem_singleton.mpr rfl))) (Cm.iD m vs).length (qAg _) i;rw[qEh] at q;exact q.mono (by have:=qC (j:=(Cm.iD m vs).length) (k:=k) z;lia)
theorem qD {m:Nat}{r:Nat->Int}{as:List Addr}(h:0<m):a9 m r≠as.map V.ref:=fun e=>by
 have h0:=c8 (f:=r) h;rw[e,qAo] at h0;cases ha:as[0]? with
 | none=>rw[ha] at h0;cases h0
 | some a=>rw[ha] at h0;cases h0
def fX (ks:List Nat):List (Nat->Int):=ks.map bt
def hZ (m:Nat)(ks:List Nat)(g:Nat):Bool:=decide (a9 m (Cm.dD m (Cm.iD m (fX ks)) (bt g))=a9 m fun _=>0)
theorem gK:hZ m ks g=true↔Cm.Told m (fX ks) (bt g):=by
 unfold hZ;rw[decide_eq_true_iff];constructor
 ·intro e i hi;have h0:=c8 (f:=Cm.dD m (Cm.iD m (fX ks)) (bt g)) hi;rw[e,c8 hi] at h0;exact(V.int.inj (Option.some.inj h0)).symm
 ·intro h;exact dJ fun j hj=>h j hj
theorem Ih:∀v,v∈fX ks->∀i,Sm 2 (v i):=fun v hv i=>by
 obtain⟨g,_,rfl⟩:=List.mem_map.mp hv;exact p9 g i
theorem ES (h:Cm.iN m (fX ks)):∀j,Cm.iN m (fX (ks.take j)):=by
 induction ks using Cm.snocInd with
 | nil=>intro j;rw[List.take_nil];exact h
 | append_singleton ks k ih =>
  intro j;have e:fX (ks++[k])=fX ks++[bt k]:=by unfold fX;rw[qAu];rfl
  rcases qAm ks.length j with z | z
  ·rw[qEt (by rw[qAp,qBk];lia)];exact h
  ·rw[List.take_append_of_le_length z];rw[e] at h;exact ih h.kC.1 j
theorem Me (m:Nat):(qBc m [V.int 0]).flatten=a9 m fun _=>0:=by
 induction m with
 | zero=>rfl
 | succ m ih =>
  unfold a9 at ih|-;rw[List.replicate_succ',List.flatten_append,ih,qBt,qAu];rfl
theorem Mf:decide ((qAn m).map u=(qAn m).map v)=decide (a9 m u=a9 m v):=by
 rw[kD,kD];refine decide_eq_decide.mpr ⟨fun e=>by rw[e],fun e=>?_⟩;exact(List.map_inj_right fun a b h=>V.int.inj h).mp e
theorem xH {α β:Type}(F:α->Option β)(l:List α):((qAn l.length).filterMap fun i=>(l[i]?).bind F)=l.filterMap F:=by
 induction l using Cm.snocInd with
 | nil=>rfl
 | append_singleton l x ih =>
  rw[qAp,qBk,qBt,qCm,qCm,<- ih];congr 1
  ·refine eB fun i hi=>?_;rw[qBd (List.mem_range.mp hi)]
  ·rw[qCo,qCo,qBb (qAg _),qMk];rfl
theorem Ci (gs:List Nat)(b:Nat->Bool):(gs.filterMap fun g=>if b g=true then none else some (V.int (g:Int)))=bE (gs.filter fun g=>!b g):=by
 unfold bE;induction gs with
 | nil=>rfl
 | cons g gs ih =>
  rw[qCo,qDi];cases b g with
  | true=>simpa using ih
  | false=>simpa using ih
theorem Mg (gs:List Nat)(b:Nat->Bool):((qAn (bE gs).length).filterMap fun i=>((bE gs)[i]?).bind fun _=>(gs[i]?).bind fun g=>if b g=true then none else some (V.int (g:Int)))=bE (gs.filter fun g=>!b g):=by
 have e:(bE gs).length=gs.length:=by unfold bE;rw[qAc]
 rw[e];have e2:((qAn gs.length).filterMap fun i=>((bE gs)[i]?).bind fun _=>(gs[i]?).bind fun g=>if b g=true then none else some (V.int (g:Int)))=(qAn gs.length).filterMap fun i=>(gs[i]?).bind fun g=>if b g=true then none else some (V.int (g:Int)):=by
  refine eB fun i hi=>?_;have hi:=List.mem_range.mp hi;unfold bE;rw[qAo,qAd hi];rfl
 rw[e2,xH,Ci]
def ET:Sp:=fun vs H Q _=>∃(p q:Addr) (m:Nat) (gs ks:List Nat),vs=[.ref p,.ref q,.int (m:Int)]/\H p=some (.lst (bE gs))/\H q=some (.lst (bE ks))/\0<m/\m<=6/\gs.length<=64/\(∀g,g∈gs->g<64)/\(∀k,k∈ks->k<64)/\Cm.iN m (fX ks) /\
 ∀D H',H D=none->aG H H'->H' D=some (.lst (bE (gs.filter fun g=>!hZ m ks g)))->Q (.ref D) H'
theorem AV:aO ["groups","kept","many","rows","group","nothing"] ["groups","kept","many"] (aJ Kr):=by constructor<;>first|rfl|decide +kernel
theorem Mh {f1 f2:Addr}{fd1 fd2:qCl}(t:Tx K mg "untold" Kr ["groups","kept","many"] f fd)(T:T K mg AL LN FR iF fCh fGM fCC fCA fPL SE NN NG NT NR NS NV NO NL NX TM UL)(D_marks_of:Df P w K mg base cA 1 "marks_of" ["group","many"] qA f1 fd1)(D_rest_of:Df P w K mg base cA 1 "rest_of" ["row","rows"] Ig f2 fd2):
  Df P w K mg base cA 2 "untold" ["groups","kept","many"] ET f fd:=by
 refine t.iJ AV (fun vs H Q E h=>?_) (fun cdv _A outer s H vs Q E hr h=>?_)
 ·obtain⟨p,q,m,gs,ks,rfl,_⟩:=h;rfl
 ·obtain⟨p,q,m,gs,ks,rfl,hp,hq,m0,m6,gl,g64,Fy,ind,k⟩:=h;refine⟨_,(aD (aP (i:=3) AV.nd rfl (by first|exact .inl rfl|exact .inr rfl) (bL aB))
   (aD (eL PassesOwn.never rfl (bJ (pv 1)) (aM (i:=4) AV.nd rfl (by first|exact .inl rfl|exact .inr rfl))
    (aH (eX (vD qFq qHd qHc k7 (pv 3) (aA (aV D_rest_of hr (by decide) (by rfl) (aA (aV D_marks_of hr (by decide) (by rfl) (aA (pv 4) (aA (pv 2) aB))) (aA (pv 3) aB))) aB)))))
   (aD (aP (i:=5) AV.nd rfl (by first|exact .inl rfl|exact .inr rfl) (aQ fL (bL (aA aE aB)) (pv 2)))
   (aH (aS (bO (NB:=["group","many","nothing","rows"]) (pick:=[none,some 2,some 5,some 3]) (bF (by with_unfolding_all rfl) (by exact(And.intro rfl (And.intro rfl (And.intro rfl trivial)))) rfl (by decide +kernel) (by decide +kernel) (by rfl) (by rfl)) rfl
     (bJ (pv 0)) (fun _ _ _=>aM (i:=0) (show(["group","many","nothing","rows"]:List Str).Nodup from by decide +kernel) rfl bP)
     (fun _ _ _=>eZ (aW (Gk K hr.units) (aV D_rest_of hr (by decide) (by rfl) (aA (aV D_marks_of hr (by decide) (by rfl) (aA (pv 0) (aA (pv 1) aB))) (aA (pv 3) aB))) (pv 2) (aX _))) (fun _ _ _=>(pv 0)))))))),?_⟩
  have kl:=ind.len;unfold fX at kl;rw[qAc] at kl;refine⟨by simp[qCi],fun lr hlr=>?_⟩;dsimp only[aZ];have u0:aG H (upd H lr (.lst [])):=.aF hlr;refine⟨_,rfl,q,rfl,⟨_,aR.of (u0 _ _ hq)⟩,?_⟩;refine fV (xs:=bE ks) (fun j σ' H'=>aG H H'/\∃(as:List Addr) (o4 o5:Option V),Po m (Cm.iD m (fX (ks.take j))) H' lr as/\σ'=[some (.ref p),some (.ref q),some (.int (m:Int)),some (.ref lr),o4,o5]) ⟨u0,[],_,_,⟨aC,rfl,fun k a r e=>by cases e⟩,rfl⟩ ?_ ?_ ?_
  ·rintro j σ' H' _ ⟨s2,_⟩;exact aR.of (s2 _ _ hq)
  ·rintro j x σ' H2 hx ⟨s2,as,o4,o5,rl,rfl⟩;obtain⟨g,hg,rfl⟩:=fC hx;have hgm:g∈ks:=qBa hg;have hj:j<ks.length:=(List.getElem?_eq_some_iff.mp hg).1;have et:ks.take (j+1)=ks.take j++[g]:=by rw[qEr,hg];rfl
   have ev:fX (ks.take (j+1))=fX (ks.take j)++[bt g]:=by rw[et];unfold fX;rw[qAu];rfl
   have elen:(Cm.iD m (fX (ks.take j))).length=j:=by
    rw[Cm.lX];unfold fX;rw[qAc,qDz];lia
   have hind:Cm.iN m (fX (ks.take j)):=ES ind j;have hsm:∀v,v∈fX (ks.take j)->∀i,Sm 2 (v i):=Ih;dsimp only[aZ];refine⟨_,rfl,.inl ⟨rfl,_,aR.of rl.hq⟩,_,rfl,_,rfl,g,m,rfl,Fy g hgm,m6,fun D H3 hD s3 hd=>?_⟩;have rl3:=rl.same s3;refine⟨_,rfl,D,lr,m,bt g,_,as,rfl,hd,rl3,m6,by lia,hind,p9 g,ER hsm,fun D2 H4 s4 h4=>?_⟩;have rl4:=rl3.same s4;have hlen:=rl4.len;refine⟨lr,_,_,rfl,rfl,rl4.hq,by rw[qAc];exact qBh (show as.length<=6 by lia) (by rw[qCi];decide),?_⟩;refine⟨(s2.trans (s3.trans s4)).upd_ne' hlr,as++[D2],_,_,⟨?_,?_,fun k' a' r' e1 e2=>?_⟩,rfl⟩
   ·rw[aC,qAu];rfl
   ·rw[ev,Cm.dZ,qAp,qAp,hlen];rfl
   ·have hne:∀(b:Addr) (r:Nat->Int),H4 b=some (.lst (a9 m r))->b≠lr:=fun b r e z=>by
     rw[z,rl4.hq] at e;exact qD m0 (HO.lst.inj (Option.some.inj e)).symm
    rw[ev,Cm.dZ] at e2;rcases qAm k' as.length with z | z
    ·rw[qBd z] at e1;rw[qBd (by lia)] at e2;have q:=rl4.at_ k' a' r' e1 e2;rw[aL (hne _ _ q)];exact q
    ·rw[qBb z] at e1;rw[qBb (by lia)] at e2;have hk:k'-as.length=0:=by
      have:=(List.getElem?_eq_some_iff.mp e1).1;rw[qBk] at this;lia
     rw[hk] at e1;rw[<- hlen,hk] at e2;obtain rfl:=Option.some.inj e1;obtain rfl:=Option.some.inj e2;rw[aL (hne _ _ h4)];exact h4
  ·rintro σ' H2 ⟨s2,as,o4,o5,rl,rfl⟩;refine⟨by simp[qCi],fun l0 h0=>?_⟩;have h2t:((m:Int)).toNat=m:=qBl m;refine⟨_,rfl,l0,_,_,rfl,rfl,aC,by lia,by lia,by rw[h2t,qCi];simp;lia,fun ln hln=>?_⟩;dsimp only[aZ];have s3:aG H2 (upd (upd H2 l0 (.lst [V.int 0])) ln (.lst (qBc ((m:Int)).toNat [V.int 0]).flatten)):=(aG.aF h0).trans (.aF hln);have hz:upd (upd H2 l0 (.lst [V.int 0])) ln (.lst (qBc ((m:Int)).toNat [V.int 0]).flatten) ln=some (.lst (a9 m fun _=>0)):=by
    rw[aC,h2t,Me]
   generalize upd (upd H2 l0 (.lst [V.int 0])) ln (.lst (qBc ((m:Int)).toNat [V.int 0]).flatten)=H3 at s3 hz|-;have rl3:=rl.same s3;rw[show(bE ks).length=ks.length by unfold bE;rw[qAc],qEh] at rl3;have elen:(Cm.iD m (fX ks)).length=ks.length:=by rw[Cm.lX];unfold fX;rw[qAc]
   refine⟨_,rfl,p,rfl,⟨_,aR.of (s3 _ _ (s2 _ _ hp))⟩,?_⟩;refine cB (xs:=bE gs) (fun i _=>(gs[i]?).bind fun g=>if hZ m ks g=true then none else some (.int (g:Int))) (aR.of (s3 _ _ (s2 _ _ hp))) (by unfold bE;rw[qAc];exact qAk (aK (by lia))) (fun i x H4 kk kk0 s4 hx g1 g2=>?_) fun D H4 hD s4 hd=>?_
   ·obtain⟨g,hg,rfl⟩:=fC hx;rw[hg] at g1 g2;refine⟨_,rfl,_,rfl,g,m,rfl,g64 g (qBa hg),m6,fun D5 H5 hD5 s5 hd5=>?_⟩;refine⟨_,rfl,D5,lr,m,bt g,_,as,rfl,hd5,(rl3.same s4).same s5,m6,by lia,ind,p9 g,ER Ih,fun D6 H6 s6 h6=>?_⟩;rw[kD] at h6;have hz6:=s6 _ _ (s5 _ _ (s4 _ _ hz));rw[kD] at hz6;refine⟨_,rfl,D6,ln,_,_,rfl,rfl,aR.of h6,aR.of hz6,_,rfl,?_⟩;have hb:(!decide ((qAn m).map (Cm.dD m (Cm.iD m (fX ks)) (bt g))=(qAn m).map fun _=>(0:Int))) = !hZ m ks g:=by
     rw[Mf];rfl
    dsimp only;rw[hb];cases ht:hZ m ks g with
    | true =>
     rw[if_neg (by simp)];exact g2 (by simp[ht]) _ (s5.trans s6)
    | false =>
     rw[if_pos (by simp)];exact⟨_,rfl,g1 _ (by simp[ht]) _ (s5.trans s6)⟩
   ·have hD0:H D=none:=by
     cases e:H D with
     | none=>rfl
     | some o=>rw[(s2.trans s3) _ _ e] at hD;cases hD
    refine k D H4 hD0 (s2.trans (s3.trans s4)) ?_;rw[hd,Mg]
def qE (m:Nat)(gs:List Nat):List Nat:=gs.foldl (fun acc g=>acc++[g].filter fun g=>!hZ m acc g) []
theorem j3 (m:Nat)(gs:List Nat)(g:Nat):qE m (gs++[g])=qE m gs++[g].filter fun g'=>!hZ m (qE m gs) g':=by
 unfold qE;rw[qHp];rfl
theorem qF (g:Nat)(b:Nat->Bool):[g].filter b=if b g=true then [g] else []:=by
 rw[qDi];rfl
theorem kF (m:Nat)(gs:List Nat):Cm.iN m (fX (qE m gs)):=by
 induction gs using Cm.snocInd with
 | nil=>intro r hr;cases hr
 | append_singleton gs g ih =>
  rw[j3,qF];cases ht:hZ m (qE m gs) g with
  | true=>simpa using ih
  | false =>
   have e:fX (qE m gs++if (!false)=true then [g] else [])=fX (qE m gs)++[bt g]:=by unfold fX;rw[qAu];rfl
   rw[e];exact ih.snoc (Cm.r6 fun z=>by rw[gK.mpr z] at ht;cases ht)
theorem GS:∀g,g∈qE m gs->g∈gs:=by
 induction gs using Cm.snocInd with
 | nil=>intro g hg;cases hg
 | append_singleton gs g ih =>
  intro g' hg';rw[j3] at hg';rcases List.mem_append.mp hg' with z | z
  ·exact qCc _ (ih _ z)
  ·exact qAv _ (List.mem_filter.mp z).1
theorem EU:∀g,g∈gs->Cm.Told m (fX (qE m gs)) (bt g):=by
 induction gs using Cm.snocInd with
 | nil=>intro g hg;cases hg
 | append_singleton gs g ih =>
  intro g' hg';have hind:=kF m (gs++[g]);rw[j3,qF] at hind|-;cases ht:hZ m (qE m gs) g with
  | true =>
   rw[ht] at hind;simp only[qLn,qEo,if_false,qDo] at hind|-;rcases List.mem_append.mp hg' with z | z
   ·exact ih _ z
   ·rw[List.mem_singleton.mp z];exact gK.mp ht
  | false =>
   rw[ht] at hind;have e:fX (qE m gs++if (!false)=true then [g] else [])=fX (qE m gs)++[bt g]:=by unfold fX;rw[qAu];rfl
   rw[e] at hind|-;rcases List.mem_append.mp hg' with z | z
   ·exact(ih _ z).snoc
   ·rw[List.mem_singleton.mp z];exact Cm.Told.self hind (qAv _ (List.mem_singleton.mpr rfl))
def Ii:Sp:=fun vs H Q _=>∃(p:Addr) (m:Nat) (gs:List Nat),vs=[.ref p,.int (m:Int)]/\H p=some (.lst (bE gs))/\0<m/\m<=6/\gs.length<=64/\(∀g,g∈gs->g<64) /\
 ∀D H',H D=none->aG H H'->H' D=some (.lst (bE (qE m gs)))->Q (.ref D) H'
theorem AW:aO ["groups","many","found","group"] ["groups","many"] (aJ Ks):=by constructor<;>first|rfl|decide +kernel
theorem EV (a b:List Nat):bE (a++b)=bE a++bE b:=by unfold bE;rw[qAu]
theorem bH (a:List Nat):(bE a).length=a.length:=by unfold bE;rw[qAc]
theorem Mi {f1:Addr}{fd1:qCl}(t:Tx K mg "sifted" Ks ["groups","many"] f fd)(T:T K mg AL LN FR iF fCh fGM fCC fCA fPL SE NN NG NT NR NS NV NO NL NX TM UL)(D_untold:Df P w K mg base cA 2 "untold" ["groups","kept","many"] ET f1 fd1):
  Df P w K mg base cA 3 "sifted" ["groups","many"] Ii f fd:=by
 refine t.iJ AW (fun vs H Q E h=>?_) (fun cdv _A outer s H vs Q E hr h=>?_)
 ·obtain⟨p,m,gs,rfl,_⟩:=h;rfl
 ·obtain⟨p,m,gs,rfl,hp,m0,m6,gl,g64,k⟩:=h;refine⟨_,(aD (aP (i:=2) AW.nd rfl bP (bL aB))
   (aD (eL PassesOwn.never rfl (bJ (pv 0)) (aM (i:=3) AW.nd rfl bP)
    (aH (tI (i:=2) AW.nd rfl bP (aV D_untold hr (by decide) (by rfl) (aA (bL (aA (pv 3) aB)) (aA (pv 2) (aA (pv 1) aB)))) oN)))
   (aH (aS (pv 2))))),?_⟩
  refine⟨by simp[qCi],fun lf hlf=>?_⟩;dsimp only[aZ];have u0:aG H (upd H lf (.lst [])):=.aF hlf;refine⟨_,rfl,p,rfl,⟨_,aR.of (u0 _ _ hp)⟩,?_⟩;refine fV (xs:=bE gs) (fun j σ' H'=>aG H H'/\∃(o3:Option V),H' lf=some (.lst (bE (qE m (gs.take j))))/\σ'=[some (.ref p),some (.int (m:Int)),some (.ref lf),o3]) ⟨u0,_,aC,rfl⟩ ?_ ?_ ?_
  ·rintro j σ' H' _ ⟨s2,_⟩;exact aR.of (s2 _ _ hp)
  ·rintro j x σ' H2 hx ⟨s2,o3,hf,rfl⟩;obtain⟨g,hg,rfl⟩:=fC hx;have et:gs.take (j+1)=gs.take j++[g]:=by rw[qEr,hg];rfl
   have hm64:∀k',k'∈qE m (gs.take j)->k'<64:=fun k' hk'=>g64 k' (qIr (GS k' hk'));have hkl:=(kF m (gs.take j)).len;unfold fX at hkl;rw[qAc] at hkl;dsimp only[aZ];refine⟨_,rfl,_,rfl,by simp[qCi],fun l1 h1=>?_⟩;have s3:aG H2 (upd H2 l1 (.lst [V.int (g:Int)])):=.aF h1;have hl1:upd H2 l1 (.lst [V.int (g:Int)]) l1=some (.lst (bE [g])):=aC;generalize upd H2 l1 (.lst [V.int (g:Int)])=H3 at s3 hl1|-;refine⟨_,rfl,_,rfl,l1,lf,m,[g],qE m (gs.take j),rfl,hl1,s3 _ _ hf,m0,m6,by simp,fun g' hg'=>?_,hm64,kF m _,fun D H4 hD s4 hd=>?_⟩
   ·rw[List.mem_singleton.mp hg'];exact g64 g (qBa hg)
   have hf4:=s4 _ _ (s3 _ _ hf);have hfl:([g].filter fun g'=>!hZ m (qE m (gs.take j)) g').length<=1:=qEz _ _;refine⟨lf,D,_,_,rfl,rfl,hf4,hd,by rw[bH,bH,qCi];lia,?_⟩;refine⟨(s2.trans (s3.trans s4)).upd_ne' hlf,_,?_,rfl⟩;rw[aC,et,j3,EV]
  ·rintro σ' H2 ⟨s2,o3,hf,rfl⟩;rw[bH,qEh] at hf;exact⟨_,rfl,k lf H2 hlf s2 hf⟩
def gN (gs:List Nat)(j:Nat):Nat:=gs.getD j 0
theorem iO {gs:List Nat}{j g:Nat}(h:gs[j]?=some g):gN gs j=g:=by unfold gN;rw[qAq,h];rfl
def mI (gs:List Nat)(i:Nat):Int:=Wg.sm gs.length fun j=>bt (gN gs j) i
def wA (gs:List Nat)(j i:Nat):Int:=match j with
 | 0=>mI gs i
 | j+1=>bt (gN gs j) i
def Rr (m:Nat)(gs:List Nat):Prop:=∀y:Nat->Int,(∀g,g∈gs->0<=Wg.sm m fun i=>bt g i*y i)->Wg.sm m y<=0->Wg.sm m y=0/\∀g,g∈gs->(Wg.sm m fun i=>bt g i*y i)=0
def Na (gs:List Nat)(X:Nat->Int)(k:Nat):List (Int×Int):=(qAn k).map fun(j:Nat)=>((gN gs j:Int),X 0+X (j+1))
theorem GU (F:Nat->Int):((qAn n).map F).sum=Wg.sm n F:=by
 induction n with
 | zero=>rfl
 | succ n ih=>rw[qBt,qAu,qIf,ih];show _+(F n+0)=_+F n;lia
theorem EW (gs:List Nat)(i:Nat):0<=mI gs i/\mI gs i<=gs.length:=by
 unfold mI;have h:∀n,0<=(Wg.sm n fun j=>bt (gN gs j) i)/\(Wg.sm n fun j=>bt (gN gs j) i)<=n:=by
  intro n;induction n with
  | zero=>exact⟨qDq _,qDq _⟩
  | succ n ih =>
   have e:(Wg.sm (n+1) fun j=>bt (gN gs j) i)=(Wg.sm n fun j=>bt (gN gs j) i)+bt (gN gs n) i:=rfl;rw[e];rcases p8 (gN gs n) i with z | z <;> rw[z] <;> lia
 exact h _
theorem EX (gl:gs.length<=64)(j i:Nat):(wA gs j i).natAbs<=64:=by
 cases j with
 | zero =>
  have:=EW gs i;show(mI gs i).natAbs<=64;lia
 | succ j=>exact qDa (nG _ _) (by decide)
theorem GV (m0:0<m)(m6:m<=6)(gl:gs.length<=64):Inst m (gs.length+1) (wA gs) (fun _=>1):=⟨m0,by lia,by lia,fun j i=>qBh (EX gl j i) (by decide),fun _=>Sm.of 2 (by decide) (by decide)⟩
theorem Mj (n:Nat):([V.int 1]++a9 n fun _=>0)=a9 (n+1) fun j=>if j=0 then 1 else 0:=by
 have h:=kE 1 n (fun _=>1) (fun _=>0);have e:a9 1 (fun _=>1)=[V.int 1]:=rfl;rw[e] at h;rw[h,qJw];refine dJ fun j _=>?_;by_cases z:j=0
 ·rw[if_pos z,if_pos (by lia)]
 ·rw[if_neg z,if_neg (by lia)]
theorem Pq:∀m:_root_.Fin 8,Wg.qO m.1*64^m.1<2^3000:=by decide +kernel
theorem zH (m7:m<=7)(dm:pV m A due d)(hA:∀j i,(A j i).natAbs<=64)(hd:∀i,(due i).natAbs<=64):Sm 3000 d :=
 qBh (dm 64 (by decide) hA hd) (Pq ⟨m,by lia⟩)
theorem GW (gs:List Nat)(Y:Nat->Int):(Wg.sm m fun i=>mI gs i*Y i)=Wg.sm gs.length fun j=>Wg.sm m fun i=>bt (gN gs j) i*Y i:=by
 rw[Wg.lV];refine Wg.aY fun i _=>?_;unfold mI;rw[qEa,<- Wg.bK];exact Wg.aY fun j _=>qEa _ _
theorem Pt (gs:List Nat)(j i:Nat):0<=wA gs j i:=by
 cases j with
 | zero=>exact(EW gs i).1
 | succ j=>show 0<=bt _ _;rcases p8 (gN gs j) i with e | e <;> rw[e] <;> decide
theorem Ij {f:Nat->Int}:∀{n k:Nat},(∀j,j<n->0<=f j)->k<n->f k<=Wg.sm n f
 | 0,k,_,h=>absurd h (qFy _)
 | n+1,k,h,hk=>by
  show f k<=Wg.sm n f+f n;rcases qAm k n with z | z
  ·have:=Ij (n:=n) (k:=k) (fun j hj=>h j (by lia)) z;have:=h n (by lia);lia
  ·have e:k=n:=by lia
   subst e;have:=pQ (n:=k) (f:=f) fun j hj=>h j (by lia);lia
theorem xI (f:Nat->Int):∀n,Wg.sm (n+1) f=f 0+Wg.sm n fun j=>f (j+1)
 | 0=>by show 0+f 0=f 0+0;lia
 | n+1=>by
  show Wg.sm (n+1) f+f (n+1)=f 0+(Wg.sm n (fun j=>f (j+1))+f (n+1));rw[xI f n];lia
theorem EY (gs:List Nat)(X:Nat->Int)(k:Nat):Na gs X (k+1)=Na gs X k++[((gN gs k:Int),X 0+X (k+1))]:=by
 unfold Na;rw[qBt,qAu];rfl
def Ik:Sp:=fun vs H Q _=>∃(p:Addr) (m:Nat) (gs:List Nat),vs=[.ref p,.int (m:Int)]/\H p=some (.lst (bE gs))/\0<m/\m<=6/\gs.length<=64/\0<gs.length/\(∀g,g∈gs->1<=g/\g<2^m)/\Rr m gs /\
 ∀D H' ys (d:Int) (X:Nat->Int),H D=none->aG H H'->H' D=some (.lst ys)->fS H' d ys (Na gs X gs.length)->0<d->Sm 6000 d->(∀j,Sm 300000 (X j))->0<X 0->(∀j,0<=X j)->(∀i,i<m->(Wg.sm gs.length fun j=>bt (gN gs j) i*(X 0+X (j+1)))=d)->Q (.ref D) H'
theorem xJ:aO ["groups","many","marks","together","told","least"] ["groups","many"] (aJ Kv):=by constructor<;>first|rfl|decide +kernel
theorem Ml {f1 f2 f3:Addr}{fd1 fd2 fd3:qCl}(t:Tx K mg "weighing_of" Kv ["groups","many"] f fd)(T:T K mg AL LN FR iF fCh fGM fCC fCA fPL SE NN NG NT NR NS NV NO NL NX TM UL)(D_marks_of:Df P w K mg base cA 1 "marks_of" ["group","many"] qA f1 fd1)(D_weigh:Df P w K mg base (fY P w) 5 "weigh" ["columns","due","gains"] (pZ K NR) f2 fd2)(D_plus:Df P w K mg base cA 3 "plus" ["one","other"] ED f3 fd3):
  Df P w K mg base cA 6 "weighing_of" ["groups","many"] Ik f fd:=by
 refine t.iJ xJ (fun vs H Q E h=>?_) (fun cdv _A outer s H vs Q E hr h=>?_)
 ·obtain⟨p,m,gs,rfl,_⟩:=h;rfl
 ·obtain⟨p,m,gs,rfl,hp,m0,m6,gl,gp,g64,bal,k⟩:=h;refine⟨_,(aD (aP (i:=2) xJ.nd rfl (by first|exact .inl rfl|exact .inr rfl) (bO (NB:=["group","many"]) (pick:=[none,some 1]) (bF (by with_unfolding_all rfl) (by exact(And.intro rfl trivial)) rfl (by decide +kernel) (by decide +kernel) (by rfl) (by rfl)) rfl
     (bJ (pv 0)) (fun _ _ _=>aM (i:=0) (show(["group","many"]:List Str).Nodup from by decide +kernel) rfl bP)
     (fun _ _ _=>bI) (fun _ _ _=>(aV D_marks_of hr (by decide) (by rfl) (aA (pv 0) (aA (pv 1) aB))))))
   (aD (Dq (y0:="hand") (NB:=["hand","marks"]) (pick:=[none,some 2]) (i:=3) xJ.nd rfl bP (by rfl) (Gg (by with_unfolding_all rfl) (by exact(And.intro rfl trivial)) rfl (fun _=>rfl) (fun _=>rfl) (by decide +kernel) (fun _=>rfl) (by rfl) (by rfl)) rfl
     (c9 (by rfl) T.cM (aA (pv 1) aB)) (fun _ _ _=>aM (i:=0) (show(["hand","marks"]:List Str).Nodup from by decide +kernel) rfl (Or.inr rfl))
     (fun _ _ _=>bI) (fun _ _ _=>(aN (BA K rfl) (by rfl) T.lZ pG (aA (bO (NB:=["mark","hand"]) (pick:=[none,some 0]) (bF (by with_unfolding_all rfl) (by exact(And.intro rfl trivial)) rfl (by decide +kernel) (by decide +kernel) (by rfl) (by rfl)) rfl
     (Dj K (pv 1)) (fun _ _ _=>aM (i:=0) (show(["mark","hand"]:List Str).Nodup from by decide +kernel) rfl bP)
     (fun _ _ _=>bI) (fun _ _ _=>(aU (bV K) (pv 0) (pv 1) (fun _ _=>rfl)))) aB))))
   (aD (aP (i:=4) xJ.nd rfl (by first|exact .inl rfl|exact .inr rfl) (cR cI D_weigh hr (by decide) (by rfl) (aA (aQ fM (bL (aA (pv 3) aB)) (pv 2)) (aA (aQ fL (bL (aA aE aB)) (pv 1)) (aA (aQ fM (bL (aA aE aB)) (aQ fL (bL (aA aE aB)) (aN aT (by rfl) T.cK bY (aA (pv 0) aB)))) aB)))))
   (aD (aP (i:=5) xJ.nd rfl (by first|exact .inl rfl|exact .inr rfl) (aU bC (aU bR (pv 4) aE (fun _ _=>rfl)) aE (fun _ _=>rfl)))
   (aH (aS (bO (NB:=["group","more","least"]) (pick:=[none,none,some 5]) (bF (by with_unfolding_all rfl) (by exact(And.intro rfl trivial)) rfl (by decide +kernel) (by decide +kernel) (by rfl) (by rfl)) rfl
     (gU (by rfl) T.g4 (aA (pv 0) (aA (gO lK (aU bR (pv 4) aE (fun _ _=>rfl)) (iY aE) iX) aB))) (fun _ _ _=>(show PG _ _ (oZ K 2 (eM (aZ 0) (eM (aZ 1) oY))) from fE rfl (bG (aM (i:=0) (show(["group","more","least"]:List Str).Nodup from by decide +kernel) rfl bP) (bG (aM (i:=1) (show(["group","more","least"]:List Str).Nodup from by decide +kernel) rfl bP) dH))))
     (fun _ _ _=>bI) (fun _ _ _=>(bQ (aA (pv 0) (aA (aV D_plus hr (by decide) (by rfl) (aA (pv 2) (aA (pv 1) aB))) aB))))))))))),?_⟩
  have h64:∀g,g∈gs->g<64:=fun g hg=>qAy (g64 g hg).2 (qDa (qBw (by decide) m6) (by decide));refine⟨_,rfl,p,rfl,⟨_,aR.of hp⟩,?_⟩;refine iK (xs:=bE gs) (fun j=>a9 m (bt (gN gs j))) (aR.of hp) (by rw[bH];exact qAk (aK (by lia))) (fun j y H4 kk kk0 s4 hy g1=>?_) fun lm cs H1 hlm s1 hcs ncs hD=>?_
  ·obtain⟨g,hg,rfl⟩:=fC hy;refine⟨_,rfl,_,rfl,g,m,rfl,h64 g (qBa hg),m6,fun D H5 hD5 s5 h5=>g1 D H5 s5 hD5 ?_⟩;rw[iO hg];exact h5
  rw[bH] at hcs;have hcA:∀j c,cs[j]?=some c->H1 c=some (.lst (a9 m (bt (gN gs j)))):=fun j c e=>(ncs.at_ j c e).2.2;dsimp only[aZ];refine⟨_,rfl,m,rfl,by lia,by lia,?_⟩;refine jQ (n:=m) (fun i=>some (.int (mI gs i))) (qAk (aK (by lia))) (fun i H2 kk kk0 s2 hi g1 g2=>?_) fun lt H2 hlt s2 hd2=>?_
  ·refine⟨_,rfl,lm,rfl,⟨_,aR.of (s2 _ _ hD)⟩,?_⟩;refine cB (xs:=cs.map V.ref) (fun j _=>some (.int (bt (gN gs j) i))) (aR.of (s2 _ _ hD)) (by rw[qAc,hcs];exact qAk (aK (by lia))) (fun j x H3 kk' kk0' s3 hx g1' g2'=>?_) fun li H3 hli s3 hd3=>?_
   ·obtain⟨c,hc,rfl⟩:=dP hx;have hat:gQ (a9 m (bt (gN gs j))) ((0:Int)+(i:Int))=some (.int (bt (gN gs j) i)):=by rw[qDt];exact bT hi
    refine⟨_,rfl,_,rfl,c,_,_,_,rfl,rfl,aR.of (s3 _ _ (s2 _ _ (hcA j c hc))),hat,?_⟩;exact g1' _ rfl _ (.refl _)
   ·rw[qAc,hcs,jX _ (by rw[qAc,hcs])] at hd3;refine⟨li,(qAn gs.length).map fun j=>bt (gN gs j) i,rfl,.inl (aR.of (by rw[hd3,qCz];rfl)),?_⟩;exact g1 _ (by rw[GU];rfl) _ s3
  rw[qEd] at hd2;have hd2:H2 lt=some (.lst (a9 m (mI gs))):=hd2;have hp2:=s2 _ _ (s1 _ _ hp);have hD2:=s2 _ _ hD;refine⟨_,rfl,jD,fun l3 hl3=>?_⟩;have u3:=aG.aF (o:=.lst [.ref lt]) hl3;have e3:upd H2 l3 (.lst [.ref lt]) l3=_:=aC;generalize upd H2 l3 (.lst [.ref lt])=H3 at u3 e3|-;refine⟨_,rfl,l3,lm,_,_,rfl,rfl,aR.of e3,aR.of (u3 _ _ hD2),by rw[qAc,hcs,qCi];simp;lia,fun pc hpc=>?_⟩;have u4:=aG.aF (o:=.lst ([V.ref lt]++cs.map V.ref)) hpc;have e4:upd H3 pc (.lst ([V.ref lt]++cs.map V.ref)) pc=some (.lst ((lt::cs).map V.ref)):=aC;generalize upd H3 pc (.lst ([V.ref lt]++cs.map V.ref))=H4 at u4 e4|-;refine⟨jD,fun a1 ha1=>?_⟩;have u5:=aG.aF (o:=.lst [.int 1]) ha1;have e5:upd H4 a1 (.lst [.int 1]) a1=_:=aC;generalize upd H4 a1 (.lst [.int 1])=H5 at u5 e5|-;refine⟨_,rfl,a1,_,_,rfl,rfl,e5,by lia,by lia,?_,fun pd hpd=>?_⟩
  ·show 1*((m:Nat):Int).toNat<=qAf;exact qAk (aK (by lia))
  rw[qBl,eU];have u6:=aG.aF (o:=.lst (a9 m fun _=>1)) hpd;have e6:upd H5 pd (.lst (a9 m fun _=>1)) pd=_:=aC;generalize upd H5 pd (.lst (a9 m fun _=>1))=H6 at u6 e6|-;refine⟨jD,fun b1 hb1=>?_⟩;have u7:=aG.aF (o:=.lst [.int 1]) hb1;have e7:upd H6 b1 (.lst [.int 1]) b1=_:=aC;generalize upd H6 b1 (.lst [.int 1])=H7 at u7 e7|-;refine⟨jD,fun b2 hb2=>?_⟩;have u8:=aG.aF (o:=.lst [.int 0]) hb2;have e8:upd H7 b2 (.lst [.int 0]) b2=_:=aC;generalize upd H7 b2 (.lst [.int 0])=H8 at u8 e8|-;have s28:=u3.trans (u4.trans (u5.trans (u6.trans (u7.trans u8))));refine⟨_,rfl,p,_,rfl,.inl (aR.of (s28 _ _ hp2)),b2,_,_,rfl,rfl,e8,by lia,by rw[bH];lia,?_,fun b3 hb3=>?_⟩
  ·rw[bH];show 1*((gs.length:Nat):Int).toNat<=qAf;exact qAk (aK (by lia))
  rw[bH,qBl,eU];have u9:=aG.aF (o:=.lst (a9 gs.length fun _=>0)) hb3;have e9:upd H8 b3 (.lst (a9 gs.length fun _=>0)) b3=_:=aC;generalize upd H8 b3 (.lst (a9 gs.length fun _=>0))=H9 at u9 e9|-;refine⟨b1,b3,_,_,rfl,rfl,aR.of (u9 _ _ (u8 _ _ e7)),aR.of e9,by rw[aI,qCi];simp;lia,fun pg hpg=>?_⟩;have u10:=aG.aF (o:=.lst ([V.int 1]++a9 gs.length fun _=>0)) hpg;have e10:upd H9 pg (.lst ([V.int 1]++a9 gs.length fun _=>0)) pg=some (.lst (a9 (gs.length+1) fun j=>if j=0 then 1 else 0)):=by
   rw[aC,Mj]
  generalize upd H9 pg (.lst ([V.int 1]++a9 gs.length fun _=>0))=H10 at u10 e10|-;have u410:=u5.trans (u6.trans (u7.trans (u8.trans (u9.trans u10))));have s210:=u3.trans (u4.trans u410);dsimp only[fP,qBn,qBp];refine p6 (m:=m) (n:=gs.length+1) (A:=wA gs) (due:=fun _=>1) (g:=fun j=>if j=0 then 1 else 0) (GV m0 m6 gl) (cs:=lt::cs) ⟨u410 _ _ e4,by rw[qCn,hcs],fun j c e=>?_,u10 _ _ (u9 _ _ (u8 _ _ (u7 _ _ e6)))⟩ e10 (fun j=>by split <;> exact Sm.of 2 (by decide) (by decide)) fun r H11 s11 told=>?_
  ·cases j with
   | zero =>
    obtain rfl:=Option.some.inj e;exact s210 _ _ hd2
   | succ j=>exact s210 _ _ (s2 _ _ (hcA j c e))
  have sm1:∀Y:Nat->Int,(Wg.sm m fun i=>1*Y i)=Wg.sm m Y:=fun Y=>Wg.aY fun i _=>qCk _;have gm:∀Z:Nat->Int,(Wg.sm (gs.length+1) fun j=>(if j=0 then 1 else 0)*Z j)=Z 0:=fun Z=>by
   rw[Wg.gA (k:=0) (by lia) fun i _ z=>by rw[if_neg z,qBg]];rw[if_pos rfl,qCk]
  rcases told with ⟨lw,lp,ws,ps,d,X,Y,to⟩ | ⟨lp,ps,d,Y,to⟩ | ⟨lw,lp,ws,ps,d,X,Z,to⟩
  ·have d0:=to.d0;have same:=to.same;rw[sm1,gm] at same;have yg:∀g,g∈gs->0<=Wg.sm m fun i=>bt g i*Y i:=fun g hg=>by
    obtain⟨j,hj,e⟩:=qDb hg;have z:=to.cols (j+1) (by lia);rw[if_neg (by lia),qBg] at z;have e':gN gs j=g:=iO (by rw[qAd hj,e]);have ew:∀i,wA gs (j+1) i=bt g i:=fun i=>by show bt (gN gs j) i=_;rw[e']
    rw[Wg.aY fun i _=>by rw[ew i]] at z;exact z
   have x0:0<X 0:=by
    rcases qNu (to.x0 0) with z | z
    ·exact z
    ·exfalso;obtain⟨_,b2⟩:=bal Y yg (by rw[same,<- z];exact qDq _);have c0:=to.cols 0 (by lia);rw[if_pos rfl,qCk] at c0;have c1:(Wg.sm m fun i=>wA gs 0 i*Y i)=0:=by
      show(Wg.sm m fun i=>mI gs i*Y i)=0;rw[GW];refine Wg.cD fun j hj=>b2 _ ?_;unfold gN;rw[qAq,qAd hj];exact qEi hj
     lia
   have sd:=zH (by lia) to.dm (EX gl) (fun _=>by decide);have a1:gQ [V.str "best",V.ref lw,V.ref lp] 1=some (.ref lw):=rfl;have wl:ws.length=gs.length+1:=to.fw.len;have ew0:ws[0]?=some ws[0]:=qAd (by lia);have a0:gQ (ws.map V.ref) 0=some (.ref ws[0]):=fK (j:=0) (by rw[qAo,ew0];rfl);dsimp only[aZ];refine⟨_,rfl,r,_,_,_,rfl,rfl,cX.of to.tup,a1,lw,_,_,_,rfl,rfl,aR.of to.fw.hr,a0,?_⟩;dsimp only[aZ];have hp11:=s11 _ _ (s210 _ _ hp2);refine⟨_,rfl,_,rfl,r,_,_,_,rfl,rfl,cX.of to.tup,a1,_,rfl,lw,_,rfl,aR.of to.fw.hr,fun lz hlz=>?_⟩;have u12:=aG.aF (o:=.lst (gE (ws.map V.ref) (some 1) none)) hlz;have e12:upd H11 lz (.lst (gE (ws.map V.ref) (some 1) none)) lz=some (.lst ((ws.drop 1).map V.ref)):=by
    rw[aC,show(1:Int)=((1:Nat):Int) from rfl,DZ,List.map_drop]
   generalize upd H11 lz (.lst (gE (ws.map V.ref) (some 1) none))=H12 at u12 e12|-;refine⟨p,lz,rfl,⟨_,aR.of (u12 _ _ hp11)⟩,⟨_,aR.of e12⟩,?_⟩;refine m9 (xs:=bE gs) (xs':=(ws.drop 1).map V.ref) (fun σ'=>∃o0 o1:Option V,σ'=[o0,o1,some (.ref ws[0])]) (fun i ys H'=>fS H' d ys (Na gs X i)) (fun i ys H1 H2 st h=>h.t st) ⟨_,_,rfl⟩ trivial (aR.of (u12 _ _ hp11)) (aR.of e12) (by rw[bH,qAc,qHx];lia) (by rw[bH];exact qAk (aK (by lia))) (fun i x y tt σ1 H13 kk kk0 ys hσ s13 hx hy ht iv g1 g2=>?_) fun D ys H13 hD13 s13 iv hd13=>?_
   ·obtain⟨o0,o1,rfl⟩:=hσ;obtain⟨g,hg,rfl⟩:=fC hx;obtain⟨w',hw',rfl⟩:=dP hy;have hw1:ws[i+1]?=some w':=by rw[qNi] at hw';rw[qJw];exact hw'
    have hf0:=s13 _ _ (u12 _ _ (to.fw.at_ 0 _ ew0));have hf1:=s13 _ _ (u12 _ _ (to.fw.at_ (i+1) w' hw1));refine⟨tt,_,rfl,cX.of ht,rfl,_,_,rfl,_,_,rfl,rfl,?_⟩;refine⟨_,rfl,_,rfl,_,rfl,ws[0],w',X 0,X (i+1),d,rfl,hf0,hf1,d0,sd,(to.sX 0).mono (by decide),(to.sX _).mono (by decide),fun rr H14 s14 h14=>?_⟩;refine⟨jB,fun z2 hz2=>?_⟩;have u15:=aG.aF (o:=.tup [.int (g:Int),.ref rr]) hz2;refine g1 _ _ _ ⟨_,_,rfl⟩ (s14.trans u15) ?_;rw[EY,iO hg];exact fS.app (p:=((g:Int),X 0+X (i+1))) aC (u15 _ _ h14) (iv.t (s14.trans u15).t)
   ·rw[bH] at iv;have sA:=s1.trans (s2.trans (s210.trans (s11.trans u12)));refine k D H13 ys d X (sA.free hD13) (sA.trans s13) hd13 iv d0 to.ds to.sX x0 to.x0 fun i hi=>?_;have mt:=to.meets i hi;rw[qCk,xI] at mt;have e1:(Wg.sm gs.length fun j=>bt (gN gs j) i*(X 0+X (j+1)))=mI gs i*X 0+Wg.sm gs.length fun j=>bt (gN gs j) i*X (j+1):=by
     rw[show(fun j=>bt (gN gs j) i*(X 0+X (j+1)))=fun j=>X 0*bt (gN gs j) i+bt (gN gs j) i*X (j+1) from funext fun j=>by grind,Wg.fG,Wg.bK];unfold mI;rw[qEa]
    rw[e1];exact mt
  ·exfalso;have ng:=to.neg;rw[sm1] at ng;have yg:∀g,g∈gs->0<=Wg.sm m fun i=>bt g i*Y i:=fun g hg=>by
    obtain⟨j,hj,e⟩:=qDb hg;have z:=to.cols (j+1) (by lia);have e':gN gs j=g:=iO (by rw[qAd hj,e]);have ew:∀i,wA gs (j+1) i=bt g i:=fun i=>by show bt (gN gs j) i=_;rw[e']
    rw[Wg.aY fun i _=>by rw[ew i]] at z;exact z
   have:=(bal Y yg (by lia)).1;lia
  ·exfalso;have mo:=to.more;rw[gm] at mo;have hg0:gs[0]?=some gs[0]:=qAd gp;obtain⟨q1,q2⟩:=g64 _ (qEi gp);obtain⟨i,hi,hb⟩:=sQ ⟨m,by lia⟩ ⟨gs[0],h64 _ (qEi gp)⟩ q1 q2;have zz:=qB (fun j _=>qDy (Pt gs j i.1) (to.z0 j)) (to.away i.1 hi) 0 (by lia);have t1:1<=mI gs i.1:=by
    have z1:=Ij (f:=fun j=>bt (gN gs j) i.1) (n:=gs.length) (fun j _=>by rcases p8 (gN gs j) i.1 with e | e <;> rw[e] <;> decide) gp
    have e':gN gs 0=gs[0]:=iO hg0;dsimp only at z1 hb;rw[e',hb] at z1;exact z1
   rcases Int.mul_eq_zero.mp zz with z | z
   ·have z:mI gs i.1=0:=z;lia
   ·lia
def kA (gs:List Nat)(c i:Nat):Int:=if c%2=0 then bt (gN gs (c/2)) i else -bt (gN gs (c/2)) i
theorem zI (gs:List Nat)(c i:Nat):(kA gs c i).natAbs<=1:=by
 unfold kA;split
 ·exact nG _ _
 ·rw[qLg];exact nG _ _
theorem GX (m0:0<m)(m6:m<=6)(gl:gs.length<=6):Inst m (2*gs.length) (kA gs) (bt (2^h)):=⟨m0,by lia,by lia,fun j i=>qBh (zI gs j i) (by decide),fun i=>(p9 _ i).mono (by decide)⟩
structure xK (m k:Nat) (A:Nat->Nat->Int) (H:Hp) (q:Addr) (cs:List Addr):Prop where
 hq:H q=some (.lst (cs.map V.ref))
 len:cs.length=k
 at_:∀(c:Nat) (a:Addr),cs[c]?=some a->H a=some (.lst (a9 m (A c)))
theorem xK.add {m k:Nat}{A:Nat->Nat->Int}{H:Hp}{q a b:Addr}{cs:List Addr}(m0:0<m)(h:xK m k A H q cs)(ha:H a=some (.lst (a9 m (A k))))(hb:H b=some (.lst (a9 m (A (k+1))))):
  xK m (k+2) A (upd H q (.lst (cs.map V.ref++[V.ref a,V.ref b]))) q (cs++[a,b]):=by
 have hne:∀(x:Addr) (r:Nat->Int),H x=some (.lst (a9 m r))->x≠q:=fun x r e z=>by
  rw[z,h.hq] at e;exact qD m0 (HO.lst.inj (Option.some.inj e)).symm
 refine⟨by rw[aC,qAu];rfl,by rw[qAp,h.len];rfl,fun c x e=>?_⟩;rcases qAm c cs.length with z | z
 ·rw[qBd z] at e;have w:=h.at_ c x e;rw[aL (hne _ _ w)];exact w
 ·rw[qBb z,h.len] at e;rw[h.len] at z;rcases qAm k c with z' | z'
  ·have hc:c-k=1:=by
    have:=(List.getElem?_eq_some_iff.mp e).1;simp only[qCn,qKq] at this;lia
   rw[hc] at e;obtain rfl:b=x:=Option.some.inj e;rw[aL (hne _ _ hb),show c=k+1 by lia];exact hb
  ·rw[show c-k=0 by lia] at e;obtain rfl:a=x:=Option.some.inj e;rw[aL (hne _ _ ha),show c=k by lia];exact ha
theorem xK.same {m k:Nat}{A:Nat->Nat->Int}{H H':Hp}{q:Addr}{cs:List Addr}(h:xK m k A H q cs)(s:aG H H'):xK m k A H' q cs:=⟨s _ _ h.hq,h.len,fun c a e=>s _ _ (h.at_ c a e)⟩
def zJ (gs:List Nat)(F:Nat->Int)(k:Nat):List (Int×Int):=((qAn k).filter fun j=>decide (F j≠0)).map fun(j:Nat)=>((gN gs j:Int),F j)
theorem sU (gs:List Nat)(F:Nat->Int)(k:Nat):zJ gs F (k+1)=if F k≠0 then zJ gs F k++[((gN gs k:Int),F k)] else zJ gs F k:=by
 unfold zJ;rw[qBt,qEv,qAu,qDi,qGx];by_cases h:F k≠0
 ·rw[if_pos (decide_eq_true h),if_pos h];rfl
 ·rw[if_neg (by rw[decide_eq_false h];exact qAj),if_neg h,qEn,qDo]
theorem oS (gs:List Nat)(j:Nat):kA gs (2*j)=bt (gN gs j):=by
 funext i;unfold kA;rw[if_pos (by lia),show 2*j/2=j by lia]
theorem uQ (gs:List Nat)(j:Nat):kA gs (2*j+1)=fun i=>-bt (gN gs j) i:=by
 funext i;unfold kA;rw[if_neg (by lia),show(2*j+1)/2=j by lia]
theorem Cj:∀h:_root_.Fin 6,alone h.1=((2^h.1:Nat):Int):=by decide +kernel
theorem xM (f:Nat->Int):∀n,Wg.sm (2*n) f=Wg.sm n fun j=>f (2*j)+f (2*j+1)
 | 0=>rfl
 | n+1=>by
  show Wg.sm (2*n) f+f (2*n)+f (2*n+1)=(Wg.sm n fun j=>f (2*j)+f (2*j+1))+(f (2*n)+f (2*n+1));rw[xM f n];lia
def Il:Sp:=fun vs H Q _=>∃(p:Addr) (h m:Nat) (gs:List Nat),vs=[.int (h:Int),.ref p,.int (m:Int)]/\H p=some (.lst (bE gs))/\h<m/\m<=6/\gs.length=m/\(∀g,g∈gs->g<64)/\Cm.iN m (fX gs) /\
 ∀D H' ys (d:Int) (F:Nat->Int),H D=none->aG H H'->H' D=some (.lst ys)->fS H' d ys (zJ gs F gs.length)->0<d->Sm 6000 d->(∀j,Sm 310000 (F j))->(∀i,i<m->(Wg.sm gs.length fun j=>bt (gN gs j) i*F j)=bt (2^h) i*d)->Q (.ref D) H'
theorem qG:aO ["hand","groups","many","columns","group","column","weights","factors"] ["hand","groups","many"] (aJ Ky):=by constructor<;>first|rfl|decide +kernel
theorem Mm {f1 f2 f3 f4:Addr}{fd1 fd2 fd3 fd4:qCl}(t:Tx K mg "key_of" Ky ["hand","groups","many"] f fd)(T:T K mg AL LN FR iF fCh fGM fCC fCA fPL SE NN NG NT NR NS NV NO NL NX TM UL)(D_marks_of:Df P w K mg base cA 1 "marks_of" ["group","many"] qA f1 fd1)(D_below_nought:Df P w K mg base cA 1 "below_nought" ["column"] EO f2 fd2)(D_weigh:Df P w K mg base (fY P w) 5 "weigh" ["columns","due","gains"] (pZ K NR) f3 fd3)(D_minus:Df P w K mg base cA 3 "minus" ["one","other"] EN f4 fd4):
  Df P w K mg base cA 6 "key_of" ["hand","groups","many"] Il f fd:=by
 refine t.iJ qG (fun vs H Q E h=>?_) (fun cdv _A outer s H vs Q E hr h=>?_)
 ·obtain⟨p,h,m,gs,rfl,_⟩:=h;rfl
 ·obtain⟨p,h,m,gs,rfl,hp,hm,m6,gl,g64,ind,k⟩:=h;refine⟨_,(aD (aP (i:=3) qG.nd rfl bP (bL aB))
   (aD (eL PassesOwn.never rfl (bJ (pv 1)) (aM (i:=4) qG.nd rfl (by first|exact .inl rfl|exact .inr rfl))
    (aD (aP (i:=5) qG.nd rfl bP (aV D_marks_of hr (by decide) (by rfl) (aA (pv 4) (aA (pv 2) aB))))
    (aH (tI (i:=3) qG.nd rfl bP (bL (aA (pv 5) (aA (aV D_below_nought hr (by decide) (by rfl) (aA (pv 5) aB)) aB))) oN))))
   (aD (aP (i:=6) qG.nd rfl (by first|exact .inl rfl|exact .inr rfl) (aU bR (cR cI D_weigh hr (by decide) (by rfl) (aA (pv 3) (aA (aV D_marks_of hr (by decide) (by rfl) (aA (aU bR (cH (v:=.ref AL) (by rfl) T.Fx rfl) (pv 0) (fun _ _=>rfl)) (aA (pv 2) aB))) (aA (aQ fL (bL (aA aE aB)) (aN aT (by rfl) T.cK bY (aA (pv 3) aB))) aB)))) aE (fun _ _=>rfl)))
   (aD (cZ (NB:=["place","weights"]) (pick:=[none,some 6]) (i:=7) qG.nd rfl (by first|exact .inl rfl|exact .inr rfl) (by rfl) (bF (by with_unfolding_all rfl) (by exact(And.intro rfl trivial)) rfl (by decide +kernel) (by decide +kernel) (by rfl) (by rfl)) rfl
     (c9 (by rfl) T.cM (aA (aN aT (by rfl) T.cK bY (aA (pv 1) aB)) aB)) (fun _ _ _=>aM (i:=0) (show(["place","weights"]:List Str).Nodup from by decide +kernel) rfl bP)
     (fun _ _ _=>bI) (fun _ _ _=>(aV D_minus hr (by decide) (by rfl) (aA (aU (bV K) (pv 1) (aQ bS aE (pv 0)) (fun _ _=>rfl)) (aA (aU (bV K) (pv 1) (aQ f9 (aQ bS aE (pv 0)) aE) (fun _ _=>rfl)) aB)))))
   (aH (aS (bO (NB:=["group","factor"]) (pick:=[none,none]) (bF (by with_unfolding_all rfl) (by exact trivial) rfl (by decide +kernel) (by decide +kernel) (by rfl) (by rfl)) rfl
     (gU (by rfl) T.g4 (aA (pv 1) (aA (pv 7) aB))) (fun _ _ _=>(show PG _ _ (oZ K 2 (eM (aZ 0) (eM (aZ 1) oY))) from fE rfl (bG (aM (i:=0) (show(["group","factor"]:List Str).Nodup from by decide +kernel) rfl bP) (bG (aM (i:=1) (show(["group","factor"]:List Str).Nodup from by decide +kernel) rfl bP) dH))))
     (fun _ _ _=>eZ (aW (pL K hr.units) (pv 1) (bQ (aA aE (aA aE aB))) (aX _))) (fun _ _ _=>(bQ (aA (pv 0) (aA (pv 1) aB))))))))))),?_⟩
  have m0:0<m:=by lia
  refine⟨by simp[qCi],fun lc hlc=>?_⟩;dsimp only[aZ];have u0:aG H (upd H lc (.lst [])):=.aF hlc;refine⟨_,rfl,p,rfl,⟨_,aR.of (u0 _ _ hp)⟩,?_⟩;refine fV (xs:=bE gs) (fun j σ' H'=>aG H H'/\∃(cs:List Addr) (o4 o5 o6 o7:Option V),xK m (2*j) (kA gs) H' lc cs/\σ'=[some (.int (h:Int)),some (.ref p),some (.int (m:Int)),some (.ref lc),o4,o5,o6,o7]) ⟨u0,[],_,_,_,_,⟨aC,rfl,fun c a e=>by cases e⟩,rfl⟩ ?_ ?_ ?_
  ·rintro j σ' H' _ ⟨s2,_⟩;exact aR.of (s2 _ _ hp)
  ·rintro j x σ' H2 hx ⟨s2,cs,o4,o5,o6,o7,kc,rfl⟩;obtain⟨g,hg,rfl⟩:=fC hx;have hj:j<gs.length:=(List.getElem?_eq_some_iff.mp hg).1;dsimp only[aZ];refine⟨_,rfl,_,rfl,g,m,rfl,g64 g (qBa hg),m6,fun D H3 hD s3 hd=>?_⟩;dsimp only[aZ];refine⟨_,rfl,_,rfl,_,rfl,D,m,bt g,rfl,hd,by lia,fun D2 H4 hD2 s4 hd4=>?_⟩;have eg:gN gs j=g:=iO hg;refine⟨jB,fun l5 h5=>?_⟩;have u5:=aG.aF (o:=.lst [.ref D,.ref D2]) h5;have e5:upd H4 l5 (.lst [.ref D,.ref D2]) l5=_:=aC;generalize upd H4 l5 (.lst [.ref D,.ref D2])=H5 at u5 e5|-;have kc5:=kc.same (s3.trans (s4.trans u5));refine⟨lc,l5,_,_,rfl,rfl,kc5.hq,e5,by rw[qAc,kc5.len,qCi];simp;lia,?_⟩;refine⟨(s2.trans (s3.trans (s4.trans u5))).upd_ne' hlc,cs++[D,D2],_,_,_,_,kc5.add m0 ?_ ?_,rfl⟩
   ·show H5 D=some (.lst (a9 m (kA gs (2*j))));rw[oS,eg];exact u5 _ _ (s4 _ _ hd)
   ·show H5 D2=some (.lst (a9 m (kA gs (2*j+1))));rw[uQ,eg];exact u5 _ _ hd4
  ·rintro σ' H2 ⟨s2,cs,o4,o5,o6,o7,kc,rfl⟩;rw[bH] at kc;have hat:gQ (jA.map V.int) (h:Int)=some (.int (alone h)):=by
    have z:=p7 (i:=(h:Int)) (by lia) (by lia);simpa using z
   have eal:alone h=((2^h:Nat):Int):=Cj ⟨h,by lia⟩;refine⟨_,rfl,_,rfl,AL,_,_,_,rfl,rfl,T.al _,hat,_,rfl,2^h,m,by rw[eal];rfl,Nat.pow_lt_pow_right (n:=6) (by decide) (by lia),m6,fun pd H3 hpd s3 hd3=>?_⟩;refine⟨jD,fun b2 hb2=>?_⟩;have u8:=aG.aF (o:=.lst [.int 0]) hb2;have e8:upd H3 b2 (.lst [.int 0]) b2=_:=aC;generalize upd H3 b2 (.lst [.int 0])=H8 at u8 e8|-;have kc8:=kc.same (s3.trans u8);have cl:(cs.map V.ref).length=2*gs.length:=by rw[qAc,kc.len]
   refine⟨_,rfl,lc,_,rfl,.inl (aR.of kc8.hq),b2,_,_,rfl,rfl,e8,by lia,by rw[cl];lia,?_,fun b3 hb3=>?_⟩
   ·rw[cl];show 1*((2*gs.length:Nat):Int).toNat<=qAf;exact qAk (aK (by lia))
   rw[cl,qBl,eU];have u9:=aG.aF (o:=.lst (a9 (2*gs.length) fun _=>0)) hb3;have e9:upd H8 b3 (.lst (a9 (2*gs.length) fun _=>0)) b3=_:=aC;generalize upd H8 b3 (.lst (a9 (2*gs.length) fun _=>0))=H9 at u9 e9|-;have kc9:=kc8.same u9;dsimp only[fP,qBn,qBp];refine p6 (m:=m) (n:=2*gs.length) (A:=kA gs) (due:=bt (2^h)) (g:=fun _=>0) (GX m0 m6 (by lia)) (cs:=cs) ⟨kc9.hq,kc9.len,kc9.at_,u9 _ _ (u8 _ _ hd3)⟩ e9 (fun j=>Sm.of 2 (by decide) (by decide)) fun r H11 s11 told=>?_;have s211:=s3.trans (u8.trans (u9.trans s11));rcases told with ⟨lw,lp,ws,ps,d,X,Y,to⟩ | ⟨lp,ps,d,Y,to⟩ | ⟨lw,lp,ws,ps,d,X,Z,to⟩
   ·have a1:gQ [V.str "best",V.ref lw,V.ref lp] 1=some (.ref lw):=rfl;have d0:=to.d0;have sd:=xE m6 to.dm (fun j i=>zI gs j i) (fun i=>nG _ _);have wl:ws.length=2*gs.length:=to.fw.len;refine⟨r,_,_,_,rfl,rfl,cX.of to.tup,a1,?_⟩;dsimp only[aZ];have hp11:=s211 _ _ (s2 _ _ hp);refine⟨_,rfl,p,_,rfl,.inl (aR.of hp11),gs.length,by rw[bH],by lia,by lia,?_⟩;refine rP (n:=gs.length) (fun i ys H'=>∃fs:List Addr,ys=fs.map V.ref/\fs.length=i/\∀(j:Nat) (w:Addr),fs[j]?=some w->H' w=some (fZ (X (2*j)-X (2*j+1)) d)) ?_ ⟨[],rfl,rfl,fun j w e=>by cases e⟩ (qAk (aK (by lia))) (fun i H12 kk kk0 ys s12 hi iv g1 g2=>?_) fun lf ys H12 hlf s12 iv hd12=>?_
    ·rintro i ys H1 H2 st ⟨fs,e1,e2,e3⟩;exact⟨fs,e1,e2,fun j w e=>st _ _ (e3 j w e)⟩
    ·obtain⟨fs,rfl,fl,fa⟩:=iv;have hw:=s12 _ _ to.fw.hr;have at1:∀c:Nat,c<2*gs.length->∃w,ws[c]?=some w/\gQ (ws.map V.ref) (c:Int)=some (.ref w)/\H12 w=some (fZ (X c) d):=fun c hc=>by
      have e:=qAd (l:=ws) (i:=c) (by lia);exact⟨_,e,fK (by rw[qAo,e];rfl),s12 _ _ (to.fw.at_ c _ e)⟩
     obtain⟨w1,_,t1,q1⟩:=at1 (2*i) (by lia);obtain⟨w2,_,t2,q2⟩:=at1 (2*i+1) (by lia);have i1:((2*i:Nat):Int)=2*(0+(i:Int)):=by lia
     have i2:((2*i+1:Nat):Int)=2*(0+(i:Int))+1:=by lia
     rw[i1] at t1;rw[i2] at t2;have sm2:Sm 10 (2:Int):=by show(2:Int).natAbs<2^10;decide
     have smi:Sm 10 (0+(i:Int)):=by show(0+(i:Int)).natAbs<2^10;lia
     refine⟨_,rfl,_,rfl,_,_,rfl,rfl,sm2.mb smi,lw,_,_,_,rfl,rfl,aR.of hw,t1,_,rfl,_,rfl,_,_,rfl,rfl,sm2.mb smi,_,_,rfl,rfl,lw,_,_,_,rfl,rfl,aR.of hw,t2,w1,w2,X (2*i),X (2*i+1),d,rfl,q1,q2,d0,sd,(to.sX _).mono (by decide),(to.sX _).mono (by decide),fun rr H13 s13 h13=>?_⟩;refine g1 _ _ s13 ⟨fs++[rr],by rw[qAu];rfl,by rw[qAp,fl];rfl,fun j w e=>?_⟩;rcases qAm j fs.length with z | z
     ·rw[qBd z] at e;exact s13 _ _ (fa j w e)
     ·rw[qBb z] at e;have hj:j-fs.length=0:=by
       have:=(List.getElem?_eq_some_iff.mp e).1;rw[qBk] at this;lia
      rw[hj] at e;obtain rfl:=Option.some.inj e;rw[show j=i by lia];exact h13
    ·obtain⟨fs,rfl,fl,fa⟩:=iv;have hp12:=s12 _ _ hp11;refine⟨_,rfl,_,rfl,p,lf,rfl,⟨_,aR.of hp12⟩,⟨_,aR.of hd12⟩,?_⟩;refine m9 (xs:=bE gs) (xs':=fs.map V.ref) (fun σ'=>∃o0 o1:Option V,σ'=[o0,o1]) (fun i ys H'=>fS H' d ys (zJ gs (fun j=>X (2*j)-X (2*j+1)) i)) (fun i ys H1 H2 st h=>h.t st) ⟨_,_,rfl⟩ trivial (aR.of hp12) (aR.of hd12) (by rw[bH,qAc,fl]) (by rw[bH];exact qAk (aK (by lia))) (fun i x y tt σ1 H13 kk kk0 ys hσ s13 hx hy ht iv g1 g2=>?_) fun D ys H13 hD13 s13 iv hd13=>?_
     ·obtain⟨o0,o1,rfl⟩:=hσ;obtain⟨g,hg,rfl⟩:=fC hx;obtain⟨w',hw',rfl⟩:=dP hy;have hfw:=s13 _ _ (fa i w' hw');refine⟨tt,_,rfl,cX.of ht,rfl,?_⟩;refine⟨_,_,rfl,_,_,rfl,rfl,_,rfl,jB,fun z1 hz1=>?_⟩;have u13:=aG.aF (o:=.tup [.int 0,.int 1]) hz1;have x13:upd H13 z1 (.tup [.int 0,.int 1]) z1=_:=aC;generalize upd H13 z1 (.tup [.int 0,.int 1])=H14 at u13 x13|-;refine⟨_,_,uP (u13 _ _ hfw),.tup (cX.of x13) (.cons (.int _) (.cons (.int _) .nil)),fW _ _,fW _ _,_,rfl,?_⟩;rw[lD d0];by_cases e:X (2*i)-X (2*i+1)≠0
      ·refine cJ (fun _=>?_) (fun no=>absurd (decide_eq_true e) no);refine⟨_,rfl,_,rfl,jB,fun z2 hz2=>?_⟩;have u14:=aG.aF (o:=.tup [.int (g:Int),.ref w']) hz2;refine g1 _ _ _ ⟨_,_,rfl⟩ (u13.trans u14) ?_;rw[sU,if_pos e,iO hg];exact fS.app (p:=((g:Int),X (2*i)-X (2*i+1))) aC (u14 _ _ (u13 _ _ hfw)) (iv.t (u13.trans u14).t)
      ·refine cJ (fun y=>absurd (of_decide_eq_true y) e) (fun _=>g2 _ _ ⟨_,_,rfl⟩ u13 ?_);rw[sU,if_neg e];exact iv.t u13.t
     ·rw[bH] at iv;have sA:=s2.trans (s211.trans s12);refine k D H13 ys d _ (sA.free hD13) (sA.trans s13) hd13 iv d0 to.ds (fun j=>((to.sX _).sub (to.sX _)).mono (by decide)) fun i hi=>?_;have mt:=to.meets i hi;rw[xM] at mt;rw[<- mt];refine Wg.aY fun j _=>?_;rw[oS,uQ];grind
   ·exfalso;have ng:=to.neg;have yz:∀v,v∈fX gs->Cm.dot m Y v=0:=fun v hv=>by
     obtain⟨g,hg,rfl⟩:=List.mem_map.mp hv;obtain⟨j,hj,e⟩:=qDb hg;have e':gN gs j=g:=iO (by rw[qAd hj,e]);have z1:=to.cols (2*j) (by lia);have z2:=to.cols (2*j+1) (by lia);rw[oS,e'] at z1;rw[uQ,e'] at z2;have z3:(Wg.sm m fun i=>-bt g i*Y i)=-Wg.sm m fun i=>bt g i*Y i:=by
      have:=Wg.bK m (-1) fun i=>bt g i*Y i;rw[show(-Wg.sm m fun i=>bt g i*Y i)=-1*Wg.sm m fun i=>bt g i*Y i by lia,<- this];exact Wg.aY fun i _=>by grind
     rw[z3] at z2;have z4:Cm.dot m Y (bt g)=Wg.sm m fun i=>bt g i*Y i:=Wg.aY fun i _=>qEa _ _;rw[z4];lia
    have z:=Cm.Told.dot ind (Cm.BX ind (by unfold fX;rw[qAc,gl]) (bt (2^h))) yz;have z4:Cm.dot m Y (bt (2^h))=Wg.sm m fun i=>bt (2^h) i*Y i:=Wg.aY fun i _=>qEa _ _;rw[z4] at z;lia
   ·exfalso;have mo:=to.more;rw[Wg.cD fun j _=>qBg _] at mo;exact absurd mo (by decide)
def xN (m:Nat)(tb Y:Nat->Int)(b:Int)(g:Nat):Int:=tb g*b-Wg.sm m fun i=>bt g i*Y i
def lE (m:Nat)(tb Y:Nat->Int)(b:Int)(k:Nat):List (Key×V):=(qAn k).map fun(j:Nat)=>(Sum.inl ((j+1:Nat):Int),V.int (xN m tb Y b (j+1)))
theorem EZ (l:List Int)(F:Int->V):((qAn (l.map V.int).length).filterMap fun i=>((l.map V.int)[i]?).bind fun _=>(l[i]?).map F)=l.map F:=by
 rw[qAc];have e:((qAn l.length).filterMap fun i=>((l.map V.int)[i]?).bind fun _=>(l[i]?).map F)=(qAn l.length).filterMap fun i=>(l[i]?).bind fun h=>some (F h):=by
  refine eB fun i hi=>?_;have hi:=List.mem_range.mp hi;rw[qAo,qAd hi];rfl
 rw[e,xH,qEd]
theorem Fb (m:Nat)(tb Y:Nat->Int)(b:Int)(j:Nat):putK (lE m tb Y b j) (Sum.inl ((j+1:Nat):Int):Key) (V.int (tb (j+1)*b-Wg.sm m fun i=>bt (j+1) i*Y i))=lE m tb Y b (j+1):=by
 unfold putK;rw[if_neg]
 ·unfold lE;rw[qBt,qAu];rfl
 ·intro z;obtain⟨kv,hkv,e⟩:=List.any_eq_true.mp z;obtain⟨i,hi,rfl⟩:=List.mem_map.mp hkv;have hi:=List.mem_range.mp hi;have e:=Sum.inl.inj (of_decide_eq_true e);lia
def Im (K:qAb):Sp:=fun vs H Q _=>∃(p q:Addr) (m n:Nat) (tb Y:Nat->Int) (b:Int),vs=[.ref p,.ref q,.int b]/\H p=some (.lst (a9 n tb))/\H q=some (.lst (a9 m Y))/\1<=m/\m<=6/\n=2^m/\Sm 6000 b/\(∀j,Sm 300000 (Y j))/\(∀j,Sm 80000 (tb j)) /\
 ∀D H' ob,H D=none->aG H H'->H' D=some (.frz ob (.dK (lE m tb Y b (n-2))))->Q (.ref D) H'
theorem Fc:aO ["table","tops","bottom","lacks","group"] ["table","tops","bottom"] (aJ Kw):=by constructor<;>first|rfl|decide +kernel
theorem Mn (t:Tx K mg "lacks_of" Kw ["table","tops","bottom"] f fd)(T:T K mg AL LN FR iF fCh fGM fCC fCA fPL SE NN NG NT NR NS NV NO NL NX TM UL)(D_hands_of:Df P w K mg base (fY P w) 4 "hands_of" ["group"] (EA K NG) f1 fd1):
  Df P w K mg base cA 5 "lacks_of" ["table","tops","bottom"] (Im K) f fd:=by
 refine t.iJ Fc (fun vs H Q E h=>?_) (fun cdv _A outer s H vs Q E hr h=>?_)
 ·obtain⟨p,q,m,n,tb,Y,b,rfl,_⟩:=h;rfl
 ·obtain⟨p,q,m,n,tb,Y,b,rfl,hp,hq,m1,m6,hn,sb,sY,st,k⟩:=h;refine⟨_,(aD (aP (i:=3) Fc.nd rfl bP CY)
   (aD (eL PassesOwn.never rfl (Bm (by rfl) T.cM (aA aE (aA (aQ iW (aN aT (by rfl) T.cK bY (aA (pv 0) aB)) aE) aB))) (aM (i:=4) Fc.nd rfl (by first|exact .inl rfl|exact .inr rfl))
    (aH (Af (CO hr) (pv 3) (pv 4) (aQ iW (aQ bS (aU bC (pv 0) (pv 4) (fun _ _=>rfl)) (pv 2)) (aN (jO rfl) (by rfl) T.lZ pG (aA (bO (NB:=["hand","tops"]) (pick:=[none,some 1]) (bF (by with_unfolding_all rfl) (by exact(And.intro rfl trivial)) rfl (by decide +kernel) (by decide +kernel) (by rfl) (by rfl)) rfl
     (bJ (cR cI D_hands_of hr (by decide) (by rfl) (aA (pv 4) aB))) (fun _ _ _=>aM (i:=0) (show(["hand","tops"]:List Str).Nodup from by decide +kernel) rfl bP)
     (fun _ _ _=>bI) (fun _ _ _=>(aU (bV K) (pv 1) (pv 0) (fun _ _=>rfl)))) aB))) rfl)))
   (aH (aS (Gq (pv 3)))))),?_⟩
  refine fun D hD=>?_;dsimp only[aZ];have u0:aG H (upd H D (.dK [])):=.aF hD;have n64:n<=64:=by rw[hn];exact zD m6
  have n2:2<=n:=by rw[hn];exact qBw (n:=2) (i:=1) (by decide) m1
  refine⟨_,rfl,p,_,rfl,.inl (aR.of (u0 _ _ hp)),_,_,rfl,rfl,1,_,rfl,?_,?_⟩
  ·rw[aI];lia
  rw[aI,show(((n:Nat):Int)-1-1).toNat=n-2 by lia];refine qZ (lo:=1) (n:=n-2) (fun j σ' H'=>aG H H'/\∃(o4:Option V),H' D=some (.dK (lE m tb Y b j))/\σ'=[some (.ref p),some (.ref q),some (.int b),some (.ref D),o4]) ⟨u0,_,aC,rfl⟩ ?_ ?_
  ·rintro j σ' H2 hj ⟨s2,o4,hd,rfl⟩;have e1:(1:Int)+(j:Int)=((j+1:Nat):Int):=by lia
   rw[e1];dsimp only[aZ];have hp2:=s2 _ _ hp;have hq2:=s2 _ _ hq;have gm:j+1<2^m:=by lia
   have h64:j+1<64:=by lia
   refine⟨_,rfl,_,rfl,p,_,_,_,rfl,rfl,aR.of hp2,bT (by lia),_,rfl,_,_,rfl,rfl,(st _).mb sb,?_⟩;refine⟨_,rfl,_,rfl,.int _,fun no=>?_,fun g' la H3 hv _ hla s3 hl3=>?_⟩
   ·exact absurd no (by rw[Ax (m:=6) h64];decide)
   obtain rfl:j+1=g':=by have:=V.int.inj hv;lia
   have hal:∀h∈dU (j+1),0<=h/\h<m:=fun h hh=>uF gm 6 h hh;have hlen:(dU (j+1)).length<=6:=zB (j+1) 6;refine⟨la,rfl,⟨_,aR.of hl3⟩,?_⟩;refine cB (xs:=(dU (j+1)).map V.int) (fun i _=>((dU (j+1))[i]?).map fun h=>V.int (Y h.toNat)) (aR.of hl3) (by rw[qAc];exact qAk (aK (by lia))) (fun i x H4 kk kk0 s4 hx g1 g2=>?_) fun l4 H4 hl4 s4 hd4=>?_
   ·rw[qAo] at hx;cases e:(dU (j+1))[i]? with
    | none=>rw[e] at hx;cases hx
    | some h =>
     rw[e] at hx g1;obtain rfl:V.int h=x:=Option.some.inj hx;obtain⟨z0,zm⟩:=hal h (qBa e);have hat:gQ (a9 m Y) h=some (.int (Y h.toNat)):=by
      have z:=bT (f:=Y) (n:=m) (j:=h.toNat) (by lia);rw[qCt z0] at z;exact z
     refine⟨_,rfl,_,rfl,q,_,_,_,rfl,rfl,aR.of (s4 _ _ (s3 _ _ hq2)),hat,?_⟩;exact g1 _ rfl _ (.refl _)
   ·rw[EZ] at hd4;have es:((dU (j+1)).map fun h=>Y h.toNat).sum=Wg.sm m fun i=>bt (j+1) i*Y i:=by
     unfold dU;rw[EE];have z:=uO (Y:=Y) gm (6-m);rw[show m+(6-m)=6 by lia] at z;exact z
    have hdD:=s4 _ _ (s3 _ _ hd);refine⟨l4,(dU (j+1)).map fun h=>Y h.toNat,rfl,.inl (aR.of (by rw[hd4,qCz];rfl)),_,_,rfl,rfl,_,rfl,_,rfl,D,_,rfl,.inl ⟨_,.inl ((j+1:Nat):Int),hdD,rfl,by unfold lE;rw[qAc,qAs,qCi];lia,rfl⟩,(s2.trans (s3.trans s4)).upd_ne' hD,_,?_,rfl⟩;rw[aC,es,Fb]
  ·rintro σ' H2 ⟨s2,o4,hd,rfl⟩;refine⟨_,rfl,D,_,rfl,hd,fun ob=>?_⟩;exact k D _ ob hD (s2.upd_ne' hD) aC
theorem mJ (x:Int):fZ x 1 = .tup [.int x,.int 1]:=by
 have e:dv x 1=1:=by unfold dv;rw[if_neg (by decide),qPy];rfl
 unfold fZ;rw[e,qKc,qKc]
theorem GY {a b y dw L r:Int}(h:a*dw=y*b):a*(dw*(L*r))=r*y*(b*L):=by
 have z:a*(dw*(L*r))=a*dw*(L*r):=by grind
 rw[z,h];grind
structure Kp (ks:List Nat) (X:Nat->Int) (d:Int) (H:Hp) (p:Addr) (ws:List Addr):Prop where
 hd:H p=some (.dK ((ks.zip ws).map fun kw=>(Sum.inl (kw.1:Int),V.ref kw.2)))
 len:ws.length=ks.length
 at_:∀(j:Nat) (w:Addr),ws[j]?=some w->H w=some (fZ (X (gN ks j)) d)
theorem Kp.same {ks:List Nat}{X:Nat->Int}{d:Int}{H H':Hp}{p:Addr}{ws:List Addr}(h:Kp ks X d H p ws)(s:aG H H'):Kp ks X d H' p ws:=⟨s _ _ h.hd,h.len,fun j w e=>s _ _ (h.at_ j w e)⟩
theorem Kp.keys {ks:List Nat}{ws:List Addr}(h:ws.length=ks.length):(((ks.zip ws).map fun kw=>((Sum.inl (kw.1:Int):Key),V.ref kw.2)).map fun kv=>kV kv.1)=bE ks:=by
 rw[qCz];unfold bE;have e:(ks.zip ws).map Prod.fst=ks:=List.map_fst_zip (by lia);rw[show((fun kv:Key×V=>kV kv.1)∘fun kw:Nat×Addr=>((Sum.inl (kw.1:Int):Key),V.ref kw.2))=(fun(g:Nat)=>V.int (g:Int))∘Prod.fst from rfl,<- qCz,e]
theorem Kp.vals {ks:List Nat}{ws:List Addr}(h:ws.length=ks.length):(((ks.zip ws).map fun kw=>((Sum.inl (kw.1:Int):Key),V.ref kw.2)).map fun kv=>kv.2)=ws.map V.ref:=by
 rw[qCz];have e:(ks.zip ws).map Prod.snd=ws:=List.map_snd_zip (by lia);rw[show((fun kv:Key×V=>kv.2)∘fun kw:Nat×Addr=>((Sum.inl (kw.1:Int):Key),V.ref kw.2))=V.ref∘Prod.snd from rfl,<- qCz,e]
def sA (m:Nat)(fr ks:List Nat)(c i:Nat):Int:=if c<fr.length then (if i<m then bt (gN fr c) i else if i=m then 1 else 0) else if i<m then kA ks (c-fr.length) i else 0
def sG (tb:Nat->Int)(L:Int)(fr:List Nat)(tp:Nat->Int)(c:Nat):Int:=if c<fr.length then tb (gN fr c)*L else if (c-fr.length)%2=0 then tp ((c-fr.length)/2) else -tp ((c-fr.length)/2)
def sD (m i:Nat):Int:=if i<m then 0 else if i=m then 1 else 0
theorem zK (m:Nat)(fr ks:List Nat)(c i:Nat):(sA m fr ks c i).natAbs<=1:=by
 unfold sA;split
 ·split
  ·exact nG _ _
  ·split <;> decide
 ·split
  ·exact zI _ _ _
  ·decide
theorem zL (m i:Nat):(sD m i).natAbs<=1:=by
 unfold sD;split
 ·decide
 ·split <;> decide
theorem g6 (m:Nat)(fr ks:List Nat):Cm.oF m bt fr ks (sA m fr ks) where
 f0:=fun c hc=>⟨fun i hi=>by unfold sA;rw[if_pos hc,if_pos hi];rfl,by unfold sA;rw[if_pos hc,if_neg (qDc _),if_pos rfl]⟩
 k0:=fun j _=>⟨fun i hi=>by unfold sA;rw[if_neg (by lia),if_pos hi,show fr.length+2*j-fr.length=2*j by lia,oS];rfl,by unfold sA;rw[if_neg (by lia),if_neg (qDc _)]⟩
 k1:=fun j _=>⟨fun i hi=>by unfold sA;rw[if_neg (by lia),if_pos hi,show fr.length+(2*j+1)-fr.length=2*j+1 by lia,uQ];rfl,by unfold sA;rw[if_neg (by lia),if_neg (qDc _)]⟩
theorem AX (tb:Nat->Int)(L:Int)(fr ks:List Nat)(tp:Nat->Int):Cm.Qz tb L fr ks tp (sG tb L fr tp) where
 f0:=fun c hc=>by unfold sG;rw[if_pos hc];rfl
 k0:=fun j _=>by unfold sG;rw[if_neg (by lia),if_pos (by lia),show(fr.length+2*j-fr.length)/2=j by lia]
 k1:=fun j _=>by unfold sG;rw[if_neg (by lia),if_neg (by lia),show(fr.length+(2*j+1)-fr.length)/2=j by lia]
theorem GZ {m:Nat}{fr ks:List Nat}(m6:m<=6)(h:fr.length+2*ks.length<=70):Inst (m+1) (fr.length+2*ks.length) (sA m fr ks) (sD m) :=
 ⟨by lia,by lia,h,fun j i=>qBh (zK m fr ks j i) (by decide),fun i=>qBh (zL m i) (by decide)⟩
theorem Pu:∀m:_root_.Fin 8,Wg.qO m.1*1^m.1<2^13/\m.1*(Wg.qO m.1*1^m.1)<2^16:=by decide +kernel
theorem Fd {m n:Nat}{A:Nat->Nat->Int}{due:Nat->Int}{d:Int}(m7:m<=7)(dm:pV m A due d)(hA:∀j i,(A j i).natAbs<=1)(hd:∀i,(due i).natAbs<=1):Sm 13 d :=
 qBh (dm 1 (qAg _) hA hd) (Pu ⟨m,by lia⟩).1
theorem Fe {m b:Nat}{A:Nat->Nat->Int}{due g Y:Nat->Int}{r:Int}(m7:m<=7)(ps:zF m A due g Y)(hA:∀j i,(A j i).natAbs<=1)(hd:∀i,(due i).natAbs<=1)(r0:0<r)(hg:∀j,Sm b (r*g j))(i:Nat):Sm (b+16) (r*Y i):=by
 have h:=ps 1 ((2^b)/r.natAbs) (qAg _) hA hd (fun j=>by
  have z:(r*g j).natAbs<2^b:=hg j;rw[qDx] at z;exact(Nat.le_div_iff_mul_le (by lia)).mpr (by rw[qMl];exact qAk z)) i
 have f:=(Pu ⟨m,by lia⟩).2;show(r*Y i).natAbs<2^(b+16);rw[qDx];have z1:r.natAbs*(2^b/r.natAbs)<=2^b:=Nat.mul_div_le _ _;have z2:r.natAbs*(Y i).natAbs<=r.natAbs*(m*(2^b/r.natAbs*(Wg.qO m*1^m))):=Nat.mul_le_mul_left _ h;have z3:r.natAbs*(m*(2^b/r.natAbs*(Wg.qO m*1^m)))=r.natAbs*(2^b/r.natAbs)*(m*(Wg.qO m*1^m)):=by
  generalize 2^b/r.natAbs=q;generalize Wg.qO m*1^m=u;generalize r.natAbs=a;simp only[qNw,qPh]
 rw[z3] at z2;have z4:r.natAbs*(2^b/r.natAbs)*(m*(Wg.qO m*1^m))<=2^b*(m*(Wg.qO m*1^m)):=qMs _ z1;have z5:2^b*(m*(Wg.qO m*1^m))<2^b*2^16:=Nat.mul_lt_mul_of_pos_left f (qGy b);rw[qPt];exact qBh z2 (qBh z4 z5)
theorem Mo (k:Nat)(g:Nat->Int):a9 k g++[.int (g k),.int (g (k+1))]=a9 (k+2) g:=by
 unfold a9;rw[qBt,qBt,qAu,qAu,qHq];rfl
theorem zM (m:Nat)(f:Nat->Int):a9 m f++[.int (f m)]=a9 (m+1) f:=by
 unfold a9;rw[qBt,qAu];rfl
def fJ (fr:List Nat)(lam:Nat->Int)(k:Nat):List Nat:=((qAn k).filter fun c=>decide (lam c≠0)).map (gN fr)
theorem sV (fr:List Nat)(lam:Nat->Int)(k:Nat):fJ fr lam (k+1)=if lam k≠0 then fJ fr lam k++[gN fr k] else fJ fr lam k:=by
 unfold fJ;rw[qBt,qEv,qAu,qDi,qGx];by_cases h:lam k≠0
 ·rw[if_pos (decide_eq_true h),if_pos h];rfl
 ·rw[if_neg (by rw[decide_eq_false h];exact qAj),if_neg h,qEn,qDo]
theorem g7:g∈fJ fr lam k↔∃c,c<k/\lam c≠0/\gN fr c=g:=by
 unfold fJ;rw[qJt];constructor
 ·rintro⟨c,hc,e⟩;obtain⟨a,b⟩:=List.mem_filter.mp hc;exact⟨c,List.mem_range.mp a,of_decide_eq_true b,e⟩
 ·rintro⟨c,a,b,e⟩;exact⟨c,List.mem_filter.mpr ⟨List.mem_range.mpr a,decide_eq_true b⟩,e⟩
def Io:Sp:=fun vs H Q _=>∃(p q r:Addr) (m n c:Nat) (tb X:Nat->Int) (d:Int) (ks fr:List Nat) (ws:List Addr),vs=[.ref p,.int (m:Int),.ref q,.ref r]/\H p=some (.lst (a9 n tb))/\Kp ks X d H q ws/\H r=some (.lst (bE fr))/\1<=m/\m<=6/\n=2^m/\0<d/\c<=1000/\Sm c d/\(∀k,Sm (80000+c) (X k))/\(∀j,Sm 80000 (tb j))/\fr.length+2*ks.length<=70/\(∀g,g∈fr->g<n)/\(∀k,k∈ks->k<64)/\Cm.iN m (fX ks) /\
 (∀y:Nat->Int,(∀k,k∈ks->Cm.pt m bt y k=0)->∃g,g∈fr/\Cm.pt m bt y g<=0) /\
 ∀(R lp le lh:Addr) (H':Hp) (ps:List Addr) (dw:Int) (Z lam mu:Nat->Int),H lp=none->aG H H'->H' R=some (.tup [.ref lp,.ref le,.ref lh])->kN m Z (dw*d) H' lp ps->H' le=some (fZ (Z m) (dw*d))->H' lh=some (.lst (bE (fJ fr lam fr.length)))->Sm 13 dw->(∀i,Sm (80000+c+16) (Z i))->Cm.Cert m bt fr ks (fun g=>tb g*(dw*d)-Cm.pt m bt Z g) dw (Z m) lam mu->(∀k,k∈ks->Cm.pt m bt Z k=dw*X k)->Q (.ref R) H'
theorem jC:aO ["table","many","kept","free","bottom","columns","gains","group","top","column","told","prices","holding"] ["table","many","kept","free"] (aJ Kt):=by constructor<;>first|rfl|decide +kernel
theorem Mp {f1 f2 f3 f4 f5 f6:Addr}{fd1 fd2 fd3 fd4 fd5 fd6:qCl}(t:Tx K mg "least_lack" Kt ["table","many","kept","free"] f fd)(T:T K mg AL LN FR iF fCh fGM fCC fCA fPL SE NN NG NT NR NS NV NO NL NX TM UL)(D_common_bottom:Df P w K mg base cA 2 "common_bottom" ["fractions"] AJ f1 fd1)(D_marks_of:Df P w K mg base cA 1 "marks_of" ["group","many"] qA f2 fd2)(D_tops_over:Df P w K mg base cA 1 "tops_over" ["bottom","fractions"] AM f3 fd3)(D_below_nought:Df P w K mg base cA 1 "below_nought" ["column"] EO f4 fd4)(D_weigh:Df P w K mg base (fY P w) 5 "weigh" ["columns","due","gains"] (pZ K NR) f5 fd5)(D_fraction:Df P w K mg base (fY P w) 2 "fraction" ["top","bottom"] (uG K NN) f6 fd6):
  Df P w K mg base cA 6 "least_lack" ["table","many","kept","free"] Io f fd:=by
 refine t.iJ jC (fun vs H Q E h=>?_) (fun cdv _A outer s H vs Q E hr h=>?_)
 ·obtain⟨p,q,r,m,n,c,tbl,X,d,ks,fr,ws,rfl,_⟩:=h;rfl
 ·obtain⟨p,q,r,m,n,c,tbl,X,d,ks,fr,ws,rfl,hp,kp,hfr,m1,m6,hn,d0,c1,sd,sX,st,cnt,frn,Fy,ind,no,k⟩:=h;refine⟨_,(aD (aP (i:=4) jC.nd rfl (by first|exact .inl rfl|exact .inr rfl) (aV D_common_bottom hr (by decide) (by rfl) (aA (iB (by rfl) T.cQ rfl (pv 2)) aB)))
   (aD (cZ (NB:=["group","many"]) (pick:=[none,some 1]) (i:=5) jC.nd rfl bP (by rfl) (bF (by with_unfolding_all rfl) (by exact(And.intro rfl trivial)) rfl (by decide +kernel) (by decide +kernel) (by rfl) (by rfl)) rfl
     (bJ (pv 3)) (fun _ _ _=>aM (i:=0) (show(["group","many"]:List Str).Nodup from by decide +kernel) rfl bP)
     (fun _ _ _=>bI) (fun _ _ _=>(aQ (Dt K) (aV D_marks_of hr (by decide) (by rfl) (aA (pv 0) (aA (pv 1) aB))) (bL (aA aE aB)))))
   (aD (cZ (NB:=["group","bottom","table"]) (pick:=[none,some 4,some 0]) (i:=6) jC.nd rfl bP (by rfl) (bF (by with_unfolding_all rfl) (by exact(And.intro rfl (And.intro rfl trivial))) rfl (by decide +kernel) (by decide +kernel) (by rfl) (by rfl)) rfl
     (bJ (pv 3)) (fun _ _ _=>aM (i:=0) (show(["group","bottom","table"]:List Str).Nodup from by decide +kernel) rfl bP)
     (fun _ _ _=>bI) (fun _ _ _=>(aQ bS (aU (bV K) (pv 2) (pv 0) (fun _ _=>rfl)) (pv 1))))
   (aD (eL PassesOwn.never rfl (gU (by rfl) T.g4 (aA (dB (gH rfl) (by rfl) T.cQ c5 (aA (pv 2) aB)) (aA (aV D_tops_over hr (by decide) (by rfl) (aA (pv 4) (aA (iB (by rfl) T.cQ rfl (pv 2)) aB))) aB))) (fE rfl (bG (aM (i:=7) jC.nd rfl (by first|exact .inl rfl|exact .inr rfl)) (bG (aM (i:=8) jC.nd rfl bP) dH)))
    (aD (aP (i:=9) jC.nd rfl bP (aQ fM (aV D_marks_of hr (by decide) (by rfl) (aA (pv 7) (aA (pv 1) aB))) (bL (aA aE aB))))
    (aD (tI (i:=5) jC.nd rfl bP (bL (aA (pv 9) (aA (aV D_below_nought hr (by decide) (by rfl) (aA (pv 9) aB)) aB))) oN)
    (aH (tI (i:=6) jC.nd rfl bP (bL (aA (pv 8) (aA (gM fF (pv 8)) aB))) oN)))))
   (aD (aP (i:=10) jC.nd rfl (by first|exact .inl rfl|exact .inr rfl) (cR cI D_weigh hr (by decide) (by rfl) (aA (pv 5) (aA (aQ fM (aQ fL (bL (aA aE aB)) (pv 1)) (bL (aA aE aB))) (aA (pv 6) aB)))))
   (aD (cZ (NB:=["price","bottom"]) (pick:=[none,some 4]) (i:=11) jC.nd rfl bP (by rfl) (bF (by with_unfolding_all rfl) (by exact(And.intro rfl trivial)) rfl (by decide +kernel) (by decide +kernel) (by rfl) (by rfl)) rfl
     (bJ (aU bR (pv 10) aE (fun _ _=>rfl))) (fun _ _ _=>aM (i:=0) (show(["price","bottom"]:List Str).Nodup from by decide +kernel) rfl bP)
     (fun _ _ _=>bI) (fun _ _ _=>(cR cI D_fraction hr (by decide) (by rfl) (aA (aU (iZ K) (pv 0) aE (fun _ _=>rfl)) (aA (aQ bS (aU (iZ K) (pv 0) aE (fun _ _=>rfl)) (pv 1)) aB)))))
   (aD (cZ (NB:=["group","weight"]) (pick:=[none,none]) (i:=12) jC.nd rfl bP (by rfl) (bF (by with_unfolding_all rfl) (by exact trivial) rfl (by decide +kernel) (by decide +kernel) (by rfl) (by rfl)) rfl
     (gU (by rfl) T.g4 (aA (pv 3) (aA (aU bR (pv 10) aE (fun _ _=>rfl)) aB))) (fun _ _ _=>(show PG _ _ (oZ K 2 (eM (aZ 0) (eM (aZ 1) oY))) from fE rfl (bG (aM (i:=0) (show(["group","weight"]:List Str).Nodup from by decide +kernel) rfl bP) (bG (aM (i:=1) (show(["group","weight"]:List Str).Nodup from by decide +kernel) rfl bP) dH))))
     (fun _ _ _=>eZ (aW (pL K hr.units) (pv 1) (bQ (aA aE (aA aE aB))) (aX _))) (fun _ _ _=>(pv 0)))
   (aH (aS (bQ (aA (gO lK (pv 11) iX (iY (pv 1))) (aA (aU bC (pv 11) (pv 1) (fun _ _=>rfl)) (aA (pv 12) aB))))))))))))),?_⟩
  have hn64:n<=64:=by rw[hn];exact qBw (n:=2) (by decide) m6
  have f64:∀g,g∈fr->g<64:=fun g hg=>qAy (frn g hg) hn64;refine⟨_,rfl,q,_,rfl,.inl kp.hd,fun l1 hl1=>?_⟩;rw[Kp.vals kp.len];have u1:=aG.aF (o:=.lst (ws.map V.ref)) hl1;have e1:upd H l1 (.lst (ws.map V.ref)) l1=_:=aC;generalize upd H l1 (.lst (ws.map V.ref))=H1 at u1 e1|-;refine⟨l1,ks.length,fun j=>X (gN ks j),d,ws,rfl,⟨e1,kp.len,fun j w e=>u1 _ _ (kp.at_ j w e)⟩,d0,sd.mono (by lia),fun L lo=>?_⟩;have L0:=lo.pos;obtain⟨rr,hrr⟩:=lo.dvd;have r0:0<rr:=by
   refine Int.not_le.mp fun z=>?_;have:=qCr z (qCe L0);rw[<- hrr,qBy] at this;lia
  have sL:Sm c L:=sd.le (by have:=qFz d0 lo.dvd;lia);dsimp only[aZ];refine⟨_,rfl,r,rfl,⟨_,aR.of (u1 _ _ hfr)⟩,?_⟩;refine iK (xs:=bE fr) (fun j=>a9 (m+1) (sA m fr ks j)) (aR.of (u1 _ _ hfr)) (by rw[bH];exact qAk (aK (by lia))) (fun j y H4 kk kk0 s4 hy g1=>?_) fun lc cs H2 hlc s2 hcs ncs hD=>?_
  ·obtain⟨g,hg,rfl⟩:=fC hy;have hj:j<fr.length:=(List.getElem?_eq_some_iff.mp hg).1;refine⟨_,rfl,_,rfl,g,m,rfl,f64 g (qBa hg),m6,fun D H5 hD5 s5 h5=>?_⟩;refine⟨jD,fun l6 h6=>?_⟩;have u6:=aG.aF (o:=.lst [.int 1]) h6;have e6:upd H5 l6 (.lst [.int 1]) l6=_:=aC;generalize upd H5 l6 (.lst [.int 1])=H6 at u6 e6|-;refine⟨D,l6,_,_,rfl,rfl,aR.of (u6 _ _ h5),aR.of e6,by rw[aI,qCi];simp;lia,fun l7 h7=>?_⟩;have u7:=aG.aF (o:=.lst (a9 m (bt g)++[.int 1])) h7;refine g1 l7 _ (s5.trans (u6.trans u7)) ((s5.trans u6).free h7) ?_;rw[aC];have z:=zM m (sA m fr ks j);rw[((g6 m fr ks).f0 j hj).2] at z;rw[<- z];congr 3;refine dJ fun i hi=>?_;rw[((g6 m fr ks).f0 j hj).1 i hi];show bt g i=bt (gN fr j) i;rw[iO hg]
  rw[bH] at hcs;dsimp only[aZ];have s02:=u1.trans s2;refine⟨_,rfl,r,rfl,⟨_,aR.of (s02 _ _ hfr)⟩,?_⟩;refine cB (xs:=bE fr) (fun j _=>some (.int (tbl (gN fr j)*L))) (aR.of (s02 _ _ hfr)) (by rw[bH];exact qAk (aK (by lia))) (fun j y H4 kk kk0 s4 hy g1 g2=>?_) fun lg H3 hlg s3 hdg=>?_
  ·obtain⟨g,hg,rfl⟩:=fC hy;have hgn:=frn g (qBa hg);refine⟨_,rfl,_,rfl,p,_,_,_,rfl,rfl,aR.of (s4 _ _ (s02 _ _ hp)),bT hgn,_,rfl,_,_,rfl,rfl,(st _).mb sL (by decide) (by lia),?_⟩;exact g1 _ (by rw[iO hg]) _ (.refl _)
  rw[bH,jX _ (bH _)] at hdg;have s03:=s02.trans s3;dsimp only[aZ];have kp3:=kp.same s03;refine⟨_,rfl,q,_,rfl,.inl kp3.hd,fun la hla=>?_⟩;rw[Kp.keys kp.len];have u4:=aG.aF (o:=.lst (bE ks)) hla;have e4:upd H3 la (.lst (bE ks)) la=_:=aC;generalize upd H3 la (.lst (bE ks))=H4 at u4 e4|-;have kp4:=kp3.same u4;refine⟨_,rfl,_,rfl,q,_,rfl,.inl kp4.hd,fun lb hlb=>?_⟩;rw[Kp.vals kp.len];have u5:=aG.aF (o:=.lst (ws.map V.ref)) hlb;have e5:upd H4 lb (.lst (ws.map V.ref)) lb=_:=aC;generalize upd H4 lb (.lst (ws.map V.ref))=H5 at u5 e5|-;have kp5:=kp4.same u5;have kl:ks.length<=35:=by lia
  refine⟨lb,ks.length,fun j=>X (gN ks j),d,L,ws,rfl,⟨e5,kp.len,kp5.at_⟩,by lia,d0,sd.mono (by lia),fun j=>(sX _).mono (by lia),lo,fun lt H6 tt hlt s6 hd6 htt _=>?_⟩;have sg:∀j,j<ks.length->rr*tt j=X (gN ks j):=fun j hj=>by
   have z:=htt j hj;rw[hrr] at z;have:L*(rr*tt j)=L*X (gN ks j):=by grind
   exact qFj (by lia) this
  let tp:Nat->Int:=fun j=>if j<ks.length then tt j else 0
  have ett:a9 ks.length tt=a9 ks.length tp:=dJ fun j hj=>by show tt j=if j<ks.length then tt j else 0;rw[if_pos hj]
  rw[ett] at hd6;have sG':∀c',Sm (80000+c) (rr*sG tbl L fr tp c'):=fun c'=>by
   unfold sG;have stp:∀j,Sm (80000+c) (rr*tp j):=fun j=>by
    show Sm (80000+c) (rr*if j<ks.length then tt j else 0);split
    ·rename_i hj;rw[sg j hj];exact sX _
    ·rw[qBy];exact Sm.zero
   split
   ·rw[show rr*(tbl (gN fr c')*L)=tbl (gN fr c')*d by rw[hrr];grind];exact(st _).mul sd
   ·split
    ·exact stp _
    ·rw[qNj];exact(stp _).le (by rw[qLg];exact qAg _)
  have sgn:∀c',Sm 90000 (sG tbl L fr tp c'):=fun c'=>Sm.mono (Sm.le (sG' c') (by rw[qDx];exact qMc _ (by lia))) (by lia);have hdg3:H3 lg=some (.lst (a9 fr.length (sG tbl L fr tp))):=by
   rw[hdg];exact congrArg (fun l=>some (HO.lst l)) (dJ (f:=fun j=>tbl (gN fr j)*L) fun j hj=>by unfold sG;rw[if_pos hj])
  have s36:=u4.trans (u5.trans s6);have lglc:lg≠lc:=fun z=>by rw[z,hD] at hlg;cases hlg
  have lalc:la≠lc:=fun z=>by rw[z,s3 _ _ hD] at hla;cases hla
  have lalg:la≠lg:=fun z=>by rw[z,hdg3] at hla;cases hla
  have ltlc:lt≠lc:=fun z=>by rw[z,u5 _ _ (u4 _ _ (s3 _ _ hD))] at hlt;cases hlt
  have ltlg:lt≠lg:=fun z=>by rw[z,u5 _ _ (u4 _ _ hdg3)] at hlt;cases hlt
  have h0c:H lc=none:=u1.free hlc;have h0g:H lg=none:=s02.free hlg;refine⟨la,lt,rfl,⟨_,aR.of (s6 _ _ (u5 _ _ e4))⟩,⟨_,aR.of hd6⟩,?_⟩;refine tQ (xs:=bE ks) (ys:=a9 ks.length tp) (fun j σ' H'=>aG H H'/\H' la=some (.lst (bE ks))/\H' lt=some (.lst (a9 ks.length tp))/\∃(cs':List Addr) (o7 o8 o9:Option V),xK (m+1) (fr.length+2*j) (sA m fr ks) H' lc cs'/\(∀a,a∈cs'->a≠lg)/\H' lg=some (.lst (a9 (fr.length+2*j) (sG tbl L fr tp)))/\σ'=[some (.ref p),some (.int (m:Int)),some (.ref q),some (.ref r),some (.int L),some (.ref lc),some (.ref lg),o7,o8,o9,none,none,none])
   ⟨s03.trans s36,s6 _ _ (u5 _ _ e4),hd6,cs,_,_,_,⟨s36 _ _ (s3 _ _ hD),by rw[hcs];rfl,fun c' a e=>s36 _ _ (s3 _ _ (ncs.at_ c' a e).2.2)⟩,fun a ha z=>?_,s36 _ _ hdg3,rfl⟩ (fun j σ' H' _ ⟨_,ha,hb,_⟩=>⟨aR.of ha,aR.of hb⟩) (by rw[bH,aI]) (fun j x y tq σ' H' hx hy ht ⟨s',ha,hb,cs',o7,o8,o9,kc,nlg,hg',eσ⟩=>?_) (fun σ' H' ⟨s',ha,hb,cs',o7,o8,o9,kc,nlg,hg',eσ⟩=>?_)
  ·obtain⟨i,hi,e⟩:=qDb ha;have e:=ncs.at_ i a (by rw[qAd hi,e]);rw[z,hlg] at e;cases e.2.2
  ·subst eσ;obtain⟨g,hg,rfl⟩:=fC hx;obtain⟨hj,rfl⟩:=dE hy;have eg:gN ks j=g:=iO hg;have u7:=aG.aF (o:=.tup [.int (g:Int),.int (tp j)]) ht;have e7:upd H' tq (.tup [.int (g:Int),.int (tp j)]) tq=_:=aC;generalize upd H' tq (.tup [.int (g:Int),.int (tp j)])=H7 at u7 e7|-;refine⟨tq,_,rfl,cX.of e7,rfl,_,_,rfl,_,_,rfl,rfl,?_⟩;dsimp only[aZ];refine⟨_,rfl,_,rfl,g,m,rfl,Fy g (qBa hg),m6,fun D H8 hD8 s8 h8=>?_⟩;refine⟨jD,fun l9 h9=>?_⟩;have u9:=aG.aF (o:=.lst [.int 0]) h9;have e9:upd H8 l9 (.lst [.int 0]) l9=_:=aC;generalize upd H8 l9 (.lst [.int 0])=H9 at u9 e9|-;refine⟨D,l9,_,_,rfl,rfl,aR.of (u9 _ _ h8),aR.of e9,by rw[aI,qCi];simp;lia,fun l10 h10=>?_⟩;have u10:=aG.aF (o:=.lst (a9 m (bt g)++[.int 0])) h10;have e10:upd H9 l10 (.lst (a9 m (bt g)++[.int 0])) l10=some (.lst (a9 (m+1) (sA m fr ks (fr.length+2*j)))):=by
    rw[aC];have z:=zM m (sA m fr ks (fr.length+2*j));rw[((g6 m fr ks).k0 j hj).2] at z;rw[<- z];congr 3;refine dJ fun i hi=>?_;rw[((g6 m fr ks).k0 j hj).1 i hi];show bt g i=bt (gN ks j) i;rw[eg]
   generalize upd H9 l10 (.lst (a9 m (bt g)++[.int 0]))=H10 at u10 e10|-;dsimp only[aZ];refine⟨_,rfl,_,rfl,_,rfl,l10,m+1,_,rfl,e10,by lia,fun D2 H11 hD2 s11 hd11=>?_⟩;have e11:H11 D2=some (.lst (a9 (m+1) (sA m fr ks (fr.length+(2*j+1))))):=by
    rw[hd11];refine congrArg (fun l=>some (HO.lst l)) (dJ fun i hi=>?_);rcases qAm i m with z | z
    ·rw[((g6 m fr ks).k0 j hj).1 i z,((g6 m fr ks).k1 j hj).1 i z]
    ·rw[show i=m by lia,((g6 m fr ks).k0 j hj).2,((g6 m fr ks).k1 j hj).2];rfl
   refine⟨jB,fun l12 h12=>?_⟩;have u12:=aG.aF (o:=.lst [.ref l10,.ref D2]) h12;have e12:upd H11 l12 (.lst [.ref l10,.ref D2]) l12=_:=aC;generalize upd H11 l12 (.lst [.ref l10,.ref D2])=H12 at u12 e12|-;have s711:=s8.trans (u9.trans (u10.trans s11));have s12:=u7.trans (s711.trans u12);have kc12:=kc.same s12;have n10:l10≠lg:=fun z=>by rw[z,u9 _ _ (s8 _ _ (u7 _ _ hg'))] at h10;cases h10
   have n11:D2≠lg:=fun z=>by rw[z,u10 _ _ (u9 _ _ (s8 _ _ (u7 _ _ hg')))] at hD2;cases hD2
   refine⟨lc,l12,_,_,rfl,rfl,kc12.hq,e12,by rw[qAc,kc12.len,qCi];simp;lia,?_⟩;have kc13:=kc12.add (by lia) (u12 _ _ (s11 _ _ e10)) (u12 _ _ e11);have s13:aG H (upd H12 lc (.lst (cs'.map V.ref++[V.ref l10,V.ref D2]))):=(s'.trans s12).upd_ne' h0c;have ha13:upd H12 lc (.lst (cs'.map V.ref++[V.ref l10,V.ref D2])) la=some (.lst (bE ks)):=by rw[aL lalc];exact s12 _ _ ha
   have hb13:upd H12 lc (.lst (cs'.map V.ref++[V.ref l10,V.ref D2])) lt=some (.lst (a9 ks.length tp)):=by rw[aL ltlc];exact s12 _ _ hb
   have hg13:upd H12 lc (.lst (cs'.map V.ref++[V.ref l10,V.ref D2])) lg=some (.lst (a9 (fr.length+2*j) (sG tbl L fr tp))):=by rw[aL lglc];exact s12 _ _ hg'
   generalize upd H12 lc (.lst (cs'.map V.ref++[V.ref l10,V.ref D2]))=H13 at kc13 s13 ha13 hb13 hg13|-;refine⟨_,rfl,_,rfl,_,rfl,_,rfl,jB,fun l14 h14=>?_⟩;have u14:=aG.aF (o:=.lst [.int (tp j),.int (-tp j)]) h14;have e14:upd H13 l14 (.lst [.int (tp j),.int (-tp j)]) l14=_:=aC;generalize upd H13 l14 (.lst [.int (tp j),.int (-tp j)])=H14 at u14 e14|-;refine⟨lg,l14,_,_,rfl,rfl,u14 _ _ hg13,e14,by rw[aI,qCi];simp;lia,?_⟩;have kc14:=kc13.same u14;have nlg':∀a,a∈cs'++[l10,D2]->a≠lg:=fun a ha z=>by
    rcases List.mem_append.mp ha with q | q
    ·exact nlg a q z
    ·rcases List.mem_cons.mp q with q | q
     ·exact n10 (q.symm.trans z)
     ·exact n11 ((List.mem_singleton.mp q).symm.trans z)
   refine⟨(s13.trans u14).upd_ne' h0g,by rw[aL lalg];exact u14 _ _ ha13,by rw[aL ltlg];exact u14 _ _ hb13,cs'++[l10,D2],_,_,_,⟨by rw[aL (Ne.symm lglc)];exact kc14.hq,kc14.len,fun c' a e=>by rw[aL (nlg' a (qBa e))];exact kc14.at_ c' a e⟩,nlg',?_,rfl⟩;rw[aC];have z:=Mo (fr.length+2*j) (sG tbl L fr tp);rw[(AX tbl L fr ks tp).k0 j hj,show fr.length+2*j+1=fr.length+(2*j+1) by lia,(AX tbl L fr ks tp).k1 j hj] at z;rw[z];rfl
  ·subst eσ;rw[bH] at kc hg';refine⟨_,rfl,jD,fun b2 hb2=>?_⟩;have u8:=aG.aF (o:=.lst [.int 0]) hb2;have e8:upd H' b2 (.lst [.int 0]) b2=_:=aC;generalize upd H' b2 (.lst [.int 0])=H8 at u8 e8|-;refine⟨_,rfl,b2,_,_,rfl,rfl,e8,by lia,by lia,?_,fun b3 hb3=>?_⟩
   ·show 1*((m:Nat):Int).toNat<=qAf;exact qAk (aK (by lia))
   rw[qBl,eU];have u9:=aG.aF (o:=.lst (a9 m fun _=>0)) hb3;have e9:upd H8 b3 (.lst (a9 m fun _=>0)) b3=_:=aC;generalize upd H8 b3 (.lst (a9 m fun _=>0))=H9 at u9 e9|-;refine⟨jD,fun b4 hb4=>?_⟩;have u10:=aG.aF (o:=.lst [.int 1]) hb4;have e10:upd H9 b4 (.lst [.int 1]) b4=_:=aC;generalize upd H9 b4 (.lst [.int 1])=H10 at u10 e10|-;refine⟨b3,b4,_,_,rfl,rfl,aR.of (u10 _ _ e9),aR.of e10,by rw[aI,qCi];simp;lia,fun pd hpd=>?_⟩;have u11:=aG.aF (o:=.lst ((a9 m fun _=>0)++[.int 1])) hpd;have e11:upd H10 pd (.lst ((a9 m fun _=>0)++[.int 1])) pd=some (.lst (a9 (m+1) (sD m))):=by
    rw[aC];have z:=zM m (sD m);rw[show sD m m=1 by unfold sD;rw[if_neg (qDc _),if_pos rfl]] at z;rw[<- z];congr 3;exact dJ fun i hi=>by unfold sD;rw[if_pos hi]
   generalize upd H10 pd (.lst ((a9 m fun _=>0)++[.int 1]))=H11 at u11 e11|-;have s811:=u8.trans (u9.trans (u10.trans u11));have kc11:=kc.same s811;refine⟨_,rfl,?_⟩;dsimp only[fP,qBn,qBp];refine p6 (m:=m+1) (n:=fr.length+2*ks.length) (A:=sA m fr ks) (due:=sD m) (g:=sG tbl L fr tp) (GZ m6 cnt) (cs:=cs') ⟨kc11.hq,kc11.len,kc11.at_,e11⟩ (s811 _ _ hg') sgn fun R H12 s12 told=>?_;have sd0:∀i,i<m->sD m i=0:=fun i hi=>by unfold sD;rw[if_pos hi]
   have sd1:sD m m=1:=by unfold sD;rw[if_neg (qDc _),if_pos rfl]
   have s812:=s811.trans s12;rcases told with ⟨lw,lp,wts,ps,dw,XX,Y,to⟩ | ⟨lp,ps,dw,Y,to⟩ | ⟨lw,lp,wts,ps,dw,XX,ZZ,to⟩
   ·obtain⟨ce,hk⟩:=Cm.Gz (g6 m fr ks) (AX tbl L fr ks tp) r0 to.d0 sd0 sd1 to.x0 to.meets to.cols to.same;have Av:=to.d0;have sdw:Sm 13 dw:=Fd (n:=0) (by lia) to.dm (zK m fr ks) (zL m);have sZ:∀i,Sm (80000+c+16) (rr*Y i):=fun i=>Fe (by lia) to.ym (zK m fr ks) (zL m) r0 sG' i;have a1:gQ [V.str "best",V.ref lw,V.ref lp] 1=some (.ref lw):=rfl;have a2:gQ [V.str "best",V.ref lw,V.ref lp] 2=some (.ref lp):=rfl;have dd0:0<dw*d:=qGz Av d0;dsimp only[aZ];refine⟨_,rfl,R,_,_,_,rfl,rfl,cX.of to.tup,a2,lp,rfl,⟨_,aR.of to.fp.hr⟩,?_⟩;refine rO (xs:=ps.map V.ref) (fun i ys H'=>∃fs:List Addr,ys=fs.map V.ref/\fs.length=i/\∀(j:Nat) (w:Addr),fs[j]?=some w->H' w=some (fZ (rr*Y j) (dw*d))) ?_ ⟨[],rfl,rfl,fun j w e=>by cases e⟩ (aR.of to.fp.hr) (by rw[qAc,to.fp.len];exact qAk (aK (by lia))) (fun i y H13 kk kk0 ys s13 hy iv g1 g2=>?_) fun lq ys H13 hlq s13 iv hd13=>?_
    ·rintro i ys H1 H2 st ⟨fs,e1,e2,e3⟩;exact⟨fs,e1,e2,fun j w e=>st _ _ (e3 j w e)⟩
    ·obtain⟨fs,rfl,fl,fa⟩:=iv;obtain⟨wq,hw',rfl⟩:=dP hy;have hf:=s13 _ _ (to.fp.at_ i wq hw');obtain⟨t1,t2,_,t3⟩:=fH (X:=Y i) Av;have stb:Sm 13 (tb (Y i) dw):=nW (X:=Y i) Av sdw;refine⟨_,rfl,wq,_,_,_,rfl,rfl,cX.of hf,rfl,_,rfl,wq,_,_,_,rfl,rfl,cX.of hf,rfl,_,rfl,_,_,rfl,rfl,stb.mb sL (by decide) (by lia),?_⟩;dsimp only[fP,qBn,qBp];have tb0:0<tb (Y i) dw*L:=qGz (by lia) L0;refine pX (Int.ne_of_gt tb0) ((stb.mul sL).mono (by lia)) fun pf hpf=>?_;have u14:=aG.aF (o:=fZ (ta (Y i) dw) (tb (Y i) dw*L)) hpf;refine g1 _ _ u14 ⟨fs++[pf],by rw[qAu];rfl,by rw[qAp,fl];rfl,fun j w e=>?_⟩;rcases qAm j fs.length with z | z
     ·rw[qBd z] at e;exact u14 _ _ (fa j w e)
     ·rw[qBb z] at e;have hj:j-fs.length=0:=by
       have:=(List.getElem?_eq_some_iff.mp e).1;rw[qBk] at this;lia
      rw[hj] at e;obtain rfl:=Option.some.inj e;rw[show j=i by lia,aC];refine congrArg some (lC tb0 dd0 ?_);rw[hrr];exact GY t1
    ·obtain⟨fs,rfl,fl,fa⟩:=iv;rw[qAc,to.fp.len] at fl;have hfr13:=s13 _ _ (s812 _ _ (s' _ _ hfr));have hw13:=s13 _ _ to.fw.hr;have wl:wts.length=fr.length+2*ks.length:=to.fw.len;refine⟨_,rfl,_,rfl,R,_,_,_,rfl,rfl,cX.of (s13 _ _ to.tup),a1,r,lw,rfl,⟨_,aR.of hfr13⟩,⟨_,aR.of hw13⟩,?_⟩;refine BP (xs:=bE fr) (xs':=wts.map V.ref) (fun σ'=>∃o0 o1:Option V,σ'=[o0,o1]) (fun i ys H'=>ys=bE (fJ fr XX i)) (fun i ys H1 H2 st h=>h) ⟨_,_,rfl⟩ rfl (aR.of hfr13) (aR.of hw13) (by rw[bH,qAc];lia) (by rw[bH];exact qAk (aK (by lia))) (fun i x y tt' σ1 H14 kk kk0 ys hσ s14 hx hy ht iv g1 g2=>?_) fun lh ys H14 hlh s14 iv hd14=>?_
     ·obtain⟨o0,o1,rfl⟩:=hσ;obtain⟨g,hg,rfl⟩:=fC hx;obtain⟨w',hw',rfl⟩:=dP hy;have hfw:=s14 _ _ (s13 _ _ (to.fw.at_ i w' hw'));refine⟨tt',_,rfl,cX.of ht,rfl,?_⟩;refine⟨_,_,rfl,_,_,rfl,rfl,_,rfl,jB,fun z1 hz1=>?_⟩;have u15:=aG.aF (o:=.tup [.int 0,.int 1]) hz1;have x15:upd H14 z1 (.tup [.int 0,.int 1]) z1=_:=aC;generalize upd H14 z1 (.tup [.int 0,.int 1])=H15 at u15 x15|-;refine⟨_,_,uP (u15 _ _ hfw),.tup (cX.of x15) (.cons (.int _) (.cons (.int _) .nil)),fW _ _,fW _ _,_,rfl,?_⟩;rw[lD Av];by_cases e:XX i≠0
      ·refine cJ (fun _=>?_) (fun no=>absurd (decide_eq_true e) no);refine⟨_,rfl,g1 _ _ _ ⟨_,_,rfl⟩ u15 ?_⟩;rw[sV,if_pos e,iO hg,iv];unfold bE;rw[qAu];rfl
      ·refine cJ (fun y=>absurd (of_decide_eq_true y) e) (fun _=>g2 _ _ ⟨_,_,rfl⟩ u15 ?_);rw[sV,if_neg e];exact iv
     ·rw[bH] at iv;subst iv;have hq14:=s14 _ _ hd13;refine⟨_,rfl,_,rfl,_,rfl,lq,_,rfl,aR.of hq14,fun lz hlz=>?_⟩;have u15:=aG.aF (o:=.lst (gE (fs.map V.ref) none (some (m:Int)))) hlz;have e15:upd H14 lz (.lst (gE (fs.map V.ref) none (some (m:Int)))) lz=some (.lst ((fs.take m).map V.ref)):=by
       rw[aC,zC,qLl]
      generalize upd H14 lz (.lst (gE (fs.map V.ref) none (some (m:Int))))=H15 at u15 e15|-;have efm:fs[m]?=some fs[m]:=qAd (by lia);have am:gQ (fs.map V.ref) (m:Int)=some (.ref fs[m]):=fK (by rw[qAo,efm];rfl);refine⟨_,rfl,_,rfl,lq,_,_,_,rfl,rfl,aR.of (u15 _ _ hq14),am,_,rfl,IB,fun R2 hR2=>?_⟩;have u16:=aG.aF (o:=.tup [.ref lz,.ref fs[m],.ref lh]) hR2;have s1316:=s14.trans (u15.trans u16);have sAll:=s'.trans (s812.trans (s13.trans s1316));refine k R2 lz fs[m] lh _ (fs.take m) dw (fun i=>rr*Y i) XX (fun j=>XX (fr.length+2*j)-XX (fr.length+(2*j+1))) ((s'.trans (s812.trans (s13.trans s14))).free hlz) sAll aC ⟨u16 _ _ e15,by rw[qDz];lia,fun j w e=>?_⟩ (s1316 _ _ (fa m _ efm)) (u16 _ _ (u15 _ _ hd14)) sdw sZ ?_ fun q' hq'=>?_
      ·have hj:j<m:=by
        have:=(List.getElem?_eq_some_iff.mp e).1;rw[qDz] at this;lia
       rw[qLf hj] at e;exact s1316 _ _ (fa j w e)
      ·rw[hrr];exact ce
      ·obtain⟨j,hj,ej⟩:=qDb hq';have eg:gN ks j=q':=iO (by rw[qAd hj,ej]);have z:=hk j hj;have e2:ks.getD j 0=q':=eg;rw[e2] at z;rw[z,<- eg,<- sg j hj,show tp j=tt j from if_pos hj,qEa (tt j)]
   ·exact(Cm.GA (g6 m fr ks) sd0 sd1 no to.cols to.neg).elim
   ·exact(Cm.JQ (g6 m fr ks) (AX tbl L fr ks tp) ind to.z0 to.away to.more).elim
theorem Ff (m:Nat)(y:Nat->Int)(g:Nat):Cm.pt m bt y g=Cm.dot m y (bt g):=Wg.aY fun i _=>qEa _ _
theorem oU (ind:Cm.iN m (fX ks))(h:hZ m ks g=true):Cm.Tl m bt ks g:=fun y hy=>by
 rw[Ff];refine Cm.Told.dot ind (gK.mp h) fun v hv=>?_;obtain⟨k,hk,rfl⟩:=List.mem_map.mp hv;rw[<- Ff];exact hy k hk
theorem AY:∀(m:_root_.Fin 7) (g:_root_.Fin 64) (i:_root_.Fin 6),g.1<2^m.1->i.1<m.1->bt g.1 i.1=1*bt (2^m.1-1) i.1 + -1*bt (2^m.1-1-g.1) i.1:=by decide +kernel
theorem mK (m6:m<=6):2^m<=64:=qBw (n:=2) (by decide) m6
theorem qH (m6:m<=6)(hg:g<2^m)(ind:Cm.iN m (fX ks))(hN:2^m-1∈ks)(h:hZ m ks (2^m-1-g)=true):hZ m ks g=true:=by
 rw[gK] at h|-;have t:=Cm.Told.RK 1 (-1) (Cm.Told.self ind (v:=bt (2^m-1)) (List.mem_map.mpr ⟨_,hN,rfl⟩)) h;intro i hi;have:=mK m6;rw[Cm.uE ind (f:=bt g) (g:=fun i=>1*bt (2^m-1) i + -1*bt (2^m-1-g) i) (fun i hi=>AY ⟨m,by lia⟩ ⟨g,by lia⟩ ⟨i,by lia⟩ hg hi) i hi];exact t i hi
def Pr (m g:Nat):Prop:=1<=g/\g<2^m-1
def lF (m:Nat):List Nat:=(qAn (2^m-2)).map (· + 1)
theorem j4:g∈lF m↔Pr m g:=by
 unfold lF Pr;rw[qJt];constructor
 ·rintro⟨j,hj,rfl⟩;have:=List.mem_range.mp hj;lia
 ·rintro⟨a,b⟩;exact⟨g-1,List.mem_range.mpr (by lia),by lia⟩
theorem Ha (m:Nat):(lF m).Nodup:=List.pairwise_map.mpr (List.nodup_range.imp fun h e=>h (by lia))
theorem qI (m6:m<=6):(lF m).length<=62:=by
 unfold lF;rw[qAc,qAs];have:=mK m6;lia
def cY (m:Nat)(ks:List Nat):List Nat:=(lF m).filter fun g=>!hZ m ks g
theorem eJ:g∈cY m ks↔Pr m g/\hZ m ks g=false:=by
 unfold cY;rw[qIg,j4];cases hZ m ks g <;> simp
theorem Hb {l:List Nat}(nd:l.Nodup){p q:Nat->Bool}{a b:Nat}(ab:a≠b)(ha:a∈l)(hb:b∈l)(pa:p a=true)(pb:p b=true)(qa:q a=false)(qb:q b=false)(sub:∀x,q x=true->p x=true):(l.filter q).length+2<=(l.filter p).length:=by
 have h:=Cm.sub_len (l:=a::b::l.filter q) (l':=l.filter p) ?_ ?_
 ·simpa using h
 ·refine List.nodup_cons.mpr ⟨fun z=>?_,List.nodup_cons.mpr ⟨fun z=>?_,nd.filter _⟩⟩
  ·rcases List.mem_cons.mp z with z | z
   ·exact ab z
   ·rw[(List.mem_filter.mp z).2] at qa;cases qa
  ·rw[(List.mem_filter.mp z).2] at qb;cases qb
 ·intro x hx;rcases List.mem_cons.mp hx with rfl | hx
  ·exact List.mem_filter.mpr ⟨ha,pa⟩
  ·rcases List.mem_cons.mp hx with rfl | hx
   ·exact List.mem_filter.mpr ⟨hb,pb⟩
   ·obtain⟨a,b⟩:=List.mem_filter.mp hx;exact List.mem_filter.mpr ⟨a,sub x b⟩
def eV (m:Nat)(ks hl:List Nat):List Nat:=hl.foldl (fun acc g=>if hZ m acc g=true then acc else acc++[g]) ks
theorem gL (m:Nat)(ks hl:List Nat)(g:Nat):eV m ks (hl++[g])=if hZ m (eV m ks hl) g=true then eV m ks hl else eV m ks hl++[g]:=by
 unfold eV;rw[qHp];rfl
theorem AZ (ks:List Nat)(k:Nat):fX (ks++[k])=fX ks++[bt k]:=by unfold fX;rw[qAu];rfl
theorem mL (ind:Cm.iN m (fX ks))(h:¬hZ m ks g=true):Cm.iN m (fX (ks++[g])):=by
 rw[AZ];exact ind.snoc (Cm.r6 fun z=>h (gK.mpr z))
theorem qJ (h:hZ m ks g=true):hZ m (ks++[k]) g=true:=by
 rw[gK] at h|-;rw[AZ];exact h.snoc
theorem qK (ind:Cm.iN m (fX ks))(h:g∈ks):hZ m ks g=true:=gK.mpr (Cm.Told.self ind (List.mem_map.mpr ⟨g,h,rfl⟩))
theorem mM (m:Nat)(ks hl:List Nat):∃t,eV m ks hl=ks++t/\∀k,k∈t->k∈hl:=by
 induction hl using Cm.snocInd with
 | nil=>exact⟨[],(qDo _).symm,fun k hk=>by cases hk⟩
 | append_singleton hl g ih =>
  obtain⟨t,e,h⟩:=ih;rw[gL];split
  ·exact⟨t,e,fun k hk=>qCc _ (h k hk)⟩
  ·refine⟨t++[g],by rw[e,qHq],fun k hk=>?_⟩;rcases List.mem_append.mp hk with z | z
   ·exact qCc _ (h k z)
   ·exact qAv _ z
theorem mO (ind:Cm.iN m (fX ks))(hl:List Nat):Cm.iN m (fX (eV m ks hl)):=by
 induction hl using Cm.snocInd with
 | nil=>exact ind
 | append_singleton hl g ih =>
  rw[gL];split
  ·exact ih
  ·rename_i h;exact mL ih h
theorem sW (h:hZ m ks g=true)(hl:List Nat):hZ m (eV m ks hl) g=true:=by
 induction hl using Cm.snocInd with
 | nil=>exact h
 | append_singleton hl g ih =>
  rw[gL];split
  ·exact ih
  ·exact qJ ih
theorem nJ (ind:Cm.iN m (fX ks)){hl:List Nat}:∀g,g∈hl->hZ m (eV m ks hl) g=true:=by
 induction hl using Cm.snocInd with
 | nil=>intro g hg;cases hg
 | append_singleton hl q ih =>
  intro g hg;have i2:=mO ind (hl++[q]);rw[gL] at i2|-;rcases List.mem_append.mp hg with z | z
  ·split
   ·exact ih g z
   ·exact qJ (ih g z)
  ·obtain rfl:=List.mem_singleton.mp z;split
   ·assumption
   ·rename_i h;rw[if_neg h] at i2;exact qK i2 (qAv _ (List.mem_singleton.mpr rfl))
theorem Fg {m:Nat}{ks:List Nat}(m6:m<=6)(ind:Cm.iN m (fX ks))(hN:2^m-1∈ks)(c:(cY m ks).length+2*ks.length<=64){hl:List Nat}(hp:∀g,g∈hl->Pr m g):(cY m (eV m ks hl)).length+2*(eV m ks hl).length<=64:=by
 induction hl using Cm.snocInd with
 | nil=>exact c
 | append_singleton hl g ih =>
  have ih:=ih fun q hq=>hp q (qCc _ hq);have i1:=mO ind hl;obtain⟨t,e,_⟩:=mM m ks hl;have hN1:2^m-1∈eV m ks hl:=by rw[e];exact qCc _ hN
  rw[gL];split
  ·exact ih
  ·rename_i no;have pg:Pr m g:=hp g (qAv _ (List.mem_singleton.mpr rfl));have i2:=mL i1 no;have g2:g<2^m:=by have:=pg.2;lia
   have hN2:2^m-1∈eV m ks hl++[g]:=qCc _ hN1;have self:hZ m (eV m ks hl++[g]) g=true:=qK i2 (qAv _ (List.mem_singleton.mpr rfl));have pc:Pr m (2^m-1-g):=⟨by have:=pg.2;lia,by have:=pg.1;have:=pg.2;lia⟩;have nc:¬hZ m (eV m ks hl) (2^m-1-g)=true:=fun z=>no (qH m6 g2 i1 hN1 z);have sc:hZ m (eV m ks hl++[g]) (2^m-1-g)=true:=by
    refine qH m6 (by have:=pc.2;lia) i2 hN2 ?_;rw[show 2^m-1-(2^m-1-g)=g by have:=pg.2;lia];exact self
   have ne:g≠2^m-1-g:=fun z=>by
    have m1:1<=m:=by
     refine qNr fun z=>?_;rw[z] at pg;have:=pg.1;have:=pg.2;lia
    have:=pg.2;obtain⟨u,rfl⟩:∃u,m=u+1:=⟨m-1,by lia⟩;rw[qIk] at z this;lia
   have z:=Hb (Ha m) (p:=fun x=>!hZ m (eV m ks hl) x) (q:=fun x=>!hZ m (eV m ks hl++[g]) x) ne (j4.mpr pg) (j4.mpr pc) (by rw[qKd] at no;rw[no];rfl) (by rw[qKd] at nc;rw[nc];rfl) (by rw[self];rfl) (by rw[sc];rfl) fun x hx=>by
    cases q:hZ m (eV m ks hl) x with
    | false=>rfl
    | true=>rw[qJ q] at hx;cases hx
   have z:(cY m (eV m ks hl++[g])).length+2<=(cY m (eV m ks hl)).length:=z;rw[qAp,qBk];lia
theorem Ba:(cY m ks).filter (fun g=>!hZ m (eV m ks hl) g)=cY m (eV m ks hl):=by
 unfold cY;rw[List.filter_filter];refine qNt fun g _=>?_;cases q:hZ m ks g with
 | false=>simp
 | true=>rw[sW q];rfl
theorem Ck:∀(m:_root_.Fin 7) (g:_root_.Fin 64),1<=g.1->g.1<2^m.1-1->Cm.pt m.1 bt (fun i=>bt g.1 i*m.1-Cm.pt m.1 bt (fun _=>1) g.1) (2^m.1-1)=0/\Cm.pt m.1 bt (fun i=>bt g.1 i*m.1-Cm.pt m.1 bt (fun _=>1) g.1) g.1≠0:=by decide +kernel
theorem tD (m6:m<=6)(pg:Pr m g):¬Cm.Tl m bt [2^m-1] g:=fun z=>by
 have:=mK m6;obtain⟨a,b⟩:=Ck ⟨m,by lia⟩ ⟨g,by have:=pg.2;lia⟩ pg.1 pg.2;exact b (z _ fun k hk=>by rw[List.mem_singleton.mp hk];exact a)
theorem Fh:∀(m:_root_.Fin 7) (g:_root_.Fin 64),1<=g.1->g.1<2^m.1->1<=Cm.pt m.1 bt (fun _=>1) g.1:=by decide +kernel
structure tE (m:Nat) (tb:Nat->Int) (ks:List Nat) (Z:Nat->Int) (d ev:Int):Prop where
 ind:Cm.iN m (fX ks)
 hN:2^m-1∈ks
 kP:∀k,k∈ks->k=2^m-1\/Pr m k
 cnt:(cY m ks).length+2*ks.length<=64
 d0:0<d
 sd:Sm (24*ks.length) d
 sZ:∀i,Sm (80000+24*ks.length-8) (Z i)
 whole:Cm.pt m bt Z (2^m-1)=tb (2^m-1)*d
 Rt:Cm.Qy m bt (2^m-1) (Pr m) ks fun g=>tb g*d-Cm.pt m bt Z g
 low:∀g,g∈cY m ks->tb g*d-Cm.pt m bt Z g<=ev
 old:∀k,k∈ks->k≠2^m-1->ev<=tb k*d-Cm.pt m bt Z k
theorem uR (m:Nat)(y z:Nat->Int)(c:Int)(g:Nat):Cm.pt m bt (fun i=>z i-c*y i) g=Cm.pt m bt z g-c*Cm.pt m bt y g:=by
 have e:Cm.pt m bt (fun i=>z i-c*y i) g=Wg.sm m (fun i=>bt g i*z i + -c*(bt g i*y i)):=Wg.aY fun i _=>by grind
 rw[e,Wg.fG,Wg.bK];unfold Cm.pt;grind
theorem tE.QW {m:Nat}{tb:Nat->Int}{ks:List Nat}{Z:Nat->Int}{d ev:Int}(h:tE m tb ks Z d ev):1<=ks.length:=qGf h.hN
theorem tE.Fy {m:Nat}{tb:Nat->Int}{ks:List Nat}{Z:Nat->Int}{d ev:Int}(m6:m<=6)(h:tE m tb ks Z d ev):∀k,k∈ks->k<64:=fun k hk=>by
 have:=mK m6;have:=qGy m;rcases h.kP k hk with z | z
 ·lia
 ·have:=z.2;lia
theorem tE.sP {m:Nat}{tb:Nat->Int}{ks:List Nat}{Z:Nat->Int}{d ev:Int}(m6:m<=6)(h:tE m tb ks Z d ev)(g:Nat):Sm (80000+24*ks.length) (Cm.pt m bt Z g):=by
 have l1:=h.QW;refine(sN (a:=2+(80000+24*ks.length-8)) m fun i _=>(p9 g i).mul (h.sZ i)).mono (by lia)
theorem tE.no {m:Nat}{tb:Nat->Int}{ks:List Nat}{Z:Nat->Int}{d ev:Int}(m6:m<=6)(h:tE m tb ks Z d ev)(fn:cY m ks≠[])(y:Nat->Int)(hy:∀k,k∈ks->Cm.pt m bt y k=0):∃g,g∈cY m ks/\Cm.pt m bt y g<=0:=by
 obtain⟨g,hg⟩:=List.exists_mem_of_ne_nil _ fn;obtain⟨pg,tg⟩:=eJ.mp hg;have:=mK m6;have g2:g<2^m:=by have:=pg.2;lia
 have pc:Pr m (2^m-1-g):=⟨by have:=pg.2;lia,by have:=pg.1;have:=pg.2;lia⟩;by_cases z:Cm.pt m bt y g<=0
 ·exact⟨g,hg,z⟩
 ·refine⟨2^m-1-g,eJ.mpr ⟨pc,?_⟩,?_⟩
  ·cases q:hZ m ks (2^m-1-g) with
   | false=>rfl
   | true=>rw[qH m6 g2 h.ind h.hN q] at tg;cases tg
  ·have e:Cm.pt m bt y g=Cm.pt m bt y (2^m-1) + -1*Cm.pt m bt y (2^m-1-g):=by
    unfold Cm.pt;rw[<- Wg.bK,<- Wg.fG];exact Wg.aY fun i hi=>by rw[AY ⟨m,by lia⟩ ⟨g,by lia⟩ ⟨i,by lia⟩ g2 hi];grind
   rw[hy _ h.hN] at e;lia
theorem qL (h:j<gs.length):gN gs j∈gs:=Cm.mem_getD h
theorem tE.grow {m:Nat}{tb:Nat->Int}{ks:List Nat}{Z:Nat->Int}{d ev:Int}(h:tE m tb ks Z d ev){lk lam mu:Nat->Int}{dw e2:Int}(ce:Cm.Cert m bt (cY m ks) ks lk dw e2 lam mu):ks.length<(eV m ks (fJ (cY m ks) lam (cY m ks).length)).length:=by
 obtain⟨c,hc,ne⟩:=ce.some;have hm:gN (cY m ks) c∈fJ (cY m ks) lam (cY m ks).length:=g7.mpr ⟨c,hc,ne,rfl⟩;have t:=nJ h.ind _ hm;obtain⟨t',e,_⟩:=mM m ks (fJ (cY m ks) lam (cY m ks).length);cases t' with
 | nil =>
  rw[e,qDo,(eJ.mp (qL hc)).2] at t;cases t
 | cons x xs=>rw[e,qAp,qCn];lia
theorem tE.step {m:Nat}{tb:Nat->Int}{ks:List Nat}{Z Z':Nat->Int}{d ev dw:Int}{lam mu:Nat->Int}(m1:1<=m)(m6:m<=6)(h:tE m tb ks Z d ev)(ce:Cm.Cert m bt (cY m ks) ks (fun g=>tb g*(dw*d)-Cm.pt m bt Z' g) dw (Z' m) lam mu)
  (same:∀k,k∈ks->Cm.pt m bt Z' k=dw*Cm.pt m bt Z k) (sw:Sm 13 dw) (sZ':∀i,Sm (80000+24*ks.length+16) (Z' i)) :
  tE m tb (eV m ks (fJ (cY m ks) lam (cY m ks).length)) Z' (dw*d) (Z' m):=by
 have hlP:∀g,g∈fJ (cY m ks) lam (cY m ks).length->Pr m g:=fun g hg=>by
  obtain⟨c,hc,_,rfl⟩:=g7.mp hg;exact(eJ.mp (qL hc)).1
 have gr:=h.grow ce;have told:∀g,g∈fJ (cY m ks) lam (cY m ks).length->hZ m (eV m ks (fJ (cY m ks) lam (cY m ks).length)) g=true:=nJ h.ind;have hmem:∀c,c<(cY m ks).length->lam c≠0->(cY m ks).getD c 0∈fJ (cY m ks) lam (cY m ks).length:=fun c hc ne=>g7.mpr ⟨c,hc,ne,rfl⟩;have idx:∀g,g∈fJ (cY m ks) lam (cY m ks).length->∃c,c<(cY m ks).length/\lam c≠0/\(cY m ks).getD c 0=g:=fun g hg=>g7.mp hg;have hold:∀g,g∈fJ (cY m ks) lam (cY m ks).length->tb g*(dw*d)-Cm.pt m bt Z' g=Z' m:=fun g hg=>by
  obtain⟨c,hc,ne,rfl⟩:=g7.mp hg;exact ce.hold c hc ne
 obtain⟨t,e,ht⟩:=mM m ks (fJ (cY m ks) lam (cY m ks).length);have ind':=mO h.ind (fJ (cY m ks) lam (cY m ks).length);have cnt':=Fg m6 h.ind h.hN h.cnt hlP;have more:=fun g (z:hZ m ks g=true)=>sW z (fJ (cY m ks) lam (cY m ks).length);generalize eV m ks (fJ (cY m ks) lam (cY m ks).length)=ks' at *;generalize fJ (cY m ks) lam (cY m ks).length=hl at *;have sub:∀k,k∈ks->k∈ks':=fun k hk=>by rw[e];exact qCc _ hk
 have new:∀k,k∈ks'->k∈ks\/k∈hl:=fun k hk=>by
  rw[e] at hk;rcases List.mem_append.mp hk with z | z
  ·exact .inl z
  ·exact .inr (ht k z)
 have JO:Z' m<=dw*ev:=by
  refine ce.JO (y:=fun i=>Z' i-dw*Z i) (fun k hk=>?_) fun g hg=>?_
  ·rw[uR,same k hk];lia
  ·rw[uR];have:=qCr (h.low g hg) (qCe ce.Av);rw[Int.mul_sub] at this;have e1:tb g*(dw*d)=dw*(tb g*d):=by grind
   show Cm.pt m bt Z' g-dw*Cm.pt m bt Z g+(tb g*(dw*d)-Cm.pt m bt Z' g)<=dw*ev;lia
 have teq:∀g,Cm.Tl m bt ks g->Cm.pt m bt Z' g=dw*Cm.pt m bt Z g:=fun g hg=>by
  have:=hg (fun i=>Z' i-dw*Z i) fun k hk=>by rw[uR,same k hk];lia
  rw[uR] at this;lia
 have lks:∀g,Cm.Tl m bt ks g->tb g*(dw*d)-Cm.pt m bt Z' g=dw*(tb g*d-Cm.pt m bt Z g):=fun g hg=>by rw[teq g hg];grind
 have old1:∀k,k∈ks->k≠2^m-1->Z' m<=tb k*(dw*d)-Cm.pt m bt Z' k:=fun k hk ne=>by
  rw[lks k (Cm.Tl.self hk)];exact qMo JO (qCr (h.old k hk ne) (qCe ce.Av))
 have p64:=mK m6;refine⟨ind',sub _ h.hN,fun k hk=>?_,cnt',qGz ce.Av h.d0,?_,fun i=>(sZ' i).mono (by lia),?_,?_,fun g hg=>?_,fun k hk ne=>?_⟩
 ·rcases new k hk with z | z
  ·exact h.kP k z
  ·exact .inr (hlP k z)
 ·exact(sw.mul h.sd).mono (by lia)
 ·rw[teq _ (Cm.Tl.self h.hN),h.whole];grind
 ·refine ce.step h.Rt sub (fun k hk=>?_) (fun c hc ne=>oU ind' (told _ (hmem c hc ne))) (fun g hg=>(eJ.mp hg).1) (fun g pg nt=>?_) (fun g _ tg=>lks g tg) h.kP h.hN old1 (fun g pg=>?_) ?_
  ·rcases new k hk with z | z
   ·exact .inl z
   ·exact .inr (idx k z)
  ·refine eJ.mpr ⟨pg,?_⟩;cases q:hZ m ks g with
   | false=>rfl
   | true=>exact absurd (oU h.ind q) nt
  ·exact Fh ⟨m,by lia⟩ ⟨g,by have:=pg.2;lia⟩ pg.1 (by show g<2^m;have:=pg.2;lia)
  ·have:2<=2^m:=qBw (n:=2) (i:=1) (by decide) m1;have:=Fh ⟨m,by lia⟩ ⟨2^m-1,by lia⟩ (by show 1<=2^m-1;lia) (by show 2^m-1<2^m;lia);show 0<Cm.pt m bt (fun _=>1) (2^m-1);exact Int.lt_of_lt_of_le (by decide) this
 ·obtain⟨pg,tg⟩:=eJ.mp hg;refine ce.low g (eJ.mpr ⟨pg,?_⟩);cases q:hZ m ks g with
  | false=>rfl
  | true=>rw[more g q] at tg;cases tg
 ·rcases new k hk with z | z
  ·exact old1 k z ne
  ·rw[hold k z];exact qDq _
theorem Hc (m:Nat):fA 1 (2^m-2)=bE (lF m):=by
 unfold fA bE lF;rw[qCz];refine qMt fun j _=>?_;show V.int (1+(j:Int))=V.int ((j+1:Nat):Int);congr 1;lia
theorem Kp.add {ks:List Nat}{X:Nat->Int}{d:Int}{H:Hp}{q w:Addr}{ws:List Addr}{k:Nat}(h:Kp ks X d H q ws)(nk:k∉ks)(hw:H w=some (fZ (X k) d)):Kp (ks++[k]) X d (upd H q (.dK (putK ((ks.zip ws).map fun kw=>((Sum.inl (kw.1:Int):Key),V.ref kw.2)) (Sum.inl (k:Int)) (.ref w)))) q (ws++[w]):=by
 have no:¬(((ks.zip ws).map fun kw=>((Sum.inl (kw.1:Int):Key),V.ref kw.2)).any fun kv=>decide (kv.1=Sum.inl (k:Int)))=true:=fun z=>by
  obtain⟨kv,hkv,e⟩:=List.any_eq_true.mp z;obtain⟨kw,hkw,rfl⟩:=List.mem_map.mp hkv;have e:(kw.1:Int)=(k:Int):=Sum.inl.inj (of_decide_eq_true e);have e:kw.1=k:=by lia
  exact nk (e▸(qFu (a:=kw.1) (b:=kw.2) hkw).1)
 have ne:∀(a:Addr) (y:Int),H a=some (fZ y d)->a≠q:=fun a y e z=>by rw[z,h.hd] at e;cases e
 refine⟨?_,by rw[qAp,qAp,h.len];rfl,fun j a e=>?_⟩
 ·rw[aC];unfold putK;rw[if_neg no,qKp h.len.symm,qAu];rfl
 ·rcases qAm j ws.length with z | z
  ·rw[qBd z] at e;have w':=h.at_ j a e;rw[aL (ne _ _ w'),w'];unfold gN;rw[qAq,qAq,qBd (by rw[<- h.len];exact z)]
  ·rw[qBb z] at e;have hj:j-ws.length=0:=by
    have:=(List.getElem?_eq_some_iff.mp e).1;rw[qBk] at this;lia
   rw[hj] at e;obtain rfl:=Option.some.inj e;rw[aL (ne _ _ hw),hw];unfold gN;rw[qAq,qBb (by rw[<- h.len];exact z),<- h.len,hj];rfl
def z0 (x:Int)(i:Nat):Int:=if i=0 then x else 0
theorem Ip (m1:1<=m)(m6:m<=6)(x:Int):Cm.pt m bt (z0 x) (2^m-1)=x:=by
 unfold Cm.pt;rw[Wg.gA (k:=0) (by lia) fun i _ ne=>by show bt _ i*(if i=0 then x else 0)=0;rw[if_neg ne,qBy],mF ⟨m,by lia⟩ ⟨0,by lia⟩ (by show 0<m;lia)];show 1*(if 0=0 then x else 0)=x;rw[if_pos rfl,qCk]
theorem QX {m:Nat}{tb:Nat->Int}(m1:1<=m)(m6:m<=6)(st:∀j,Sm 80000 (tb j)):∃ev,tE m tb [2^m-1] (z0 (tb (2^m-1))) 1 ev:=by
 obtain⟨ev,hev⟩:∃ev,∀g,g∈cY m [2^m-1]->tb g*1-Cm.pt m bt (z0 (tb (2^m-1))) g<=ev:=by
  by_cases e:cY m [2^m-1]=[]
  ·exact⟨0,fun g hg=>by rw[e] at hg;cases hg⟩
  ·obtain⟨g,_,mx⟩:=Cm.t8 (fun g=>tb g*1-Cm.pt m bt (z0 (tb (2^m-1))) g) e;exact⟨_,mx⟩
 have ind:Cm.iN m (fX [2^m-1]):=mL (ks:=[]) (fun r hr=>by cases hr) fun z=>by
  have z:=gK.mp z 0 (by lia);have z:bt (2^m-1) 0=0:=z;rw[mF ⟨m,by lia⟩ ⟨0,by lia⟩ (by show 0<m;lia)] at z;cases z
 refine⟨ev,ind,List.mem_singleton.mpr rfl,fun k hk=>.inl (List.mem_singleton.mp hk),?_,by decide,Sm.of 2 (by decide) (by show 2<=24*1;decide),fun i=>?_,by rw[Ip m1 m6,qGj],?_,hev,fun k hk ne=>absurd (List.mem_singleton.mp hk) ne⟩
 ·have:=qEz (fun g=>!hZ m [2^m-1] g) (lF m);have:=qI m6;show(List.filter (fun g=>!hZ m [2^m-1] g) (lF m)).length+2*1<=64;lia
 ·show Sm _ (if i=0 then tb (2^m-1) else 0);split
  ·exact(st _).mono (by show 80000<=80000+24*1-8;decide)
  ·exact Sm.zero
 ·intro S _ y _ _ g pg tg _;exact absurd tg (tD m6 pg)
theorem Hd (m1:1<=m)(m6:m<=6)(ind:Cm.iN m (fX [2^m-1]))(e:cY m [2^m-1]=[]):m=1:=by
 rcases qAm 1 m with z | z
 ·have h2:2^2<=2^m:=qBw (by decide) z;have p1:Pr m 1:=⟨by decide,by lia⟩;have:1∈cY m [2^m-1]:=eJ.mpr ⟨p1,by
   cases q:hZ m [2^m-1] 1 with
   | false=>rfl
   | true=>exact absurd (oU ind q) (tD m6 p1)⟩
  rw[e] at this;cases this
 ·lia
def Iq:Sp:=fun vs H Q _=>∃(p:Addr) (m n:Nat) (tb:Nat->Int),vs=[.ref p,.int (m:Int)]/\H p=some (.lst (a9 n tb))/\1<=m/\m<=6/\n=2^m/\(∀j,Sm 80000 (tb j)) /\
 ∀(l:Addr) (H':Hp) (ps:List Addr) (ks:List Nat) (Z:Nat->Int) (d ev:Int),H l=none->aG H H'->kN m Z d H' l ps->tE m tb ks Z d ev->cY m ks=[]->Q (.ref l) H'
theorem mP:aO ["table","many","whole","kept","shares","free","found","group"] ["table","many"] (aJ Ku):=by constructor<;>first|rfl|decide +kernel
theorem Mq {f1 f2 f3 f4:Addr}{fd1 fd2 fd3 fd4:qCl}(t:Tx K mg "calm_shares" Ku ["table","many"] f fd)(T:T K mg AL LN FR iF fCh fGM fCC fCA fPL SE NN NG NT NR NS NV NO NL NX TM UL)(D_whole_company:Df P w K mg base cA 1 "whole_company" ["many"] Ez f1 fd1)(D_untold:Df P w K mg base cA 2 "untold" ["groups","kept","many"] ET f2 fd2)(D_least_lack:Df P w K mg base cA 6 "least_lack" ["table","many","kept","free"] Io f3 fd3)(D_minus:Df P w K mg base cA 3 "minus" ["one","other"] EN f4 fd4):
  Df P w K mg base cA 7 "calm_shares" ["table","many"] Iq f fd:=by
 refine t.iJ mP (fun vs H Q E h=>?_) (fun cdv _A outer s H vs Q E hr h=>?_)
 ·obtain⟨p,m,n,tbl,rfl,_⟩:=h;rfl
 ·obtain⟨p,m,n,tbl,rfl,hp,m1,m6,hn,st,k⟩:=h;refine⟨_,(aD (aP (i:=2) mP.nd rfl bP (aV D_whole_company hr (by decide) (by rfl) (aA (pv 1) aB)))
   (aD (aP (i:=3) mP.nd rfl bP (DF (pv 2) (bQ (aA (aU bC (pv 0) (pv 2) (fun _ _=>rfl)) (aA aE aB)))))
   (aD (aP (i:=4) mP.nd rfl bP (bL (aA (bQ (aA (aU bC (pv 0) (pv 2) (fun _ _=>rfl)) (aA aE aB))) aB)))
   (aD (aP (i:=5) mP.nd rfl bP (aV D_untold hr (by decide) (by rfl) (aA (kU (by rfl) T.cQ (by rfl) T.cM rfl (aA aE (aA (pv 2) aB))) (aA (dB (gH rfl) (by rfl) T.cQ c5 (aA (pv 3) aB)) (aA (pv 1) aB)))))
   (aD (pA PassesOwn.never (aW uZ (aN aT (by rfl) T.cK bY (aA (pv 5) aB)) aE (aX _))
    (aD (aP (i:=6) mP.nd rfl bP (aV D_least_lack hr (by decide) (by rfl) (aA (pv 0) (aA (pv 1) (aA (pv 3) (aA (pv 5) aB))))))
    (aD (aP (i:=4) mP.nd rfl bP (aU bR (pv 6) aE (fun _ _=>rfl)))
    (aD (eL PassesOwn.never rfl (bJ (aU bR (pv 6) aE (fun _ _=>rfl))) (aM (i:=7) mP.nd rfl bP)
     (aH (bU (aW uZ (aN aT (by rfl) T.cK bY (aA (aV D_untold hr (by decide) (by rfl) (aA (bL (aA (pv 7) aB)) (aA (dB (gH rfl) (by rfl) T.cQ c5 (aA (pv 3) aB)) (aA (pv 1) aB)))) aB)) aE (aX _)) (aH (Af (CO hr) (pv 3) (pv 7) (aV D_minus hr (by decide) (by rfl) (aA (bQ (aA (aU bC (pv 0) (pv 7) (fun _ _=>rfl)) (aA aE aB))) (aA (aU bR (pv 6) aE (fun _ _=>rfl)) aB))) rfl)) a8)))
    (aH (aP (i:=5) mP.nd rfl bP (aV D_untold hr (by decide) (by rfl) (aA (pv 5) (aA (dB (gH rfl) (by rfl) T.cQ c5 (aA (pv 3) aB)) (aA (pv 1) aB))))))))))
   (aH (aS (pv 4)))))))),?_⟩
  have n2:2<=n:=by rw[hn];exact qBw (n:=2) (i:=1) (by decide) m1
  have eN:((2^m:Int)-1)=((n-1:Nat):Int):=by
   have:((2^m:Nat):Int)=2^m:=by exact_mod_cast rfl
   rw[<- this,<- hn];lia
  refine⟨_,rfl,m,rfl,m6,fun H1 s1=>?_⟩;rw[eN];dsimp only[aZ];have hp1:=s1 _ _ hp;refine fun q hq=>?_;have u1:=aG.aF (o:=.dK []) hq;have e1:upd H1 q (.dK []) q=_:=aC;generalize upd H1 q (.dK [])=H1' at u1 e1|-;refine⟨_,rfl,_,rfl,_,rfl,p,_,_,_,rfl,rfl,aR.of (u1 _ _ hp1),bT (by lia),jB,fun l2 hl2=>?_⟩;have u2:=aG.aF (o:=.tup [.int (tbl (n-1)),.int 1]) hl2;have e2:upd H1' l2 (.tup [.int (tbl (n-1)),.int 1]) l2=_:=aC;generalize upd H1' l2 (.tup [.int (tbl (n-1)),.int 1])=H2 at u2 e2|-;refine⟨u2 _ _ e1,_,rfl,?_⟩;dsimp only[aZ];have h0q:H q=none:=s1.free hq;have s02:aG H H2:=s1.trans (u1.trans u2);have s3:aG H (upd H2 q (.dK [(Sum.inl ((n-1:Nat):Int),.ref l2)])):=s02.upd_ne' h0q;have l2q:l2≠q:=fun z=>by rw[z,e1] at hl2;cases hl2
  have e3:upd H2 q (.dK [(Sum.inl ((n-1:Nat):Int),.ref l2)]) q=_:=aC;have e32:upd H2 q (.dK [(Sum.inl ((n-1:Nat):Int),.ref l2)]) l2=_:=(aL l2q).trans e2;generalize upd H2 q (.dK [(Sum.inl ((n-1:Nat):Int),.ref l2)])=H3 at s3 e3 e32|-;refine⟨_,rfl,_,rfl,p,_,_,_,rfl,rfl,aR.of (s3 _ _ hp),bT (by lia),jB,fun l4 hl4=>?_⟩;have u4:=aG.aF (o:=.tup [.int (tbl (n-1)),.int 1]) hl4;have e4:upd H3 l4 (.tup [.int (tbl (n-1)),.int 1]) l4=_:=aC;generalize upd H3 l4 (.tup [.int (tbl (n-1)),.int 1])=H4 at u4 e4|-;refine⟨jD,fun l5 hl5=>?_⟩;have u5:=aG.aF (o:=.lst [.ref l4]) hl5;have e5:upd H4 l5 (.lst [.ref l4]) l5=_:=aC;generalize upd H4 l5 (.lst [.ref l4])=H5 at u5 e5|-;dsimp only[aZ];have s5:aG H H5:=s3.trans (u4.trans u5);have n64:n<=64:=by rw[hn];exact mK m6
  refine⟨_,rfl,1,_,n-2,rfl,by lia,by lia,by decide,by decide,fun l6 hl6=>?_⟩;rw[show n-2=2^m-2 by rw[hn],Hc];have u6:=aG.aF (o:=.lst (bE (lF m))) hl6;have e6:upd H5 l6 (.lst (bE (lF m))) l6=_:=aC;generalize upd H5 l6 (.lst (bE (lF m)))=H6 at u6 e6|-;have hq6:=u6 _ _ (u5 _ _ (u4 _ _ e3));refine⟨_,rfl,q,_,rfl,.inl hq6,fun l7 hl7=>?_⟩;have u7:=aG.aF (o:=.lst (bE [n-1])) hl7;have e7:upd H6 l7 (.lst (bE [n-1])) l7=_:=aC;show rA _ _ _ (upd H6 l7 (.lst (bE [n-1]))) _;generalize upd H6 l7 (.lst (bE [n-1]))=H7 at u7 e7|-;obtain⟨ev,cs0⟩:=QX m1 m6 st;rw[hn] at e7;refine⟨_,rfl,l6,l7,m,lF m,[2^m-1],rfl,u7 _ _ e6,e7,by lia,m6,by have:=qI m6;lia,fun g hg=>by have:=(j4.mp hg).2;lia,cs0.Fy m6,cs0.ind,fun l8 H8 hl8 s8 e8=>?_⟩;dsimp only[aZ];have s38:=u4.trans (u5.trans (u6.trans (u7.trans s8)));refine⟨fun μ σ' H'=>∃(ks:List Nat) (Z:Nat->Int) (d ev:Int) (ws:List Addr) (lsh lfr:Addr) (o6 o7:Option V),μ=(cY m ks).length/\aG H H'/\tE m tbl ks Z d ev/\Kp ks (Cm.pt m bt Z) d H' q ws/\H' lfr=some (.lst (bE (cY m ks)))/\H lsh=none/\(cY m ks=[]->∃ps,kN m Z d H' lsh ps)/\σ'=[some (.ref p),some (.int (m:Int)),some (.int ((n-1:Nat):Int)),some (.ref q),some (.ref lsh),some (.ref lfr),o6,o7],
   ⟨_,[2^m-1],_,_,_,[l2],l5,l8,_,_,rfl,s3.trans s38,cs0,⟨?_,rfl,fun j w e=>?_⟩,e8,(s3.trans u4).free hl5,fun fe=>⟨[l4],?_,?_,fun j w e=>?_⟩,rfl⟩,?_⟩
  ·rw[s38 _ _ e3,<- hn];rfl
  ·have hj:j=0:=by have:=(List.getElem?_eq_some_iff.mp e).1;rw[qBk] at this;lia
   subst hj;obtain rfl:=Option.some.inj e;rw[s38 _ _ e32];show _=some (fZ (Cm.pt m bt (z0 (tbl (2^m-1))) (2^m-1)) 1);rw[Ip m1 m6,mJ,hn]
  ·exact s8 _ _ (u7 _ _ (u6 _ _ e5))
  ·rw[Hd m1 m6 cs0.ind fe];rfl
  ·have hj:j=0:=by have:=(List.getElem?_eq_some_iff.mp e).1;rw[qBk] at this;lia
   subst hj;obtain rfl:=Option.some.inj e;rw[s8 _ _ (u7 _ _ (u6 _ _ (u5 _ _ e4)))];show _=some (fZ (tbl (2^m-1)) 1);rw[mJ,hn]
  rintro μ σ' H' ⟨ks,Z,d,ev,ws,lsh,lfr,o6,o7,rfl,s',cst,kp,hfr,hsh,fin,rfl⟩;refine⟨_,rfl,lfr,_,rfl,.inl (aR.of hfr),_,_,rfl,rfl,_,rfl,?_⟩;rw[bH];refine cJ (fun h1=>?_) (fun h1=>?_)
  ·have fn:cY m ks≠[]:=fun z=>by rw[z] at h1;exact absurd h1 (by decide)
   refine⟨fun σ' H'=>∃(ks':List Nat) (Z:Nat->Int) (d ev:Int) (ws:List Addr) (lsh lfr:Addr) (o6 o7:Option V),(cY m ks').length<(cY m ks).length/\aG H H'/\tE m tbl ks' Z d ev/\Kp ks' (Cm.pt m bt Z) d H' q ws/\H' lfr=some (.lst (bE (cY m ks')))/\H lsh=none/\(cY m ks'=[]->∃ps,kN m Z d H' lsh ps)/\σ'=[some (.ref p),some (.int (m:Int)),some (.int ((n-1:Nat):Int)),some (.ref q),some (.ref lsh),some (.ref lfr),o6,o7],
    fun σ' H' ⟨ks',Z,d,ev,ws,lsh,lfr,o6,o7,lt,r⟩=>⟨_,lt,ks',Z,d,ev,ws,lsh,lfr,o6,o7,rfl,r⟩,?_⟩
   have kl:ks.length<=32:=by have:=cst.cnt;lia
   have hp':=s' _ _ hp;refine⟨_,rfl,_,rfl,_,rfl,_,rfl,?_⟩;dsimp only[fP,qBn,qBp];refine⟨p,q,lfr,m,n,24*ks.length,tbl,Cm.pt m bt Z,d,ks,cY m ks,ws,rfl,hp',kp,hfr,m1,m6,hn,cst.d0,by lia,cst.sd,cst.sP m6,st,by have:=cst.cnt;lia,fun g hg=>by have:=(eJ.mp hg).1.2;lia,cst.Fy m6,cst.ind,cst.no m6 fn,fun R lp le lh H9 ps dw Z' lam mu hlp s9 hR fl he hh sdw sZ' ce same=>?_⟩;have cst':=cst.step m1 m6 ce same sdw sZ';have dd0:=cst'.d0;have a0:gQ [V.ref lp,V.ref le,V.ref lh] 0=some (.ref lp):=rfl;have a1:gQ [V.ref lp,V.ref le,V.ref lh] 1=some (.ref le):=rfl;have a2:gQ [V.ref lp,V.ref le,V.ref lh] 2=some (.ref lh):=rfl;dsimp only[aZ];refine⟨_,rfl,R,_,_,_,rfl,rfl,cX.of hR,a0,?_⟩;dsimp only[aZ];refine⟨_,rfl,R,_,_,_,rfl,rfl,cX.of hR,a2,lh,rfl,⟨_,aR.of hh⟩,?_⟩;have kp9:Kp ks (Cm.pt m bt Z') (dw*d) H9 q ws:=⟨s9 _ _ kp.hd,kp.len,fun j w e=>by
    rw[s9 _ _ (kp.at_ j w e)];have hj:j<ks.length:=by rw[<- kp.len];exact(List.getElem?_eq_some_iff.mp e).1
    refine congrArg some (lC cst.d0 dd0 ?_);rw[same _ (qL hj)];grind⟩
   have hlP:∀g,g∈fJ (cY m ks) lam (cY m ks).length->Pr m g/\tbl g*(dw*d)-Cm.pt m bt Z' g=Z' m:=fun g hg=>by
    obtain⟨c,hc,ne,rfl⟩:=g7.mp hg;exact⟨(eJ.mp (qL hc)).1,ce.hold c hc ne⟩
   have grow:=cst.grow ce;have ind0:=cst.ind;have s09:=s'.trans s9;have nR:R≠q:=fun z=>by rw[z,kp9.hd] at hR;cases hR
   have nlh:lh≠q:=fun z=>by rw[z,kp9.hd] at hh;cases hh
   have nle:le≠q:=fun z=>by rw[z,kp9.hd] at he;cases he
   have nlf:lfr≠q:=fun z=>by rw[z,kp.hd] at hfr;cases hfr
   have np:p≠q:=fun z=>by rw[z,kp.hd] at hp';cases hp'
   have told:=nJ (m:=m) cst.ind (hl:=fJ (cY m ks) lam (cY m ks).length);have sdd:Sm 3000 (dw*d):=(sdw.mul cst.sd).mono (by lia);generalize hhl:fJ (cY m ks) lam (cY m ks).length=hl at *;refine fV (xs:=bE hl) (fun j σ' H'=>SameBut q H9 H'/\aG H H'/\∃(ws':List Addr) (o7:Option V),Kp (eV m ks (hl.take j)) (Cm.pt m bt Z') (dw*d) H' q ws'/\σ'=[some (.ref p),some (.int (m:Int)),some (.int ((n-1:Nat):Int)),some (.ref q),some (.ref lp),some (.ref lfr),some (.ref R),o7]) ⟨(aG.refl _).but q,s09,ws,_,kp9,rfl⟩ ?_ ?_ ?_
   ·rintro j σ' H' _ ⟨sb,_⟩;exact aR.of (sb _ _ nlh hh)
   ·rintro j x σ' H10 hx ⟨sb,s10,ws',o7,kp10,rfl⟩;obtain⟨g,hg,rfl⟩:=fC hx;obtain⟨pg,hold⟩:=hlP g (qBa hg);have et:hl.take (j+1)=hl.take j++[g]:=by rw[qEr,hg];rfl
    have i10:=mO ind0 (hl.take j);rw[et,gL];dsimp only[aZ];generalize hks:eV m ks (hl.take j)=kj at *;have kjl:kj.length<=6:=by
     have z:=i10.len;unfold fX at z;rw[qAc] at z;lia
    have Fy:∀k,k∈kj->k<64:=fun k hk=>by
     obtain⟨t',e',ht'⟩:=mM m ks (hl.take j);rw[hks] at e';rw[e'] at hk;rcases List.mem_append.mp hk with z | z
     ·exact cst.Fy m6 k z
     ·have:=(hlP k (qIr (ht' k z))).1.2;lia
    refine⟨_,rfl,jD,fun l11 h11=>?_⟩;have u11:=aG.aF (o:=.lst (bE [g])) h11;have e11:upd H10 l11 (.lst (bE [g])) l11=_:=aC;show rA _ _ _ (upd H10 l11 (.lst (bE [g]))) _;generalize upd H10 l11 (.lst (bE [g]))=H11 at u11 e11|-;have kp11:=kp10.same u11;refine⟨_,rfl,q,_,rfl,.inl kp11.hd,fun l12 h12=>?_⟩;rw[Kp.keys kp11.len];have u12:=aG.aF (o:=.lst (bE kj)) h12;have e12:upd H11 l12 (.lst (bE kj)) l12=_:=aC;generalize upd H11 l12 (.lst (bE kj))=H12 at u12 e12|-;refine⟨_,rfl,l11,l12,m,[g],kj,rfl,u12 _ _ e11,e12,by lia,m6,by show 1<=64;decide,fun k hk=>by rw[List.mem_singleton.mp hk];have:=pg.2;lia,Fy,i10,fun l13 H13 h13 s13 e13=>?_⟩;have s1013:=u11.trans (u12.trans s13);have kp13:=kp10.same s1013;refine⟨l13,_,rfl,.inl (aR.of e13),_,_,rfl,rfl,_,rfl,?_⟩;rw[bH];by_cases tg:hZ m kj g=true
    ·rw[if_pos tg];refine cJ (fun z=>?_) fun _=>⟨sb.then s1013,s10.trans s1013,ws',_,kp13,rfl⟩;rw[qDi,tg] at z;simp at z
    ·rw[if_neg tg];refine cJ (fun _=>?_) fun z=>?_
     ·have sb13:=sb.then s1013;have hgn:g<n:=by have:=pg.2;lia
      have hp13:=(s10.trans s1013) _ _ hp;refine⟨_,rfl,_,rfl,p,_,_,_,rfl,rfl,aR.of hp13,bT hgn,jB,fun l14 h14=>?_⟩;have u14:=aG.aF (o:=.tup [.int (tbl g),.int 1]) h14;have e14:upd H13 l14 (.tup [.int (tbl g),.int 1]) l14=_:=aC;generalize upd H13 l14 (.tup [.int (tbl g),.int 1])=H14 at u14 e14|-;have f14:H14 l14=some (fZ (tbl g*(dw*d)) (dw*d)):=by
       rw[e14,<- mJ];exact congrArg some (lC (by decide) dd0 (by rw[qGj]))
      refine⟨_,rfl,R,_,_,_,rfl,rfl,cX.of (u14 _ _ (sb13 _ _ nR hR)),a1,?_⟩;dsimp only[fP,qBn,qBp];refine⟨l14,le,_,_,dw*d,rfl,f14,u14 _ _ (sb13 _ _ nle he),dd0,sdd,((st g).mul sdd).mono (by decide),(sZ' m).mono (by lia),fun l15 H15 s15 e15=>?_⟩;rw[show tbl g*(dw*d)-Z' m=Cm.pt m bt Z' g by lia] at e15;have kp15:=kp13.same (u14.trans s15);have nk:g∉kj:=fun z=>tg (qK i10 z);refine⟨_,rfl,_,rfl,q,_,rfl,.inl ⟨_,.inl (g:Int),kp15.hd,rfl,?_,rfl⟩,(sb13.then (u14.trans s15)).oA _,((s10.trans s1013).trans (u14.trans s15)).upd_ne' h0q,ws'++[l15],_,kp15.add nk e15,rfl⟩;rw[qAc,List.length_zip,kp15.len,qCi];lia
     ·rw[qDi] at z;rw[qKd] at tg;rw[tg] at z;exact absurd (by simp) z
   ·rintro σ' H10 ⟨sb,s10,ws',o7,kp10,rfl⟩;rw[bH,qEh] at kp10;rw[<- hhl] at kp10;have hfr10:=sb _ _ nlf (s9 _ _ hfr);refine⟨_,rfl,_,rfl,q,_,rfl,.inl kp10.hd,fun l12 h12=>?_⟩;rw[Kp.keys kp10.len];have u12:=aG.aF (o:=.lst (bE (eV m ks (fJ (cY m ks) lam (cY m ks).length)))) h12;have e12:upd H10 l12 (.lst (bE (eV m ks (fJ (cY m ks) lam (cY m ks).length)))) l12=_:=aC;generalize upd H10 l12 (.lst (bE (eV m ks (fJ (cY m ks) lam (cY m ks).length))))=H12 at u12 e12|-;rw[<- hhl] at cst' grow told;refine⟨_,rfl,lfr,l12,m,cY m ks,_,rfl,u12 _ _ hfr10,e12,by lia,m6,by have:=cst.cnt;lia,fun g hg=>by have:=(eJ.mp hg).1.2;lia,cst'.Fy m6,cst'.ind,fun l13 H13 h13 s13 e13=>?_⟩;rw[Ba] at e13;have s1013:=u12.trans s13;refine⟨_,Z',dw*d,Z' m,ws',lp,l13,_,_,?_,s10.trans s1013,cst',kp10.same s1013,e13,s'.free hlp,fun _=>⟨ps,?_⟩,rfl⟩
    ·obtain⟨c,hc,ne⟩:=ce.some;have hm:gN (cY m ks) c∈fJ (cY m ks) lam (cY m ks).length:=g7.mpr ⟨c,hc,ne,rfl⟩;have z:=told _ hm;rw[<- Ba];refine List.length_filter_lt_length_iff_exists.mpr ⟨_,qL hc,?_⟩;rw[z];decide
    ·have nlp:lp≠q:=fun z=>by rw[z,kp.hd] at hlp;cases hlp
     refine⟨s1013 _ _ (sb _ _ nlp fl.hr),fl.len,fun j w e=>?_⟩;have hw:=fl.at_ j w e;have nw:w≠q:=fun z=>by rw[z,kp9.hd] at hw;cases hw
     exact s1013 _ _ (sb _ _ nw hw)
  ·have fe:cY m ks=[]:=by
    cases e:cY m ks with
    | nil=>rfl
    | cons a b=>rw[e] at h1;exact absurd (by simp) h1
   obtain⟨ps,fl⟩:=fin fe;exact⟨_,rfl,k lsh H' ps ks Z d ev hsh s' fl cst fe⟩
def uV (m:Nat)(lk:Nat->Int)(l:Int):List Nat:=(lF m).filter fun g=>decide (l<=lk g)
theorem kG:g∈uV m lk l↔Pr m g/\l<=lk g:=by
 unfold uV;rw[qIg,j4,decide_eq_true_iff]
theorem Mr {m:Nat}{tb:Nat->Int}{ks:List Nat}{Z:Nat->Int}{d ev:Int}(m6:m<=6)(h:tE m tb ks Z d ev)(fr:cY m ks=[]){l:Int}{g0:Nat}(hg0:Pr m g0)(hl0:l<=tb g0*d-Cm.pt m bt Z g0):Rr m (uV m (fun g=>tb g*d-Cm.pt m bt Z g) l):=by
 intro y y0 yN;have tl:∀g,Pr m g->Cm.Tl m bt ks g:=fun g pg=>by
  cases q:hZ m ks g with
  | true=>exact oU h.ind q
  | false =>
   have:=eJ.mpr ⟨pg,q⟩;rw[fr] at this;cases this
 have wh:=mG m6 y;have st:=h.Rt (fun g=>l<=tb g*d-Cm.pt m bt Z g) (fun g h _ _ _ _ a b=>qMo a b) y (by unfold Cm.pt;rw[wh];exact yN) fun g pg _ sg=>y0 g (kG.mpr ⟨pg,sg⟩);refine⟨?_,fun g hg=>?_⟩
 ·have:=(st g0 hg0 (tl g0 hg0) hl0).1;unfold Cm.pt at this;rw[wh] at this;exact this
 ·obtain⟨pg,sg⟩:=kG.mp hg;exact(st g pg (tl g pg) sg).2
theorem He (m:Nat)(gs:List Nat):(qE m gs).Sublist gs:=by
 induction gs using Cm.snocInd with
 | nil=>exact List.Sublist.refl _
 | append_singleton gs g ih =>
  rw[j3];exact ih.append List.filter_sublist
theorem Ms:∀(p i:_root_.Fin 6),bt (2^p.1) i.1=Cm.e1 p.1 i.1:=by decide +kernel
theorem Fi (m6:m<=6)(h:∀p,p<m->2^p∈gs):(qE m gs).length=m:=by
 have z:=Cm.BY (kF m gs) fun p hp i hi=>by
  have t:=EU (m:=m) (2^p) (h p hp);rw[Cm.uE (kF m gs) (f:=Cm.e1 p) (g:=bt (2^p)) (fun i hi=>(Ms ⟨p,by lia⟩ ⟨i,by lia⟩).symm) i hi];exact t i hi
 unfold fX at z;rw[qAc] at z;exact z
theorem Fj {m:Nat}{tb tt Z:Nat->Int}{d L:Int}(e:∀j,j<m->tt j*d=Z j*L)(g:Nat):xN m tb tt L g*d=(tb g*d-Cm.pt m bt Z g)*L:=by
 have z:=mE (n:=m) (a:=bt g) (t:=tt) (X:=Z) (d:=d) (L:=L) e;unfold xN;rw[qPv,z,qPv];unfold Cm.pt;grind
def Mt (m:Nat)(lk:Nat->Int)(ds:List Int):Prop:=ds.Pairwise (· < ·)/\∀k,k∈ds↔∃g,Pr m g/\lk g=k
theorem Mt.back (d0:0<d)(L0:0<L)(h:Mt m lk' ss)(e:∀g,lk' g*d=lk g*L):Mt m lk (ss.map fun s=>s*d/L):=by
 have key:∀g,lk' g*d/L=lk g:=fun g=>by rw[e g];exact qNk _ (by lia)
 refine⟨List.pairwise_map.mpr ?_,fun k=>?_⟩
 ·have:∀{l:List Int},l.Pairwise (· < ·)->(∀a,a∈l->∃g,lk' g=a)->l.Pairwise fun a b=>a*d/L<b*d/L:=by
   intro l hl hm;induction hl with
   | nil=>exact .nil
   | cons ha _ ih =>
    refine .cons (fun b hb=>?_) (ih fun a h=>hm a (qCh _ h));obtain⟨g1,rfl⟩:=hm _ (qDk ..);obtain⟨g2,rfl⟩:=hm b (qCh _ hb);rw[key,key];have z:=qEk (ha _ hb) d0;rw[e,e] at z;exact qHe z (qCe L0)
  exact this h.1 fun a ha=>by
   obtain⟨g,_,e⟩:=(h.2 a).mp ha;exact⟨g,e⟩
 ·rw[qJt];constructor
  ·rintro⟨a,ha,rfl⟩;obtain⟨g,pg,rfl⟩:=(h.2 a).mp ha;exact⟨g,pg,(key g).symm⟩
  ·rintro⟨g,pg,rfl⟩;exact⟨lk' g,(h.2 _).mpr ⟨g,pg,rfl⟩,key g⟩
theorem Cn (d0:0<d)(L0:0<L)(e:∀g,lk' g*d=lk g*L)(h:s*d=l*L):uV m lk' s=uV m lk l:=by
 unfold uV;refine qNt fun g _=>decide_eq_decide.mpr ?_;constructor
 ·intro z;have z:=qDm z (qCe d0);rw[e,h] at z;exact qLa z L0
 ·intro z;have z:=qDm z (qCe L0);rw[<- e,<- h] at z;exact qLa z d0
theorem Hf (m6:m<=6)(lk:Nat->Int)(l:Int):(uV m lk l).length<=62:=qDa (qEz _ _) (qI m6)
theorem zN (m2:2<=m)(hp:p<m):Pr m (2^p):=by
 have h0:=qGy p;have h1:2^p<=2^(m-1):=qBw (by decide) (by lia);have h2:2^1<=2^(m-1):=qBw (by decide) (by lia);have h3:2^m=2^(m-1)*2:=by rw[<- qIk,show(m-1).succ=m by lia]
 exact⟨h0,by lia⟩
def Hg (m:Nat)(lk:Nat->Int)(d:Int)(H:Hp)(D:Addr)(l:Int)(e:Addr):Prop:=∃(fa wa:Addr) (ys:List V) (dx:Int) (X:Nat->Int),H e=some (.tup [.ref fa,.ref wa])/\H fa=some (fZ l d)/\H wa=some (.lst ys)/\wa≠D/\fS H dx ys (Na (uV m lk l) X (uV m lk l).length)/\0<dx/\Sm 6000 dx/\(∀j,Sm 300000 (X j))/\0<X 0/\(∀j,0<=X j)/\∀i,i<m->(Wg.sm (uV m lk l).length fun j=>bt (gN (uV m lk l) j) i*(X 0+X (j+1)))=dx
theorem Hg.same {m:Nat}{lk:Nat->Int}{d:Int}{H H':Hp}{D:Addr}{l:Int}{e:Addr}(h:Hg m lk d H D l e)(s:aG H H'):Hg m lk d H' D l e:=by
 obtain⟨fa,wa,ys,dx,X,a,b,c,n,r,q⟩:=h;exact⟨fa,wa,ys,dx,X,s _ _ a,s _ _ b,s _ _ c,n,r.t s.t,q⟩
theorem Hg.upd {m:Nat}{lk:Nat->Int}{d:Int}{H:Hp}{D:Addr}{l:Int}{e:Addr}{xs ys:List V}(h:Hg m lk d H D l e)(hD:H D=some (.lst xs)):Hg m lk d (upd H D (.lst ys)) D l e:=by
 obtain⟨fa,wa,zs,dx,X,a,b,c,n,r,q⟩:=h;refine⟨fa,wa,zs,dx,X,?_,?_,?_,n,r.t (.lst hD),q⟩
 ·rw[aL fun z=>by rw[z,hD] at a;cases a];exact a
 ·rw[aL fun z=>by rw[z,hD] at b;cases b];exact b
 ·rw[aL n];exact c
structure Fm (m:Nat) (lk:Nat->Int) (d:Int) (ds:List Int) (H:Hp) (D:Addr) (es:List Addr) (tl:List Nat):Prop where
 hl:H D=some (.lst (es.map V.ref))
 le:es.length<=ds.length
 at_:∀(i:Nat) (e:Addr),es[i]?=some e->∃l,ds[ds.length-1-i]?=some l/\Hg m lk d H D l e
 t0:es=[]->tl=[2^m-1]
 t1:∀l,es≠[]->ds[ds.length-es.length]?=some l->tl=qE m (uV m lk l)
theorem Fm.same {m:Nat}{lk:Nat->Int}{d:Int}{ds:List Int}{H H':Hp}{D:Addr}{es:List Addr}{tl:List Nat}(h:Fm m lk d ds H D es tl)(s:aG H H'):Fm m lk d ds H' D es tl :=
 ⟨s _ _ h.hl,h.le,fun i e z=>by obtain⟨l,a,b⟩:=h.at_ i e z;exact⟨l,a,b.same s⟩,h.t0,h.t1⟩
theorem Fm.more {m:Nat}{lk:Nat->Int}{d:Int}{ds:List Int}{H:Hp}{D:Addr}{es:List Addr}{tl:List Nat}(h:Fm m lk d ds H D es tl){l:Int}{e:Addr}(hl:ds[ds.length-1-es.length]?=some l)(lt:es.length<ds.length)(he:Hg m lk d H D l e):
  Fm m lk d ds (upd H D (.lst (es.map V.ref++[.ref e]))) D (es++[e]) (qE m (uV m lk l)):=by
 refine⟨by rw[aC,qAu];rfl,by rw[qAp,qBk];lia,fun i x z=>?_,fun z=>by simp at z,fun l' _ z=>?_⟩
 ·rcases qAm i es.length with q | q
  ·rw[qBd q] at z;obtain⟨l,a,b⟩:=h.at_ i x z;exact⟨l,a,b.upd h.hl⟩
  ·rw[qBb q] at z;have hi:i-es.length=0:=by
    have:=(List.getElem?_eq_some_iff.mp z).1;rw[qBk] at this;lia
   rw[hi] at z;obtain rfl:e=x:=Option.some.inj z;rw[show i=es.length by lia];exact⟨l,hl,he.upd h.hl⟩
 ·rw[qAp,qBk,show ds.length-(es.length+1)=ds.length-1-es.length by lia,hl] at z;rw[Option.some.inj z]
theorem Co (m:Nat)(tb Y:Nat->Int)(b:Int)(k:Nat):((lE m tb Y b k).map fun kv=>kv.2)=((qAn k).map fun j=>xN m tb Y b (j+1)).map V.int:=by
 unfold lE;rw[qCz,qCz];rfl
theorem xO:∀{l l':List Int},l.Nodup->(∀x,x∈l->x∈l')->l.length<=l'.length
 | [],_,_,_=>qBr _
 | x::l,l',hn,h=>by
  obtain⟨n1,n2⟩:=List.nodup_cons.mp hn;have hx:=h x (.head _);have z:=xO (l:=l) (l':=l'.erase x) n2 fun y hy=>(qMm (fun e=>by subst e;exact n1 hy)).mpr (h y (.tail _ hy));rw[qLe hx] at z;have:=qGf hx;rw[qCn];lia
theorem Fn {m:Nat}{tb Y:Nat->Int}{b:Int}{k j:Nat}(hj:j<k):oB (lE m tb Y b k) (Sum.inl ((j+1:Nat):Int):Key)=some (V.int (xN m tb Y b (j+1))):=by
 unfold oB lE;have e:((qAn k).map fun(j:Nat)=>((Sum.inl ((j+1:Nat):Int):Key),V.int (xN m tb Y b (j+1)))).find? (fun kv=>decide (kv.1=(Sum.inl ((j+1:Nat):Int):Key)))=some (Sum.inl ((j+1:Nat):Int),V.int (xN m tb Y b (j+1))):=by
  induction k with
  | zero=>lia
  | succ k ih =>
   rw[qBt,qAu,List.find?_append];rcases qAm j k with z | z
   ·rw[ih z];rfl
   ·obtain rfl:j=k:=by lia
    rw[List.find?_eq_none.mpr]
    ·rw[qDj,qEn,qFa];simp
    ·intro kv hkv;obtain⟨i,hi,rfl⟩:=List.mem_map.mp hkv;have hi:=List.mem_range.mp hi;intro z;have z:=Sum.inl.inj (of_decide_eq_true z);lia
 rw[e];rfl
theorem Hh {m:Nat}{tb Y:Nat->Int}{b:Int}{k i:Nat}{kv:Key×V}(h:(lE m tb Y b k)[i]?=some kv):i<k/\kv=(Sum.inl ((i+1:Nat):Int),V.int (xN m tb Y b (i+1))):=by
 unfold lE at h;rw[qAo] at h;rcases qAm i k with z | z
 ·rw[qCj z] at h;exact⟨z,(Option.some.inj h).symm⟩
 ·rw[qBm (by rw[qAs];exact z)] at h;cases h
def Mu (lk:Nat->Int)(l:Int)(k:Nat):List Nat:=((qAn k).map (· + 1)).filter fun g=>decide (l<=lk g)
theorem xP (lk:Nat->Int)(l:Int)(k:Nat):Mu lk l (k+1)=if l<=lk (k+1) then Mu lk l k++[k+1] else Mu lk l k:=by
 unfold Mu;rw[qBt,qAu,qEv];by_cases z:l<=lk (k+1)
 ·rw[if_pos z,qDj,qEn,qDi,if_pos (decide_eq_true z)];rfl
 ·rw[if_neg z,qDj,qEn,qDi,if_neg (by rw[decide_eq_false z];exact qAj),qGx,qDo]
def Ir (K:qAb):Sp:=fun vs H Q _=>∃(p q:Addr) (m n:Nat) (tb Z:Nat->Int) (d ev:Int) (ks:List Nat) (ps:List Addr),vs=[.ref p,.int (m:Int),.ref q]/\H p=some (.lst (a9 n tb))/\n=2^m/\1<=m/\m<=6/\(∀j,Sm 80000 (tb j))/\tE m tb ks Z d ev/\cY m ks=[]/\kN m Z d H q ps /\
 ∀(R lv lt:Addr) (H':Hp) (es:List Addr) (ds:List Int) (tl:List Nat),aG H H'->H lv=none->H' R=some (.tup [.ref lv,.ref lt])->Mt m (fun g=>tb g*d-Cm.pt m bt Z g) ds->Fm m (fun g=>tb g*d-Cm.pt m bt Z g) d ds H' lv es tl->H' lt=some (.lst (bE tl))->tl.length=m->Q (.ref R) H'
theorem nZ:aO ["table","many","shares","bottom","lacks","levels","telling","lack","groups"] ["table","many","shares"] (aJ Kx):=by constructor<;>first|rfl|decide +kernel
theorem Mv {f1 f2 f3 f4 f5 f6 f7:Addr}{fd1 fd2 fd3 fd4 fd5 fd6 fd7:qCl}(t:Tx K mg "levels_of" Kx ["table","many","shares"] f fd)(T:T K mg AL LN FR iF fCh fGM fCC fCA fPL SE NN NG NT NR NS NV NO NL NX TM UL)(D_common_bottom:Df P w K mg base cA 2 "common_bottom" ["fractions"] AJ f1 fd1)(D_tops_over:Df P w K mg base cA 1 "tops_over" ["bottom","fractions"] AM f2 fd2)(D_lacks_of:Df P w K mg base cA 5 "lacks_of" ["table","tops","bottom"] (Im K) f3 fd3)(D_whole_company:Df P w K mg base cA 1 "whole_company" ["many"] Ez f4 fd4)(D_fraction:Df P w K mg base (fY P w) 2 "fraction" ["top","bottom"] (uG K NN) f5 fd5)(D_weighing_of:Df P w K mg base cA 6 "weighing_of" ["groups","many"] Ik f6 fd6)(D_sifted:Df P w K mg base cA 3 "sifted" ["groups","many"] Ii f7 fd7):
  Df P w K mg base cA 7 "levels_of" ["table","many","shares"] (Ir K) f fd:=by
 refine t.iJ nZ (fun vs H Q E h=>?_) (fun cdv _A outer s H vs Q E hr h=>?_)
 ·obtain⟨p,q,m,n,tbl,Z,d,ev,ks,ps,rfl,_⟩:=h;rfl
 ·obtain⟨p,q,m,n,tbl,Z,d,ev,ks,ps,rfl,hp,hn,m1,m6,st,cst,fe,fl,k⟩:=h;refine⟨_,(aD (aP (i:=3) nZ.nd rfl bP (aV D_common_bottom hr (by decide) (by rfl) (aA (pv 2) aB)))
   (aD (aP (i:=4) nZ.nd rfl (by first|exact .inl rfl|exact .inr rfl) (aV D_lacks_of hr (by decide) (by rfl) (aA (pv 0) (aA (aV D_tops_over hr (by decide) (by rfl) (aA (pv 3) (aA (pv 2) aB))) (aA (pv 3) aB)))))
   (aD (aP (i:=5) nZ.nd rfl bP (bL aB))
   (aD (aP (i:=6) nZ.nd rfl bP (bL (aA (aV D_whole_company hr (by decide) (by rfl) (aA (pv 1) aB)) aB)))
   (aD (eL PassesOwn.never rfl (JE (by rfl) T.g5 (aA (tZ (by rfl) T.jW (by rfl) T.wR rfl (aA (iB (by rfl) T.cQ rfl (pv 4)) aB)) aB)) (aM (i:=7) nZ.nd rfl (by first|exact .inl rfl|exact .inr rfl))
    (aD (bU (aW eO (aN aT (by rfl) T.cK bY (aA (pv 6) aB)) (pv 1) (aX _)) (aH Cy) a8)
    (aD (cZ (NB:=["group","lack","lacks"]) (pick:=[none,some 7,some 4]) (i:=8) nZ.nd rfl bP (by rfl) (bF (by with_unfolding_all rfl) (by exact(And.intro rfl (And.intro rfl trivial))) rfl (by decide +kernel) (by decide +kernel) (by rfl) (by rfl)) rfl
     (DD (pv 4)) (fun _ _ _=>aM (i:=0) (show(["group","lack","lacks"]:List Str).Nodup from by decide +kernel) rfl bP)
     (fun _ _ _=>eZ (aW CB (Gf (CO hr) (pv 2) (pv 0) (fun _ _=>rfl)) (pv 1) (aX _))) (fun _ _ _=>(pv 0)))
    (aD (eX (vD qFq qHd qHc k7 (pv 5) (aA (bQ (aA (cR cI D_fraction hr (by decide) (by rfl) (aA (pv 7) (aA (pv 3) aB))) (aA (aV D_weighing_of hr (by decide) (by rfl) (aA (pv 8) (aA (pv 1) aB))) aB))) aB)))
    (aH (aP (i:=6) nZ.nd rfl bP (aV D_sifted hr (by decide) (by rfl) (aA (pv 8) (aA (pv 1) aB)))))))))
   (aH (aS (bQ (aA (pv 5) (aA (pv 6) aB)))))))))),?_⟩
  have d0:=cst.d0;have kl:ks.length<=32:=by have:=cst.cnt;lia
  have sd:Sm 6000 d:=cst.sd.mono (by lia);have sZ:∀i,Sm 300000 (Z i):=fun i=>(cst.sZ i).mono (by lia);have n64:n<=64:=by rw[hn];exact mK m6
  have n2:2<=n:=by rw[hn];exact qBw (n:=2) (i:=1) (by decide) m1
  refine⟨_,rfl,q,m,Z,d,ps,rfl,fl,d0,sd,fun L lo=>?_⟩;have L0:=lo.pos;have sL:Sm 6000 L:=sd.le (by have:=qFz d0 lo.dvd;lia);dsimp only[aZ];refine⟨_,rfl,_,rfl,_,rfl,q,m,Z,d,L,ps,rfl,fl,by lia,d0,sd,sZ,lo,fun lt H1 tt hlt s1 hd1 htt stt=>?_⟩;obtain⟨tp,etp⟩:∃tp:Nat->Int,∀j,tp j=if j<m then tt j else 0:=⟨_,fun _=>rfl⟩;have stt':∀j,Sm 300000 (tp j):=fun j=>by
   rw[etp];split
   ·rename_i hj;refine(sZ j).le ?_;have z:=htt j hj;obtain⟨rr,hrr⟩:=lo.dvd;have r0:rr≠0:=fun z=>by rw[z,qBy] at hrr;lia
    have:rr*tt j=Z j:=by
     have:L*(rr*tt j)=L*Z j:=by rw[hrr] at z;grind
     exact qFj (by lia) this
    rw[<- this,qDx];exact qMc _ (by lia)
   ·exact Sm.zero
  refine⟨_,rfl,p,lt,m,n,tbl,tp,L,rfl,s1 _ _ hp,?_,m1,m6,hn,sL,stt',st,fun ld H2 ob hld s2 hd2=>?_⟩
  ·rw[hd1];exact congrArg (fun l=>some (HO.lst l)) (dJ fun j hj=>by rw[etp,if_pos hj])
  have htt':∀j,j<m->tp j*d=Z j*L:=fun j hj=>by rw[etp,if_pos hj];exact htt j hj
  have sc:=Fj (tb:=tbl) htt';have s02:=s1.trans s2;dsimp only[aZ];refine⟨by simp[qCi],fun lv hlv=>?_⟩;have u3:=aG.aF (o:=.lst []) hlv;have e3:upd H2 lv (.lst []) lv=_:=aC;generalize upd H2 lv (.lst [])=H3 at u3 e3|-;dsimp only[aZ];refine⟨_,rfl,m,rfl,m6,fun H4 s4=>?_⟩;have eN:((2^m:Int)-1)=((n-1:Nat):Int):=by
   have:((2^m:Nat):Int)=2^m:=by exact_mod_cast rfl
   rw[<- this,<- hn];lia
  rw[eN];refine⟨jD,fun l5 hl5=>?_⟩;have u5:=aG.aF (o:=.lst (bE [n-1])) hl5;have e5:upd H4 l5 (.lst (bE [n-1])) l5=_:=aC;show aZ _ _ _ (upd H4 l5 (.lst (bE [n-1]))) _;generalize upd H4 l5 (.lst (bE [n-1]))=H5 at u5 e5|-;dsimp only[aZ];have s25:=u3.trans (s4.trans u5);have hd5:=s25 _ _ hd2;refine⟨_,rfl,ld,_,rfl,.inr ⟨ob,hd5⟩,fun l6 hl6=>?_⟩;rw[Co];have u6:=aG.aF (o:=.lst (((qAn (n-2)).map fun j=>xN m tbl tp L (j+1)).map V.int)) hl6;have e6:upd H5 l6 (.lst (((qAn (n-2)).map fun j=>xN m tbl tp L (j+1)).map V.int)) l6=_:=aC;generalize upd H5 l6 (.lst (((qAn (n-2)).map fun j=>xN m tbl tp L (j+1)).map V.int))=H6 at u6 e6|-;refine⟨l6,_,rfl,aR.of e6,by rw[qAc,qAs];lia,fun l7 ss hl7 ms up=>?_⟩;have u7:=aG.aF (o:=.lst (ss.map V.int)) hl7;have e7:upd H6 l7 (.lst (ss.map V.int)) l7=_:=aC;generalize upd H6 l7 (.lst (ss.map V.int))=H7 at u7 e7|-;have ls:Mt m (xN m tbl tp L) ss:=⟨up,fun kk=>by
   rw[ms,qJt];constructor
   ·rintro⟨j,hj,rfl⟩;have hj:=List.mem_range.mp hj;exact⟨j+1,⟨by lia,by lia⟩,rfl⟩
   ·rintro⟨g,pg,rfl⟩;refine⟨g-1,List.mem_range.mpr (by have:=pg.1;have:=pg.2;lia),?_⟩;rw[show g-1+1=g by have:=pg.1;lia]⟩
  have ldd:=ls.back d0 L0 sc;have ssl:ss.length<=62:=by
   have z:=xO (up.imp fun h=>Int.ne_of_lt h) fun a ha=>(ms a).mp ha;rw[qAc,qAs] at z;lia
  refine⟨l7,_,rfl,aR.of e7,?_⟩;have s27:=s25.trans (u6.trans u7);have h0v:H lv=none:=s02.free hlv;have n5:l5≠lv:=fun z=>by rw[z,s4 _ _ e3] at hl5;cases hl5
  have nd:ld≠lv:=fun z=>by rw[z] at hd2;rw[hd2] at hlv;cases hlv
  have n7:l7≠lv:=fun z=>by rw[z,u6 _ _ (u5 _ _ (s4 _ _ e3))] at hl7;cases hl7
  refine Gr (xs:=ss.map V.int) (fun j σ' H'=>SameBut lv H7 H'/\aG H H'/\∃(es:List Addr) (tl:List Nat) (lt':Addr) (o7 o8:Option V),es.length=j/\Fm m (fun g=>tbl g*d-Cm.pt m bt Z g) d (ss.map fun s=>s*d/L) H' lv es tl/\H' lt'=some (.lst (bE tl))/\σ'=[some (.ref p),some (.int (m:Int)),some (.ref q),some (.int L),some (.ref ld),some (.ref lv),some (.ref lt'),o7,o8]) ⟨(aG.refl _).but lv,s02.trans s27,[],[2^m-1],l5,_,_,rfl,⟨(u7 _ _ (u6 _ _ (u5 _ _ (s4 _ _ e3)))),qBr _,(fun i e z=>by cases z),fun _=>rfl,fun l z=>absurd rfl z⟩,by rw[u7 _ _ (u6 _ _ e5),hn],rfl⟩ (fun j σ' H' _ ⟨sb,_⟩=>aR.of (sb _ _ n7 e7)) (fun j x σ' H8 hx hj ⟨sb,s8,es,tl,lt',o7,o8,el,Fo,ht,eσ⟩=>?_) (fun σ' H8 ⟨sb,s8,es,tl,lt',o7,o8,el,Fo,ht,eσ⟩=>?_)
  ·subst eσ;rw[qAc] at hx hj;obtain⟨sv,hsv,rfl⟩:∃sv,ss[ss.length-1-j]?=some sv/\x = .int sv:=by
    rw[qAo] at hx;cases e:ss[ss.length-1-j]? with
    | none=>rw[e] at hx;cases hx
    | some sv=>rw[e] at hx;exact⟨sv,rfl,(Option.some.inj hx).symm⟩
   dsimp only[aZ];refine⟨_,rfl,lt',_,rfl,.inl (aR.of ht),_,rfl,rfl,_,rfl,?_⟩;rw[bH];refine cJ (fun h1=>?_) (fun h1=>?_)
   ·have full:tl.length=m:=by
     have z:=V.int.inj (of_decide_eq_true h1);lia
    refine⟨_,rfl,_,rfl,jB,fun R hR=>?_⟩;have u9:=aG.aF (o:=.tup [.ref lv,.ref lt']) hR;exact k R lv lt' _ es _ tl (s8.trans u9) h0v aC ldd (Fo.same u9) (u9 _ _ ht) full
   ·have hd8:=sb _ _ nd (u7 _ _ (u6 _ _ hd5));refine⟨_,rfl,ld,ob,_,rfl,hd8,?_⟩;refine yV (fun i ys H'=>ys=bE (Mu (xN m tbl tp L) sv i)) (fun i ys H1 H2 st h=>h) rfl hd8 (by unfold lE;rw[qAc,qAs,qCi];lia) (fun i kv H9 kk kk0 ys s9 hkv iv g1 g2=>?_) fun lg ys H9 hlg s9 iv hd9=>?_
    ·obtain⟨hi,rfl⟩:=Hh hkv;refine⟨_,rfl,_,rfl,ld,_,rfl,.inl ⟨_,_,.inr ⟨ob,s9 _ _ hd8⟩,rfl,(Fn hi).symm⟩,_,rfl,_,_,rfl,rfl,_,rfl,?_⟩;refine cJ (fun z=>?_) (fun z=>?_)
     ·refine⟨_,rfl,g1 _ _ (.refl _) ?_⟩;rw[xP,if_pos (of_decide_eq_true z),iv];unfold bE;rw[qAu];rfl
     ·refine g2 _ (.refl _) ?_;rw[xP,if_neg fun y=>z (decide_eq_true y)];exact iv
    ·obtain⟨g0,pg0,eg0⟩:=(ls.2 sv).mp (qBa hsv);have hbal:=Mr m6 cst fe pg0 (qDq _);have hsd:sv*d=(tbl g0*d-Cm.pt m bt Z g0)*L:=by rw[<- eg0];exact sc g0
     have eG:Mu (xN m tbl tp L) sv (n-2)=uV m (fun g=>tbl g*d-Cm.pt m bt Z g) (tbl g0*d-Cm.pt m bt Z g0):=by
      have z:Mu (xN m tbl tp L) sv (n-2)=uV m (xN m tbl tp L) sv:=by rw[hn];rfl
      rw[z];exact Cn d0 L0 sc hsd
     have eK:(lE m tbl tp L (n-2)).length=n-2:=by unfold lE;rw[qAc,qAs]
     rw[eK,eG] at iv;subst iv;have hat:(ss.map fun s=>s*d/L)[(ss.map fun s=>s*d/L).length-1-es.length]?=some (tbl g0*d-Cm.pt m bt Z g0):=by
      rw[qAc,qAo,el,hsv];show some (sv*d/L)=_;rw[hsd,qNk _ (by lia)]
     have efr:fZ sv L=fZ (tbl g0*d-Cm.pt m bt Z g0) d:=lC L0 d0 hsd;have gm:g0∈uV m (fun g=>tbl g*d-Cm.pt m bt Z g) (tbl g0*d-Cm.pt m bt Z g0):=kG.mpr ⟨pg0,qDq _⟩;have gl:=Hf m6 (fun g=>tbl g*d-Cm.pt m bt Z g) (tbl g0*d-Cm.pt m bt Z g0);have gP:∀g,g∈uV m (fun g=>tbl g*d-Cm.pt m bt Z g) (tbl g0*d-Cm.pt m bt Z g0)->Pr m g:=fun g hg=>(kG.mp hg).1;have lvs9:=Fo.same s9;generalize hGs:uV m (fun g=>tbl g*d-Cm.pt m bt Z g) (tbl g0*d-Cm.pt m bt Z g0)=gs at *;refine⟨_,rfl,.inl ⟨rfl,_,aR.of lvs9.hl⟩,_,rfl,_,rfl,?_⟩;dsimp only[fP,qBn,qBp];refine pX (by lia) (sL.mono (by decide)) fun fa hfa=>?_;have u10:=aG.aF (o:=fZ sv L) hfa;have e10:upd H9 fa (fZ sv L) fa=some (fZ (tbl g0*d-Cm.pt m bt Z g0) d):=by rw[aC,efr]
     generalize upd H9 fa (fZ sv L)=H10 at u10 e10|-;refine⟨_,rfl,_,rfl,lg,m,gs,rfl,u10 _ _ hd9,by lia,m6,by lia,qGf gm,fun g hg=>⟨(gP g hg).1,by have:=(gP g hg).2;lia⟩,hbal,fun wa H11 ys dx X hwa s11 hd11 rw11 dx0 sdx sX x0 xn hsum=>?_⟩;refine⟨jB,fun te hte=>?_⟩;have u12:=aG.aF (o:=.tup [.ref fa,.ref wa]) hte;have e12:upd H11 te (.tup [.ref fa,.ref wa]) te=_:=aC;generalize upd H11 te (.tup [.ref fa,.ref wa])=H12 at u12 e12|-;have s912:=u10.trans (s11.trans u12);have lvs12:=lvs9.same s912;have nwa:wa≠lv:=fun z=>by rw[z,u10 _ _ lvs9.hl] at hwa;cases hwa
     have ele:es.length<(ss.map fun s=>s*d/L).length:=by rw[qAc];lia
     have lve:Hg m (fun g=>tbl g*d-Cm.pt m bt Z g) d H12 lv (tbl g0*d-Cm.pt m bt Z g0) te:=⟨fa,wa,ys,dx,X,e12,u12 _ _ (s11 _ _ e10),u12 _ _ hd11,nwa,by rw[hGs];exact rw11.t u12.t,dx0,sdx,sX,x0,xn,by rw[hGs];exact hsum⟩;refine⟨lv,_,_,rfl,rfl,lvs12.hl,by rw[qAc];exact qAy ele (by rw[qAc,qCi];lia),?_⟩;have lvs13:=lvs12.more hat ele lve;rw[hGs] at lvs13;have nlg:lg≠lv:=fun z=>by rw[z,Fo.hl] at hlg;cases hlg
     refine⟨_,rfl,_,rfl,lg,m,gs,rfl,?_,by lia,m6,by lia,fun g hg=>by have:=(gP g hg).2;lia,fun lt2 H14 hlt2 s14 hd14=>?_⟩
     ·show upd _ _ _ lg=_;rw[aL nlg];exact s912 _ _ hd9
     refine⟨(((sb.then s9).then s912).oA _).then s14,((s8.trans (s9.trans s912)).upd_ne' h0v).trans s14,es++[te],qE m gs,lt2,_,_,by rw[qAp,el];rfl,lvs13.same s14,hd14,rfl⟩
  ·subst eσ;rw[qAc] at el;have full:tl.length=m:=by
    rcases qAm 1 m with z | z
    ·have ne:ss≠[]:=fun e=>by
      have:=(ls.2 (xN m tbl tp L (2^0))).mpr ⟨2^0,zN z (by lia),rfl⟩;rw[e] at this;cases this
     have sl:0<ss.length:=List.length_pos_iff.mpr ne;obtain⟨l0,hl0⟩:∃l0,(ss.map fun s=>s*d/L)[0]?=some l0:=⟨_,qAd (by rw[qAc];exact sl)⟩;have tle:=Fo.t1 l0 (fun e=>by rw[e] at el;simp at el;lia) (by rw[qAc,el,qMk];exact hl0);rw[tle];refine Fi m6 fun p' hp'=>kG.mpr ⟨zN z hp',?_⟩;have hmem:=(ldd.2 _).mpr ⟨2^p',zN z hp',rfl⟩;obtain⟨i,hi,ei⟩:=qDb hmem;refine qMo ?_ (qHk ei);have hl0':=(List.getElem?_eq_some_iff.mp hl0);obtain⟨h0,e0⟩:=hl0';rw[<- e0];rcases qEp i with y | y
     ·subst y;exact qDq _
     ·exact qCe (List.pairwise_iff_getElem.mp ldd.1 0 i h0 hi y)
    ·have e1:ss=[]:=by
      cases e:ss with
      | nil=>rfl
      | cons a b =>
       obtain⟨g,pg,_⟩:=(ls.2 a).mp (by rw[e];exact qDk ..);have:=pg.1;have:=pg.2;rw[show m=1 by lia] at this;lia
     have ee:es=[]:=qJz (by rw[el,e1];rfl);rw[Fo.t0 ee];show 1=m;lia
   refine⟨_,rfl,_,rfl,jB,fun R hR=>?_⟩;have u9:=aG.aF (o:=.tup [.ref lv,.ref lt']) hR;exact k R lv lt' _ es _ tl (s8.trans u9) h0v aC ldd (Fo.same u9) (u9 _ _ ht) full
section
variable {lo:Int}{n:Nat}{σ0:St}{H1:Hp}{i0:Nat}{c:TT}{te:TE}{Q:Addr->Hp->Prop}
theorem Cp (Iv:Addr->Nat->List V->Hp->Prop)(mono:∀D i ys xs H o,H D=some (.lst xs)->Iv D i ys H->Iv D i ys (upd H D (.lst o)))(h0:∀D H,Iv D 0 [] H)(hn:n<=qAf)
  (step:∀(D:Addr) (i:Nat) (H2:Hp) (k:VK) (k0:Hp->Prop) (ys:List V),aG H1 H2->i<n->H2 D=some (.lst ys)->Iv D i ys H2->(∀y H3,aG H2 H3->Iv D (i+1) (ys++[y]) H3->k y H3)->(∀H3,aG H2 H3->Iv D (i+1) ys H3->k0 H3) ->
   c (σ0.set i0 (some (.int (lo+(i:Int))))) H2 fun b H4=>if b=true then te (σ0.set i0 (some (.int (lo+(i:Int))))) H4 k else k0 H4)
  (h:∀D ys H2,H1 D=none->aG H1 H2->Iv D n ys H2->H2 D=some (.lst ys)->Q D H2) :
  ∀D,H1 D=none->∃W:Nat->Nat->St->Hp->Prop,(∃m,W 0 m σ0 (upd H1 D (.lst [])))/\∀i m σ1 H2,W i m σ1 H2 ->
   ((qN lo n).stop i H2/\Q D H2)\/((qN lo n).go i H2/\∃N:St->Hp->Prop,(∀σ' H',N σ' H'->∃m',m'<m/\W (i+1) m' σ' H') /\
    ∀x H',(qN lo n).qQ i H2 x H'->aZ i0 x σ1 H' fun σ2 H3=>c σ2 H3 fun b H4=>if b=true then te σ2 H4 fun y H5=>∃xs,H5 D=some (.lst xs)/\xs.length<qAf/\N σ2 (upd H5 D (.lst (xs++[y]))) else N σ2 H4):=by
 intro D hD;refine⟨fun i m σ1 H2=>σ1.set i0 none=σ0.set i0 none/\aG H1 H2/\(∃ys,ys.length<=i/\Iv D i ys H2/\H2 D=some (.lst ys))/\i<=n/\m=n-i,⟨n,rfl,.aF hD,⟨[],qAg _,h0 _ _,aC⟩,qBr _,rfl⟩,?_⟩;rintro i m σ1 H2 ⟨hσ,hs,⟨ys,hy,hR,hd⟩,hi,rfl⟩;have hset:∀v:Option V,σ1.set i0 v=σ0.set i0 v:=fun v=>by
  have z:=congrArg (fun l=>qHt l i0 v) hσ;simpa using z
 rcases qAm i n with hlt | hge
 ·right
  refine⟨hlt,fun σ' H'=>σ'.set i0 none=σ0.set i0 none/\aG H1 H'/\∃ys,ys.length<=i+1/\Iv D (i+1) ys H'/\H' D=some (.lst ys),fun σ' H' ⟨a,b,c⟩=>⟨n-(i+1),by lia,a,b,c,hlt,rfl⟩,?_⟩;rintro x H' ⟨rfl,rfl⟩;show c (σ1.set i0 (some (.int (lo+(i:Int))))) _ _;rw[hset];refine step D i _ _ _ ys hs hlt hd hR (fun y H3 hs3 hR3=>⟨_,hs3 _ _ hd,by lia,?_,(hs.trans hs3).upd_ne' hD,ys++[y],by rw[qAp];show _+1<=_;lia,mono _ _ _ _ _ _ (hs3 _ _ hd) hR3,aC⟩) fun H3 hs3 hR3=>⟨?_,hs.trans hs3,ys,by lia,hR3,hs3 _ _ hd⟩
  ·simp
  ·simp
 ·left
  obtain rfl:i=n:=qCw hi hge;exact⟨qAg _,h D ys _ hD hs hR hd⟩
end
def Mw (m:Nat)(tl:List Nat)(H:Hp)(D:Addr)(h:Nat)(e:Addr):Prop:=∃(ys:List V) (d:Int) (F:Nat->Int),H e=some (.lst ys)/\e≠D/\fS H d ys (zJ tl F tl.length)/\0<d/\Sm 6000 d/\(∀j,Sm 310000 (F j))/\∀i,i<m->(Wg.sm tl.length fun j=>bt (gN tl j) i*F j)=bt (2^h) i*d
theorem Mw.same {m:Nat}{tl:List Nat}{H H':Hp}{D:Addr}{h:Nat}{e:Addr}(k:Mw m tl H D h e)(s:aG H H'):Mw m tl H' D h e:=by
 obtain⟨ys,d,F,a,b,c,r⟩:=k;exact⟨ys,d,F,s _ _ a,b,c.t s.t,r⟩
theorem Mw.upd {m:Nat}{tl:List Nat}{H:Hp}{D:Addr}{h:Nat}{e:Addr}{xs o:List V}(k:Mw m tl H D h e)(hD:H D=some (.lst xs)):Mw m tl (upd H D (.lst o)) D h e:=by
 obtain⟨ys,d,F,a,b,c,r⟩:=k;exact⟨ys,d,F,by rw[aL b];exact a,b,c.t (.lst hD),r⟩
structure Ru (m k:Nat) (tl:List Nat) (H:Hp) (D:Addr) (es:List Addr):Prop where
 len:es.length=k
 at_:∀(j:Nat) (e:Addr),es[j]?=some e->Mw m tl H D j e
structure Pw (m:Nat) (tb:Nat->Int) (H H':Hp) (R lp lv lk:Addr) (ps es kes:List Addr) (Z:Nat->Int) (d ev:Int) (ks:List Nat) (ds:List Int) (tl:List Nat):Prop where
 tup:H' R=some (.tup [.ref lp,.ref lv,.ref lk])
 np:H lp=none
 nv:H lv=none
 nk:H lk=none
 fl:kN m Z d H' lp ps
 cst:tE m tb ks Z d ev
 fe:cY m ks=[]
 PQ:Mt m (fun g=>tb g*d-Cm.pt m bt Z g) ds
 Fo:Fm m (fun g=>tb g*d-Cm.pt m bt Z g) d ds H' lv es tl
 QY:tl.length=m
 hk:H' lk=some (.lst (kes.map V.ref))
 RT:Ru m m tl H' lk kes
theorem Fm.My {m:Nat}{tb:Nat->Int}{Z:Nat->Int}{d:Int}{ds:List Int}{H:Hp}{D:Addr}{es:List Addr}{tl:List Nat}(m1:1<=m)(m6:m<=6)(PQ:Mt m (fun g=>tb g*d-Cm.pt m bt Z g) ds)(h:Fm m (fun g=>tb g*d-Cm.pt m bt Z g) d ds H D es tl):Cm.iN m (fX tl)/\∀g,g∈tl->g<64:=by
 have p64:=mK m6;have:=qGy m;by_cases e:es=[]
 ·rw[h.t0 e];refine⟨?_,fun g hg=>by rw[List.mem_singleton.mp hg];lia⟩;refine mL (ks:=[]) (fun r hr=>by cases hr) fun z=>?_;have z:=gK.mp z 0 (by lia);have z:bt (2^m-1) 0=0:=z;rw[mF ⟨m,by lia⟩ ⟨0,by lia⟩ (by show 0<m;lia)] at z;cases z
 ·have hl:=List.length_pos_iff.mpr e;have le:=h.le;obtain⟨l,hl⟩:∃l,ds[ds.length-es.length]?=some l:=⟨_,qAd (by lia)⟩;rw[h.t1 l e hl];refine⟨kF m _,fun g hg=>?_⟩;have:=(kG.mp ((He m _).subset hg)).1.2;lia
def Iu (K:qAb)(NT:Addr):Sp:=fun vs H Q E=>∃(p:Addr) (xs:List V),vs=[.ref p]/\H p=some (.lst xs)/\(∀v∈xs,Pl K H v)/\xs.length<=1000/\(dQ xs=false->∀H',aG H H'->E (.ref NT) none H') /\
 (dQ xs=true->∃(m n:Nat) (tb:Nat->Int),1<=m/\m<=6/\n=2^m/\xs=a9 n tb/\(∀j,Sm 80000 (tb j))/\∀(R lp lv lk:Addr) (H':Hp) (ps es kes:List Addr) (Z:Nat->Int) (d ev:Int) (ks:List Nat) (ds:List Int) (tl:List Nat),aG H H'->Pw m tb H H' R lp lv lk ps es kes Z d ev ks ds tl->Q (.ref R) H')
theorem Bb:aO ["table","many","shares","told"] ["table"] (aJ Kz):=by constructor<;>first|rfl|decide +kernel
theorem Mz {f1 f2 f3 f4:Addr}{fd1 fd2 fd3 fd4:qCl}(t:Tx K mg "calm" Kz ["table"] f fd)(T:T K mg AL LN FR iF fCh fGM fCC fCA fPL SE NN NG NT NR NS NV NO NL NX TM UL)(D_hands_in:Df P w K mg base (fY P w) 3 "hands_in" ["table"] (xA K NT) f1 fd1)(D_calm_shares:Df P w K mg base cA 7 "calm_shares" ["table","many"] Iq f2 fd2)(D_levels_of:Df P w K mg base cA 7 "levels_of" ["table","many","shares"] (Ir K) f3 fd3)(D_key_of:Df P w K mg base cA 6 "key_of" ["hand","groups","many"] Il f4 fd4):
  Df P w K mg base (fY P w) 8 "calm" ["table"] (Iu K NT) f fd:=by
 refine t.By Bb (fun vs H Q E h=>?_) (fun cdv _A outer s H vs Q E hr h=>?_)
 ·obtain⟨p,xs,rfl,_⟩:=h;rfl
 ·obtain⟨p,xs,rfl,hp,pl,hl,k0,k⟩:=h;refine⟨_,(aD (aP (i:=1) Bb.nd rfl (by first|exact .inl rfl|exact .inr rfl) (cR bN.toPass D_hands_in hr (by decide) (by rfl) (aA (pv 0) aB)))
   (aD (aP (i:=2) Bb.nd rfl bP (aV D_calm_shares hr (by decide) (by rfl) (aA (pv 0) (aA (pv 1) aB))))
   (aD (aP (i:=3) Bb.nd rfl (by first|exact .inl rfl|exact .inr rfl) (aV D_levels_of hr (by decide) (by rfl) (aA (pv 0) (aA (pv 1) (aA (pv 2) aB)))))
   (aH (aS (bQ (aA (pv 2) (aA (aU bR (pv 3) aE (fun _ _=>rfl)) (aA (bO (NB:=["hand","many","told"]) (pick:=[none,some 1,some 3]) (bF (by with_unfolding_all rfl) (by exact(And.intro rfl (And.intro rfl trivial))) rfl (by decide +kernel) (by decide +kernel) (by rfl) (by rfl)) rfl
     (c9 (by rfl) T.cM (aA (pv 1) aB)) (fun _ _ _=>aM (i:=0) (show(["hand","many","told"]:List Str).Nodup from by decide +kernel) rfl bP)
     (fun _ _ _=>bI) (fun _ _ _=>(aV D_key_of hr (by decide) (by rfl) (aA (pv 0) (aA (aU (iZ K) (pv 2) aE (fun _ _=>rfl)) (aA (pv 1) aB)))))) aB))))))))),?_⟩
  refine⟨_,rfl,p,xs,rfl,hp,pl,hl,k0,fun m' m1' m6' hm' yes H1 s1=>?_⟩;obtain⟨m,n,tbl,m1,m6,hn,rfl,st,k⟩:=k yes;rw[aI,hn] at hm';obtain rfl:m=m':=oR ⟨m,by lia⟩ ⟨m',by lia⟩ hm';dsimp only[aZ];have hp1:=s1 _ _ hp;refine⟨_,rfl,_,rfl,p,m,n,tbl,rfl,hp1,m1,m6,hn,st,fun lp H2 ps ks Z d ev hlp s2 fl cst fe=>?_⟩;dsimp only[aZ];refine⟨_,rfl,_,rfl,_,rfl,p,lp,m,n,tbl,Z,d,ev,ks,ps,rfl,s2 _ _ hp1,hn,m1,m6,st,cst,fe,fl,fun R lv lt H3 es ds tl s3 hlv hR PQ Fo ht QY=>?_⟩;dsimp only[aZ];obtain⟨ind,t64⟩:=Fo.My m1 m6 PQ;have a0:gQ [V.ref lv,V.ref lt] 0=some (.ref lv):=rfl;have a1:gQ [V.ref lv,V.ref lt] 1=some (.ref lt):=rfl;refine⟨_,rfl,_,rfl,R,_,_,_,rfl,rfl,cX.of hR,a0,_,rfl,m,rfl,by lia,by lia,?_⟩;refine Cp (n:=m) (fun D i ys H'=>∃kes:List Addr,ys=kes.map V.ref/\Ru m i tl H' D kes) ?_ (fun D H=>⟨[],rfl,rfl,fun j e z=>by cases z⟩) (qAk (aK (by lia))) (fun D i H4 kk kk0 ys s4 hi hD iv g1 g2=>?_) fun lk ys H4 hlk s4 iv hd4=>?_
  ·rintro D i ys xs H o hD ⟨kes,e,ky⟩;exact⟨kes,e,ky.len,fun j e z=>(ky.at_ j e z).upd hD⟩
  ·obtain⟨kes,rfl,ky⟩:=iv;refine⟨_,rfl,_,rfl,R,_,_,_,rfl,rfl,cX.of (s4 _ _ hR),a1,_,rfl,lt,i,m,tl,by rw[qDt];rfl,s4 _ _ ht,hi,m6,QY,t64,ind,fun D2 H5 ys2 d2 F hD2 s5 hd5 rw5 d20 sd2 sF hs=>?_⟩;have ne:D2≠D:=fun z=>by rw[z,hD] at hD2;cases hD2
   refine g1 _ _ s5 ⟨kes++[D2],by rw[qAu];rfl,by rw[qAp,ky.len];rfl,fun j e z=>?_⟩;rcases qAm j kes.length with q | q
   ·rw[qBd q] at z;exact(ky.at_ j e z).same s5
   ·rw[qBb q] at z;have hj:j-kes.length=0:=by
     have:=(List.getElem?_eq_some_iff.mp z).1;rw[qBk] at this;lia
    rw[hj] at z;obtain rfl:=Option.some.inj z;rw[show j=i by have:=ky.len;lia];exact⟨ys2,d2,F,hd5,ne,rw5,d20,sd2,sF,hs⟩
  ·obtain⟨kes,rfl,ky⟩:=iv;refine⟨IB,fun R2 hR2=>?_⟩;have u5:=aG.aF (o:=.tup [.ref lp,.ref lv,.ref lk]) hR2;have s45:=s4.trans u5;exact k R2 lp lv lk _ ps es kes Z d ev ks ds tl (s1.trans (s2.trans (s3.trans s45))) ⟨aC,s1.free hlp,(s1.trans s2).free hlv,(s1.trans (s2.trans s3)).free hlk,fl.same (s3.trans s45),cst,fe,PQ,Fo.same s45,QY,u5 _ _ hd4,ky.len,fun j e z=>(ky.at_ j e z).same u5⟩
theorem Fp (R:St->Hp->Prop)(h1:(∀σ' H',R σ' H'->b D σ' H')->a { D with nx:=b D } σ H)(h2:∀σ' H',R σ' H'->b D σ' H'):IJ a b D σ H:=h1 h2
theorem Fq {C:List Int}{j:Nat}(h:j<C.length):gQ (C.map V.int) (j:Int)=some (.int (C.getD j 0)):=fK (by rw[qAo,qAq,qAd h];rfl)
def Fs (K:qAb):Sp:=fun vs H Q _=>∃(a:Addr) (ns:List Int) (k:Nat),vs=[.ref a,.int (k:Int)]/\aR K H a (ns.map V.int)/\∀c:Int,Q (.int c) H
theorem Px:aO ["_law_script","_law_k"] ["_law_script","_law_k"] (aJ KP):=by constructor<;>first|rfl|decide +kernel
theorem MA (t:Tx K mg "_law_cell" KP ["_law_script","_law_k"] f fd)(T:T K mg AL LN FR iF fCh fGM fCC fCA fPL SE NN NG NT NR NS NV NO NL NX TM UL):Df P w K mg base cA 1 "_law_cell" ["_law_script","_law_k"] (Fs K) f fd:=by
 refine t.iJ Px (fun vs H Q E h=>?_) (fun cdv A outer s H vs Q E hr h=>?_)
 ·obtain⟨a,ns,k,rfl,_⟩:=h;rfl
 ·obtain⟨a,ns,j,rfl,hq,k⟩:=h;refine⟨_,(aD (bU (aW kQ (pv 1) (aN aT (by rfl) T.cK bY (aA (pv 0) aB)) (aX _)) (aH (aS (aU bC (pv 0) (pv 1) (fun _ _=>rfl)))) a8)
   (aH (aS aE))),?_⟩
  refine⟨_,rfl,_,rfl,a,_,rfl,.inl hq,_,_,rfl,rfl,_,rfl,cJ (fun h=>?_) (fun _=>k 0)⟩;have hlt:j<ns.length:=by
   have z:=of_decide_eq_true h;rw[qAc] at z;lia
  exact⟨_,rfl,_,rfl,a,_,_,_,rfl,rfl,hq,Fq hlt,k _⟩
theorem uS (h:[2,4,8,16,32,64].contains xs.length=false):dQ xs=false:=by unfold dQ;rw[h];rfl
theorem MB (hy:y∈xs)(h:kR y=false):dQ xs=false:=by
 unfold dQ;have e:xs.all kR=false:=by
  rw[List.all_eq_false];exact⟨y,hy,by rw[h];decide⟩
 rw[e,qGk];rfl
theorem Cq (h:xs[0]?≠some (.int 0)):dQ xs=false:=by
 unfold dQ;rw[decide_eq_false h,qGk]
theorem Ft:∀m:_root_.Fin 7,1<=m.1->[2,4,8,16,32,64].contains (2^m.1-1)=false/\[2,4,8,16,32,64].contains (2^m.1+1)=false:=by decide +kernel
theorem Fu (xs:List V):gE xs none (some (-1))=xs.take (xs.length-1):=by
 unfold gE;rw[HT.pB,qKz,qMj];congr 1;unfold HT.eY;simp;lia
def Cr (K:qAb)(H:Hp)(v:V):Prop:=Pl K H v/\∃d:qGv,gG K H v d/\d.depth<=8
theorem Cr.same (h:Cr K H v)(s:aG H H'):Cr K H' v:=⟨h.1.same s,let ⟨d,a,b⟩:=h.2;⟨d,a.same s,b⟩⟩
theorem Cr.int (i:Int):Cr K H (.int i):=⟨.int i,_,.int i,by simp[PyData.depth]⟩
def Iw (K:qAb):Sp:=fun vs H Q _=>∃c:Int,vs=[.int c]/\∀(v:V) (H':Hp),aG H H'->(∀H2:Hp,(∀b o,H b=none->H' b=some o->H2 b=some o)->Cr K H2 v)->kR v=false->Q v H'
theorem Py:aO ["_law_cell_here"] ["_law_cell_here"] (aJ KQ):=by constructor<;>first|rfl|decide +kernel
theorem MC (t:Tx K mg "_law_odd" KQ ["_law_cell_here"] f fd)(T:T K mg AL LN FR iF fCh fGM fCC fCA fPL SE NN NG NT NR NS NV NO NL NX TM UL):Df P w K mg base cA 1 "_law_odd" ["_law_cell_here"] (Iw K) f fd:=by
 refine t.iJ Py (fun vs H Q E h=>?_) (fun cdv A outer s H vs Q E hr h=>?_)
 ·obtain⟨c,rfl,_⟩:=h;rfl
 ·obtain⟨c,rfl,k⟩:=h;refine⟨_,(aH (aS (aU bC (bL (aA iG (aA iQ (aA dF (aA (bQ (aA aE (aA aE aB))) (aA (bL (aA aE aB)) (aA iG aB))))))) (aQ dX (pv 0) aE) (fun _ _=>rfl)))),?_⟩;refine⟨jB,fun t1 ht1=>?_⟩;have u1:=aG.aF (o:=.tup [.int 0,.int 1]) ht1;have x1:upd H t1 (.tup [.int 0,.int 1]) t1=_:=aC;generalize upd H t1 (.tup [.int 0,.int 1])=H1 at u1 x1|-;refine⟨jD,fun l1 hl1=>?_⟩;have u2:=aG.aF (o:=.lst [.int 0]) hl1;have x2:upd H1 l1 (.lst [.int 0]) l1=_:=aC;generalize upd H1 l1 (.lst [.int 0])=H2 at u2 x2|-;refine⟨by show 6<=qAf;decide,fun m hm=>?_⟩;have u3:=aG.aF (o:=.lst [.bl true,.non,.str "0",.ref t1,.ref l1,.bl false]) hm;have x3:upd H2 m (.lst [.bl true,.non,.str "0",.ref t1,.ref l1,.bl false]) m=_:=aC;generalize upd H2 m (.lst [.bl true,.non,.str "0",.ref t1,.ref l1,.bl false])=H3 at u3 x3|-;refine⟨_,rfl,_,_,rfl,rfl,(by show(0:Int)<6;decide),?_⟩;have x1:=u3 _ _ (u2 _ _ x1);have x2:=u3 _ _ x2;obtain⟨v,hv,hm'⟩:=Jo (xs:=[V.bl true,.non,.str "0",.ref t1,.ref l1,.bl false]) (i:=c%6) (by lia) (by show c%6<6;lia);refine⟨m,_,_,v,rfl,rfl,aR.of x3,hv,?_⟩;have s3:=u1.trans (u2.trans u3);have t0:H t1=none:=ht1;have l0:H l1=none:=u1.free hl1;simp only[qDw,qCv,or_false] at hm';rcases hm' with rfl | rfl | rfl | rfl | rfl | rfl
  ·exact k _ _ s3 (fun H2 _=>⟨⟨_,.bl _,.bl⟩,_,.bl true,by simp[PyData.depth]⟩) rfl
  ·exact k _ _ s3 (fun H2 _=>⟨⟨_,.non,.non⟩,_,.non,by simp[PyData.depth]⟩) rfl
  ·exact k _ _ s3 (fun H2 _=>⟨⟨_,.str _,.str⟩,_,.str "0" (by decide +kernel),by simp[PyData.depth]⟩) rfl
  ·exact k _ _ s3 (fun H2 kp=>⟨⟨_,.tup (kp _ _ t0 x1),.tup⟩,_,.tup (cX.of (kp _ _ t0 x1)) (.cons (.int 0) (.cons (.int 1) .nil)),by simp[PyData.depth,PyData.depthAll]⟩) rfl
  ·exact k _ _ s3 (fun H2 kp=>⟨⟨_,.lst (kp _ _ l0 x2),.lst⟩,_,.lst (aR.of (kp _ _ l0 x2)) (.cons (.int 0) .nil),by simp[PyData.depth,PyData.depthAll]⟩) rfl
  ·exact k _ _ s3 (fun H2 _=>⟨⟨_,.bl _,.bl⟩,_,.bl false,by simp[PyData.depth]⟩) rfl
theorem Rv {Pp:Int->Prop}{a b c d e:Int}:∀{w:Nat},w<5->Pp a->Pp b->Pp c->Pp d->Pp e->∃v:Int,Pp v/\gQ [V.int a,.int b,.int c,.int d,.int e] (w:Int)=some (.int v)
 | 0,_,h,_,_,_,_=>⟨_,h,rfl⟩
 | 1,_,_,h,_,_,_=>⟨_,h,rfl⟩
 | 2,_,_,_,h,_,_=>⟨_,h,rfl⟩
 | 3,_,_,_,_,h,_=>⟨_,h,rfl⟩
 | 4,_,_,_,_,_,h=>⟨_,h,rfl⟩
def Iy:Sp:=fun vs H Q _=>∃c:Int,vs=[.int c]/\∀(v:Int) (H':Hp),aG H H'->v≠0->v≠1->Sm 64 v->Q (.int v) H'
theorem Pz:aO ["_law_cell_here"] ["_law_cell_here"] (aJ KR):=by constructor<;>first|rfl|decide +kernel
theorem MD (t:Tx K mg "_law_number" KR ["_law_cell_here"] f fd)(T:T K mg AL LN FR iF fCh fGM fCC fCA fPL SE NN NG NT NR NS NV NO NL NX TM UL):Df P w K mg base cA 1 "_law_number" ["_law_cell_here"] Iy f fd:=by
 refine t.iJ Pz (fun vs H Q E h=>?_) (fun cdv A outer s H vs Q E hr h=>?_)
 ·obtain⟨c,rfl,_⟩:=h;rfl
 ·obtain⟨c,rfl,k⟩:=h;refine⟨_,(aH (aS (aU bC (bL (aA aE (aA (gM fF aE) (aA aE (aA (aQ iW (aQ xR aE aE) (aQ dX (aQ j5 (pv 0) aE) aE)) (aA (aQ iW (aQ dX (aQ j5 (pv 0) aE) aE) (aQ xR aE aE)) aB)))))) (aQ dX (pv 0) aE) (fun _ _=>rfl)))),?_⟩;refine⟨1,rfl,_,_,rfl,rfl,⟨by decide,by decide,by decide⟩,_,rfl,_,_,rfl,rfl,⟨by decide,by decide⟩,_,_,rfl,rfl,(by show(0:Int)<1000;decide),_,_,rfl,rfl,_,rfl,_,_,rfl,rfl,⟨by decide,by decide⟩,_,_,rfl,rfl,(by show(0:Int)<1000;decide),_,_,rfl,rfl,⟨by decide,by decide,by decide⟩,_,_,rfl,rfl,by show 5<=qAf;decide,fun l hl=>?_⟩;have q0:=qGa (c/5) (b:=1000) (by decide);have q1:=qJl (c/5) (b:=1000) (by decide);obtain⟨w',hw⟩:∃w':Nat,c%5=(w':Int):=⟨_,(qCt (qGa c (by decide))).symm⟩;obtain⟨v,hv,ha⟩:=Rv (Pp:=fun v=>v≠0/\v≠1/\Sm 64 v) (a:=2) (b:=-1) (c:=3) (d:=10^18-c/5%1000) (e:=c/5%1000-10^18) (w:=w') (by lia) ⟨by decide,by decide,Sm.of 8 (by decide) (by decide)⟩ ⟨by decide,by decide,Sm.of 8 (by decide) (by decide)⟩ ⟨by decide,by decide,Sm.of 8 (by decide) (by decide)⟩ ⟨by lia,by lia,Sm.of 62 (by lia) (by decide)⟩ ⟨by lia,by lia,Sm.of 62 (by lia) (by decide)⟩;refine⟨_,rfl,_,_,rfl,rfl,(by show(0:Int)<5;decide),?_⟩;dsimp only;rw[hw];exact⟨l,_,_,_,rfl,rfl,aR.of aC,ha,k v _ (.aF hl) hv.1 hv.2.1 hv.2.2⟩
def Iz (K:qAb):Sp:=fun vs H Q _=>∃(p a:Addr) (ns:List Int) (m:Nat) (tb:Nat->Int),vs=[.ref p,.ref a]/\aR K H a (ns.map V.int)/\H p=some (.lst (a9 (2^m) tb))/\1<=m/\m<=5/\∀(l:Addr) (xs:List V) (H':Hp),H l=none->aG H H'->H' l=some (.lst xs)->xs.length<=1000->(∀v∈xs,Cr K H' v)->dQ xs=false->Q (.ref l) H'
theorem Bc:aO ["_law_table","_law_script","_law_list_of","_law_cell_here","_law_way"] ["_law_table","_law_script"] (aJ KS):=by constructor<;>first|rfl|decide +kernel
theorem ME (t:Tx K mg "_law_no_table" KS ["_law_table","_law_script"] f fd)(T:T K mg AL LN FR iF fCh fGM fCC fCA fPL SE NN NG NT NR NS NV NO NL NX TM UL)(D_law_cell:Df P w K mg base cA 1 "_law_cell" ["_law_script","_law_k"] (Fs K) f1 fd1)(D_law_odd:Df P w K mg base cA 1 "_law_odd" ["_law_cell_here"] (Iw K) f2 fd2):
  Df P w K mg base cA 2 "_law_no_table" ["_law_table","_law_script"] (Iz K) f fd:=by
 refine t.iJ Bc (fun vs H Q E h=>?_) (fun cdv A outer s H vs Q E hr h=>?_)
 ·obtain⟨p,a,ns,m,tb,rfl,_⟩:=h;rfl
 ·obtain⟨p,a,ns,m,tb,rfl,hq,hp,m1,m5,k⟩:=h;refine⟨_,(aD (aP (i:=2) Bc.nd rfl bP (dB gF (by rfl) T.cQ c5 (aA (pv 0) aB)))
   (aD (aP (i:=3) Bc.nd rfl bP (aV D_law_cell hr (by decide) (by rfl) (aA (pv 1) (aA aE aB))))
   (aD (aP (i:=4) Bc.nd rfl bP (aQ dX (aQ j5 (aV D_law_cell hr (by decide) (by rfl) (aA (pv 1) (aA aE aB))) aE) aE))
   (aD (bU (aW eO (pv 4) aE (aX _)) (aH (aS (bL aB))) a8)
   (aD (bU (aW eO (pv 4) aE (aX _)) (aH (aS (aQ fL (bL (aA aE aB)) aE))) a8)
   (aD (bU (aW eO (pv 4) aE (aX _)) (aH (aS (gO lK (pv 2) iX (iY (gM fF aE))))) a8)
   (aD (bU (aW eO (pv 4) aE (aX _)) (aH (aS (aQ fM (pv 2) (bL (aA (aQ dX (pv 3) aE) aB))))) a8)
   (aD (bU (aW eO (pv 4) aE (aX _)) (aD (iU (aU bC (bL (aA aE (aA (gM fF aE) (aA (aQ xR aE aE) aB)))) (aQ dX (pv 3) aE) (fun _ _=>rfl)) (iS (pv 2) aE set_list))
    (aH (aS (pv 2)))) a8)
   (aD (iU (aV D_law_odd hr (by decide) (by rfl) (aA (pv 3) aB)) (iS (pv 2) (aQ dX (aQ j5 (pv 3) aE) (aN aT (by rfl) T.cK bY (aA (pv 2) aB))) set_list))
   (aH (aS (pv 2)))))))))))),?_⟩
  have n64:2^m<=64:=zD (by lia);have n2:2<=2^m:=qBw (n:=2) (i:=1) (by decide) m1;obtain⟨ll1,ll2⟩:=Ft ⟨m,by lia⟩ m1;have ll1:[2,4,8,16,32,64].contains (2^m-1)=false:=ll1;have ll2:[2,4,8,16,32,64].contains (2^m+1)=false:=ll2;obtain⟨n,hN⟩:∃n,n=2^m:=⟨_,rfl⟩;rw[<- hN] at n64 n2 hp ll1 ll2;have bZ:∀(H':Hp) (f:Nat->Int),∀v∈a9 n f,Cr K H' v:=fun H' f v hv=>by
   obtain⟨j,_,rfl⟩:=List.mem_map.mp hv;exact Cr.int _
  refine⟨_,rfl,p,_,rfl,.inl (aR.of hp),fun L hL=>?_⟩;have u1:=aG.aF (o:=.lst (a9 n tb)) hL;have x1:upd H L (.lst (a9 n tb)) L=_:=aC;generalize upd H L (.lst (a9 n tb))=H1 at u1 x1|-;dsimp only[aZ];refine⟨_,rfl,a,ns,2,rfl,u1.seq hq,fun c=>?_⟩;dsimp only[aZ];refine⟨_,rfl,a,ns,1,rfl,u1.seq hq,fun c1=>⟨_,_,rfl,rfl,⟨by decide,by decide⟩,_,_,rfl,rfl,(by show(0:Int)<6;decide),?_⟩⟩;dsimp only[aZ];generalize c1/2%6=way;refine⟨_,rfl,rfl,_,rfl,cJ (fun _=>?_) (fun _=>?_)⟩
  ·exact⟨by show 0<=qAf;decide,fun a1 ha1=>k a1 [] _ (u1.free ha1) (u1.trans (.aF ha1)) aC (by decide) (fun u hu=>by cases hu) (by decide)⟩
  refine⟨_,rfl,rfl,_,rfl,cJ (fun _=>?_) (fun _=>?_)⟩
  ·refine⟨jD,fun a1 ha1=>⟨a1,128,[.int 0],rfl,rfl,aC,by decide,by decide,by show 1*128<=qAf;decide,fun a2 ha2=>?_⟩⟩;have w1:=aG.aF (o:=.lst [V.int 0]) ha1;rw[show(128:Int)=((128:Nat):Int) from rfl,qBl,eU];exact k a2 _ _ ((u1.trans w1).free ha2) ((u1.trans w1).trans (.aF ha2)) aC (by rw[aI];decide) (fun v hv=>by obtain⟨j,_,rfl⟩:=List.mem_map.mp hv;exact Cr.int _) (uS (by rw[aI];decide))
  refine⟨_,rfl,rfl,_,rfl,cJ (fun _=>?_) (fun _=>?_)⟩
  ·refine⟨_,rfl,_,rfl,_,rfl,L,_,rfl,aR.of x1,fun a1 ha1=>?_⟩;rw[show(-1:Int)=-1 from rfl,Fu];exact k a1 _ _ (u1.free ha1) (u1.trans (.aF ha1)) aC (by rw[qDz,aI];lia) (fun u hu=>bZ _ tb u (qIr hu)) (uS (by rw[qDz,aI,qIl (by lia)];exact ll1))
  refine⟨_,rfl,rfl,_,rfl,cJ (fun _=>?_) (fun _=>?_)⟩
  ·refine⟨_,rfl,_,rfl,_,_,rfl,rfl,(by show(0:Int)<2;decide),jD,fun a2 ha2=>?_⟩;have w2:=aG.aF (o:=.lst [V.int (c%2)]) ha2;refine⟨L,a2,_,_,rfl,rfl,aR.of (w2 _ _ x1),aR.of aC,by rw[aI];exact qAk (aK (by show _+1<=_;lia)),fun a5 ha5=>?_⟩;have w5:=aG.aF (o:=.lst (a9 n tb++[V.int (c%2)])) ha5;refine k a5 _ _ ((u1.trans w2).free ha5) ((u1.trans w2).trans w5) aC (by rw[qAp,aI];show _+1<=_;lia) (fun u hu=>?_) (uS (by rw[qAp,aI];exact ll2));rcases List.mem_append.mp hu with z | z
   ·exact bZ _ tb u z
   ·rw[List.mem_singleton.mp z];exact Cr.int _
  refine⟨_,rfl,rfl,_,rfl,cJ (fun _=>?_) (fun _=>?_)⟩
  ·refine⟨1,rfl,_,_,rfl,rfl,⟨by decide,by decide,by decide⟩,IB,fun l hl=>?_⟩;obtain⟨w',hw⟩:∃w':Nat,c%3=(w':Int):=⟨_,(qCt (qGa c (by decide))).symm⟩;obtain⟨v,hv,ha⟩:=Rv (Pp:=fun v=>v≠0) (a:=1) (b:=-1) (c:=10^18) (d:=1) (e:=1) (w:=w') (by lia) (by decide) (by decide) (by decide) (by decide) (by decide);have ha:gQ [V.int 1,.int (-1),.int (10^18)] (w':Int)=some (.int v):=by
    have w3:w'<3:=by lia
    match w',w3,ha with
    | 0,_,ha=>exact ha
    | 1,_,ha=>exact ha
    | 2,_,ha=>exact ha
   have u2:=aG.aF (o:=.lst [V.int 1,.int (-1),.int (10^18)]) hl;refine⟨_,rfl,_,_,rfl,rfl,(by show(0:Int)<3;decide),?_⟩;dsimp only;rw[hw];refine⟨l,_,_,_,rfl,rfl,aR.of aC,ha,_,rfl,L,_,_,0,rfl,rfl,u2 _ _ x1,(by rw[aI];exact gI (j:=0) (by lia)),_,rfl,?_⟩;rw[oP];refine k L _ _ hL ((u1.trans u2).upd_ne' hL) aC (by rw[aI];lia) (bZ _ _) (Cq ?_);rw[c8 (by lia)];intro e;exact hv (V.int.inj (Option.some.inj e))
  dsimp only[oX];refine⟨_,rfl,c,rfl,fun v H2 s2 keep nI=>?_⟩;have hL2:=s2 _ _ x1;refine⟨_,rfl,_,rfl,_,_,rfl,rfl,⟨by decide,by decide⟩,_,rfl,L,_,rfl,.inl (aR.of hL2),?_⟩;rw[aI];refine⟨_,_,rfl,rfl,(by show(0:Int)<((n:Nat):Int);lia),?_⟩;have q0:=qGa (c/6) (b:=((n:Nat):Int)) (by lia);have q1:=qJl (c/6) (b:=((n:Nat):Int)) (by lia);obtain⟨j,hj⟩:∃j:Nat,c/6%((n:Nat):Int)=(j:Int):=⟨_,(qCt q0).symm⟩;dsimp only;rw[hj];have hjn:j<n:=by lia
  refine⟨L,_,_,j,rfl,rfl,hL2,(by rw[aI];exact gI hjn),_,rfl,?_⟩;have ok:=keep (upd H2 L (.lst ((a9 n tb).set j v))) fun b o hb ho=>by rw[aL fun e=>by rw[e,x1] at hb;cases hb];exact ho
  refine k L _ _ hL ((u1.trans s2).upd_ne' hL) aC (by rw[qIh,aI];lia) (fun u hu=>?_) (MB (y:=v) (qBa (i:=j) (by rw[qIa (by rw[aI];exact hjn)])) nI);rcases List.mem_or_eq_of_mem_set hu with z | z
  ·exact bZ _ tb u z
  ·rw[z];exact ok
def IA (NT NV:Addr):Sp:=fun vs H Q _=>∃e C,vs=[.ref e]/\H e=some (vM e C)/\(C=NT\/C=NV)/\∀H',aG H H'->Q (.bl true) H'
theorem PB:aO ["_law_error"] ["_law_error"] (aJ KU):=by constructor<;>first|rfl|decide +kernel
theorem MF (t:Tx K mg "_law_none_of" KU ["_law_error"] f fd)(T:T K mg AL LN FR iF fCh fGM fCC fCA fPL SE NN NG NT NR NS NV NO NL NX TM UL):PN P w K mg base 1 "_law_none_of" ["_law_error"] (IA NT NV) f fd:=by
 refine t.RD PB (fun vs H Q E h=>?_) (fun cdv A outer s H vs Q E hr h=>?_)
 ·obtain⟨e,C,rfl,_⟩:=h;rfl
 ·obtain⟨e,C,rfl,hE,hC,k⟩:=h;refine⟨_,(aD (bU (PW.pt (pw_or (cG (aN j6 (by rfl) T.eD dI (aA (pv 0) (aA (bQ (aA (cH (v:=.ref NG) (by rfl) T.MT rfl) (aA (cH (v:=.ref NN) (by rfl) T.La rfl) aB))) aB)))) (pw_or1 (cG (aN j6 (by rfl) T.eD dI (aA (pv 0) (aA (bQ (aA (cH (v:=.ref NO) (by rfl) T.Oj rfl) (aA (cH (v:=.ref NL) (by rfl) T.Ol rfl) aB))) aB))))))) (aH (aS iG)) a8)
   (aD (bU (PW.pt (pw_or (cG (aN j6 (by rfl) T.eD dI (aA (pv 0) (aA (bQ (aA (cH (v:=.ref NR) (by rfl) T.GB rfl) (aA (cH (v:=.ref NS) (by rfl) T.MV rfl) aB))) aB)))) (pw_or1 (cG (aN j6 (by rfl) T.eD dI (aA (pv 0) (aA (bQ (aA (cH (v:=.ref NX) (by rfl) T.Om rfl) (aA (cH (v:=.ref TM) (by rfl) T.Oo rfl) aB))) aB))))))) (aH (aS iG)) a8)
   (aH (aS (k6 (aN cV (by rfl) T.eD dI (aA (pv 0) (aA (eW (v:=.ty "ValueError") (by rfl) T.Ea NF rfl) aB))) (jF (Cw (aN cV (by rfl) T.eD dI (aA (pv 0) (aA (cH (v:=.ref UL) (by rfl) T.Oq rfl) aB)))))))))),?_⟩
  obtain⟨cC,y1,y2,y3,y4,yv,yl⟩:gR K C/\qCg K (.ref C) [.ref NG,.ref NN]=some false/\qCg K (.ref C) [.ref NO,.ref NL]=some false/\qCg K (.ref C) [.ref NR,.ref NS]=some false/\qCg K (.ref C) [.ref NX,.ref TM]=some false/\qBs K (.ref C) (.type "ValueError")=some true/\qBs K (.ref C) (.ref UL)=some false:=by
   rcases hC with rfl | rfl
   ·exact⟨T.Rm,T.Eb,T.Ec,T.Ed,T.Ee,T.Oy,T.Oz⟩
   ·exact⟨T.Rn,T.Ef,T.Eg,T.Eh,T.Ei,T.OB,T.OC⟩
  refine⟨_,rfl,jB,fun p1 hp1=>?_⟩;have u1:=aG.aF (o:=.tup [.ref NG,.ref NN]) hp1;have x1:upd H p1 (.tup [.ref NG,.ref NN]) p1=_:=aC;generalize upd H p1 (.tup [.ref NG,.ref NN])=H1 at u1 x1|-;have hE:=u1 _ _ hE;refine⟨.ref e,p1,_,_,_,_,rfl,x1,rfl,.exc hE cC,y1,_,rfl,dO ?_⟩;refine⟨_,rfl,jB,fun p2 hp2=>?_⟩;have u2:=aG.aF (o:=.tup [.ref NO,.ref NL]) hp2;have x2:upd H1 p2 (.tup [.ref NO,.ref NL]) p2=_:=aC;generalize upd H1 p2 (.tup [.ref NO,.ref NL])=H2 at u2 x2|-;have hE:=u2 _ _ hE;refine⟨.ref e,p2,_,_,_,_,rfl,x2,rfl,.exc hE cC,y2,_,rfl,dO ?_⟩;refine⟨_,rfl,jB,fun p3 hp3=>?_⟩;have u3:=aG.aF (o:=.tup [.ref NR,.ref NS]) hp3;have x3:upd H2 p3 (.tup [.ref NR,.ref NS]) p3=_:=aC;generalize upd H2 p3 (.tup [.ref NR,.ref NS])=H3 at u3 x3|-;have hE:=u3 _ _ hE;refine⟨.ref e,p3,_,_,_,_,rfl,x3,rfl,.exc hE cC,y3,_,rfl,dO ?_⟩;refine⟨_,rfl,jB,fun p4 hp4=>?_⟩;have u4:=aG.aF (o:=.tup [.ref NX,.ref TM]) hp4;have x4:upd H3 p4 (.tup [.ref NX,.ref TM]) p4=_:=aC;generalize upd H3 p4 (.tup [.ref NX,.ref TM])=H4 at u4 x4|-;have hE:=u4 _ _ hE;refine⟨.ref e,p4,_,_,_,_,rfl,x4,rfl,.exc hE cC,y4,_,rfl,dO ?_⟩;dsimp only[oX];exact⟨_,rfl,.ref e,.ty "ValueError",_,_,_,rfl,rfl,.exc hE cC,yv,_,rfl,eQ ⟨_,rfl,.ref e,.ref UL,_,_,_,rfl,rfl,.exc hE cC,yl,_,rfl,k _ (u1.trans (u2.trans (u3.trans u4)))⟩⟩
def tF (K:qAb)(NT NV:Addr):Sp:=fun vs H Q E=>∃(p:Addr) (xs:List V) (w m:Nat),vs=[.ref p,.int (w:Int),.int (m:Int)]/\H p=some (.lst xs)/\(∀v∈xs,Pl K H v)/\xs.length<=1000/\1<=m/\m<=5/\(dQ xs=false->∀H',aG H H'->E (.ref NT) none H')/\(dQ xs=true->w≠4/\∃tb:Nat->Int,xs=a9 (2^m) tb/\tb 0=0/\(∀j,Sm 64 (tb j))/\(w=0->(∃j,j<2^m/\tb j≠0/\tb j≠1)->∀H',aG H H'->E (.ref NV) none H')/\((w=0->∀j,j<2^m->tb j=0\/tb j=1)->∀H',aG H H'->Q (.bl true) H'))
theorem PC:aO ["_law_table","_law_which","_law_many"] ["_law_table","_law_which","_law_many"] (aJ KW):=by constructor<;>first|rfl|decide +kernel
theorem MG (t:Tx K mg "_law_asked" KW ["_law_table","_law_which","_law_many"] f fd)(T:T K mg AL LN FR iF fCh fGM fCC fCA fPL SE NN NG NT NR NS NV NO NL NX TM UL)(D_weights_for:Df P w K mg base (fY P w) 6 "weights_for" ["table"] (Ie K NT NV) f1 fd1)(D_stable:Df P w K mg base (fY P w) 6 "stable" ["table"] (HP K NT) f2 fd2)(D_bettering:Df P w K mg base (fY P w) 6 "bettering" ["table","shares"] (HV K NT) f3 fd3)(D_calm:Df P w K mg base (fY P w) 8 "calm" ["table"] (Iu K NT) f4 fd4):
  Df P w K mg base (fY P w) 9 "_law_asked" ["_law_table","_law_which","_law_many"] (tF K NT NV) f fd:=by
 refine t.By PC (fun vs H Q E h=>?_) (fun cdv A outer s H vs Q E hr h=>?_)
 ·obtain⟨p,xs,w,m,rfl,_⟩:=h;rfl
 ·obtain⟨p,xs,w',m,rfl,hp,pl,hlen,m1,m5,k0,k⟩:=h;refine⟨_,(aD (bU (aW eO (pv 1) aE (aX _)) (aH (aS (aN cV (by rfl) T.eD dI (aA (cR bN.toPass D_weights_for hr (by decide) (by rfl) (aA (pv 0) aB)) (aA (eW (v:=.ty "tuple") (by rfl) T.hV lO rfl) aB))))) a8)
   (aD (bU (aW eO (pv 1) aE (aX _)) (aH (aS (aN cV (by rfl) T.eD dI (aA (cR bN.toPass D_stable hr (by decide) (by rfl) (aA (pv 0) aB)) (aA (eW (v:=.ty "tuple") (by rfl) T.hV lO rfl) aB))))) a8)
   (aD (bU (aW eO (pv 1) aE (aX _)) (aH (aS (aN cV (by rfl) T.eD dI (aA (cR bN.toPass D_bettering hr (by decide) (by rfl) (aA (pv 0) (aA (aQ fL (bL (aA (bQ (aA aE (aA aE aB))) aB)) (pv 2)) aB))) (aA (eW (v:=.ty "list") (by rfl) T.cQ c5 rfl) aB))))) a8)
   (aD (bU (aW eO (pv 1) aE (aX _)) (aH (aS (cR bN.toPass D_bettering hr (by decide) (by rfl) (aA (pv 0) (aA (bL (aA (bQ (aA aE (aA aE aB))) (aA iQ aB))) aB))))) a8)
   (aH (aS (aN cV (by rfl) T.eD dI (aA (cR bN.toPass D_calm hr (by decide) (by rfl) (aA (pv 0) aB)) (aA (eW (v:=.ty "tuple") (by rfl) T.hV lO rfl) aB))))))))),?_⟩
  have m6:m<=6:=by lia
  refine⟨_,rfl,rfl,_,rfl,cJ (fun e=>?_) (fun e0=>?_)⟩
  ·have hw:w'=0:=by have:=V.int.inj (of_decide_eq_true e);lia
   refine⟨_,rfl,p,xs,rfl,hp,pl,hlen,k0,fun yes=>?_⟩;obtain⟨_,tb,rfl,t0,st,kv,kg⟩:=k yes;refine⟨m,2^m,tb,m1,m6,rfl,rfl,kv hw,fun good r H' s' told=>?_⟩;obtain⟨ys,hr⟩:∃ys,H' r=some (.tup ys):=by
    rcases told with ⟨_,_,_,h,_⟩ | ⟨_,_,_,_,_,h,_⟩
    ·exact⟨_,h⟩
    ·exact⟨_,h⟩
   exact⟨.ref r,.ty "tuple",_,_,_,rfl,rfl,.of (.tup hr),Kd.tup.mX K,kg (fun _=>good) H' s'⟩
  have hw0:w'≠0:=fun z=>e0 (decide_eq_true (by rw[z];rfl));refine⟨_,rfl,rfl,_,rfl,cJ (fun e=>?_) (fun e1=>?_)⟩
  ·refine⟨_,rfl,p,xs,rfl,hp,pl,hlen,k0,fun yes=>?_⟩;obtain⟨_,tb,rfl,t0,st,kv,kg⟩:=k yes;refine⟨m,2^m,tb,m1,m6,rfl,rfl,t0,fun j=>(st j).mono (by decide),fun r H' s' told=>?_⟩;obtain⟨ys,hr⟩:∃ys,H' r=some (.tup ys):=by
    rcases told with ⟨_,_,_,_,h,_⟩ | ⟨_,_,_,_,h,_⟩
    ·exact⟨_,h⟩
    ·exact⟨_,h⟩
   exact⟨.ref r,.ty "tuple",_,_,_,rfl,rfl,.of (.tup hr),Kd.tup.mX K,kg (fun z=>absurd z hw0) H' s'⟩
  refine⟨_,rfl,rfl,_,rfl,cJ (fun e=>?_) (fun e2=>?_)⟩
  ·refine⟨_,rfl,jB,fun t ht=>?_⟩;have u1:=aG.aF (o:=.tup [.int 0,.int 1]) ht;have x1:upd H t (.tup [.int 0,.int 1]) t=_:=aC;generalize upd H t (.tup [.int 0,.int 1])=H1 at u1 x1|-;refine⟨jD,fun l1 hl1=>?_⟩;have u2:=aG.aF (o:=.lst [.ref t]) hl1;have x2:upd H1 l1 (.lst [.ref t]) l1=_:=aC;generalize upd H1 l1 (.lst [.ref t])=H2 at u2 x2|-;refine⟨_,rfl,l1,_,_,rfl,rfl,x2,by lia,by lia,?_,fun q hq=>?_⟩
   ·show 1*((m:Nat):Int).toNat<=qAf;exact qAk (aK (by lia))
   rw[qBl,pY];have u3:=aG.aF (o:=.lst ((qBc m t).map V.ref)) hq;have x3:upd H2 q (.lst ((qBc m t).map V.ref)) q=_:=aC;generalize upd H2 q (.lst ((qBc m t).map V.ref))=H3 at u3 x3|-;have s3:=u1.trans (u2.trans u3);dsimp only[fP,qBn,qBp];refine⟨p,q,xs,rfl,s3 _ _ hp,fun v hv=>(pl v hv).same s3,hlen,fun no H' s'=>k0 no H' (s3.trans s'),fun yes=>?_⟩;obtain⟨_,tb,rfl,t0,st,kv,kg⟩:=k yes;have fl:kN m (fun _=>0) 1 H3 q (qBc m t):=⟨x3,qEy,fun j w e=>by
    obtain⟨_,rfl⟩:_/\t=w:=by
     rw[qHu] at e;split at e
     ·next z=>exact⟨z,Option.some.inj e⟩
     ·cases e
    rw[mJ];exact u3 _ _ (u2 _ _ x1)⟩
   refine⟨m,2^m,tb,fun _=>0,1,_,rfl,m1,m6,rfl,t0,fun j=>(st j).mono (by decide),fl,by decide,Sm.of 2 (by decide) (by decide),fun _=>Sm.zero,fun D H' hD s' hd=>?_⟩;exact⟨.ref D,.ty "list",_,_,_,rfl,rfl,.of (.lst hd),Kd.lst.vQ K,kg (fun z=>absurd z hw0) H' (s3.trans s')⟩
  refine⟨_,rfl,rfl,_,rfl,cJ (fun e=>?_) (fun e4=>?_)⟩
  ·have hw:w'=4:=by have:=V.int.inj (of_decide_eq_true e);lia
   refine⟨_,rfl,jB,fun t ht=>?_⟩;have u1:=aG.aF (o:=.tup [.int 0,.int 2]) ht;generalize upd H t (.tup [.int 0,.int 2])=H1 at u1|-;refine⟨jB,fun q hq=>?_⟩;have u2:=aG.aF (o:=.lst [.ref t,.non]) hq;have s2:=u1.trans u2;dsimp only[fP,qBn,qBp];exact⟨p,q,xs,rfl,s2 _ _ hp,fun v hv=>(pl v hv).same s2,hlen,fun no H' s'=>k0 no H' (s2.trans s'),fun yes=>absurd hw (k yes).1⟩
  refine⟨_,rfl,p,xs,rfl,hp,pl,hlen,k0,fun yes=>?_⟩;obtain⟨_,tb,rfl,t0,st,kv,kg⟩:=k yes;refine⟨m,2^m,tb,m1,m6,rfl,rfl,fun j=>(st j).mono (by decide),fun R lp lv lk H' ps es kes Z d ev ks ds tl s' c=>?_⟩;exact⟨.ref R,.ty "tuple",_,_,_,rfl,rfl,.of (.tup c.tup),Kd.tup.mX K,kg (fun z=>absurd z hw0) H' s'⟩
def Bd (K:qAb):Sp:=fun vs H Q _=>∃(p:Addr) (xs:List V) (w m:Nat) (r:Int),vs=[.ref p,.int (w:Int),.int (m:Int)]/\H p=some (.lst xs)/\(∀v∈xs,Pl K H v)/\xs.length<=1000/\1<=m/\m<=5/\((dQ xs=false/\r=1)\/(dQ xs=true/\r=2/\w=0/\∃tb:Nat->Int,xs=a9 (2^m) tb/\tb 0=0/\(∀j,Sm 64 (tb j))/\∃j,j<2^m/\tb j≠0/\tb j≠1))/\∀H',aG H H'->Q (.int r) H'
theorem Be:aO ["_law_table","_law_which","_law_many","_law_told","_law_error"] ["_law_table","_law_which","_law_many"] (aJ KY):=by constructor<;>first|rfl|decide +kernel
theorem MH (t:Tx K mg "_law_refused" KY ["_law_table","_law_which","_law_many"] f fd)(T:T K mg AL LN FR iF fCh fGM fCC fCA fPL SE NN NG NT NR NS NV NO NL NX TM UL)(D_law_asked:Df P w K mg base (fY P w) 9 "_law_asked" ["_law_table","_law_which","_law_many"] (tF K NT NV) f1 fd1)(D_law_none_of:PN P w K mg base 1 "_law_none_of" ["_law_error"] (IA NT NV) f2 fd2):
  Df P w K mg base cA 10 "_law_refused" ["_law_table","_law_which","_law_many"] (Bd K) f fd:=by
 refine t.iJ Be (fun vs H Q E h=>?_) (fun cdv A outer s H vs Q E hr h=>?_)
 ·obtain⟨p,xs,w,m,r,rfl,_⟩:=h;rfl
 ·obtain⟨p,xs,w',m,r,rfl,hp,pl,hlen,m1,m5,hc,k⟩:=h;refine⟨_,(aD (aP (i:=3) Be.nd rfl bP aE)
   (aD (Jj (i:=4) (tb:=fun Ex=>Hk (yD (tF K NT NV) [] Ex (rA (Cv 0) (rA (Cv 1) (rA (Cv 2) fP))))) ⟨rfl,rfl,rfl⟩ rfl (fun pins Ex=>(aH (eX (cR CU D_law_asked hr (by decide) (by rfl) (aA (pv 0) (aA (pv 1) (aA (pv 2) aB))))))) (by rfl) T.Oi T.RR Be.nd rfl rfl
    (fun e=>(aH (aP (i:=3) Be.nd rfl bP (aQ tJ (dB mT (by rfl) T.nV tP (aA (NK D_law_none_of (fQ.PM hr) (by decide) (by rfl) (aA (pv 4) aB)) aB)) (aQ f9 (dB mT (by rfl) T.nV tP (aA (aN (rJ K) (by rfl) T.eD dI (aA (pv 4) (aA (cH (v:=.ref NT) (by rfl) T.MU rfl) aB))) aB)) (aQ tJ aE (dB mT (by rfl) T.nV tP (aA (aN (rJ K) (by rfl) T.eD dI (aA (pv 4) (aA (cH (v:=.ref NV) (by rfl) T.MW rfl) aB))) aB)))))))))
   (aH (aS (pv 3))))),?_⟩
  obtain⟨C,hC,cC,uC,iT,iV,er,ask⟩:∃C:Addr,(C=NT\/C=NV)/\gR K C/\qCf K C (.ref SE)=some true/\qBs K (.ref C) (.ref NT)=some (decide (r=1))/\qBs K (.ref C) (.ref NV)=some (decide (r=2))/\(r=1\/r=2)/\∀(Q':VK) (E':XK),(∀H',aG H H'->E' (.ref C) none H')->tF K NT NV [.ref p,.int (w':Int),.int (m:Int)] H Q' E':=by
   rcases hc with ⟨no,rfl⟩ | ⟨yes,rfl,hw,tb,ex,t0,st,j,hj,j0,j1⟩
   ·exact⟨NT,.inl rfl,T.Rm,T.Ox,T.wU,T.wV,.inl rfl,fun Q' E' h=>⟨p,xs,w',m,rfl,hp,pl,hlen,m1,m5,fun _=>h,(fun y=>by rw[no] at y;cases y)⟩⟩
   ·exact⟨NV,.inr rfl,T.Rn,T.OA,T.wW,T.wX,.inr rfl,fun Q' E' h=>⟨p,xs,w',m,rfl,hp,pl,hlen,m1,m5,(fun y=>by rw[yes] at y;cases y),fun _=>⟨by lia,tb,ex,t0,st,fun _ _=>h,(fun g=>by rcases g hw j hj with z | z;exact absurd z j0;exact absurd z j1)⟩⟩⟩
  refine⟨_,rfl,_,rfl,_,rfl,?_⟩;dsimp only[fP,qBn,qBp];refine ask _ _ fun H1 s1=>⟨C,rfl,uC,fun e he=>?_⟩;have hE:upd H1 e (vM e C) e=some (vM e C):=aC;have sE:aG H1 (upd H1 e (vM e C)):=.aF he;generalize upd H1 e (vM e C)=H2 at hE sE;refine⟨_,rfl,e,C,rfl,hE,hC,fun H3 s3=>.inr ⟨true,rfl,_,rfl,.ref e,.ref NT,_,_,_,rfl,rfl,.exc (s3 _ _ hE) cC,iT,.inr ⟨_,rfl,_,rfl,.ref e,.ref NV,_,_,_,rfl,rfl,.exc (s3 _ _ hE) cC,iV,.inr ⟨_,rfl,_,_,rfl,rfl,.inl ⟨by decide,by decide⟩,_,_,rfl,rfl,_,_,rfl,rfl,.inl ⟨by decide,by decide⟩,_,rfl,?_⟩⟩⟩⟩;have ev:(if true=true then (1:Int) else 0)*((if decide (r=1)=true then 1 else 0)+2*(if decide (r=2)=true then 1 else 0))=r:=by
   rcases er with rfl | rfl <;> rfl
  have z:=k H3 (s1.trans (sE.trans s3));rw[<- ev] at z;exact z
theorem PD:∀{xs:List V},(∀v∈xs,Cr K H v)->∃ds,cF K H xs ds/\PyData.depthAll ds<=8
 | [],_=>⟨[],.nil,by simp[PyData.depthAll]⟩
 | x::xs,h=>by
  obtain⟨d,h1,h2⟩:=(h x (by simp)).2;obtain⟨ds,h3,h4⟩:=PD (xs:=xs) fun v hv=>h v (qCh _ hv);refine⟨d::ds,.cons h1 h3,?_⟩;have e:PyData.depthAll (d::ds)=max d.depth (PyData.depthAll ds):=rfl;rw[e];lia
theorem Hi (vs:List Int):vs.map V.int=a9 vs.length fun j=>vs.getD j 0:=by
 unfold a9;refine qJy (by rw[qAc,qAc,qAs]) fun i h1 h2=>?_;rw[qAc] at h1;rw[qGo,qGo,qJg];show V.int vs[i]=V.int (vs.getD i 0);rw[qAq,qAd h1];rfl
def Bf (K:qAb):Sp:=fun vs H Q _=>∃(a:Addr) (ns:List Int),vs=[.ref a]/\aR K H a (ns.map V.int)/\ns.length<=63/\∀H',Q (.bl true) H'
theorem mQ:aO ["_law_script","_law_many","_law_which","_law_table","_law_votes","_law_amiss","_law_kept"] ["_law_script"] (aJ KZ):=by constructor<;>first|rfl|decide +kernel
theorem MI (t:Tx K mg "law" KZ ["_law_script"] f fd)(T:T K mg AL LN FR iF fCh fGM fCC fCA fPL SE NN NG NT NR NS NV NO NL NX TM UL)(D_law_cell:Df P w K mg base cA 1 "_law_cell" ["_law_script","_law_k"] (Fs K) f1 fd1)(D_law_number:Df P w K mg base cA 1 "_law_number" ["_law_cell_here"] Iy f2 fd2)(D_law_no_table:Df P w K mg base cA 2 "_law_no_table" ["_law_table","_law_script"] (Iz K) f3 fd3)(D_law_asked:Df P w K mg base (fY P w) 9 "_law_asked" ["_law_table","_law_which","_law_many"] (tF K NT NV) f4 fd4)(D_law_refused:Df P w K mg base cA 10 "_law_refused" ["_law_table","_law_which","_law_many"] (Bd K) f5 fd5):
  Df P w K mg base cA 11 "law" ["_law_script"] (Bf K) f fd:=by
 refine t.iJ mQ (fun vs H Q E h=>?_) (fun cdv _A outer s H vs Q E hr h=>?_)
 ·obtain⟨a,ns,rfl,_⟩:=h;rfl
 ·obtain⟨a,ns,rfl,hq,hns,k⟩:=h;refine⟨_,(aD (aP (i:=1) mQ.nd rfl (by first|exact .inl rfl|exact .inr rfl) (aQ f9 aE (aQ dX (aV D_law_cell hr (by decide) (by rfl) (aA (pv 0) (aA aE aB))) aE)))
   (aD (aP (i:=2) mQ.nd rfl bP (aQ dX (aQ j5 (aV D_law_cell hr (by decide) (by rfl) (aA (pv 0) (aA aE aB))) aE) aE))
   (aD (bU (PW.pt (pw_and (aW kQ (pv 2) aE (aX _)) (pw_and1 (aW eO (aQ dX (aV D_law_cell hr (by decide) (by rfl) (aA (pv 0) (aA aE aB))) aE) aE (aX _))))) (aH (aP (i:=1) mQ.nd rfl (by first|exact .inl rfl|exact .inr rfl) (aQ f9 aE (aQ dX (aQ j5 (aV D_law_cell hr (by decide) (by rfl) (aA (pv 0) (aA aE aB))) aE) aE)))) a8)
   (aD (cZ (NB:=["_law_k","_law_script"]) (pick:=[none,some 0]) (i:=3) mQ.nd rfl bP (by rfl) (bF (by with_unfolding_all rfl) (by exact(And.intro rfl trivial)) rfl (by decide +kernel) (by decide +kernel) (by rfl) (by rfl)) rfl
     (c9 (by rfl) T.cM (aA (aQ IU aE (pv 1)) aB)) (fun _ _ _=>aM (i:=0) (show(["_law_k","_law_script"]:List Str).Nodup from by decide +kernel) rfl bP)
     (fun _ _ _=>bI) (fun _ _ _=>(aQ dX (aQ dX (aQ f9 (aQ tJ (aV D_law_cell hr (by decide) (by rfl) (aA (pv 1) (aA (aQ f9 aE (pv 0)) aB))) aE) (aQ tJ (pv 0) (pv 0))) aE) aE)))
   (aD (iU aE (iS (pv 3) aE set_list))
   (aD (aP (i:=4) mQ.nd rfl bP (dB gF (by rfl) T.cQ c5 (aA (pv 3) aB)))
   (aD (iU (aV D_law_number hr (by decide) (by rfl) (aA (aV D_law_cell hr (by decide) (by rfl) (aA (pv 0) (aA aE aB))) aB)) (iS (pv 4) (aQ f9 aE (aQ dX (aV D_law_cell hr (by decide) (by rfl) (aA (pv 0) (aA aE aB))) (aQ iW (aN aT (by rfl) T.cK bY (aA (pv 3) aB)) aE))) set_list))
   (aD (aP (i:=5) mQ.nd rfl bP (aV D_law_no_table hr (by decide) (by rfl) (aA (pv 3) (aA (pv 0) aB))))
   (aD (bU (aW eO (aQ dX (aV D_law_cell hr (by decide) (by rfl) (aA (pv 0) (aA aE aB))) aE) aE (aX _)) (aH (aP (i:=5) mQ.nd rfl bP (aV D_law_no_table hr (by decide) (by rfl) (aA (pv 4) (aA (pv 0) aB))))) a8)
   (aD (aP (i:=6) mQ.nd rfl bP (bL (aA (dB gF (by rfl) T.cQ c5 (aA (pv 4) aB)) (aA (dB gF (by rfl) T.cQ c5 (aA (pv 5) aB)) aB))))
   (aD (bU (PW.pt (pw_or (aW g9 (aV D_law_refused hr (by decide) (by rfl) (aA (pv 4) (aA aE (aA (pv 1) aB)))) aE (aX _)) (pw_or1 (aW g9 (aV D_law_refused hr (by decide) (by rfl) (aA (pv 5) (aA (pv 2) (aA (pv 1) aB)))) aE (aX _))))) (aH (aS iG)) a8)
   (aD (bU (aW g9 (aV D_law_refused hr (by decide) (by rfl) (aA (pv 5) (aA aE (aA (pv 1) aB)))) aE (aX _)) (aH (aS iG)) a8)
   (aD (bU (PW.pt (pw_or (dG (cG (cR cI D_law_asked hr (by decide) (by rfl) (aA (pv 3) (aA aE (aA (pv 1) aB)))))) (pw_or1 (dG (cG (cR cI D_law_asked hr (by decide) (by rfl) (aA (pv 3) (aA (pv 2) (aA (pv 1) aB))))))))) (aH (aS iG)) a8)
   (aD (bU (PW.pt (pw_or (aW g9 (aV D_law_refused hr (by decide) (by rfl) (aA (pv 5) (aA (pv 2) (aA (pv 1) aB)))) aE (aX _)) (pw_or1 (aW g9 (aV D_law_refused hr (by decide) (by rfl) (aA (pv 4) (aA aE (aA (pv 1) aB)))) aE (aX _))))) (aH (aS iG)) a8)
   (aH (aS (k6 (dR (Jl hr.units) (pv 4) (aU bC (pv 6) aE (fun _ _=>rfl)) (aX _)) (jF (dR (Ai hr.units) (pv 5) (aU bC (pv 6) aE (fun _ _=>rfl)) (aX _)))))))))))))))))))),?_⟩
  refine⟨_,rfl,a,ns,0,rfl,hq,fun c0=>⟨_,_,rfl,rfl,(by show(0:Int)<3;decide),_,_,rfl,rfl,?_⟩⟩;dsimp only[aZ];refine⟨_,rfl,a,ns,0,rfl,hq,fun c0'=>⟨_,_,rfl,rfl,⟨by decide,by decide⟩,_,_,rfl,rfl,(by show(0:Int)<4;decide),?_⟩⟩;dsimp only[aZ];obtain⟨w',hw⟩:∃w':Nat,c0'/5%4=(w':Int):=⟨_,(qCt (qGa _ (by decide))).symm⟩;have hw4:w'<4:=by lia
  rw[hw];refine Fp (fun σ' H'=>H'=H/\∃m:Nat,1<=m/\m<=5/\σ'=[some (.ref a),some (.int (m:Int)),some (.int (w':Int)),none,none,none,none]) (fun kk=>?_) ?_
  ·obtain⟨m0,hm0⟩:∃m0:Nat,1+c0%3=(m0:Int):=⟨_,(qCt (by lia)).symm⟩;rw[hm0];refine⟨_,rfl,_,_,rfl,rfl,_,rfl,cJ (fun _=>?_) (fun _=>dO (kk _ _ ⟨rfl,m0,by lia,by lia,rfl⟩))⟩;refine⟨_,rfl,a,ns,0,rfl,hq,fun c=>⟨_,_,rfl,rfl,(by show(0:Int)<5;decide),rfl,_,rfl,cJ (fun _=>?_) (fun _=>kk _ _ ⟨rfl,m0,by lia,by lia,rfl⟩)⟩⟩;refine⟨_,rfl,a,ns,0,rfl,hq,fun c=>⟨_,_,rfl,rfl,⟨by decide,by decide⟩,_,_,rfl,rfl,(by show(0:Int)<2;decide),_,_,rfl,rfl,kk _ _ ⟨rfl,(4+c/20%2).toNat,by lia,by lia,?_⟩⟩⟩;rw[qCt (by lia)];rfl
  rintro σ' H' ⟨rfl,m,m1,m5,rfl⟩;have n64:2^m<=64:=zD (by lia);have n2:2<=2^m:=qBw (n:=2) (i:=1) (by decide) m1;have e2:(1:Int)*2^((m:Nat):Int).toNat=((2^m:Nat):Int):=by rw[qBl,qCk];push_cast;rfl
  obtain⟨n,hN⟩:∃n,n=2^m:=⟨_,rfl⟩;rw[<- hN] at n64 n2 e2;refine⟨_,rfl,_,_,rfl,rfl,⟨by lia,by lia,by decide⟩,?_⟩;dsimp only;rw[e2];refine⟨n,rfl,by lia,by lia,?_⟩;refine rP (n:=n) (fun i ys _=>∃vs:List Int,ys=vs.map V.int/\vs.length=i/\∀v,v∈vs->v=0\/v=1) (fun _ _ _ _ _ h=>h) ⟨[],rfl,rfl,fun v hv=>by cases hv⟩ (qAk (aK (by lia))) (fun i H1 k1 k10 ys s1 hi iv g1 g2=>?_) fun pt ys H1 hpt s1 iv hd1=>?_
  ·obtain⟨vs,rfl,vl,sv⟩:=iv;refine⟨_,rfl,_,rfl,_,_,rfl,rfl,a,ns,4+i,?_,s1.seq hq,fun c=>⟨_,_,rfl,rfl,.inr ⟨by decide,by decide⟩,_,rfl,_,rfl,_,_,rfl,rfl,.inl ⟨by lia,by lia⟩,_,_,rfl,rfl,_,_,rfl,rfl,(by show(0:Int)<10007;decide),_,_,rfl,rfl,(by show(0:Int)<2;decide),g1 _ _ (.refl _) ⟨vs++[_],by rw[qAu];rfl,by rw[qAp,vl];rfl,fun y hy=>?_⟩⟩⟩
   ·show [V.ref a,V.int (4+(0+(i:Int)))]=_;rw[show(4+(0+(i:Int)))=((4+i:Nat):Int) by lia]
   ·rcases List.mem_append.mp hy with z | z
    ·exact sv y z
    ·rw[List.mem_singleton.mp z];generalize (c*48271+(0+(i:Int))*(0+(i:Int)))%10007=u;lia
  obtain⟨vs,rfl,vl,sv⟩:=iv;obtain⟨f0,ef0⟩:∃f0:Nat->Int,f0=fun j=>vs.getD j 0:=⟨_,rfl⟩;have hd1:H1 pt=some (.lst (a9 n f0)):=by rw[hd1,Hi,vl,ef0]
  have hf0:∀j,f0 j=0\/f0 j=1:=fun j=>by
   rw[ef0];rcases qAm j vs.length with z | z
   ·exact sv _ (by dsimp only;rw[qAq,qAd z];exact qEi z)
   ·dsimp only;rw[qAq,qBm z];exact .inl rfl
  refine⟨_,rfl,pt,_,_,0,rfl,rfl,hd1,(by rw[aI];exact gI (j:=0) (by lia)),?_⟩;rw[oP];obtain⟨tb,etb⟩:∃tb:Nat->Int,tb=fun j=>if j=0 then 0 else f0 j:=⟨_,rfl⟩;have t0:tb 0=0:=by rw[etb];rfl
  have t01:∀j,tb j=0\/tb j=1:=fun j=>by
   rw[etb];dsimp only;split
   ·exact .inl rfl
   ·exact hf0 j
  have st:∀j,Sm 64 (tb j):=fun j=>by rcases t01 j with z | z <;> rw[z] <;> exact Sm.of 2 (by decide) (by decide)
  rw[<- etb];have s2:=s1.upd_ne' (o:=.lst (a9 n tb)) hpt;have e2':upd H1 pt (.lst (a9 n tb)) pt=_:=aC;generalize upd H1 pt (.lst (a9 n tb))=H2 at s2 e2'|-;refine⟨_,rfl,pt,_,rfl,.inl (aR.of e2'),fun pv hpv=>?_⟩;have u3:=aG.aF (o:=.lst (a9 n tb)) hpv;have e3:upd H2 pv (.lst (a9 n tb)) pv=_:=aC;generalize upd H2 pv (.lst (a9 n tb))=H3 at u3 e3|-;dsimp only[aZ];refine⟨_,rfl,a,ns,2,rfl,(s2.trans u3).seq hq,fun c2=>⟨c2,rfl,fun v H4 s4 v0 v1 sv=>?_⟩⟩;have e4:=s4 _ _ e3;refine⟨_,rfl,_,rfl,a,ns,3,rfl,(s2.trans (u3.trans s4)).seq hq,fun c3=>⟨_,rfl,pt,_,rfl,.inl (aR.of (s4 _ _ (u3 _ _ e2'))),?_⟩⟩;rw[aI];refine⟨_,_,rfl,rfl,_,_,rfl,rfl,(by show(0:Int)<((n:Nat):Int)-1;lia),_,_,rfl,rfl,?_⟩;have q0:=qGa c3 (b:=((n:Nat):Int)-1) (by lia);have q1:=qJl c3 (b:=((n:Nat):Int)-1) (by lia);obtain⟨g,hg⟩:∃g:Nat,1+c3%(((n:Nat):Int)-1)=(g:Int):=⟨_,(qCt (by lia)).symm⟩;dsimp only;rw[hg];have hg1:1<=g:=by lia
  have hgn:g<n:=by lia
  refine⟨pv,_,_,g,rfl,rfl,e4,(by rw[aI];exact gI hgn),?_⟩;rw[oP];obtain⟨tv,etv⟩:∃tv:Nat->Int,tv=fun j=>if j=g then v else tb j:=⟨_,rfl⟩;have tv0:tv 0=0:=by rw[etv];dsimp only;rw[if_neg (by lia)];exact t0
  have tvg:tv g=v:=by rw[etv];dsimp only;rw[if_pos rfl]
  have stv:∀j,Sm 64 (tv j):=fun j=>by
   rw[etv];dsimp only;split
   ·exact sv
   ·exact st j
  rw[<- etv];have hpv1:=s2.free hpv;have s5:=(s2.trans (u3.trans s4)).upd_ne' (o:=.lst (a9 n tv)) hpv1;have ne:pt≠pv:=bB e2' hpv;have ept:upd H4 pv (.lst (a9 n tv)) pt=some (.lst (a9 n tb)):=by rw[aL ne];exact s4 _ _ (u3 _ _ e2')
  have epv:upd H4 pv (.lst (a9 n tv)) pv=_:=aC;generalize upd H4 pv (.lst (a9 n tv))=H5 at s5 ept epv|-;have yes:dQ (a9 n tb)=true:=AO m1 (by lia) hN t0;have yesv:dQ (a9 n tv)=true:=AO m1 (by lia) hN tv0;refine⟨_,rfl,_,rfl,pt,a,ns,m,tb,rfl,s5.seq hq,(by rw[<- hN];exact ept),m1,m5,fun pa xs H6 hpa s6 hda la oka noa=>?_⟩;dsimp only[aZ];refine Fp (fun σ' H7=>aG H5 H7/\∃(pa:Addr) (xs:List V),H7 pa=some (.lst xs)/\xs.length<=1000/\(∀v∈xs,Cr K H7 v)/\dQ xs=false/\σ'=[some (.ref a),some (.int (m:Int)),some (.int (w':Int)),some (.ref pt),some (.ref pv),some (.ref pa),none]) (fun kk=>?_) ?_
  ·refine⟨_,rfl,a,ns,1,rfl,(s5.trans s6).seq hq,fun c=>⟨_,_,rfl,rfl,(by show(0:Int)<2;decide),rfl,_,rfl,cJ (fun _=>?_) (fun _=>kk _ _ ⟨s6,pa,xs,hda,la,oka,noa,rfl⟩)⟩⟩;exact⟨_,rfl,_,rfl,pv,a,ns,m,tv,rfl,(s5.trans s6).seq hq,(by rw[<- hN];exact s6 _ _ epv),m1,m5,fun pa xs H7 _ s7 hda la oka noa=>kk _ _ ⟨s6.trans s7,pa,xs,hda,la,oka,noa,rfl⟩⟩
  clear hpa hda la oka noa s6
  rintro σ' H7 ⟨s7,pa,xs,hda,la,oka,noa,rfl⟩;have ept:=s7 _ _ ept;have epv:=s7 _ _ epv;refine⟨_,rfl,pv,_,rfl,.inl (aR.of epv),fun l1 hl1=>?_⟩;have u8:=aG.aF (o:=.lst (a9 n tv)) hl1;have e8:upd H7 l1 (.lst (a9 n tv)) l1=_:=aC;generalize upd H7 l1 (.lst (a9 n tv))=H8 at u8 e8|-;refine⟨_,rfl,pa,_,rfl,.inl (aR.of (u8 _ _ hda)),fun l2 hl2=>?_⟩;have u9:=aG.aF (o:=.lst xs) hl2;have e9:upd H8 l2 (.lst xs) l2=_:=aC;generalize upd H8 l2 (.lst xs)=H9 at u9 e9|-;refine⟨jB,fun l3 hl3=>?_⟩;have u10:=aG.aF (o:=.lst [.ref l1,.ref l2]) hl3;have e10:upd H9 l3 (.lst [.ref l1,.ref l2]) l3=_:=aC;generalize upd H9 l3 (.lst [.ref l1,.ref l2])=H10 at u10 e10|-;dsimp only[aZ];have s710:=u8.trans (u9.trans u10);have refV:∀{H':Hp}{Q':VK}{E':XK},aG H7 H'->(∀H'',aG H' H''->Q' (.int 2) H'')->Bd K [.ref pv,.int ((0:Nat):Int),.int (m:Int)] H' Q' E':=fun s kq=>⟨pv,_,0,m,2,rfl,s _ _ epv,w8,by rw[aI];lia,m1,m5,.inr ⟨yesv,rfl,rfl,tv,by rw[hN],tv0,stv,g,by lia,by rw[tvg];exact v0,by rw[tvg];exact v1⟩,kq⟩;have refA:∀{H':Hp}{Q':VK}{E':XK} (q:Nat),aG H7 H'->(∀H'',aG H' H''->Q' (.int 1) H'')->Bd K [.ref pa,.int (q:Int),.int (m:Int)] H' Q' E':=fun q s kq=>⟨pa,xs,q,m,1,rfl,s _ _ hda,fun v hv=>(oka v hv).1.same s,la,m1,m5,.inl ⟨noa,rfl⟩,kq⟩;have ask:∀{H':Hp}{Q':VK}{E':XK} (q:Nat),q≠4->aG H7 H'->(∀H'',aG H' H''->Q' (.bl true) H'')->tF K NT NV [.ref pt,.int (q:Int),.int (m:Int)] H' Q' E':=fun q q4 s kq=>⟨pt,_,q,m,rfl,s _ _ ept,w8,by rw[aI];lia,m1,m5,(fun no=>by rw[yes] at no;cases no),fun _=>⟨q4,tb,by rw[hN],t0,st,(fun _ ⟨j,_,j0,j1⟩=>by rcases t01 j with z | z;exact absurd z j0;exact absurd z j1),fun _=>kq⟩⟩;refine⟨_,rfl,_,rfl,?_⟩;dsimp only[fP,qBn,qBp];refine refV s710 fun H11 s11=>⟨rfl,_,rfl,pD rfl ?_⟩;refine⟨_,rfl,_,rfl,_,rfl,?_⟩;dsimp only[fP,qBn,qBp];refine refA w' (s710.trans s11) fun H12 s12=>⟨rfl,_,rfl,pD rfl ?_⟩;dsimp only[oX];have s12':=s710.trans (s11.trans s12);refine⟨_,rfl,_,rfl,?_⟩;dsimp only[fP,qBn,qBp];refine refA 4 s12' fun H13 s13=>⟨rfl,_,rfl,pD rfl ?_⟩;dsimp only[oX];have s13':=s12'.trans s13;refine⟨_,rfl,_,rfl,?_⟩;dsimp only[fP,qBn,qBp];refine ask 0 (by decide) s13' fun H14 s14=>⟨_,rfl,dO ?_⟩;have s14':=s13'.trans s14;refine⟨_,rfl,_,rfl,_,rfl,?_⟩;dsimp only[fP,qBn,qBp];refine ask w' (by lia) s14' fun H15 s15=>⟨_,rfl,dO ?_⟩;dsimp only[oX];have s15':=s14'.trans s15;refine⟨_,rfl,_,rfl,_,rfl,?_⟩;dsimp only[fP,qBn,qBp];refine refA w' s15' fun H16 s16=>⟨rfl,_,rfl,pD rfl ?_⟩;have s16':=s15'.trans s16;refine⟨_,rfl,_,rfl,?_⟩;dsimp only[fP,qBn,qBp];refine refV s16' fun H17 s17=>⟨rfl,_,rfl,pD rfl ?_⟩;dsimp only[oX];have s17':=s16'.trans s17;have e10':=s17' _ _ epv;have f1:=(s11.trans (s12.trans (s13.trans (s14.trans (s15.trans (s16.trans s17)))))) _ _ e10;have f2:=(u10.trans (s11.trans (s12.trans (s13.trans (s14.trans (s15.trans (s16.trans s17))))))) _ _ e9;have f3:=(u9.trans (u10.trans (s11.trans (s12.trans (s13.trans (s14.trans (s15.trans (s16.trans s17)))))))) _ _ e8;rw[kD] at e10' f3;have a0:gQ [V.ref l1,V.ref l2] 0=some (.ref l1):=rfl;have a1:gQ [V.ref l1,V.ref l2] 1=some (.ref l2):=rfl;refine⟨_,rfl,_,rfl,l3,_,_,_,rfl,rfl,aR.of f1,a0,pv,l1,_,_,rfl,rfl,aR.of e10',aR.of f3,_,rfl,?_⟩;show if decide ((qAn n).map tv=(qAn n).map tv)=true then _ else _;rw[decide_eq_true rfl];obtain⟨ds,dd,dp⟩:=PD fun v hv=>(oka v hv).same s17';have dep:PyData.depth (.list ds)<=64:=by
   have e:PyData.depth (.list ds)=PyData.depthAll ds+1:=rfl;lia
  have dA:gG K H17 (.ref pa) (.list ds):=.lst (aR.of (s17' _ _ hda)) dd;refine eQ ⟨_,rfl,_,rfl,l3,_,_,_,rfl,rfl,aR.of f1,a1,_,_,dA,.lst (aR.of f2) dd,dep,dep,?_⟩;have z:∀b,b=true->Q (.bl b) H17:=fun b e=>by rw[e];exact k _
  exact z _ dA.lay.2
end
end K54
namespace PySem.W.Fast
def tw5686322456845863261:Unit:=()
def tw17718873081852318324:Unit:=()
def tw12717575254664795283:Unit:=()
def tw7292625033055283174:Unit:=()
def tw3392662212067406102:Unit:=()
def tw10497534850208076071:Unit:=()
def tw12350737157619914509:Unit:=()
def tw1691756397673666829:Unit:=()
def tw8213015825546591299:Unit:=()
def tw4834176212270906774:Unit:=()
def tw8509187369732847045:Unit:=()
def tw5275271039148891648:Unit:=()
def tw16230906269249458772:Unit:=()
def tw13181502332955635332:Unit:=()
def tw11741051013402007045:Unit:=()
def tw11588150556733355429:Unit:=()
def tw17467191052925535269:Unit:=()
def tw856589751344503752:Unit:=()
def tw8822879954565375160:Unit:=()
def tw6564126782489809492:Unit:=()
def tw13265124953080361106:Unit:=()
def tw11511935009425786400:Unit:=()
def tw11868005273103006220:Unit:=()
def tw13257353677671653721:Unit:=()
def tw1213500841632821032:Unit:=()
def tw7362731804559841499:Unit:=()
def tw1304968069698129840:Unit:=()
def tw7623657688042624714:Unit:=()
def tw17311639069313898164:Unit:=()
def tw16213608688296100203:Unit:=()
def tw6402868578242759721:Unit:=()
def tw12309960501132719179:Unit:=()
def tw15288891229992065298:Unit:=()
def tw14417142548527760356:Unit:=()
def tw5414926636770849700:Unit:=()
def tw11359930546111670406:Unit:=()
def tw17133057047508932170:Unit:=()
def tw15985653766932839662:Unit:=()
def tw4443727030381321942:Unit:=()
def tw7085275033882432420:Unit:=()
def tw13575270807579437671:Unit:=()
def tw2316005866586509109:Unit:=()
def tw792047761971915730:Unit:=()
def tw14835968893951051059:Unit:=()
def tw6783422786464684071:Unit:=()
def tw131338865245716296:Unit:=()
def tw17314262351891369371:Unit:=()
def tw1993989517986658487:Unit:=()
def tw11131070303642747868:Unit:=()
def tw4221003980761906462:Unit:=()
def tw503557733975294543:Unit:=()
def tw4333305656022748167:Unit:=()
def tw16692355384131875147:Unit:=()
def tw14731189958081222666:Unit:=()
def tw5558627619512297282:Unit:=()
def tw8927444421212461938:Unit:=()
def tw217889279088381063:Unit:=()
def tw7227301191847879400:Unit:=()
def tw9386820580142107658:Unit:=()
def tw6121217653951282659:Unit:=()
def tw14793239336315532045:Unit:=()
def tw13935423365328674988:Unit:=()
def tw10145653237575339924:Unit:=()
def tw3931430992226867856:Unit:=()
def tw9007806743293358615:Unit:=()
def tw5269187733553208405:Unit:=()
def tw16880138155697304668:Unit:=()
def tw6110614192869815959:Unit:=()
def tw5166453146938845450:Unit:=()
def tw6361692738671386040:Unit:=()
def tw8361781417901072235:Unit:=()
def tw13522169630181087390:Unit:=()
def tw12176102845508439625:Unit:=()
def tw11934409873950958921:Unit:=()
def tw5698026981906633979:Unit:=()
def tw10125060197890750131:Unit:=()
def tw352401386550980007:Unit:=()
def tw4804477962609176999:Unit:=()
def tw12908846540768653960:Unit:=()
def tw700371602103300498:Unit:=()
def tw3063938055000533914:Unit:=()
def tw9977482975092224499:Unit:=()
def tw8269215063477569944:Unit:=()
def tw7997915261293608584:Unit:=()
def tw4249678164945550853:Unit:=()
def tw12712609393070296292:Unit:=()
def tw16728809359678497901:Unit:=()
def tw3462422947885216158:Unit:=()
def tw12418555340581451626:Unit:=()
def tw12432475000073446840:Unit:=()
def tw3843524411180728097:Unit:=()
def tw2828205685494733401:Unit:=()
def tw18317752442508832800:Unit:=()
def tw18333606217789324348:Unit:=()
def tw4771554064631598998:Unit:=()
def tw4382564593640441774:Unit:=()
def tw5093666407417931198:Unit:=()
def tw9578914966163909977:Unit:=()
def tw5928719119049986214:Unit:=()
def tw8286316377602363196:Unit:=()
def tw9602256989383348106:Unit:=()
def tw945944285562473104:Unit:=()
def tw1872139360964813620:Unit:=()
def tw8543723659155912998:Unit:=()
def tw7843325474863183892:Unit:=()
def tw18081746162497322393:Unit:=()
def tw618129430114321290:Unit:=()
def tw3815602495795102068:Unit:=()
def tw18078930455684913424:Unit:=()
def tw16472048497662772737:Unit:=()
def tw10751322299189139557:Unit:=()
def tw12030503654563962018:Unit:=()
def tw5845511999940966119:Unit:=()
def tw14306816599607107561:Unit:=()
def tw17885521452270281148:Unit:=()
def tw12646178614494275909:Unit:=()
def tw14966665138598930441:Unit:=()
def tw2777146278895161840:Unit:=()
def tw2362354816300514109:Unit:=()
def tw14096423574038753503:Unit:=()
def tw38712037009024328:Unit:=()
def tw6572785630931902297:Unit:=()
def tw8398284227622399523:Unit:=()
def tw16226329844872206391:Unit:=()
def tw13907662956101590138:Unit:=()
def tw7526447097430665476:Unit:=()
def tw39249742900011706:Unit:=()
def tw12275204465370892358:Unit:=()
def tw11344777327173629:Unit:=()
def tw17619177974601431125:Unit:=()
def tw6397721846573182508:Unit:=()
def tw9231873847844166715:Unit:=()
def tw14360686770024171609:Unit:=()
def tw16434288103414450887:Unit:=()
def tw10470111773575176941:Unit:=()
def tw8726560350996697117:Unit:=()
def tw4852204971125480280:Unit:=()
def tw11464928842265466261:Unit:=()
def tw1020576083100005678:Unit:=()
def tw4914816109164644254:Unit:=()
def tw16016869573040444137:Unit:=()
def tw9417922255926248683:Unit:=()
def tw256082305631644092:Unit:=()
def tw3685717835300435219:Unit:=()
def tw8944728811981724683:Unit:=()
def tw1899416143948725278:Unit:=()
def tw16674159023792991653:Unit:=()
def tw4900305256848894517:Unit:=()
def tw15569637700293363086:Unit:=()
def tw3548677146946153188:Unit:=()
def tw17252955462832551276:Unit:=()
def tw15816812477847533150:Unit:=()
def tw10956921408085753894:Unit:=()
def tw2369259085267549604:Unit:=()
def tw12938184361045149997:Unit:=()
def tw6201736187981475956:Unit:=()
def tw17249037696625322026:Unit:=()
def tw12406797352524304467:Unit:=()
def tw11878185159728607159:Unit:=()
def tw7102650320096830412:Unit:=()
def tw15176525481919562258:Unit:=()
def tw8914521605931244354:Unit:=()
def tw5681396412617879389:Unit:=()
def tw7087087379504776486:Unit:=()
def tw4533921316151493022:Unit:=()
def tw17086519594360092228:Unit:=()
def tw15705403579494054209:Unit:=()
def tw13393555755908405533:Unit:=()
def tw4903669821460381614:Unit:=()
def tw8491764945109747768:Unit:=()
def tw7382691448438028074:Unit:=()
def tw13037011737176300719:Unit:=()
def tw4422113045545888900:Unit:=()
def tw8640114682274036876:Unit:=()
def tw13069827562084216426:Unit:=()
def tw2942323011296547761:Unit:=()
def tw13533165366683188735:Unit:=()
def tw5583798949478106040:Unit:=()
def tw11479832799695597942:Unit:=()
def tw2038844881606503983:Unit:=()
def tw7510134127351957043:Unit:=()
def tw16101220641446286963:Unit:=()
def tw6856003560579189495:Unit:=()
def tw14394369568806699218:Unit:=()
def tw8488593766148258221:Unit:=()
def tw4193034011533584483:Unit:=()
def tw623020224025107834:Unit:=()
def tw8124920058956372276:Unit:=()
def tw10455298003368715007:Unit:=()
def tw17752089612626456129:Unit:=()
def tw2101192266005258033:Unit:=()
def tw4676461598454912096:Unit:=()
def tw1400723375878105923:Unit:=()
def tw12837690313116391476:Unit:=()
def tw16426603008732139333:Unit:=()
def tw5171883280800184585:Unit:=()
def tw1222557048326683520:Unit:=()
def tw1371801691135367912:Unit:=()
def tw8197520375609913569:Unit:=()
def tw9058862070004548409:Unit:=()
def tw2096563832525036524:Unit:=()
def tw15385512396939523802:Unit:=()
end PySem.W.Fast
set_option maxHeartbeats 8000000
namespace K54
open PySem L2
theorem QZ {K:qAb}{mg:Str->Option qAi}{h:Heap}{AL LN FR iF fCh fGM fCC fCA fPL SE NN NG NT NR NS NV NO NL NX TM UL:Addr}  {n_AL:Nat}{osl_AL:Array (Option qAi)}{t_AL0 t_AL1 t_AL2 t_AL3 t_AL4 t_AL5:Tok}  {n_LN:Nat}{osl_LN:Array (Option qAi)}{t_LN0 t_LN1 t_LN2 t_LN3 t_LN4 t_LN5 t_LN6:Tok}  {tk_mp:Tok}{tk_mc:Tok}    {oc_FI kV_FI doc_FI pm_FI cdv_FI ct_FI:qAi}{od_FI an_FI:Option Addr}{osl_FI:Array (Option qAi)}{oc_Cho kV_Cho doc_Cho pm_Cho cdv_Cho ct_Cho:qAi}{od_Cho an_Cho:Option Addr}{osl_Cho:Array (Option qAi)}{oc_GMo kV_GMo doc_GMo pm_GMo cdv_GMo ct_GMo:qAi}{od_GMo an_GMo:Option Addr}{osl_GMo:Array (Option qAi)}{oc_CTC kV_CTC doc_CTC pm_CTC cdv_CTC ct_CTC:qAi}{od_CTC an_CTC:Option Addr}{osl_CTC:Array (Option qAi)}{oc_CAh kV_CAh doc_CAh pm_CAh cdv_CAh ct_CAh:qAi}{od_CAh an_CAh:Option Addr}{osl_CAh:Array (Option qAi)}{oc_PTL kV_PTL doc_PTL pm_PTL cdv_PTL ct_PTL:qAi}{od_PTL an_PTL:Option Addr}{osl_PTL:Array (Option qAi)}(X:K.In h)(G:h.Ns qAz mg)
  (eD:qBi K qAz "isinstance"=some none)
  (nV:qBi K qAz "int"=some none)
  (pT:qBi K qAz "bool"=some none)
  (cM:qBi K qAz "range"=some none)
  (cK:qBi K qAz "len"=some none)
  (cQ:qBi K qAz "list"=some none)
  (lZ:qBi K qAz "sum"=some none)
  (mB:qBi K qAz "all"=some none)
  (wQ:qBi K qAz "any"=some none)
  (hV:qBi K qAz "tuple"=some none)
  (g4:qBi K qAz "zip"=some none)
  (sC:qBi K qAz "abs"=some none)
  (jV:qBi K qAz "enumerate"=some none)
  (Ay:qBi K qAz "max"=some none)
  (Az:qBi K qAz "str"=some none)
  (jW:qBi K qAz "sorted"=some none)
  (wR:qBi K qAz "set"=some none)
  (g5:qBi K qAz "reversed"=some none)
  (Ea:qBi K qAz "ValueError"=some none)
  (Fx:qBi K qAz "ALONE"=some (some (.ref AL)))
  (lkAL:K.lookup AL=some ⟨.type "tuple",none,.seq #[.int 1 t_AL0,.int 2 t_AL1,.int 4 t_AL2,.int 8 t_AL3,.int 16 t_AL4,.int 32 t_AL5] n_AL,osl_AL⟩)
  (MS:qBi K qAz "LENGTHS"=some (some (.ref LN)))
  (lkLN:K.lookup LN=some ⟨.type "tuple",none,.seq #[.int 1 t_LN0,.int 2 t_LN1,.int 4 t_LN2,.int 8 t_LN3,.int 16 t_LN4,.int 32 t_LN5,.int 64 t_LN6] n_LN,osl_LN⟩)
  (mp:qBi K qAz "MOST_PLACES"=some (some (.int 8 tk_mp)))
  (mc:qBi K qAz "MOST_COLUMNS"=some (some (.int 70 tk_mc)))
  (Oh:qBi K qAz "Frame"=some (some (.ref FR)))
  (pgFR:qGi K FR Str.empty=true)
  (hdFR:qHb K FR=true)
  (poFR:qIy K FR=true)
  (saFR:qAw K (.ref FR) "__setattr__"=some (some (.builtin "object.__setattr__")))
  (caFR:qAw K (.ref FR) "__class__"=some (some (.builtin "object.__class__")))
  (moFR:qCf K FR (.type "object")=some true)
  (nmFR:qAw K (.ref FR) "many"=some none)
  (nbFR:qAw K (.ref FR) "bottom"=some none)
  (nrFR:qAw K (.ref FR) "rows"=some none)
  (ncFR:qAw K (.ref FR) "chosen"=some none)
  (f1FR:qAw K (.ref FR) "choose"=some (some (.ref fCh)))
  (f2FR:qAw K (.ref FR) "gains_more"=some (some (.ref fGM)))
  (f3FR:qAw K (.ref FR) "column_to_choose"=some (some (.ref fCC)))
  (f4FR:qAw K (.ref FR) "comes_ahead"=some (some (.ref fCA)))
  (f5FR:qAw K (.ref FR) "place_to_leave"=some (some (.ref fPL)))
  (mkFR:qJr K FR=true)
  (fiFR:qAw K (.ref FR) "__init__"=some (some (.ref iF)))
  (kkFR:qCs K (.ref FR)=true)
  (lFI:K.lookup iF=some ⟨oc_FI,od_FI,.func (qDf "__init__" "Frame.__init__" (eE MR) (cL MR) (aJ MR) .none kV_FI doc_FI pm_FI an_FI cdv_FI ct_FI),osl_FI⟩)
  (cdFI:qDu K cdv_FI "Frame.__init__"=true)
  (kpFI:qCs K (.ref iF)=true)
  (fnFI:qEu K (.ref iF)=true)
  (lCho:K.lookup fCh=some ⟨oc_Cho,od_Cho,.func (qDf "choose" "Frame.choose" (eE BZ) (cL BZ) (aJ BZ) .none kV_Cho doc_Cho pm_Cho an_Cho cdv_Cho ct_Cho),osl_Cho⟩)
  (cdCho:qDu K cdv_Cho "Frame.choose"=true)
  (kpCho:qCs K (.ref fCh)=true)
  (fnCho:qEu K (.ref fCh)=true)
  (lGMo:K.lookup fGM=some ⟨oc_GMo,od_GMo,.func (qDf "gains_more" "Frame.gains_more" (eE Ca) (cL Ca) (aJ Ca) .none kV_GMo doc_GMo pm_GMo an_GMo cdv_GMo ct_GMo),osl_GMo⟩)
  (cdGMo:qDu K cdv_GMo "Frame.gains_more"=true)
  (kpGMo:qCs K (.ref fGM)=true)
  (fnGMo:qEu K (.ref fGM)=true)
  (lCTC:K.lookup fCC=some ⟨oc_CTC,od_CTC,.func (qDf "column_to_choose" "Frame.column_to_choose" (eE Cb) (cL Cb) (aJ Cb) .none kV_CTC doc_CTC pm_CTC an_CTC cdv_CTC ct_CTC),osl_CTC⟩)
  (cdCTC:qDu K cdv_CTC "Frame.column_to_choose"=true)
  (kpCTC:qCs K (.ref fCC)=true)
  (fnCTC:qEu K (.ref fCC)=true)
  (lCAh:K.lookup fCA=some ⟨oc_CAh,od_CAh,.func (qDf "comes_ahead" "Frame.comes_ahead" (eE Cc) (cL Cc) (aJ Cc) .none kV_CAh doc_CAh pm_CAh an_CAh cdv_CAh ct_CAh),osl_CAh⟩)
  (cdCAh:qDu K cdv_CAh "Frame.comes_ahead"=true)
  (kpCAh:qCs K (.ref fCA)=true)
  (fnCAh:qEu K (.ref fCA)=true)
  (lPTL:K.lookup fPL=some ⟨oc_PTL,od_PTL,.func (qDf "place_to_leave" "Frame.place_to_leave" (eE Cd) (cL Cd) (aJ Cd) .none kV_PTL doc_PTL pm_PTL an_PTL cdv_PTL ct_PTL),osl_PTL⟩)
  (cdPTL:qDu K cdv_PTL "Frame.place_to_leave"=true)
  (kpPTL:qCs K (.ref fPL)=true)
  (fnPTL:qEu K (.ref fPL)=true)
  (Oi:qBi K qAz "ShareError"=some (some (.ref SE)))
  (La:qBi K qAz "NoNumber"=some (some (.ref NN)))
  (MT:qBi K qAz "NoGroup"=some (some (.ref NG)))
  (MU:qBi K qAz "NoTable"=some (some (.ref NT)))
  (GB:qBi K qAz "NoRows"=some (some (.ref NR)))
  (MV:qBi K qAz "NoShares"=some (some (.ref NS)))
  (MW:qBi K qAz "NoVotes"=some (some (.ref NV)))
  (Oj:qBi K qAz "NoOrder"=some (some (.ref NO)))
  (Ol:qBi K qAz "NoRule"=some (some (.ref NL)))
  (Om:qBi K qAz "NoText"=some (some (.ref NX)))
  (Oo:qBi K qAz "TooMany"=some (some (.ref TM)))
  (Oq:qBi K qAz "Unlike"=some (some (.ref UL)))
  (c6:qEw K (.builtin "object.__class__") "__get__"=some (some (.builtin "getset_descriptor.__get__")))
  (c7:qFo K (.builtin "object.__class__")=some true)
  (SE2:qGc K (.ref SE)=some (.type "type"))
  (SE3:qAw K (.ref SE) "__getattribute__"=some (some (.builtin "BaseException.__getattribute__")))
  (SE4:qAw K (.ref SE) "__getattr__"=some none)
  (SE5:qAw K (.ref SE) "__class__"=some (some (.builtin "object.__class__")))
  (SE8:qCf K SE (.type "object")=some true)
  (SE9:qCf K SE (.type "BaseException")=some true)
  (NT2:qGc K (.ref NT)=some (.type "type"))
  (NT3:qAw K (.ref NT) "__getattribute__"=some (some (.builtin "BaseException.__getattribute__")))
  (NT4:qAw K (.ref NT) "__getattr__"=some none)
  (NT5:qAw K (.ref NT) "__class__"=some (some (.builtin "object.__class__")))
  (NT8:qCf K NT (.type "object")=some true)
  (NT9:qCf K NT (.type "BaseException")=some true)
  (NV2:qGc K (.ref NV)=some (.type "type"))
  (NV3:qAw K (.ref NV) "__getattribute__"=some (some (.builtin "BaseException.__getattribute__")))
  (NV4:qAw K (.ref NV) "__getattr__"=some none)
  (NV5:qAw K (.ref NV) "__class__"=some (some (.builtin "object.__class__")))
  (NV8:qCf K NV (.type "object")=some true)
  (NV9:qCf K NV (.type "BaseException")=some true)
  (MX:qDh K NN Bx "ValueError.__new__"=true)
  (Hw:qDh K NR Bx "ValueError.__new__"=true)
  (Ot:qDh K NG Bx "ValueError.__new__"=true)
  (Ou:qDh K NS Bx "ValueError.__new__"=true)
  (Ov:qDh K NT Bx "ValueError.__new__"=true)
  (Ow:qDh K NV Bx "ValueError.__new__"=true)
  (Ox:qCf K NT (.ref SE)=some true)
  (Oy:qBs K (.ref NT) (.type "ValueError")=some true)
  (Oz:qBs K (.ref NT) (.ref UL)=some false)
  (Eb:qCg K (.ref NT) [.ref NG,.ref NN]=some false)
  (Ec:qCg K (.ref NT) [.ref NO,.ref NL]=some false)
  (Ed:qCg K (.ref NT) [.ref NR,.ref NS]=some false)
  (Ee:qCg K (.ref NT) [.ref NX,.ref TM]=some false)
  (wU:qBs K (.ref NT) (.ref NT)=some true)
  (wV:qBs K (.ref NT) (.ref NV)=some false)
  (OA:qCf K NV (.ref SE)=some true)
  (OB:qBs K (.ref NV) (.type "ValueError")=some true)
  (OC:qBs K (.ref NV) (.ref UL)=some false)
  (Ef:qCg K (.ref NV) [.ref NG,.ref NN]=some false)
  (Eg:qCg K (.ref NV) [.ref NO,.ref NL]=some false)
  (Eh:qCg K (.ref NV) [.ref NR,.ref NS]=some false)
  (Ei:qCg K (.ref NV) [.ref NX,.ref TM]=some false)
  (wW:qBs K (.ref NV) (.ref NT)=some false)
  (wX:qBs K (.ref NV) (.ref NV)=some true) :
  ∃AL LN FR iF fCh fGM fCC fCA fPL SE NN NG NT NR NS NV NO NL NX TM UL,T K mg AL LN FR iF fCh fGM fCC fCA fPL SE NN NG NT NR NS NV NO NL NX TM UL :=
 ⟨AL,LN,FR,iF,fCh,fGM,fCC,fCA,fPL,SE,NN,NG,NT,NR,NS,NV,NO,NL,NX,TM,UL,qBu X G eD,qBu X G nV,qBu X G pT,qBu X G cM,qBu X G cK,qBu X G cQ,qBu X G lZ,qBu X G mB,qBu X G wQ,qBu X G hV,qBu X G g4,qBu X G sC,qBu X G jV,qBu X G Ay,qBu X G Az,qBu X G jW,qBu X G wR,qBu X G g5,qBu X G Ea,qCu X G Fx,fun _=>.inr ⟨_,_,_,lkAL,rfl,rfl,by show 6<=qAf;decide,.cons ⟨_,rfl⟩ (.cons ⟨_,rfl⟩ (.cons ⟨_,rfl⟩ (.cons ⟨_,rfl⟩ (.cons ⟨_,rfl⟩ (.cons ⟨_,rfl⟩ .nil)))))⟩,qCu X G MS,fun _=>.inr ⟨_,_,_,lkLN,rfl,rfl,by show 7<=qAf;decide,.cons ⟨_,rfl⟩ (.cons ⟨_,rfl⟩ (.cons ⟨_,rfl⟩ (.cons ⟨_,rfl⟩ (.cons ⟨_,rfl⟩ (.cons ⟨_,rfl⟩ (.cons ⟨_,rfl⟩ .nil))))))⟩,⟨_,lkLN,rfl,rfl⟩,⟨tk_mp,qCu X G mp⟩,⟨tk_mc,qCu X G mc⟩,qCu X G Oh,⟨⟨⟨pgFR,hdFR,poFR,saFR⟩,caFR,c6,c7,moFR⟩,nmFR,nbFR,nrFR,ncFR,⟨f1FR,fnCho,kpCho⟩,⟨f2FR,fnGMo,kpGMo⟩,⟨f3FR,fnCTC,kpCTC⟩,⟨f4FR,fnCAh,kpCAh⟩,⟨f5FR,fnPTL,kpPTL⟩⟩,⟨mkFR,fiFR,fnFI,kkFR⟩,rL lFI cdFI kpFI (fun _ _ _ _ _ _ us hl=>match us,hl with | [_,_,_],_=>rfl),rL lCho cdCho kpCho (fun _ _ _ _ _ _ us hl=>match us,hl with | [_,_,_],_=>rfl),rL lGMo cdGMo kpGMo (fun _ _ _ _ _ _ us hl=>match us,hl with | [_,_,_],_=>rfl),rL lCTC cdCTC kpCTC (fun _ _ _ _ _ _ us hl=>match us,hl with | [_,_],_=>rfl),rL lCAh cdCAh kpCAh (fun _ _ _ _ _ _ us hl=>match us,hl with | [_,_,_,_],_=>rfl),rL lPTL cdPTL kpPTL (fun _ _ _ _ _ _ us hl=>match us,hl with | [_,_],_=>rfl),qCu X G Oi,qCu X G La,qCu X G MT,qCu X G MU,qCu X G GB,qCu X G MV,qCu X G MW,qCu X G Oj,qCu X G Ol,qCu X G Om,qCu X G Oo,qCu X G Oq,yF SE2 SE3 SE4 SE5 c6 c7 SE8 SE9,yF NT2 NT3 NT4 NT5 c6 c7 NT8 NT9,yF NV2 NV3 NV4 NV5 c6 c7 NV8 NV9,MX,Hw,Ot,Ou,Ov,Ow,Ox,Oy,Oz,Eb,Ec,Ed,Ee,wU,wV,OA,OB,OC,Ef,Eg,Eh,Ei,wW,wX⟩
theorem walk {l:qNc}{q:qBx}{loose:List Str}{XP:(Str->Option qAi)->Heap->Prop}{YP:qDe->Heap->Prop}{d:DefRec}{K:Params->qAb}(hn:l.most=some 63)(hdf:d.params.defaults=[])
  (hY:∀(w:qDe) (h:Heap),YP w h->(K w.params).In h)
  (F:∀(w:qDe) (mg:Str->Option qAi) (fa:Addr) (h:Heap),(K w.params).In h->h.Ns qAz mg->mg d.name=some (.ref fa) ->
   ∃fd:qCl,(∀(s:qAl) (u:qAi),qLz s fd ⟨[u],[]⟩ [("_law_script",u)])/\∀base:Heap,(K w.params).In base->base.Ns qAz mg->jL l.prog w (K w.params) mg base cA 11 fa fd ["_law_script"] (Bf (K w.params))) :
  qNv q loose XP YP l.row.toRowW d [] (fun f vs=>PySem.call f vs) :=
 L2.FW (n:=63) (k:=11) (x:="_law_script") (CX:=fun _=>cA) (sp:=fun w=>Bf (K w.params)) hn (by decide) hdf ⟨rfl,by decide,by decide⟩ hY F (fun _ _ a ns hl _ hS=>⟨a,ns,rfl,hS,hl,fun _=>rfl⟩) fun _ _ _ _ _ z=>z
theorem MJ {P:qBx}{w:qDe}{K:qAb}{mg:Str->Option qAi}{fa:Addr}(hfa:mg "law"=some (.ref fa))(hT:∃AL LN FR iF fCh fGM fCC fCA fPL SE NN NG NT NR NS NV NO NL NX TM UL,T K mg AL LN FR iF fCh fGM fCC fCA fPL SE NN NG NT NR NS NV NO NL NX TM UL)
  (t_sNum:∃f fd,Tx K mg "is_number" JR ["thing"] f fd)
  (t_sGcd:∃f fd,Tx K mg "greatest_divisor" JS ["one","other"] f fd)
  (t_sFr:∃f fd,Tx K mg "fraction" QA ["top","bottom"] f fd)
  (t_sAreN:∃f fd,Tx K mg "are_numbers" DU ["thing","least","most"] f fd)
  (t_sCkR:∃f fd,Tx K mg "check_rows" JT ["columns","due","gains"] f fd)
  (t_sSgn:∃f fd,Tx K mg "sign_of" JU ["number"] f fd)
  (t_sFRw:∃f fd,Tx K mg "first_row" JV ["columns","due","place"] f fd)
  (t_sClr:∃f fd,Tx K mg "cleared" JW ["row","lead","column","bottom"] f fd)
  (t_sClb:∃f fd,Tx K mg "climb" JX ["frame","gains"] f fd)
  (t_sSpP:∃f fd,Tx K mg "spare_places" JY ["frame"] f fd)
  (t_sLvS:∃f fd,Tx K mg "leave_spares" JZ ["frame"] f fd)
  (t_sWtO:∃f fd,Tx K mg "weights_of" Ka ["frame"] f fd)
  (t_sPrO:∃f fd,Tx K mg "prices_of" Kb ["frame","gains","due"] f fd)
  (t_sWyO:∃f fd,Tx K mg "way_of" Kc ["frame","growing"] f fd)
  (t_sWgh:∃f fd,Tx K mg "weigh" Ke ["columns","due","gains"] f fd)
  (t_sWith:∃f fd,Tx K mg "is_number_within" DV ["thing","least","most"] f fd)
  (t_sPlu:∃f fd,Tx K mg "plus" Kf ["one","other"] f fd)
  (t_sMin:∃f fd,Tx K mg "minus" Kg ["one","other"] f fd)
  (t_sCBt:∃f fd,Tx K mg "common_bottom" Kh ["fractions"] f fd)
  (t_sTpO:∃f fd,Tx K mg "tops_over" Ki ["bottom","fractions"] f fd)
  (t_sWC:∃f fd,Tx K mg "whole_company" QB ["many"] f fd)
  (t_sChk:∃f fd,Tx K mg "check_group" Kj ["group","many"] f fd)
  (t_sHnd:∃f fd,Tx K mg "hands_of" Kk ["group"] f fd)
  (t_sMrk:∃f fd,Tx K mg "marks_of" Kl ["group","many"] f fd)
  (t_sIsT:∃f fd,Tx K mg "is_table" Km ["thing"] f fd)
  (t_sHin:∃f fd,Tx K mg "hands_in" Kn ["table"] f fd)
  (t_sBel:∃f fd,Tx K mg "below_nought" Ko ["column"] f fd)
  (t_sRst:∃f fd,Tx K mg "rest_of" Kq ["row","rows"] f fd)
  (t_sUnt:∃f fd,Tx K mg "untold" Kr ["groups","kept","many"] f fd)
  (t_sSif:∃f fd,Tx K mg "sifted" Ks ["groups","many"] f fd)
  (t_sLLa:∃f fd,Tx K mg "least_lack" Kt ["table","many","kept","free"] f fd)
  (t_sCaS:∃f fd,Tx K mg "calm_shares" Ku ["table","many"] f fd)
  (t_sWgO:∃f fd,Tx K mg "weighing_of" Kv ["groups","many"] f fd)
  (t_sLac:∃f fd,Tx K mg "lacks_of" Kw ["table","tops","bottom"] f fd)
  (t_sLvl:∃f fd,Tx K mg "levels_of" Kx ["table","many","shares"] f fd)
  (t_sKey:∃f fd,Tx K mg "key_of" Ky ["hand","groups","many"] f fd)
  (t_sCal:∃f fd,Tx K mg "calm" Kz ["table"] f fd)
  (t_sSho:∃f fd,Tx K mg "share_of" KA ["group","shares"] f fd)
  (t_sSta:∃f fd,Tx K mg "stable" KC ["table"] f fd)
  (t_sIsF:∃f fd,Tx K mg "is_fraction" KD ["thing"] f fd)
  (t_sUnd:∃f fd,Tx K mg "under" KG ["one","other"] f fd)
  (t_sCks:∃f fd,Tx K mg "check_shares" KH ["shares","many"] f fd)
  (t_sBet:∃f fd,Tx K mg "bettering" KI ["table","shares"] f fd)
  (t_sCkV:∃f fd,Tx K mg "check_votes" KJ ["table"] f fd)
  (t_sCol:∃f fd,Tx K mg "column_of" KL ["group","wins","many"] f fd)
  (t_sWTm:∃f fd,Tx K mg "with_times" KN ["groups","times"] f fd)
  (t_sWFr:∃f fd,Tx K mg "weights_for" KO ["table"] f fd)
  (t_sCel:∃f fd,Tx K mg "_law_cell" KP ["_law_script","_law_k"] f fd)
  (t_sOdd:∃f fd,Tx K mg "_law_odd" KQ ["_law_cell_here"] f fd)
  (t_sNmb:∃f fd,Tx K mg "_law_number" KR ["_law_cell_here"] f fd)
  (t_sNoT:∃f fd,Tx K mg "_law_no_table" KS ["_law_table","_law_script"] f fd)
  (t_sNoO:∃f fd,Tx K mg "_law_none_of" KU ["_law_error"] f fd)
  (t_sAsk:∃f fd,Tx K mg "_law_asked" KW ["_law_table","_law_which","_law_many"] f fd)
  (t_sRef:∃f fd,Tx K mg "_law_refused" KY ["_law_table","_law_which","_law_many"] f fd)
  (t_sLaw:∃f fd,Tx K mg "law" KZ ["_law_script"] f fd)
  : ∃fd:qCl,(∀(s:qAl) (u:qAi),qLz s fd ⟨[u],[]⟩ [("_law_script",u)])/\∀base:Heap,K.In base->base.Ns qAz mg->jL P w K mg base cA 11 fa fd ["_law_script"] (Bf K):=by
 obtain⟨AL,LN,FR,iF,fCh,fGM,fCC,fCA,fPL,SE,NN,NG,NT,NR,NS,NV,NO,NL,NX,TM,UL,T⟩:=hT;obtain⟨f_sNum,fd_sNum,t_sNum⟩:=t_sNum;obtain⟨f_sGcd,fd_sGcd,t_sGcd⟩:=t_sGcd;obtain⟨f_sFr,fd_sFr,t_sFr⟩:=t_sFr;obtain⟨f_sAreN,fd_sAreN,t_sAreN⟩:=t_sAreN;obtain⟨f_sCkR,fd_sCkR,t_sCkR⟩:=t_sCkR;obtain⟨f_sSgn,fd_sSgn,t_sSgn⟩:=t_sSgn;obtain⟨f_sFRw,fd_sFRw,t_sFRw⟩:=t_sFRw;obtain⟨f_sClr,fd_sClr,t_sClr⟩:=t_sClr;obtain⟨f_sClb,fd_sClb,t_sClb⟩:=t_sClb;obtain⟨f_sSpP,fd_sSpP,t_sSpP⟩:=t_sSpP;obtain⟨f_sLvS,fd_sLvS,t_sLvS⟩:=t_sLvS;obtain⟨f_sWtO,fd_sWtO,t_sWtO⟩:=t_sWtO;obtain⟨f_sPrO,fd_sPrO,t_sPrO⟩:=t_sPrO;obtain⟨f_sWyO,fd_sWyO,t_sWyO⟩:=t_sWyO;obtain⟨f_sWgh,fd_sWgh,t_sWgh⟩:=t_sWgh;obtain⟨f_sWith,fd_sWith,t_sWith⟩:=t_sWith;obtain⟨f_sPlu,fd_sPlu,t_sPlu⟩:=t_sPlu;obtain⟨f_sMin,fd_sMin,t_sMin⟩:=t_sMin;obtain⟨f_sCBt,fd_sCBt,t_sCBt⟩:=t_sCBt;obtain⟨f_sTpO,fd_sTpO,t_sTpO⟩:=t_sTpO;obtain⟨f_sWC,fd_sWC,t_sWC⟩:=t_sWC;obtain⟨f_sChk,fd_sChk,t_sChk⟩:=t_sChk;obtain⟨f_sHnd,fd_sHnd,t_sHnd⟩:=t_sHnd;obtain⟨f_sMrk,fd_sMrk,t_sMrk⟩:=t_sMrk;obtain⟨f_sIsT,fd_sIsT,t_sIsT⟩:=t_sIsT;obtain⟨f_sHin,fd_sHin,t_sHin⟩:=t_sHin;obtain⟨f_sBel,fd_sBel,t_sBel⟩:=t_sBel;obtain⟨f_sRst,fd_sRst,t_sRst⟩:=t_sRst;obtain⟨f_sUnt,fd_sUnt,t_sUnt⟩:=t_sUnt;obtain⟨f_sSif,fd_sSif,t_sSif⟩:=t_sSif;obtain⟨f_sLLa,fd_sLLa,t_sLLa⟩:=t_sLLa;obtain⟨f_sCaS,fd_sCaS,t_sCaS⟩:=t_sCaS;obtain⟨f_sWgO,fd_sWgO,t_sWgO⟩:=t_sWgO;obtain⟨f_sLac,fd_sLac,t_sLac⟩:=t_sLac;obtain⟨f_sLvl,fd_sLvl,t_sLvl⟩:=t_sLvl;obtain⟨f_sKey,fd_sKey,t_sKey⟩:=t_sKey;obtain⟨f_sCal,fd_sCal,t_sCal⟩:=t_sCal;obtain⟨f_sSho,fd_sSho,t_sSho⟩:=t_sSho;obtain⟨f_sSta,fd_sSta,t_sSta⟩:=t_sSta;obtain⟨f_sIsF,fd_sIsF,t_sIsF⟩:=t_sIsF;obtain⟨f_sUnd,fd_sUnd,t_sUnd⟩:=t_sUnd;obtain⟨f_sCks,fd_sCks,t_sCks⟩:=t_sCks;obtain⟨f_sBet,fd_sBet,t_sBet⟩:=t_sBet;obtain⟨f_sCkV,fd_sCkV,t_sCkV⟩:=t_sCkV;obtain⟨f_sCol,fd_sCol,t_sCol⟩:=t_sCol;obtain⟨f_sWTm,fd_sWTm,t_sWTm⟩:=t_sWTm;obtain⟨f_sWFr,fd_sWFr,t_sWFr⟩:=t_sWFr;obtain⟨f_sCel,fd_sCel,t_sCel⟩:=t_sCel;obtain⟨f_sOdd,fd_sOdd,t_sOdd⟩:=t_sOdd;obtain⟨f_sNmb,fd_sNmb,t_sNmb⟩:=t_sNmb;obtain⟨f_sNoT,fd_sNoT,t_sNoT⟩:=t_sNoT;obtain⟨f_sNoO,fd_sNoO,t_sNoO⟩:=t_sNoO;obtain⟨f_sAsk,fd_sAsk,t_sAsk⟩:=t_sAsk;obtain⟨f_sRef,fd_sRef,t_sRef⟩:=t_sRef;obtain⟨f_sLaw,fd_sLaw,t_sLaw⟩:=t_sLaw;have e:=hfa.symm.trans t_sLaw.at_;cases e;refine⟨fd_sLaw,fun s u=>.of_eq (t_sLaw.bd [u] rfl),fun base _ _=>?_⟩;obtain⟨m1,x1⟩:=T.RQ;obtain⟨m2,x2⟩:=T.QC;obtain⟨m3,x3⟩:=T.QD;obtain⟨m4,x4⟩:=T.QE;obtain⟨m5,x5⟩:=T.QF;obtain⟨m6,x6⟩:=T.QG;have d0:=Lb (P:=P) (w:=w) (base:=base) t_sNum T;have d1:=Lc (P:=P) (w:=w) (base:=base) t_sGcd T;have d2:=OE t_sFr T d0 d1;have d3:=GG t_sAreN T d0;have d4:=Ly t_sCkR T d3;have d5:=Lf (mg:=mg) (P:=P) (w:=w) (base:=base) t_sSgn;have d6:=Lg t_sFRw T d5;have d7:=Lh (P:=P) (w:=w) (base:=base) t_sClr T;have eI:=OI x1 T d6;have eC:=Lj x2 T d5 d7;have eG:=Lk (P:=P) (w:=w) (base:=base) x3 T;have eT:=Ll x4 T eG;have eA:=Lm (P:=P) (w:=w) (base:=base) x5 T;have eP:=Ln x6 T eA;have d8:=Lo t_sClb T eT eP eC;have d9:=Lp (P:=P) (w:=w) (base:=base) t_sSpP T;have d10:=Lr t_sLvS T d9 eC;have d11:=Lu t_sWtO T d2;have d12:=Lw t_sPrO T d2 d5;have d13:=Lv t_sWyO T d2;have dW:=Lz t_sWgh T d4 eI d8 d9 d10 d11 d12 d13;have v0:=GI (P:=P) (w:=w) (base:=base) t_sWith d0;have v1:=LF t_sIsT T d0;have v2:=LG t_sHin T v1;have v3:=LH (P:=P) (w:=w) (base:=base) t_sMrk T;have v4:=OQ (P:=P) (w:=w) (base:=base) t_sWC T;have v5:=LC t_sChk T v0 v4;have v6:=LD t_sHnd T v5;have v7:=LK t_sPlu T d2;have v9:=Ma t_sMin T d2;have v10:=LI t_sCBt T d1;have v11:=LJ (P:=P) (w:=w) (base:=base) t_sTpO T;have b1:=Mb (P:=P) (w:=w) (base:=base) t_sBel T;have b2:=Mc (P:=P) (w:=w) (base:=base) t_sRst T;have b3:=Mh t_sUnt T v3 b2;have b4:=Mi t_sSif T b3;have b5:=Ml t_sWgO T v3 dW v7;have b6:=Mm t_sKey T v3 b1 dW v9;have b7:=Mn t_sLac T v6;have b8:=Mp t_sLLa T v10 v3 v11 b1 dW d2;have b9:=Mq t_sCaS T v4 b3 b8 v9;have b10:=Mv t_sLvl T v10 v11 b7 v4 d2 b5 b4;have dC:=Mz t_sCal T v2 b9 b10 b6;have v8:=LL t_sSho T v6 v7;have dS:=LM t_sSta T v2 v4 v3 dW v8;have e5:=LV t_sBet T v2 (LP t_sCks T (LO t_sIsF T d0 d1)) (LR (P:=P) (w:=w) (base:=base) t_sUnd T) v8;have e6:=LZ t_sWFr T v2 (LW (P:=P) (w:=w) (base:=base) t_sCkV T) (LX t_sCol T v3) dW v10 v11 (LY (P:=P) (w:=w) (base:=base) t_sWTm T);have c1:=MA (P:=P) (w:=w) (base:=base) t_sCel T;have c2:=MG t_sAsk T e6 dS e5 dC;exact(MI t_sLaw T c1 (MD (P:=P) (w:=w) (base:=base) t_sNmb T) (ME t_sNoT T c1 (MC (P:=P) (w:=w) (base:=base) t_sOdd T)) c2 (MH t_sRef T c2 (MF t_sNoO T))).ok
end K54
open PySem PySem.W PyProof.Rows
theorem L2.uu1{α}{P:List α->Prop}(h:∀ a,P [a]):∀us,us.length=1->P us
|[a],_=>h a
theorem L2.uu2{α}{P:List α->Prop}(h:∀ a b,P [a,b]):∀us,us.length=2->P us
|[a,b],_=>h a b
theorem L2.uu3{α}{P:List α->Prop}(h:∀ a b c,P [a,b,c]):∀us,us.length=3->P us
|[a,b,c],_=>h a b c
theorem L2.uu4{α}{P:List α->Prop}(h:∀ a b c d,P [a,b,c,d]):∀us,us.length=4->P us
|[a,b,c,d],_=>h a b c d
set_option maxRecDepth 100000 in
set_option maxHeartbeats 0 in
theorem PySem.Challenge.cw_shareparley_k54_tables_refused_holds : PySem.Challenge.rw_shareparley_k54_tables_refused.Holds := by
 w_on;o_law;k_head;(case hw=>w_witness2)
 k_fill
 refine K54.walk (l:=PySem.Challenge.rw_shareparley_k54_tables_refused) rfl rfl (fun w h Y=>PySem.W.kIn_of Y) ?F
 case F =>
  intro w mg fa h KX G hmg;refine K54.MJ hmg ?T ?t_sNum ?t_sGcd ?t_sFr ?t_sAreN ?t_sCkR ?t_sSgn ?t_sFRw ?t_sClr ?t_sClb ?t_sSpP ?t_sLvS ?t_sWtO ?t_sPrO ?t_sWyO ?t_sWgh ?t_sWith ?t_sPlu ?t_sMin ?t_sCBt ?t_sTpO ?t_sWC ?t_sChk ?t_sHnd ?t_sMrk ?t_sIsT ?t_sHin ?t_sBel ?t_sRst ?t_sUnt ?t_sSif ?t_sLLa ?t_sCaS ?t_sWgO ?t_sLac ?t_sLvl ?t_sKey ?t_sCal ?t_sSho ?t_sSta ?t_sIsF ?t_sUnd ?t_sCks ?t_sBet ?t_sCkV ?t_sCol ?t_sWTm ?t_sWFr ?t_sCel ?t_sOdd ?t_sNmb ?t_sNoT ?t_sNoO ?t_sAsk ?t_sRef ?t_sLaw
  case T=>
   refine' K54.QZ KX G ?eD ?nV ?pT ?cM ?cK ?cQ ?lZ ?mB ?wQ ?hV ?g4 ?sC ?jV ?Ay ?Az ?jW ?wR ?g5 ?Ea ?Fx ?lkAL ?MS ?lkLN ?mp ?mc ?Oh ?pgFR ?hdFR ?poFR ?saFR ?caFR ?moFR ?nmFR ?nbFR ?nrFR ?ncFR ?f1FR ?f2FR ?f3FR ?f4FR ?f5FR ?mkFR ?fiFR ?kkFR ?lFI ?cdFI ?kpFI ?fnFI ?lCho ?cdCho ?kpCho ?fnCho ?lGMo ?cdGMo ?kpGMo ?fnGMo ?lCTC ?cdCTC ?kpCTC ?fnCTC ?lCAh ?cdCAh ?kpCAh ?fnCAh ?lPTL ?cdPTL ?kpPTL ?fnPTL ?Oi ?La ?MT ?MU ?GB ?MV ?MW ?Oj ?Ol ?Om ?Oo ?Oq ?c6 ?c7 ?SE2 ?SE3 ?SE4 ?SE5 ?SE8 ?SE9 ?NT2 ?NT3 ?NT4 ?NT5 ?NT8 ?NT9 ?NV2 ?NV3 ?NV4 ?NV5 ?NV8 ?NV9 ?MX ?Hw ?Ot ?Ou ?Ov ?Ow ?Ox ?Oy ?Oz ?Eb ?Ec ?Ed ?Ee ?wU ?wV ?OA ?OB ?OC ?Ef ?Eg ?Eh ?Ei ?wW ?wX
   case eD|nV|pT|cM|cK|cQ|lZ|mB|wQ|hV|g4|sC|jV|Ay|Az|jW|wR|g5|Ea|Fx|lkAL|MS|lkLN|mp|mc|Oh|pgFR|hdFR|poFR|saFR|caFR|moFR|nmFR|nbFR|nrFR|ncFR|f1FR|f2FR|f3FR|f4FR|f5FR|mkFR|fiFR|kkFR|lFI|cdFI|kpFI|fnFI|lCho|cdCho|kpCho|fnCho|lGMo|cdGMo|kpGMo|fnGMo|lCTC|cdCTC|kpCTC|fnCTC|lCAh|cdCAh|kpCAh|fnCAh|lPTL|cdPTL|kpPTL|fnPTL|Oi|La|MT|MU|GB|MV|MW|Oj|Ol|Om|Oo|Oq|c6|c7|SE2|SE3|SE4|SE5|SE8|SE9|NT2|NT3|NT4|NT5|NT8|NT9|NV2|NV3|NV4|NV5|NV8|NV9=>k_is
   case MX|Hw|Ot|Ou|Ov|Ow=>k_exc
   case Ox=>k_is
   (case Oy=>kit_is)
   (case Oz=>kit_is)
   (case Eb=>kit_is)
   (case Ec=>kit_is)
   (case Ed=>kit_is)
   (case Ee=>kit_is)
   (case wU=>kit_is)
   (case wV=>kit_is)
   case OA=>k_is
   (case OB=>kit_is)
   (case OC=>kit_is)
   (case Ef=>kit_is)
   (case Eg=>kit_is)
   (case Eh=>kit_is)
   (case Ei=>kit_is)
   (case wW=>kit_is)
   (case wX=>kit_is)
  case t_sNum|t_sSgn|t_sSpP|t_sLvS|t_sWtO|t_sCBt|t_sWC|t_sHnd|t_sIsT|t_sHin|t_sBel|t_sCal|t_sSta|t_sIsF|t_sCkV|t_sWFr|t_sOdd|t_sNmb|t_sNoO|t_sLaw=>
   refine' L2.bM KX G ?a ?l ?c ?k (fun _ _ _ _ _ _=>L2.uu1 fun _=>rfl)
   case a|l|c|k=>k_is
  case t_sGcd|t_sFr|t_sClb|t_sWyO|t_sPlu|t_sMin|t_sTpO|t_sChk|t_sMrk|t_sRst|t_sSif|t_sCaS|t_sWgO|t_sSho|t_sUnd|t_sCks|t_sBet|t_sWTm|t_sCel|t_sNoT=>
   refine' L2.bM KX G ?a ?l ?c ?k (fun _ _ _ _ _ _=>L2.uu2 fun _ _=>rfl)
   case a|l|c|k=>k_is
  case t_sAreN|t_sCkR|t_sFRw|t_sPrO|t_sWgh|t_sWith|t_sUnt|t_sLac|t_sLvl|t_sKey|t_sCol|t_sAsk|t_sRef=>
   refine' L2.bM KX G ?a ?l ?c ?k (fun _ _ _ _ _ _=>L2.uu3 fun _ _ _=>rfl)
   case a|l|c|k=>k_is
  case t_sClr|t_sLLa=>
   refine' L2.bM KX G ?a ?l ?c ?k (fun _ _ _ _ _ _=>L2.uu4 fun _ _ _ _=>rfl)
   case a|l|c|k=>k_is
