import PyProof.Rows.All
import Wide.All
import OpenK.AllK
import Wide.FinOn
import Lean
import PyProof.EqAt
import PyProof.EqKinds
import PyProof.TupleCall
import PySem.Challenge.RW_shareparley_k44_calm_of_two
import KE.IntBitsLaws
import OpenK.KEqL
import KE.LcSums
import KE.KTupSum
import PyProof.Rows.EqDataRows
import PyProof.EnumMake
import PyProof.Rows.Range3
import PyProof.Rows.SortShell
import PyProof.Rows.SortWalk
import PyProof.ListRange
import KE.KSortTup
import KE.KDictOf
import KE.KMinKey
import KE.KDictList
import PyProof.Rows.SetFrom
import PyProof.SetScanFacts
import KE.KRevIter
noncomputable section
open PySem renaming wpAny_bind->qAa,wpAny_pure->qAe,Value->qAf,sizeLine->qAh,Shared->qAi,wpAny->qBg,mainGlobals->qBh,Program->qBm,FuncData->qBo,starEach->qBt,model->qBz,sizeLine_eq->qCa,wpAny_newObj_type->qCj,bootBuiltins->qCs,Around->qCt,World->qCy,wpAny_holding->qDj,wpAny_truthy_bool->qDr,compareOp->qDw,wpAny_call_entry->qEb,wpAny_callSpecial?_slot->qEl,wpAny_typeNameOfWhole_keyiter->qEz,wpAny_passesOwn->qFh,codeAny_builtin->qFi,wpAny_setState_of->qFm,sysModules->qFn,foldedSetIterable->qFo,wpAny_setField->qFs,scanBound->qFt,wpAny_askSetting->qFv,binaryOp->qFw,SetTable->qFx,intKind->qGa,wpAny_typeNameOf_keyiter->qGb,codeAny_mono->qGc,wpAny_Call_Name_kw->qGg,attributeBase->qGh,wpAny_rule->qGo,wpAny_of_eq->qGp,backTo->qHc,PyData->qHd,wpAny_attempt->qHh,wpAny_mono->qHk,sliceBounds->qHm,codeAny->qHn,wpAny_typeOf->qHw,wpAny_pyIter_list->qIa,call_meets->qIb,wpAny_standAt->qIk,plainId_quiet->qIl,getItem->qIm,Scope->qIn,NameKind->qIo,wpAny_execs_nil->qIx,relabel->qIy,pyNext->qIz,letOwnedTupleGo->qJa,wpAny_call->qJg,assignEach->qJh,wpAny_fieldsOf->qJj,rawInt->qJk,firstArgMember->qJl,swapsWith->qKd,relayAll->qKe,pickOrder->qKf,comprehension->qKg,cellsFrom->qKh,behindInMarks->qKi,assign->qKj,IsPart->qKz,valueAt->qLl,tupleKind->qLm,subscripted->qLn,holding->qLo,callerA->qLp,cLine->qLq,typeLookup->qMq,setsByText->qMr,pyIter->qMs,closureFor->qMt,setNext->qNe,bindArgs->qNf,again->qNg,ElemsOf->qNh,BindsTo->qNi,inplaceOp->qNy,Model->qNz,spliced->qOn,newList->qOo,atKey->qOp,Keyword->qOq,typeOf->qOx,compPost->qOy,bindName->qOz,Result->qPa,GenState->qPb,bindL->qPi,bindC->qPj,newExc->qPx,isTrue->qPy
open List renaming length_map->qAb,getElem?_eq_getElem->qAd,getD_eq_getElem?_getD->qAk,length_append->qAm,range->qAn,getElem?_map->qAo,map_append->qAr,length_range->qAu,getElem?_append_right->qAv,size_toArray->qAw,mem_append_right->qAx,mem_of_getElem?->qAy,getElem?_append_left->qAz,getElem?_eq_none->qBa,length_singleton->qBc,range_succ->qBk,replicate->qBl,mem_cons_of_mem->qBx,filterMap_append->qBy,mem_append_left->qCc,filterMap_cons->qCg,length_cons->qCh,mem_cons_self->qCi,cons_append->qCl,nil_append->qCm,getElem_of_mem->qCq,getElem?_range->qCr,map_map->qCz,map_cons->qDb,not_mem_nil->qDc,filter_cons->qDf,filterMap_eq_map'->qDl,append_nil->qDm,getElem_mem->qDu,replicate_succ->qEa,mem_cons->qEc,take_length->qEd,length_take->qEn,map_nil->qEp,length_filter_le->qEq,take_add_one->qEs,length_filterMap_le->qEt,ext_getElem?->qEu,eq_nil_of_length_eq_zero->qEv,take_of_length_le->qEw,sum_append->qFa,find?_cons->qFb,flatten_cons->qFf,length_pos_of_mem->qGd,mem_map->qGj,filterMap_eq_map->qGk,length_drop->qGm,dropLast_concat_getLast->qGq,of_mem_zip->qGs,lookup->qGt,filter_nil->qGu,mem_singleton->qHf,filter_append->qHg,getElem?_take_of_lt->qHo,getElem?_set->qHp,foldl_append->qHq,append_assoc->qHr,sum_cons->qHt,set->qHu,any_cons->qHv,pairwise_lt_range->qHz,length_replicate->qIe,nodup_nil->qIs,map_filterMap->qJd,filterMap_nil->qJe,filterMap_map->qJf,lookup_cons->qJt,getElem_map->qJu,all_eq_true->qJv,zip_append->qKl,mem_filter->qKm,length_set->qKn,length_nil->qKo,length_eraseIdx_of_lt->qKt,length_erase_of_mem->qLb,pairwise_singleton->qLf,range_succ_eq_map->qLj,getElem?_set_self->qLk,sum_nil->qLt,getElem?_toArray->qLu,filterMap_filter->qLv,mem_of_mem_take->qMd,mem_erase_of_ne->qMe,length_dropLast->qMf,getElem?_set_ne->qMg,map_congr_left->qMm,length->qMn,getElem_range->qMz,getElem?_drop->qNa,pairwise_map->qNk,foldl->qNl,filter_congr->qNm,range'_succ->qNt,ext_getElem->qNu,drop_length->qNv,drop_zero->qOk,map_take->qOt,all_cons->qOu,map_set->qPf,all_map->qPg
open PySem.W renaming Frag->qAc,findIn->qBe,mg_none_of->qBv,nsIn->qBw,keepIn->qCv,fnOf->qDn,emptyDict->qDo,mroIn->qDy,codeIn->qDz,mg_of->qEe,excIn->qEf,instObj->qEh,isFn->qEx,specialIn->qEy,takesIn->qFp,Looks->qFq,plainGet->qGe,looks_findIn->qGi,callWith_K->qGr,kitOne->qGw,hasDictIn->qHe,typeIn->qIc,lookIn->qId,plainGet_of->qIf,plainOver->qIu,methodObj->qIv,takerIn->qJm,makesIn->qJn,hideAll->qJo,clsIn->qKs,cellsFrom_some->qKx,looks_mroIn->qLh,hideAll_get->qLi,of_hideAll->qLr,kitx_list->qLx,kitx_dict->qLy,kdl_call->qMj,handedIn->qMk,OpenLaw->qMu,WalkO->qNp,KitX->qOb
open Nat renaming le_refl->qAg,lt_or_ge->qAl,le_of_lt->qAq,lt_of_lt_of_le->qBd,ne_of_lt->qBf,lt_of_le_of_lt->qBp,zero_le->qBq,pow_le_pow_right->qBr,le_trans->qCu,le_antisymm->qCw,lt_irrefl->qDh,eq_zero_or_pos->qEr,le_succ->qFd,not_lt_zero->qFy,ne_of_gt->qGl,lt_succ_self->qGn,two_pow_pos->qGx,lt_succ_of_lt->qHs,pow_succ->qIh,le_of_eq->qIi,gcd->qIj,one_mul->qIw,le_of_dvd->qJi,add_comm->qJs,gcd_dvd_left->qKb,eq_of_mul_eq_mul_left->qLa,le_mul_of_pos_left->qLs,sub_zero->qMa,sub_self->qMb,mul_comm->qMc,mul_le_mul_right->qMl,sub_lt_sub_left->qMx,add_mul->qMy,pos_of_ne_zero->qNj,mul_left_comm->qNq,mod_lt->qNr,gcd_dvd_right->qNs,succ_ne_self->qOc,mod_eq_of_lt->qOd,min_eq_right->qOe,le_add_right->qOf,div_eq_of_lt->qOg,min_eq_left->qOj,mul_le_mul->qOs,mul_assoc->qPe,succ_pos->qPl,lt_trans->qPm,le_total->qPn,gcd_comm->qPo,pow_add->qPq,mul_one->qPr
open PySem.Heap renaming get?_push_of_some->qAj,lt_size->qAs,get?_push_size->qAt,get?_update_self->qDe,size_push->qDg,get?_update_other->qDx,SameBut->qFc,get?_none_of_le->qIq,ExtBut->qKq,MadeExcOf->qOm
open Bool renaming false_ne_true->qAp,and_eq_true->qCd,false_eq_true->qFu,false_and->qGf,eq_iff_iff->qGv,and_false->qIt,not_eq_true->qJz,not_true->qOw
open Int renaming toNat_natCast->qBb,zero_mul->qBi,gcd->qBs,mul_zero->qBu,le_of_lt->qCe,zero_add->qCk,mul_fdiv_cancel_left->qCn,mul_le_mul_of_nonneg_left->qCo,mul_comm->qCp,one_mul->qCx,mul_le_mul_of_nonneg_right->qDa,add_zero->qDk,toNat_of_nonneg->qDp,le_refl->qDq,natAbs_mul->qDs,le_of_dvd->qDt,mul_assoc->qEi,mul_nonneg->qEj,mul_lt_mul_of_pos_right->qEk,eq_of_mul_eq_mul_right->qEo,mul_one->qFe,fdiv_eq_ediv_of_nonneg->qFg,eq_of_mul_eq_mul_left->qFl,le_of_eq->qFr,eq_ofNat_of_zero_le->qFz,mul_pos->qGy,gcd_pos_of_ne_zero_left->qGz,emod_nonneg->qHa,lt_or_le->qHi,emod_lt_of_pos->qHj,lt_trichotomy->qJp,gcd_dvd_right->qJq,nonneg_of_mul_nonneg_right->qJw,le_trans->qJx,fdiv_one->qJy,gcd_dvd_left->qKc,gcd_pos_of_ne_zero_right->qKp,neg_mul_neg->qKu,mul_ne_zero->qKv,le_of_mul_le_mul_right->qKy,natAbs_neg->qLc,natAbs_fdiv_le_natAbs->qLd,lt_of_mul_lt_mul_left->qLe,natAbs_dvd_natAbs->qMh,gcd_comm->qMi,mul_neg->qNb,mul_ediv_cancel->qNc,natAbs_natCast->qNn,lt_or_eq_of_le->qNo,natAbs_add_le->qNw,mul_left_comm->qNx,gcd_mul_left->qOh,dvd_mul_left->qOi,natCast_add->qOl,mul_le_mul->qOv,fdiv_self->qPh,sub_zero->qPp,sub_mul->qPs,one_dvd->qPt,neg_mul->qPu,mul_add->qPv,gcd_one->qPw
open Classical renaming byContradiction->qBj
open Array renaming getElem?_eq_getElem->qBn,length_toList->qCb,getElem?_toList->qDd,getElem?_eq_none->qDv,getElem?_extract->qLg,size_extract->qMo,append_assoc->qMp,toList_push->qNd
open PyProof.Rows renaming callWith_type1->qCf,slot_tuple_getitem->qEm,callWith_builtin1->qIg,firstMet->qJr,IntsAre->qPk
open PySem.Builtin renaming bitAnd->qDi
open PySem.F renaming plainAttrs_list->qEg,type_list_append->qFj,slot_list_append->qFk,plain_extend_loop->qKa,slot_dict_values->qKk
open PySem.Calls renaming spliced_cons->qHb,spliced_nil->qHl,callWith_builtin->qHx,Name_function_global->qKr,evalArgs_plain->qLw
open PyProof.Rows renaming IntsAre->qHy,firstMet->qIp,kindOf->qIr,envOfC->qJb,AllBare->qJc,step_dedup->qKw,Call_->qOa,seqObj->qPc
open Option renaming isSome_some->qLz,getD_some->qMv,getD_none->qMw,none->qOr,map->qPd
theorem bT {α:Sort _}{a:α}{b:Prop}:a=a\/b:=.inl rfl
set_option Elab.async false
set_option linter.all false
set_option maxRecDepth 100000
namespace L2
open PySem PySem.Spec PyProof.Rows
theorem jX:1<=qAh:=by decide
theorem iY:2<=qAh:=by decide
theorem LH:3<=qAh:=by decide
abbrev Key:=Sum Int Str
def n4:Key->qAf->Bool
 | .inl k,v=>Value.isInt k v
 | .inr x,v=>Value.isStrOf x v
def NL (w:qCy):Key->Int
 | .inl k=>hashInt k
 | .inr x=>hashStr w x
theorem cM:∀{k:Key}{v:qAf},n4 k v=true->(∃i t,k=Sum.inl i/\v=Value.int i t)\/(∃x t,k=Sum.inr x/\v=Value.str x t)
 | .inl i,v,h=>by
  obtain⟨t,e⟩:=Value.isInt_shape (k:=i) (v:=v) h;exact .inl ⟨i,t,rfl,e⟩
 | .inr x,v,h=>by
  obtain⟨t,e⟩:=Value.isStrOf_shape (x:=x) (v:=v) h;exact .inr ⟨x,t,rfl,e⟩
theorem Ao (i:Int) (t:Tok):n4 (.inl i) (.int i t)=true:=by simp[n4,Value.isInt]
theorem Ap (x:Str) (t:Tok):n4 (.inr x) (.str x t)=true:=by simp[n4,Value.isStrOf]
theorem Hs (a b:Int):decide ((Sum.inl a:Key)=Sum.inl b)=(a == b):=by
 by_cases e:a=b
 ·subst e;simp
 ·have h:¬(Sum.inl a:Key)=Sum.inl b:=fun q=>e (Sum.inl.inj q);rw[decide_eq_false h];exact(beq_eq_false_iff_ne.mpr e).symm
theorem Ht (a b:Str):decide ((Sum.inr a:Key)=Sum.inr b)=decide (a=b):=by
 by_cases e:a=b
 ·subst e;simp
 ·have h:¬(Sum.inr a:Key)=Sum.inr b:=fun q=>e (Sum.inr.inj q);rw[decide_eq_false h,decide_eq_false e]
theorem Hu (a:Int) (b:Str):decide ((Sum.inl a:Key)=Sum.inr b)=false:=decide_eq_false (fun q=>nomatch q)
theorem Hv (a:Str) (b:Int):decide ((Sum.inr a:Key)=Sum.inl b)=false:=decide_eq_false (fun q=>nomatch q)
def cC (prog:qBm) (w:qCy):PySem.KeyKind prog w Key where
 is:=n4
 hash:=NL w
 inj:=fun v a b ha hb=>by
  rcases cM ha with ⟨i,t,rfl,rfl⟩ | ⟨x,t,rfl,rfl⟩
  ·rcases cM hb with ⟨j,u,rfl,e⟩ | ⟨y,u,rfl,e⟩
   ·injection e with e1 _;rw[e1]
   ·exact nomatch e
  ·rcases cM hb with ⟨j,u,rfl,e⟩ | ⟨y,u,rfl,e⟩
   ·exact nomatch e
   ·injection e with e1 _;rw[e1]
 byValue:=fun k v h=>by
  rcases cM h with ⟨i,t,rfl,rfl⟩ | ⟨x,t,rfl,rfl⟩ <;> rfl
 pyHash:=fun hv h=>by
  rcases cM hv with ⟨i,t,rfl,rfl⟩ | ⟨x,t,rfl,rfl⟩
  ·exact wpAny_pyHash_int h
  ·exact wpAny_pyHash_str h
 eqBool:=fun hu hv h=>by
  rcases cM hu with ⟨i,t,rfl,rfl⟩ | ⟨x,t,rfl,rfl⟩
  ·rcases cM hv with ⟨j,u,rfl,rfl⟩ | ⟨y,u,rfl,rfl⟩
   ·rw[Hs] at h;exact wpAny_eqBool_int h
   ·rw[Hu] at h;exact SeqAt.EqAt.int_str i t y u _ _ _ _ h
  ·rcases cM hv with ⟨j,u,rfl,rfl⟩ | ⟨y,u,rfl,rfl⟩
   ·rw[Hv] at h;exact SeqAt.EqAt.str_int x t j u _ _ _ _ h
   ·rw[Ht] at h;exact wpAny_eqBool_str h
 «strs»:=fun k x t v h=>by
  rcases cM h with ⟨i,u,rfl,e⟩ | ⟨y,u,rfl,e⟩
  ·exact nomatch e
  ·injection e with e1 _
   subst e1;cases v <;> rfl
theorem tX (prog:qBm) (w:qCy) (i:Int) (t:Tok):(cC prog w).is (.inl i) (.int i t)=true:=Ao i t
theorem tY (prog:qBm) (w:qCy) (x:Str) (t:Tok):(cC prog w).is (.inr x) (.str x t)=true:=Ap x t
inductive V where
 | non | bl (b:Bool) | int (i:Int) | str (x:Str) | byt (b:Array UInt8) | flt (b:UInt64) | ref (a:Addr) | ty (n:String)
 deriving DecidableEq
def RelV:V->qAf->Prop
 | .non,u=>u=Value.none
 | .bl b,u=>u=Value.bool b
 | .int i,u=>∃t,u=Value.int i t
 | .str x,u=>∃t,u=Value.str x t
 | .byt b,u=>∃t,u=Value.bytes b t
 | .flt b,u=>∃t,u=Value.float b t
 | .ref a,u=>u=Value.ref a
 | .ty n,u=>u=Value.type n
abbrev Vals:List V->List qAf->Prop:=Paired RelV
theorem Vals.length {xs:List V}{us:List qAf} (r:Vals xs us):xs.length=us.length:=Paired.length r
theorem Vals.get:∀{xs:List V}{us:List qAf}{i:Nat}{x:V},Vals xs us->xs[i]?=some x->∃u,us[i]?=some u/\RelV x u
 | _,_,_,_,.nil,e=>by simp at e
 | _,_,0,_,.cons r _,e=>by simp at e;subst e;exact⟨_,rfl,r⟩
 | _,_,i+1,x,.cons _ t,e=>by
  obtain⟨u,h1,h2⟩:=Vals.get (i:=i) (x:=x) t (by simpa using e);exact⟨u,by simpa using h1,h2⟩
theorem Vals.set {x:V}{u:qAf} (r:RelV x u):∀{xs:List V}{us:List qAf} (i:Nat),Vals xs us->Vals (xs.set i x) (us.set i u)
 | _,_,_,.nil=>.nil
 | _,_,0,.cons _ t=>.cons r t
 | _,_,i+1,.cons q t=>.cons q (Vals.set r i t)
theorem Vals.append:∀{xs ys:List V}{us ws:List qAf},Vals xs us->Vals ys ws->Vals (xs++ys) (us++ws)
 | _,_,_,_,.nil,s=>s
 | _,_,_,_,.cons r t,s=>.cons r (Vals.append t s)
theorem Vals.take:∀{xs:List V}{us:List qAf} (n:Nat),Vals xs us->Vals (xs.take n) (us.take n)
 | _,_,0,_=>.nil
 | _,_,_+1,.nil=>.nil
 | _,_,n+1,.cons r t=>.cons r (Vals.take n t)
theorem Vals.drop:∀{xs:List V}{us:List qAf} (n:Nat),Vals xs us->Vals (xs.drop n) (us.drop n)
 | _,_,0,r=>r
 | _,_,_+1,.nil=>.nil
 | _,_,n+1,.cons _ t=>Vals.drop n t
def jY:Option V->Option qAf->Prop
 | some v,some u=>RelV v u
 | none,none=>True
 | _,_=>False
def KV {κ:Type}:List (κ×V)->List (κ×qAf)->Prop:=Paired fun(p:κ×V) (q:κ×qAf)=>p.1=q.1/\RelV p.2 q.2
def kV:Key->V
 | .inl i=>.int i
 | .inr x=>.str x
inductive HO where
 | lst (xs:List V)
 | tup (xs:List V)
 | dK (kvs:List (Key×V)) | dT (kvs:List (List Key×V))
 | set (S:Int->Bool) (n:Nat)
 | ins (C dx:Addr) (fs:List (Str×V))
 | own (x:Addr)
 | xd (fs:List (Str×V))
 | met (f x:Addr)
 | rng (lo hi:Int)
 | frz (o:Obj) (u:HO)
 | tbl (ps:Array qAf)
 | ext (φ:Heap->Prop)
abbrev Hp:=Addr->Option HO
def upd (H:Hp) (a:Addr) (o:HO):Hp:=fun b=>if b=a then some o else H b
theorem aC {H:Hp}{a:Addr}{o:HO}:upd H a o a=some o:=by unfold upd;rw[if_pos rfl]
theorem aM {H:Hp}{a b:Addr}{o:HO} (h:b≠a):upd H a o b=H b:=by unfold upd;rw[if_neg h]
theorem Eo {H:Hp}{a:Addr}{o u:HO}:upd (upd H a o) a u=upd H a u:=by
 funext b;unfold upd;split <;> rfl
theorem j5 {H:Hp}{a b:Addr}{o u:HO} (h:H a=some o) (h':H b=some u) (d:o≠u):a≠b:=by
 intro e;subst e;rw[h] at h';exact d (Option.some.inj h')
theorem bE {H:Hp}{a b:Addr}{o:HO} (h:H a=some o) (h':H b=none):a≠b:=by
 intro e;subst e;rw[h] at h';cases h'
section
variable (P:qBm) (w:qCy)
def cS (H:Hp) (h:Heap) (a:Addr):HO->Prop
 | .lst xs=>xs.length<=qAh/\∃(its:List qAf) (n:Nat),Vals xs its/\h.get? a=some { cls:=.type "list",data:=.seq its.toArray n }
 | .tup xs=>xs.length<=qAh/\∃its:List qAf,Vals xs its/\IsTup h a its.toArray
 | .dK kvs=>kvs.length<=qAh/\(a == qFn)=false/\∃vs,KV kvs vs/\h.DictOf (cC P w) a vs
 | .dT kvs=>kvs.length<=qAh/\(a == qFn)=false/\∃xs:List (List Key×Addr×qAf),
   Paired (fun(p:List Key×V) (q:List Key×Addr×qAf)=>p.1=q.1/\H q.2.1=some (.tup (p.1.map kV))/\RelV p.2 q.2.2) kvs xs /\
   ∃o es ep,h.get? a=some o/\o.ExactDict/\o.data = .dict es ep/\es.toList=xs.map (entryOfKey (qLm (cC P w)))/\(xs.map (·.1)).Nodup
 | .set S n=>h.SetOf (qGa P w) a S n
 | .ins C dx fs=>H dx=some (.own a)/\fs.length<=1000/\dx≠a/\h.get? a=some (qEh C dx) /\
   ∃mA,h.Ns1 dx mA/\(∀f,jY (fs.lookup f) (mA f))/\PySem.Within mA (fs.map (·.1))
 | .own _=>∃o,h.get? a=some o
 | .xd fs=>∃mA,h.Ns1 a mA/\∀f,jY (fs.lookup f) (mA f)
 | .rng lo hi=>∃t u v,h.get? a=some { cls:=.type "range",data:=.fields #[.int lo t,.int hi u,.int 1 v] }
 | .frz o u=>h.get? a=some o/\cS H h a u
 | .tbl ps=>h.get? a=some { cls:=.none,data:=.fields ps }
 | .met f x=>h.get? a=some (qIv (.ref f) (.ref x))
 | .ext φ=>φ h/\(∃o,h.get? a=some o)/\∀h1 h2:Heap,φ h1->(∀o,h1.get? a=some o->h2.get? a=some o)->φ h2
def j6 (H:Hp) (h:Heap):Prop:=∀a o,H a=some o->cS P w H h a o
end
section
variable {P:qBm}{w:qCy}{H H':Hp}{h h':Heap}{a:Addr}{o:HO}
theorem cS.lt (x:cS P w H h a o):a<h.objs.size:=by
 cases o with
 | lst xs=>obtain⟨_,_,_,_,e⟩:=x;exact qAs e
 | tup xs=>obtain⟨_,_,_,p⟩:=x;exact p.lt
 | dK kvs=>obtain⟨_,_,_,_,o,_,_,e,_⟩:=x;exact qAs e
 | dT kvs=>obtain⟨_,_,_,_,o,_,_,e,_⟩:=x;exact qAs e
 | set S n=>obtain⟨o,_,_,_,e,_⟩:=x;exact qAs e
 | ins C dx fs=>obtain⟨_,_,_,e,_⟩:=x;exact qAs e
 | own y=>obtain⟨_,e⟩:=x;exact qAs e
 | xd fs=>obtain⟨_,⟨_,_,_,e,_⟩,_⟩:=x;exact qAs e
 | rng lo hi=>obtain⟨_,_,_,e⟩:=x;exact qAs e
 | frz ob u=>obtain⟨e,_⟩:=x;exact qAs e
 | tbl ps=>exact qAs (show h.get? a=some _ from x)
 | met f y=>exact qAs (show h.get? a=some _ from x)
 | ext φ=>obtain⟨_,⟨_,e⟩,_⟩:=x;exact qAs e
theorem Paired.Hw {α β:Type}{F G:α->β->Prop}:∀{l₁:List α}{l₂:List β},Paired F l₁ l₂->(∀a b,F a b->G a b)->Paired G l₁ l₂
 | _,_,.nil,_=>.nil
 | _,_,.cons r t,f=>.cons (f _ _ r) (Paired.Hw t f)
theorem cS.tZ (x:cS P w H h a o) (k:∀b u,(b=a\/H b=some (.own a))->h.get? b=some u->h'.get? b=some u)
  (ho:∀b,H b=some (.own a)->H' b=some (.own a)) (ht:∀b xs,H b=some (.tup xs)->H' b=some (.tup xs)):cS P w H' h' a o:=by
 induction o with
 | lst xs=>obtain⟨z,its,n,r,e⟩:=x;exact⟨z,its,n,r,k _ _ (.inl rfl) e⟩
 | tup xs=>obtain⟨z,its,r,ob,e,c⟩:=x;exact⟨z,its,r,ob,k _ _ (.inl rfl) e,c⟩
 | dK kvs=>obtain⟨z,y,vs,r,ob,es,ep,e,c⟩:=x;exact⟨z,y,vs,r,ob,es,ep,k _ _ (.inl rfl) e,c⟩
 | dT kvs =>
  obtain⟨z,y,xs,r,ob,es,ep,e,c⟩:=x;exact⟨z,y,xs,Paired.Hw r fun p q z=>⟨z.1,ht _ _ z.2.1,z.2.2⟩,ob,es,ep,k _ _ (.inl rfl) e,c⟩
 | set S n=>obtain⟨ob,es,ep,t,e,c⟩:=x;exact⟨ob,es,ep,t,k _ _ (.inl rfl) e,c⟩
 | ins C dx fs =>
  obtain⟨d,z,ne,e,mA,⟨od,es,ep,e2,c⟩,r⟩:=x;exact⟨ho _ d,z,ne,k _ _ (.inl rfl) e,mA,⟨od,es,ep,k _ _ (.inr d) e2,c⟩,r⟩
 | own y=>obtain⟨ob,e⟩:=x;exact⟨ob,k _ _ (.inl rfl) e⟩
 | xd fs=>obtain⟨mA,⟨od,es,ep,e,c⟩,r⟩:=x;exact⟨mA,⟨od,es,ep,k _ _ (.inl rfl) e,c⟩,r⟩
 | rng lo hi=>obtain⟨t,u,v,e⟩:=x;exact⟨t,u,v,k _ _ (.inl rfl) e⟩
 | frz ob u ih=>obtain⟨e,q⟩:=x;exact⟨k _ _ (.inl rfl) e,ih q⟩
 | tbl ps =>
  have e:h.get? a=some { cls:=.none,data:=.fields ps }:=x;show h'.get? a=some { cls:=.none,data:=.fields ps };exact k a _ (.inl rfl) e
 | met f y =>
  have e:h.get? a=some (qIv (.ref f) (.ref y)):=x;show h'.get? a=some (qIv (.ref f) (.ref y));exact k a _ (.inl rfl) e
 | ext φ=>obtain⟨p,⟨o,e⟩,st⟩:=x;exact⟨st _ _ p fun o q=>k _ _ (.inl rfl) q,⟨o,k _ _ (.inl rfl) e⟩,st⟩
theorem j6.lt (x:j6 P w H h) (e:H a=some o):a<h.objs.size:=(x a o e).lt
theorem j6.fresh (x:j6 P w H h) (e:h.objs.size<=a):H a=none:=by
 cases q:H a with
 | none=>rfl
 | some u=>exact absurd (qBd (x.lt q) e) (qDh _)
theorem j6.kept (x:j6 P w H h) (k:∀b u,h.get? b=some u->h'.get? b=some u):j6 P w H h':=fun a o e =>
 (x a o e).tZ (fun b u _ q=>k b u q) (fun _ q=>q) fun _ _ q=>q
theorem j6.laid (x:j6 P w H h) (k:∀b u,h.get? b=some u->h'.get? b=some u) (hp:h.objs.size<=a) (new:cS P w (upd H a o) h' a o):j6 P w (upd H a o) h':=fun b u e=>by
 have hn:=x.fresh hp;by_cases hb:b=a
 ·subst hb;rw[aC] at e;cases e;exact new
 ·rw[aM hb] at e;exact(x b u e).tZ (fun c v _ q=>k c v q) (fun c q=>by rw[aM (bE q hn)];exact q) fun c xs q=>by rw[aM (bE q hn)];exact q
end
def Rd (H:Hp) (a:Addr) (u:HO):Prop:=H a=some u\/∃o,H a=some (.frz o u)
theorem Rd.ok {P:qBm}{w:qCy}{H:Hp}{h:Heap}{a:Addr}{u:HO} (r:Rd H a u) (x:j6 P w H h):cS P w H h a u:=by
 rcases r with r | ⟨o,r⟩
 ·exact x a u r
 ·obtain⟨_,q⟩:=x a _ r;exact q
def LI:Option HO->Prop
 | some (.lst _)=>True
 | some (.dK _)=>True
 | some (.dT _)=>True
 | some (.set _ _)=>True
 | some (.ins _ _ _)=>True
 | some (.ext _)=>True
 | _=>False
section
variable {P:qBm}{w:qCy}{H:Hp}{h h':Heap}{x e:Addr}{o':HO}
theorem j6.write (ok:j6 P w H h) (mu:LI (H x)) (he:e=x\/H e=some (.own x)) (k:∀b u,b≠e->h.get? b=some u->h'.get? b=some u) (heo:∃u,h'.get? e=some u)
  (new:cS P w (upd H x o') h' x o'):j6 P w (upd H x o') h':=fun b u q=>by
 have nown:∀c y,H c=some (.own y)->c≠x:=fun c y r z=>by subst z;rw[r] at mu;exact mu
 have ntup:∀c xs,H c=some (.tup xs)->c≠x:=fun c xs r z=>by subst z;rw[r] at mu;exact mu
 by_cases hb:b=x
 ·subst hb;rw[aC] at q;cases q;exact new
 ·rw[aM hb] at q;by_cases hbe:b=e
  ·have q':H b=some (.own x):=by
    rcases he with z | z
    ·exact absurd (hbe.trans z) hb
    ·rw[hbe];exact z
   rw[q] at q';cases q';obtain⟨v,hv⟩:=heo;exact⟨v,by rw[hbe];exact hv⟩
  ·refine(ok b u q).tZ (fun c v hc r=>k c v ?_ r) (fun c r=>by rw[aM (nown c b r)];exact r) fun c xs r=>by rw[aM (ntup c xs r)];exact r
   rcases hc with rfl | hc
   ·exact hbe
   ·rintro rfl;rcases he with z | z
    ·exact nown c b hc z
    ·rw[hc] at z;cases z;exact hb rfl
end
structure Un (fs ex:List Addr) (H H':Hp) (h h':Heap):Prop where
 keep:∀b o,h.get? b=some o->H b=none->b∉fs->b∉ex->h'.get? b=some o
 slot:∀b o,h.get? b=some o->H b=none->b∈fs->b∉ex->∃sl,h'.get? b=some { o with slots:=sl }
 free:∀b o,h.get? b=some o->H b=none->b∉ex->H' b=none
 there:∀b o,h.get? b=some o->b∉ex->∃o',h'.get? b=some o'
 lW:∀b xs,H b=some (.tup xs)->H' b=some (.tup xs)
 kO:∀b o u,H b=some (.frz o u)->H' b=some (.frz o u)
 lX:∀b ps,H b=some (.tbl ps)->∃more,H' b=some (.tbl (ps++more))
section
variable {fs fs' ex ex':List Addr}{H H1 H2:Hp}{h h1 h2 h':Heap}{a x e:Addr}{o:HO}
theorem Un.any (u:Un fs ex H H1 h h1){b:Addr}{ob:Obj} (q:h.get? b=some ob) (n:H b=none) (hx:b∉ex):∃sl,h1.get? b=some { ob with slots:=sl }:=by
 by_cases hb:b∈fs
 ·exact u.slot b ob q n hb hx
 ·exact⟨ob.slots,u.keep b ob q n hb hx⟩
theorem Un.kept (k:∀b u,h.get? b=some u->h'.get? b=some u):Un fs ex H H h h' :=
 ⟨fun b ob q _ _ _=>k b ob q,fun b ob q _ _ _=>⟨ob.slots,k b ob q⟩,fun _ _ _ n _=>n,fun b ob q _=>⟨ob,k b ob q⟩,fun _ _ q=>q,fun _ _ _ q=>q,fun _ ps q=>⟨#[],by rw[q];simp⟩⟩
theorem Un.refl:Un fs ex H H h h:=Un.kept fun _ _ q=>q
theorem Un.laid (k:∀b u,h.get? b=some u->h'.get? b=some u) (hp:h.objs.size<=a) (hn:H a=none):Un fs ex H (upd H a o) h h' where
 keep:=fun b u q _ _ _=>k b u q
 slot:=fun b u q _ _ _=>⟨u.slots,k b u q⟩
 free:=fun b u q n _=>by rw[aM (qBf (qBd (qAs q) hp))];exact n
 there:=fun b u q _=>⟨u,k b u q⟩
 lW:=fun b xs q=>by rw[aM (bE q hn)];exact q
 kO:=fun b u xs q=>by rw[aM (bE q hn)];exact q
 lX:=fun b ps q=>⟨#[],by rw[aM (bE q hn),q];simp⟩
theorem Un.write (mu:LI (H x)) (he:e=x\/H e=some (.own x)) (k:∀b u,b≠e->h.get? b=some u->h'.get? b=some u) (heo:∃u,h'.get? e=some u):Un fs ex H (upd H x o) h h':=by
 have hx:∀b,H b=none->b≠x:=fun b n z=>by subst z;rw[n] at mu;exact mu
 have hb:∀b,H b=none->b≠e:=fun b n z=>by
  subst z;rcases he with r | r
  ·exact hx b n r
  ·rw[n] at r;cases r
 have hm:∀b u,H b=some u->¬LI (some u)->b≠x:=fun b u q nm z=>by subst z;rw[q] at mu;exact nm mu
 refine⟨fun b u q n _ _=>k b u (hb b n) q,fun b u q n _ _=>⟨u.slots,k b u (hb b n) q⟩,fun b u q n _=>by rw[aM (hx b n)];exact n,fun b u q _=>?_,
  fun b xs q=>by rw[aM (hm b _ q fun z=>z)];exact q,fun b u xs q=>by rw[aM (hm b _ q fun z=>z)];exact q,fun b ps q=>⟨#[],by rw[aM (hm b _ q fun z=>z),q];simp⟩⟩
 by_cases hbe:b=e
 ·subst hbe;exact heo
 ·exact⟨u,k b u hbe q⟩
end
def NA (h:Heap) (H:Hp):List Addr:=(qAn h.objs.size).filter fun a=>(H a).isSome
def rN (h:Heap) (H:Hp):Heap:=qJo h (NA h H)
theorem Aq (h:Heap) (H:Hp):(rN h H).objs.size=h.objs.size:=PySem.W.hideAll_size _ _
theorem Bz {h:Heap}{H:Hp}{b:Addr}{o:Obj} (e:h.get? b=some o) (n:H b=none):(rN h H).get? b=some o :=
 qLi _ e fun hm=>by
  have q:(H b).isSome=true:=(List.mem_filter.mp hm).2;rw[n] at q;simp at q
theorem Ep {h:Heap}{H:Hp}{b:Addr}{o:Obj} (e:(rN h H).get? b=some o):h.get? b=some o/\H b=none:=by
 have e':h.get? b=some o:=qLr (NA h H) e;refine⟨e',?_⟩;cases q:H b with
 | none=>rfl
 | some x =>
  have hm:b∈NA h H:=List.mem_filter.mpr ⟨List.mem_range.mpr (qAs e'),by simp[q]⟩;have z:(rN h H).get? b=none:=PySem.W.hideAll_none (NA h H) hm;rw[z] at e;cases e
def Er (g h:Heap) (L:Addr):List (Addr×Obj):=(qAn h.objs.size).filterMap fun a=>if a=L\/(g.get? a).isSome=true then none else (h.get? a).map fun o=>(a,o)
def rest (g h:Heap) (L d:Addr):List (Addr×Obj):=(Er g h L).filter fun p=>decide (p.1≠d)
structure Mod (K:qAc) (mg:Str->Option qAf) (base:Heap):Prop where
 Hx:K.In base
 glob:base.Ns qBh mg
 blt:∃mb,base.Ns builtinsNs mb/\∀x:Str,x≠"__name__"->mb x=qCs x
 nolimit:base.NoLimit
structure Cx where
 prog:qBm
 w:qCy
 K:qAc
 mg:Str->Option qAf
 base:Heap
 A:qCt
 N:List Str
 s₀:qAi
 H₀:Hp
 env:Env
 outer:List Env
 stack:List Env
 ex:List Addr
 fn:Str->Bool
 calm:Bool
 pn:List (Addr×Obj)
 xe:qAf->qAi->Prop
def n6 (l:List Env):List Addr:=l.filterMap (·.frame)
abbrev Cx.fs (X:Cx):List Addr:=n6 X.outer
def NC (sc:qIn) (x:Str):Prop:=sc.names.lookup x=some .local\/sc.names.lookup x=some .cell\/sc.names.lookup x=some .free
def Loc (sc:qIn) (x:Str):Prop:=sc.names.lookup x=some .local\/sc.names.lookup x=some .cell
def Look (env:Env) (h:Heap) (m:Str->Option qAf) (x:Str) (u:qAf):Prop :=
 (env.kindOf x=some .local/\m x=some u)\/((env.kindOf x=some .cell\/env.kindOf x=some .free)/\∃c,env.cells.lookup x=some c/\h.IsCell c (some u))
structure Cx.Ok (X:Cx):Prop where
 mod:Mod X.K X.mg X.base
 kind:X.env.scope.kind = .function
 glob:X.env.globals=qBh
 blt:X.env.builtins=builtinsNs
 above:X.s₀.heap.objs.size<=X.env.locals
 inj:∀x y c,X.env.cells.lookup x=some c->X.env.cells.lookup y=some c->x=y
 has:∀x,(X.env.kindOf x=some .cell\/X.env.kindOf x=some .free)->∃c,X.env.cells.lookup x=some c
 LJ:∀x c,X.fn x=true->X.env.cells.lookup x=some c->X.s₀.heap.objs.size<=c
 hd:X.calm=true->X.A.handled=none
 frames:X.A.frames=some X.stack
 ND:X.stack=X.outer\/(X.stack=X.env::X.outer/\X.env.frame=some X.env.locals)
 OX:∀b∈X.ex,b≠X.env.locals/\∀x c,X.env.cells.lookup x=some c->c≠b
 bs:∀b o,X.base.get? b=some o->X.s₀.heap.get? b=some o/\X.H₀ b=none
 Es:X.base.objs.size<=X.s₀.heap.objs.size
 Ar:∀b o,X.base.get? b=some o->b∉X.ex
 Et:∀b∈X.ex,b∉X.fs
 kQ:X.s₀.heap.FunFrames X.base X.outer
 Hy:∀b∈X.fs,X.H₀ b=none
structure Inv (X:Cx) (pins:List (Addr×Obj)) (σ:List (Option V)) (H:Hp) (s:qAi):Prop where
 ok:X.Ok
 os:s.os=X.s₀.os
 bare:qJc s.gens
 base:Un X.fs X.ex X.H₀ H X.s₀.heap s.heap
 loc:∃m,s.heap.Ns X.env.locals m/\∀(i:Nat) (x:Str) (v:V),X.N[i]?=some x->σ[i]?=some (some v)->NC X.env.scope x->∃u,RelV v u/\Look X.env s.heap m x u
 cell:∀x c,X.env.cells.lookup x=some c->∃v,s.heap.IsCell c v
 free:H X.env.locals=none
 iT:∀x c,X.env.cells.lookup x=some c->H c=none
 pin:∀p∈X.pn++pins,s.heap.get? p.1=some p.2/\H p.1=none/\p.1≠X.env.locals/\p.1∉X.fs/\∀v,p.2.data≠.cell v
 cJ:j6 X.prog X.w H s.heap
 len:σ.length=X.N.length
section
variable {X:Cx}{pins:List (Addr×Obj)}{σ:List (Option V)}{H H':Hp}{s:qAi}{h':Heap}
theorem Cx.Ok.NM (ok:X.Ok){b:Addr}{o:Obj} (e:X.base.get? b=some o):b∉X.fs:=fun hb=>by
 have:=(ok.kQ.mem hb).1;rw[e] at this;cases this
theorem Inv.bs (I:Inv X pins σ H s):∀b o,X.base.get? b=some o->s.heap.get? b=some o/\H b=none:=fun b o e =>
 ⟨I.base.keep b o (I.ok.bs b o e).1 (I.ok.bs b o e).2 (I.ok.NM e) (I.ok.Ar b o e),I.base.free b o (I.ok.bs b o e).1 (I.ok.bs b o e).2 (I.ok.Ar b o e)⟩
theorem Inv.bk (I:Inv X pins σ H s):∀b o,X.base.get? b=some o->s.heap.get? b=some o:=fun b o e=>(I.bs b o e).1
theorem Inv.mod (I:Inv X pins σ H s):Mod X.K X.mg X.base:=I.ok.mod
theorem Inv.wB (I:Inv X pins σ H s):X.K.In s.heap:=I.ok.mod.Hx.keeps I.bk
theorem Inv.lt (I:Inv X pins σ H s):X.env.locals<s.heap.objs.size:=let ⟨_,hn,_⟩:=I.loc;hn.lt
theorem Inv.sz (I:Inv X pins σ H s):X.s₀.heap.objs.size<=s.heap.objs.size:=qCu I.ok.above (qAq I.lt)
theorem Inv.Hz (I:Inv X pins σ H s){a:Addr} (h:s.heap.objs.size<=a):a∉X.fs:=fun hb=>by
 obtain⟨_,o,ho,_⟩:=I.ok.kQ.mem hb;exact absurd (qBd (qAs ho) (qCu I.sz h)) (qDh _)
theorem Inv.HA (I:Inv X pins σ H s):∀x c,X.env.cells.lookup x=some c->c≠X.env.locals:=fun x c e z=>by
 obtain⟨v,o,ho,hd⟩:=I.cell x c e;obtain⟨m,⟨o',es,ep,ho',hd',_⟩,_⟩:=I.loc;rw[z,ho'] at ho;cases ho;rw[hd'] at hd;cases hd
theorem Inv.kQ (I:Inv X pins σ H s):s.heap.FunFrames X.base X.outer:=by
 have all:∀(l:List Env),(∀b∈n6 l,b∈X.fs)->X.s₀.heap.FunFrames X.base l->s.heap.FunFrames X.base l:=by
  intro l;induction l with
  | nil=>intro _ _;trivial
  | cons env r ih =>
   intro hs hl;obtain⟨hk,⟨L,o,hf,hn,ho,hd⟩,hr⟩:=hl;have hL:L∈X.fs:=hs L (by unfold n6;rw[qCg,hf];exact qCi);obtain⟨sl,e⟩:=I.base.slot L o ho (I.ok.Hy L hL) hL fun z=>I.ok.Et L z hL;exact⟨hk,⟨L,_,hf,hn,e,hd⟩,ih (fun b hb=>hs b (by unfold n6;rw[qCg,hf];exact qBx _ hb)) hr⟩
 exact all X.outer (fun _ hb=>hb) I.ok.kQ
theorem Inv.stack (I:Inv X pins σ H s):s.heap.FunFrames X.base X.stack:=by
 rcases I.ok.ND with e | ⟨e,hf⟩
 ·rw[e];exact I.kQ
 ·rw[e];obtain⟨m,hn,_⟩:=I.loc;refine .cons (by rw[I.ok.kind];decide) hf hn ?_ I.kQ;exact qIq (qCu I.ok.Es I.ok.above)
theorem Inv.kE (I:Inv X pins σ H s):∀b∈n6 X.stack,b∈X.env.locals::X.fs:=fun b hb=>by
 rcases I.ok.ND with e | ⟨e,hf⟩
 ·rw[e] at hb;exact qBx _ hb
 ·rw[e] at hb;unfold n6 at hb;rw[qCg,hf] at hb;exact hb
theorem Inv.nK (I:Inv X pins σ H s):∀b∈n6 X.stack,H b=none:=fun b hb=>by
 rcases List.mem_cons.mp (I.kE b hb) with e | hb
 ·rw[e];exact I.free
 ·obtain⟨_,o,ho,_⟩:=I.ok.kQ.mem hb;exact I.base.free b o ho (I.ok.Hy b hb) fun z=>I.ok.Et b z hb
theorem Inv.step {g':Array qPb}{t':Nat}{d':Drawn}{ch:List Addr} (I:Inv X pins σ H s)
  (hch:∀b∈ch,(b∈X.ex\/X.s₀.heap.objs.size<=b)/\b≠X.env.locals/\(∀x c,X.env.cells.lookup x=some c->c≠b)/\∀p∈X.pn++pins,p.1≠b)
  (keep:∀b o,b≠X.env.locals->b∉X.fs->b∉ch->s.heap.get? b=some o->H b=none->h'.get? b=some o)
  (slot:∀b o,b≠X.env.locals->b∈X.fs->b∉ch->s.heap.get? b=some o->H b=none->∃sl,h'.get? b=some { o with slots:=sl }) (free:∀b o,b∉ch->s.heap.get? b=some o->H b=none->H' b=none)
  (there:∀b o,b∉ch->s.heap.get? b=some o->∃o',h'.get? b=some o')
  (lW:∀b xs,H b=some (.tup xs)->H' b=some (.tup xs)) (kO:∀b o u,H b=some (.frz o u)->H' b=some (.frz o u)) (lX:∀b ps,H b=some (.tbl ps)->∃more,H' b=some (.tbl (ps++more)))
  (ns:∀m,s.heap.Ns X.env.locals m->h'.Ns X.env.locals m) (cJ:j6 X.prog X.w H' h') (hg:qJc g') :
  Inv X pins σ H' { s with heap:=h',gens:=g',drawn:=d',toks:=t' }:=by
 have neL:∀b o,X.s₀.heap.get? b=some o->b≠X.env.locals:=fun b o e=>qBf (qBd (qAs e) I.ok.above);have neC:∀b o,X.s₀.heap.get? b=some o->b∉X.ex->b∉ch:=fun b o e hx hb=>by
  rcases(hch b hb).1 with z | z
  ·exact hx z
  ·exact absurd (qBd (qAs e) z) (qDh _)
 have cellK:∀x c,X.env.cells.lookup x=some c->∀v,s.heap.IsCell c v->h'.IsCell c v:=fun x c e v ⟨o,ho,hd⟩=>by
  have nch:c∉ch:=fun z=>(hch c z).2.2.1 x c e rfl;by_cases hc:c∈X.fs
  ·obtain⟨sl,q⟩:=slot c o (I.HA x c e) hc nch ho (I.iT x c e);exact⟨_,q,hd⟩
  ·exact⟨o,keep c o (I.HA x c e) hc nch ho (I.iT x c e),hd⟩
 refine⟨I.ok,I.os,hg,⟨fun b o e n hb hx=>?_,fun b o e n hb hx=>?_,fun b o e n hx=>?_,fun b o e hx=>?_,fun b xs e=>lW b xs (I.base.lW b xs e),fun b o xs e=>kO b o xs (I.base.kO b o xs e),fun b ps e=>?_⟩,?_,fun x c e=>?_,?_,fun x c e=>?_,fun p hp=>?_,cJ,I.len⟩
 ·exact keep b o (neL b o e) hb (neC b o e hx) (I.base.keep b o e n hb hx) (I.base.free b o e n hx)
 ·obtain⟨sl,e1⟩:=I.base.slot b o e n hb hx;obtain⟨sl',e2⟩:=slot b _ (neL b o e) hb (neC b o e hx) e1 (I.base.free b o e n hx);exact⟨sl',e2⟩
 ·obtain⟨o',e1⟩:=I.base.there b o e hx;exact free b o' (neC b o e hx) e1 (I.base.free b o e n hx)
 ·obtain⟨o',e1⟩:=I.base.there b o e hx;exact there b o' (neC b o e hx) e1
 ·obtain⟨m1,e1⟩:=I.base.lX b ps e;obtain⟨m2,e2⟩:=lX b _ e1;exact⟨m1++m2,by rw[e2,qMp]⟩
 ·obtain⟨m,hn,hl⟩:=I.loc;refine⟨m,ns m hn,fun i x v e1 e2 e3=>?_⟩;obtain⟨u,r,l⟩:=hl i x v e1 e2 e3;refine⟨u,r,?_⟩;rcases l with l | ⟨k,c,e,z⟩
  ·exact .inl l
  ·exact .inr ⟨k,c,e,cellK x c e _ z⟩
 ·obtain⟨v,z⟩:=I.cell x c e;exact⟨v,cellK x c e v z⟩
 ·obtain⟨m,⟨o,_,_,ho,_⟩,_⟩:=I.loc;exact free _ o (fun z=>(hch _ z).2.1 rfl) ho I.free
 ·obtain⟨v,o,ho,hd⟩:=I.cell x c e;exact free c o (fun z=>(hch c z).2.2.1 x c e rfl) ho (I.iT x c e)
 ·obtain⟨e,n,ne,nf,d⟩:=I.pin p hp;have nch:p.1∉ch:=fun z=>(hch p.1 z).2.2.2 p hp rfl;exact⟨keep p.1 p.2 ne nf nch e n,free p.1 p.2 nch e n,ne,nf,d⟩
theorem Inv.un {t':Nat} (I:Inv X pins σ H s) (u:Un X.fs [] H H' s.heap h') (cJ:j6 X.prog X.w H' h'):Inv X pins σ H' { s with heap:=h',toks:=t' }:=by
 obtain⟨m,⟨o,es,ep,ho,r⟩,_⟩:=id I.loc;obtain⟨sl,hL⟩:=u.any ho I.free (by simp);exact I.step (g':=s.gens) (d':=s.drawn) (ch:=[]) (fun _ z=>nomatch z) (fun b o _ hb _ e n=>u.keep b o e n hb (by simp)) (fun b o _ hb _ e n=>u.slot b o e n hb (by simp)) (fun b o _ e n=>u.free b o e n (by simp)) (fun b o _ e=>u.there b o e (by simp)) u.lW u.kO u.lX (fun m' hm=>by
  obtain⟨o',es',ep',ho',r'⟩:=hm;rw[ho] at ho';cases ho';exact⟨_,es',ep',hL,r'⟩) cJ I.bare
theorem Inv.call {g':Array qPb}{t':Nat}{d':Drawn}{ch:List Addr} (I:Inv X pins σ H s) (u:Un (n6 X.stack) ch H H' s.heap h') (cJ:j6 X.prog X.w H' h') (hg:qJc g')
  (hch:∀b∈ch,(b∈X.ex\/X.s₀.heap.objs.size<=b)/\b≠X.env.locals/\(∀x c,X.env.cells.lookup x=some c->c≠b)/\∀p∈X.pn++pins,p.1≠b) :
  Inv X pins σ H' { s with heap:=h',gens:=g',drawn:=d',toks:=t' }:=by
 obtain⟨m,⟨o,es,ep,ho,r⟩,_⟩:=id I.loc;obtain⟨sl,hL⟩:=u.any ho I.free fun z=>(hch _ z).2.1 rfl;exact I.step (ch:=ch) hch (fun b o hL hb hc e n=>u.keep b o e n (fun z=>(List.mem_cons.mp (I.kE b z)).elim hL hb) hc) (fun b o _ _ hc e n=>u.any e n hc) (fun b o hc e n=>u.free b o e n hc) (fun b o hc e=>u.there b o e hc) u.lW u.kO u.lX (fun m' hm=>by
  obtain⟨o',es',ep',ho',r'⟩:=hm;rw[ho] at ho';cases ho';exact⟨_,es',ep',hL,r'⟩) cJ hg
theorem Inv.turned {t':Nat}{it:Addr} (I:Inv X pins σ H s) (k:∀b o,b≠it->s.heap.get? b=some o->h'.get? b=some o) (hn:H it=none) (hL:it≠X.env.locals)
  (h1:it∈X.ex\/X.s₀.heap.objs.size<=it) (h2:∀x c,X.env.cells.lookup x=some c->c≠it) (h3:∀p∈X.pn++pins,p.1≠it):Inv X pins σ H { s with heap:=h',toks:=t' }:=by
 have nit:∀b u,H b=some u->b≠it:=fun b u e z=>by rw[z,hn] at e;cases e
 refine I.step (g':=s.gens) (d':=s.drawn) (ch:=[it]) (fun b hb=>?_) (fun b o _ _ hc e _=>k b o (fun z=>hc (by simp[z])) e) (fun b o _ _ hc e _=>⟨o.slots,k b o (fun z=>hc (by simp[z])) e⟩) (fun _ _ _ _ n=>n)
  (fun b o hc e=>⟨o,k b o (fun z=>hc (by simp[z])) e⟩) (fun _ _ e=>e) (fun _ _ _ e=>e) (fun b ps e=>⟨#[],by rw[e];simp⟩) (fun m hm=>?_) (fun b u e=>?_) I.bare
 ·have e:b=it:=by simpa using hb
  subst e;exact⟨h1,hL,h2,h3⟩
 ·obtain⟨o,es,ep,ho,r⟩:=hm;exact⟨o,es,ep,k _ o (Ne.symm hL) ho,r⟩
 ·refine(I.cJ b u e).tZ (fun c v hc q=>k c v ?_ q) (fun _ q=>q) fun _ _ q=>q;rcases hc with z | z
  ·rw[z];exact nit b u e
  ·exact nit c _ z
theorem Inv.tok (I:Inv X pins σ H s) (t:Nat):Inv X pins σ H { s with toks:=t }:=I.un (h':=s.heap) (t':=t) Un.refl I.cJ
theorem Inv.kept {t':Nat} (I:Inv X pins σ H s) (k:∀b u,s.heap.get? b=some u->h'.get? b=some u):Inv X pins σ H { s with heap:=h',toks:=t' }:=I.un (Un.kept k) (I.cJ.kept k)
theorem Inv.laid {a:Addr}{o:HO}{t':Nat} (I:Inv X pins σ H s) (k:∀b u,s.heap.get? b=some u->h'.get? b=some u) (hp:s.heap.objs.size<=a) (new:cS X.prog X.w (upd H a o) h' a o) :
  Inv X pins σ (upd H a o) { s with heap:=h',toks:=t' }:=I.un (Un.laid k hp (I.cJ.fresh hp)) (I.cJ.laid k hp new)
theorem Inv.write {x e:Addr}{o:HO}{t':Nat} (I:Inv X pins σ H s) (mu:LI (H x)) (he:e=x\/H e=some (.own x)) (k:∀b u,b≠e->s.heap.get? b=some u->h'.get? b=some u) (heo:∃u,h'.get? e=some u)
  (new:cS X.prog X.w (upd H x o) h' x o):Inv X pins σ (upd H x o) { s with heap:=h',toks:=t' }:=I.un (Un.write mu he k heo) (I.cJ.write mu he k heo new)
theorem Inv.yF {pins':List (Addr×Obj)} (I:Inv X pins σ H s) (h:∀p∈pins',s.heap.get? p.1=some p.2/\H p.1=none/\p.1≠X.env.locals/\p.1∉X.fs/\∀v,p.2.data≠.cell v):Inv X pins' σ H s :=
 ⟨I.ok,I.os,I.bare,I.base,I.loc,I.cell,I.free,I.iT,fun p hp=>(List.mem_append.mp hp).elim (fun z=>I.pin p (qCc _ z)) (h p),I.cJ,I.len⟩
theorem t4 {N:List Str} (hN:N.Nodup){i j:Nat}{x:Str} (a:N[i]?=some x) (b:N[j]?=some x):i=j:=by
 obtain⟨h1,e1⟩:=List.getElem?_eq_some_iff.mp a;obtain⟨h2,e2⟩:=List.getElem?_eq_some_iff.mp b;exact(List.getElem_inj hN).mp (e1.trans e2.symm)
theorem lY {M:qNz}{A:qCt}{E:qAf->qAi->Prop}{i:Nat}{x:Str}{v:V}{u:qAf}{Q:Unit->qAi->Prop} (I:Inv X pins σ H s) (hN:X.N.Nodup) (hi:X.N[i]?=some x) (hx:Loc X.env.scope x) (r:RelV v u)
  (h:∀s',Inv X pins (σ.set i (some v)) H s'->(∃a,qFc a s.heap s'.heap/\(a=X.env.locals\/X.env.cells.lookup x=some a))->Q () s') (hf:X.fn x=true\/X.env.scope.names.lookup x=some .local:=by first|exact .inl rfl | exact .inr rfl | assumption):qBg M A (storeName X.env x u) Q E s:=by
 obtain⟨m,hn,hl⟩:=id I.loc;have hcls:(X.env.scope.kind == .class||(X.env.scope.kind == .module&&X.env.locals != X.env.globals))=false:=by rw[I.ok.kind];rfl
 have hiσ:i<σ.length:=by rw[I.len];exact(List.getElem?_eq_some_iff.mp hi).1
 have HA:=I.HA;have tracked:∀{a:Addr}{h':Heap},(∃o,s.heap.get? a=some o/\H a=none)->qFc a s.heap h'->j6 X.prog X.w H h':=fun {a h'} ha hs b ob e=>by
  obtain⟨_,_,hfree⟩:=ha;refine(I.cJ b ob e).tZ (fun c w' hc q=>(hs.2 c ?_).trans q) (fun _ q=>q) fun _ _ q=>q;rintro rfl;rcases hc with rfl | hc
  ·rw[hfree] at e;cases e
  ·rw[hfree] at hc;cases hc
 rcases hx with hk | hk
 ·refine wpAny_storeName_local hk hn (fun h' hn' hs=>?_) hcls;obtain⟨oL,_,_,hoL,_⟩:=id hn;refine h _ ⟨I.ok,I.os,I.bare,⟨fun b o e n hb hx=>?_,fun b o e n hb hx=>?_,I.base.free,fun b o e hx=>?_,I.base.lW,I.base.kO,I.base.lX⟩,⟨_,hn',fun j y v' e1 e2 e3=>?_⟩,fun y c e=>?_,I.free,I.iT,fun p hp=>?_,tracked ⟨oL,hoL,I.free⟩ hs,by simpa using I.len⟩ ⟨_,hs,.inl rfl⟩
  ·exact(hs.2 b (qBf (qBd (qAs e) I.ok.above))).trans (I.base.keep b o e n hb hx)
  ·obtain⟨sl,e1⟩:=I.base.slot b o e n hb hx;exact⟨sl,(hs.2 b (qBf (qBd (qAs e) I.ok.above))).trans e1⟩
  ·obtain⟨o',e1⟩:=I.base.there b o e hx;exact⟨o',(hs.2 b (qBf (qBd (qAs e) I.ok.above))).trans e1⟩
  ·by_cases hj:j=i
   ·subst hj;rw[hi] at e1;cases e1;rw[qLk hiσ] at e2;cases e2;exact⟨u,r,.inl ⟨hk,by simp⟩⟩
   ·rw[qMg (Ne.symm hj)] at e2;obtain⟨u',r',q⟩:=hl j y v' e1 e2 e3;refine⟨u',r',?_⟩;rcases q with ⟨k,e⟩ | ⟨k,c,e,z⟩
    ·refine .inl ⟨k,?_⟩;have:y≠x:=fun e=>hj (t4 hN e1 (e▸hi));simp[this,e]
    ·exact .inr ⟨k,c,e,z.sameBut hs (HA y c e)⟩
  ·obtain⟨w',z⟩:=I.cell y c e;exact⟨w',z.sameBut hs (HA y c e)⟩
  ·obtain⟨e,n,ne,nf,d⟩:=I.pin p hp;exact⟨(hs.2 p.1 ne).trans e,n,ne,nf,d⟩
 ·have hfn:X.fn x=true:=by
   rcases hf with z | z
   ·exact z
   ·rw[z] at hk;cases hk
  obtain⟨c,hc⟩:=I.ok.has x (.inl hk);obtain⟨w',z⟩:=I.cell x c hc;refine wpAny_storeName_cell I.ok.kind hk hc z (fun h' hc' hs=>?_);obtain⟨oc,hoc,hocd⟩:=id z;refine h { s with heap:=h' } ⟨I.ok,I.os,I.bare,⟨fun b o e n hb hx=>?_,fun b o e n hb hx=>?_,I.base.free,fun b o e hx=>?_,I.base.lW,I.base.kO,I.base.lX⟩,⟨m,hn.sameBut hs (Ne.symm (HA x c hc)),fun j y v' e1 e2 e3=>?_⟩,fun y c' e=>?_,I.free,I.iT,fun p hp=>?_,tracked ⟨oc,hoc,I.iT x c hc⟩ hs,by simpa using I.len⟩ ⟨c,hs,.inr hc⟩
  ·exact(hs.2 b (qBf (qBd (qAs e) (I.ok.LJ x c hfn hc)))).trans (I.base.keep b o e n hb hx)
  ·obtain⟨sl,e1⟩:=I.base.slot b o e n hb hx;exact⟨sl,(hs.2 b (qBf (qBd (qAs e) (I.ok.LJ x c hfn hc)))).trans e1⟩
  ·obtain⟨o',e1⟩:=I.base.there b o e hx;exact⟨o',(hs.2 b (qBf (qBd (qAs e) (I.ok.LJ x c hfn hc)))).trans e1⟩
  ·by_cases hj:j=i
   ·subst hj;rw[hi] at e1;cases e1;rw[qLk hiσ] at e2;cases e2;exact⟨u,r,.inr ⟨.inl hk,c,hc,hc'⟩⟩
   ·rw[qMg (Ne.symm hj)] at e2;obtain⟨u',r',q⟩:=hl j y v' e1 e2 e3;refine⟨u',r',?_⟩;rcases q with q | ⟨k,c',e,z'⟩
    ·exact .inl q
    ·refine .inr ⟨k,c',e,z'.sameBut hs ?_⟩;rintro rfl;exact hj (t4 hN e1 (I.ok.inj _ _ _ e hc▸hi))
  ·by_cases hcc:c'=c
   ·subst hcc;exact⟨_,hc'⟩
   ·obtain⟨w2,z2⟩:=I.cell y c' e;exact⟨w2,z2.sameBut hs hcc⟩
  ·obtain⟨e,n,ne,nf,d⟩:=I.pin p hp;refine⟨(hs.2 p.1 ?_).trans e,n,ne,nf,d⟩;intro q;rw[q,hoc] at e;have q':oc=p.2:=Option.some.inj e;exact d w' (by rw[<- q'];exact hocd)
theorem iZ {M:qNz}{A:qCt}{E:qAf->qAi->Prop}{i:Nat}{x:Str}{v:V}{u:qAf}{Q:Unit->qAi->Prop} (I:Inv X pins σ H s) (hN:X.N.Nodup) (hi:X.N[i]?=some x) (hx:Loc X.env.scope x) (r:RelV v u)
  (h:∀s',Inv X pins (σ.set i (some v)) H s'->Q () s') (hf:X.fn x=true\/X.env.scope.names.lookup x=some .local:=by first|exact .inl rfl | exact .inr rfl | assumption):qBg M A (storeName X.env x u) Q E s :=
 lY I hN hi hx r (fun s' I' _=>h s' I') hf
theorem Inv.call' {s':qAi}{ch:List Addr} (I:Inv X pins σ H s) (ho:s'.os=s.os) (u:Un (n6 X.stack) ch H H' s.heap s'.heap) (cJ:j6 X.prog X.w H' s'.heap) (hg:qJc s'.gens)
  (hch:∀b∈ch,(b∈X.ex\/X.s₀.heap.objs.size<=b)/\b≠X.env.locals/\(∀x c,X.env.cells.lookup x=some c->c≠b)/\∀p∈X.pn++pins,p.1≠b):Inv X pins σ H' s':=by
 obtain⟨h',g',d',t',o'⟩:=s';have e:o'=s.os:=ho;subst e;exact I.call (g':=g') (t':=t') (d':=d') u cJ hg hch
end
abbrev XK:=qAf->Option Addr->Hp->Prop
abbrev St:=List (Option V)
abbrev VK:=V->Hp->Prop
abbrev TE:=St->Hp->VK->Prop
abbrev TT:=St->Hp->(Bool->Hp->Prop)->Prop
abbrev TA:=St->Hp->(List V->Hp->Prop)->Prop
structure Ends where
 nx:St->Hp->Prop
 rt:VK
 bk:St->Hp->Prop:=fun _ _=>False
 ct:St->Hp->Prop:=fun _ _=>False
abbrev TS:=Ends->St->Hp->Prop
def EP (X:Cx) (pins:List (Addr×Obj)) (σ:St) (Q:VK) (u:qAf) (s':qAi):Prop:=∃v H',Inv X pins σ H' s'/\RelV v u/\Q v H'
def TP (X:Cx) (pins:List (Addr×Obj)) (σ:St) (Q:Bool->Hp->Prop) (b:Bool) (s':qAi):Prop:=∃H',Inv X pins σ H' s'/\Q b H'
def AP (X:Cx) (pins:List (Addr×Obj)) (σ:St) (Q:List V->Hp->Prop) (us:List qAf) (s':qAi):Prop:=∃vs H',Inv X pins σ H' s'/\Vals vs us/\Q vs H'
def SP (X:Cx) (pins:List (Addr×Obj)) (D:Ends) (f:Flow) (s':qAi):Prop :=
 match f with
 | .next=>∃σ' H',Inv X pins σ' H' s'/\D.nx σ' H'
 | .brk=>∃σ' H',Inv X pins σ' H' s'/\D.bk σ' H'
 | .cont=>∃σ' H',Inv X pins σ' H' s'/\D.ct σ' H'
 | .ret u=>∃v σ' H',Inv X pins σ' H' s'/\RelV v u/\D.rt v H'
def PE (X:Cx) (e:Expr) (t:TE):Prop :=
 ∀(pins:List (Addr×Obj)) (s:qAi) (σ:St) (H:Hp) (Q:VK),Inv X pins σ H s->t σ H Q->qBg (qBz X.prog X.w) X.A (eval e X.env) (EP X pins σ Q) X.xe s
def PT (X:Cx) (e:Expr) (t:TT):Prop :=
 ∀(pins:List (Addr×Obj)) (s:qAi) (σ:St) (H:Hp) (Q:Bool->Hp->Prop),Inv X pins σ H s->t σ H Q->qBg (qBz X.prog X.w) X.A (qPy e X.env (eval e X.env)) (TP X pins σ Q) X.xe s
def PW (X:Cx) (e:Expr) (t:TT):Prop :=
 ∀(whole:Sem qAf) (pins:List (Addr×Obj)) (s:qAi) (σ:St) (H:Hp) (Q:Bool->Hp->Prop),Inv X pins σ H s->t σ H Q->qBg (qBz X.prog X.w) X.A (qPy e X.env whole) (TP X pins σ Q) X.xe s
theorem PW.pt {X:Cx}{e:Expr}{t:TT} (h:PW X e t):PT X e t:=h _
def PA (X:Cx) (es:List Expr) (t:TA):Prop :=
 ∀(pos:Pos) (pins:List (Addr×Obj)) (s:qAi) (σ:St) (H:Hp) (Q:List V->Hp->Prop),Inv X pins σ H s->t σ H Q->qBg (qBz X.prog X.w) X.A (qOn (qHc pos (qBt es X.env))) (AP X pins σ Q) X.xe s
def PS (X:Cx) (st:Stmt) (t:TS):Prop :=
 ∀(pins:List (Addr×Obj)) (s:qAi) (σ:St) (H:Hp) (D:Ends),Inv X pins σ H s->t D σ H->qBg (qBz X.prog X.w) X.A (exec st X.env) (SP X pins D) X.xe s
def tU (X:Cx) (st:List Stmt) (t:TS):Prop :=
 ∀(pins:List (Addr×Obj)) (s:qAi) (σ:St) (H:Hp) (D:Ends),Inv X pins σ H s->t D σ H->qBg (qBz X.prog X.w) X.A (execs st X.env) (SP X pins D) X.xe s
theorem cF {α:Type}{t:Sem α}{Q Q':α->qAi->Prop}{M:qNz}{A:qCt}{E:qAf->qAi->Prop}{s:qAi} (h:qBg M A t Q E s) (hQ:∀a s,Q a s->Q' a s):qBg M A t Q' E s:=qHk h hQ fun _ _ x=>x
section
variable {X:Cx}
def LK (i:Nat):TE:=fun σ H Q=>∃v,σ[i]?=some (some v)/\Q v H
def tC (v:V):TE:=fun _ H Q=>Q v H
theorem HB {i:Nat}{x:Str}{pos:Pos} (hN:X.N[i]?=some x) (hv:NC X.env.scope x) (hd:(x == ("__debug__":Str))=false:=by decide) (hcd:(x == ("__classdict__":Str))=false:=by decide):PE X (.Name x pos) (LK i):=by
 intro pins s σ H Q I h;obtain⟨v,e,h⟩:=h;obtain⟨m,hn,hl⟩:=I.loc;obtain⟨u,r,l⟩:=hl i x v hN e hv;have fin:EP X pins σ Q u s:=⟨v,H,I,r,h⟩;rcases l with ⟨hk,hm⟩ | ⟨hk,c,hc,hcell⟩
 ·exact wpAny_Name (wpAny_loadName_local I.ok.kind hk hn hm fin) hd
 ·rcases hk with hk | hk
  ·exact wpAny_Name (wpAny_loadName_cell I.ok.kind hk hc hcell fin) hd
  ·exact wpAny_Name (wpAny_loadName_free I.ok.kind hk hc hcell fin hcd) hd
theorem aE {i j pos}:PE X (.Constant (.int i) j pos) (tC (.int i)):=fun _ _ _ H _ I h=>wpAny_Constant_int ⟨.int i,H,I.tok _,⟨_,rfl⟩,h⟩
theorem eV {b j pos}:PE X (.Constant (.bool b) j pos) (tC (.bl b)):=fun _ _ _ H _ I h=>Constant_bool ⟨.bl b,H,I,rfl,h⟩
theorem dM {j pos}:PE X (.Constant .none j pos) (tC .non):=fun _ _ _ H _ I h=>Constant_none ⟨.non,H,I,rfl,h⟩
theorem gG {x j pos}:PE X (.Constant (.str x) j pos) (tC (.str x)):=fun _ _ _ H _ I h=>Calls.Constant_str ⟨.str x,H,I.tok _,⟨_,rfl⟩,h⟩
def Gl (X:Cx) (x:Str):Prop:=X.env.kindOf x=some .globalImplicit
theorem kR {E:qAf->qAi->Prop}{pins:List (Addr×Obj)}{s:qAi}{σ:St}{H:Hp}{x:Str}{u:qAf}{pos:Pos}{Q:qAf->qAi->Prop} (I:Inv X pins σ H s) (hg:Gl X x) (hm:X.mg x=some u) (h:Q u s)
  (hd:(x == ("__debug__":Str))=false:=by decide):qBg (qBz X.prog X.w) X.A (eval (.Name x pos) X.env) Q E s :=
 qKr I.ok.kind hg (Calls.loadGlobal_global (by rw[I.ok.glob];exact I.mod.glob.keeps I.bk) hm h) hd
theorem fI {E:qAf->qAi->Prop}{pins:List (Addr×Obj)}{s:qAi}{σ:St}{H:Hp}{x:Str}{u:qAf}{pos:Pos}{Q:qAf->qAi->Prop} (I:Inv X pins σ H s) (hg:Gl X x) (hm:X.mg x=none) (hv:qCs x=some u) (h:Q u s)
  (hn:x≠"__name__":=by decide) (hd:(x == ("__debug__":Str))=false:=by decide):qBg (qBz X.prog X.w) X.A (eval (.Name x pos) X.env) Q E s:=by
 obtain⟨mb,h1,h2⟩:=I.mod.blt;exact qKr I.ok.kind hg (Calls.loadGlobal_builtin (by rw[I.ok.glob];exact I.mod.glob.keeps I.bk) hm (by rw[I.ok.blt];exact h1.keeps I.bk) ((h2 x hn).trans hv) h) hd
theorem fM {x:Str}{v:V}{u:qAf}{pos:Pos} (hg:Gl X x) (hm:X.mg x=some u) (r:RelV v u) (hd:(x == ("__debug__":Str))=false:=by decide):PE X (.Name x pos) (tC v) :=
 fun _ _ _ H _ I h=>kR I hg hm ⟨v,H,I,r,h⟩ hd
theorem cT {x:Str}{v:V}{u:qAf}{pos:Pos} (hg:Gl X x) (hm:X.mg x=none) (hv:qCs x=some u) (r:RelV v u) (hn:x≠"__name__":=by decide) (hd:(x == ("__debug__":Str))=false:=by decide):PE X (.Name x pos) (tC v) :=
 fun _ _ _ H _ I h=>fI I hg hm hv ⟨v,H,I,r,h⟩ hn hd
variable {a b:Expr}{ta tb:TE}{pos:Pos}
def tB (t:TE):TT:=fun σ H Q=>t σ H fun x H1=>∃c,x = .bl c/\Q c H1
theorem bU {e:Expr}{t:TE} (h:PE X e t) (he:∀whole,qPy e X.env whole=(do let v <- whole;standAt e.pos;qLo [v] (truthy v)):=by intro _;rfl):PT X e (tB t):=by
 intro pins s σ H Q I hw;refine isTrue_plain (cF (h pins s σ H _ I hw) fun v s1 ⟨x,H1,I1,r1,q1⟩=>?_) (he _);obtain⟨d,rfl,q⟩:=q1;cases r1;exact qDr ⟨H1,I1,q⟩
variable {tA tB':TT}{rest:List Expr}
def NO (t u:TT):TT:=fun σ H Q=>t σ H fun c H1=>if c=true then u σ H1 Q else Q false H1
def Pj (t u:TT):TT:=fun σ H Q=>t σ H fun c H1=>if c=true then Q true H1 else u σ H1 Q
def NP (t:TT):TT:=fun σ H Q=>t σ H fun c H1=>Q (!c) H1
theorem pw_and1 (ha:PT X a tA):PW X (.BoolOp .And [a] pos) tA:=by
 intro wh pins s σ H Q I h;refine isTrue_and (cF (ha pins s σ H Q I h) fun c s1 e=>?_);cases c with
 | true=>exact isTrue_and_nil e
 | false=>exact e
theorem pw_or1 (ha:PT X a tA):PW X (.BoolOp .Or [a] pos) tA:=by
 intro wh pins s σ H Q I h;refine isTrue_or (cF (ha pins s σ H Q I h) fun c s1 e=>?_);cases c with
 | false=>exact isTrue_or_nil e
 | true=>exact e
theorem pw_and (ha:PT X a tA) (hb:PW X (.BoolOp .And (b::rest) pos) tB'):PW X (.BoolOp .And (a::b::rest) pos) (NO tA tB'):=by
 intro wh pins s σ H Q I h;refine isTrue_and (cF (ha pins s σ H _ I h) fun c s1 ⟨H1,I1,q1⟩=>?_);cases c with
 | true=>exact hb wh pins s1 σ H1 Q I1 q1
 | false=>exact⟨H1,I1,q1⟩
theorem pw_or (ha:PT X a tA) (hb:PW X (.BoolOp .Or (b::rest) pos) tB'):PW X (.BoolOp .Or (a::b::rest) pos) (Pj tA tB'):=by
 intro wh pins s σ H Q I h;refine isTrue_or (cF (ha pins s σ H _ I h) fun c s1 ⟨H1,I1,q1⟩=>?_);cases c with
 | true=>exact⟨H1,I1,q1⟩
 | false=>exact hb wh pins s1 σ H1 Q I1 q1
theorem bX (ha:PT X a tA):PT X (.UnaryOp .Not a pos) (NP tA):=by
 intro pins s σ H Q I h;exact isTrue_not (ha pins s σ H (fun c H1=>Q (!c) H1) I h)
def LL (ta tb:TE):TE:=fun σ H Q=>ta σ H fun x H1=>∃c,x = .bl c/\if c=true then tb σ H1 Q else Q (.bl false) H1
def NQ (ta tb:TE):TE:=fun σ H Q=>ta σ H fun x H1=>∃c,x = .bl c/\if c=true then Q (.bl true) H1 else tb σ H1 Q
def LM (ta:TE):TE:=fun σ H Q=>ta σ H fun x H1=>∃c,x = .bl c/\Q (.bl (!c)) H1
theorem kF {op}{t:TE} (h:PE X a t):PE X (.BoolOp op [a] pos) t:=fun pins s σ H Q I hw=>BoolOp_one (h pins s σ H Q I hw)
theorem lZ (ha:PE X a ta) (hb:PE X (.BoolOp .And (b::rest) pos) tb):PE X (.BoolOp .And (a::b::rest) pos) (LL ta tb):=by
 intro pins s σ H Q I h;refine BoolOp_and (cF (ha pins s σ H _ I h) fun v s1 ⟨x,H1,I1,r1,q1⟩=>?_);obtain⟨c,rfl,q1⟩:=q1;cases r1;refine qDr ?_;cases c with
 | true=>exact hb pins s1 σ H1 Q I1 q1
 | false=>exact⟨.bl false,H1,I1,rfl,q1⟩
theorem LO (ha:PE X a ta) (hb:PE X (.BoolOp .Or (b::rest) pos) tb):PE X (.BoolOp .Or (a::b::rest) pos) (NQ ta tb):=by
 intro pins s σ H Q I h;refine BoolOp_or (cF (ha pins s σ H _ I h) fun v s1 ⟨x,H1,I1,r1,q1⟩=>?_);obtain⟨c,rfl,q1⟩:=q1;cases r1;refine qDr ?_;cases c with
 | false=>exact hb pins s1 σ H1 Q I1 q1
 | true=>exact⟨.bl true,H1,I1,rfl,q1⟩
theorem BA (ha:PE X a ta):PE X (.UnaryOp .Not a pos) (LM ta):=by
 intro pins s σ H Q I h;refine UnaryOp_ (cF (ha pins s σ H _ I h) fun v s1 ⟨x,H1,I1,r1,q1⟩=>?_);obtain⟨c,rfl,q1⟩:=q1;cases r1;exact not_of (qDr ⟨.bl (!c),H1,I1,rfl,q1⟩)
def Pk (t:TT) (ta tb:TE):TE:=fun σ H Q=>t σ H fun c H1=>if c=true then ta σ H1 Q else tb σ H1 Q
theorem n8 {c:Expr} (hc:PT X c tA) (ha:PE X a ta) (hb:PE X b tb):PE X (.IfExp c a b pos) (Pk tA ta tb):=by
 intro pins s σ H Q I h;refine wpAny_IfExp (cF (hc pins s σ H _ I h) fun d s1 ⟨H1,I1,q1⟩=>?_);cases d with
 | true=>exact ha pins s1 σ H1 Q I1 q1
 | false=>exact hb pins s1 σ H1 Q I1 q1
end
def aR (K:qAc) (H:Hp) (a:Addr) (xs:List V):Prop :=
 Rd H a (.lst xs) \/
  ∃(o:Obj) (its:Array qAf) (n:Nat),K.lookup a=some o/\o.cls = .type "list"/\o.dict=none/\o.data = .seq its n/\its.size<=qAh/\Vals xs its.toList
def cA (K:qAc) (H:Hp) (a:Addr) (xs:List V):Prop :=
 Rd H a (.tup xs) \/
  ∃(o:Obj) (its:Array qAf) (n:Nat),K.lookup a=some o/\o.cls = .type "tuple"/\o.data = .seq its n/\its.size<=qAh/\Vals xs its.toList
def NS:qAf->Option V
 | .none=>some .non
 | .bool b=>some (.bl b)
 | .int i _=>some (.int i)
 | .str x _=>some (.str x)
 | .bytes b _=>some (.byt b)
 | .float b _=>some (.flt b)
 | .ref a=>some (.ref a)
 | .type n=>some (.ty n)
 | _=>none
theorem RelV.abs {x:V}{u:qAf} (r:RelV x u):NS u=some x:=by
 cases x with
 | non=>cases r;rfl
 | bl _=>cases r;rfl
 | int _=>obtain⟨t,rfl⟩:=r;rfl
 | str _=>obtain⟨t,rfl⟩:=r;rfl
 | byt _=>obtain⟨t,rfl⟩:=r;rfl
 | flt _=>obtain⟨t,rfl⟩:=r;rfl
 | ref _=>cases r;rfl
 | ty _=>cases r;rfl
theorem RelV.inj {x y:V}{u:qAf} (r:RelV x u) (q:RelV y u):x=y:=Option.some.inj (r.abs.symm.trans q.abs)
theorem Vals.inj:∀{xs ys:List V}{us:List qAf},Vals xs us->Vals ys us->xs=ys
 | _,_,_,.nil,.nil=>rfl
 | _,_,_,.cons r t,.cons r' t'=>by rw[r.inj r',Vals.inj t t']
section
variable {X:Cx}{pins:List (Addr×Obj)}{σ:St}{H:Hp}{s:qAi}{a:Addr}{xs ys:List V}
theorem aR.of {K:qAc} (h:H a=some (.lst xs)):aR K H a xs:=.inl (.inl h)
theorem cA.of {K:qAc} (h:H a=some (.tup xs)):cA K H a xs:=.inl (.inl h)
theorem Inv.list (I:Inv X pins σ H s) (h:aR X.K H a xs):∃its:List qAf,Vals xs its/\PlainL s.heap a its.toArray/\xs.length<=qAh:=by
 rcases h with h | ⟨o,its,n,hk,hc,hd,hs,hz,r⟩
 ·obtain⟨z,its,n,r,e⟩:=h.ok I.cJ;exact⟨its,r,⟨_,n,e,rfl,rfl,rfl⟩,z⟩
 ·refine⟨its.toList,r,⟨o,n,I.wB a o hk,hc,hd,by simpa using hs⟩,?_⟩;have e:=r.length;simp only[qCb] at e;lia
theorem Inv.tuple (I:Inv X pins σ H s) (h:cA X.K H a xs):∃its:List qAf,Vals xs its/\IsTup s.heap a its.toArray/\xs.length<=qAh:=by
 rcases h with h | ⟨o,its,n,hk,hc,hs,hz,r⟩
 ·obtain⟨z,its,r,p⟩:=h.ok I.cJ;exact⟨its,r,p,z⟩
 ·refine⟨its.toList,r,⟨o,I.wB a o hk,hc,n,by simpa using hs⟩,?_⟩;have e:=r.length;simp only[qCb] at e;lia
theorem Inv.i3 (I:Inv X pins σ H s) (h:aR X.K H a xs) (h':aR X.K H a ys):xs=ys:=by
 obtain⟨its,r,⟨o,n,e,_,_,d⟩,_⟩:=I.list h;obtain⟨its',r',⟨o',n',e',_,_,d'⟩,_⟩:=I.list h';rw[e] at e';cases e';rw[d] at d';injection d' with d1 _;have:its=its':=by simpa using congrArg Array.toList d1
 subst this;exact r.inj r'
end
abbrev Cx.pW (X:Cx) (E:qAf->qAi->Prop):Cx:={ X with xe:=E }
abbrev Cx.Lw (X:Cx):Cx:=X.pW fun _ _=>False
theorem Cx.Ok.pW {X:Cx} (ok:X.Ok) (E:qAf->qAi->Prop):(X.pW E).Ok :=
 ⟨ok.mod,ok.kind,ok.glob,ok.blt,ok.above,ok.inj,ok.has,ok.LJ,ok.hd,ok.frames,ok.ND,ok.OX,ok.bs,ok.Es,ok.Ar,ok.Et,ok.kQ,ok.Hy⟩
theorem Cx.Ok.i4 {X:Cx}{E:qAf->qAi->Prop} (ok:(X.pW E).Ok):X.Ok :=
 ⟨ok.mod,ok.kind,ok.glob,ok.blt,ok.above,ok.inj,ok.has,ok.LJ,ok.hd,ok.frames,ok.ND,ok.OX,ok.bs,ok.Es,ok.Ar,ok.Et,ok.kQ,ok.Hy⟩
section
variable {X:Cx}{pins:List (Addr×Obj)}{σ:St}{H:Hp}{s:qAi}{E:qAf->qAi->Prop}
theorem Inv.pW (I:Inv X pins σ H s) (E:qAf->qAi->Prop):Inv (X.pW E) pins σ H s:=⟨I.ok.pW E,I.os,I.bare,I.base,I.loc,I.cell,I.free,I.iT,I.pin,I.cJ,I.len⟩
theorem Inv.i4 (I:Inv (X.pW E) pins σ H s):Inv X pins σ H s:=⟨I.ok.i4,I.os,I.bare,I.base,I.loc,I.cell,I.free,I.iT,I.pin,I.cJ,I.len⟩
theorem SP.i4 {D:Ends}{f:Flow}{s':qAi} (h:SP (X.pW E) pins D f s'):SP X pins D f s':=by
 cases f with
 | next=>obtain⟨σ',H',I,q⟩:=h;exact⟨σ',H',I.i4,q⟩
 | brk=>obtain⟨σ',H',I,q⟩:=h;exact⟨σ',H',I.i4,q⟩
 | cont=>obtain⟨σ',H',I,q⟩:=h;exact⟨σ',H',I.i4,q⟩
 | ret u=>obtain⟨v,σ',H',I,r,q⟩:=h;exact⟨v,σ',H',I.i4,r,q⟩
theorem tU.Lw {st:List Stmt}{t:TS} (h:tU X.Lw st t):tU X st t:=fun pins s σ H D I hw =>
 qHk (h pins s σ H D (I.pW _) hw) (fun _ _ q=>q.i4) fun _ _ z=>False.elim z
end
section
variable {X:Cx}{st:Stmt}{rest:List Stmt}{t u:TS}{e:Expr}{te:TE}{pos:Pos}
def LP:TS:=fun D σ H=>D.nx σ H
def LQ (t u:TS):TS:=fun D σ H=>t { D with nx:=u D } σ H
theorem a8:tU X [] LP:=fun _ _ σ H _ I h=>qIx ⟨σ,H,I,h⟩
theorem aD (h1:PS X st t) (h2:tU X rest u):tU X (st::rest) (LQ t u):=by
 intro pins s σ H D I h;refine wpAny_execs_cons (cF (h1 pins s σ H { D with nx:=u D } I h) fun f s1 q=>?_);cases f with
 | next =>
  obtain⟨σ',H',I',q⟩:=q;exact h2 pins s1 σ' H' D I' q
 | ret v=>exact q
 | brk=>exact q
 | cont=>exact q
theorem aG (h1:PS X st t):tU X [st] t:=by
 intro pins s σ H D I h;refine wpAny_execs_cons (cF (h1 pins s σ H D I h) fun f s1 q=>?_);cases f with
 | next=>exact qIx q
 | ret v=>exact q
 | brk=>exact q
 | cont=>exact q
def HC:TS:=fun D σ H=>D.bk σ H
theorem BB:PS X (.Break pos) HC:=fun _ _ σ H _ I h=>wpAny_Break ⟨σ,H,I,h⟩
theorem Inv.quiet {pins:List (Addr×Obj)}{σ:St}{H:Hp}{s:qAi} (I:Inv X pins σ H s):interactive X.env=false:=by simp[interactive,I.ok.kind]
def LR (te:TE):TS:=fun D σ H=>te σ H fun _ H1=>D.nx σ H1
theorem fN (he:PE X e te) (hs:qKd e none pos.line X.env=pure false:=by rfl):PS X (.Expr e pos) (LR te):=by
 intro pins s σ H D I h;exact wpAny_Expr_any (cF (he pins s σ H _ I h) fun v s1 ⟨x,H1,I1,r1,q1⟩=>⟨σ,H1,I1,q1⟩) I.quiet hs
def NU (te:TE):TS:=fun D σ H=>te σ H D.rt
theorem aQ (he:PE X e te):PS X (.Return (some e) pos) (NU te):=by
 intro pins s σ H D I h;exact wpAny_Return_some (cF (he pins s σ H _ I h) fun v s1 ⟨x,H1,I1,r1,q1⟩=>⟨x,σ,H1,I1,r1,q1⟩)
def HD (c:TT) (t u:TS):TS:=fun D σ H=>c σ H fun b H1=>if b=true then t D σ H1 else u D σ H1
theorem bR {c:Expr}{a b:List Stmt}{tc:TT} (hc:PT X c tc) (ha:tU X a t) (hb:tU X b u):PS X (.If c a b pos) (HD tc t u):=by
 intro pins s σ H D I h;refine wpAny_If (cF (hc pins s σ H _ I h) fun d s1 ⟨H1,I1,q1⟩=>?_);cases d with
 | true=>exact ha pins s1 σ H1 D I1 q1
 | false=>exact hb pins s1 σ H1 D I1 q1
end
abbrev TG:=V->St->Hp->(St->Hp->Prop)->Prop
abbrev HE:=List V->St->Hp->(St->Hp->Prop)->Prop
def PG (X:Cx) (target:Expr) (t:TG):Prop :=
 ∀(pins:List (Addr×Obj)) (s:qAi) (σ:St) (H:Hp) (v:V) (u:qAf) (Q:St->Hp->Prop),Inv X pins σ H s->RelV v u->t v σ H Q ->
  qBg (qBz X.prog X.w) X.A (qKj target X.env u) (fun _ s'=>∃σ' H',Inv X pins σ' H' s'/\Q σ' H') X.xe s
def LS (X:Cx) (ts:List Expr) (t:HE):Prop :=
 ∀(pins:List (Addr×Obj)) (s:qAi) (σ:St) (H:Hp) (vs:List V) (us:List qAf) (Q:St->Hp->Prop),Inv X pins σ H s->Vals vs us->t vs σ H Q ->
  qBg (qBz X.prog X.w) X.A (assignInOrder ((qJh ts X.env).map (·.2)) us) (fun _ s'=>∃σ' H',Inv X pins σ' H' s'/\Q σ' H') X.xe s
abbrev HF:=V->V->V->Hp->(Hp->Prop)->Prop
def HG (X:Cx) (t:HF):Prop :=
 ∀(pins:List (Addr×Obj)) (s:qAi) (σ:St) (H:Hp) (o i v:V) (ov iv u:qAf) (Q:Hp->Prop),Inv X pins σ H s->RelV o ov->RelV i iv->RelV v u->t o i v H Q ->
  qBg (qBz X.prog X.w) X.A (setItem ov iv u) (fun _ s'=>∃H',Inv X pins σ H' s'/\Q H') X.xe s
abbrev NF:=V->V->Hp->VK->Prop
def NV (X:Cx) (op:Operator) (t:NF):Prop :=
 ∀(pins:List (Addr×Obj)) (s:qAi) (σ:St) (H:Hp) (x y:V) (v u:qAf) (Q:VK),Inv X pins σ H s->RelV x v->RelV y u->t x y H Q ->
  qBg (qBz X.prog X.w) X.A (qNy op v u) (EP X pins σ Q) X.xe s
section
variable {X:Cx}{pos:Pos}
def aY (i:Nat):TG:=fun v σ H Q=>Q (σ.set i (some v)) H
theorem aL {i:Nat}{x:Str} (hN:X.N.Nodup) (hi:X.N[i]?=some x) (hx:Loc X.env.scope x) (hf:X.fn x=true\/X.env.scope.names.lookup x=some .local:=by first|exact .inl rfl | exact .inr rfl | assumption):PG X (.Name x pos) (aY i):=by
 intro pins s σ H v u Q I r h;exact wpAny_assign_Name (iZ I hN hi hx r (fun s' I'=>⟨_,H,I',h⟩) hf)
def rO:HE:=fun vs σ H Q=>vs=[]/\Q σ H
def fO (t:TG) (u:HE):HE:=fun vs σ H Q=>∃v r,vs=v::r/\t v σ H fun σ' H'=>u r σ' H' Q
theorem dG:LS X [] rO:=by
 intro pins s σ H vs us Q I r h;obtain⟨e,h⟩:=h;subst e;cases r;exact assignInOrder_nil ⟨σ,H,I,h⟩
theorem bI {e:Expr}{es:List Expr}{t:TG}{u:HE} (h1:PG X e t) (h2:LS X es u)
  (hs:(qJh (e::es) X.env).map (·.2)=qKj e X.env::(qJh es X.env).map (·.2):=by rfl):LS X (e::es) (fO t u):=by
 intro pins s σ H vs us Q I r h;obtain⟨v,vr,e1,h⟩:=h;subst e1;cases r with
 | cons r rr =>
  rw[hs];refine assignInOrder_cons (cF (h1 pins s σ H _ _ _ I r h) fun _ s1 ⟨σ1,H1,I1,q1⟩=>?_);exact h2 pins s1 σ1 H1 _ _ Q I1 rr q1
def rP (K:qAc) (n:Nat) (t:HE):TG:=fun v σ H Q=>∃a xs,v = .ref a/\cA K H a xs/\xs.length=n/\t xs σ H Q
theorem eW {es:List Expr}{k:Nat}{t:HE}{n:Nat} (hc:X.calm=true) (h:LS X es t)
  (hn:(qJh es X.env).length=n:=by rfl) (hst:(qJh es X.env).findIdx? (·.1)=none:=by rfl):PG X (.Tuple es k pos) (rP X.K n t):=by
 intro pins s σ H v u Q I r hw;obtain⟨a,xs,e1,hq,hl,hw⟩:=hw;subst e1;cases r;obtain⟨its,rv,ht,hz⟩:=I.tuple hq;refine assign_Tuple_tuple (I.ok.hd hc) ht (by simp[hn,<- hl,rv.length]) hst fun h' hx=>?_;have I1:Inv X pins σ H { s with heap:=h' }:=I.kept (t':=s.toks) fun b o e=>hx b o (qBf (qAs e)) e;exact h pins _ σ H xs _ Q I1 (by simpa using rv) hw
def NW (to ti:TE) (t:HF):TG:=fun v σ H Q=>to σ H fun o H1=>ti σ H1 fun i H2=>t o i v H2 fun H3=>Q σ H3
theorem oA {o i:Expr}{to ti:TE}{t:HF} (ho:PE X o to) (hi:PE X i ti) (hs:HG X t)
  (ha:∀v,qKj (.Subscript o i pos) X.env v=(do
   let ov <- qLo [v] (eval o X.env)
   let iv <- qLo [v,ov] (eval i X.env)
   standAt pos
   qLo [v,ov,iv] (setItem ov iv v)
   release [v,ov,iv] []):=by intro _;rfl):PG X (.Subscript o i pos) (NW to ti t):=by
 intro pins s σ H v u Q I r h;rw[ha];refine qAa (qDj (cF (ho pins s σ H _ I h) fun ov s1 ⟨x,H1,I1,r1,q1⟩=>?_));refine qAa (qDj (cF (hi pins s1 σ H1 _ I1 q1) fun iv s2 ⟨y,H2,I2,r2,q2⟩=>?_));refine qAa (qIk (qAa (qDj (cF (hs pins s2 σ H2 x y v ov iv u _ I2 r1 r2 r q2) fun _ s3 ⟨H3,I3,q3⟩=>?_))));exact wpAny_release ⟨σ,H3,I3,q3⟩
def LU (te:TE) (g:TG):TS:=fun D σ H=>te σ H fun x H1=>g x σ H1 D.nx
theorem oB {tg e:Expr}{te:TE}{g:TG} (he:PE X e te) (hg:PG X tg g) (hs:swapsWithSole [tg] e pos.line X.env=pure false:=by rfl) (hw:swappedStores [tg] e X.env=pure none:=by rfl)
  (h1:(qJh [tg] X.env).map (·.2)=[qKj tg X.env]:=by rfl):PS X (.Assign [tg] e pos) (LU te g):=by
 intro pins s σ H D I h;refine wpAny_Assign_stores (cF (he pins s σ H _ I h) fun v s1 ⟨x,H1,I1,r1,q1⟩=>?_) hs hw;rw[h1];exact cF (hg pins s1 σ H1 x v _ I1 r1 q1) fun _ s2 q=>q
theorem aU {i:Nat}{x:Str}{e:Expr}{te:TE}{pos':Pos} (hN:X.N.Nodup) (hi:X.N[i]?=some x) (hx:Loc X.env.scope x) (he:PE X e te) (hs:qKd e (some (.Name x pos')) pos.line X.env=pure false:=by rfl) (hf:X.fn x=true\/X.env.scope.names.lookup x=some .local:=by first|exact .inl rfl | exact .inr rfl | assumption) :
  PS X (.Assign [.Name x pos'] e pos) (LU te (aY i)):=by
 intro pins s σ H D I h;refine wpAny_Assign_Name (cF (he pins s σ H _ I h) fun v s1 ⟨y,H1,I1,r1,q1⟩=>?_) hs;exact iZ I1 hN hi hx r1 (fun s2 I2=>⟨_,H1,I2,q1⟩) hf
def NX (i j:Nat) (ta:TA):TS:=fun D σ H=>ta σ H fun vs H1=>∃v w,vs=[v,w]/\D.nx ((σ.set i (some v)).set j (some w)) H1
theorem HH {i j:Nat}{x y:Str}{a b:Expr}{ta:TA}{px py pt:Pos} {kt k2 pt2} (hc:X.calm=true) (hN:X.N.Nodup) (hi:X.N[i]?=some x) (hj:X.N[j]?=some y) (hij:i≠j)
  (hx:X.env.scope.names.lookup x=some .local) (hy:X.env.scope.names.lookup y=some .local) (ha:PA X [a,b] ta)
  (hw:swappedStores [.Tuple [.Name x px,.Name y py] kt pt] (.Tuple [a,b] k2 pt2) X.env=pure (some [x,y]))
  (hs:swapsWithSole [.Tuple [.Name x px,.Name y py] kt pt] (.Tuple [a,b] k2 pt2) pos.line X.env=pure false:=by rfl) :
  PS X (.Assign [.Tuple [.Name x px,.Name y py] kt pt] (.Tuple [a,b] k2 pt2) pos) (NX i j ta):=by
 intro pins s σ H D I h;rw[exec_Assign_arm];refine qAa (qIk ?_);rw[hs];refine qAa (qAe ?_);rw[if_neg (by decide)];refine qAa (Tuple_ (cF (ha _ pins s σ H _ I h) fun us s1 ⟨vs,H1,I1,r1,q1⟩=>?_));obtain⟨v,w,e1,q1⟩:=q1;subst e1;obtain⟨u1,u2,rfl,rv,rw'⟩:∃u1 u2,us=[u1,u2]/\RelV v u1/\RelV w u2:=by
  cases r1 with
  | cons p q =>
   cases q with
   | cons p' q' =>
    cases q'
    exact⟨_,_,rfl,p,p'⟩
 refine qCj ?_ (iY);have I2:Inv X pins σ H1 { s1 with heap:=s1.heap.push { cls:=.type "tuple",data:=.seq [u1,u2].toArray } }:=I1.kept (t':=s1.toks) fun b o e=>qAj _ e;rw[hw];refine qAa (qAe ?_);show qBg (qBz X.prog X.w) X.A (do rule "assign.swapped-stores";let items <- unpackItems (.ref s1.heap.objs.size) 2 none;assignInOrder [fun v=>qOz X.env y v,fun v=>qOz X.env x v] items.reverse;pure Flow.next) _ _ _;refine qAa (qGo (qAa (unpackItems_tuple (items:=#[u1,u2]) (I.ok.hd hc) (IsTup.new s1.heap _) fun h' hx'=>?_)));have I3:=I2.kept (h':=h') (t':=s1.toks) fun b o e=>hx' b o (qBf (qAs e)) e;show qBg _ _ (assignInOrder [fun v=>qOz X.env y v,fun v=>qOz X.env x v] [u2,u1] >>= fun _=>pure Flow.next) _ _ _;refine qAa (assignInOrder_cons (wpAny_bindName (iZ I3 hN hj (.inl hy) rw' (fun s2 I4=>?_) (.inr hy))));refine assignInOrder_cons (wpAny_bindName (iZ I4 hN hi (.inl hx) rv (fun s3 I5=>assignInOrder_nil (qAe ?_)) (.inr hx)));rw[List.set_comm _ _ (Ne.symm hij)] at I5;exact⟨_,H1,I5,q1⟩
def NY (i:Nat) (te:TE) (ti:NF):TS:=fun D σ H=>∃x,σ[i]?=some (some x)/\te σ H fun y H1=>ti x y H1 fun z H2=>D.nx (σ.set i (some z)) H2
theorem rQ {i:Nat}{x:Str}{e:Expr}{te:TE}{op:Operator}{ti:NF}{pos':Pos} (hN:X.N.Nodup) (hi:X.N[i]?=some x) (hx:Loc X.env.scope x) (he:PE X e te) (ho:NV X op ti) (hf:X.fn x=true\/X.env.scope.names.lookup x=some .local:=by first|exact .inl rfl | exact .inr rfl | assumption) :
  PS X (.AugAssign (.Name x pos') op e pos) (NY i te ti):=by
 intro pins s σ H D I h;obtain⟨v,e1,h⟩:=h;obtain⟨m,hn,hl⟩:=I.loc;have vis:NC X.env.scope x:=by rcases hx with k | k;exact .inl k;exact .inr (.inl k)
 obtain⟨u,r,l⟩:=hl i x v hi e1 vis;refine wpAny_AugAssign_Name ?_;have go:qBg (qBz X.prog X.w) X.A (eval e X.env) (fun w s₂=>qBg (qBz X.prog X.w) X.A (qNy op u w) (fun r s₃=>qBg (qBz X.prog X.w) X.A (storeName X.env x r) (fun _=>SP X pins D .next) X.xe s₃) X.xe s₂) X.xe s:=by
  refine cF (he pins s σ H _ I h) fun w s1 ⟨y,H1,I1,r1,q1⟩=>?_;refine cF (ho pins s1 σ H1 v y u w _ I1 r r1 q1) fun z s2 ⟨zv,H2,I2,r2,q2⟩=>?_;exact iZ I2 hN hi hx r2 (fun s3 I3=>⟨_,H2,I3,q2⟩) hf
 rcases l with ⟨hk,hm⟩ | ⟨hk,c,hc,hcell⟩
 ·exact wpAny_loadName_local I.ok.kind hk hn hm go
 ·rcases hk with hk | hk
  ·exact wpAny_loadName_cell I.ok.kind hk hc hcell go
  ·rcases hx with k | k
   ·have:X.env.scope.names.lookup x=some .free:=hk;rw[k] at this;cases this
   ·have:X.env.scope.names.lookup x=some .free:=hk;rw[k] at this;cases this
def NZ (X:Cx) (t:V->V->Hp->VK->Prop):Prop :=
 ∀(pins:List (Addr×Obj)) (s:qAi) (σ:St) (H:Hp) (o i:V) (ov iv:qAf) (Q:VK),Inv X pins σ H s->RelV o ov->RelV i iv->t o i H Q ->
  qBg (qBz X.prog X.w) X.A (qIm ov iv) (EP X pins σ Q) X.xe s
end
section
variable {X:Cx}{pos:Pos}
def HI (c:TT) (tb:TS):TS:=fun D σ H=>∃W:Nat->St->Hp->Prop,(∃m,W m σ H)/\∀m σ H,W m σ H ->
 c σ H fun b H1=>if b=true then ∃N:St->Hp->Prop,(∀σ' H',N σ' H'->∃m',m'<m/\W m' σ' H')/\tb { D with nx:=N,ct:=N,bk:=D.nx } σ H1 else D.nx σ H1
theorem kT {c:Expr}{body:List Stmt}{tc:TT}{tb:TS} (hp:PassesOwn (qBz X.prog X.w) X.A X.env X.xe) (hc:PT X c tc) (hb:tU X body tb):PS X (.While c body [] pos) (HI tc tb):=by
 intro pins s σ H D I h;obtain⟨W,⟨m0,w0⟩,turn⟩:=h;refine wpAny_While (codeAny_whileLoop (fun n s'=>∃σ' H',Inv X pins σ' H' s'/\W n σ' H') ?_ m0 ⟨σ,H,I,w0⟩);rintro n s1 ⟨σ1,H1,I1,w1⟩;refine qFh hp (cF (hc pins s1 σ1 H1 _ I1 (turn n σ1 H1 w1)) fun b s2 ⟨H2,I2,q2⟩=>?_);cases b with
 | true =>
  obtain⟨N,hN,q2⟩:=q2;rw[if_pos rfl];refine qFh hp (cF (hb pins s2 σ1 H2 _ I2 q2) fun f s3 q3=>?_);cases f with
  | next =>
   obtain⟨σ3,H3,I3,n3⟩:=q3;obtain⟨m',hm,w3⟩:=hN σ3 H3 n3;exact⟨m',hm,σ3,H3,I3,w3⟩
  | cont =>
   obtain⟨σ3,H3,I3,n3⟩:=q3;obtain⟨m',hm,w3⟩:=hN σ3 H3 n3;exact⟨m',hm,σ3,H3,I3,w3⟩
  | brk=>exact q3
  | ret v=>exact q3
 | false =>
  rw[if_neg qAp];exact qIx ⟨σ1,H2,I2,q2⟩
end
structure It where
 go:Nat->Hp->Prop
 pX:Nat->Hp->V->Hp->Prop
 stop:Nat->Hp->Prop
def i5 (X:Cx) (pins:List (Addr×Obj)) (H:Hp) (b:Addr):Prop :=
 H b=none/\b≠X.env.locals/\b∉X.fs/\(b∈X.ex\/X.s₀.heap.objs.size<=b)/\(∀x c,X.env.cells.lookup x=some c->c≠b)/\∀p∈X.pn++pins,p.1≠b
theorem Inv.As {X:Cx}{pins:List (Addr×Obj)}{σ:St}{H H':Hp}{s:qAi}{b:Addr} (I:Inv X pins σ H s) (hb:s.heap.objs.size<=b) (hn:H' b=none):i5 X pins H' b:=by
 refine⟨hn,qGl (qBd I.lt hb),I.Hz hb,.inr (qCu I.sz hb),fun x c e z=>?_,fun p hp z=>?_⟩
 ·obtain⟨v,q⟩:=I.cell x c e;exact absurd (qBd q.lt (by rw[z];exact hb)) (qDh _)
 ·exact absurd (qBd (qAs (I.pin p hp).1) (by rw[z];exact hb)) (qDh _)
structure Turn (P:qBm) (w:qCy) (K:qAc) (tg:Expr) (J:It) (fp:List Addr) (it:Addr) (tn:Nat->Heap->Prop):Prop where
 mem:it∈fp
 obj:∀i h,tn i h->∀b∈fp,∃o,h.get? b=some o/\∀v,o.data≠.cell v
 keep:∀i h h',tn i h->(∀b∈fp,∀o,h.get? b=some o->h'.get? b=some o)->tn i h'
 item:∀(X:Cx),X.prog=P->X.w=w->X.K=K->X.calm=true->∀(i:Nat) (pins:List (Addr×Obj)) (s:qAi) (σ:St) (H:Hp) (E:qAf->qAi->Prop),Inv X pins σ H s->(∀b∈fp,i5 X pins H b)->tn i s.heap->J.go i H ->
  qBg (qBz P w) X.A (qIz (.ref it)) (fun r s1=>∃u,r=some u /\
   qBg (qBz P w) X.A (qJa tg (.ref it) u) (fun _ s2=>∃x H',Inv X pins σ H' s2/\RelV x u/\J.pX i H x H'/\tn (i+1) s2.heap/\∀b∈fp,H' b=none) E s1) E s
 done:∀(X:Cx),X.prog=P->X.w=w->X.K=K->X.calm=true->∀(i:Nat) (pins:List (Addr×Obj)) (s:qAi) (σ:St) (H:Hp) (E:qAf->qAi->Prop),Inv X pins σ H s->(∀b∈fp,i5 X pins H b)->tn i s.heap->J.stop i H ->
  qBg (qBz P w) X.A (qIz (.ref it)) (fun r s1=>r=none/\Inv X pins σ H s1) E s
 self:∀(A:qCt) (i:Nat) (s:qAi) (Q:qAf->qAi->Prop) (E:qAf->qAi->Prop),tn i s.heap->Q (.ref it) s->qBg (qBz P w) A (qMs (.ref it)) Q E s
abbrev TI:=St->Hp->(It->Hp->Prop)->Prop
def OY (X:Cx) (pins:List (Addr×Obj)) (σ:St) (tg:Expr) (R:It->Hp->Prop) (itv:qAf) (s2:qAi):Prop :=
 ∃(it:Addr) (fp:List Addr) (tn:Nat->Heap->Prop) (J:It) (H':Hp),itv = .ref it/\Inv X pins σ H' s2/\Turn X.prog X.w X.K tg J fp it tn/\tn 0 s2.heap/\(∀b∈fp,i5 X pins H' b)/\R J H'
def PI (X:Cx) (tg iter:Expr) (wi:TI):Prop :=
 ∀(pins:List (Addr×Obj)) (s:qAi) (σ:St) (H:Hp) (R:It->Hp->Prop),Inv X pins σ H s->wi σ H R ->
  qBg (qBz X.prog X.w) X.A (eval iter X.env) (fun v s1=>qBg (qBz X.prog X.w) X.A (qMs v) (OY X pins σ tg R) X.xe s1) X.xe s
theorem yG {M:qNz}{A:qCt}{E:qAf->qAi->Prop}{s:qAi}{tg:Expr}{it:Addr}{u:qAf}{o:Obj}{n:String}{vs:Array qAf}{Q:Unit->qAi->Prop} (ho:s.heap.get? it=some o) (hc:o.cls = .type n) (hd:o.data = .fields vs)
    (hn:["enumerate","zip","dict_itemiterator","dict_reverseitemiterator","odict_iterator","itertools.zip_longest","itertools.pairwise"].contains n=false) (hQ:Q () s):qBg M A (qJa tg (.ref it) u) Q E s:=by
  unfold qJa
  cases tg <;> first
    | exact qAe hQ
    | (cases u <;> first
        | exact qAe hQ
        | (refine qAa (wpAny_load ho ?_)
           rw[hc,hd]
           show qBg M A (if (["enumerate","zip","dict_itemiterator","dict_reverseitemiterator","odict_iterator","itertools.zip_longest","itertools.pairwise"].contains n&&vs[0]? == some (qJk _))=true then _ else _) Q E s
           rw[if_neg (by intro h;rw[hn,qGf] at h;cases h)]
           exact qAe hQ))
def yH (K:qAc) (a:Addr):It :=
 ⟨fun i H=>∃xs x,aR K H a xs/\xs[i]?=some x,fun i H x H'=>H'=H/\∀xs,aR K H a xs->xs[i]?=some x,fun i H=>∃xs,aR K H a xs/\xs.length<=i⟩
def pU (lo:Int) (n:Nat):It:=⟨fun i _=>i<n,fun i H x H'=>H'=H/\x = .int (lo+i),fun i _=>n<=i⟩
theorem Au {P:qBm}{w:qCy}{K:qAc}{tg:Expr} (a it:Addr):Turn P w K tg (yH K a) [it] it (fun i h=>h.IsListIter it a i) where
 mem:=by simp
 obj:=fun i h st b hb=>by
  have e:b=it:=by simpa using hb
  subst e;obtain⟨o,e,c,d⟩:=st;exact⟨o,e,fun v z=>by rw[d] at z;cases z⟩
 keep:=fun i h h' st k=>st.at fun o e=>k it (by simp) o e
 item:=by
  intro X hP hw hK hc i pins s σ H E I hf st hg;subst hP hw hK;obtain⟨xs,x,hq,hx⟩:=hg;obtain⟨its,rv,p,hz⟩:=I.list hq;obtain⟨u,hu,ru⟩:=rv.get hx;obtain⟨f0,f1,f2,f3,f4,f5⟩:=hf it (by simp);refine wpAny_pyNext_list_item st p.isList (x:=u) (by simpa using hu) fun h' st' sb=>?_;have I1:Inv X pins σ H { s with heap:=h' }:=I.turned (t':=s.toks) (fun b o hb e=>(sb.2 b hb).trans e) f0 f1 f3 f4 f5;obtain⟨o,e,c,d⟩:=id st';exact⟨u,rfl,yG (s:={ s with heap:=h' }) e c d (by decide) ⟨x,H,I1,ru,⟨rfl,fun ys hy=>by rw[I.i3 hy hq];exact hx⟩,st',fun b hb=>(hf b hb).1⟩⟩
 done:=by
  intro X hP hw hK hc i pins s σ H E I hf st hg;subst hP hw hK;obtain⟨xs,hq,hx⟩:=hg;obtain⟨its,rv,p,hz⟩:=I.list hq;obtain⟨f0,f1,f2,f3,f4,f5⟩:=hf it (by simp);have hl:=rv.length;exact wpAny_pyNext_list_end (I.ok.hd hc) st p.isList (by simp;lia) fun h' eb=>⟨rfl,I.turned (t':=s.toks) (fun b o hb e=>eb b o hb e) f0 f1 f3 f4 f5⟩
 self:=fun _ _ _ _ _ st h=>wpAny_pyIter_listiter st h
theorem wC {P:qBm}{w:qCy}{K:qAc}{tg:Expr} (it:Addr) (lo:Int) (n:Nat):Turn P w K tg (pU lo n) [it] it (fun i h=>IsRangeIter h it (lo+(i:Nat)*1) ((n:Int)-(i:Nat)) 1) where
 mem:=by simp
 obj:=fun i h st b hb=>by
  have e:b=it:=by simpa using hb
  subst e;exact⟨_,st,fun v z=>by
   have z':Data.fields _=Data.cell v:=z;cases z'⟩
 keep:=fun i h h' st k=>k it (by simp) _ st
 item:=by
  intro X hP hw hK hc i pins s σ H E I hf st hg;subst hP hw hK;obtain⟨f0,f1,f2,f3,f4,f5⟩:=hf it (by simp);have W:=Walks.range (prog:=X.prog) (w:=X.w) (I.ok.hd hc) it lo 1 n;refine W.item i s _ _ hg st fun v h' tk hv st' kk=>?_;obtain⟨t,rfl⟩:=hv;have I1:Inv X pins σ H { s with heap:=h',toks:=tk }:=I.turned (fun b o hb e=>kk b o (by simpa using hb) e) f0 f1 f3 f4 f5;refine⟨_,rfl,yG (s:={ s with heap:=h',toks:=tk }) (n:="range_iterator") st' rfl rfl (by decide) ⟨.int (lo+i),H,I1,⟨t,?_⟩,⟨rfl,rfl⟩,st',fun b hb=>(hf b hb).1⟩⟩;rw[qFe]
 done:=by
  intro X hP hw hK hc i pins s σ H E I hf st hg;subst hP hw hK;obtain⟨f0,f1,f2,f3,f4,f5⟩:=hf it (by simp);exact wpAny_pyNext_range_end (I.ok.hd hc) st (by have:n<=i:=hg;lia) fun h' eb=>⟨rfl,I.turned (t':=s.toks) (fun b o hb e=>eb b o hb e) f0 f1 f3 f4 f5⟩
 self:=fun _ _ _ _ _ st h=>wpAny_pyIter_rangeiter st h
section
variable {X:Cx}{tg:Expr}
def Ge (K:qAc) (tl:TE):TI:=fun σ H R=>tl σ H fun x H1=>∃a,x = .ref a/\(∃xs,aR K H1 a xs)/\R (yH K a) H1
theorem bN {l:Expr}{tl:TE} (hl:PE X l tl):PI X tg l (Ge X.K tl):=by
 intro pins s σ H R I h;refine cF (hl pins s σ H _ I h) fun v s1 ⟨x,H1,I1,r1,q1⟩=>?_;obtain⟨a,e,⟨xs,hq⟩,q⟩:=q1;subst e;cases r1;obtain⟨its,rv,p,hz⟩:=I1.list hq;refine qIa p.isList ?_;refine⟨s1.heap.objs.size,[s1.heap.objs.size],_,_,H1,rfl,I1.kept (t':=s1.toks) fun b o e=>qAj _ e,Au a _,⟨_,qAt _ rfl,rfl,rfl⟩,fun b hb=>?_,q⟩;have e:b=s1.heap.objs.size:=by simpa using hb
 subst e;exact I1.As (qAg _) (I1.cJ.fresh (qAg _))
theorem t5 {pins:List (Addr×Obj)}{σ:St}{H:Hp}{s:qAi}{R:It->Hp->Prop}{E:qAf->qAi->Prop}{lo hi:Int}{t u v:Tok}{tk:Nat} (I:Inv X pins σ H s) (h1:-(2^62)<=lo) (h2:lo<2^62) (h3:-(2^62)<=hi) (h4:hi<2^62)
  (q:R (pU lo (hi-lo).toNat) H):qBg (qBz X.prog X.w) X.A (qMs (.ref s.heap.objs.size)) (OY X pins σ tg R) E { s with heap:=s.heap.push { cls:=.type "range",data:=.fields #[.int lo t,.int hi u,.int 1 v] },toks:=tk }:=by
 refine wpAny_pyIter_range (IsRange.new ..) (small_one h1 h2 h3 h4) ?_;have I1:Inv X pins σ H { s with heap:=s.heap.push { cls:=.type "range",data:=.fields #[.int lo t,.int hi u,.int 1 v] },toks:=tk }:=I.kept fun b o e=>qAj _ e;refine⟨(s.heap.push { cls:=.type "range",data:=.fields #[.int lo t,.int hi u,.int 1 v] }).objs.size,[(s.heap.push { cls:=.type "range",data:=.fields #[.int lo t,.int hi u,.int 1 v] }).objs.size],_,_,H,rfl,
  I1.kept (t':=tk) fun b o e=>qAj _ e,wC _ lo (hi-lo).toNat,?_,fun b hb=>?_,q⟩
 ·have e1:lo+((0:Nat):Int)*1=lo:=by simp
  have e2:(((hi-lo).toNat:Nat):Int)-((0:Nat):Int)=Builtin.Range.rangeSize lo hi 1:=by rw[rangeSize_one];split <;> lia
  show IsRangeIter _ _ (lo+((0:Nat):Int)*1) ((((hi-lo).toNat:Nat):Int)-((0:Nat):Int)) 1;rw[e1,e2];exact qAt _ rfl
 ·have e:b=(s.heap.push { cls:=.type "range",data:=.fields #[.int lo t,.int hi u,.int 1 v] }).objs.size:=by simpa using hb
  subst e;exact I1.As (qAg _) (I1.cJ.fresh (qAg _))
def LV (ta:TA):TI:=fun σ H R=>ta σ H fun vs H1=>∃j:Int,vs=[.int j]/\-(2^62)<=j/\j<2^62/\R (pU 0 j.toNat) H1
def LW (ta:TA):TI:=fun σ H R=>ta σ H fun vs H1=>∃i j:Int,vs=[.int i,.int j]/\(-(2^62)<=i/\i<2^62/\-(2^62)<=j/\j<2^62)/\R (pU i (j-i).toNat) H1
theorem cB {a:Expr}{ta:TA}{p pos:Pos} (hg:Gl X "range") (hm:X.mg "range"=none) (ha:PA X [a] ta) (hs:qBt [a] X.env=[(false,eval a X.env)]:=by rfl):PI X tg (.Call (.Name "range" p) [a] [] pos) (LV ta):=by
 intro pins s σ H R I h;refine qOa (fI I hg hm boot_range (qCf (cF (ha pos pins s σ H _ I h) fun us s1 ⟨vs,H1,I1,r1,q1⟩=>?_) hs rfl));obtain⟨j,e,q1,q2,q⟩:=q1;subst e;cases r1 with
 | cons r rr =>
  cases rr
  obtain⟨t,rfl⟩:=r;exact call_range_1 (t5 I1 (by lia) (by lia) q1 q2 (by simpa using q))
theorem qA {a b:Expr}{ta:TA}{p pos:Pos} (hg:Gl X "range") (hm:X.mg "range"=none) (ha:PA X [a,b] ta) (hs:qBt [a,b] X.env=[(false,eval a X.env),(false,eval b X.env)]:=by rfl) (hs2:qBt [b] X.env=[(false,eval b X.env)]:=by rfl) :
  PI X tg (.Call (.Name "range" p) [a,b] [] pos) (LW ta):=by
 intro pins s σ H R I h;refine qOa (fI I hg hm boot_range (qCf (cF (ha pos pins s σ H _ I h) fun us s1 ⟨vs,H1,I1,r1,q1⟩=>?_) (by rw[hs,hs2]) (by rw[hs2];rfl)));obtain⟨i,j,e,⟨q1,q2,q3,q4⟩,q⟩:=q1;subst e;cases r1 with
 | cons r rr =>
  cases rr with
  | cons r' rr =>
   cases rr
   obtain⟨t,rfl⟩:=r;obtain⟨t',rfl⟩:=r';exact call_range_2 (t5 I1 q1 q2 q3 q4 q)
def Oa (wi:TI) (g:TG) (tb:TS):TS:=fun D σ H=>wi σ H fun J H1=>∃W:Nat->Nat->St->Hp->Prop,(∃m,W 0 m σ H1)/\∀i m σ H,W i m σ H ->
 (J.stop i H/\D.nx σ H)\/(J.go i H/\∃N:St->Hp->Prop,(∀σ' H',N σ' H'->∃m',m'<m/\W (i+1) m' σ' H')/\∀x H',J.pX i H x H'->g x σ H' fun σ2 H2=>tb { D with nx:=N,ct:=N,bk:=D.nx } σ2 H2)
def mB (fp:List Addr) (h:Heap):List (Addr×Obj):=fp.filterMap fun b=>(h.get? b).map fun o=>(b,o)
theorem fJ {fp:List Addr}{h:Heap}{b:Addr}{o:Obj} (hb:b∈fp) (e:h.get? b=some o):(b,o)∈mB fp h:=List.mem_filterMap.mpr ⟨b,hb,by rw[e];rfl⟩
theorem Av {fp:List Addr}{h:Heap}{p:Addr×Obj} (hp:p∈mB fp h):p.1∈fp/\h.get? p.1=some p.2:=by
 obtain⟨b,hb,e⟩:=List.mem_filterMap.mp hp;cases q:h.get? b with
 | none=>rw[q] at e;cases e
 | some o =>
  rw[q] at e;have e':(b,o)=p:=Option.some.inj e;subst e';exact⟨hb,q⟩
theorem Inv.pinned {pins:List (Addr×Obj)}{σ:St}{H:Hp}{s:qAi}{fp:List Addr} (I:Inv X pins σ H s) (hf:∀b∈fp,i5 X pins H b) (ho:∀b∈fp,∃o,s.heap.get? b=some o/\∀v,o.data≠.cell v):Inv X (pins++mB fp s.heap) σ H s :=
 I.yF fun p hp=>(List.mem_append.mp hp).elim (fun z=>I.pin p (qAx _ z)) fun z=>by
  obtain⟨hb,e⟩:=Av z;obtain⟨f0,f1,f2,_⟩:=hf p.1 hb;obtain⟨o,e',d⟩:=ho p.1 hb;rw[e] at e';cases e';exact⟨e,f0,f1,f2,d⟩
theorem Inv.i6 {pins pl:List (Addr×Obj)}{σ:St}{H:Hp}{s:qAi} (I:Inv X (pins++pl) σ H s):Inv X pins σ H s:=I.yF fun p hp=>I.pin p (qAx _ (qCc _ hp))
theorem cO {iter:Expr}{body:List Stmt}{wi:TI}{g:TG}{tb:TS}{pos:Pos} (hp:PassesOwn (qBz X.prog X.w) X.A X.env X.xe) (hc:X.calm=true) (hi:PI X tg iter wi) (hg:PG X tg g) (hb:tU X body tb)
  (hs:∀x,qFo iter X.env x=pure x:=by intro _;rfl):PS X (.For tg iter body [] pos) (Oa wi g tb):=by
 intro pins s σ H D I h;refine wpAny_For (cF (hi pins s σ H _ I h) fun v s1 h1=>cF h1 fun itv s2 h2=>?_) hs;obtain⟨it,fp,tn,J,H2,e,I2,T,st2,f2,W,⟨m0,w0⟩,turn⟩:=h2;subst e;have stat:∀{H':Hp},(∀b∈fp,H' b=none)->∀b∈fp,i5 X pins H' b:=fun hn b hb=>⟨hn b hb,(f2 b hb).2⟩;refine codeAny_forLoop_any (fun n s'=>∃i σ' H',Inv X pins σ' H' s'/\tn i s'.heap/\(∀b∈fp,H' b=none)/\W i n σ' H') ?_ m0 ⟨0,σ,H2,I2,st2,fun b hb=>(f2 b hb).1,w0⟩;rintro n s3 ⟨i,σ3,H3,I3,st3,fr3,w3⟩;rcases turn i n σ3 H3 w3 with ⟨stop,qn⟩ | ⟨go,N,hN,step⟩
 ·refine qFh hp (cF (T.done X rfl rfl rfl hc i pins s3 σ3 H3 X.xe I3 (stat fr3) st3 stop) fun r s4 ⟨hr,I4⟩=>?_);subst hr;exact qIx ⟨σ3,H3,I4,qn⟩
 ·refine qFh hp (cF (T.item X rfl rfl rfl hc i pins s3 σ3 H3 X.xe I3 (stat fr3) st3 go) fun r s4 ⟨u,hr,h4⟩=>?_);subst hr;refine qFh hp (cF h4 fun _ s5 ⟨x,H5,I5,r5,y5,st5,fr5⟩=>?_);have I5':=I5.pinned (stat fr5) (T.obj _ _ st5);refine qFh hp (cF (hg _ s5 σ3 H5 x u _ I5' r5 (step x H5 y5)) fun _ s6 ⟨σ6,H6,I6,q6⟩=>?_);refine qFh hp (cF (hb _ s6 σ6 H6 _ I6 q6) fun f s7 q7=>?_);have qNg:∀{σ7:St}{H7:Hp},Inv X (pins++mB fp s5.heap) σ7 H7 s7->N σ7 H7->∃m,m<n/\∃i σ' H',Inv X pins σ' H' s7/\tn i s7.heap/\(∀b∈fp,H' b=none)/\W i m σ' H':=fun {σ7 H7} I7 n7=>by
   obtain⟨m',hm,w7⟩:=hN σ7 H7 n7;refine⟨m',hm,i+1,σ7,H7,I7.i6,T.keep _ _ _ st5 fun b hb o e=>(I7.pin (b,o) (qAx _ (qAx _ (fJ hb e)))).1,fun b hb=>?_,w7⟩;obtain⟨o,e,d⟩:=T.obj _ _ st5 b hb;exact(I7.pin (b,o) (qAx _ (qAx _ (fJ hb e)))).2.1
  cases f with
  | next=>obtain⟨σ7,H7,I7,n7⟩:=q7;exact qNg I7 n7
  | cont=>obtain⟨σ7,H7,I7,n7⟩:=q7;exact qNg I7 n7
  | brk=>obtain⟨σ7,H7,I7,q7⟩:=q7;exact⟨σ7,H7,I7.i6,q7⟩
  | ret v=>obtain⟨x7,σ7,H7,I7,r7,q7⟩:=q7;exact⟨x7,σ7,H7,I7.i6,r7,q7⟩
end
theorem dN {K:qAc}{a:Addr}{xs:List V}{g:TG}{tb:TS}{D:Ends}{σ:St}{H:Hp} (Pv:Nat->St->Hp->Prop) (h0:Pv 0 σ H) (hl:∀i σ H,i<=xs.length->Pv i σ H->aR K H a xs)
  (hs:∀i x σ H,xs[i]?=some x->Pv i σ H->g x σ H fun σ2 H2=>tb { D with nx:=Pv (i+1),ct:=Pv (i+1),bk:=D.nx } σ2 H2) (hd:∀σ H,Pv xs.length σ H->D.nx σ H) :
  ∃W:Nat->Nat->St->Hp->Prop,(∃m,W 0 m σ H)/\∀i m σ H,W i m σ H ->
   ((yH K a).stop i H/\D.nx σ H)\/((yH K a).go i H/\∃N:St->Hp->Prop,(∀σ' H',N σ' H'->∃m',m'<m/\W (i+1) m' σ' H')/\∀x H',(yH K a).pX i H x H'->g x σ H' fun σ2 H2=>tb { D with nx:=N,ct:=N,bk:=D.nx } σ2 H2):=by
 refine⟨fun i m σ H=>m=xs.length-i/\i<=xs.length/\Pv i σ H,⟨xs.length,by simp,qBq _,h0⟩,?_⟩;rintro i m σ H ⟨rfl,hi,p⟩;have q:=hl i σ H hi p;by_cases hlt:i<xs.length
 ·refine .inr ⟨⟨xs,xs[i],q,by simp[hlt]⟩,Pv (i+1),fun σ' H' p'=>⟨xs.length-(i+1),by lia,rfl,hlt,p'⟩,fun x H' y=>?_⟩;obtain⟨e,y⟩:=y;subst e;exact hs i x σ _ (y xs q) p
 ·have e:i=xs.length:=by lia
  subst e;exact .inl ⟨⟨xs,q,qAg _⟩,hd σ H p⟩
theorem iB {lo:Int}{n:Nat}{g:TG}{tb:TS}{D:Ends}{σ:St}{H:Hp} (Pv:Nat->St->Hp->Prop) (h0:Pv 0 σ H)
  (hs:∀i σ H,i<n->Pv i σ H->g (.int (lo+i)) σ H fun σ2 H2=>tb { D with nx:=Pv (i+1),ct:=Pv (i+1),bk:=D.nx } σ2 H2) (hd:∀σ H,Pv n σ H->D.nx σ H) :
  ∃W:Nat->Nat->St->Hp->Prop,(∃m,W 0 m σ H)/\∀i m σ H,W i m σ H ->
   ((pU lo n).stop i H/\D.nx σ H)\/((pU lo n).go i H/\∃N:St->Hp->Prop,(∀σ' H',N σ' H'->∃m',m'<m/\W (i+1) m' σ' H')/\∀x H',(pU lo n).pX i H x H'->g x σ H' fun σ2 H2=>tb { D with nx:=N,ct:=N,bk:=D.nx } σ2 H2):=by
 refine⟨fun i m σ H=>m=n-i/\i<=n/\Pv i σ H,⟨n,by simp,qBq _,h0⟩,?_⟩;rintro i m σ H ⟨rfl,hi,p⟩;by_cases hlt:i<n
 ·refine .inr ⟨hlt,Pv (i+1),fun σ' H' p'=>⟨n-(i+1),by lia,rfl,hlt,p'⟩,fun x H' y=>?_⟩;obtain⟨e,y⟩:=y;subst e y;exact hs i σ _ hlt p
 ·have e:i=n:=by lia
  subst e;exact .inl ⟨qAg _,hd σ H p⟩
abbrev R2:=V->V->Hp->VK->Prop
def iN (X:Cx) (f:qAf->qAf->Sem qAf) (r:R2):Prop :=
 ∀(pins:List (Addr×Obj)) (s:qAi) (σ:St) (H:Hp) (x y:V) (v u:qAf) (Q:VK),Inv X pins σ H s->RelV x v->RelV y u->r x y H Q ->
  qBg (qBz X.prog X.w) X.A (f v u) (EP X pins σ Q) X.xe s
def NH (X:Cx) (f:qAf->Sem qAf) (r:V->Hp->VK->Prop):Prop :=
 ∀(pins:List (Addr×Obj)) (s:qAi) (σ:St) (H:Hp) (x:V) (v:qAf) (Q:VK),Inv X pins σ H s->RelV x v->r x H Q ->
  qBg (qBz X.prog X.w) X.A (f v) (EP X pins σ Q) X.xe s
def g5 (X:Cx) (f:qAf) (r:List V->Hp->VK->Prop):Prop :=
 ∀(pins:List (Addr×Obj)) (s:qAi) (σ:St) (H:Hp) (xs:List V) (us:List qAf) (Q:VK),Inv X pins σ H s->Vals xs us->r xs H Q ->
  qBg (qBz X.prog X.w) X.A (call f us) (EP X pins σ Q) X.xe s
def NI (r:R2) (ta tb:TE):TE:=fun σ H Q=>ta σ H fun x H1=>tb σ H1 fun y H2=>r x y H2 Q
def Pm (r:V->Hp->VK->Prop) (ta:TE):TE:=fun σ H Q=>ta σ H fun x H1=>r x H1 Q
def rI (C:Int->Int->Prop) (g:Int->Int->V):R2:=fun x y H Q=>∃i j,x = .int i/\y = .int j/\C i j/\Q (g i j) H
def Eu (g:Int->Int->V):R2:=fun x y H Q=>∃i j,x = .int i/\y = .int j/\Q (g i j) H
def rU (g:Int->V):V->Hp->VK->Prop:=fun x H Q=>∃i,x = .int i/\Q (g i) H
section
variable {X:Cx}{a b c:Expr}{ta tb tc:TE}{pos:Pos}
theorem HJ (ha:PE X a ta) (hb:PE X b tb){pins:List (Addr×Obj)}{s:qAi}{σ:St}{H:Hp}{R:V->V->Hp->Prop} (I:Inv X pins σ H s)
  (h:ta σ H fun x H1=>tb σ H1 fun y H2=>R x y H2){Q:qAf->qAi->Prop}{f:qAf->qAf->Sem qAf}
  (hf:∀v u s2 x y H2,Inv X pins σ H2 s2->RelV x v->RelV y u->R x y H2->qBg (qBz X.prog X.w) X.A (f v u) Q X.xe s2) :
  qBg (qBz X.prog X.w) X.A (eval a X.env) (fun v s₁=>qBg (qBz X.prog X.w) X.A (eval b X.env) (fun u s₂=>qBg (qBz X.prog X.w) X.A (f v u) Q X.xe s₂) X.xe s₁) X.xe s:=by
 refine cF (ha pins s σ H _ I h) fun v s1 ⟨x,H1,I1,r1,q1⟩=>?_;refine cF (hb pins s1 σ H1 _ I1 q1) fun u s2 ⟨y,H2,I2,r2,q2⟩=>?_;exact hf v u s2 x y H2 I2 r1 r2 q2
theorem aS {op:Operator}{r:R2} (ho:iN X (qFw op) r) (ha:PE X a ta) (hb:PE X b tb):PE X (.BinOp a op b pos) (NI r ta tb):=by
 intro pins s σ H Q I h;exact wpAny_BinOp (HJ ha hb I h fun v u s2 x y H2 I2 rx ry q=>ho pins s2 σ H2 x y v u Q I2 rx ry q)
theorem iU {op:UnaryOp}{r:V->Hp->VK->Prop} (ho:NH X (unaryOp op) r) (ha:PE X a ta):PE X (.UnaryOp op a pos) (Pm r ta):=by
 intro pins s σ H Q I h;exact UnaryOp_ (cF (ha pins s σ H _ I h) fun v s1 ⟨x,H1,I1,r1,q1⟩=>ho pins s1 σ H1 x v Q I1 r1 q1)
theorem HK {f:qAf->qAf->Sem qAf}{C:Int->Int->Prop}{g:Int->Int->Int}
  (rule:∀(i j:Int) (t u:Tok) (s:qAi) (Q:qAf->qAi->Prop) (E:qAf->qAi->Prop),C i j->Q (.int (g i j) s.toks) { s with toks:=s.toks+1 }->qBg (qBz X.prog X.w) X.A (f (.int i t) (.int j u)) Q E s) :
  iN X f (rI C fun i j=>.int (g i j)):=by
 intro pins s σ H x y v u Q I rx ry h;obtain⟨i,j,rfl,rfl,hc,q⟩:=h;obtain⟨t,rfl⟩:=rx;obtain⟨t',rfl⟩:=ry;exact rule i j t t' s _ _ hc ⟨.int (g i j),H,I.tok _,⟨_,rfl⟩,q⟩
theorem HL {f:qAf->qAf->Sem qAf}{g:Int->Int->Int}
  (rule:∀(i j:Int) (t u:Tok) (s:qAi) (Q:qAf->qAi->Prop) (E:qAf->qAi->Prop),Q (.int (g i j) s.toks) { s with toks:=s.toks+1 }->qBg (qBz X.prog X.w) X.A (f (.int i t) (.int j u)) Q E s) :
  iN X f (Eu fun i j=>.int (g i j)):=by
 intro pins s σ H x y v u Q I rx ry h;obtain⟨i,j,rfl,rfl,q⟩:=h;obtain⟨t,rfl⟩:=rx;obtain⟨t',rfl⟩:=ry;exact rule i j t t' s _ _ ⟨.int (g i j),H,I.tok _,⟨_,rfl⟩,q⟩
theorem Ew {f:qAf->qAf->Sem qAf}{g:Int->Int->Bool}
  (rule:∀(i j:Int) (t u:Tok) (s:qAi) (Q:qAf->qAi->Prop) (E:qAf->qAi->Prop),Q (.bool (g i j)) s->qBg (qBz X.prog X.w) X.A (f (.int i t) (.int j u)) Q E s) :
  iN X f (Eu fun i j=>.bl (g i j)):=by
 intro pins s σ H x y v u Q I rx ry h;obtain⟨i,j,rfl,rfl,q⟩:=h;obtain⟨t,rfl⟩:=rx;obtain⟨t',rfl⟩:=ry;exact rule i j t t' s _ _ ⟨.bl (g i j),H,I,rfl,q⟩
def Ob (i j:Int):Prop:=0<j/\j<1073741824
def Oc (i j:Int):Prop:=0<=j/\j<=1000000/\i.natAbs<2^64
def BC (i j:Int):Prop:=(-(2^64)<i/\i<2^64)\/(-(2^64)<j/\j<2^64)
theorem BC.ok {i j:Int} (h:BC i j):IntMulOk i j:=by
 rcases h with ⟨h1,h2⟩ | ⟨h1,h2⟩
 ·exact .of_left (intBits_le_64 h1 h2)
 ·exact .of_right (intBits_le_64 h1 h2)
theorem wD (k:Nat):(0:Int)<=2^k:=by
 rw[two_pow_cast];exact Int.natCast_nonneg _
theorem i7:iN X (qFw .Add) (Eu fun i j=>.int (i+j)):=HL fun _ _ _ _ _ _ _ q=>add_int q
theorem eX:iN X (qFw .Sub) (Eu fun i j=>.int (i-j)):=HL fun _ _ _ _ _ _ _ q=>sub_int q
theorem rR:iN X (qFw .Mult) (rI BC fun i j=>.int (i*j)):=HK fun _ _ _ _ _ _ _ hc q=>mul_int q hc.ok
theorem nL:iN X (qFw .FloorDiv) (rI Ob fun i j=>.int (i/j)):=HK fun i j _ _ _ _ _ hc q=>by
 have h1:(0:Int)<j:=hc.1;have h2:j<1073741824:=hc.2;exact floordiv_int (by lia) (by rw[qFg i (by lia)];exact q) (.inl (PyProof.noPylong_small (by lia)))
theorem iO:iN X (qFw .Mod) (rI (fun _ j=>0<j) fun i j=>.int (i%j)):=HK fun i j _ _ _ _ _ hc q=>by
 have h1:(0:Int)<j:=hc;exact mod_int' (by lia) (by rw[Int.fmod_eq_emod_of_nonneg i (by lia)];exact q)
theorem BD:iN X (qFw .Pow) (rI Oc fun i j=>.int (i^j.toNat)):=HK fun _ _ _ _ _ _ _ hc q=>pow_int_small hc.1 hc.2.1 hc.2.2 q
theorem wF:iN X (qFw .RShift) (rI (fun _ j=>0<=j) fun i j=>.int (i/2^j.toNat)):=HK fun i j _ _ _ _ _ hc q =>
 rshift_int hc (by rw[qFg i (wD _)];exact q)
theorem oC:iN X (qFw .BitAnd) (Eu fun i j=>.int (qDi i j)):=HL fun _ _ _ _ _ _ _ q=>and_int q
theorem Pn {f:qAf->Sem qAf}{g:Int->Int}
  (rule:∀(i:Int) (t:Tok) (s:qAi) (Q:qAf->qAi->Prop) (E:qAf->qAi->Prop),Q (.int (g i) s.toks) { s with toks:=s.toks+1 }->qBg (qBz X.prog X.w) X.A (f (.int i t)) Q E s) :
  NH X f (rU fun i=>.int (g i)):=by
 intro pins s σ H x v Q I rx h;obtain⟨i,rfl,q⟩:=h;obtain⟨t,rfl⟩:=rx;exact rule i t s _ _ ⟨.int (g i),H,I.tok _,⟨_,rfl⟩,q⟩
theorem fT:NH X (unaryOp .USub) (rU fun i=>.int (-i)):=Pn fun _ _ _ _ _ q=>neg_int q
end
def LX:V->V->Bool
 | .non,.non=>true | .non,.int _=>true | .int _,.non=>true | .non,.bl _=>true | .bl _,.non=>true | .non,.str _=>true | .str _,.non=>true
 | .int _,.int _=>true | .bl _,.bl _=>true | .str _,.str _=>true | .byt _,.byt _=>true
 | .int _,.str _=>true | .str _,.int _=>true | .bl _,.str _=>true | .str _,.bl _=>true
 | _,_=>false
def Po:R2:=fun x y H Q=>LX x y=true/\Q (.bl (decide (x=y))) H
def Pp:R2:=fun x y H Q=>LX x y=true/\Q (.bl (!decide (x=y))) H
theorem yI {i j:Int}:decide (V.int i=V.int j)=(i == j):=by
 rw[qGv];simp
theorem BE {i j:Bool}:decide (V.bl i=V.bl j)=(i == j):=by
 rw[qGv];simp
theorem yJ {i j:Str}:decide (V.str i=V.str j)=(i == j):=by
 rw[qGv];simp
theorem yK {i j:Array UInt8}:decide (V.byt i=V.byt j)=(i.toList == j.toList):=by
 rw[qGv];cases i;cases j;simp
section
variable {X:Cx}{a b c:Expr}{ta tb tc:TE}{pos:Pos}
theorem bY {pins:List (Addr×Obj)}{σ:St}{H:Hp}{s:qAi}{Q:VK}{k k':Bool} (I:Inv X pins σ H s) (q:Q (.bl k) H) (e:k=k'):EP X pins σ Q (.bool k') s:=by
 subst e;exact⟨.bl k,H,I,rfl,q⟩
theorem g6:iN X (qDw .Eq) Po:=by
 intro pins s σ H x y v u Q I rx ry h;obtain⟨hs,q⟩:=h;cases x with
 | non =>
  cases rx
  cases y with
  | non=>cases ry;exact PySem.EqNone.eq_none_none (bY I q (by simp))
  | bl j=>cases ry;exact PySem.EqNone.eq_none_bool (bY I q (by simp))
  | int j=>obtain⟨t',rfl⟩:=ry;exact PySem.EqNone.eq_none_int (bY I q (by simp))
  | str j=>obtain⟨t',rfl⟩:=ry;exact PySem.EqNone.eq_none_str (bY I q (by simp))
  | _=>exact absurd (show false=true from hs) qAp
 | bl i =>
  cases rx
  cases y with
  | non=>cases ry;exact PySem.EqNone.eq_bool_none (bY I q (by simp))
  | bl j=>cases ry;exact eq_bool (bY I q BE)
  | str j=>obtain⟨t',rfl⟩:=ry;exact PySem.EqMixed.eq_bool_str (bY I q (by simp))
  | _=>exact absurd (show false=true from hs) qAp
 | int i =>
  obtain⟨t,rfl⟩:=rx;cases y with
  | non=>cases ry;exact PySem.EqNone.eq_int_none (bY I q (by simp))
  | int j=>obtain⟨t',rfl⟩:=ry;exact eq_int (bY I q yI)
  | str j=>obtain⟨t',rfl⟩:=ry;exact PySem.EqMixed.eq_int_str (bY I q (by simp))
  | _=>exact absurd (show false=true from hs) qAp
 | str i =>
  obtain⟨t,rfl⟩:=rx;cases y with
  | non=>cases ry;exact PySem.EqNone.eq_str_none (bY I q (by simp))
  | bl j=>cases ry;exact PySem.EqMixed.eq_str_bool (bY I q (by simp))
  | int j=>obtain⟨t',rfl⟩:=ry;exact PySem.EqMixed.eq_str_int (bY I q (by simp))
  | str j=>obtain⟨t',rfl⟩:=ry;exact eq_str (bY I q yJ)
  | _=>exact absurd (show false=true from hs) qAp
 | byt i =>
  obtain⟨t,rfl⟩:=rx;cases y with
  | byt j=>obtain⟨t',rfl⟩:=ry;exact PySem.W.eq_bytes (bY I q yK)
  | _=>exact absurd (show false=true from hs) qAp
 | _=>cases y <;> exact absurd (show false=true from hs) qAp
theorem eO:iN X (qDw .NotEq) Pp:=by
 intro pins s σ H x y v u Q I rx ry h;obtain⟨hs,q⟩:=h;cases x with
 | non =>
  cases rx
  cases y with
  | non=>cases ry;exact PySem.EqNone.ne_none_none (bY I q (by simp))
  | bl j=>cases ry;exact PySem.EqNone.ne_none_bool (bY I q (by simp))
  | int j=>obtain⟨t',rfl⟩:=ry;exact PySem.EqNone.ne_none_int (bY I q (by simp))
  | str j=>obtain⟨t',rfl⟩:=ry;exact PySem.EqNone.ne_none_str (bY I q (by simp))
  | _=>exact absurd (show false=true from hs) qAp
 | bl i =>
  cases rx
  cases y with
  | non=>cases ry;exact PySem.EqNone.ne_bool_none (bY I q (by simp))
  | bl j=>cases ry;exact ne_bool (bY I q (congrArg not BE))
  | str j=>obtain⟨t',rfl⟩:=ry;exact PySem.EqMixed.ne_bool_str (bY I q (by simp))
  | _=>exact absurd (show false=true from hs) qAp
 | int i =>
  obtain⟨t,rfl⟩:=rx;cases y with
  | non=>cases ry;exact PySem.EqNone.ne_int_none (bY I q (by simp))
  | int j=>obtain⟨t',rfl⟩:=ry;exact ne_int (bY I q (congrArg not yI))
  | str j=>obtain⟨t',rfl⟩:=ry;exact PySem.EqMixed.ne_int_str (bY I q (by simp))
  | _=>exact absurd (show false=true from hs) qAp
 | str i =>
  obtain⟨t,rfl⟩:=rx;cases y with
  | non=>cases ry;exact PySem.EqNone.ne_str_none (bY I q (by simp))
  | bl j=>cases ry;exact PySem.EqMixed.ne_str_bool (bY I q (by simp))
  | int j=>obtain⟨t',rfl⟩:=ry;exact PySem.EqMixed.ne_str_int (bY I q (by simp))
  | str j=>obtain⟨t',rfl⟩:=ry;exact ne_str (bY I q (congrArg not yJ))
  | _=>exact absurd (show false=true from hs) qAp
 | byt i =>
  obtain⟨t,rfl⟩:=rx;cases y with
  | byt j=>obtain⟨t',rfl⟩:=ry;exact PySem.W.ne_bytes (bY I q (congrArg not yK))
  | _=>exact absurd (show false=true from hs) qAp
 | _=>cases y <;> exact absurd (show false=true from hs) qAp
theorem i8:iN X (qDw .Lt) (Eu fun i j=>.bl (decide (i<j))):=Ew fun _ _ _ _ _ _ _ q=>lt_int q
theorem t6:iN X (qDw .LtE) (Eu fun i j=>.bl (decide (i<=j))):=Ew fun _ _ _ _ _ _ _ q=>le_int q
theorem t7:iN X (qDw .Gt) (Eu fun i j=>.bl (decide (j<i))):=Ew fun _ _ _ _ _ _ _ q=>gt_int q
theorem BF:iN X (qDw .GtE) (Eu fun i j=>.bl (decide (j<=i))):=Ew fun _ _ _ _ _ _ _ q=>ge_int q
theorem rS:iN X (qDw .Is) (fun x y H Q=>y = .non/\Q (.bl (decide (x = .non))) H):=by
 intro pins s σ H x y v u Q I rx ry h;obtain⟨rfl,q⟩:=h;cases ry;refine is_none_gen (bY I q ?_);cases x <;> first
  | (cases rx;rfl)
  | (obtain⟨t,rfl⟩:=rx;rfl)
theorem yL:iN X (qDw .IsNot) (fun x y H Q=>y = .non/\Q (.bl (!decide (x = .non))) H):=by
 intro pins s σ H x y v u Q I rx ry h;obtain⟨rfl,q⟩:=h;cases ry;refine isnot_none_gen (bY I q ?_);cases x <;> first
  | (cases rx;rfl)
  | (obtain⟨t,rfl⟩:=rx;rfl)
theorem aW (b:Expr){op:CmpOp} (h:op≠.In:=by decide) (h2:op≠.NotIn:=by decide):qKi op b=false:=by
 have e1:(op == CmpOp.In)=false:=by cases op <;> first | rfl | exact absurd rfl h
 have e2:(op == CmpOp.NotIn)=false:=by cases op <;> first | rfl | exact absurd rfl h2
 cases b <;> simp[qKi,e1,e2]
theorem eB {op:CmpOp}{r:R2} (ho:iN X (qDw op) r) (ha:PE X a ta) (hb:PE X b tb) (hm:qKi op b=false):PE X (.Compare a [op] [b] pos) (NI r ta tb):=by
 intro pins s σ H Q I h;exact wpAny_Compare1 (HJ ha hb I h fun v u s2 x y H2 I2 rx ry q=>ho pins s2 σ H2 x y v u Q I2 rx ry q) hm
def Gf (t:TE):TT:=fun σ H Q=>t σ H fun x H'=>∃k,x = .bl k/\Q k H'
theorem aV {op:CmpOp}{r:R2} (ho:iN X (qDw op) r) (ha:PE X a ta) (hb:PE X b tb) (hm:qKi op b=false):PT X (.Compare a [op] [b] pos) (Gf (NI r ta tb)):=by
 intro pins s σ H Q I h;refine wpAny_isTrue_Compare1 (cF (ha pins s σ H _ I h) fun v s1 ⟨x,H1,I1,r1,q1⟩=>cF (hb pins s1 σ H1 _ I1 q1) fun u s2 ⟨y,H2,I2,r2,q2⟩ =>
  cF (ho pins s2 σ H2 x y v u _ I2 r1 r2 q2) fun c s3 ⟨z,H3,I3,r3,k,e,q3⟩=>?_) hm
 subst e;cases r3;exact qDr ⟨H3,I3,q3⟩
def BG (r r':R2) (ta tb tc:TE):TE:=fun σ H Q=>ta σ H fun x H1=>tb σ H1 fun y H2=>r x y H2 fun z H3=>∃k,z = .bl k /\
 (if k=true then tc σ H3 fun w' H4=>r' y w' H4 Q else Q (.bl false) H3)
theorem BH {op op':CmpOp}{r r':R2} (ho:iN X (qDw op) r) (ho':iN X (qDw op') r') (ha:PE X a ta) (hb:PE X b tb) (hc:PE X c tc)
  (hm:lastMarks [op,op'] [b,c]=false:=by with_unfolding_all rfl):PE X (.Compare a [op,op'] [b,c] pos) (BG r r' ta tb tc):=by
 intro pins s σ H Q I h;refine Compare_chain (cF (ha pins s σ H _ I h) fun v s1 ⟨x,H1,I1,r1,q1⟩=>chain_link (cF (hb pins s1 σ H1 _ I1 q1) fun u s2 ⟨y,H2,I2,r2,q2⟩ =>
  cF (ho pins s2 σ H2 x y v u _ I2 r1 r2 q2) fun d s3 ⟨z,H3,I3,r3,k,e,q3⟩=>?_)) hm
 subst e;cases r3;refine qDr ?_;cases k with
 | false=>exact ite_ff ⟨.bl false,H3,I3,rfl,q3⟩
 | true=>exact ite_tt (chain_last (cF (hc pins s3 σ H3 _ I3 q3) fun w' s4 ⟨z',H4,I4,r4,q4⟩=>ho' pins s4 σ H4 y z' u w' Q I4 r2 r4 q4))
theorem BI {op op':CmpOp}{r r':R2} (ho:iN X (qDw op) r) (ho':iN X (qDw op') r') (ha:PE X a ta) (hb:PE X b tb) (hc:PE X c tc)
  (hm:lastMarks [op,op'] [b,c]=false:=by with_unfolding_all rfl):PT X (.Compare a [op,op'] [b,c] pos) (Gf (BG r r' ta tb tc)):=by
 intro pins s σ H Q I h;refine isTrue_chain (cF (ha pins s σ H _ I h) fun v s1 ⟨x,H1,I1,r1,q1⟩=>test_link (cF (hb pins s1 σ H1 _ I1 q1) fun u s2 ⟨y,H2,I2,r2,q2⟩ =>
  cF (ho pins s2 σ H2 x y v u _ I2 r1 r2 q2) fun d s3 ⟨z,H3,I3,r3,k,e,q3⟩=>?_)) hm
 subst e;cases r3;refine qDr ?_;cases k with
 | false =>
  obtain⟨k',e',q'⟩:=q3;cases e';exact ite_ff ⟨H3,I3,q'⟩
 | true =>
  refine ite_tt (test_last (cF (hc pins s3 σ H3 _ I3 q3) fun w' s4 ⟨z',H4,I4,r4,q4⟩=>cF (ho' pins s4 σ H4 y z' u w' _ I4 r2 r4 q4) fun d' s5 ⟨z2,H5,I5,r5,k2,e2,q5⟩=>?_));subst e2;cases r5;exact qDr ⟨H5,I5,q5⟩
theorem rT:(qAh:Nat)<2^63:=by rw[qCa];decide
theorem vals1 {x:V}{us:List qAf} (r:Vals [x] us):∃u,us=[u]/\RelV x u:=by
 cases r with
 | cons r1 r2=>cases r2;exact⟨_,rfl,r1⟩
theorem vals2 {x y:V}{us:List qAf} (r:Vals [x,y] us):∃u w',us=[u,w']/\RelV x u/\RelV y w':=by
 cases r with
 | cons r1 r2 =>
  cases r2 with
  | cons r3 r4=>cases r4;exact⟨_,_,rfl,r1,r3⟩
theorem oE:g5 X (.builtin "abs") (fun xs H Q=>∃i,xs=[.int i]/\Q (.int (if i<0 then -i else i)) H):=by
 intro pins s σ H xs us Q I r h;obtain⟨i,rfl,q⟩:=h;obtain⟨u,rfl,t,rfl⟩:=vals1 r;exact call_abs_int fun u tk=>⟨.int (if i<0 then -i else i),H,I.tok _,⟨_,rfl⟩,q⟩
theorem Aw:g5 X (.type "int") (fun xs H Q=>(∃i,xs=[.int i]/\Q (.int i) H)\/∃k,xs=[.bl k]/\Q (.int (if k then 1 else 0)) H):=by
 intro pins s σ H xs us Q I r h;rcases h with ⟨i,rfl,q⟩ | ⟨k,rfl,q⟩
 ·obtain⟨u,rfl,t,rfl⟩:=vals1 r;exact call_int_int ⟨.int i,H,I,⟨_,rfl⟩,q⟩
 ·obtain⟨u,rfl,r1⟩:=vals1 r;cases r1;exact call_int_bool ⟨.int (if k then 1 else 0),H,I.tok _,⟨_,rfl⟩,q⟩
end
structure wG (h:Heap) (x dx C:Addr) (mA:Str->Option qAf):Prop where
 obj:h.get? x=some (qEh C dx)
 ns:h.Ns1 dx mA
 ne:dx≠x
theorem Ax {h:Heap}{dx:Addr}{mA:Str->Option qAf} (n:h.Ns1 dx mA):∃od,h.get? dx=some od/\∀name,qId name od=some (mA name):=by
 obtain⟨o,es,ep,ho,hd,hk,_,hm⟩:=n;refine⟨o,ho,fun name=>?_⟩;have e:=hm name;unfold nsFind findBy at e;rw[<- Array.find?_toList] at e;unfold qId;rw[hd];dsimp only;split
 ·rename_i y q;rw[q] at e;exact congrArg some e
 ·rename_i q;rw[q] at e;have a:es.toList.any (·.refKey)=false:=by
   rw[List.any_eq_false];intro y hy;obtain⟨z,t,hkey⟩:=hk y (Array.mem_toList_iff.mp hy);simp[DictEntry.refKey,hkey]
  have a':¬es.toList.any (·.refKey)=true:=by rw[a];exact qAp
  rw[if_neg a'];exact congrArg some e
theorem wG.look {h:Heap}{x dx C:Addr}{mA:Str->Option qAf} (I:wG h x dx C mA):∃od,PySem.W.InstAt h x (qEh C dx) C (some od)/\∀name,qId name od=some (mA name) :=
 let ⟨od,ho,hl⟩:=Ax I.ns
 ⟨od,⟨I.obj,rfl,rfl,ho⟩,hl⟩
section
variable {prog:qBm}{w:qCy}{A:qCt}{E:qAf->qAi->Prop}{s:qAi}{K:qAc}{x dx C f:Addr}{mA:Str->Option qAf}{name:Str}{v:qAf}
theorem get_map {expr:Bool}{Q:qAf->qAi->Prop} (X:K.In s.heap) (I:wG s.heap x dx C mA) (hg:qGe K C name=true) (hh:qHe K C=true)
  (ha:qBe K (.ref C) name=some none) (hv:mA name=some v) (hv':qMk v=true) (h:Q v { s with toks:=s.toks+1 }) :
  qBg (qBz prog w) A (getAttr (.ref x) name expr) Q E s:=by
 obtain⟨od,J,hl⟩:=I.look;exact PySem.W.get_value X J (qIf hg).1 (PySem.W.findObj_own hh ha rfl (by rw[hl,hv])) hv' h
theorem BJ {pl:Sem Bool}{Q:qAf×List qAf->qAi->Prop} (X:K.In s.heap) (I:wG s.heap x dx C mA) (hg:qGe K C name=true)
  (hf:qBe K (.ref C) name=some (some (.ref f))) (ht:qEx K (.ref f)=true) (hv:mA name=none) (h:Q (.ref f,[.ref x]) s) :
  qBg (qBz prog w) A (getMethod (.ref x) name pl) Q E s:=by
 obtain⟨od,J,hl⟩:=I.look;exact PySem.W.method_fn X J (qIf hg).1 (qIf hg).2 hf (beq_iff_eq.mp ht) (by show(qId name od).map (·.isSome)=some false;rw[hl,hv];rfl) h
theorem Ey {ns:List Str}{Q:Unit->qAi->Prop} (X:K.In s.heap) (I:wG s.heap x dx C mA)
  (hs:qBe K (.ref C) "__setattr__"=some (some (.builtin "object.__setattr__"))) (hp:qIu K C=true) (ht:qJm K C name=some none) (hh:qHe K C=true)
  (hw:PySem.Within mA ns) (hsz:ns.length<=qAh)
  (h:∀h',wG h' x dx C (fun y=>if y=name then some v else mA y)->qFc dx s.heap h'->Q () { s with heap:=h',toks:=s.toks+2 }) :
  qBg (qBz prog w) A (setAttr (.ref x) name v) Q E s:=by
 obtain⟨od,J,hl⟩:=I.look;refine PySem.W.set_plain X J hs (PySem.W.osa_open (s:={ s with toks:=s.toks+1 }) (r:=none) X J hp ht fun b=>?_);obtain⟨cd,hc,hd'⟩:=PySem.W.any_some hh;have hx:s.heap.get? x=some ⟨.ref C,some dx,.plain,#[]⟩:=I.obj;refine qAa (qAe (qAa (qAa (wpAny_loadPart hx (qAa (PySem.W.Looks.here (s:={ s with toks:=s.toks+1 }) (PySem.W.looks_clsIn X hc) ?_))))));rw[hd'];refine qAe (a:=some dx) (qAa (qAe (qAa ?_)));refine wpAny_nsSet1 (s:={ s with toks:=s.toks+1 }) I.ns fun h' hn2 hs2=>?_;obtain⟨oD,esD,epD,hoD,hdD,hcD⟩:=hn2.count (PySem.Within.cons name v hw);refine qAa (wpAny_lookBehind hoD (by rw[hdD];exact pastItsLine_dict (qCu hcD (by rw[qCh];lia))) ?_);exact qAe (h _ ⟨(hs2.2 _ (Ne.symm I.ne)).trans I.obj,hn2,I.ne⟩ hs2)
theorem BK {R:qPa->qAi->Prop}{vs:List qAf}{kw:List (Str×qAf)} (X:K.In s.heap) (hm:qJn K C=true)
  (hi:qBe K (.ref C) "__init__"=some (some (.ref f))) (hf:qIc K (.ref f)=some (.type "function"))
  (h:qHn (qBz prog w) (A.under (.builtin "type.__call__" ⟨.ref C::vs,kw⟩)) (.call (.ref f) ⟨.ref (s.heap.objs.size+1)::vs,kw⟩) (PySem.W.InitBack (s.heap.objs.size+1) R)
   { s with heap:=(s.heap.push qDo).push (qEh C s.heap.objs.size) }) :
  qHn (qBz prog w) A (.call (.ref C) ⟨vs,kw⟩) R s:=by
 obtain⟨hh,g,d,t,os⟩:=s;exact PySem.W.make_core (PySem.W.makes_of X hm) (qGi X hi) (fun self=>PySem.W.bind_fn X self hf) (.inl rfl) h
end
def dF (f:Str) (v:V):List (Str×V)->List (Str×V)
 | []=>[(f,v)]
 | (g,x)::r=>if g=f then (g,v)::r else (g,x)::dF f v r
theorem mS (f g:Str) (v:V):∀fs:List (Str×V),(dF f v fs).lookup g=if g=f then some v else fs.lookup g
 | []=>by
  show qGt g [(f,v)]=_;by_cases h:g=f
  ·have hb:(g == f)=true:=beq_iff_eq.mpr h;simp only[qGt,hb,if_pos h]
  ·have hb:(g == f)=false:=beq_eq_false_iff_ne.mpr h;simp only[qGt,hb,if_neg h]
 | (k,x)::r=>by
  have ih:=mS f g v r;rw[show dF f v ((k,x)::r)=(if k=f then (k,v)::r else (k,x)::dF f v r) from rfl];by_cases hk:k=f
  ·rw[if_pos hk];by_cases h:g=k
   ·have hb:(g == k)=true:=beq_iff_eq.mpr h;simp only[qGt,hb,if_pos (h.trans hk)]
   ·have hb:(g == k)=false:=beq_eq_false_iff_ne.mpr h;simp only[qGt,hb,if_neg (fun e:g=f=>h (e.trans hk.symm))]
  ·rw[if_neg hk];by_cases h:g=k
   ·have hb:(g == k)=true:=beq_iff_eq.mpr h;simp only[qGt,hb,if_neg (fun e:g=f=>hk (h.symm.trans e))]
   ·have hb:(g == k)=false:=beq_eq_false_iff_ne.mpr h;simp only[qGt,hb];exact ih
theorem mC (f:Str) (v:V):∀fs:List (Str×V),f∈(dF f v fs).map (·.1)/\∀g,g∈fs.map (·.1)->g∈(dF f v fs).map (·.1)
 | []=>⟨by simp[dF],fun g h=>by simp at h⟩
 | (k,x)::r=>by
  obtain⟨i1,i2⟩:=mC f v r;rw[show dF f v ((k,x)::r)=(if k=f then (k,v)::r else (k,x)::dF f v r) from rfl];by_cases hk:k=f
  ·rw[if_pos hk];subst hk;exact⟨by simp,fun g h=>by simpa using h⟩
  ·rw[if_neg hk];refine⟨?_,fun g h=>?_⟩
   ·rw[qDb];exact qBx _ i1
   ·rw[qDb] at h|-;rcases List.mem_cons.mp h with e | e
    ·exact List.mem_cons.mpr (.inl e)
    ·exact qBx _ (i2 g e)
theorem mT (f:Str) (v:V):∀fs:List (Str×V),(dF f v fs).length<=fs.length+1
 | []=>by simp[dF]
 | (k,x)::r=>by
  have ih:=mT f v r;rw[show dF f v ((k,x)::r)=(if k=f then (k,v)::r else (k,x)::dF f v r) from rfl];by_cases hk:k=f
  ·rw[if_pos hk,qCh,qCh];lia
  ·rw[if_neg hk,qCh,qCh];lia
theorem jY.some_of {v:V}{o:Option qAf} (r:jY (some v) o):∃u,o=some u/\RelV v u:=by
 cases o with
 | none=>exact(show False from r).elim
 | some u=>exact⟨u,rfl,r⟩
theorem jY.none_of {o:Option qAf} (r:jY none o):o=none:=by
 cases o with
 | none=>rfl
 | some u=>exact(show False from r).elim
theorem Ay {v:V}{u:qAf} (r:RelV v u):qMk u=true:=by
 cases v with
 | non=>cases (show u=Value.none from r);rfl
 | bl b=>cases (show u=Value.bool b from r);rfl
 | int i=>obtain⟨t,e⟩:=(show ∃t,u=Value.int i t from r);cases e;rfl
 | str x=>obtain⟨t,e⟩:=(show ∃t,u=Value.str x t from r);cases e;rfl
 | byt b=>obtain⟨t,e⟩:=(show ∃t,u=Value.bytes b t from r);cases e;rfl
 | flt b=>obtain⟨t,e⟩:=(show ∃t,u=Value.float b t from r);cases e;rfl
 | ref a=>cases (show u=Value.ref a from r);rfl
 | ty n=>cases (show u=Value.type n from r);rfl
section
variable {P:qBm}{w:qCy}{H H':Hp}{h h':Heap}{a C dx:Addr}{fs fs':List (Str×V)}
theorem nM (cJ:j6 P w H h) (e:H a=some (.ins C dx fs)):∃mA,wG h a dx C mA/\(∀f,jY (fs.lookup f) (mA f))/\PySem.Within mA (fs.map (·.1))/\fs.length<=1000/\H dx=some (.own a):=by
 obtain⟨d,z,ne,ob,mA,n,r,q⟩:=(show cS P w H h a (.ins C dx fs) from cJ a _ e);exact⟨mA,⟨ob,n,ne⟩,r,q,z,d⟩
end
structure Ek (K:qAc) (C:Addr):Prop where
 pg:qGe K C Str.empty=true
 hd:qHe K C=true
 po:qIu K C=true
 sa:qBe K (.ref C) "__setattr__"=some (some (.builtin "object.__setattr__"))
theorem Ek.get {K:qAc}{C:Addr} (c:Ek K C) (f:Str):qGe K C f=true:=c.pg
def hJ (K:qAc) (C:Addr) (f:Str):Prop:=qBe K (.ref C) f=some none
theorem hJ.LY {K:qAc}{C:Addr}{f:Str} (n:hJ K C f):qJm K C f=some none:=by
 unfold qJm;rw[show qBe K (.ref C) f=some none from n];rfl
structure Meth (K:qAc) (C:Addr) (m:Str) (f:Addr):Prop where
 at_:qBe K (.ref C) m=some (some (.ref f))
 fn:qEx K (.ref f)=true
 kp:qCv K (.ref f)=true
section
variable {X:Cx}{pins:List (Addr×Obj)}{σ:St}{H:Hp}{s:qAi}{a C dx:Addr}{fs:List (Str×V)}{f:Str}{v:V}{A:qCt}{E:qAf->qAi->Prop}
theorem wH {b:Bool}{Q:qAf->qAi->Prop} (I:Inv X pins σ H s) (e:H a=some (.ins C dx fs)) (c:Ek X.K C) (n:hJ X.K C f) (l:fs.lookup f=some v)
  (h:∀u s',Inv X pins σ H s'->RelV v u->Q u s'):qBg (qBz X.prog X.w) A (getAttr (.ref a) f b) Q E s:=by
 obtain⟨mA,O,r,_,_,_⟩:=nM I.cJ e;obtain⟨u,hu,ru⟩:=jY.some_of (v:=v) (o:=mA f) (by rw[<- l];exact r f);exact get_map I.wB O (c.get f) c.hd n hu (Ay ru) (h u _ (I.tok _) ru)
theorem wI {m:Str}{g:Addr}{pl:Sem Bool}{Q:qAf×List qAf->qAi->Prop} (I:Inv X pins σ H s) (e:H a=some (.ins C dx fs)) (c:Ek X.K C) (k:Meth X.K C m g) (l:fs.lookup m=none)
  (h:Q (.ref g,[.ref a]) s):qBg (qBz X.prog X.w) A (getMethod (.ref a) m pl) Q E s:=by
 obtain⟨mA,O,r,_,_,_⟩:=nM I.cJ e;have hn:mA m=none:=jY.none_of (by rw[<- l];exact r m);exact BJ I.wB O (c.get m) k.at_ k.fn hn h
theorem wJ {y:V}{u:qAf}{Q:Unit->qAi->Prop} (I:Inv X pins σ H s) (e:H a=some (.ins C dx fs)) (c:Ek X.K C) (n:hJ X.K C f) (hl:fs.length<1000) (ry:RelV y u)
  (h:∀s',Inv X pins σ (upd H a (.ins C dx (dF f y fs))) s'->Q () s'):qBg (qBz X.prog X.w) A (setAttr (.ref a) f u) Q E s:=by
 obtain⟨mA,O,r,wi,_,ho⟩:=nM I.cJ e;have hz:(fs.map (·.1)).length<=qAh:=by rw[qAb,qCa];lia
 refine Ey I.wB O c.sa c.po n.LY c.hd wi hz fun h' O' sb=>h _ ?_;have hd:∃o,h'.get? dx=some o:=let ⟨o,_,_,e',_⟩:=O'.ns;⟨o,e'⟩;refine I.write (x:=a) (e:=dx) (by rw[e];exact True.intro) (.inr ho) (fun b q hb z=>(sb.2 b hb).trans z) hd ?_;refine⟨by rw[aM O.ne];exact ho,?_,O.ne,O'.obj,_,O'.ns,fun g=>?_,fun g hg=>?_⟩
 ·have:=mT f y fs;lia
 ·show jY ((dF f y fs).lookup g) (if g=f then some u else mA g);rw[mS];by_cases q:g=f
  ·rw[if_pos q,if_pos q];exact ry
  ·rw[if_neg q,if_neg q];exact r g
 ·by_cases q:g=f
  ·rw[q];exact(mC f y fs).1
  ·refine(mC f y fs).2 g (wi g fun z=>hg ?_);show(if g=f then some u else mA g)=none;rw[if_neg q];exact z
theorem Inv.made (I:Inv X pins σ H s):Inv X pins σ (upd (upd H s.heap.objs.size (.own (s.heap.objs.size+1))) (s.heap.objs.size+1) (.ins C s.heap.objs.size []))
  { s with heap:=(s.heap.push qDo).push (qEh C s.heap.objs.size) }:=by
 have e1:(s.heap.push qDo).get? s.heap.objs.size=some qDo:=qAt s.heap rfl;have e2:((s.heap.push qDo).push (qEh C s.heap.objs.size)).get? (s.heap.objs.size+1)=some (qEh C s.heap.objs.size):=by
  have:=qAt (s.heap.push qDo) (o:=qEh C s.heap.objs.size) rfl;rwa [qDg] at this
 have e3:(s.heap.push qDo).Ns s.heap.objs.size (fun _=>none):=⟨qDo,#[],_,e1,rfl,(fun e he=>absurd he (by simp)),fun _=>rfl⟩;have I1:=I.laid (a:=s.heap.objs.size) (o:=.own (s.heap.objs.size+1)) (h':=s.heap.push qDo) (t':=s.toks) (fun b u q=>qAj _ q) (qAg _) ⟨_,e1⟩;refine I1.laid (a:=s.heap.objs.size+1) (o:=.ins C s.heap.objs.size []) (t':=s.toks) (fun b u q=>qAj _ q) (qIi (qDg _ _)) ?_;have ne:s.heap.objs.size≠s.heap.objs.size+1:=qBf (qGn _);refine⟨by rw[aM ne,aC],qBq _,ne,e2,fun _=>none,(Heap.Ns1.of_empty e3).at fun o q=>qAj _ q,fun _=>True.intro,fun y hy=>absurd rfl hy⟩
theorem Ez {prog:qBm}{w:qCy}{env:Env}{e:Expr}{f:Str}{pos:Pos}{s:qAi}{Q:qAf->qAi->Prop} (hb:qGh e f env (eval e env)=eval e env)
  (h:qBg (qBz prog w) A (eval e env) (fun o s₁=>qBg (qBz prog w) A (getAttr o f true) Q E s₁) E s):qBg (qBz prog w) A (eval (.Attribute e f pos) env) Q E s :=
 Attribute_any_ h (by rw[arm_eval_Attribute,hb])
end
def LZ (K:qAc) (ta:TE) (f:Str):TE:=fun σ H Q=>ta σ H fun x H1=>∃a C dx fs v,x = .ref a/\H1 a=some (.ins C dx fs)/\Ek K C/\hJ K C f/\fs.lookup f=some v/\Q v H1
def Od (K:qAc) (ta tv:TE) (f:Str):TS:=fun D σ H=>tv σ H fun y H1=>ta σ H1 fun x H2=>∃a C dx fs,x = .ref a/\H2 a=some (.ins C dx fs)/\Ek K C/\hJ K C f/\fs.length<1000 /\
 D.nx σ (upd H2 a (.ins C dx (dF f y fs)))
section
variable {X:Cx}{o e value:Expr}{f:Str}{pos pos' tpos:Pos}{ta tv:TE}
theorem bZ (he:PE X e ta) (hb:qGh e f X.env (eval e X.env)=eval e X.env):PE X (.Attribute e f pos) (LZ X.K ta f):=by
 intro pins s σ H Q I h;refine Ez hb (cF (he pins s σ H _ I h) fun u s1 ⟨x,H1,I1,rx,a,C,dx,fs,v,ex,ea,c,n,l,q⟩=>?_);subst ex;obtain rfl:u=Value.ref a:=rx;exact wH I1 ea c n l fun u' s2 I2 ru=>⟨v,H1,I2,ru,q⟩
theorem mD (ha:PE X o ta) (hv:PE X value tv) (hs:qKd value (some (.Attribute o f pos')) pos.line X.env=pure false):PS X (.Assign [.Attribute o f pos'] value pos) (Od X.K ta tv f):=by
 intro pins s σ H D I h;refine plainObj_wpAny_Assign_Attribute (cF (hv pins s σ H _ I h) fun u s1 ⟨y,H1,I1,ry,q⟩=>cF (ha pins s1 σ H1 _ I1 q) fun ov s2 ⟨x,H2,I2,rx,a,C,dx,fs,ex,ea,c,n,l,q2⟩=>?_) hs;subst ex;obtain rfl:ov=Value.ref a:=rx;exact wJ I2 ea c n l ry fun s3 I3=>⟨σ,_,I3,q2⟩
end
section
variable {X:Cx}{pins:List (Addr×Obj)}{σ:St}{H:Hp}{s:qAi}{A:qCt}{E:qAf->qAi->Prop}{Q:qAf->qAi->Prop}{c:qAf}{b:Bool}
inductive jZ (K:qAc) (H:Hp):V->qAf->Prop where
 | non:jZ K H .non (.type "NoneType")
 | bl (x:Bool):jZ K H (.bl x) (.type "bool")
 | int (i:Int):jZ K H (.int i) (.type "int")
 | str (x:Str):jZ K H (.str x) (.type "str")
 | flt (x:UInt64):jZ K H (.flt x) (.type "float")
 | lst {a:Addr}{xs:List V} (e:H a=some (.lst xs)):jZ K H (.ref a) (.type "list")
 | frz {a:Addr}{o:Obj}{xs:List V} (e:H a=some (.frz o (.lst xs))):jZ K H (.ref a) (.type "list")
 | tup {a:Addr}{xs:List V} (e:H a=some (.tup xs)):jZ K H (.ref a) (.type "tuple")
 | dK {a:Addr}{kvs:List (Key×V)} (e:H a=some (.dK kvs)):jZ K H (.ref a) (.type "dict")
 | dT {a:Addr}{kvs:List (List Key×V)} (e:H a=some (.dT kvs)):jZ K H (.ref a) (.type "dict")
 | ins {a C dx:Addr}{fs:List (Str×V)} (e:H a=some (.ins C dx fs)) (cl:Ek K C) (ha:qBe K (.ref C) "__class__"=some (some (.builtin "object.__class__")))
   (hn:qEy K (.builtin "object.__class__") "__get__"=some (some (.builtin "getset_descriptor.__get__"))) (htk:qFp K (.builtin "object.__class__")=some true)
   (hm:qDy K C (.type "object")=some true):jZ K H (.ref a) (.ref C)
end
structure dX (k:Nat) (A:qCt):Prop where
 hd:A.handled=none
 dp:A.depth+3*k+5<recursionLimit
 un:A.units+16*k+200<qLq
theorem dX.mono {j k:Nat}{A:qCt} (r:dX k A) (h:j<=k):dX j A:=⟨r.hd,by have:=r.dp;lia,by have:=r.un;lia⟩
theorem dX.deeper {k:Nat}{A:qCt} (r:dX (k+1) A) (env:Env):dX k (A.deeper env) :=
 ⟨r.hd,by have:=r.dp;show A.depth+1+3*k+5<_;lia,by have:=r.un;show A.units+3+16*k+200<_;lia⟩
theorem wK {A:qCt}{C:Addr}{us:List qAf}{kw:List (Str×qAf)}:(A.under (.builtin "type.__call__" ⟨.ref C::us,kw⟩)).depth=A.depth+1:=by
 first | rfl | simp[Around.under,Code.weight,Code.isCreation,Code.isGuard,Code.isCaller,Code.frames,Code.isFrame,guardIds]
theorem wL {A:qCt}{C:Addr}{us:List qAf}{kw:List (Str×qAf)}:(A.under (.builtin "type.__call__" ⟨.ref C::us,kw⟩)).units=A.units+1:=by
 first | rfl | simp[Around.under,Code.cUnits,Code.frames,Code.isFrame]
theorem dX.make {k:Nat}{A:qCt} (r:dX (k+1) A) (C:Addr) (us:List qAf) (kw:List (Str×qAf)):dX k (A.under (.builtin "type.__call__" ⟨.ref C::us,kw⟩)) :=
 ⟨r.hd,by have:=r.dp;rw[wK];lia,by have:=r.un;rw[wL];lia⟩
theorem dX.depth {k:Nat}{A:qCt} (r:dX k A):A.depth<recursionLimit:=by have:=r.dp;lia
theorem dX.units {k:Nat}{A:qCt} (r:dX k A):A.units+64<qLq:=by have:=r.un;lia
def iC:TA:=fun _ H Q=>Q [] H
def BL (ta:TE) (tr:TA):TA:=fun σ H Q=>ta σ H fun x H1=>tr σ H1 fun xs H2=>Q (x::xs) H2
section
variable {X:Cx}{e:Expr}{es:List Expr}{te:TE}{t:TA}{pos:Pos}
theorem aB:PA X [] iC:=fun _ _ _ _ H Q I h=>qHl ⟨[],H,I,.nil,h⟩
theorem aA (ha:PE X e te) (hr:PA X es t) (hs:qBt (e::es) X.env=(false,eval e X.env)::qBt es X.env:=by rfl):PA X (e::es) (BL te t):=by
 intro pos pins s σ H Q I h;rw[hs];show qBg _ _ (qOn ((false,eval e X.env)::qHc pos (qBt es X.env))) _ _ s;refine qHb (cF (ha pins s σ H _ I h) fun u s1 ⟨x,H1,I1,r1,q1⟩=>?_);exact cF (hr pos pins s1 σ H1 _ I1 q1) fun us s2 ⟨xs,H2,I2,r2,q2⟩=>⟨x::xs,H2,I2,.cons r1 r2,q2⟩
def Oe (t:TA):TE:=fun σ H Q=>t σ H fun xs H1=>xs.length<=qAh/\∀p,H1 p=none->Q (.ref p) (upd H1 p (.tup xs))
def Of (t:TA):TE:=fun σ H Q=>t σ H fun xs H1=>xs.length<=qAh/\∀p,H1 p=none->Q (.ref p) (upd H1 p (.lst xs))
theorem cE {x1} (h:PA X es t):PE X (.Tuple es x1 pos) (Oe t):=by
 intro pins s σ H Q I hq;refine wpAny_Tuple_spliced (cF (h pos pins s σ H _ I hq) fun us s1 ⟨xs,H1,I1,r,z,q⟩=>⟨by rw[<- r.length];exact z,?_⟩);have hf:H1 s1.heap.objs.size=none:=I1.cJ.fresh (qAg _);refine⟨.ref s1.heap.objs.size,upd H1 s1.heap.objs.size (.tup xs),I1.laid (t':=s1.toks) (fun b u e=>qAj _ e) (qAg _) ?_,rfl,q _ hf⟩;exact⟨z,us,r,⟨_,qAt _ rfl,rfl,_,rfl⟩⟩
theorem bH (h:PA X es t):PE X (.List es pos) (Of t):=by
 intro pins s σ H Q I hq;refine wpAny_List_spliced (cF (h pos pins s σ H _ I hq) fun us s1 ⟨xs,H1,I1,r,z,q⟩=>⟨by rw[<- r.length];exact z,?_⟩);have hf:H1 s1.heap.objs.size=none:=I1.cJ.fresh (qAg _);refine⟨.ref s1.heap.objs.size,upd H1 s1.heap.objs.size (.lst xs),I1.laid (t':=s1.toks) (fun b u e=>qAj _ e) (qAg _) ?_,rfl,q _ hf⟩;exact⟨z,us,0,r,qAt _ rfl⟩
end
abbrev Sp:=List V->Hp->VK->XK->Prop
abbrev Az:=List Env->Hp->qAi->XK->qAf->qAi->Prop
structure wM (P:qBm) (w:qCy) (K:qAc) (mg:Str->Option qAf) (base:Heap) (A:qCt) (outer:List Env) (s:qAi) (H:Hp):Prop where
 frames:A.frames=some outer
 mod:Mod K mg base
 bs:∀b o,base.get? b=some o->s.heap.get? b=some o/\H b=none
 Es:base.objs.size<=s.heap.objs.size
 kQ:s.heap.FunFrames base outer
 Hy:∀b∈n6 outer,H b=none
 cJ:j6 P w H s.heap
 bare:qJc s.gens
def CE (outer:List Env) (P:qBm) (w:qCy) (H:Hp) (s:qAi) (Q:VK) (u:qAf) (s':qAi):Prop :=
 ∃v H',s'.os=s.os/\qJc s'.gens/\Un (n6 outer) [] H H' s.heap s'.heap/\j6 P w H' s'.heap/\RelV v u/\Q v H'
def CR (CX:Az) (outer:List Env) (P:qBm) (w:qCy) (H:Hp) (s:qAi) (Q:VK) (E:XK) (r:qPa) (s':qAi):Prop :=
 match r with
 | .ok (.ret u)=>CE outer P w H s Q u s'
 | .ok _=>False
 | .error e=>CX outer H s E e s'
structure i9 (P:qBm) (w:qCy) (K:qAc) (mg:Str->Option qAf) (base:Heap) (CX:Az) (k:Nat) (f:Addr) (fd:qBo) (ps:List Str) (sp:Sp):Prop where
 len:∀vs H Q E,sp vs H Q E->vs.length=ps.length
 run:∀(A:qCt) (outer:List Env) (s:qAi) (H:Hp) (args:Args) (us:List qAf) (vs:List V) (Q:VK) (E:XK),dX k A->wM P w K mg base A outer s H->qNi s fd args (ps.zip us)->Vals vs us->sp vs H Q E ->
  qHn (qBz P w) A (.call (.ref f) args) (CR CX outer P w H s Q E) s
theorem wM.make {P:qBm}{w:qCy}{K:qAc}{mg:Str->Option qAf}{base:Heap}{A:qCt}{outer:List Env}{s:qAi}{H:Hp} (e:wM P w K mg base A outer s H) (C:Addr) (us:List qAf) (kw:List (Str×qAf)) :
  wM P w K mg base (A.under (.builtin "type.__call__" ⟨.ref C::us,kw⟩)) outer s H:=⟨by first|exact e.frames | (simpa [Around.under,Code.envs,Code.isFrame,pushEnvs] using e.frames),e.mod,e.bs,e.Es,e.kQ,e.Hy,e.cJ,e.bare⟩
section
variable {X:Cx}{pins:List (Addr×Obj)}{σ:St}{H:Hp}{s s':qAi}
theorem Inv.HM (I:Inv X pins σ H s):wM X.prog X.w X.K X.mg X.base X.A X.stack s H :=
 ⟨I.ok.frames,I.ok.mod,I.bs,qCu I.ok.Es I.sz,I.stack,I.nK,I.cJ,I.bare⟩
theorem Inv.after {Q:VK}{u:qAf} (I:Inv X pins σ H s) (h:CE X.stack X.prog X.w H s Q u s'):EP X pins σ Q u s':=by
 obtain⟨v,H',os,bare,un,cJ,r,q⟩:=h;obtain⟨hh,g,d,t,os'⟩:=s';obtain rfl:os'=s.os:=os;exact⟨v,H',I.call (h':=hh) (g':=g) (d':=d) (t':=t) (ch:=[]) un cJ bare (fun b z=>absurd z (by simp)),r,q⟩
end
def Gg (sp:Sp) (dvs:List V) (E:XK) (t:TA):TE:=fun σ H Q=>t σ H fun vs H1=>sp (vs++dvs) H1 Q E
def Binds (K:qAc) (fd:qBo) (ps:List Str) (ds:List qAf):Prop :=
 ∀(s:qAi) (us:List qAf),K.In s.heap->(us++ds).length=ps.length->qNi s fd ⟨us,[]⟩ (ps.zip (us++ds))
theorem Binds.all {K:qAc}{fd:qBo}{ps:List Str} (h:∀us:List qAf,us.length=ps.length->qNf fd ⟨us,[]⟩=pure (ps.zip us)):Binds K fd ps []:=fun s us _ hl=>by
 rw[qDm] at hl|-;exact .of_eq (h us hl)
def Passes (CX:Az) (X:Cx) (E:XK):Prop:=∀(pins:List (Addr×Obj)) (σ:St) (H:Hp) (s:qAi) (e:qAf) (s':qAi),Inv X pins σ H s->CX X.stack H s E e s'->X.xe e s'
section
variable {X:Cx}{CX:Az}{k:Nat}{f C:Addr}{fd:qBo}{ps:List Str}{sp:Sp}{dvs:List V}{ds:List qAf}{E:XK}{x m:Str}{p pos apos:Pos}{e o:Expr}{es:List Expr}{ta:TE}{t:TA}
theorem HN {pins:List (Addr×Obj)}{σ:St}{H:Hp}{s:qAi}{Q:VK}{us:List qAf}{vs:List V} (F:i9 X.prog X.w X.K X.mg X.base CX k f fd ps sp) (hr:dX k X.A) (hb:Binds X.K fd ps ds) (hd:Vals dvs ds) (hx:Passes CX X E)
  (I:Inv X pins σ H s) (r:Vals vs us) (h:sp (vs++dvs) H Q E):qBg (qBz X.prog X.w) X.A (call (.ref f) us) (EP X pins σ Q) X.xe s:=by
 have r2:Vals (vs++dvs) (us++ds):=r.append hd;have hl:(us++ds).length=ps.length:=by rw[<- r2.length];exact F.len _ _ _ _ h
 refine qJg (qGc (F.run X.A X.stack s H ⟨us,[]⟩ (us++ds) (vs++dvs) Q E hr I.HM (hb s us I.wB hl) r2 h) fun r s' hq=>?_);cases r with
 | error e=>exact hx pins σ H s e s' I hq
 | ok fl =>
  cases fl with
  | ret u=>exact I.after hq
  | next=>exact False.elim hq
  | brk=>exact False.elim hq
  | cont=>exact False.elim hq
theorem EA (F:i9 X.prog X.w X.K X.mg X.base CX k f fd ps sp) (hr:dX k X.A) (hg:Gl X x) (hm:X.mg x=some (.ref f)) (hk:qCv X.K (.ref f)=true) (hb:Binds X.K fd ps ds) (hd:Vals dvs ds) (hx:Passes CX X E)
  (ha:PA X (e::es) t) (hdb:(x == ("__debug__":Str))=false:=by decide) (he:qBt (e::es) X.env=(false,eval e X.env)::qBt es X.env:=by rfl) (hpl:(qHc pos (qBt es X.env)).any (·.1)=false:=by rfl) :
  PE X (.Call (.Name x p) (e::es) [] pos) (Gg sp dvs E t):=by
 intro pins s σ H Q I h;refine qGg (kR I hg hm ?_ hdb);refine qGr (h₀:=X.base) I.ok.mod.Hx hk (cF (ha pos pins s σ H _ I h) fun us s1 ⟨vs,H1,I1,r,q⟩=>⟨I1.wB,?_⟩) he hpl;exact HN F hr hb hd hx I1 r q
structure Mk (K:qAc) (C f:Addr):Prop where
 makes:qJn K C=true
 init:qBe K (.ref C) "__init__"=some (some (.ref f))
 fn:qEx K (.ref f)=true
 kp:qCv K (.ref C)=true
end
section
variable {X:Cx}{CX:Az}{k:Nat}{f C:Addr}{fd:qBo}{ps ks:List Str}{sp:Sp}{E:XK}{x m:Str}{p pos apos kpos:Pos}{e o:Expr}{es:List Expr}{kws:List qOq}{te ta:TE}{t tk:TA}{nm:Option Str}
variable {g:List qAf->List qAf->List qAf}{gV:List V->List V->List V}
end
structure aT (N P:List Str) (sc:qIn):Prop where
 kind:sc.kind = .function
 co:sc.isCoroutine=false
 gen:sc.isGenerator=false
 nd:N.Nodup
 pre:N.take P.length=P
 par:∀x∈P,sc.names.lookup x=some .local\/sc.names.lookup x=some .cell
 HP:∀y∈sc.names,y.2≠.free
theorem qB {qIr:Str->Option qIo}{x:Str}:∀{binds:List (Str×qAf)}{m:Str->Option qAf},(∀v,(x,v)∉binds)->qPi qIr binds m x=m x
 | [],_,_=>rfl
 | (n,v)::r,m,h=>by
  unfold qPi;rw[qB fun w hw=>h w (qBx _ hw)];split
  ·have:x≠n:=by rintro rfl;exact h v qCi
   simp[this]
  ·rfl
theorem qC {qIr:Str->Option qIo}{x:Str}:∀{binds:List (Str×qAf)}{m:Str->Option qAf},(∀v,(x,v)∉binds)->qPj qIr binds m x=m x
 | [],_,_=>rfl
 | (n,v)::r,m,h=>by
  unfold qPj;rw[qC fun w hw=>h w (qBx _ hw)];split
  ·rfl
  ·have:x≠n:=by rintro rfl;exact h v qCi
   simp[this]
theorem qD {qIr:Str->Option qIo}{x:Str}{v:qAf}:∀{P:List Str}{vs:List qAf}{i:Nat}{m:Str->Option qAf},P.Nodup->P[i]?=some x->vs[i]?=some v->qIr x=some .local ->
  qPi qIr (P.zip vs) m x=some v
 | [],_,_,_,_,h,_,_=>by simp at h
 | _::_,[],_,_,_,_,h,_=>by simp at h
 | p::P,w::vs,0,m,nd,h1,h2,hk=>by
  simp at h1 h2;subst h1;subst h2;show qPi qIr ((p,w)::P.zip vs) m p=_;unfold qPi;rw[qB fun v hv=>(List.nodup_cons.mp nd).1 (qGs hv).1,if_pos hk];simp
 | p::P,w::vs,i+1,m,nd,h1,h2,hk=>by
  show qPi qIr ((p,w)::P.zip vs) m x=_;unfold qPi;exact qD (i:=i) (List.nodup_cons.mp nd).2 (by simpa using h1) (by simpa using h2) hk
theorem qE {qIr:Str->Option qIo}{x:Str}{v:qAf}:∀{P:List Str}{vs:List qAf}{i:Nat}{m:Str->Option qAf},P.Nodup->P[i]?=some x->vs[i]?=some v->qIr x≠some .local ->
  qPj qIr (P.zip vs) m x=some v
 | [],_,_,_,_,h,_,_=>by simp at h
 | _::_,[],_,_,_,_,h,_=>by simp at h
 | p::P,w::vs,0,m,nd,h1,h2,hk=>by
  simp at h1 h2;subst h1;subst h2;show qPj qIr ((p,w)::P.zip vs) m p=_;unfold qPj;rw[qC fun v hv=>(List.nodup_cons.mp nd).1 (qGs hv).1,if_neg hk];simp
 | p::P,w::vs,i+1,m,nd,h1,h2,hk=>by
  show qPj qIr ((p,w)::P.zip vs) m x=_;unfold qPj;exact qE (i:=i) (List.nodup_cons.mp nd).2 (by simpa using h1) (by simpa using h2) hk
def start (N:List Str) (vs:List V):St:=vs.map some++qBl (N.length-vs.length) none
def oF (CX:Az) (P:qBm) (w:qCy) (K:qAc) (mg:Str->Option qAf) (base:Heap) (N:List Str) (qual:Str) (scope:qIn) (f:Addr) (cd:qAf) (A:qCt) (outer:List Env) (s:qAi) (H:Hp) (E:XK):Cx where
 prog:=P
 w:=w
 K:=K
 mg:=mg
 base:=base
 A:=A.deeper (qJb qual scope s.heap.objs.size f cd)
 N:=N
 s₀:=s
 H₀:=H
 env:=qJb qual scope s.heap.objs.size f cd
 outer:=outer
 stack:=qJb qual scope s.heap.objs.size f cd::outer
 ex:=[]
 calm:=true
 fn:=fun _=>true
 pn:=[]
 xe:=fun e s'=>qBg (qBz P w) (A.deeper (qJb qual scope s.heap.objs.size f cd)) (leaving (qJb qual scope s.heap.objs.size f cd) e) (fun _ s''=>CX outer H s E e s'') (fun e' s''=>CX outer H s E e' s'') s'
theorem t8 {sc:qIn}{n:Nat}{x:Str} (h:sc.names.lookup x=some .cell):∃c,(qKh n sc.names []).lookup x=some c:=by
 have q:=qKx sc.names n [] (.inl h);exact Option.isSome_iff_exists.mp q
theorem AA {CX:Az}{P:qBm}{w:qCy}{K:qAc}{mg:Str->Option qAf}{base:Heap}{N ps:List Str}{qual:Str}{scope:qIn}{f:Addr}{cd:qAf}{A:qCt}{outer:List Env}{s s1:qAi}{H:Hp}{E:XK}{us:List qAf}{vs:List V}
  (S:aT N ps scope) (hd:A.handled=none) (e0:wM P w K mg base A outer s H) (hl:vs.length=ps.length) (r:Vals vs us)
  (x:InCallC s s.heap.objs.size (qPi (qJb qual scope s.heap.objs.size f cd).kindOf (ps.zip us) fun _=>none) (qKh (s.heap.objs.size+1) scope.names []) (qPj (qJb qual scope s.heap.objs.size f cd).kindOf (ps.zip us) fun _=>none) s1) :
  Inv (oF CX P w K mg base N qual scope f cd A outer s H E) [] (start N vs) H s1:=by
 have hpl:ps.length<=N.length:=by have:=congrArg qMn S.pre;rw[qEn] at this;lia
 obtain⟨h1,tk,rfl,hk⟩:=x.done;have noA:∀b:Addr,b∉(oF CX P w K mg base N qual scope f cd A outer s H E).ex:=fun b z=>absurd (show b∈([]:List Addr) from z) (by simp);refine⟨⟨e0.mod,S.kind,rfl,rfl,qAg _,fun y z c h1 h2=>?_,fun y hy=>?_,fun y c _ h=>?_,fun _=>hd,Around.frames_deeper e0.frames,.inr ⟨rfl,rfl⟩,fun b z=>absurd z (noA b),e0.bs,e0.Es,fun b _ _=>noA b,fun b z=>absurd z (noA b),e0.kQ,e0.Hy⟩,
  rfl,e0.bare,Un.kept hk,⟨_,x.toInCall.ns,fun i y v h1 h2 h3=>?_⟩,fun y c h=>⟨_,x.cell y c h⟩,e0.cJ.fresh (qAg _),fun y c h=>?_,fun p hp=>absurd (show p∈([]:List (Addr×Obj)) from hp) (by simp),e0.cJ.kept hk,?_⟩
 ·exact name_of_addr x.apart (PySem.mem_of_lookup h1) (PySem.mem_of_lookup h2)
 ·have hy:scope.names.lookup y=some .cell\/scope.names.lookup y=some .free:=hy;rcases hy with hy | hy
  ·exact t8 hy
  ·exact absurd rfl (S.HP _ (PySem.mem_of_lookup hy))
 ·exact qAq (x.above y c (PySem.mem_of_lookup h))
 ·have hi:i<vs.length:=by
   unfold start at h2;by_cases hi:i<vs.length
   ·exact hi
   ·rw[qAv (by simpa using hi)] at h2;rw[List.getElem?_replicate] at h2;split at h2 <;> cases h2
  have ha:vs[i]?=some v:=by
   unfold start at h2;rw[qAz (by simpa using hi),qAo] at h2;cases e:vs[i]? with
   | none=>rw[e] at h2;cases h2
   | some a=>rw[e] at h2;cases h2;rfl
  obtain⟨u,hu,rv⟩:=r.get ha;have hp:ps[i]?=some y:=by
   rw[<- S.pre,qHo (by lia)];exact h1
  have ndP:ps.Nodup:=by rw[<- S.pre];exact S.nd.sublist (List.take_sublist _ _)
  refine⟨u,rv,?_⟩;rcases S.par y (qAy hp) with k | k
  ·exact .inl ⟨k,qD ndP hp hu k⟩
  ·obtain⟨c,e⟩:=t8 (n:=s.heap.objs.size+1) k;refine .inr ⟨.inl k,c,e,?_⟩;have q:=x.cell y c e;rw[qE ndP hp hu (by show scope.names.lookup y≠_;rw[k];decide)] at q;exact q
 ·exact e0.cJ.fresh (qAq (x.above y c (PySem.mem_of_lookup h)))
 ·unfold start;show _=N.length;rw[qAm,qAb,qIe];lia
theorem Gh {CX:Az}{P:qBm}{w:qCy}{K:qAc}{mg:Str->Option qAf}{base:Heap}{k:Nat}{f:Addr}{name qual:Str}{params:Arguments}{body:List Stmt}{scope:qIn}{dV kV doc pm cdv ct oc:qAf}{an od:Option Addr}
  {osl:Array (Option qAf)}{N ps:List Str}{sp:Sp} (lk:K.lookup f=some ⟨oc,od,.func (qDn name qual params body scope dV kV doc pm an cdv ct),osl⟩) (hcd:qDz K cdv qual=true) (S:aT N ps scope)
  (len:∀vs H Q E,sp vs H Q E->vs.length=ps.length)
  (hbody:∀(A:qCt) (outer:List Env) (s:qAi) (H:Hp) (vs:List V) (Q:VK) (E:XK),dX k (A.deeper (qJb qual scope s.heap.objs.size f cdv))->sp vs H Q E ->
   ∃t,tU (oF CX P w K mg base N qual scope f cdv A outer s H E) body t/\t { nx:=fun _ H'=>Q .non H',rt:=Q } (start N vs) H) :
  i9 P w K mg base CX (k+1) f (qDn name qual params body scope dV kV doc pm an cdv ct) ps sp:=by
 refine⟨len,fun A outer s H args us vs Q E hr e0 hb r hsp=>?_⟩;have hl:=len _ _ _ _ hsp;have KX:K.In s.heap:=e0.mod.Hx.keeps fun b o e=>(e0.bs b o e).1;have lim:s.heap.NoLimit:=e0.mod.nolimit.keeps fun b o e=>(e0.bs b o e).1;have hkind:∀y∈ps.zip us,scope.names.lookup y.1=some .local\/(scope.names.lookup y.1=some .cell/\((qKh (s.heap.objs.size+1) scope.names []).lookup y.1).isSome=true):=fun⟨n,v⟩ hy=>by
  rcases S.par n (qGs hy).1 with q | q
  ·exact .inl q
  ·exact .inr ⟨q,qKx _ _ _ (.inl q)⟩
 refine codeAny_call_function hr.depth (KX _ _ lk) rfl S.co S.gen rfl (PySem.W.codeRec_of KX hcd) (hb _ _ _ _ ?_);refine wpAny_newFunctionEnv_cells S.kind hkind fun env he s1 x=>?_;subst he;refine⟨lim.keeps x.toInCall.keep,codeAny_func ?_⟩;obtain⟨t,ht,hq⟩:=hbody A outer s H vs Q E (hr.deeper _) hsp;have I:Inv (oF CX P w K mg base N qual scope f cdv A outer s H E) [] (start N vs) H s1:=AA S hr.hd e0 hl r x;refine qHk (ht [] s1 (start N vs) H _ I hq) (fun fl s' hs=>?_) fun e s' hs=>hs;have fin:∀{σ':St}{H':Hp}{v:V}{u:qAf},Inv (oF CX P w K mg base N qual scope f cdv A outer s H E) [] σ' H' s'->RelV v u->Q v H'->CE outer P w H s Q u s' :=
  fun {σ' H' v u} J rv q=>⟨v,H',J.os,J.bare,J.base,J.cJ,rv,q⟩
 cases fl with
 | ret u =>
  obtain⟨v,σ',H',J,rv,q⟩:=hs;exact fin J rv q
 | next =>
  obtain⟨σ',H',J,q⟩:=hs;exact fin (v:=V.non) (u:=Value.none) J rfl q
 | brk =>
  obtain⟨_,_,_,q⟩:=hs;exact False.elim q
 | cont =>
  obtain⟨_,_,_,q⟩:=hs;exact False.elim q
section
variable {X:Cx}{x:Str}{p pos:Pos}{e:Expr}{es:List Expr}{t:TA}{id T:String}{r:List V->Hp->VK->Prop}
def OZ (r:List V->Hp->VK->Prop) (t:TA):TE:=fun σ H Q=>t σ H fun vs H1=>r vs H1 Q
theorem aJ (hc:g5 X (.builtin id) r) (hg:Gl X x) (hm:X.mg x=none) (hv:qCs x=some (.builtin id)) (ha:PA X (e::es) t) (hn:x≠"__name__":=by decide) (hdb:(x == ("__debug__":Str))=false:=by decide)
  (he:qBt (e::es) X.env=(false,eval e X.env)::qBt es X.env:=by rfl) (hpl:(qHc pos (qBt es X.env)).any (·.1)=false:=by rfl):PE X (.Call (.Name x p) (e::es) [] pos) (OZ r t):=by
 intro pins s σ H Q I h;refine qGg (fI I hg hm hv ?_ hn hdb);exact qIg (cF (ha pos pins s σ H _ I h) fun us s1 ⟨vs,H1,I1,r1,q1⟩=>hc pins s1 σ H1 vs us Q I1 r1 q1) he hpl
theorem gE (hc:g5 X (.type T) r) (hg:Gl X x) (hm:X.mg x=none) (hv:qCs x=some (.type T)) (ha:PA X (e::es) t) (hn:x≠"__name__":=by decide) (hdb:(x == ("__debug__":Str))=false:=by decide)
  (he:qBt (e::es) X.env=(false,eval e X.env)::qBt es X.env:=by rfl) (hpl:(qHc pos (qBt es X.env)).any (·.1)=false:=by rfl):PE X (.Call (.Name x p) (e::es) [] pos) (OZ r t):=by
 intro pins s σ H Q I h;refine qGg (fI I hg hm hv ?_ hn hdb);exact qCf (cF (ha pos pins s σ H _ I h) fun us s1 ⟨vs,H1,I1,r1,q1⟩=>hc pins s1 σ H1 vs us Q I1 r1 q1) he hpl
end
end L2
namespace HT
open PySem PyProof.Rows
section
open PySem.SeqAt
open PySem.AutoSeq1 (wpAny_loadPart')
open PySem.MeetsSeq PySem.MeetsSeq2 PySem.MeetsSeq3
end
section
variable {prog:qBm}{w:qCy}{A:qCt}{E:qAf->qAi->Prop}{s:qAi}
def dU (n d:Nat):Option Int->Nat
 | none=>d
 | some v=>if v<0 then (v+(n:Int)).toNat else min v.toNat n
theorem t9 (n d:Nat):dU n d none=d:=rfl
theorem rV (n d k:Nat):dU n d (some (k:Int))=min k n:=by
 show(if (k:Int)<0 then ((k:Int)+(n:Int)).toNat else min (k:Int).toNat n)=min k n;rw[if_neg (by lia),qBb]
theorem HQ (n d:Nat) (hd:d<=n) (o:Option Int):dU n d o<=n:=by
 cases o with
 | none=>exact hd
 | some v =>
  show(if v<0 then (v+(n:Int)).toNat else min v.toNat n)<=n;by_cases hv:v<0
  ·rw[if_pos hv];lia
  ·rw[if_neg hv];exact Nat.min_le_right _ _
theorem yM (v:Int) (n d:Nat):(if v<0 then max (v+(n:Int)) 0 else min v (n:Int))=((dU n d (some v):Nat):Int):=by
 show(if v<0 then max (v+(n:Int)) 0 else min v (n:Int))=(((if v<0 then (v+(n:Int)).toNat else min v.toNat n):Nat):Int);by_cases hv:v<0
 ·simp only[if_pos hv];lia
 ·simp only[if_neg hv];lia
theorem wN (lo hi:Option Int) (n:Nat):Builtin.Slice.sliceAdjust lo hi 1 (n:Int)=(((dU n 0 lo:Nat):Int),((dU n n hi:Nat):Int)):=by
 have h1:¬((1:Int)<0):=by lia
 unfold Builtin.Slice.sliceAdjust;simp only[h1,if_false];refine Prod.ext ?_ ?_
 ·cases lo with
  | none=>rfl
  | some v=>exact yM v n 0
 ·cases hi with
  | none=>rfl
  | some v=>exact yM v n n
theorem wO (i j:Nat):Builtin.Slice.slicePlaces (i:Int) (j:Int) 1=j-i:=by
 unfold Builtin.Slice.slicePlaces;have h1:(1:Int)>0:=by lia
 simp only[h1,if_true,Int.ediv_one];split <;> lia
theorem oG {v:qAf}{o:Option Int}{Q:Option Int->qAi->Prop} (p:qKz v o) (h:Q o s):qBg (qBz prog w) A (Builtin.Slice.slicePartIndex v) Q E s:=by
 cases p with
 | none=>exact slicePart_none h
 | int i t=>exact slicePart_int h
theorem iD {sl:Addr}{vl vu:qAf}{lo hi:Option Int}{n:Nat}{Q:Int×Int×Nat->qAi->Prop} (hs:s.heap.IsSliceOf sl vl vu .none) (pl:qKz vl lo) (pu:qKz vu hi)
  (h:Q (((dU n 0 lo:Nat):Int),1,dU n n hi-dU n 0 lo) s):qBg (qBz prog w) A (Builtin.Slice.sliceApplied (.ref sl) (pure (n:Int))) Q E s:=by
 obtain⟨os,hos,hcs,hds⟩:=id hs;unfold Builtin.Slice.sliceApplied Builtin.Slice.sliceFields;refine qAa (qAa (wpAny_field hos hds (x:=vl) rfl (qAa (wpAny_field hos hds (x:=vu) rfl (qAa (wpAny_field hos hds (x:=.none) rfl (qAe ?_)))))));refine qAa (slicePart_none ?_);show qBg _ _ (if ((1:Int) == 0)=true then _ else _) _ _ s;rw[if_neg (by decide)];refine qAa (oG pl (qAa (oG pu (qAa (qAe ?_)))));show qBg _ _ (match Builtin.Slice.sliceAdjust lo hi 1 (n:Int) with | (lo,hi)=>pure (lo,(1:Int),Builtin.Slice.slicePlaces lo hi 1)) _ _ s
 rw[wN lo hi n];show qBg _ _ (pure (((dU n 0 lo:Nat):Int),(1:Int),Builtin.Slice.slicePlaces ((dU n 0 lo:Nat):Int) ((dU n n hi:Nat):Int) 1)) _ _ s;rw[wO];exact qAe h
theorem BM (xs:Array qAf) (i k:Nat):((qAn k).filterMap fun(m:Nat)=>xs[((i:Int)+(m:Int)*1).toNat]?).toArray=((xs.toList.drop i).take k).toArray:=by
 have e:(fun(m:Nat)=>xs[((i:Int)+(m:Int)*1).toNat]?)=fun m=>xs[i+m]?:=by
  funext m
  have:((i:Int)+(m:Int)*1).toNat=i+m:=by lia
  rw[this]
 rw[e];have:=pick_run xs i k;rw[qJf] at this;have e2:((fun x=>xs[x]?)∘fun x=>i+x)=fun m=>xs[i+m]?:=rfl;rw[e2] at this;rw[this]
theorem kU {t sl:Addr}{items:Array qAf}{vl vu:qAf}{lo hi:Option Int}{Q:qAf->qAi->Prop} (ht:IsTup s.heap t items) (hs:s.heap.IsSliceOf sl vl vu .none) (pl:qKz vl lo) (pu:qKz vu hi)
  (hw:¬(dU items.size 0 lo=0/\dU items.size items.size hi=items.size))
  (h:Q (.ref s.heap.objs.size) { s with heap:=s.heap.push { cls:=.type "tuple",data:=.seq ((items.toList.drop (dU items.size 0 lo)).take (dU items.size items.size hi-dU items.size 0 lo)).toArray } })
  (hsz:items.size<=qAh):qBg (qBz prog w) A (qIm (.ref t) (.ref sl)) Q E s:=by
 have htake:sizeOk (.seq ((items.toList.drop (dU items.size 0 lo)).take (dU items.size items.size hi-dU items.size 0 lo)).toArray):=by
  show((items.toList.drop (dU items.size 0 lo)).take (dU items.size items.size hi-dU items.size 0 lo)).toArray.size<=qAh;rw[qAw,qEn,qGm,qCb];lia
 have hj:dU items.size items.size hi<=items.size:=HQ _ _ (qAg _) hi;obtain⟨os,hos,hcs,hds⟩:=id hs;have hTs:s.TypeIs (.ref sl) "slice":=⟨os,hos,hcs⟩;unfold qIm;try with_reducible refine qDj ?_
 first | refine qAa (qAe ?_) | skip
 refine qAa (wpAny_sequenceKey ht.typeIs (by decide) ?_);refine qAa (qEl (name:=Str.ofString "__getitem__") ht.typeIs qEm
  (qEb qEm ht.typeIs entry_tuple_getitem ?_ (args_tuple_getitem _ _)))
 show qBg _ _ (Builtin.Tuple.tupleItemsOf (.ref t) >>= _) _ _ s;refine qAa (tupleItemsOf_ ht ?_);refine qAa (qHw hTs ?_);rw[if_pos (by decide)];refine qAa (iD hs pl pu ?_);have hno:¬((((dU items.size 0 lo:Nat):Int) == 0&&(1:Int) == 1&&(dU items.size items.size hi-dU items.size 0 lo) == items.size)=true):=by
  intro q;rw[qCd,qCd] at q;have q1:((dU items.size 0 lo:Nat):Int)=0:=eq_of_beq q.1.1;have q2:dU items.size items.size hi-dU items.size 0 lo=items.size:=eq_of_beq q.2;exact hw ⟨by lia,by lia⟩
 show qBg _ _ (if (((dU items.size 0 lo:Nat):Int) == 0&&(1:Int) == 1&&(dU items.size items.size hi-dU items.size 0 lo) == items.size)=true then _ else _) _ _ s;rw[if_neg hno,BM];first
  | exact qAa (m:=Builtin.Tuple.tupleExact _) (qCj (qAe ⟨_,rfl,qAe h⟩) htake)
  | exact qAa (m:=Builtin.Tuple.tupleExact _) (qCj (qAa (qAe (qAe ⟨_,rfl,qAe h⟩))) htake)
  | exact qAa (qAa (m:=Builtin.Tuple.tupleExact _) (qCj (qAe (qAe ⟨_,rfl,qAe h⟩)) htake))
  | exact qAa (qAa (m:=Builtin.Tuple.tupleExact _) (qCj (qAe ⟨_,rfl,qAe h⟩) htake))
end
end HT
namespace L2
open PySem PySem.Spec PyProof.Rows
abbrev TO:=St->Hp->(Option Int->Hp->Prop)->Prop
def PO (X:Cx) (e:Option Expr) (t:TO):Prop :=
 ∀(pins:List (Addr×Obj)) (s:qAi) (σ:St) (H:Hp) (Q:Option Int->Hp->Prop),Inv X pins σ H s->t σ H Q ->
  qBg (qBz X.prog X.w) X.A (evalPart e X.env) (fun u s'=>∃o H',Inv X pins σ H' s'/\qKz u o/\Q o H') X.xe s
def EB:TO:=fun _ H Q=>Q none H
def Ma (t:TE):TO:=fun σ H Q=>t σ H fun x H1=>∃i,x = .int i/\Q (some i) H1
theorem intsAre_of {ns:List Int}:∀{us:List qAf},Vals (ns.map V.int) us->qHy us ns:=by
 induction ns with
 | nil=>intro us r;rw[qEp] at r;cases r;exact .nil
 | cons n ns ih =>
  intro us r;rw[qDb] at r;cases r with
  | cons r1 r2 =>
   obtain⟨t,e⟩:=r1;subst e;exact .cons n t (ih r2)
section
variable {X:Cx}{e:Expr}{te:TE}{lo hi:Option Expr}{tl th:TO}{pos p2:Pos}
theorem nN:PO X none EB:=by
 intro pins s σ H Q I h;rw[evalPart_none];exact qAe ⟨none,H,I,.none,h⟩
theorem jO (h:PE X e te):PO X (some e) (Ma te):=by
 intro pins s σ H Q I hw;rw[evalPart_some];refine cF (h pins s σ H _ I hw) fun u s1 ⟨x,H1,I1,r1,q1⟩=>?_;obtain⟨i,rfl,q⟩:=q1;obtain⟨t,rfl⟩:=r1;exact⟨some i,H1,I1,.int i t,q⟩
def Mb (X:Cx) (r:V->Option Int->Option Int->Hp->VK->Prop):Prop :=
 ∀(pins:List (Addr×Obj)) (s:qAi) (σ:St) (H:Hp) (x:V) (v vl vu:qAf) (lo hi:Option Int) (sl:Addr) (Q:VK),Inv X pins σ H s->RelV x v->s.heap.IsSliceOf sl vl vu .none->qKz vl lo->qKz vu hi->r x lo hi H Q ->
  ∃T id,qMq (.type T) "__getitem__"=pure (some (.builtin id))/\s.TypeIs v T/\qBg (qBz X.prog X.w) X.A (qIm v (.ref sl)) (EP X pins σ Q) X.xe s
def Pq (r:V->Option Int->Option Int->Hp->VK->Prop) (te:TE) (tl th:TO):TE:=fun σ H Q=>te σ H fun x H1=>tl σ H1 fun l H2=>th σ H2 fun u H3=>r x l u H3 Q
theorem jA {r:V->Option Int->Option Int->Hp->VK->Prop} (hr:Mb X r) (he:PE X e te) (hl:PO X lo tl) (hu:PO X hi th):PE X (.Subscript e (.Slice lo hi none p2) pos) (Pq r te tl th):=by
 intro pins s σ H Q I h;refine Subscript_ (cF (he pins s σ H _ I h) fun v s1 ⟨x,H1,I1,r1,q1⟩=>?_);refine wpAny_Slice (cF (hl pins s1 σ H1 _ I1 q1) fun vl s2 ⟨l,H2,I2,pl,q2⟩=>cF (hu pins s2 σ H2 _ I2 q2) fun vu s3 ⟨u,H3,I3,pu,q3⟩=>?_);rw[evalPart_none];refine qAe ?_;have I4:Inv X pins σ H3 { s3 with heap:=s3.heap.push { cls:=.type "slice",data:=.fields #[vl,vu,.none] } }:=I3.kept (t':=s3.toks) fun b ob q=>qAj _ q;obtain⟨T,id,hT,ht,hg⟩:=hr pins { s3 with heap:=s3.heap.push { cls:=.type "slice",data:=.fields #[vl,vu,.none] } } σ H3 x v vl vu l u s3.heap.objs.size Q I4 r1 (Heap.IsSliceOf.new ..) pl pu q3;show qBg (qBz X.prog X.w) X.A (subscriptTail e (.Slice lo hi none p2) v (.ref s3.heap.objs.size)) (EP X pins σ Q) X.xe { s3 with heap:=s3.heap.push { cls:=.type "slice",data:=.fields #[vl,vu,.none] } };exact tail_any (ops:=[.ref s3.heap.objs.size,v]) ht hT hg (by with_unfolding_all rfl)
def fY (xs:List V) (lo hi:Option Int):List V:=(xs.drop (HT.dU xs.length 0 lo)).take (HT.dU xs.length xs.length hi-HT.dU xs.length 0 lo)
theorem mU (xs:List V) (lo hi:Option Int):(fY xs lo hi).length<=xs.length:=by
 unfold fY;rw[qEn,qGm];lia
def Og (K:qAc):V->Option Int->Option Int->Hp->VK->Prop:=fun x lo hi H Q=>∃a xs,x = .ref a/\cA K H a xs /\
 ¬(HT.dU xs.length 0 lo=0/\HT.dU xs.length xs.length hi=xs.length)/\∀p,H p=none->Q (.ref p) (upd H p (.tup (fY xs lo hi)))
theorem HR:Mb X (Og X.K):=by
 intro pins s σ H x v vl vu lo hi sl Q I rx hs pl pu h;obtain⟨a,xs,rfl,hx,hw,q⟩:=h;cases rx;obtain⟨its,r,ht,hz⟩:=I.tuple hx;have hlen:its.toArray.size=xs.length:=by rw[qAw];exact r.length.symm
 refine⟨"tuple",_,PyProof.Rows.slot_tuple_getitem.lookup,ht.typeIs,?_⟩;refine HT.kU ht hs pl pu (by rw[hlen];exact hw) ?_ (by rw[hlen];exact hz);rw[hlen];refine⟨.ref s.heap.objs.size,_,I.laid (t':=s.toks) (o:=.tup (fY xs lo hi)) (fun b ob q=>qAj _ q) (qAg _) ?_,rfl,q _ (I.cJ.fresh (qAg _))⟩;exact⟨qCu (mU xs lo hi) hz,_,(r.drop (HT.dU xs.length 0 lo)).take (HT.dU xs.length xs.length hi-HT.dU xs.length 0 lo),IsTup.new _ _⟩
end
def BN (n:Nat) (i:Int):Option Nat:=if 0<=i then (if i<n then some i.toNat else none) else if -(n:Int)<=i then some (i+n).toNat else none
def fK {α:Type} (xs:List α) (i:Int):Option α:=(BN xs.length i).bind fun j=>xs[j]?
theorem yO {n:Nat}{i:Int}{j:Nat} (h:BN n i=some j):seqIndex? i n=some j/\j<n/\-(n:Int)<=i/\i<n:=by
 unfold BN at h;by_cases h0:0<=i
 ·rw[if_pos h0] at h;by_cases h1:i<n
  ·rw[if_pos h1] at h;have e:i.toNat=j:=Option.some.inj h;exact⟨by rw[seqIndex_of h0 h1,e],by lia,by lia,h1⟩
  ·rw[if_neg h1] at h;cases h
 ·rw[if_neg h0] at h;by_cases h1:-(n:Int)<=i
  ·rw[if_pos h1] at h;have e:(i+n).toNat=j:=Option.some.inj h;exact⟨by rw[seqIndex_neg (by lia) h1,e],by lia,h1,by lia⟩
  ·rw[if_neg h1] at h;cases h
theorem yP {α:Type}{xs:List α}{i:Int}{v:α} (h:fK xs i=some v):∃j,seqIndex? i xs.length=some j/\xs[j]?=some v/\j<xs.length/\-(xs.length:Int)<=i/\i<xs.length:=by
 unfold fK at h;cases e:BN xs.length i with
 | none=>rw[e] at h;cases h
 | some j =>
  rw[e] at h;obtain⟨h1,h2,h3,h4⟩:=yO e;exact⟨j,h1,h,h2,h3,h4⟩
theorem eY {α:Type}{xs:List α}{j:Nat}{v:α} (h:xs[j]?=some v):fK xs (j:Int)=some v:=by
 have hj:j<xs.length:=(List.getElem?_eq_some_iff.mp h).1;have e:BN xs.length (j:Int)=some j:=by
  unfold BN;rw[if_pos (by lia),if_pos (by lia)];simp
 unfold fK;rw[e];exact h
def EC (b:Expr):Prop:=∀o i,qLn b false o i=operate [o,i] (qIm o i)
def Lx (X:Cx) (r:R2):Prop :=
 ∀(value slice:Expr) (pins:List (Addr×Obj)) (s:qAi) (σ:St) (H:Hp) (x y:V) (v u:qAf) (Q:VK),Inv X pins σ H s->RelV x v->RelV y u->r x y H Q ->
  qLn slice false v u=operate [v,u] (qIm v u)->qBg (qBz X.prog X.w) X.A (subscriptTail value slice v u) (EP X pins σ Q) X.xe s
def Gi (X:Cx) (id:String) (r:V->List V->Hp->VK->Prop):Prop :=
 ∀(pins:List (Addr×Obj)) (s:qAi) (σ:St) (H:Hp) (x:V) (xs:List V) (v:qAf) (us:List qAf) (Q:VK),Inv X pins σ H s->RelV x v->Vals xs us->r x xs H Q ->
  qBg (qBz X.prog X.w) X.A (call (.builtin id) (v::us)) (EP X pins σ Q) X.xe s
section
variable {X:Cx}{a b:Expr}{ta tb:TE}{pos:Pos}
theorem aP {r:R2} (hr:Lx X r) (ha:PE X a ta) (hb:PE X b tb) (hs:EC b):PE X (.Subscript a b pos) (NI r ta tb):=by
 intro pins s σ H Q I h;exact Subscript_ (HJ ha hb I h fun v u s2 x y H2 I2 rx ry q=>hr a b pins s2 σ H2 x y v u Q I2 rx ry q (hs _ _))
def Mc (K:qAc):R2:=fun x y H Q=>∃p xs i v,x = .ref p/\y = .int i/\aR K H p xs/\fK xs i=some v/\Q v H
def Me (K:qAc):R2:=fun x y H Q=>∃p xs i v,x = .ref p/\y = .int i/\cA K H p xs/\fK xs i=some v/\Q v H
theorem bC:Lx X (Mc X.K):=by
 intro value slice pins s σ H x y v u Q I rx ry h hs;obtain⟨p,xs,i,z,rfl,rfl,hq,he,q⟩:=h;cases rx;obtain⟨t,rfl⟩:=ry;obtain⟨its,r,pl,hz⟩:=I.list hq;obtain⟨j,h1,h2,h3,h4,h5⟩:=yP he;obtain⟨w,ew,rw'⟩:=r.get h2;have hl:=r.length;have hn:=rT;have fin:EP X pins σ Q w s:=⟨z,H,I,rw',q⟩;by_cases h0:0<=i
 ·have hj:i.toNat=j:=by
   rw[seqIndex_of h0 h5] at h1;exact Option.some.inj h1
  exact item_listR pl.isList h0 (by lia) (by rw[hj];simpa using ew) fin hs
 ·have hj:(i+(its.toArray.size:Int)).toNat=j:=by
   rw[seqIndex_neg (by lia) h4] at h1;rw[qAw,<- hl];exact Option.some.inj h1
  exact subscriptTail_builtinR (x:=w) pl.isList.typeIs slot_list_getitem.lookup
   (wpAny_getItem_list_neg (Q:=fun r s'=>r=w/\EP X pins σ Q r s') pl.isList (by lia) (by rw[qAw] <;> lia) (by lia) (by rw[hj];simpa using ew) ⟨rfl,fin⟩) hs
theorem a9:Lx X (Me X.K):=by
 intro value slice pins s σ H x y v u Q I rx ry h hs;obtain⟨p,xs,i,z,rfl,rfl,hq,he,q⟩:=h;cases rx;obtain⟨t,rfl⟩:=ry;obtain⟨its,r,pl,hz⟩:=I.tuple hq;obtain⟨j,h1,h2,h3,h4,h5⟩:=yP he;obtain⟨w,ew,rw'⟩:=r.get h2;have hl:=r.length;have hn:=rT;have fin:EP X pins σ Q w s:=⟨z,H,I,rw',q⟩;exact subscriptTail_builtinR (x:=w) pl.typeIs slot_tuple_getitem.lookup
  (getItem_tuple (j:=j) (Q:=fun r s'=>r=w/\EP X pins σ Q r s') pl (by lia) (by lia) (by rw[qAw,<- hl];exact h1) (by simpa using ew) ⟨rfl,fin⟩) hs
theorem wQ (its:List qAf) (n j:Nat) (u:qAf):Obj.mapSeq (·.setIfInBounds j u) { cls:=.type "list",data:=.seq its.toArray n }={ cls:=.type "list",data:=.seq (its.set j u).toArray n }:=by
 simp[Obj.mapSeq]
theorem Inv.lst {pins:List (Addr×Obj)}{σ:St}{H:Hp}{s:qAi}{p:Addr}{xs:List V} (I:Inv X pins σ H s) (h:H p=some (.lst xs)) :
  ∃(its:List qAf) (n:Nat),Vals xs its/\s.heap.get? p=some { cls:=.type "list",data:=.seq its.toArray n }/\xs.length<=qAh:=by
 obtain⟨z,its,n,r,e⟩:=I.cJ p _ h;exact⟨its,n,r,e,z⟩
theorem Inv.HS {pins:List (Addr×Obj)}{σ:St}{H:Hp}{s:qAi}{p:Addr}{xs ys:List V}{its its':List qAf}{n n':Nat}{f:Obj->Obj} (I:Inv X pins σ H s) (h:H p=some (.lst xs))
  (ho:s.heap.get? p=some { cls:=.type "list",data:=.seq its.toArray n }) (hf:f { cls:=.type "list",data:=.seq its.toArray n }={ cls:=.type "list",data:=.seq its'.toArray n' }) (r:Vals ys its') (hz:ys.length<=qAh) (t:Nat) :
  Inv X pins σ (upd H p (.lst ys)) { s with heap:=s.heap.update p f,toks:=t }:=by
 have e:(s.heap.update p f).get? p=some { cls:=.type "list",data:=.seq its'.toArray n' }:=by
  rw[qDe f ho (by rw[hf] <;> rfl),hf]
 refine I.write (x:=p) (e:=p) (by rw[h];trivial) (.inl rfl) (fun b u hb q=>(qDx _ _ (Ne.symm hb)).trans q) ⟨_,e⟩ ?_;exact⟨hz,its',n',r,e⟩
def Mf:V->V->V->Hp->(Hp->Prop)->Prop:=fun o i v H Q=>∃p xs k j,o = .ref p/\i = .int k/\H p=some (.lst xs)/\BN xs.length k=some j/\Q (upd H p (.lst (xs.set j v)))
theorem set_list:HG X Mf:=by
 intro pins s σ H o i v ov iv u Q I ro ri rv h;obtain⟨p,xs,k,j,rfl,rfl,hp,hj,q⟩:=h;cases ro;obtain⟨t,rfl⟩:=ri;obtain⟨its,n,r,ho,hz⟩:=I.lst hp;obtain⟨h1,h2,h3,h4⟩:=yO hj;have hl:=r.length;have hn:=rT;have I':Inv X pins σ (upd H p (.lst (xs.set j v))) { s with heap:=s.heap.update p (Obj.mapSeq (·.setIfInBounds j u)) } :=
  I.HS hp ho (wQ its n j u) (r.set rv j) (by rw[qKn];exact hz) s.toks
 by_cases h0:0<=k
 ·have hk:k.toNat=j:=by
   rw[seqIndex_of h0 h4] at h1;exact Option.some.inj h1
  exact PySem.W.ki_setAt ho h0 (by lia) (by rw[qAw,<- hl];exact h4) (by rw[hk];exact⟨_,I',q⟩)
 ·have hk:(k+(its.toArray.size:Int)).toNat=j:=by
   rw[seqIndex_neg (by lia) h3] at h1;rw[qAw,<- hl];exact Option.some.inj h1
  exact PySem.W.ki_setBack ho (by lia) (by rw[qAw,<- hl];exact h3) (by lia) (by rw[hk];exact⟨_,I',q⟩)
theorem rW (lo hi:Option Int) (n:Nat):(qHm lo hi none n).1=((HT.dU n 0 lo:Nat):Int)/\(qHm lo hi none n).2.1=((HT.dU n n hi:Nat):Int)/\(qHm lo hi none n).2.2=1:=by
 refine⟨?_,?_,rfl⟩
 ·cases lo with
  | none=>simp[qHm,HT.dU]
  | some i =>
   simp only[qHm,HT.dU,qMw,show(1:Int)>0 by decide,if_true];by_cases h:i<0
   ·simp only[h,if_true] <;> lia
   ·simp only[h,if_false] <;> lia
 ·cases hi with
  | none=>simp[qHm,HT.dU]
  | some i =>
   simp only[qHm,HT.dU,qMw,show(1:Int)>0 by decide,if_true];by_cases h:i<0
   ·simp only[h,if_true] <;> lia
   ·simp only[h,if_false] <;> lia
theorem pZ (its:List qAf) (lo hi:Option Int):slicePick its.toArray lo hi none=((its.drop (HT.dU its.length 0 lo)).take (HT.dU its.length its.length hi-HT.dU its.length 0 lo)).toArray:=by
 obtain⟨h1,h2,h3⟩:=rW lo hi its.toArray.size;unfold slicePick;rw[h1,h2,h3];simp only[sliceRange_one,pick_run,qAw] <;> rfl
def Oh (K:qAc):V->Option Int->Option Int->Hp->VK->Prop:=fun x lo hi H Q=>∃a xs,x = .ref a/\aR K H a xs/\∀p,H p=none->Q (.ref p) (upd H p (.lst (fY xs lo hi)))
theorem rX:Mb X (Oh X.K):=by
 intro pins s σ H x v vl vu lo hi sl Q I rx hs pl pu h;obtain⟨a,xs,rfl,hx,q⟩:=h;cases rx;obtain⟨its,r,ht,hz⟩:=I.list hx;have hlen:=r.length;refine⟨"list",_,slot_list_getitem.lookup,ht.isList.typeIs,?_⟩;refine wpAny_getItem_list_slice ht.isList hs pl pu .none (by simp) ?_ (by rw[qAw] <;> lia);rw[pZ,<- hlen];refine⟨.ref s.heap.objs.size,_,I.laid (t':=s.toks) (o:=.lst (fY xs lo hi)) (fun b ob q=>qAj _ q) (qAg _) ?_,rfl,q _ (I.cJ.fresh (qAg _))⟩;exact⟨qCu (mU xs lo hi) hz,_,0,(r.drop (HT.dU xs.length 0 lo)).take (HT.dU xs.length xs.length hi-HT.dU xs.length 0 lo),qAt _ rfl⟩
def kW:V->Bool
 | .non=>true
 | .bl _=>true
 | .int _=>true
 | .str _=>true
 | _=>false
def ED:V->V->Bool
 | .non,.non=>true
 | .bl a,.bl b=>a == b
 | .bl a,.int b=>(if a then 1 else 0) == b
 | .int a,.bl b=>a == (if b then 1 else 0)
 | .int a,.int b=>a == b
 | .str a,.str b=>a == b
 | _,_=>false
theorem HU {A:qCt}{s:qAi}{y x:V}{u v:qAf} (ry:RelV y u) (rx:RelV x v) (fy:kW y=true) (fx:kW x=true):SeqAt.EqAt A s u v (ED y x):=by
 cases y with
 | non =>
  cases ry
  cases x with
  | non=>cases rx;exact SeqAt.EqAt.same _
  | bl b=>cases rx;exact SeqAt.EqAt.none_bool b
  | int b=>obtain⟨t,rfl⟩:=rx;exact SeqAt.EqAt.none_int b t
  | str b=>obtain⟨t,rfl⟩:=rx;exact SeqAt.EqAt.none_str b t
  | _=>exact absurd (show false=true from fx) qAp
 | bl a =>
  cases ry
  cases x with
  | non=>cases rx;exact SeqAt.EqAt.bool_none a
  | bl b=>cases rx;exact SeqAt.EqAt.bool_bool a b
  | int b=>obtain⟨t,rfl⟩:=rx;exact SeqAt.EqAt.bool_int a b t
  | str b=>obtain⟨t,rfl⟩:=rx;exact SeqAt.EqAt.bool_str a b t
  | _=>exact absurd (show false=true from fx) qAp
 | int a =>
  obtain⟨t',rfl⟩:=ry;cases x with
  | non=>cases rx;exact SeqAt.EqAt.int_none a t'
  | bl b=>cases rx;exact SeqAt.EqAt.int_bool a t' b
  | int b=>obtain⟨t,rfl⟩:=rx;exact SeqAt.EqAt.int_int a t' b t
  | str b=>obtain⟨t,rfl⟩:=rx;exact SeqAt.EqAt.int_str a t' b t
  | _=>exact absurd (show false=true from fx) qAp
 | str a =>
  obtain⟨t',rfl⟩:=ry;cases x with
  | non=>cases rx;exact SeqAt.EqAt.str_none a t'
  | bl b=>cases rx;exact SeqAt.EqAt.str_bool a t' b
  | int b=>obtain⟨t,rfl⟩:=rx;exact SeqAt.EqAt.str_int a t' b t
  | str b=>obtain⟨t,rfl⟩:=rx;exact SeqAt.EqAt.str_str a t' b t
  | _=>exact absurd (show false=true from fx) qAp
 | _=>exact absurd (show false=true from fy) qAp
def EE (x:V) (u:qAf):Bool:=match u with
 | .none=>ED .non x
 | .bool b=>ED (.bl b) x
 | .int i _=>ED (.int i) x
 | .str z _=>ED (.str z) x
 | _=>false
theorem BO {x y:V}{u:qAf} (r:RelV y u) (f:kW y=true):EE x u=ED y x:=by
 cases y with
 | non=>cases r;rfl
 | bl b=>cases r;rfl
 | int i=>obtain⟨t,rfl⟩:=r;rfl
 | str z=>obtain⟨t,rfl⟩:=r;rfl
 | _=>exact absurd (show false=true from f) qAp
theorem rY {x:V}:∀{xs:List V}{us:List qAf},Vals xs us->xs.all kW=true->us.any (EE x)=xs.any fun y=>ED y x
 | _,_,.nil,_=>rfl
 | y::xs,u::us,.cons r t,f=>by
  rw[qOu,qCd] at f;rw[qHv,qHv,BO r f.1,rY t f.2]
theorem oH {A:qCt}{s:qAi}{x:V}{v:qAf} (rx:RelV x v) (fx:kW x=true):∀{xs:List V}{us:List qAf},Vals xs us->xs.all kW=true->∀u∈us,SeqAt.EqAt A s u v (EE x u)
 | _,_,.nil,_=>fun u hu=>by cases hu
 | y::xs,u::us,.cons r t,f=>fun u' hu=>by
  rw[qOu,qCd] at f;rcases List.mem_cons.mp hu with rfl | hu
  ·rw[BO r f.1];exact HU r rx f.1 fx
  ·exact oH rx fx t f.2 u' hu
def Gj (x:V) (xs:List V):Bool:=xs.any fun y=>ED y x
def Pt (K:qAc) (neg:Bool):R2:=fun x y H Q=>∃p xs,y = .ref p/\(aR K H p xs\/cA K H p xs)/\kW x=true/\xs.all kW=true/\Q (.bl (if neg then !Gj x xs else Gj x xs)) H
theorem kX:iN X (qDw .NotIn) (Pt X.K true):=by
 intro pins s σ H x y v u Q I rx ry h;obtain⟨p,xs,rfl,hq,fx,fs,q⟩:=h;cases ry;rcases hq with hq | hq
 ·obtain⟨its,r,pl,hz⟩:=I.list hq;refine SeqAt.notIn_listAt (EE x) pl.isList (fun w hw=>oH rx fx r fs w (by simpa using hw)) ⟨.bl _,H,I,rfl,?_⟩;rw[show its.toArray.any (EE x)=its.any (EE x) by simp,rY r fs];exact q
 ·obtain⟨its,r,pl,hz⟩:=I.tuple hq;refine SeqAt.notIn_tupleAt (EE x) pl (fun w hw=>oH rx fx r fs w (by simpa using hw)) ⟨.bl _,H,I,rfl,?_⟩;rw[show its.toArray.any (EE x)=its.any (EE x) by simp,rY r fs];exact q
theorem aN:g5 X (.builtin "len") (fun xs H Q=>∃p ys,xs=[.ref p]/\(aR X.K H p ys\/cA X.K H p ys)/\Q (.int ys.length) H):=by
 intro pins s σ H xs us Q I r h;obtain⟨p,ys,rfl,hq,q⟩:=h;obtain⟨u,rfl,rx⟩:=vals1 r;cases rx;have hn:=rT;rcases hq with hq | hq
 ·obtain⟨its,r',pl,hz⟩:=I.list hq;have hlen:=r'.length;exact Calls.call_len_list pl.isList (by simp only[qAw] <;> lia) ⟨.int ys.length,H,I.tok _,⟨s.toks+1,by rw[qAw,hlen]⟩,q⟩
 ·obtain⟨its,r',pl,hz⟩:=I.tuple hq;have hlen:=r'.length;exact len_tuple pl (by simp only[qAw] <;> lia) ⟨.int ys.length,H,I.tok _,⟨s.toks+1,by rw[qAw,hlen]⟩,q⟩
theorem rZ:g5 X (.type "list") (fun xs H Q=>∃p ys,xs=[.ref p]/\(aR X.K H p ys\/cA X.K H p ys)/\∀l,H l=none->Q (.ref l) (upd H l (.lst ys))):=by
 intro pins s σ H xs us Q I r h;obtain⟨p,ys,rfl,hq,q⟩:=h;obtain⟨u,rfl,rx⟩:=vals1 r;cases rx;have fin:∀(its:List qAf),Vals ys its->ys.length<=qAh->∀(h':Heap) (c':Nat),(∀b o',s.heap.get? b=some o'->h'.get? b=some o') ->
   h'.get? s.heap.objs.size=some { cls:=.type "list",dict:=none,data:=.seq its.toArray c',slots:=#[] }->EP X pins σ Q (.ref s.heap.objs.size) { s with heap:=h' }:=fun its r' hz h' c' kp e =>
  ⟨.ref s.heap.objs.size,_,I.laid (t':=s.toks) kp (qAg _) (show cS X.prog X.w _ h' _ (.lst ys) from⟨hz,its,c',r',e⟩),rfl,q _ (I.cJ.fresh (qAg _))⟩
 rcases hq with hq | hq
 ·obtain⟨its,r',pl,hz⟩:=I.list hq;have hlen:=r'.length;obtain⟨o,ho,hc,n,hd⟩:=pl.isList;exact call_list_seq p (.inl rfl) ho hc hd (fun h' c' kp e=>fin its r' hz h' c' kp e) (by simp only[qAw] <;> lia)
 ·obtain⟨its,r',pl,hz⟩:=I.tuple hq;have hlen:=r'.length;obtain⟨o,ho,hc,n,hd⟩:=pl;exact call_list_seq p (.inr rfl) ho hc hd (fun h' c' kp e=>fin its r' hz h' c' kp e) (by simp only[qAw] <;> lia)
def Oi (K:qAc) (T:String) (x:V) (H:Hp):Prop:=match x with
 | .str _=>T="str"
 | .int _=>T="int"
 | .ref p=>(T="list"/\∃xs,aR K H p xs)\/(T="tuple"/\∃o,K.lookup p=some o/\o.cls = .type "tuple"/\o.dict=none) \/
   (T="dict"/\((∃kvs,H p=some (.dK kvs))\/∃kvs,H p=some (.dT kvs)))\/(T="set"/\∃S n,H p=some (.set S n))
 | _=>False
theorem BP {pins:List (Addr×Obj)}{σ:St}{H:Hp}{s:qAi}{T:String}{x:V}{v:qAf} (I:Inv X pins σ H s) (r:RelV x v) (ty:Oi X.K T x H) :
  s.TypeIs v T/\∀a,v = .ref a->∃ob,s.heap.get? a=some ob/\ob.dict=none:=by
 cases x with
 | str z =>
  obtain⟨t,rfl⟩:=r;cases (show T="str" from ty);exact⟨typeIs_str s z t,fun _ e=>nomatch e⟩
 | int i =>
  obtain⟨t,rfl⟩:=r;cases (show T="int" from ty);exact⟨typeIs_int s i t,fun _ e=>nomatch e⟩
 | ref p =>
  cases r
  rcases ty with ⟨rfl,xs,hq⟩ | ⟨rfl,o,hk,hc,hd⟩ | ⟨rfl,hk⟩ | ⟨rfl,S,n,hk⟩
  ·obtain⟨its,_,pl,_⟩:=I.list hq;refine⟨pl.isList.typeIs,fun a e=>?_⟩;cases e;obtain⟨o,n,e,c,hd,_⟩:=pl;exact⟨o,e,hd⟩
  ·refine⟨⟨o,I.wB p o hk,hc⟩,fun a e=>?_⟩;cases e;exact⟨o,I.wB _ o hk,hd⟩
  ·have z:∃o,s.heap.get? p=some o/\o.ExactDict:=by
    rcases hk with ⟨kvs,hk⟩ | ⟨kvs,hk⟩
    ·obtain⟨_,_,_,_,o,_,_,e,ex,_⟩:=I.cJ p _ hk;exact⟨o,e,ex⟩
    ·obtain⟨_,_,_,_,o,_,_,e,ex,_⟩:=I.cJ p _ hk;exact⟨o,e,ex⟩
   obtain⟨o,e,ex⟩:=z;refine⟨⟨o,e,ex.1⟩,fun a e2=>?_⟩;cases e2;exact⟨o,e,ex.2.1⟩
  ·obtain⟨o,_,_,_,e,ex,_⟩:=I.cJ p _ hk;refine⟨⟨o,e,ex.1⟩,fun a e2=>?_⟩;cases e2;exact⟨o,e,ex.2.1⟩
 | _=>exact False.elim ty
def Oj (K:qAc) (T:String) (r:V->List V->Hp->VK->Prop) (to:TE):TE:=fun σ H Q=>to σ H fun x H1=>Oi K T x H1/\r x [] H1 Q
def Pa (K:qAc) (T:String) (r:V->List V->Hp->VK->Prop) (to:TE) (t:TA):TE:=fun σ H Q=>to σ H fun x H1=>Oi K T x H1/\t σ H1 fun xs H2=>r x xs H2 Q
variable {o e:Expr}{es:List Expr}{to:TE}{t:TA}{name:Str}{apos cpos:Pos}{T id:String}{r:V->List V->Hp->VK->Prop}
theorem HV (pa:PlainAttrs T) (slot:Slot T name id) (hty:qOx (.builtin id)=pure (.type "method_descriptor")) (hm:Gi X id r) (ho:PE X o to)
  (hbase:qGh o name X.env (eval o X.env)=eval o X.env:=by rfl) (hline:(apos.endLine == cpos.line)=true:=by rfl):PE X (.Call (.Attribute o name apos) [] [] cpos) (Oj X.K T r to):=by
 intro pins s σ H Q I h;refine wpAny_Call_method0_late hbase hline (cF (ho pins s σ H _ I h) fun v s1 ⟨x,H1,I1,r1,ty,q1⟩=>?_);obtain⟨h1,h2⟩:=BP I1 r1 ty;exact⟨T,id,pa,slot,hty,h1,h2,qHx rfl (PySem.evalArgs_none (hm pins s1 σ H1 x [] v [] Q I1 r1 .nil q1))⟩
theorem qF (pa:PlainAttrs T) (slot:Slot T name id) (hty:qOx (.builtin id)=pure (.type "method_descriptor")) (hm:Gi X id r) (ho:PE X o to) (ha:PA X (e::es) t)
  (hbase:qGh o name X.env (eval o X.env)=eval o X.env:=by rfl)
  (hfew:((qHc cpos (qBt (e::es) X.env)).all (fun x=>!x.1)&&(backToKw cpos (keywordEach [] X.env)).all (fun x=>x.1.isSome)
   && decide ((e::es).length+([]:List qOq).length+(if ([]:List qOq).isEmpty then 0 else 1)<30))=true:=by rfl)
  (hline:(apos.endLine == cpos.line)=true:=by rfl) (hs:qBt (e::es) X.env=(false,eval e X.env)::qBt es X.env:=by rfl) (hplain:(qHc cpos (qBt es X.env)).any (·.1)=false:=by rfl) :
  PE X (.Call (.Attribute o name apos) (e::es) [] cpos) (Pa X.K T r to t):=by
 intro pins s σ H Q I h;refine wpAny_Call_method_late hbase hfew hline rfl (cF (ho pins s σ H _ I h) fun v s1 ⟨x,H1,I1,r1,ty,q1⟩=>?_);obtain⟨h1,h2⟩:=BP I1 r1 ty;refine⟨T,id,pa,slot,hty,h1,h2,?_⟩;have hA:=ha cpos pins s1 σ H1 _ I1 q1;rw[hs] at hA|-;refine qHx (by show(false||(qHc cpos (qBt es X.env)).any (·.1))=false;rw[hplain] <;> rfl) (qLw ?_)
 exact cF hA fun us s2 ⟨vs,H2,I2,r2,q2⟩=>hm pins s2 σ H2 x vs v us Q I2 r1 r2 q2
end
def Ol (X:Cx) (id:String) (r:V->List V->Hp->VK->Prop):Prop :=
 ∀(pins:List (Addr×Obj)) (s:qAi) (σ:St) (H:Hp) (x:V) (xs:List V) (v:qAf) (us:List qAf) (Q:VK),Inv X pins σ H s->RelV x v->Vals xs us->r x xs H Q ->
  qBg (qBz X.prog X.w) X.A (call (.builtin id) (v::us)) (EP X pins σ Q) X.xe s
theorem Vals.one:∀{x:V}{us:List qAf},Vals [x] us->∃u,us=[u]/\RelV x u
 | _,_,.cons r .nil=>⟨_,rfl,r⟩
theorem Vals.zero:∀{us:List qAf},Vals [] us->us=[]
 | _,.nil=>rfl
theorem Vals.dropLast {xs:List V}{us:List qAf} (h:Vals xs us):Vals xs.dropLast us.dropLast:=by
 induction h with
 | nil=>exact .nil
 | cons r t ih =>
  cases t with
  | nil=>exact .nil
  | cons q t'=>exact .cons r ih
theorem Vals.rep {xs:List V}{us:List qAf} (h:Vals xs us):∀k:Nat,Vals (qBl k xs).flatten (qBl k us).flatten
 | 0=>.nil
 | k+1=>by
  rw[qEa,qEa,qFf,qFf];exact Vals.append h (Vals.rep h k)
theorem wR {α:Type} (l:List α):l.eraseIdx (l.length-1)=l.dropLast:=by
 induction l with
 | nil=>rfl
 | cons a r ih =>
  cases r with
  | nil=>rfl
  | cons b r =>
   have e:(a::b::r).length-1=((b::r).length-1)+1:=by
    have h1:(a::b::r).length=r.length+2:=rfl;have h2:(b::r).length=r.length+1:=rfl;lia
   rw[e,List.eraseIdx_cons_succ,ih];all_goals rfl
theorem foldl_rep (its:List qAf):∀(k:Nat) (acc:List qAf),
  qNl (fun x1 x2=>x1++x2) acc.toArray (qBl k its.toArray)=(acc++(qBl k its).flatten).toArray
 | 0,acc=>by simp
 | k+1,acc=>by
  have e:acc.toArray++its.toArray=(acc++its).toArray:=by simp
  have e2:(acc++its)++(qBl k its).flatten=acc++(qBl (k+1) its).flatten:=by
   rw[qEa,qFf,qHr]
  rw[<- e2,<- foldl_rep its k (acc++its),<- e,qEa,List.foldl_cons]
section
variable {X:Cx}{pins:List (Addr×Obj)}{σ:St}{H:Hp}{s:qAi}{l b:Addr}{xs ys zs:List V}
theorem Inv.HW {its its':List qAf}{n:Nat}{f:Array qAf->Array qAf}{t':Nat} (I:Inv X pins σ H s) (hH:H l=some (.lst xs))
  (e:s.heap.get? l=some { cls:=.type "list",data:=.seq its.toArray n }) (hf:f its.toArray=its'.toArray) (hv:Vals ys its') (hz:ys.length<=qAh) :
  Inv X pins σ (upd H l (.lst ys)) { s with heap:=s.heap.update l (Obj.mapSeq f),toks:=t' }:=by
 have q:=PySem.IsL.update e f;rw[hf] at q;refine I.write (x:=l) (e:=l) (by rw[hH];exact trivial) (.inl rfl) (fun b' u hb hu=>(qDx s.heap (Obj.mapSeq f) (Ne.symm hb)).trans hu) ⟨_,q⟩ ?_;exact⟨hz,its',_,hv,q⟩
theorem Inv.Mg {its:List qAf}{t':Nat} (I:Inv X pins σ H s) (hv:Vals ys its) (hz:ys.length<=qAh) :
  Inv X pins σ (upd H s.heap.objs.size (.lst ys)) { s with heap:=s.heap.push { cls:=.type "list",data:=.seq its.toArray },toks:=t' } :=
 I.laid (fun _ _ q=>qAj _ q) (qAg _) ⟨hz,its,0,hv,qAt _ rfl⟩
theorem Inv.fresh (I:Inv X pins σ H s):H s.heap.objs.size=none:=I.cJ.fresh (qAg _)
theorem Inv.BQ (I:Inv X pins σ H s) (hH:H l=some (.lst xs)):xs.length<=qAh/\∃(its:List qAf) (n:Nat),Vals xs its/\xs.length=its.length/\s.heap.get? l=some { cls:=.type "list",data:=.seq its.toArray n }:=by
 obtain⟨z,its,n,r,e⟩:=I.cJ l _ hH;exact⟨z,its,n,r,r.length,e⟩
theorem uA {n:Nat} (h:n<=qAh):Builtin.List.listTooLong n=false:=by
 unfold Builtin.List.listTooLong;exact decide_eq_false (by lia)
end
section
variable {X:Cx}
def yQ:V->List V->Hp->VK->Prop:=fun x vs H Q=>∃l xs y,x = .ref l/\vs=[y]/\H l=some (.lst xs)/\xs.length<qAh/\Q .non (upd H l (.lst (xs++[y])))
theorem mE:Ol X "list.append" yQ:=by
 intro pins s σ H x vs v us Q I rx rv h;obtain⟨l,xs,y,rfl,rfl,hH,hz,q⟩:=h;cases rx;obtain⟨u,rfl,ru⟩:=rv.one;obtain⟨z,its,n,r,hl,e⟩:=I.BQ hH;refine qIb F.slot_list_append ⟨_,e,rfl⟩ F.entry_list_append (F.args_list_append_2 _ _) (PySem.list_append l its.toArray n u (by rw[qAw];lia)) ⟨e,?_⟩;refine⟨.non,_,I.HW (its':=its++[u]) hH e (by simp) (r.append (.cons ru .nil)) ?_,rfl,q⟩;rw[qAm,qBc];lia
def Mh:V->List V->Hp->VK->Prop:=fun x vs H Q=>∃l xs y,x = .ref l/\vs=[]/\H l=some (.lst xs)/\xs[xs.length-1]?=some y/\Q y (upd H l (.lst xs.dropLast))
theorem HX:Ol X "list.pop" Mh:=by
 intro pins s σ H x vs v us Q I rx rv h;obtain⟨l,xs,y,rfl,rfl,hH,hy,q⟩:=h;cases rx;have hus:=rv.zero;subst hus;obtain⟨z,its,n,r,hl,e⟩:=I.BQ hH;obtain⟨u,hu,ru⟩:=r.get hy;have hy':its.toArray[its.toArray.size-1]?=some u:=by
  show its.toArray[its.length-1]?=some u;rw[<- qDd,<- hl];exact hu
 refine qIb F.slot_list_pop ⟨_,e,rfl⟩ F.entry_list_pop (F.args_list_pop_1 _) (MeetsSeq.list_pop_last l its.toArray n u hy' (by rw[qAw];lia)) ⟨e,?_⟩;refine⟨y,_,I.HW (its':=its.dropLast) hH e ?_ r.dropLast ?_,ru,q⟩
 ·show its.toArray.eraseIdxIfInBounds (its.toArray.size-1)=its.dropLast.toArray;rw[qAw,List.eraseIdxIfInBounds_toArray,wR]
 ·rw[qMf];lia
def Om:R2:=fun x y H Q=>∃l k xs,x = .ref l/\y = .int k/\H l=some (.lst xs)/\-(2^63)<=k/\k<2^63/\xs.length*k.toNat<=qAh /\
 ∀p,H p=none->Q (.ref p) (upd H p (.lst (qBl k.toNat xs).flatten))
theorem len_rep {α:Type} (xs:List α) (k:Nat):(qBl k xs).flatten.length=k*xs.length:=by
 induction k with
 | zero=>simp
 | succ k ih=>rw[qEa,qFf,qAm,ih,Nat.succ_mul,qJs]
theorem hU:iN X (qFw .Mult) Om:=by
 intro pins s σ H x y v u Q I rx ry h;obtain⟨l,k,xs,rfl,rfl,hH,h1,h2,hz,q⟩:=h;cases rx;obtain⟨t,rfl⟩:=ry;obtain⟨z,its,n,r,hl,e⟩:=I.BQ hH;have hlen:its.toArray.size*k.toNat<=qAh:=by rw[qAw,<- hl];exact hz
 have hcap:¬its.toArray.size*k.toNat>(2^63-1)/8:=by
  have:(qAh:Nat)<=(2^63-1)/8:=by decide
  lia
 have hfit:¬(!Builtin.List.listFitsIndex k)=true:=by
  rw[fitsIndex_both h1 h2];exact qAp
 have hlong:¬Builtin.List.listTooLong (its.toArray.size*k.toNat)=true:=by
  rw[uA hlen];exact qAp
 have hnew:qNl (fun x1 x2=>x1++x2) #[] (qBl (if its.toArray.isEmpty=true then 0 else k.toNat) its.toArray)=(qBl k.toNat its).flatten.toArray:=by
  have f0:∀m:Nat,qNl (fun x1 x2=>x1++x2) #[] (qBl m its.toArray)=(qBl m its).flatten.toArray:=fun m=>by
   have:=foldl_rep its m [];rw[qCm] at this;exact this
  rw[f0];cases its with
  | nil=>simp
  | cons a r'=>rw[if_neg (by simp)]
 refine wpAny_binaryOp_repeat_ref (T:="list") (U:="int") (by decide) ⟨_,e,rfl⟩ (fun s'=>typeIs_int s' k t) noFill_list_mul F.fills_int_mul F.slot_int_rmul repeat_list F.slot_int_index.lookup
  (qIb F.slot_int_rmul (typeIs_int s k t) F.entry_int_rmul (F.args_int_rmul_2 _ _) (int___rmul___int_list k t l its.toArray n)
   ⟨e,rfl,⟨_,e,rfl⟩,qIb F.slot_list_mul ⟨_,e,rfl⟩ F.entry_list_mul (F.args_list_mul_2 _ _) (AutoListH.list___mul___list_int_3 l its.toArray n k t hfit hcap hlong) ⟨e,?_⟩⟩)
 rw[hnew];exact⟨.ref _,_,I.Mg (t':=s.toks) (r.rep k.toNat) (by rw[len_rep,qMc];exact hz),rfl,q _ I.fresh⟩
end
section
variable {prog:qBm}{w:qCy}{A:qCt}{E:qAf->qAi->Prop}{s:qAi}
set_option maxRecDepth 100000 in
end
section
variable {X:Cx}
end
end L2
namespace Att
open PySem PySem.W PySem.Calls PyProof.Rows
theorem nB {P:Params}{h:Heap}:∀(ns:List Int) (vs:List qAf),WellAll P h vs (ns.map WData.int)->qHy vs ns:=by
 intro ns;induction ns with
 | nil =>
  intro vs w;rw[qEp] at w;cases w;exact .nil
 | cons n ns ih =>
  intro vs w;rw[qDb] at w;cases w with
  | cons a b =>
   cases a
   exact .cons _ _ (ih _ b)
theorem AB {l:OpenLaw}{n:Nat} (hn:l.most=some n){P:Params}{h:Heap}{args:List WData}{vals:List qAf}
  (hpre:l.row.toRowW.claim.pre args=true) (hwl:WellAll P h vals args) :
  ∃a vs ns,vals=[Value.ref a]/\args=[WData.list (ns.map WData.int)]/\h.get? a=some { cls:=.type "list",data:=.seq vs.toArray }/\qHy vs ns/\ns.length<=n:=by
 have hsh:WShape.hasAll [] args [.list .int]=true:=(pre_splitW hpre).1;have hc:l.pre.holds [] { args:=args }=true:=(pre_splitW hpre).2;obtain⟨d,r,rfl,h1,h2⟩:=hasAllW_cons hsh;obtain rfl:=hasAllW_nil h2;obtain⟨xs,rfl,h3⟩:=hasW_list h1;obtain⟨ns,rfl⟩:=items_int h3;have hlen:ns.length<=n:=by
  unfold OpenLaw.pre at hc;have h4:(WTm.not (.lt (.lit (.int (n:Int))) (.len (.arg 0)))).holds [] { args:=[.list (ns.map .int)] }=true:=by
   have h4:=(holds_andW hc).1;rw[hn] at h4;exact h4
  have h5:=condW_of h4 (w_not (w_lt w_lit (w_len_list (w_arg rfl))));rw[qAb] at h5;refine Nat.le_of_not_lt fun q=>?_;have q':(n:Int)<((ns.length:Nat):Int):=by lia
  first
   | (rw[decide_eq_true q'] at h5;exact absurd h5 (by decide))
   | (simp at h5;lia)
 cases hwl with
 | cons w1 w2 =>
  cases w2
  cases w1 with
  | list ho hall=>exact⟨_,_,ns,rfl,rfl,ho,nB ns _ hall,hlen⟩
theorem AD (l:OpenLaw) (args:List WData):l.row.toRowW.claim.post args (.bool true) args=true :=
 postW_of (r:=l.row.toRowW) (X:=(true == true))
  (show WShape.has [] (.bool true) .bool=true by first | rfl | decide | simp[WShape.has,WShape.arms,WShape.armsAll])
  (show(WTm.eq .res (.lit (.bool true))).value [] { args:=args,res:=some (.bool true),after:=args }=some (.bool (true == true)) from w_eq_bool (w_res rfl) w_lit) rfl
theorem uB {l:OpenLaw}{n:Nat}{q:qBm}{loose:List Str}{XP:(Str->Option qAf)->Heap->Prop}{YP:qCy->Heap->Prop}{d:DefRec}
  (hn:l.most=some n) (hdf:d.params.defaults=[])
  (call:∀(w:qCy) (s₀ s₁:qAi) (mg mb:Str->Option qAf) (fa:Addr) (o:Obj) (pm cd doc:qAf) (a:Addr) (vs:List qAf) (ns:List Int),
   Ground q loose [] XP w s₀ mg mb s₁.heap->YP w s₁.heap ->
   s₁.heap.get? fa=some o->o.data = .func (docDef d.name d.params d.body d.scope pm cd doc)->s₁.heap.CodeRec cd d.name->mg d.name=some (.ref fa) ->
   s₁.heap.get? a=some { cls:=.type "list",data:=.seq vs.toArray }->qHy vs ns->ns.length<=n->s₁.gens=#[] ->
   qHn (qBz l.prog w) qLp (.call (.ref fa) ⟨[.ref a],[]⟩) (fun r s'=>r = .ok (.ret (.bool true))/\OldK s₁.heap s'.heap/\s'.os=s₁.os/\qJc s'.gens) s₁) :
  WalkO q loose XP YP l.row.toRowW d [] (fun f vs=>PySem.call f vs):=by
 intro w s₀ s₁ mg mb G Y fa o pm cd doc dV kV ho hd hcd hD hmg hg args vals as hpre hlay hrd hwl hlo;obtain rfl:dV = .none:=Dflts.none hD hdf;obtain rfl:kV = .none:=Dflts.noKw hD;obtain⟨a,vs,ns,rfl,rfl,hobj,hints,hlen⟩:=AB hn hpre hwl;refine enter_call (qGc (call w s₀ s₁ mg mb fa o pm cd doc a vs ns G Y ho (fd_plain hd) hcd hmg hobj hints hlen hg) fun r s' hq=>?_);obtain⟨rfl,h2,h3,h4⟩:=hq;exact⟨.inl ⟨.bool true,.bool true,[],rfl,fun _=>rfl,.bool true,AD l _,fun _=>⟨List.Pairwise.nil,fun _ hm=>(nomatch hm)⟩⟩,h2,h3,h4⟩
section
variable {prog:qBm}{w:qCy}{A:qCt}{E:qAf->qAi->Prop}{s:qAi}{K:Frag}
end
end Att
namespace L2
open PySem PySem.Spec PyProof.Rows
theorem qG:∀{vs:List qAf}{ns:List Int},qHy vs ns->Vals (ns.map V.int) vs
 | _,_,.nil=>.nil
 | _,_,.cons n t h=>.cons ⟨t,rfl⟩ (qG h)
def HY (H:Hp):Prop:=∀b,H b=none\/∃o xs,H b=some (.frz o (.lst xs))
theorem BR {P:qBm}{w:qCy}{K:qAc}{mg mb:Str->Option qAf}{CX:Az}{k:Nat}{fa a:Addr}{fd:qBo}{x:Str}{sp:Sp}{s₁:qAi}{vs:List qAf}{ns:List Int}
  (KX:K.In s₁.heap) (hns:s₁.heap.Ns qBh mg) (hb:s₁.heap.Ns builtinsNs mb) (hbb:∀x:Str,x≠"__name__"->mb x=qCs x) (hlim:s₁.heap.NoLimit) (hg:s₁.gens=#[])
  (ha:s₁.heap.get? a=some { cls:=.type "list",data:=.seq vs.toArray }) (hi:qHy vs ns) (hl:ns.length<=qAh) (hr:dX k qLp)
  (F:∀base:Heap,K.In base->base.Ns qBh mg->i9 P w K mg base CX k fa fd [x] sp) (hbind:∀(s:qAi) (u:qAf),qNi s fd ⟨[u],[]⟩ [(x,u)])
  (hsp:∀H:Hp,HY H->aR K H a (ns.map V.int)->sp [.ref a] H (fun v _=>v = .bl true) fun _ _ _=>False)
  (hCX:∀H e s',CX [] H s₁ (fun _ _ _=>False) e s'->False) :
  qHn (qBz P w) qLp (.call (.ref fa) ⟨[.ref a],[]⟩) (fun r s'=>r = .ok (.ret (.bool true))/\OldK s₁.heap s'.heap/\s'.os=s₁.os/\qJc s'.gens) s₁:=by
 have rv:=qG hi;have lenV:=hi.length;have core:∀H:Hp,HY H->aR K H a (ns.map V.int)->j6 P w H s₁.heap->(∀b,H b≠none->b=a)->(H a≠none->K.lookup a=none) ->
   qHn (qBz P w) qLp (.call (.ref fa) ⟨[.ref a],[]⟩) (fun r s'=>r = .ok (.ret (.bool true))/\OldK s₁.heap s'.heap/\s'.os=s₁.os/\qJc s'.gens) s₁:=by
  intro H hO hS cJ hA hK;have base_of:∀{b:Addr}{o:Obj},s₁.heap.get? b=some o->H b=none->(rN s₁.heap H).get? b=some o:=fun e n=>Bz e n;have noA:∀{b:Addr}{o:Obj}{es:Array DictEntry}{ep:Nat},s₁.heap.get? b=some o->o.data = .dict es ep->H b=none:=fun {b o es ep} e d=>by
   cases q:H b with
   | none=>rfl
   | some u =>
    have e':b=a:=hA b (by rw[q];simp);subst e';rw[ha] at e;cases e;have d':Data.seq vs.toArray _=Data.dict es ep:=d;cases d'
  have nsK:∀{b:Addr}{m:Str->Option qAf},s₁.heap.Ns b m->(rN s₁.heap H).Ns b m:=fun {b m} ⟨o,es,ep,e,d,r⟩=>⟨o,es,ep,base_of e (noA e d),d,r⟩;have hKb:K.In (rN s₁.heap H):=fun b o e=>base_of (KX b o e) (by
   cases q:H b with
   | none=>rfl
   | some u =>
    have e':b=a:=hA b (by rw[q];simp);subst e';rw[hK (by rw[q];simp)] at e;cases e)
  have hM:Mod K mg (rN s₁.heap H):=⟨hKb,nsK hns,⟨mb,nsK hb,hbb⟩,let ⟨mc,h1,h2⟩:=hlim;⟨mc,nsK h1,h2⟩⟩;have e0:wM P w K mg (rN s₁.heap H) qLp [] s₁ H:=⟨rfl,hM,fun b o e=>Ep e,qIi (Aq _ _),trivial,fun b hb=>absurd (show b∈([]:List Addr) from hb) (by simp),cJ,.of_eq hg⟩;refine qGc ((F _ hKb (nsK hns)).run qLp [] s₁ H ⟨[.ref a],[]⟩ [.ref a] [.ref a] _ _ hr e0 (hbind s₁ (.ref a)) (.cons rfl .nil) (hsp H hO hS)) fun r s' h=>?_;cases r with
  | error e=>exact(hCX H e s' h).elim
  | ok fl =>
   cases fl with
   | next=>exact False.elim h
   | brk=>exact False.elim h
   | cont=>exact False.elim h
   | ret u =>
    obtain⟨v,H',os,bare,un,hok',r',q⟩:=h;have q':v = .bl true:=q;subst q';obtain rfl:u=Value.bool true:=r';refine⟨rfl,OldK.of_keep fun b o e=>?_,os,bare⟩;cases q:H b with
    | none=>exact un.keep b o e q (by intro z;exact absurd (show b∈([]:List Addr) from z) (by simp)) (by simp)
    | some u =>
     rcases hO b with z | ⟨ob,xs,z⟩
     ·rw[q] at z;cases z
     ·have z2:=un.kO b ob _ z;obtain⟨e1,_⟩:=cJ b _ z;obtain⟨e2,_⟩:=hok' b _ z2;rw[e] at e1;cases e1;exact e2
 cases hk:K.lookup a with
 | some o =>
  have e:=KX a o hk;rw[ha] at e;cases e;refine core (fun _=>none) (fun _=>.inl rfl) (.inr ⟨_,vs.toArray,_,hk,rfl,rfl,rfl,by rw[qAw,lenV];exact hl,by simpa using rv⟩) (fun b u z=>by have z':(none:Option HO)=some u:=z;cases z') (fun b z=>absurd rfl z) fun z=>absurd rfl z
 | none =>
  refine core (fun b=>if b=a then some (.frz { cls:=.type "list",data:=.seq vs.toArray } (.lst (ns.map V.int))) else none) (fun b=>?_) (.inl (.inr ⟨{ cls:=.type "list",data:=.seq vs.toArray },if_pos rfl⟩)) (fun b u z=>?_) (fun b z=>?_) fun _=>hk
  ·by_cases hb:b=a
   ·exact .inr ⟨_,_,if_pos hb⟩
   ·exact .inl (if_neg hb)
  ·by_cases hb:b=a
   ·have z':=(if_pos hb).symm.trans z;cases z';subst hb;exact⟨ha,by rw[qAb];exact hl,vs,_,rv,ha⟩
   ·have z':=(if_neg hb).symm.trans z;cases z'
  ·by_cases hb:b=a
   ·exact hb
   ·exact absurd (if_neg hb) z
theorem EF {l:qMu}{n k:Nat}{q:qBm}{loose:List Str}{XP:(Str->Option qAf)->Heap->Prop}{YP:qCy->Heap->Prop}{d:DefRec}{K:Params->qAc}{CX:qCy->Az}{sp:qCy->Sp}{x:Str}
  (hn:l.most=some n) (hn2:n<=qAh) (hdf:d.params.defaults=[]) (hr:dX k qLp)
  (hY:∀(w:qCy) (h:Heap),YP w h->(K w.params).In h)
  (F:∀(w:qCy) (mg:Str->Option qAf) (fa:Addr) (h:Heap),(K w.params).In h->h.Ns qBh mg->mg d.name=some (.ref fa) ->
   ∃fd:qBo,(∀(s:qAi) (u:qAf),qNi s fd ⟨[u],[]⟩ [(x,u)]) /\
    ∀base:Heap,(K w.params).In base->base.Ns qBh mg->i9 l.prog w (K w.params) mg base (CX w) k fa fd [x] (sp w))
  (hsp:∀(w:qCy) (H:Hp) (a:Addr) (ns:List Int),ns.length<=n->HY H->aR (K w.params) H a (ns.map V.int)->sp w [.ref a] H (fun v _=>v = .bl true) fun _ _ _=>False)
  (hCX:∀(w:qCy) (H:Hp) (s:qAi) (e:qAf) (s':qAi),CX w [] H s (fun _ _ _=>False) e s'->False) :
  qNp q loose XP YP l.row.toRowW d [] (fun f vs=>PySem.call f vs):=by
 refine Att.uB hn hdf fun w s₀ s₁ mg mb fa o pm cd doc a vs ns G Y ho hd hcd hmg hobj hints hlen hg=>?_;have KX:=hY w _ Y;obtain⟨fd,hb,hF⟩:=F w mg fa _ KX G.T.g hmg;exact BR KX G.T.g G.T.b G.T.builtins G.T.nolimit hg hobj hints (qCu hlen hn2) hr hF hb (fun H hO hS=>hsp w H a ns hlen hO hS) fun H e s'=>hCX w H s₁ e s'
def inClass (s:Stmt) (j:Nat):Stmt:=match s with
 | .ClassDef _ _ _ body _ _ _ _ _ _ _=>body.getD j (.Pass ⟨0,0,0,0⟩)
 | _=>.Pass ⟨0,0,0,0⟩
def dR (s:Stmt):Arguments:=match s with
 | .FunctionDef _ a _ _ _ _ _ _ _ _=>a
 | _=>{ posonlyargs:=[],args:=[],vararg:=none,kwonlyargs:=[],kw_defaults:=[],kwarg:=none,defaults:=[] }
def cQ (s:Stmt):List Stmt:=match s with
 | .FunctionDef _ _ b _ _ _ _ _ _ _=>b
 | _=>[]
def aI (s:Stmt):qIn:=match s with
 | .FunctionDef _ _ _ _ _ _ sc _ _ _=>sc
 | _=>{ kind:=.function,names:=[],isGenerator:=false,isCoroutine:=false }
abbrev b0:Az:=fun _ _ _ _ _ _=>False
abbrev E0:XK:=fun _ _ _=>False
theorem Mi {X:Cx}:Passes b0 X E0:=fun _ _ _ _ _ _ _ h=>h.elim
structure HZ (K:qAc) (x qual:Str) (st:Stmt) (f:Addr) (fd:qBo):Prop where
 ex:∃(oc:qAf) (od:Option Addr) (kV doc pm:qAf) (an:Option Addr) (cdv ct:qAf) (osl:Array (Option qAf)),
  fd=qDn x qual (dR st) (cQ st) (aI st) .none kV doc pm an cdv ct/\K.lookup f=some ⟨oc,od,.func fd,osl⟩/\qDz K cdv qual=true
 kp:qCv K (.ref f)=true
section
variable {P:qBm}{w:qCy}{K:qAc}{mg:Str->Option qAf}{base:Heap}
theorem HZ.ok {x qual:Str}{st:Stmt}{f:Addr}{fd:qBo}{N ps:List Str}{k:Nat}{sp:Sp} (F:HZ K x qual st f fd) (S:aT N ps (aI st)) (len:∀vs H Q E,sp vs H Q E->vs.length=ps.length)
  (hbody:∀(cdv:qAf) (A:qCt) (outer:List Env) (s:qAi) (H:Hp) (vs:List V) (Q:VK) (E:XK),dX k (A.deeper (qJb qual (aI st) s.heap.objs.size f cdv))->sp vs H Q E ->
   ∃t,tU (oF b0 P w K mg base N qual (aI st) f cdv A outer s H E).Lw (cQ st) t/\t { nx:=fun _ H'=>Q .non H',rt:=Q } (start N vs) H):i9 P w K mg base b0 (k+1) f fd ps sp:=by
 obtain⟨oc,od,kV,doc,pm,an,cdv,ct,osl,rfl,lk,hcd⟩:=F.ex;refine Gh lk hcd S len fun A outer s H vs Q E hr hsp=>?_;obtain⟨t,h,q⟩:=hbody cdv A outer s H vs Q E hr hsp;exact⟨t,h.Lw,q⟩
theorem BS {x qual:Str}{st:Stmt}{f:Addr}{oc:qAf}{od an:Option Addr}{osl:Array (Option qAf)}{kV doc pm cdv ct:qAf} (l:K.lookup f=some ⟨oc,od,.func (qDn x qual (dR st) (cQ st) (aI st) .none kV doc pm an cdv ct),osl⟩)
  (c:qDz K cdv qual=true) (k:qCv K (.ref f)=true):HZ K x qual st f (qDn x qual (dR st) (cQ st) (aI st) .none kV doc pm an cdv ct):=⟨⟨oc,od,kV,doc,pm,an,cdv,ct,osl,rfl,l,c⟩,k⟩
end
theorem BU {A:qCt}{k:Nat} (hr:dX k A):A.units+1<qLq:=qBp (Nat.add_le_add_left (by decide:1<=64) _) hr.units
theorem aO {n:Nat} (h:n<=1000):n<qAh:=qBp h (by decide)
section
variable {X:Cx}
theorem pv (i:Nat){x:Str}{pos:Pos} (hN:X.N[i]?=some x:=by rfl) (hv:NC X.env.scope x:=by first|exact Or.inl rfl | exact Or.inr bT | exact Or.inr (Or.inr rfl)) (hd:(x == ("__debug__":Str))=false:=by decide)
  (hcd:(x == ("__classdict__":Str))=false:=by decide):PE X (.Name x pos) (LK i):=HB hN hv hd hcd
end
theorem cL {A B:Prop} (h:B):if false=true then A else B:=by
 rw[if_neg qAp];exact h
theorem iP {A B:Prop} (h:A):if true=true then A else B:=by
 rw[if_pos rfl];exact h
theorem cY {c A B:Prop} [Decidable c] (h1:c->A) (h2:¬c->B):if c then A else B:=by
 by_cases h:c
 ·rw[if_pos h];exact h1 h
 ·rw[if_neg h];exact h2 h
theorem iE {c A B:Prop} [Decidable c] (hc:c) (h:B):if (!decide c)=true then A else B:=by
 rw[decide_eq_true hc];exact cL h
def aH (H H':Hp):Prop:=∀b o,H b=some o->H' b=some o
theorem aH.refl (H:Hp):aH H H:=fun _ _ h=>h
theorem aH.trans {H H1 H2:Hp} (a:aH H H1) (b:aH H1 H2):aH H H2:=fun c o h=>b c o (a c o h)
theorem aH.free {H H':Hp} (e:aH H H'){l:Addr} (h:H' l=qOr):H l=qOr:=by
 cases q:H l with
 | none=>rfl
 | some o =>
  rw[e l o q] at h;cases h
theorem aH.seq {K:qAc}{H H':Hp}{a:Addr}{xs:List V} (e:aH H H') (h:aR K H a xs):aR K H' a xs:=by
 rcases h with (h | ⟨o,h⟩) | h
 ·exact .inl (.inl (e _ _ h))
 ·exact .inl (.inr ⟨o,e _ _ h⟩)
 ·exact .inr h
def mV (cells:List (Str×Addr)):List (Str×Addr)->Prop
 | []=>True
 | p::r=>cells.lookup p.1=some p.2/\mV cells r
theorem mV.of {cells:List (Str×Addr)}:∀{cl:List (Str×Addr)},mV cells cl->∀x c,cl.lookup x=some c->cells.lookup x=some c
 | [],_,x,c,h=>by cases h
 | (y,d)::r,hl,x,c,h=>by
  rw[qJt] at h;cases hx:x == y with
  | true =>
   rw[hx] at h;have e:x=y:=by simpa using hx
   subst e;cases h;exact hl.1
  | false =>
   rw[hx] at h;exact mV.of hl.2 x c h
def r6 (X:Cx) (NB:List Str) (sc:qIn) (cl:List (Str×Addr)) (s₃:qAi) (H₃:Hp) (fp:List Addr):Cx :=
 { X with N:=NB,s₀:=s₃,H₀:=H₃,env:=compEnvC sc cl s₃.heap.objs.size X.env,outer:=X.stack,stack:=X.stack,ex:=fp,fn:=fun _=>false,pn:=[],xe:=fun _ _=>False }
structure Ly (X:Cx) (NB:List Str) (pick:List (Option Nat)) (sc:qIn) (cl:List (Str×Addr)):Prop where
 wU:qMt sc X.env=pure cl
 kind:sc.kind = .function
 wV:∀y∈sc.names,y.2≠.cell
 names:∀y∈sc.names,y.2 = .local->sc.names.lookup y.1=some .local
 sub:mV X.env.cells cl
 has:∀x,((qIy sc X.env).names.lookup x=some .cell\/(qIy sc X.env).names.lookup x=some .free)->∃c,cl.lookup x=some c
 len:pick.length=NB.length
 got:∀(j i:Nat) (x:Str),pick[j]?=some (some i)->NB[j]?=some x->X.N[i]?=some x/\(X.env.kindOf x=some .cell\/X.env.kindOf x=some .free)/\(qIy sc X.env).names.lookup x=some .cell
def hasB (cl:List (Str×Addr)) (L:List (Str×qIo)):Bool:=L.all fun p=>!(p.2 == .cell||p.2 == .free)||(cl.lookup p.1).isSome
theorem yR {cl:List (Str×Addr)}{L:List (Str×qIo)} (h:hasB cl L=true) (x:Str) (hx:L.lookup x=some .cell\/L.lookup x=some .free):∃c,cl.lookup x=some c:=by
 have get:∀k,L.lookup x=some k->(k == NameKind.cell||k == NameKind.free)=true->∃c,cl.lookup x=some c:=fun k hk hb=>by
  have z:=List.all_eq_true.mp h (x,k) (PySem.mem_of_lookup hk);dsimp only at z;rw[hb] at z;exact Option.isSome_iff_exists.mp z
 rcases hx with hx | hx
 ·exact get _ hx rfl
 ·exact get _ hx rfl
def uC (N:List Str) (k1 k2:List (Str×qIo)):List (Option Nat)->List Str->Bool
 | some i::p,x::r=>decide (N[i]?=some x)&&(decide (k1.lookup x=some .cell)||decide (k1.lookup x=some .free))&&decide (k2.lookup x=some .cell)&&uC N k1 k2 p r
 | none::p,_::r=>uC N k1 k2 p r
 | [],[]=>true
 | _,_=>false
theorem kY {N:List Str}{k1 k2:List (Str×qIo)}:∀{p:List (Option Nat)}{r:List Str},uC N k1 k2 p r=true->p.length=r.length
 | [],[],_=>rfl
 | [],_::_,h=>by cases h
 | none::_,[],h=>by cases h
 | some _::_,[],h=>by cases h
 | none::p,_::r,h=>congrArg Nat.succ (kY (p:=p) (r:=r) h)
 | some i::p,x::r,h=>by
  have h':(decide (N[i]?=some x)&&(decide (k1.lookup x=some .cell)||decide (k1.lookup x=some .free))&&decide (k2.lookup x=some .cell)&&uC N k1 k2 p r)=true:=h
  rw[qCd] at h';exact congrArg Nat.succ (kY h'.2)
theorem nO {N:List Str}{k1 k2:List (Str×qIo)}:∀{p:List (Option Nat)}{r:List Str},uC N k1 k2 p r=true->∀(j i:Nat) (x:Str),p[j]?=some (some i)->r[j]?=some x ->
  N[i]?=some x/\(k1.lookup x=some .cell\/k1.lookup x=some .free)/\k2.lookup x=some .cell
 | [],_,_,j,i,x,h1,_=>by simp at h1
 | none::_,[],h,_,_,_,_,_=>by cases h
 | some _::_,[],h,_,_,_,_,_=>by cases h
 | none::p,_::r,h,j,i,x,h1,h2=>by
  cases j with
  | zero=>simp at h1
  | succ j=>exact nO (p:=p) (r:=r) h j i x (by simpa using h1) (by simpa using h2)
 | some i'::p,x'::r,h,j,i,x,h1,h2=>by
  have h':(decide (N[i']?=some x')&&(decide (k1.lookup x'=some .cell)||decide (k1.lookup x'=some .free))&&decide (k2.lookup x'=some .cell)&&uC N k1 k2 p r)=true:=h
  rw[qCd,qCd,qCd,Bool.or_eq_true] at h';obtain⟨⟨⟨a,b⟩,c⟩,d⟩:=h';cases j with
  | zero =>
   simp at h1 h2;subst h1 h2;exact⟨of_decide_eq_true a,b.elim (fun z=>.inl (of_decide_eq_true z)) fun z=>.inr (of_decide_eq_true z),of_decide_eq_true c⟩
  | succ j=>exact nO d j i x (by simpa using h1) (by simpa using h2)
theorem bJ {X:Cx}{NB:List Str}{pick:List (Option Nat)}{sc:qIn}{cl:List (Str×Addr)} (wU:qMt sc X.env=pure cl) (sub:mV X.env.cells cl) (kind:sc.kind = .function) (wV:∀y∈sc.names,y.2≠.cell)
  (names:∀y∈sc.names,y.2 = .local->sc.names.lookup y.1=some .local) (has:hasB cl (qIy sc X.env).names=true) (got:uC X.N X.env.scope.names (qIy sc X.env).names pick NB=true):Ly X NB pick sc cl :=
 ⟨wU,kind,wV,names,sub,yR has,kY got,fun j i x h1 h2=>nO got j i x h1 h2⟩
def oI (pick:List (Option Nat)) (σ:St):St:=pick.map fun o=>o.bind fun i=>(σ[i]?).join
section
variable {X:Cx}{NB:List Str}{pick:List (Option Nat)}{sc:qIn}{cl:List (Str×Addr)}{pins:List (Addr×Obj)}{σ:St}{H:Hp}{s:qAi}{fp:List Addr}
theorem Ia (I:Inv X pins σ H s) (B:Ly X NB pick sc cl) (hf:∀b∈fp,i5 X pins H b) (hex:∀b∈fp,∃o,s.heap.get? b=some o):(r6 X NB sc cl s H fp).Ok:=by
 have nfs:∀b∈fp,b∉n6 X.stack:=fun b hb z=>by
  rcases List.mem_cons.mp (I.kE b z) with e | e
  ·exact(hf b hb).2.1 e
  ·exact(hf b hb).2.2.1 e
 refine⟨I.ok.mod,B.kind,I.ok.glob,I.ok.blt,qAg _,fun x y c h1 h2=>?_,fun x hx=>B.has x hx,fun x c h _=>(qAp h).elim,I.ok.hd,I.ok.frames,.inl rfl,fun b hb=>⟨?_,fun x c h e=>?_⟩,I.bs,qCu I.ok.Es I.sz,fun b o e hb=>?_,nfs,I.stack,I.nK⟩
 ·exact I.ok.inj x y c (B.sub.of x c h1) (B.sub.of y c h2)
 ·obtain⟨o,ho⟩:=hex b hb;exact qBf (qAs ho)
 ·exact(hf b hb).2.2.2.2.1 x c (B.sub.of x c h) e
 ·rcases(hf b hb).2.2.2.1 with z | z
  ·exact I.ok.Ar b o e z
  ·exact absurd (qBd (qAs (I.ok.bs b o e).1) z) (qDh _)
theorem AE {h':Heap} (I:Inv X pins σ H s) (B:Ly X NB pick sc cl) (hf:∀b∈fp,i5 X pins H b) (hex:∀b∈fp,∃o,s.heap.get? b=some o)
  (hn:h'.Ns s.heap.objs.size (fun _=>none)) (hs:∀b o,s.heap.get? b=some o->h'.get? b=some o) (t:Nat):Inv (r6 X NB sc cl s H fp) [] (oI pick σ) H { s with heap:=h',toks:=t }:=by
 refine⟨Ia I B hf hex,rfl,I.bare,Un.kept hs,⟨_,hn,fun j x v h1 h2 h3=>?_⟩,fun x c e=>?_,I.cJ.fresh (qAg _),fun x c e=>I.iT x c (B.sub.of x c e),fun p hp=>absurd (show p∈([]:List (Addr×Obj)) from hp) (by simp),I.cJ.kept hs,?_⟩
 ·have h2':(pick.map fun o=>o.bind fun i=>(σ[i]?).join)[j]?=some (some v):=h2;rw[qAo] at h2';cases hp:pick[j]? with
  | none=>rw[hp] at h2';cases h2'
  | some o =>
   rw[hp] at h2';cases o with
   | none=>cases h2'
   | some i =>
    have h2'':(σ[i]?).join=some v:=Option.some.inj h2';obtain⟨g1,g2,g3⟩:=B.got j i x hp h1;have hσ:σ[i]?=some (some v):=by
     cases hq:σ[i]? with
     | none=>rw[hq] at h2'';cases h2''
     | some z=>rw[hq] at h2'';have e:z=some v:=h2'';rw[e]
    obtain⟨m,_,hl⟩:=I.loc;obtain⟨u,r,L⟩:=hl i x v g1 hσ (.inr g2);refine⟨u,r,?_⟩;rcases L with ⟨k,_⟩ | ⟨_,c,hc,⟨o,ho,hd⟩⟩
    ·rcases g2 with g2 | g2 <;> rw[k] at g2 <;> cases g2
    ·obtain⟨c',hc'⟩:=B.has x (.inl g3);have e:c'=c:=Option.some.inj ((B.sub.of x c' hc').symm.trans hc);subst e;exact .inr ⟨.inl g3,c',hc',o,hs _ _ ho,hd⟩
 ·obtain⟨v,o,ho,hd⟩:=I.cell x c (B.sub.of x c e);exact⟨v,o,hs _ _ ho,hd⟩
 ·show(oI pick σ).length=NB.length;unfold oI;rw[qAb];exact B.len
theorem EG {σ':St}{H':Hp}{s':qAi} (I:Inv X pins σ H s) (hf:∀b∈fp,i5 X pins H b) (J:Inv (r6 X NB sc cl s H fp) [] σ' H' s'):Inv X pins σ H' s':=by
 refine I.call' (ch:=fp) J.os J.base J.cJ J.bare fun b hb=>?_;obtain⟨_,f1,_,f3,f4,f5⟩:=hf b hb;exact⟨f3,f1,f4,f5⟩
end
def uD (wi:TI) (pick:List (Option Nat)) (g:TG) (c:TT) (te:TE):St->Hp->(Addr->Hp->Prop)->Prop:=fun σ H Q =>
 wi σ H fun J H1=>∀D,H1 D=none->∃W:Nat->Nat->St->Hp->Prop,(∃m,W 0 m (oI pick σ) (upd H1 D (.lst [])))/\∀i m σ1 H2,W i m σ1 H2 ->
  (J.stop i H2/\Q D H2)\/(J.go i H2/\∃N:St->Hp->Prop,(∀σ' H',N σ' H'->∃m',m'<m/\W (i+1) m' σ' H') /\
   ∀x H',J.pX i H2 x H'->g x σ1 H' fun σ2 H3=>c σ2 H3 fun b H4=>if b=true then te σ2 H4 fun y H5=>∃xs,H5 D=some (.lst xs)/\xs.length<qAh/\N σ2 (upd H5 D (.lst (xs++[y]))) else N σ2 H4)
section
variable {prog:qBm}{w:qCy}{A:qCt}{R:qPa->qAi->Prop}{s:qAi}
theorem kZ {elt target iter:Expr}{ifs:List Expr}{scope:qIn}{pos:Pos}{it acc:qAf}{env:Env} (W:Nat->qAi->Prop)
  (turn:∀n s,W n s->qBg (qBz prog w) A (qIz it) (fun r s₁=>match r with
   | none=>R (.ok .next) s₁
   | some v=>qBg (qBz prog w) A (qJa target it v) (fun _ s₀=>qBg (qBz prog w) A (qKj target env v) (fun _ s₂ =>
     qBg (qBz prog w) A (forIn ifs true fun c r=>if r=true then do let ok <- qPy c env (eval c env);pure (ForInStep.yield ok) else pure (ForInStep.yield r)) (fun ok s₃ =>
      if ok=true then qBg (qBz prog w) A (eval elt env) (fun x s₄ =>
       qBg (qBz prog w) A (call (.builtin "list.append") [acc,x]) (fun _ s₅=>∃m,m<n/\W m s₅) (fun _ _=>False) s₄) (fun _ _=>False) s₃
      else ∃m,m<n/\W m s₃) (fun _ _=>False) s₂) (fun _ _=>False) s₀) (fun _ _=>False) s₁) (fun _ _=>False) s)
  (n:Nat) (h:W n s) :
  qHn (qBz prog w) A (.compLoop (.ListComp elt [⟨target,iter,ifs,0⟩] scope pos) 0 it acc env) R s:=by
 refine codeAny_loop rfl W (fun n s hI=>?_) n h;show qBg _ A ((compTurn (.ListComp elt [⟨target,iter,ifs,0⟩] scope pos) 0 it acc env).onRaise (fun x=>do noteFrame x env;theTreesLotGoes x)) _ _ s;refine wpAny_noted (wpAny_noRaise ?_);rw[compTurn_list];refine qAa (qIk (qAa (cF (turn n s hI) fun r s₁ h₁=>?_)));cases r with
 | none=>exact qAe h₁
 | some v =>
  refine qAa (cF h₁ fun _ s₀ h₀=>qAa (cF h₀ fun _ s₂ h₂=>qAa (cF h₂ fun ok s₃ h₃=>?_)));cases ok with
  | false=>exact qAe ⟨rfl,h₃⟩
  | true=>exact qAa (qAa (cF h₃ fun x s₄ h₄=>qAa (cF h₄ fun _ s₅ h₅=>qAe (qAe ⟨rfl,h₅⟩))))
end
def uE (X:Cx) (ifs:List Expr) (c:TT):Prop :=
 ∀(pins:List (Addr×Obj)) (s:qAi) (σ:St) (H:Hp) (Q:Bool->Hp->Prop),Inv X pins σ H s->c σ H Q ->
  qBg (qBz X.prog X.w) X.A (forIn ifs true fun c r=>if r=true then do let ok <- qPy c X.env (eval c X.env);pure (ForInStep.yield ok) else pure (ForInStep.yield r)) (TP X pins σ Q) X.xe s
def Oo:TT:=fun _ H Q=>Q true H
theorem bK {X:Cx}:uE X [] Oo:=fun pins s σ H Q I h=>qAe ⟨H,I,h⟩
theorem eZ {X:Cx}{e:Expr}{c:TT} (hc:PT X e c):uE X [e] c:=fun pins s σ H Q I h=>wpAny_tests_one (hc pins s σ H Q I h)
section
variable {X:Cx}{NB:List Str}{pick:List (Option Nat)}{sc:qIn}{cl:List (Str×Addr)}{elt target iter:Expr}{ifs:List Expr}{pos:Pos}{wi:TI}{g:TG}{c:TT}{te:TE}
theorem uF {pins:List (Addr×Obj)}{s:qAi}{σ:St}{H:Hp}{use:Option (qAf->Sem Unit)}{Q:Addr->Hp->Prop}{QV:qAf->qAi->Prop} (B:Ly X NB pick sc cl) (hc:X.calm=true) (hi:PI X target iter wi)
  (hg:∀s₃ H₃ fp,PG (r6 X NB sc cl s₃ H₃ fp) target g) (ht:∀s₃ H₃ fp,uE (r6 X NB sc cl s₃ H₃ fp) ifs c) (he:∀s₃ H₃ fp,PE (r6 X NB sc cl s₃ H₃ fp) elt te)
  (hs:∀x,qFo iter X.env x=pure x) (I:Inv X pins σ H s) (h:uD wi pick g c te σ H Q)
  (fin:∀(D C:Addr) (s':qAi) (H':Hp),Inv X pins σ H' s'->Q D H'->H' C=none->C≠X.env.locals->X.s₀.heap.objs.size<=C->(∀x a,X.env.cells.lookup x=some a->a≠C)->(∀p∈X.pn++pins,p.1≠C)->(∃m,s'.heap.Ns C m) ->
   qOy (qBz X.prog X.w) X.A X.xe use QV (.ref D) C (.ok .next) s') :
  qBg (qBz X.prog X.w) X.A (qKg (.ListComp elt [⟨target,iter,ifs,0⟩] sc pos) sc X.env (firstIterPos [⟨target,iter,ifs,0⟩] pos) (qOo []) false (eval iter X.env) use) QV X.xe s:=by
 refine wpAny_comprehension_free rfl hs B.wU B.kind B.names (cF (hi pins s σ H _ I h) fun v s1 h1=>cF h1 fun itv s2 h2=>?_);obtain⟨it,fp,tn,J,H2,e,I2,T,st2,f2,h2⟩:=h2;subst e;refine qCj ?_;have I3:Inv X pins σ (upd H2 s2.heap.objs.size (.lst [])) { s2 with heap:=s2.heap.push { cls:=.type "list",dict:=none,data:=.seq ([]:List qAf).toArray } } :=
  I2.laid (t':=s2.toks) (fun b u e=>qAj _ e) (qAg _) ⟨qBq _,[],0,.nil,qAt _ rfl⟩
 have hf:H2 s2.heap.objs.size=none:=I2.cJ.fresh (qAg _);have lt:∀b∈fp,b≠s2.heap.objs.size:=fun b hb=>by
  obtain⟨o,ho,_⟩:=T.obj _ _ st2 b hb;exact qBf (qAs ho)
 have f3:∀b∈fp,i5 X pins (upd H2 s2.heap.objs.size (.lst [])) b:=fun b hb=>⟨by rw[aM (lt b hb)];exact(f2 b hb).1,(f2 b hb).2⟩;generalize hs3:({ s2 with heap:=s2.heap.push { cls:=.type "list",dict:=none,data:=.seq ([]:List qAf).toArray } }:qAi)=s3 at I3|-;have kp3:∀b o,s2.heap.get? b=some o->s3.heap.get? b=some o:=fun b o e=>by
  rw[<- hs3];exact qAj _ e
 have hex:∀b∈fp,∃o,s3.heap.get? b=some o:=fun b hb=>by
  obtain⟨o,ho,_⟩:=T.obj _ _ st2 b hb;exact⟨o,kp3 b o ho⟩
 have st3:tn 0 s3.heap:=T.keep _ _ _ st2 fun b _ o e=>kp3 b o e;obtain⟨W,⟨m0,w0⟩,turn⟩:=h2 _ hf;refine wpAny_newFunctionEnv B.wV (by intro y hy;simp at hy) (fun h₁ hns₁ hsb₁=>?_) B.kind;have kp4:∀b o,s3.heap.get? b=some o->h₁.get? b=some o:=fun b o e=>(hsb₁.2 b (qBf (qAs e))).trans (qAj _ e);have J4:=AE I3 B f3 hex hns₁ kp4 (s3.toks+([]:List (Str×qAf)).length);have st4:tn 0 h₁:=T.keep _ _ _ st3 fun b _ o e=>kp4 b o e;have stat:∀{H':Hp},(∀b∈fp,H' b=none)->∀b∈fp,i5 (r6 X NB sc cl s3 (upd H2 s2.heap.objs.size (.lst [])) fp) [] H' b:=fun {H'} hn b hb=>by
  obtain⟨o,ho⟩:=hex b hb;refine⟨hn b hb,qBf (qAs ho),fun z=>?_,.inl hb,fun x a e=>(f2 b hb).2.2.2.2.1 x a (B.sub.of x a e),fun p hp=>absurd (show p∈([]:List (Addr×Obj)) from hp) (by simp)⟩;rcases List.mem_cons.mp (I2.kE b z) with e | e
  ·exact(f2 b hb).2.1 e
  ·exact(f2 b hb).2.2.1 e
 have loop:qHn (qBz X.prog X.w) X.A (.compLoop (.ListComp elt [⟨target,iter,ifs,0⟩] sc pos) 0 (.ref it) (.ref s2.heap.objs.size) (r6 X NB sc cl s3 (upd H2 s2.heap.objs.size (.lst [])) fp).env)
   (qOy (qBz X.prog X.w) X.A X.xe use QV (.ref s2.heap.objs.size) s3.heap.objs.size) { s3 with heap:=h₁,toks:=s3.toks+([]:List (Str×qAf)).length }:=by
  refine kZ (fun n s'=>∃i σ' H',Inv (r6 X NB sc cl s3 (upd H2 s2.heap.objs.size (.lst [])) fp) [] σ' H' s'/\tn i s'.heap/\(∀b∈fp,H' b=none)/\W i n σ' H') ?_ m0 ⟨0,_,_,J4,st4,fun b hb=>(f3 b hb).1,w0⟩;rintro n s5 ⟨i,σ5,H5,I5,st5,fr5,w5⟩;rcases turn i n σ5 H5 w5 with ⟨stop,qn⟩ | ⟨go,N,hN,step⟩
  ·refine cF (T.done (r6 X NB sc cl s3 (upd H2 s2.heap.objs.size (.lst [])) fp) rfl rfl rfl hc i [] s5 σ5 H5 _ I5 (stat fr5) st5 stop) fun r s6 ⟨hr,I6⟩=>?_;subst hr;refine fin s2.heap.objs.size s3.heap.objs.size s6 H5 (EG I3 f3 I6) qn I6.free (qBf I3.lt).symm I3.sz (fun x a e=>?_) (fun p hp=>?_) ?_
   ·obtain⟨v,o,ho,_⟩:=I3.cell x a e;exact qBf (qAs ho)
   ·exact qBf (qAs (I3.pin p hp).1)
   ·obtain⟨m,hn,_⟩:=I6.loc;exact⟨m,hn⟩
  ·refine cF (T.item (r6 X NB sc cl s3 (upd H2 s2.heap.objs.size (.lst [])) fp) rfl rfl rfl hc i [] s5 σ5 H5 _ I5 (stat fr5) st5 go) fun r s6 ⟨u,hr,h6⟩=>?_;subst hr;refine cF h6 fun _ s7 ⟨x,H7,I7,r7,y7,st7,fr7⟩=>?_;have I7':=I7.pinned (stat fr7) (T.obj _ _ st7);have qNg:∀{s9:qAi}{σ9:St}{H9:Hp},Inv (r6 X NB sc cl s3 (upd H2 s2.heap.objs.size (.lst [])) fp) ([]++mB fp s7.heap) σ9 H9 s9->N σ9 H9 ->
     ∃m,m<n/\∃i σ' H',Inv (r6 X NB sc cl s3 (upd H2 s2.heap.objs.size (.lst [])) fp) [] σ' H' s9/\tn i s9.heap/\(∀b∈fp,H' b=none)/\W i m σ' H':=fun {s9 σ9 H9} I9 n9=>by
    obtain⟨m',hm,w9⟩:=hN σ9 H9 n9;refine⟨m',hm,i+1,σ9,H9,I9.i6,T.keep _ _ _ st7 fun b hb o e=>(I9.pin (b,o) (qAx _ (qAx _ (fJ hb e)))).1,fun b hb=>?_,w9⟩;obtain⟨o,e,d⟩:=T.obj _ _ st7 b hb;exact(I9.pin (b,o) (qAx _ (qAx _ (fJ hb e)))).2.1
   refine cF (hg _ _ _ _ s7 σ5 H7 x u _ I7' r7 (step x H7 y7)) fun _ s8 ⟨σ8,H8,I8,q8⟩=>?_;refine cF (ht _ _ _ _ s8 σ8 H8 _ I8 q8) fun b s9 ⟨H9,I9,q9⟩=>?_;cases b with
   | false =>
    rw[if_neg qAp];exact qNg I9 (by rw[if_neg qAp] at q9;exact q9)
   | true =>
    rw[if_pos rfl] at q9|-;refine cF (he _ _ _ _ s9 σ8 H9 _ I9 q9) fun y s10 ⟨vy,H10,I10,r10,xs,hD,hl,q10⟩=>?_;refine cF (mE _ s10 σ8 H10 (.ref s2.heap.objs.size) [vy] (.ref s2.heap.objs.size) [y] (fun _ H'=>N σ8 H') I10 rfl (.cons r10 .nil) ⟨_,xs,vy,rfl,rfl,hD,hl,q10⟩) fun _ s11 ⟨_,H11,I11,_,q11⟩=>?_;exact qNg I11 q11
 refine codeAny_compStart_list loop (T.self _ 0 _ _ _ st4 loop)
theorem bQ (B:Ly X NB pick sc cl) (hc:X.calm=true) (hi:PI X target iter wi)
  (hg:∀s₃ H₃ fp,PG (r6 X NB sc cl s₃ H₃ fp) target g) (ht:∀s₃ H₃ fp,uE (r6 X NB sc cl s₃ H₃ fp) ifs c) (he:∀s₃ H₃ fp,PE (r6 X NB sc cl s₃ H₃ fp) elt te)
  (hs:∀x,qFo iter X.env x=pure x:=by intro _;rfl):PE X (.ListComp elt [⟨target,iter,ifs,0⟩] sc pos) (fun σ H Q=>uD wi pick g c te σ H fun D H'=>Q (.ref D) H'):=by
 intro pins s σ H Q I h;rw[eval_ListComp];refine uF (use:=none) (QV:=EP X pins σ Q) B hc hi hg ht he hs I h fun D C s' H' I' q c0 c1 c2 c3 c4 hn=>?_;obtain⟨m,hm⟩:=hn;exact⟨m,hm,fun hh hsb=>⟨.ref D,H',I'.turned (t':=s'.toks) (fun b o hb e=>(hsb.2 b hb).trans e) c0 c1 (.inr c2) c3 c4,rfl,q⟩⟩
theorem eD {i:Nat}{x:Str}{pos' spos:Pos} (hN:X.N.Nodup) (hx1:X.N[i]?=some x) (hx2:Loc X.env.scope x)
  (hsw:qKd (.ListComp elt [⟨target,iter,ifs,0⟩] sc pos) (some (.Name x pos')) spos.line X.env=pure true) (B:Ly X NB pick sc cl) (hc:X.calm=true) (hi:PI X target iter wi)
  (hg:∀s₃ H₃ fp,PG (r6 X NB sc cl s₃ H₃ fp) target g) (ht:∀s₃ H₃ fp,uE (r6 X NB sc cl s₃ H₃ fp) ifs c) (he:∀s₃ H₃ fp,PE (r6 X NB sc cl s₃ H₃ fp) elt te)
  (hs:∀x,qFo iter X.env x=pure x:=by intro _;rfl) (hfn:X.fn x=true\/X.env.scope.names.lookup x=some .local:=by first|exact .inl rfl | exact .inr rfl | assumption) :
  PS X (.Assign [.Name x pos'] (.ListComp elt [⟨target,iter,ifs,0⟩] sc pos) spos) (fun D σ H=>uD wi pick g c te σ H fun l H'=>D.nx (σ.set i (some (.ref l))) H'):=by
 intro pins s σ H D I h;rw[exec_Assign_Name_used _ _ _ _ hsw];refine qAa (qIk (qAa ?_));show qBg _ _ (do let _ <- qKg (.ListComp elt [⟨target,iter,ifs,0⟩] sc pos) sc X.env _ (qOo []) false (eval iter X.env) (some (qKj (.Name x pos') X.env))) _ _ s;refine qAa (cF (uF (use:=some (qKj (.Name x pos') X.env)) (QV:=fun _ s'=>SP X pins D .next s') B hc hi hg ht he hs I h fun l C s' H' I' q c0 c1 c2 c3 c4 hn=>?_) fun _ s' hq=>qAe (qAe hq));obtain⟨m,hm⟩:=hn;show qBg _ _ (qKj (.Name x pos') X.env (.ref l)) _ _ _;refine wpAny_assign_Name (lY (v:=.ref l) I' hN hx1 hx2 rfl (fun s'' I'' ⟨a,hsb,ha⟩=>?_) hfn);have ne:C≠a:=by
  rcases ha with e | e
  ·rw[e];exact c1
  ·exact(c3 x a e).symm
 refine⟨m,hm.sameBut hsb ne,fun hh hsb2=>?_⟩;exact⟨_,H',I''.turned (t':=s''.toks) (fun b o hb e=>(hsb2.2 b hb).trans e) c0 c1 (.inr c2) c3 c4,q⟩
end
structure Mj (P:qBm) (w:qCy) (outer:List Env) (H:Hp) (s:qAi) (e C:Addr) (H':Hp) (s':qAi):Prop where
 os:s'.os=s.os
 bare:qJc s'.gens
 ex:∃(a0:qAf) (B:Heap),Heap.FlyingW B outer e (.ref C) a0 s'.heap/\j6 P w H' B/\(∀b o,s.heap.get? b=some o->b∉n6 outer->∃o',B.get? b=some o') /\
  ∀b o,s.heap.get? b=some o->H b=none->b∉n6 outer->B.get? b=some o
 slot:∀b o,s.heap.get? b=some o->H b=none->b∈n6 outer->∃sl,s'.heap.get? b=some { o with slots:=sl }
 free:∀b o,s.heap.get? b=some o->H b=none->H' b=none
 lW:∀b xs,H b=some (.tup xs)->H' b=some (.tup xs)
 kO:∀b o u,H b=some (.frz o u)->H' b=some (.frz o u)
 lX:∀b ps,H b=some (.tbl ps)->∃more,H' b=some (.tbl (ps++more))
def j0 (P:qBm) (w:qCy):Az:=fun outer H s E ev s'=>∃(e C:Addr) (H':Hp),ev = .ref e/\Mj P w outer H s e C H' s'/\E (.ref C) none H'
section
variable {X:Cx}{pins:List (Addr×Obj)}{σ:St}{H H':Hp}{s s':qAi}{e C:Addr}
end
structure Own (X:Cx):Prop where
 st:X.stack=X.env::X.outer
 fr:X.env.frame=some X.env.locals
 ex:X.ex=[]
section
variable {X:Cx}{pins:List (Addr×Obj)}{σ:St}{H H':Hp}{s s':qAi}{e C:Addr}{Q:Unit->qAi->Prop}{E:qAf->qAi->Prop}{M:qNz}
theorem Own.sub (O:Own X){b:Addr} (h:b∈X.fs):b∈n6 X.stack:=by
 rw[O.st];unfold n6;rw[qCg,O.fr];exact qBx _ h
theorem Own.not (O:Own X) (I:Inv X pins σ H s){b:Addr}{o:Obj} (q:X.s₀.heap.get? b=some o) (h:b∉X.fs):b∉n6 X.stack:=fun z=>by
 rcases List.mem_cons.mp (I.kE b z) with r | r
 ·exact absurd (qBd (qAs q) I.ok.above) (by rw[r];exact qDh _)
 ·exact h r
theorem Own.BV (O:Own X) (b:Addr):b∉X.ex:=by
 rw[O.ex];simp
theorem uG {vs:List qAf}{h':Heap} (O:Own X) (I:Inv X pins σ H s) (hx:qOm s.heap h' e (.ref C) vs)
  (k:∀h'',Mj X.prog X.w X.outer X.H₀ X.s₀ e C H { s with heap:=h'' }->Q () { s with heap:=h'' }):qBg M X.A (leaving X.env (.ref e)) Q E { s with heap:=h' }:=by
 have hst:=I.stack;have hfr:=I.ok.frames;rw[O.st] at hst hfr;have hin:∀env∈(X.env::X.outer),∀b,env.frame=some b->b∈n6 X.stack:=fun env he b hb=>by
  rw[O.st];exact List.mem_filterMap.mpr ⟨env,he,hb⟩
 have get:∀{b:Addr}{o:Obj},s.heap.get? b=some o->b∉n6 X.stack->(qJo s.heap (n6 X.stack)).get? b=some o:=fun q hb=>qLi _ q hb;refine wpAny_leaves_madeW (base:=qJo s.heap (n6 X.stack)) (h:=s.heap) (s:={ s with heap:=h' }) hfr O.fr (fun b o q=>qLr _ q) (PySem.W.funFrames_hide hst hin) hx fun h'' t x1 _ _ x4=>k h'' ⟨I.os,I.bare,⟨_,_,x1,fun a o q=>?_,fun b o q hb=>?_,fun b o q n hb=>?_⟩,fun b o q n hb=>?_,fun b o q n=>I.base.free b o q n (O.BV b),I.base.lW,I.base.kO,I.base.lX⟩
 ·refine(I.cJ a o q).tZ (fun b u hb z=>get z fun hm=>?_) (fun _ z=>z) fun _ _ z=>z;have hn:=I.nK b hm;rcases hb with rfl | hb
  ·rw[hn] at q;cases q
  ·rw[hn] at hb;cases hb
 ·obtain⟨o',z⟩:=I.base.there b o q (O.BV b);exact⟨o',get z (O.not I q hb)⟩
 ·exact get (I.base.keep b o q n hb (O.BV b)) (O.not I q hb)
 ·obtain⟨sl,z⟩:=I.base.slot b o q n hb (O.BV b);obtain⟨_,o',ho',hnf⟩:=I.ok.kQ.mem hb;rw[q] at ho';cases ho';obtain⟨sl',z'⟩:=x4 b _ (hx.keeps b _ z) hnf;exact⟨sl',z'⟩
theorem AF (O:Own X) (I:Inv X pins σ H s) (F:Mj X.prog X.w X.stack H s e C H' s')
  (k:∀h'',Mj X.prog X.w X.outer X.H₀ X.s₀ e C H' { s' with heap:=h'' }->Q () { s' with heap:=h'' }):qBg M X.A (leaving X.env (.ref e)) Q E s':=by
 obtain⟨a0,B,fl,cJ,th,kp⟩:=F.ex;have hfr:=I.ok.frames;rw[O.st] at fl hfr;refine wpAny_leaves_onW hfr O.fr fl fun h'' x1 x2=>k h'' ⟨F.os.trans I.os,F.bare,⟨a0,B,x1,cJ,fun b o q hb=>?_,fun b o q n hb=>?_⟩,fun b o q n hb=>?_,fun b o q n=>?_,fun b xs q=>F.lW b xs (I.base.lW b xs q),fun b o u q=>F.kO b o u (I.base.kO b o u q),fun b ps q=>?_⟩
 ·obtain⟨o',z⟩:=I.base.there b o q (O.BV b);exact th b o' z (O.not I q hb)
 ·exact kp b o (I.base.keep b o q n hb (O.BV b)) (I.base.free b o q n (O.BV b)) (O.not I q hb)
 ·obtain⟨sl,z⟩:=I.base.slot b o q n hb (O.BV b);obtain⟨sl',z'⟩:=F.slot b _ z (I.base.free b o q n (O.BV b)) (O.sub hb);obtain⟨_,o',ho',hnf⟩:=I.ok.kQ.mem hb;rw[q] at ho';cases ho';obtain⟨sl2,z2⟩:=x2 b _ z' hnf;exact⟨sl2,z2⟩
 ·obtain⟨o',z⟩:=I.base.there b o q (O.BV b);exact F.free b o' z (I.base.free b o q n (O.BV b))
 ·obtain⟨m1,e1⟩:=I.base.lX b ps q;obtain⟨m2,e2⟩:=F.lX b _ e1;exact⟨m1++m2,by rw[e2,qMp]⟩
end
abbrev XS:=qAf->St->Hp->Prop
structure Pass (X:Cx) (Ex:XS):Prop where
 on:∀(pins:List (Addr×Obj)) (σ:St) (H:Hp) (s:qAi) (e C:Addr) (H':Hp) (s':qAi),Inv X pins σ H s->Mj X.prog X.w X.stack H s e C H' s'->Ex (.ref C) σ H'->X.xe (.ref e) s'
structure Ml (X:Cx) (Ex:XS):Prop extends Pass X Ex where
 nw:∀(pins:List (Addr×Obj)) (σ:St) (H:Hp) (s:qAi) (e C:Addr) (h':Heap) (vs:List qAf),Inv X pins σ H s->qOm s.heap h' e (.ref C) vs->Ex (.ref C) σ H->X.xe (.ref e) { s with heap:=h' }
 own:PassesOwn (qBz X.prog X.w) X.A X.env X.xe
theorem dB {P:qBm}{w:qCy}{K:qAc}{mg:Str->Option qAf}{base:Heap}{N:List Str}{qual:Str}{scope:qIn}{f:Addr}{cd:qAf}{A:qCt}{outer:List Env}{s:qAi}{H:Hp}{E:XK} :
  Ml (oF (j0 P w) P w K mg base N qual scope f cd A outer s H E) (fun c _ H'=>E c none H') where
 on:=fun pins σ H1 s1 e C H' s' I F q=>AF ⟨rfl,rfl,rfl⟩ I F fun h'' F'=>⟨e,C,H',rfl,F',q⟩
 nw:=fun pins σ H1 s1 e C h' vs I hx q=>uG ⟨rfl,rfl,rfl⟩ I hx fun h'' F'=>⟨e,C,H1,rfl,F',q⟩
 own:=PassesOwn.leaving
section
variable {P:qBm}{w:qCy}{K:qAc}{mg:Str->Option qAf}{base:Heap}
theorem HZ.Lz {x qual:Str}{st:Stmt}{f:Addr}{fd:qBo}{N ps:List Str}{k:Nat}{sp:Sp} (F:HZ K x qual st f fd) (S:aT N ps (aI st)) (len:∀vs H Q E,sp vs H Q E->vs.length=ps.length)
  (hbody:∀(cdv:qAf) (A:qCt) (outer:List Env) (s:qAi) (H:Hp) (vs:List V) (Q:VK) (E:XK),dX k (A.deeper (qJb qual (aI st) s.heap.objs.size f cdv))->sp vs H Q E ->
   ∃t,tU (oF (j0 P w) P w K mg base N qual (aI st) f cdv A outer s H E) (cQ st) t/\t { nx:=fun _ H'=>Q .non H',rt:=Q } (start N vs) H):i9 P w K mg base (j0 P w) (k+1) f fd ps sp:=by
 obtain⟨oc,od,kV,doc,pm,an,cdv,ct,osl,rfl,lk,hcd⟩:=F.ex;exact Gh lk hcd S len fun A outer s H vs Q E hr hsp=>hbody cdv A outer s H vs Q E hr hsp
end
def BW (sp:Sp) (dvs:List V) (Ex:XS) (t:TA):TE:=fun σ H Q=>t σ H fun vs H1=>sp (vs++dvs) H1 Q fun c _ H'=>Ex c σ H'
section
variable {X:Cx}{Ex:XS}{k:Nat}{f C:Addr}{fd:qBo}{ps:List Str}{sp:Sp}{dvs:List V}{ds:List qAf}{x m:Str}{p pos apos:Pos}{e o:Expr}{es:List Expr}{ta:TE}{t:TA}
theorem yS {pins:List (Addr×Obj)}{σ:St}{H:Hp}{s:qAi}{Q:VK}{us:List qAf}{vs:List V} (R:Pass X Ex) (F:i9 X.prog X.w X.K X.mg X.base (j0 X.prog X.w) k f fd ps sp) (hr:dX k X.A) (hb:Binds X.K fd ps ds) (hd:Vals dvs ds)
  (I:Inv X pins σ H s) (r:Vals vs us) (h:sp (vs++dvs) H Q fun c _ H'=>Ex c σ H'):qBg (qBz X.prog X.w) X.A (call (.ref f) us) (EP X pins σ Q) X.xe s:=by
 have r2:Vals (vs++dvs) (us++ds):=r.append hd;have hl:(us++ds).length=ps.length:=by rw[<- r2.length];exact F.len _ _ _ _ h
 refine qJg (qGc (F.run X.A X.stack s H ⟨us,[]⟩ (us++ds) (vs++dvs) Q _ hr I.HM (hb s us I.wB hl) r2 h) fun r s' hq=>?_);cases r with
 | error ev =>
  obtain⟨e,C,H',rfl,Fl,q⟩:=hq;exact R.on pins σ H s e C H' s' I Fl q
 | ok fl =>
  cases fl with
  | ret u=>exact I.after hq
  | next=>exact False.elim hq
  | brk=>exact False.elim hq
  | cont=>exact False.elim hq
theorem BX (R:Pass X Ex) (F:i9 X.prog X.w X.K X.mg X.base (j0 X.prog X.w) k f fd ps sp) (hr:dX k X.A) (hg:Gl X x) (hm:X.mg x=some (.ref f)) (hk:qCv X.K (.ref f)=true) (hb:Binds X.K fd ps ds) (hd:Vals dvs ds)
  (ha:PA X (e::es) t) (hdb:(x == ("__debug__":Str))=false:=by decide) (he:qBt (e::es) X.env=(false,eval e X.env)::qBt es X.env:=by rfl) (hpl:(qHc pos (qBt es X.env)).any (·.1)=false:=by rfl) :
  PE X (.Call (.Name x p) (e::es) [] pos) (BW sp dvs Ex t):=by
 intro pins s σ H Q I h;refine qGg (kR I hg hm ?_ hdb);refine qGr (h₀:=X.base) I.ok.mod.Hx hk (cF (ha pos pins s σ H _ I h) fun us s1 ⟨vs,H1,I1,r,q⟩=>⟨I1.wB,?_⟩) he hpl;exact yS R F hr hb hd I1 r q
end
abbrev EH:List qAf:=[.type "ValueError",.type "Exception",.type "BaseException",.type "object"]
structure oJ (K:qAc) (C:Addr):Prop where
 cls:(qKs K C).isSome=true
 ty:qIc K (.ref C)=some (.type "type")
 ga:qBe K (.ref C) "__getattribute__"=some (some (.builtin "BaseException.__getattribute__"))
 gx:qBe K (.ref C) "__getattr__"=some none
 ca:qBe K (.ref C) "__class__"=some (some (.builtin "object.__class__"))
 cg:qEy K (.builtin "object.__class__") "__get__"=some (some (.builtin "getset_descriptor.__get__"))
 ct:qFp K (.builtin "object.__class__")=some true
 mo:qDy K C (.type "object")=some true
 mb:qDy K C (.type "BaseException")=some true
theorem EI {K:qAc}{h:Heap}{C:Addr}{bmB:List qAf}{newId:String} (X:K.In h) (q:qEf K C bmB newId=true) :
  ∃bm N nm q bs hdct sn sub ab col dd k0 k1 k2 k3 k5 mN,h.get? C=some (excClassObj nm q C N bs bm hdct sn sub ab col dd k0 k1 k2 k3 k5 newId)/\h.Ns N mN/\mN "__init__"=none/\OwnTail h bmB bm:=by
 unfold qEf at q;split at q
 ·rename_i dd cd sl ho;split at q
  ·rename_i C' bm k0 k1 k2 k3 n k5 hm hs;rw[qCd,qCd,qCd,qCd,qCd] at q;obtain⟨⟨⟨⟨⟨q1,q2⟩,q3⟩,ht⟩,cJ⟩,hni⟩:=q;obtain rfl:=beq_iff_eq.mp q1;obtain rfl:=beq_iff_eq.mp q2;have hdel:cd.hasDel=false:=by
    cases z:cd.hasDel with
    | false=>rfl
    | true=>rw[z] at q3;cases q3
   have hni':=beq_iff_eq.mp hni;obtain⟨nm,bs,mro,ns,qn,hd,sn,sub,ab,col,del⟩:=cd;dsimp only at hm hdel cJ hni';subst hm hdel;obtain⟨l⟩:=sl;dsimp only at hs;subst hs;exact⟨bm,ns,nm,qn,bs,hd,sn,sub,ab,col,dd,k0,k1,k2,k3,k5,_,X _ _ ho,.of_isNs (PySem.W.isNs_of_in X cJ),PySem.W.nsMap_none_of_in X cJ hni',PySem.W.tail_of_in X ht⟩
  ·cases q
 ·cases q
def Ib (C:Addr) (Ex:XS) (t:TA):TS:=fun _ σ H=>t σ H fun vs H1=>vs.length<=qAh/\Ex (.ref C) σ H1
section
variable {X:Cx}{Ex:XS}{x:Str}{C:Addr}{e₀:Expr}{rest:List Expr}{np cpos pos:Pos}{t:TA}
theorem fP (R:Ml X Ex) (hc:X.calm=true) (hg:Gl X x) (hm:X.mg x=some (.ref C)) (q:qEf X.K C EH "ValueError.__new__"=true) (ha:PA X (e₀::rest) t)
  (he:qBt (e₀::rest) X.env=(false,eval e₀ X.env)::qBt rest X.env:=by rfl) (hplain:(qHc cpos (qBt rest X.env)).any (·.1)=false:=by rfl) (hd:(x == ("__debug__":Str))=false:=by decide) :
  PS X (.Raise (some (.Call (.Name x np) (e₀::rest) [] cpos)) none pos) (Ib C Ex t):=by
 intro pins s σ H D I h;obtain⟨tl,N,nm,qn,bs,hdct,sn,sub,ab,col,dd,k0,k1,k2,k3,k5,mN,hC,hN,hni,T⟩:=EI I.mod.Hx q;have FB:=PySem.F.excBase_ValueError;refine wpAny_Raise_call_subT (C:=C) (nm:=nm) (q:=qn) (N:=N) (bs:=bs) (bm:=tl) (hdct:=hdct) (sn:=sn) (sub:=sub) (ab:=ab) (col:=col) (dd:=dd) (k0:=k0) (k1:=k1) (k2:=k2) (k3:=k3) (k5:=k5)
  FB (mN:=mN) (T.hasType FB.hasBase) (I.ok.hd hc) (by rw[he];show(false||(qHc cpos (qBt rest X.env)).any (·.1))=false;rw[hplain];rfl) hni (kR I hg hm ⟨rfl,?_⟩ hd)
 have hs:=ha cpos pins s σ H _ I h;rw[he] at hs|-;refine qLw (cF hs fun us s2 ⟨vs,H2,I2,r,z,q2⟩=>?_);have kb:∀b o,X.base.get? b=some o->s2.heap.get? b=some o:=I2.bk;exact⟨rfl,by show us.length<=qAh;rw[<- r.length];exact z,kb _ _ hC,hN.keeps kb,T.keeps kb,fun h' e hx=>R.nw pins σ H2 s2 e C h' us I2 hx q2⟩
end
def Oq (e C:Addr):HO:=.ext fun h=>∃oe,h.get? e=some oe/\oe.cls = .ref C
section
variable {X:Cx}{pins:List (Addr×Obj)}{σ:St}{H H':Hp}{s s':qAi}{e C:Addr}
theorem Inv.Gk {o:HO} (I:Inv X pins σ H s) (hn:H e=none) (h0:X.s₀.heap.get? e=none) (hL:e≠X.env.locals) (hc:∀x c,X.env.cells.lookup x=some c->c≠e) (hp:∀p∈X.pn++pins,p.1≠e) (hfs:e∉X.fs)
  (new:cS X.prog X.w (upd H e o) s.heap e o):Inv X pins σ (upd H e o) s:=by
 have ne:∀b u,H b=some u->b≠e:=fun b u q=>bE q hn;refine⟨I.ok,I.os,I.bare,⟨I.base.keep,I.base.slot,fun b ob q n hx=>?_,I.base.there,fun b xs q=>?_,fun b ob u q=>?_,fun b ps q=>?_⟩,I.loc,I.cell,?_,fun x c q=>?_,fun p q=>?_,fun b u q=>?_,I.len⟩
 ·rw[aM (fun z=>by rw[z,h0] at q;cases q)];exact I.base.free b ob q n hx
 ·have z:=I.base.lW b xs q;rw[aM (ne _ _ z)];exact z
 ·have z:=I.base.kO b ob u q;rw[aM (ne _ _ z)];exact z
 ·obtain⟨m,z⟩:=I.base.lX b ps q;exact⟨m,by rw[aM (ne _ _ z)];exact z⟩
 ·rw[aM hL.symm];exact I.free
 ·rw[aM (hc x c q)];exact I.iT x c q
 ·obtain⟨z1,z2,z3⟩:=I.pin p q;exact⟨z1,by rw[aM (hp p q)];exact z2,z3⟩
 ·by_cases hb:b=e
  ·subst hb;rw[aC] at q;cases q;exact new
  ·rw[aM hb] at q;exact(I.cJ b u q).tZ (fun c v _ z=>z) (fun c z=>by rw[aM (ne _ _ z)];exact z) fun c xs z=>by rw[aM (ne _ _ z)];exact z
end
section
variable {X:Cx}{pins:List (Addr×Obj)}{σ:St}{H H':Hp}{s s':qAi}{e C:Addr}{Ex:XS}
end
section
open Builtin Builtin.ObjectAttr Builtin.Getset_descriptor
theorem BY {K:qAc}{M:qNz}{h:Heap}{e C:Addr}{name:Str}{a g:qAf} (X:K.In h) (h1:qBe K (.ref C) name=some (some a)) (h2:qEy K a "__get__"=some (some g)) (h3:qFp K a=some true) :
  qFq M h (find (.ref e) (.ref C) name) (.bind g a):=by
 have L1:=qGi (M:=M) X h1;have L2:qFq M h (getOf (some a)) (some g):=PySem.W.looks_specialIn X h2;have L3:=PySem.W.looks_takesIn (M:=M) X h3;exact L1.andThen (L2.andThen ((show qFq M h (dataDescriptor? (some a) (some g)) (some (g,a)) from L3.andThen .now).andThen (PySem.W.Looks.tag .now)))
theorem p4 {prog:qBm}{w:qCy}{A:qCt}{s:qAi}{K:qAc}{x C:Addr}{R:qPa->qAi->Prop}{tp:qAf} (X:K.In s.heap) (I:∀M,qFq M s.heap (qOx (.ref x)) (.ref C))
  (hm:qDy K C (.type "object")=some true) (h:R (.ok (.ret (.ref C))) s):qHn (qBz prog w) A (.call (.builtin "getset_descriptor.__get__") ⟨[.builtin "object.__class__",.ref x,tp],[]⟩) R s:=by
 obtain⟨hh,g,dr,t,os⟩:=s;have L0:=I (qBz prog w);have L1:=qLh (M:=qBz prog w) X hm;refine codeAny_call_builtin PySem.W.KF.slot_gs.plain PySem.W.KF.entry_gs (PySem.W.KF.slot_gs.check _ _ _ _ _ _ _ _ PySem.W.KF.type_class (PySem.W.KF.args_gs _ _ _) ?_);unfold Builtin.«getset_descriptor.__get__» descrGet;rw[PySem.W.dga_obj];refine qAa (qAe ?_);unfold descrGetter descrCheckInstance descrNameAndClass isInstance;simp only[PySem.W.KF.owner_class];repeat lk
 refine⟨Code.quiet_builtin _ (by decide +kernel),qFi PySem.W.KF.entry_class ?_⟩;unfold Builtin.«object.__class__» shownTypeOf;repeat lk
 exact h
end
theorem r8 {M:qNz}{A:qCt}{E:qAf->qAi->Prop}{s:qAi}{K:qAc}{x C:Addr}{nameV:qAf}{Q:Unit->qAi->Prop} (X:K.In s.heap) (I:qFq M s.heap (qOx (.ref x)) (.ref C))
  (hm:qDy K C (.type "BaseException")=some true) (hq:Q () s):qBg M A (checkBuiltinCall "BaseException.__getattribute__" ⟨[.ref x,nameV],[]⟩) Q E s:=by
 have hk:builtinKind "BaseException.__getattribute__"=some .slot:=by decide +kernel
 have hsplit:splitId "BaseException.__getattribute__"=some ("BaseException","__getattribute__"):=by decide +kernel
 have L1:=qLh (M:=M) X hm;have L2:qFq M s.heap (isInstance (.ref x) (.type "BaseException")) true:=I.andThen L1;have ha:=F.args_bexc_ga (.ref x) nameV;obtain⟨hh,g,dr,t,os⟩:=s;simp only[checkBuiltinCall,hk,hsplit];refine qAa (L2.at ?_);repeat (first | assumption | wp_step)
section
open Builtin Builtin.ObjectAttr Builtin.Getset_descriptor
theorem Ic {prog:qBm}{w:qCy}{A:qCt}{E:qAf->qAi->Prop}{s:qAi}{K:qAc}{x C:Addr}{Q:Option qAf->qAi->Prop} (X:K.In s.heap) (c:oJ K C) (I:∀M,qFq M s.heap (qOx (.ref x)) (.ref C))
  (h:Q (some (.ref C)) { s with toks:=s.toks+1 }):qBg (qBz prog w) A (getAttr? (.ref x) "__class__") Q E s:=by
 obtain⟨hh,g,d,t,os⟩:=s;have L0:=I (qBz prog w);have L1:=qGi (M:=qBz prog w) X c.ga;have L2:=qGi (M:=qBz prog w) X c.gx;have L3:=BY (M:=qBz prog w) (e:=x) X c.ca c.cg c.ct;have hx2:(Value.builtin "BaseException.__getattribute__" == Value.builtin "object.__getattribute__")=false:=by decide +kernel
 have f3:=F.excAttr_ValueError.ga.bind (.ref x);unfold getAttr? getAttrBy? getAttrBy;refine qAa (wpAny_mkText (qAa (qHh (qDj (qAa (L0.at (qAa (L1.at ?_))))))));dsimp only;rw[if_neg (by rw[hx2,qIt];exact qAp)];unfold getAttrByItsOwn hookBefore;rw[if_pos (show onTheHeap (Value.ref C)=true from rfl)];refine qAa (L2.at ?_);refine qAa (qHh (qDj ?_));unfold callGetattribute;rw[if_neg (by decide)];unfold boundAndCalled;refine qAa (qGp f3 ?_);refine qJg (codeAny_call_builtin F.excAttr_ValueError.ga.plain F.entry_bexc_ga (r8 X L0 c.mb ?_));show qBg _ _ (Builtin.«object.__getattribute__» ⟨[.ref x,.str "__class__" t],[]⟩) _ _ _;unfold Builtin.«object.__getattribute__»;refine qAa (qGp (a:=(Value.ref x,[Value.str "__class__" t])) rfl ?_);refine qAa (qGp (a:=("__class__":Str)) rfl ?_);refine qAa (L0.at (qAa (L3.at ?_)));show qBg _ _ (qLo [Value.builtin "object.__class__"] (call (.builtin "getset_descriptor.__get__") [.builtin "object.__class__",.ref x,.ref C]) >>= ret) _ _ _;refine qAa (qDj (qJg (p4 (s:=⟨hh,g,d,t+1,os⟩) X I c.mo ?_)));show qBg _ _ (ret (Value.ref C)) _ _ _;refine qAe ?_;show qBg _ _ (handedOut (Value.ref C)) _ _ _;exact PySem.W.handed_on rfl (qAe h)
end
inductive Mm (K:qAc) (H:Hp):V->qAf->Prop where
 | of {v:V}{t:qAf} (h:jZ K H v t):Mm K H v t
 | exc {e C:Addr} (h:H e=some (Oq e C)) (c:oJ K C):Mm K H (.ref e) (.ref C)
theorem BZ {K:qAc}{e C:Addr} (c:oJ K C):qOb K (.ref e) (.ref C) (fun h=>∃oe,h.get? e=some oe/\oe.cls = .ref C) where
 ty:=fun M h _ ⟨oe,h1,h2⟩=>h2▸(PySem.W.Looks.ld h1).andThen .now
 it:=fun _ _ X _=>by
  have z:=c.cls;unfold qKs at z;split at z
  ·rename_i c' d' cd' sl' ho;intro A' Q' E' s' k q;unfold isType loadHead;exact qAa (wpAny_loadPart (k _ _ (X _ _ ho)) (qAe q))
  ·cases z
 ne:=fun h tp dd its n sl X htp=>by
  refine Bool.eq_false_iff.mpr fun q=>?_;have e:C=tp:=Value.ref.inj (beq_iff_eq.mp q);subst e;have z:=c.cls;unfold qKs at z;split at z
  ·rename_i c' d' cd' sl' ho;have z:=(X _ _ ho).symm.trans htp;cases z
  ·cases z
 ca:=fun X ⟨oe,h1,h2⟩ k=>Ic X c (fun M=>h2▸(PySem.W.Looks.ld h1).andThen .now) k
section
variable {X:Cx}{pins:List (Addr×Obj)}{σ:St}{H:Hp}{s:qAi}
theorem Mm.Pu {x:V}{u t:qAf} (I:Inv X pins σ H s) (rx:RelV x u) (ty:Mm X.K H x t):∃φ:Heap->Prop,qOb X.K u t φ/\φ s.heap/\u≠.builtin "__main__.__loader__#opaque":=by
 cases ty with
 | exc h c =>
  rename_i e C;cases (show u=Value.ref e from rx);obtain⟨z,_⟩:=I.cJ e _ h;exact⟨_,BZ c,z,fun z=>nomatch z⟩
 | of ty =>
  cases ty with
  | non=>cases (show u=Value.none from rx);exact⟨_,PySem.W.kitx_none,True.intro,fun z=>nomatch z⟩
  | bl y=>cases (show u=Value.bool y from rx);exact⟨_,PySem.W.kitx_bool,True.intro,fun z=>nomatch z⟩
  | int i=>obtain⟨t,q⟩:=(show ∃t,u=Value.int i t from rx);cases q;exact⟨_,PySem.W.kitx_int,True.intro,fun z=>nomatch z⟩
  | str y=>obtain⟨t,q⟩:=(show ∃t,u=Value.str y t from rx);cases q;exact⟨_,PySem.W.kitx_str,True.intro,fun z=>nomatch z⟩
  | flt y=>obtain⟨t,q⟩:=(show ∃t,u=Value.float y t from rx);cases q;exact⟨_,PySem.W.kitx_float,True.intro,fun z=>nomatch z⟩
  | @lst a xs ea =>
   cases (show u=Value.ref a from rx)
   obtain⟨_,_,n,_,h1⟩:=(show cS X.prog X.w H s.heap a (.lst xs) from I.cJ a _ ea);exact⟨_,qLx,⟨_,h1,rfl⟩,fun z=>nomatch z⟩
  | @frz a ob xs ea =>
   cases (show u=Value.ref a from rx)
   obtain⟨_,_,_,n,_,h1⟩:=(show cS X.prog X.w H s.heap a (.frz ob (.lst xs)) from I.cJ a _ ea);exact⟨_,qLx,⟨_,h1,rfl⟩,fun z=>nomatch z⟩
  | @tup a xs ea =>
   cases (show u=Value.ref a from rx)
   obtain⟨_,_,_,p⟩:=(show cS X.prog X.w H s.heap a (.tup xs) from I.cJ a _ ea);obtain⟨o,h1,h2,_⟩:=p;exact⟨_,PySem.W.kitx_tuple,⟨o,h1,h2⟩,fun z=>nomatch z⟩
  | @dK a kvs ea =>
   cases (show u=Value.ref a from rx)
   obtain⟨_,_,vs,_,p⟩:=(show cS X.prog X.w H s.heap a (.dK kvs) from I.cJ a _ ea);obtain⟨o,es,ep,h1,h2,_⟩:=p;exact⟨_,qLy,⟨o,h1,h2.1⟩,fun z=>nomatch z⟩
  | @dT a kvs ea =>
   cases (show u=Value.ref a from rx)
   obtain⟨_,_,xs,_,o,es,ep,h1,h2,_⟩:=(show cS X.prog X.w H s.heap a (.dT kvs) from I.cJ a _ ea);exact⟨_,qLy,⟨o,h1,h2.1⟩,fun z=>nomatch z⟩
  | @ins a C dx fs ea cl ha hn htk hm =>
   cases (show u=Value.ref a from rx)
   obtain⟨mA,O,_⟩:=nM I.cJ ea;obtain⟨od,J,_⟩:=O.look;exact⟨_,PySem.W.kitx_own (cl.get _) cl.hd ha hn htk hm,J,fun z=>nomatch z⟩
def Mn:V->Option qAf
 | .ty n=>some (.type n)
 | .ref a=>some (.ref a)
 | _=>none
theorem Ca {c:V}{cv u:qAf} (h:Mn c=some cv) (r:RelV c u):u=cv:=by
 cases c <;> first | (cases h;exact r) | cases h
theorem cI:g5 X (.builtin "isinstance") (fun xs H Q=>∃v c t cv b,xs=[v,c]/\Mn c=some cv/\Mm X.K H v t/\qGw X.K t cv=some b/\Q (.bl b) H):=by
 intro pins s σ H xs us Q I r h;obtain⟨v,c,t,cv,b,rfl,hc,ty,hk,q⟩:=h;obtain⟨u,cu,rfl,ru,rc⟩:=vals2 r;obtain rfl:=Ca hc rc;obtain⟨φ,Z,p,ne⟩:=ty.Pu I ru;exact PySem.W.kia_one Z I.wB p hk ne fun tk=>⟨.bl b,H,I.tok tk,rfl,q⟩
end
section
variable {X:Cx}
theorem bV (K:qAc) (h:X.K=K:=by rfl):Lx X (Mc K):=h▸bC
theorem eE (K:qAc) (h:X.K=K:=by rfl):Lx X (Me K):=h▸a9
theorem qH (K:qAc) (h:X.K=K:=by rfl):g5 X (.builtin "len") (fun xs H Q=>∃p ys,xs=[.ref p]/\(aR K H p ys\/cA K H p ys)/\Q (.int ys.length) H):=h▸aN
end
section
variable {X:Cx}
def yT (K:qAc):R2:=fun x y H Q=>∃l b xs zs,x = .ref l/\y = .ref b/\aR K H l xs/\aR K H b zs/\xs.length+zs.length<=qAh/\∀p,H p=none->Q (.ref p) (upd H p (.lst (xs++zs)))
theorem fA:iN X (qFw .Add) (yT X.K):=by
 intro pins s σ H x y v u Q I rx ry h;obtain⟨l,b,xs,zs,rfl,rfl,hH,hB,hz,q⟩:=h;cases rx;cases ry;obtain⟨its,r,pl,hl⟩:=I.list hH;obtain⟨its2,r2,pl2,hl2⟩:=I.list hB;obtain⟨⟨cls,dd,data,sl⟩,n,ho,hc,_,hd⟩:=pl;obtain⟨⟨cls2,dd2,data2,sl2⟩,n2,ho2,hc2,_,hd2⟩:=pl2;dsimp only at hc hd hc2 hd2;subst hc hd hc2 hd2;have ea:its.toArray++its2.toArray=(its++its2).toArray:=by simp
 refine concat_meets ⟨_,ho,rfl⟩ ⟨_,ho2,rfl⟩ noFill_list_add seq_list_add PySem.F.slot_list_add PySem.F.entry_list_add (PySem.F.args_list_add_2 _ _) (list_addW l b its.toArray its2.toArray n n2 dd dd2 sl sl2 (by rw[qAw,qAw,<- r.length,<- r2.length];exact hz)) ⟨ho,ho2,?_⟩;rw[ea];exact⟨.ref _,_,I.Mg (t':=s.toks) (r.append r2) (by rw[qAm];exact hz),rfl,q _ I.fresh⟩
def EJ (K:qAc) (f:Bool->Bool):R2:=fun x y H Q=>∃(l b:Addr) (ns ms:List Int),x = .ref l/\y = .ref b/\aR K H l (ns.map V.int)/\aR K H b (ms.map V.int)/\Q (.bl (f (decide (ns=ms)))) H
theorem Ie (hu:X.A.units+64<qLq):iN X (qDw .Eq) (EJ X.K id):=by
 intro pins s σ H x y v u Q I rx ry h;obtain⟨l,b,ns,ms,rfl,rfl,hH,hB,q⟩:=h;cases rx;cases ry;obtain⟨its,r,pl,hl⟩:=I.list hH;obtain⟨its2,r2,pl2,hl2⟩:=I.list hB;exact PySem.W.eq_intsK pl.isList (intsAre_of r) pl2.isList (intsAre_of r2) hu ⟨.bl (decide (ns=ms)),H,I,rfl,q⟩
theorem Cb (hu:X.A.units+64<qLq):iN X (qDw .NotEq) (EJ X.K (!·)):=by
 intro pins s σ H x y v u Q I rx ry h;obtain⟨l,b,ns,ms,rfl,rfl,hH,hB,q⟩:=h;cases rx;cases ry;obtain⟨its,r,pl,hl⟩:=I.list hH;obtain⟨its2,r2,pl2,hl2⟩:=I.list hB;exact PySem.W.ne_intsK pl.isList (intsAre_of r) pl2.isList (intsAre_of r2) hu ⟨.bl (!decide (ns=ms)),H,I,rfl,q⟩
def uH (i j:Int):Prop:=BC i j\/(i.natAbs<2^2000000/\j.natAbs<2^2000000)
theorem uH.ok {i j:Int} (h:uH i j):IntMulOk i j:=by
 rcases h with h | ⟨h1,h2⟩
 ·exact h.ok
 ·exact IntMulOk.of_le (m:=2000000) (n:=2000000) (intBits_le_iff.mpr h1) (intBits_le_iff.mpr h2) (by decide)
theorem bL:iN X (qFw .Mult) (rI uH fun i j=>.int (i*j)):=HK fun i j t u s Q E hc h=>mul_int h hc.ok
def yU (_ j:Int):Prop:=j≠0/\j.natAbs<2^8000
theorem yU.ok {i j:Int} (h:yU i j):Builtin.divisionGoesByPylong i j=false:=by
 obtain⟨h0,h1⟩:=h;have hl:j.natAbs.log2<8000:=(Nat.log2_lt (by lia)).mpr h1;have hd:¬((if (j == 0)=true then 0 else j.natAbs.log2/30+1)>300):=by
  split
  ·lia
  ·lia
 show(decide ((if (j == 0)=true then 0 else j.natAbs.log2/30+1)>300)&&_)=false;rw[decide_eq_false hd,qGf]
theorem gH:iN X (qFw .FloorDiv) (rI yU fun i j=>.int (i.fdiv j)):=HK fun i j t u s Q E hc h=>floordiv_int hc.1 h (.inl hc.ok)
theorem Inv.big {pins:List (Addr×Obj)}{σ:St}{H:Hp}{s:qAi} (I:Inv X pins σ H s):qFn<s.heap.objs.size:=by
 have h:qBh<s.heap.objs.size:=(I.mod.glob.keeps I.bk).lt;exact qPm (by decide) h
theorem uI {P:qBm}{w:qCy}{H:Hp} (h:Heap) (hb:qFn<h.objs.size):cS P w H (h.push { cls:=.type "dict",data:=.dict #[] }) h.objs.size (.dK []) :=
 ⟨qBq _,beq_eq_false_iff_ne.mpr (Ne.symm (qBf hb)),[],.nil,Heap.DictOf.new h⟩
def Ig:TE:=fun _ H Q=>∀p,H p=none->Q (.ref p) (upd H p (.dK []))
theorem Cc {pos:Pos}:PE X (.Dict [] [] pos) Ig:=fun pins s σ H Q I h =>
 wpAny_Dict_empty ⟨.ref s.heap.objs.size,_,I.laid (a:=s.heap.objs.size) (o:=.dK []) (t':=s.toks) (fun _ _ q=>qAj _ q) (qAg _) (uI s.heap I.big),rfl,h _ (I.cJ.fresh (qAg _))⟩
end
structure Tx (K:qAc) (mg:Str->Option qAf) (x:Str) (st:Stmt) (ps:List Str) (f:Addr) (fd:qBo):Prop where
 fn:HZ K x x st f fd
 at_:mg x=some (.ref f)
 bd:∀us:List qAf,us.length=ps.length->qNf fd ⟨us,[]⟩=pure (ps.zip us)
theorem bP {K:qAc}{mg:Str->Option qAf}{h:Heap}{x:Str}{st:Stmt}{ps:List Str}{f:Addr}{oc:qAf}{od an:Option Addr}{osl:Array (Option qAf)}{kV doc pm cdv ct:qAf} (X:K.In h) (G:h.Ns qBh mg)
  (a:qBw K qBh x=some (some (.ref f))) (l:K.lookup f=some ⟨oc,od,.func (qDn x x (dR st) (cQ st) (aI st) .none kV doc pm an cdv ct),osl⟩)
  (c:qDz K cdv x=true) (k:qCv K (.ref f)=true)
  (hb:∀(kV doc pm:qAf) (an:Option Addr) (cdv ct:qAf) (us:List qAf),us.length=ps.length->qNf (qDn x x (dR st) (cQ st) (aI st) .none kV doc pm an cdv ct) ⟨us,[]⟩=pure (ps.zip us)) :
  ∃f fd,Tx K mg x st ps f fd:=⟨f,_,BS l c k,qEe X G a,hb kV doc pm an cdv ct⟩
structure Df (P:qBm) (w:qCy) (K:qAc) (mg:Str->Option qAf) (base:Heap) (CX:Az) (k:Nat) (x:Str) (ps:List Str) (sp:Sp) (f:Addr) (fd:qBo):Prop where
 at_:mg x=some (.ref f)
 kp:qCv K (.ref f)=true
 ok:i9 P w K mg base CX k f fd ps sp
 bd:Binds K fd ps []
section
variable {P:qBm}{w:qCy}{K:qAc}{mg:Str->Option qAf}{base:Heap}{x:Str}{st:Stmt}{ps N:List Str}{f:Addr}{fd:qBo}{k:Nat}{sp:Sp}
theorem Tx.gY (t:Tx K mg x st ps f fd) (S:aT N ps (aI st)) (len:∀vs H Q E,sp vs H Q E->vs.length=ps.length)
  (hbody:∀(cdv:qAf) (A:qCt) (outer:List Env) (s:qAi) (H:Hp) (vs:List V) (Q:VK) (E:XK),dX k (A.deeper (qJb x (aI st) s.heap.objs.size f cdv))->sp vs H Q E ->
   ∃t,tU (oF b0 P w K mg base N x (aI st) f cdv A outer s H E).Lw (cQ st) t/\t { nx:=fun _ H'=>Q .non H',rt:=Q } (start N vs) H):Df P w K mg base b0 (k+1) x ps sp f fd :=
 ⟨t.at_,t.fn.kp,t.fn.ok S len hbody,.all t.bd⟩
theorem Tx.Ih (t:Tx K mg x st ps f fd) (S:aT N ps (aI st)) (len:∀vs H Q E,sp vs H Q E->vs.length=ps.length)
  (hbody:∀(cdv:qAf) (A:qCt) (outer:List Env) (s:qAi) (H:Hp) (vs:List V) (Q:VK) (E:XK),dX k (A.deeper (qJb x (aI st) s.heap.objs.size f cdv))->sp vs H Q E ->
   ∃t,tU (oF (j0 P w) P w K mg base N x (aI st) f cdv A outer s H E) (cQ st) t/\t { nx:=fun _ H'=>Q .non H',rt:=Q } (start N vs) H):Df P w K mg base (j0 P w) (k+1) x ps sp f fd :=
 ⟨t.at_,t.fn.kp,t.fn.Lz S len hbody,.all t.bd⟩
end
section
variable {X:Cx}{Ex:XS}{k j:Nat}{f:Addr}{fd:qBo}{ps:List Str}{sp:Sp}{x:Str}{p pos:Pos}{e:Expr}{es:List Expr}{t:TA}
theorem aX (D:Df X.prog X.w X.K X.mg X.base b0 k x ps sp f fd) (hr:dX j X.A) (hj:k<=j) (hg:Gl X x) (ha:PA X (e::es) t) (hdb:(x == ("__debug__":Str))=false:=by decide) (he:qBt (e::es) X.env=(false,eval e X.env)::qBt es X.env:=by rfl) (hpl:(qHc pos (qBt es X.env)).any (·.1)=false:=by rfl) :
  PE X (.Call (.Name x p) (e::es) [] pos) (Gg sp [] E0 t):=EA D.ok (hr.mono hj) hg D.at_ D.kp D.bd .nil Mi ha hdb he hpl
theorem fW (R:Pass X Ex) (D:Df X.prog X.w X.K X.mg X.base (j0 X.prog X.w) k x ps sp f fd) (hr:dX j X.A) (hj:k<=j) (hg:Gl X x) (ha:PA X (e::es) t) (hdb:(x == ("__debug__":Str))=false:=by decide) (he:qBt (e::es) X.env=(false,eval e X.env)::qBt es X.env:=by rfl) (hpl:(qHc pos (qBt es X.env)).any (·.1)=false:=by rfl) :
  PE X (.Call (.Name x p) (e::es) [] pos) (BW sp [] Ex t):=BX R D.ok (hr.mono hj) hg D.at_ D.kp D.bd .nil ha hdb he hpl
end
theorem cK {X:Cx}:Pass X (fun _ _ _=>False):=⟨fun _ _ _ _ _ _ _ _ _ _ q=>q.elim⟩
theorem Cd {n:Nat}{σ0:St}{H1:Hp}{i0:Nat}{c:TT}{te:TE}{Q:Addr->Hp->Prop} (f:Nat->Option V) (hn:n<=qAh)
  (step:∀(i:Nat) (H2:Hp) (k:VK) (k0:Hp->Prop),i<n->(∀y,f i=some y->k y H2)->(f i=none->k0 H2) ->
   c (σ0.set i0 (some (.int (0+(i:Int))))) H2 fun b H4=>if b=true then te (σ0.set i0 (some (.int (0+(i:Int))))) H4 k else k0 H4)
  (h:∀D,H1 D=none->Q D (upd H1 D (.lst ((qAn n).filterMap f)))) :
  ∀D,H1 D=none->∃W:Nat->Nat->St->Hp->Prop,(∃m,W 0 m σ0 (upd H1 D (.lst [])))/\∀i m σ1 H2,W i m σ1 H2 ->
   ((pU 0 n).stop i H2/\Q D H2)\/((pU 0 n).go i H2/\∃N:St->Hp->Prop,(∀σ' H',N σ' H'->∃m',m'<m/\W (i+1) m' σ' H') /\
    ∀x H',(pU 0 n).pX i H2 x H'->aY i0 x σ1 H' fun σ2 H3=>c σ2 H3 fun b H4=>if b=true then te σ2 H4 fun y H5=>∃xs,H5 D=some (.lst xs)/\xs.length<qAh/\N σ2 (upd H5 D (.lst (xs++[y]))) else N σ2 H4):=by
 intro D hD;refine⟨fun i m σ1 H2=>σ1.set i0 none=σ0.set i0 none/\H2=upd H1 D (.lst ((qAn i).filterMap f))/\i<=n/\m=n-i,⟨n,rfl,rfl,qBq _,rfl⟩,?_⟩;rintro i m σ1 H2 ⟨hσ,rfl,hi,rfl⟩;have hset:∀v:Option V,σ1.set i0 v=σ0.set i0 v:=fun v=>by
  have z:=congrArg (fun l=>qHu l i0 v) hσ;simpa using z
 rcases qAl i n with hlt | hge
 ·right
  refine⟨hlt,fun σ' H'=>σ'.set i0 none=σ0.set i0 none/\H'=upd H1 D (.lst ((qAn (i+1)).filterMap f)),fun σ' H' ⟨a,b⟩=>⟨n-(i+1),by lia,a,b,hlt,rfl⟩,?_⟩;rintro x H' ⟨rfl,rfl⟩;show c (σ1.set i0 (some (.int (0+(i:Int))))) _ _;rw[hset];refine step i _ _ _ hlt (fun y hy=>⟨_,aC,?_,?_,?_⟩) fun hno=>⟨?_,?_⟩
  ·refine qBp (qEt _ _) ?_;rw[qAu];lia
  ·simp
  ·rw[Eo,qBk,qBy];simp[hy]
  ·simp
  ·rw[qBk,qBy];simp[hno]
 ·left
  obtain rfl:i=n:=qCw hi hge;exact⟨qAg _,h D hD⟩
theorem aH.aF {H:Hp}{p:Addr}{o:HO} (h:H p=none):aH H (upd H p o):=fun b u e=>by
 rw[aM (bE e h)];exact e
theorem aH.ty {K:qAc}{H H':Hp}{v:V}{t:qAf} (s:aH H H') (h:jZ K H v t):jZ K H' v t:=by
 cases h with
 | non=>exact .non
 | bl x=>exact .bl x
 | int i=>exact .int i
 | str x=>exact .str x
 | flt x=>exact .flt x
 | lst e=>exact .lst (s _ _ e)
 | frz e=>exact .frz (s _ _ e)
 | tup e=>exact .tup (s _ _ e)
 | dK e=>exact .dK (s _ _ e)
 | dT e=>exact .dT (s _ _ e)
 | ins e cl ha hn htk hm=>exact .ins (s _ _ e) cl ha hn htk hm
theorem dO:qCs "isinstance"=some (.builtin "isinstance"):=by decide +kernel
theorem wW:qCs "int"=some (.type "int"):=by decide +kernel
theorem yV:qCs "bool"=some (.type "bool"):=by decide +kernel
theorem dA:qCs "list"=some (.type "list"):=by decide +kernel
theorem jB:qCs "tuple"=some (.type "tuple"):=by decide +kernel
theorem bM:qCs "len"=some (.builtin "len"):=by decide +kernel
theorem wX:qCs "abs"=some (.builtin "abs"):=by decide +kernel
theorem Ii {K:qAc}{C:Addr} (h2:qIc K (.ref C)=some (.type "type")) (h3:qBe K (.ref C) "__getattribute__"=some (some (.builtin "BaseException.__getattribute__"))) (h4:qBe K (.ref C) "__getattr__"=some none)
  (h5:qBe K (.ref C) "__class__"=some (some (.builtin "object.__class__"))) (h6:qEy K (.builtin "object.__class__") "__get__"=some (some (.builtin "getset_descriptor.__get__"))) (h7:qFp K (.builtin "object.__class__")=some true)
  (h8:qDy K C (.type "object")=some true) (h9:qDy K C (.type "BaseException")=some true):oJ K C:=by
 refine⟨?_,h2,h3,h4,h5,h6,h7,h8,h9⟩;unfold qDy at h8;obtain⟨cd,a,_⟩:=Option.bind_eq_some_iff.mp h8;rw[a];rfl
inductive Kd:String->Prop where
 | non:Kd "NoneType"
 | bl:Kd "bool"
 | int:Kd "int"
 | str:Kd "str"
 | tup:Kd "tuple"
 | lst:Kd "list"
 | dic:Kd "dict"
theorem Kd.Mo (K:qAc){T:String} (h:Kd T):qGw K (.type T) (.type "int")=some (T == "int" || T == "bool"):=by
 cases h <;> rfl
theorem Kd.Gm (K:qAc){T:String} (h:Kd T):qGw K (.type T) (.type "bool")=some (T == "bool"):=by
 cases h <;> rfl
theorem Kd.mW (K:qAc){T:String} (h:Kd T):qGw K (.type T) (.type "list")=some (T == "list"):=by
 cases h <;> rfl
theorem Kd.oK (K:qAc){T:String} (h:Kd T):qGw K (.type T) (.type "tuple")=some (T == "tuple"):=by
 cases h <;> rfl
def kG:V->Bool
 | .int _=>true
 | _=>false
structure Pl (K:qAc) (H:Hp) (v:V):Prop where
 ex:∃T,jZ K H v (.type T)/\Kd T
theorem Pl.int {K:qAc}{H:Hp} (i:Int):Pl K H (.int i):=⟨_,.int i,.int⟩
theorem Pl.kG {K:qAc}{H:Hp}{v:V}{T:String} (h:jZ K H v (.type T)):kG v=(T == "int"):=by
 cases h <;> rfl
theorem Pl.same {K:qAc}{H H':Hp}{v:V} (h:Pl K H v) (s:aH H H'):Pl K H' v:=let ⟨T,a,b⟩:=h.ex;⟨T,s.ty a,b⟩
def EK (lo hi:Int):V->Bool
 | .int i=>decide (lo<=i)&&decide (i<=hi)
 | _=>false
section
variable {X:Cx}{pins:List (Addr×Obj)}{σ:St}{H H':Hp}{s:qAi}{h':Heap}
theorem Inv.nP {t':Nat}{fp:List Addr} (I:Inv X pins σ H s) (k:∀b o,b∉fp->s.heap.get? b=some o->h'.get? b=some o) (hf:∀b∈fp,i5 X pins H b):Inv X pins σ H { s with heap:=h',toks:=t' }:=by
 have nit:∀b u,H b=some u->b∉fp:=fun b u e z=>by rw[(hf b z).1] at e;cases e
 refine I.step (g':=s.gens) (d':=s.drawn) (ch:=fp) (fun b hb=>?_) (fun b o _ _ hc e _=>k b o hc e) (fun b o _ _ hc e _=>⟨o.slots,k b o hc e⟩) (fun _ _ _ _ n=>n)
  (fun b o hc e=>⟨o,k b o hc e⟩) (fun _ _ e=>e) (fun _ _ _ e=>e) (fun b ps e=>⟨#[],by rw[e];simp⟩) (fun m hm=>?_) (fun b u e=>?_) I.bare
 ·obtain⟨_,f1,_,f3,f4,f5⟩:=hf b hb;exact⟨f3,f1,f4,f5⟩
 ·obtain⟨o,es,ep,ho,r⟩:=hm;exact⟨o,es,ep,k _ o (fun z=>(hf _ z).2.1 rfl) ho,r⟩
 ·refine(I.cJ b u e).tZ (fun c v hc q=>k c v ?_ q) (fun _ q=>q) fun _ _ q=>q;rcases hc with z | z
  ·rw[z];exact nit b u e
  ·exact nit c _ z
end
def yW (K:qAc) (l1 l2:Addr):It :=
  ⟨fun i H=>∃xs ys x y,aR K H l1 xs/\aR K H l2 ys/\xs[i]?=some x/\ys[i]?=some y,
   fun i H v H'=>∃t x y,v = .ref t/\H t=none/\H'=upd H t (.tup [x,y])/\(∀xs,aR K H l1 xs->xs[i]?=some x)/\∀ys,aR K H l2 ys->ys[i]?=some y,
   fun i H=>∃xs ys,aR K H l1 xs/\aR K H l2 ys/\(xs.length<=i\/ys.length<=i)⟩
def Mp (z TI TO i1 i2 l1 l2:Addr) (i:Nat) (h:Heap):Prop :=
 IsZip h z TI TO .none/\IsPair h TI (.ref i1) (.ref i2)/\(∃a b,IsPair h TO a b)/\h.IsListIter i1 l1 i/\h.IsListIter i2 l2 i
theorem Ce {P:qBm}{w:qCy}{K:qAc}{elts:List Expr} {x1}{pos:Pos}{z TI TO i1 i2 l1 l2:Addr} (D:ZipApart z TI TO i1 i2 l1 l2) :
  Turn P w K (.Tuple elts x1 pos) (yW K l1 l2) [z,TI,TO,i1,i2] z (Mp z TI TO i1 i2 l1 l2) where
 mem:=by simp
 obj:=fun i h ⟨hz,hTI,⟨a,b,hTO⟩,⟨o1,h1,_,d1⟩,⟨o2,h2,_,d2⟩⟩ b hb=>by
  simp only[qEc,qDc,or_false] at hb;rcases hb with rfl | rfl | rfl | rfl | rfl
  ·exact⟨_,hz,fun v q=>nomatch q⟩
  ·exact⟨_,hTI,fun v q=>nomatch q⟩
  ·exact⟨_,hTO,fun v q=>nomatch q⟩
  ·exact⟨_,h1,fun v q=>by rw[d1] at q;cases q⟩
  ·exact⟨_,h2,fun v q=>by rw[d2] at q;cases q⟩
 keep:=fun i h h' ⟨hz,hTI,⟨a,b,hTO⟩,h1,h2⟩ k=>⟨k z (by simp) _ hz,k TI (by simp) _ hTI,⟨a,b,k TO (by simp) _ hTO⟩,h1.at fun o e=>k i1 (by simp) o e,h2.at fun o e=>k i2 (by simp) o e⟩
 item:=by
  intro X hP hw hK hc i pins s σ H E I hf st hg;subst hP hw hK;obtain⟨hz,hTI,⟨a,b,hTO⟩,h1,h2⟩:=st;obtain⟨xs,ys,x,y,q1,q2,hx,hy⟩:=hg;obtain⟨its1,r1,p1,z1⟩:=I.list q1;obtain⟨its2,r2,p2,z2⟩:=I.list q2;obtain⟨u,hu,ru⟩:=r1.get hx;obtain⟨v,hv,rv⟩:=r2.get hy;refine wpAny_pyNext_zip_item D hz hTI hTO h1 h2 p1.isList p2.isList (by simpa using hu) (by simpa using hv) fun h' a1 a2 a3 a4 a5 a6 a7=>⟨_,rfl,?_⟩;refine wpAny_letOwnedTupleGo_zip a1 fun h'' b1 hs=>?_;have lt:∀c o,s.heap.get? c=some o->c≠s.heap.objs.size:=fun c o e=>qBf (qAs e);have ltz:s.heap.objs.size≠z:=(lt z _ hz).symm;have I1:Inv X pins σ H { s with heap:=h'' }:=I.nP (t':=s.toks) (fun c o hb e=>(hs.2 c (fun q=>hb (by simp[q]))).trans (a7 c o (fun q=>hb (by simp[q])) (fun q=>hb (by simp[q])) (fun q=>hb (by simp[q])) (fun q=>hb (by simp[q])) e)) hf;have ht:h''.get? s.heap.objs.size=some { cls:=.type "tuple",data:=.seq #[u,v] }:=(hs.2 _ ltz).trans a5;have hn:H s.heap.objs.size=none:=I.cJ.fresh (qAg _);have I2:Inv X pins σ (upd H s.heap.objs.size (.tup [x,y])) { s with heap:=h'' }:=by
   refine I1.Gk hn (qIq I.sz) (qBf I.lt).symm (fun y c q=>?_) (fun p hp=>?_) (I.Hz (qAg _)) ⟨iY,[u,v],.cons ru (.cons rv .nil),_,ht,rfl,_,rfl⟩
   ·obtain⟨_,o,ho,_⟩:=I.cell y c q;exact lt c o ho
   ·exact lt _ _ (I.pin p hp).1
  refine⟨.ref s.heap.objs.size,_,I2,rfl,⟨_,x,y,rfl,hn,rfl,fun xs' q=>?_,fun ys' q=>?_⟩,⟨b1,(hs.2 _ D.TIz).trans (a7 _ _ D.TIz D.TITO D.TIi1 D.TIi2 hTI),⟨_,_,(hs.2 _ D.TOz).trans a2⟩,a3.at fun o e=>(hs.2 _ D.i1z).trans e,a4.at fun o e=>(hs.2 _ D.i2z).trans e⟩,fun c hb=>?_⟩
  ·rw[I.i3 q q1];exact hx
  ·rw[I.i3 q q2];exact hy
  ·obtain⟨o,ho,_⟩:∃o,s.heap.get? c=some o/\True:=by
    simp only[qEc,qDc,or_false] at hb;rcases hb with rfl | rfl | rfl | rfl | rfl
    ·exact⟨_,hz,trivial⟩
    ·exact⟨_,hTI,trivial⟩
    ·exact⟨_,hTO,trivial⟩
    ·obtain⟨o,ho,_⟩:=h1;exact⟨o,ho,trivial⟩
    ·obtain⟨o,ho,_⟩:=h2;exact⟨o,ho,trivial⟩
   rw[aM (lt c o ho)];exact(hf c hb).1
 done:=by
  intro X hP hw hK hc i pins s σ H E I hf st hg;subst hP hw hK;obtain⟨hz,hTI,⟨a,b,hTO⟩,h1,h2⟩:=st;obtain⟨xs,ys,q1,q2,hend⟩:=hg;obtain⟨its1,r1,p1,z1⟩:=I.list q1;obtain⟨its2,r2,p2,z2⟩:=I.list q2;refine wpAny_pyNext_zip_end (I.ok.hd hc) D hz hTI hTO h1 h2 p1.isList p2.isList ?_ fun h' k=>⟨rfl,I.nP (t':=s.toks) (fun c o hb e=>k c o (fun q=>hb (by simp[q])) (fun q=>hb (by simp[q])) (fun q=>hb (by simp[q])) (fun q=>hb (by simp[q])) e) hf⟩;have e1:=r1.length;have e2:=r2.length;rcases hend with h | h
  ·left
   simp;lia
  ·right
   simp;lia
 self:=fun _ _ _ _ _ st h=>wpAny_pyIter_zip st.1 h
def Ot (K:qAc) (ta:TA):TI:=fun σ H R=>ta σ H fun vs H1=>∃l1 l2,vs=[.ref l1,.ref l2]/\(∃xs,aR K H1 l1 xs)/\(∃ys,aR K H1 l2 ys)/\R (yW K l1 l2) H1
theorem Ij:qCs "zip"=some (.type "zip"):=by decide +kernel
theorem gI {X:Cx}{elts:List Expr} {x1}{tpos:Pos}{a b:Expr}{ta:TA}{p pos:Pos} (hg:Gl X "zip") (hm:X.mg "zip"=none) (ha:PA X [a,b] ta) (hs:qBt [a,b] X.env=[(false,eval a X.env),(false,eval b X.env)]:=by rfl) (hs2:qBt [b] X.env=[(false,eval b X.env)]:=by rfl) :
  PI X (.Tuple elts x1 tpos) (.Call (.Name "zip" p) [a,b] [] pos) (Ot X.K ta):=by
 intro pins s σ H R I h;refine qOa (fI I hg hm Ij (qCf (cF (ha pos pins s σ H _ I h) fun us s1 ⟨vs,H1,I1,r1,q1⟩=>?_) (by rw[hs,hs2]) (by rw[hs2];rfl)));obtain⟨l1,l2,e,⟨xs,q1⟩,⟨ys,q2⟩,q⟩:=q1;subst e;obtain⟨u,v,rfl,ru,rv⟩:=vals2 r1;cases (show u=Value.ref l1 from ru);cases (show v=Value.ref l2 from rv);obtain⟨its1,r1,p1,z1⟩:=I1.list q1;obtain⟨its2,r2,p2,z2⟩:=I1.list q2;have t1:l1<s1.heap.objs.size:=by obtain⟨o,ho,_⟩:=p1.isList;exact qAs ho
 have t2:l2<s1.heap.objs.size:=by obtain⟨o,ho,_⟩:=p2.isList;exact qAs ho
 refine call_zip_2 p1.isList p2.isList fun h' hz hTI hTO hi1 hi2 hsz hk=>?_;refine wpAny_pyIter_zip hz ?_;have I2:Inv X pins σ H1 { s1 with heap:=h' }:=I1.kept (t':=s1.toks) hk;refine⟨_,[s1.heap.objs.size+4,s1.heap.objs.size+2,s1.heap.objs.size+3,s1.heap.objs.size,s1.heap.objs.size+1],_,_,H1,rfl,I2,Ce (zipApart_new t1 t2),⟨hz,hTI,⟨_,_,hTO⟩,hi1,hi2⟩,fun c hc=>?_,q⟩;have hge:s1.heap.objs.size<=c:=by
  simp only[qEc,qDc,or_false] at hc;rcases hc with h | h | h | h | h
  all_goals first | (rw[h];exact qOf _ _) | exact qIi h.symm
 have:=I1.As (H':=H1) hge (I1.cJ.fresh hge);exact this
theorem nQ {K:qAc}{l1 l2:Addr}{xs ys:List V}{g:TG}{tb:TS}{D:Ends}{σ:St}{H:Hp} (Pv:Nat->St->Hp->Prop) (h0:Pv 0 σ H) (hl:∀i σ H,i<=xs.length->Pv i σ H->aR K H l1 xs/\aR K H l2 ys) (hlen:xs.length=ys.length)
  (hs:∀i x y t σ H,xs[i]?=some x->ys[i]?=some y->H t=none->Pv i σ H->g (.ref t) σ (upd H t (.tup [x,y])) fun σ2 H2=>tb { D with nx:=Pv (i+1),ct:=Pv (i+1),bk:=D.nx } σ2 H2) (hd:∀σ H,Pv xs.length σ H->D.nx σ H) :
  ∃W:Nat->Nat->St->Hp->Prop,(∃m,W 0 m σ H)/\∀i m σ H,W i m σ H ->
   ((yW K l1 l2).stop i H/\D.nx σ H)\/((yW K l1 l2).go i H/\∃N:St->Hp->Prop,(∀σ' H',N σ' H'->∃m',m'<m/\W (i+1) m' σ' H')/\∀x H',(yW K l1 l2).pX i H x H'->g x σ H' fun σ2 H2=>tb { D with nx:=N,ct:=N,bk:=D.nx } σ2 H2):=by
 refine⟨fun i m σ H=>Pv i σ H/\i<=xs.length/\m=xs.length-i,⟨_,h0,qBq _,rfl⟩,?_⟩;rintro i m σ H ⟨hp,hi,rfl⟩;obtain⟨q1,q2⟩:=hl i σ H hi hp;rcases qAl i xs.length with hlt | hge
 ·right
  obtain⟨x,hx⟩:∃x,xs[i]?=some x:=⟨_,qAd hlt⟩;obtain⟨y,hy⟩:∃y,ys[i]?=some y:=⟨_,qAd (hlen▸hlt)⟩;refine⟨⟨xs,ys,x,y,q1,q2,hx,hy⟩,Pv (i+1),fun σ' H' h=>⟨_,qMx hlt (qGn _),h,hlt,rfl⟩,?_⟩;rintro v H' ⟨t,x',y',rfl,hn,rfl,e1,e2⟩;have e1':=e1 xs q1;have e2':=e2 ys q2;rw[hx] at e1';rw[hy] at e2';cases e1';cases e2';exact hs i x y t σ H hx hy hn hp
 ·left
  obtain rfl:i=xs.length:=qCw hi hge;exact⟨⟨xs,ys,q1,q2,.inl (qAg _)⟩,hd σ H hp⟩
@[reducible] def Pb (A:qCt):qCt:={ A with handled:=none }
section
variable {X:Cx}{k j:Nat}{f:Addr}{fd:qBo}{ps:List Str}{sp:Sp}{x:Str}{p pos:Pos}{e:Expr}{es:List Expr}{t:TA}
end
end L2
namespace L2
open PySem PySem.Spec PyProof.Rows PySem.W PySem.Calls
def Sm (n:Nat) (i:Int):Prop:=i.natAbs<2^n
theorem Cf {i:Nat}{v:V}{c:TT}{t e u:TS}{D:Ends}{σ:St}{H:Hp} (P:St->Hp->Prop) (hk:∀σ H,P σ H->u D σ H) (h:(∀σ H,P σ H->u D σ H)->HD c t e { D with nx:=u D } (σ.set i (some v)) H):aY i v σ H (LQ (HD c t e) u D):=h hk
theorem Sm.mono {i:Int}{a b:Nat} (h:Sm a i) (hab:a<=b):Sm b i:=qBd h (qBr (by decide) hab)
theorem Sm.le {i j:Int}{a:Nat} (h:Sm a i) (hij:j.natAbs<=i.natAbs):Sm a j:=qBp hij h
theorem Sm.mul {i j:Int}{a b:Nat} (h1:Sm a i) (h2:Sm b j):Sm (a+b) (i*j):=by
 unfold Sm at *;rw[qDs,qPq];exact Nat.mul_lt_mul'' h1 h2
theorem Sm.add {i j:Int}{a:Nat} (h1:Sm a i) (h2:Sm a j):Sm (a+1) (i+j):=by
 unfold Sm at *;have e:2^(a+1)=2^a*2:=qIh ..;lia
theorem Sm.sub {i j:Int}{a:Nat} (h1:Sm a i) (h2:Sm a j):Sm (a+1) (i-j):=by
 unfold Sm at *;have e:2^(a+1)=2^a*2:=qIh ..;lia
theorem Sm.fdiv {i d:Int}{a:Nat} (h:Sm a i):Sm a (i.fdiv d):=h.le (qLd i d)
theorem Sm.zero {n:Nat}:Sm n 0:=qGx _
theorem Sm.of {i:Int} (a:Nat){b:Nat} (h:i.natAbs<2^a) (hab:a<=b):Sm b i:=Sm.mono (a:=a) h hab
theorem Sm.mb {i j:Int}{m n:Nat} (h1:Sm m i) (h2:Sm n j) (hm:m<=2000000:=by decide) (hn:n<=2000000:=by decide):uH i j:=.inr ⟨h1.mono hm,h2.mono hn⟩
theorem Sm.db {i j:Int}{m:Nat} (h0:j≠0) (h1:Sm m j) (hm:m<=8000:=by decide):yU i j:=⟨h0,h1.mono hm⟩
end L2
namespace PySem.SeqAt
open AutoSeq1 (wpAny_loadPart')
open MeetsSeq MeetsSeq2 MeetsSeq3 SeqRoads2
theorem nC {M:qNz}{A:qCt}{E:qAf->qAi->Prop}{s:qAi}{β:Type} (f:Nat->β->Sem (ForInStep β)) (I:Nat->β->qAi->Prop) (Q:β->qAi->Prop) (n:Nat)
  (turn:∀i b s,i<n->I i b s->qBg M A (f i b) (fun r s'=>match r with | .yield b'=>I (i+1) b' s' | .done b'=>Q b' s') E s)
  (fin:∀b s,I n b s->Q b s) (b:β) (h:I 0 b s):qBg M A (forIn [0:n] b f) Q E s:=by
 rw[Std.Legacy.Range.forIn_eq_forIn_range'];refine wpAny_forIn_list f (fun rest b s=>∃i,i<=n/\rest=List.range' i (n-i)/\I i b s) Q ?_ ?_ _ b ⟨0,qBq _,?_,h⟩
 ·rintro x rest b s ⟨i,hi,hr,hI⟩;have hlt:i<n:=by
   rcases qAl i n with z | z
   ·exact z
   ·rw[show n-i=0 by lia] at hr;cases hr
  obtain⟨k,hk⟩:∃k,n-i=k+1:=⟨n-i-1,by lia⟩;rw[hk,qNt] at hr;obtain⟨rfl,rfl⟩:=List.cons.inj hr;refine qHk (turn x b s hlt hI) (fun r s' hr=>?_) fun _ _ z=>z;cases r with
  | done b'=>exact hr
  | yield b'=>exact⟨x+1,hlt,by rw[show n-(x+1)=k by lia],hr⟩
 ·rintro b s ⟨i,hi,hr,hI⟩;have:i=n:=by
   rcases qAl i n with z | z
   ·obtain⟨k,hk⟩:∃k,n-i=k+1:=⟨n-i-1,by lia⟩;rw[hk,qNt] at hr;cases hr
   ·lia
  subst this;exact fin _ _ hI
 ·simp[Std.Legacy.Range.size]
theorem p5 (l:Addr) (items:Array qAf) (n:Nat) (dd:Option Addr) (sl:Array (Option qAf)) (x:qAf) (e:qAf->Bool) (j:Nat) (hj:j<items.size)
  (hit:e items[j]=true) (hno:∀m (hm:m<items.size),m<j->e items[m]=false) :
  Meets (Builtin.«tuple.index» ⟨[.ref l,x],[]⟩)
   (fun A R s=>s.heap.get? l=some { cls:=.type "tuple",dict:=dd,data:=.seq items n,slots:=sl }/\(∀y,y∈items->EqAt A.in1 s y x (e y))/\R (.ok (.ret (.int (j:Nat) s.toks))) { s with toks:=s.toks+1 }) :=
 .of_wp fun prog w A R s h=>by
  obtain⟨hp,g,d,tk,os⟩:=s;obtain⟨hl,he,h⟩:=h;wp_walk using wpAny_loadPart' hl,nC _ (fun i b s'=>b.1=none/\s'=⟨hp,g,d,tk,os⟩/\i<=j) _ _
  case turn =>
   rintro i b s' hi ⟨hb,rfl,hij⟩;have hi':i<items.size:=by lia
   rw[qBn hi'];refine qAa (he _ (Array.getElem_mem hi') prog w _ _ ?_);rcases qAl i j with z | z
   ·rw[hno i hi' z];wp_walk;exact⟨rfl,rfl,z⟩
   ·obtain rfl:i=j:=by lia
    rw[hit];wp_walk;exact⟨_,rfl,h⟩
  case fin =>
   rintro⟨b1,b2⟩ s' ⟨hb,rfl,hij⟩;lia
  case h =>
   exact⟨rfl,rfl,qBq _⟩
end PySem.SeqAt
namespace L2
open PySem PySem.Spec PyProof.Rows
theorem aH.Pw {K:qAc}{H H':Hp}{a:Addr}{xs:List V} (e:aH H H') (h:cA K H a xs):cA K H' a xs:=by
 rcases h with (h | ⟨o,h⟩) | h
 ·exact .inl (.inl (e _ _ h))
 ·exact .inl (.inr ⟨o,e _ _ h⟩)
 ·exact .inr h
theorem aH.upd_ne' {H H':Hp}{D:Addr}{o:HO} (s:aH H H') (h:H D=none):aH H (upd H' D o):=fun b u e=>by
 rw[aM (bE e h)];exact s b u e
theorem r9 {α β:Type} (F:α->β):∀xs:List α,((qAn xs.length).filterMap fun i=>(xs[i]?).bind fun x=>some (F x))=xs.map F
 | []=>rfl
 | x::r=>by
  rw[qCh,qLj,qCg,qJf];show F x::_=F x::r.map F;rw[<- r9 F r];rfl
theorem yX {α β:Type} (f:α->Option β):∀xs:List α,((qAn xs.length).filterMap fun i=>(xs[i]?).bind f)=xs.filterMap f
 | []=>rfl
 | x::r=>by
  rw[qCh,qLj,qCg,qJf,qCg,<- yX f r];rfl
def SameBut (x:Addr) (H H':Hp):Prop:=∀b o,b≠x->H b=some o->H' b=some o
theorem aH.but {H H':Hp} (s:aH H H') (x:Addr):SameBut x H H':=fun b o _ e=>s b o e
theorem SameBut.then {x:Addr}{H H1 H2:Hp} (a:SameBut x H H1) (b:aH H1 H2):SameBut x H H2:=fun c o n e=>b c o (a c o n e)
theorem SameBut.nE {x:Addr}{H H1:Hp} (a:SameBut x H H1) (u:HO):SameBut x H (upd H1 x u):=fun c o n e=>by rw[aM n];exact a c o n e
theorem SameBut.made {x dx:Addr}{H H':Hp}{C:Addr} (hx:H x=none) (hd:H dx=none) (ne:dx≠x) (s:SameBut x (upd (upd H dx (.own x)) x (.ins C dx [])) H'):aH H H':=fun b o e=>by
 have n1:b≠x:=bE e hx;have n2:b≠dx:=bE e hd;exact s b o n1 (by rw[aM n1,aM n2];exact e)
theorem i9.up {P:qBm}{w:qCy}{K:qAc}{mg:Str->Option qAf}{base:Heap}{k:Nat}{f:Addr}{fd:qBo}{ps:List Str}{sp:Sp} (F:i9 P w K mg base b0 k f fd ps sp):i9 P w K mg base (j0 P w) k f fd ps sp :=
 ⟨F.len,fun A outer s H args us vs Q E hr he hb hv hs=>qGc (F.run A outer s H args us vs Q E hr he hb hv hs) fun r s' h=>by
  cases r with
  | error e=>exact False.elim h
  | ok fl=>cases fl <;> exact h⟩
structure Mx (K:qAc) (x qual:Str) (st:Stmt) (ps:List Str) (f:Addr) (fd:qBo):Prop where
 fn:HZ K x qual st f fd
 bd:∀us:List qAf,us.length=ps.length->qNf fd ⟨us,[]⟩=pure (ps.zip us)
theorem qI {K:qAc}{x qual:Str}{st:Stmt}{ps:List Str}{f:Addr}{oc:qAf}{od an:Option Addr}{osl:Array (Option qAf)}{kV doc pm cdv ct:qAf}
  (l:K.lookup f=some ⟨oc,od,.func (qDn x qual (dR st) (cQ st) (aI st) .none kV doc pm an cdv ct),osl⟩)
  (c:qDz K cdv qual=true) (k:qCv K (.ref f)=true)
  (hb:∀(kV doc pm:qAf) (an:Option Addr) (cdv ct:qAf) (us:List qAf),us.length=ps.length->qNf (qDn x qual (dR st) (cQ st) (aI st) .none kV doc pm an cdv ct) ⟨us,[]⟩=pure (ps.zip us)) :
  ∃fd,Mx K x qual st ps f fd:=⟨_,BS l c k,hb kV doc pm an cdv ct⟩
structure Md (P:qBm) (w:qCy) (K:qAc) (mg:Str->Option qAf) (base:Heap) (k:Nat) (ps:List Str) (sp:Sp) (f:Addr):Prop where
 ex:∃fd,i9 P w K mg base (j0 P w) k f fd ps sp/\Binds K fd ps []
section
variable {P:qBm}{w:qCy}{K:qAc}{mg:Str->Option qAf}{base:Heap}{x qual:Str}{st:Stmt}{ps N:List Str}{f:Addr}{fd:qBo}{k j:Nat}{sp sp':Sp}
theorem Mx.LA (t:Mx K x qual st ps f fd) (S:aT N ps (aI st)) (len:∀vs H Q E,sp vs H Q E->vs.length=ps.length)
  (hbody:∀(cdv:qAf) (A:qCt) (outer:List Env) (s:qAi) (H:Hp) (vs:List V) (Q:VK) (E:XK),dX k (A.deeper (qJb qual (aI st) s.heap.objs.size f cdv))->sp vs H Q E ->
   ∃t,tU (oF b0 P w K mg base N qual (aI st) f cdv A outer s H E).Lw (cQ st) t/\t { nx:=fun _ H'=>Q .non H',rt:=Q } (start N vs) H):Md P w K mg base (k+1) ps sp f :=
 ⟨fd,(t.fn.ok S len hbody).up,.all t.bd⟩
end
section
variable {X:Cx}{Ex:XS}{k j:Nat}{f C:Addr}{ps:List Str}{sp:Sp}{x m:Str}{p pos apos:Pos}{e o:Expr}{es:List Expr}{ta:TE}{t:TA}
def Ik (K:qAc) (MO:Addr->Sp->Prop) (m:Str) (Ex:XS) (ta:TE) (t:TA):TE:=fun σ H Q=>ta σ H fun x H1=>∃a C dx fs g sp,x = .ref a/\H1 a=some (.ins C dx fs)/\fs.lookup m=none/\Ek K C/\Meth K C m g/\MO g sp /\
 t σ H1 fun vs H2=>sp (x::vs) H2 Q fun c _ H'=>Ex c σ H'
theorem gJ {pl:Sem Bool} (R:Pass X Ex) (he:PE X o ta) (hr:dX j X.A) (hj:k<=j) (ha:PA X (e::es) t)
  (hst:qBt (e::es) X.env=(false,eval e X.env)::qBt es X.env:=by rfl) (hpl:(qHc pos (qBt es X.env)).any (·.1)=false:=by rfl)
  (ht:eval (.Call (.Attribute o m apos) (e::es) [] pos) X.env=(do
   let ov <- eval o X.env
   standAt apos.atName
   let (f,first) <- qLo [ov] (getMethod ov m pl)
   callWith pos f first (qHc pos (qBt (e::es) X.env)) (backToKw pos (keywordEach [] X.env))):=by rfl) :
  PE X (.Call (.Attribute o m apos) (e::es) [] pos) (Ik X.K (fun g sp=>∃ps,Md X.prog X.w X.K X.mg X.base k ps sp g) m Ex ta t):=by
 intro pins s σ H Q I h;refine PySem.W.methodCall_KW (pl:=pl) (cF (he pins s σ H _ I h) fun u s1 ⟨x,H1,I1,rx,a,C,dx,fs,g,sp,ex,ea,l,c,hm,⟨ps,F⟩,q⟩=>?_) ht;subst ex;obtain rfl:u=Value.ref a:=rx;obtain⟨fd,F,hb⟩:=F.ex;refine wI I1 ea c hm l ?_;refine qGr (first:=[.ref a]) (h₀:=X.base) I.ok.mod.Hx hm.kp (cF (ha pos pins s1 σ H1 _ I1 q) fun us s2 ⟨vs,H2,I2,r,q2⟩=>⟨I2.wB,?_⟩) hst hpl;exact yS (us:=.ref a::us) (vs:=.ref a::vs) R F (hr.mono hj) hb .nil I2 (.cons rfl r) (by rw[qDm];exact q2)
def Il (C:Addr) (sp:Sp) (Ex:XS) (t:TA):TE:=fun σ H Q=>t σ H fun vs H1=>∀x dx,H1 x=none->H1 dx=none->dx≠x ->
 sp (.ref x::vs) (upd (upd H1 dx (.own x)) x (.ins C dx [])) (fun v H2=>v = .non/\Q (.ref x) H2) fun c _ H'=>Ex c σ H'
theorem AG {fd:qBo}{pins:List (Addr×Obj)}{σ:St}{H:Hp}{s:qAi}{Q:VK}{us:List qAf}{vs:List V} (R:Pass X Ex) (M:Mk X.K C f) (F:i9 X.prog X.w X.K X.mg X.base (j0 X.prog X.w) k f fd ps sp) (hr:dX (k+1) X.A) (hb:Binds X.K fd ps [])
  (I:Inv X pins σ H s) (r:Vals vs us)
  (h:∀x dx,H x=none->H dx=none->dx≠x->sp (.ref x::vs) (upd (upd H dx (.own x)) x (.ins C dx [])) (fun v H2=>v = .non/\Q (.ref x) H2) fun c _ H'=>Ex c σ H') :
  qBg (qBz X.prog X.w) X.A (call (.ref C) us) (EP X pins σ Q) X.xe s:=by
 have hq:=h (s.heap.objs.size+1) s.heap.objs.size (I.cJ.fresh (qFd _)) (I.cJ.fresh (qAg _)) (qBf (qGn _));have I2:=Inv.made (C:=C) I;have r2:Vals (V.ref (s.heap.objs.size+1)::vs) (Value.ref (s.heap.objs.size+1)::us):=.cons rfl r;have hl:(Value.ref (s.heap.objs.size+1)::us).length=ps.length:=by
  have e:=r2.length;rw[F.len _ _ _ _ hq] at e;exact e.symm
 have hb2:=hb { s with heap:=(s.heap.push qDo).push (qEh C s.heap.objs.size) } (Value.ref (s.heap.objs.size+1)::us) I2.wB (by rw[qDm];exact hl);rw[qDm] at hb2;refine qJg (BK (f:=f) I.wB M.makes M.init (beq_iff_eq.mp M.fn) (qGc (F.run _ X.stack _ _ ⟨Value.ref (s.heap.objs.size+1)::us,[]⟩ (Value.ref (s.heap.objs.size+1)::us) _ _ _ (hr.make C us [])
  (I2.HM.make C us []) hb2 r2 hq) fun r s' hq'=>?_))
 cases r with
 | error ev =>
  obtain⟨e,C',H',rfl,Fl,q⟩:=hq';exact R.on pins σ _ _ e C' H' s' I2 Fl q
 | ok fl =>
  cases fl with
  | ret u =>
   obtain⟨v,H',I3,rv,ev,q3⟩:=I2.after hq';subst ev;exact⟨rv,⟨V.ref (s.heap.objs.size+1),H',I3,rfl,q3⟩⟩
  | next=>exact False.elim hq'
  | brk=>exact False.elim hq'
  | cont=>exact False.elim hq'
theorem Cg (R:Pass X Ex) (M:Mk X.K C f) (F:Md X.prog X.w X.K X.mg X.base k ps sp f) (hr:dX j X.A) (hj:k+1<=j) (hg:Gl X x) (hm:X.mg x=some (.ref C))
  (ha:PA X (e::es) t) (hdb:(x == ("__debug__":Str))=false:=by decide) (he:qBt (e::es) X.env=(false,eval e X.env)::qBt es X.env:=by rfl) (hpl:(qHc pos (qBt es X.env)).any (·.1)=false:=by rfl) :
  PE X (.Call (.Name x p) (e::es) [] pos) (Il C sp Ex t):=by
 intro pins s σ H Q I h;obtain⟨fd,F,hb⟩:=F.ex;refine qGg (kR I hg hm ?_ hdb);refine qGr (h₀:=X.base) I.ok.mod.Hx M.kp (cF (ha pos pins s σ H _ I h) fun us s1 ⟨vs,H1,I1,r,q⟩=>⟨I1.wB,?_⟩) he hpl;exact AG R M F (hr.mono hj) hb I1 r q
end
structure Ou (K:qAc) (C:Addr):Prop where
 cl:Ek K C
 ca:qBe K (.ref C) "__class__"=some (some (.builtin "object.__class__"))
 cg:qEy K (.builtin "object.__class__") "__get__"=some (some (.builtin "getset_descriptor.__get__"))
 ct:qFp K (.builtin "object.__class__")=some true
 mo:qDy K C (.type "object")=some true
section
variable {X:Cx}
theorem fQ (hh:X.calm=true):g5 X (.builtin "sum") (fun xs H Q=>∃(p:Addr) (ns:List Int),xs=[.ref p]/\(aR X.K H p (ns.map V.int)\/cA X.K H p (ns.map V.int))/\Q (.int ns.sum) H):=by
 intro pins s σ H xs us Q I r h;obtain⟨p,ns,rfl,hq,q⟩:=h;obtain⟨u,rfl,rx⟩:=vals1 r;cases rx;rcases hq with hq | hq
 ·obtain⟨its,r',pl,hz⟩:=I.list hq;have hi:=intsAre_of r';obtain⟨xs,hx⟩:=hi.allInts.items;have hl':s.heap.IsList p (intItems xs):=hx▸pl.isList;refine sum_intListG (I.ok.hd hh) hl' fun h' tk t' hk=>?_;have e1:ns=xs.toList.map (·.1):=by
   rw[<- nums_intItems,<- hx];exact(show numsOf its.toArray.toList=ns from hi.numsOf).symm
  have e2:preSum (numAt xs) xs.size=ns.sum:=by
   rw[preSum_eq,qEw (by simp),e1]
  rw[e2];exact⟨.int ns.sum,H,I.kept (t':=tk) hk,⟨_,rfl⟩,q⟩
 ·obtain⟨its,r',pl,hz⟩:=I.tuple hq;have hi:=intsAre_of r';obtain⟨xs,hx⟩:=hi.allInts.items;have hl':s.heap.IsTuple p (intItems xs):=hx▸pl;refine PySem.W.ktm_sumG (I.ok.hd hh) hl' fun h' tk t' hk=>?_;have e1:ns=xs.toList.map (·.1):=by
   rw[<- nums_intItems,<- hx];exact(show numsOf its.toArray.toList=ns from hi.numsOf).symm
  have e2:preSum (numAt xs) xs.size=ns.sum:=by
   rw[preSum_eq,qEw (by simp),e1]
  rw[e2];exact⟨.int ns.sum,H,I.kept (t':=tk) hk,⟨_,rfl⟩,q⟩
theorem mX {bs:List Bool}:∀{us:List qAf},Vals (bs.map V.bl) us->LSm.BoolsAre us bs:=by
 induction bs with
 | nil=>intro us h;cases h;exact .nil
 | cons b bs ih =>
  intro us h;cases h with
  | cons r t=>cases r;exact .cons b (ih t)
theorem oM (hh:X.calm=true):g5 X (.builtin "all") (fun xs H Q=>∃(p:Addr) (bs:List Bool),xs=[.ref p]/\aR X.K H p (bs.map V.bl)/\Q (.bl (bs.all id)) H):=by
 intro pins s σ H xs us Q I r h;obtain⟨p,bs,rfl,hq,q⟩:=h;obtain⟨u,rfl,rx⟩:=vals1 r;cases rx;obtain⟨its,r',pl,hz⟩:=I.list hq;have hb:=mX r';have hl:=pl.isList;have hlt:p<s.heap.objs.size:=by obtain⟨_,e,_⟩:=hl;exact qAs e
 refine call_all_walk (qIa hl ?_);refine⟨s.heap.objs.size,[s.heap.objs.size,p],[s.heap.objs.size],its.toArray.size,_,_,fun i=>(bs[i]?).getD true,rfl,Walks.list (A:=X.A.in1) (I.ok.hd hh) _ p (qBf hlt) its.toArray,
  ⟨⟨_,qAt _ rfl,rfl,rfl⟩,hl.push _⟩,fun i v s' Q' E' hP hQ=>?_,fun h' tk hk=>?_⟩
 ·obtain⟨b,e,rfl⟩:=hb.get i v (by simpa using hP);simp only[e,qMv] at hQ;exact qDr hQ
 ·have e:((qAn its.toArray.size).all fun i=>(bs[i]?).getD true)=bs.all id:=by
   rw[qAw,hb.length];exact LSm.range_all bs
  rw[e];exact⟨.bl _,H,I.kept (t':=tk) (LSm.kept_iter hk),rfl,q⟩
theorem Ci (hh:X.calm=true):g5 X (.builtin "any") (fun xs H Q=>∃(p:Addr) (bs:List Bool),xs=[.ref p]/\aR X.K H p (bs.map V.bl)/\Q (.bl (bs.any id)) H):=by
 intro pins s σ H xs us Q I r h;obtain⟨p,bs,rfl,hq,q⟩:=h;obtain⟨u,rfl,rx⟩:=vals1 r;cases rx;obtain⟨its,r',pl,hz⟩:=I.list hq;have hb:=mX r';have hl:=pl.isList;have hlt:p<s.heap.objs.size:=by obtain⟨_,e,_⟩:=hl;exact qAs e
 refine call_any_walk (qIa hl ?_);refine⟨s.heap.objs.size,[s.heap.objs.size,p],[s.heap.objs.size],its.toArray.size,_,_,fun i=>(bs[i]?).getD false,rfl,Walks.list (A:=X.A.in1) (I.ok.hd hh) _ p (qBf hlt) its.toArray,
  ⟨⟨_,qAt _ rfl,rfl,rfl⟩,hl.push _⟩,fun i v s' Q' E' hP hQ=>?_,fun h' tk hk=>?_⟩
 ·obtain⟨b,e,rfl⟩:=hb.get i v (by simpa using hP);simp only[e,qMv] at hQ;exact qDr hQ
 ·have e:((qAn its.toArray.size).any fun i=>(bs[i]?).getD false)=bs.any id:=by
   rw[qAw,hb.length];exact LSm.range_any bs
  rw[e];exact⟨.bl _,H,I.kept (t':=tk) (LSm.kept_iter hk),rfl,q⟩
theorem jC:qCs "sum"=some (.builtin "sum"):=by decide +kernel
theorem wY:qCs "all"=some (.builtin "all"):=by decide +kernel
theorem Im:qCs "any"=some (.builtin "any"):=by decide +kernel
def EL (K:qAc):V->List V->Hp->VK->Prop:=fun x vs H Q=>∃(p:Addr) (ns:List Int) (i:Int) (j:Nat),x = .ref p/\vs=[.int i]/\cA K H p (ns.map V.int)/\ns[j]?=some i/\(∀m,m<j->ns[m]?≠some i)/\Q (.int (j:Nat)) H
def Px (i:Int) (u:qAf):Bool:=match u with
 | .int k _=>k == i
 | _=>false
theorem iQ:Gi X "list.append" yQ:=mE
theorem Cj:Gi X "tuple.index" (EL X.K):=by
 intro pins s σ H x vs v us Q I rx rv h;obtain⟨p,ns,i,j,rfl,rfl,hq,hj,hno,q⟩:=h;cases rx;obtain⟨u,rfl,ru⟩:=rv.one;obtain⟨t,rfl⟩:=(show ∃t,u=Value.int i t from ru);obtain⟨its,r',pl,hz⟩:=I.tuple hq;have hi:=intsAre_of r';obtain⟨⟨oc,od,odt,osl⟩,h1,h2,n,h3⟩:=id pl;dsimp only at h2 h3;subst h2 h3;have at_:∀(m:Nat) (k:Int),ns[m]?=some k->∃t,its[m]?=some (.int k t):=fun m k hm=>by
  obtain⟨u,hu,ru⟩:=r'.get (i:=m) (x:=.int k) (by rw[qAo,hm];rfl);obtain⟨t,rfl⟩:=(show ∃t,u=Value.int k t from ru);exact⟨t,hu⟩
 have hl:=r'.length;rw[qAb] at hl;obtain⟨t1,ht1⟩:=at_ j i hj;have hjl:j<its.length:=by
  rcases qAl j its.length with z | z
  ·exact z
  ·rw[qBa z] at ht1;cases ht1
 refine qIb F.slot_tuple_index ⟨_,h1,rfl⟩ F.entry_tuple_index (F.args_tuple_index_2 _ _) (SeqAt.p5 p its.toArray n od osl (.int i t) (Px i) j (by simpa using hjl) ?_ fun m hm hmj=>?_) ⟨h1,fun y hy=>?_,?_⟩
 ·have e:its.toArray[j]'(by simpa using hjl) = .int i t1:=by
   have:=qAd hjl;rw[ht1] at this;simpa using (Option.some.inj this).symm
  rw[e];show(i == i)=true;simp
 ·have hml:m<its.length:=by simpa using hm
  have hmn:m<ns.length:=by lia
  obtain⟨t2,ht2⟩:=at_ m _ (qAd hmn);have e:its.toArray[m]'hm = .int ns[m] t2:=by
   have:=qAd hml;rw[ht2] at this;simpa using (Option.some.inj this).symm
  rw[e];show(ns[m] == i)=false;rw[beq_eq_false_iff_ne];intro z;exact hno m hmj (by rw[qAd hmn,z])
 ·have hy':y∈its:=by simpa using hy
  obtain⟨m,hm,e⟩:=qCq hy';have hmn:m<ns.length:=by lia
  obtain⟨t2,ht2⟩:=at_ m _ (qAd hmn);rw[qAd hm,e] at ht2;obtain rfl:y = .int ns[m] t2:=Option.some.inj ht2;exact SeqAt.EqAt.int_int _ _ _ _
 ·exact⟨.int (j:Nat),H,I.tok _,⟨_,rfl⟩,q⟩
mutual
inductive Dat (K:qAc) (H:Hp):V->qHd->Prop
 | int (i:Int):Dat K H (.int i) (.int i)
 | lst {p:Addr}{xs:List V}{ds:List qHd}:aR K H p xs->DatAll K H xs ds->Dat K H (.ref p) (.list ds)
 | tup {p:Addr}{xs:List V}{ds:List qHd}:cA K H p xs->DatAll K H xs ds->Dat K H (.ref p) (.tuple ds)
inductive DatAll (K:qAc) (H:Hp):List V->List qHd->Prop
 | nil:DatAll K H [] []
 | cons {x:V}{d:qHd}{xs:List V}{ds:List qHd}:Dat K H x d->DatAll K H xs ds->DatAll K H (x::xs) (d::ds)
end
end
theorem k4 {prog:qBm}{w:qCy}{A:qCt}{E:qAf->qAi->Prop}{s:qAi}{t sl:Addr}{items:Array qAf}{vl vu:qAf}{lo hi:Option Int}{Q:qAf->qAi->Prop} (ht:IsTup s.heap t items) (hs:s.heap.IsSliceOf sl vl vu .none) (pl:qKz vl lo) (pu:qKz vu hi)
  (h0:HT.dU items.size 0 lo=0) (h1:HT.dU items.size items.size hi=items.size)
  (h:Q (.ref t) s):qBg (qBz prog w) A (qIm (.ref t) (.ref sl)) Q E s:=by
 obtain⟨os,hos,hcs,hds⟩:=id hs;have hTs:s.TypeIs (.ref sl) "slice":=⟨os,hos,hcs⟩;unfold qIm;try with_reducible refine qDj ?_
 first | refine qAa (qAe ?_) | skip
 refine qAa (wpAny_sequenceKey ht.typeIs (by decide) ?_);refine qAa (qEl (name:=Str.ofString "__getitem__") ht.typeIs qEm
  (qEb qEm ht.typeIs entry_tuple_getitem ?_ (args_tuple_getitem _ _)))
 show qBg _ _ (Builtin.Tuple.tupleItemsOf (.ref t) >>= _) _ _ s;refine qAa (tupleItemsOf_ ht ?_);refine qAa (qHw hTs ?_);rw[if_pos (by decide)];refine qAa (HT.iD hs pl pu ?_);have hy:(((HT.dU items.size 0 lo:Nat):Int) == 0&&(1:Int) == 1&&(HT.dU items.size items.size hi-HT.dU items.size 0 lo) == items.size)=true:=by
  rw[h0,h1];simp
 show qBg _ _ (if (((HT.dU items.size 0 lo:Nat):Int) == 0&&(1:Int) == 1&&(HT.dU items.size items.size hi-HT.dU items.size 0 lo) == items.size)=true then _ else _) _ _ s;rw[if_pos hy];refine qAa (m:=Builtin.Tuple.tupleIsExact (.ref t)) ?_;unfold Builtin.Tuple.tupleIsExact;refine qAa (qHw ht.typeIs (qAe ?_));rw[if_pos (by decide)];first
  | exact qAa (qGo (qAe ⟨_,rfl,qAe h⟩))
  | exact qAa (qGo (qAa (qAe (qAe ⟨_,rfl,qAe h⟩))))
def Ov (K:qAc):V->Option Int->Option Int->Hp->VK->Prop:=fun x lo hi H Q=>∃a xs,x = .ref a/\cA K H a xs/\∀p H',aH H H'->cA K H' p (fY xs lo hi)->Q (.ref p) H'
theorem yY {X:Cx}:Mb X (Ov X.K):=by
 intro pins s σ H x v vl vu lo hi sl Q I rx hs pl pu h;obtain⟨a,xs,rfl,hx,q⟩:=h;by_cases hw:HT.dU xs.length 0 lo=0/\HT.dU xs.length xs.length hi=xs.length
 ·cases rx
  obtain⟨its,r,ht,hz⟩:=I.tuple hx;have hlen:its.toArray.size=xs.length:=by rw[qAw];exact r.length.symm
  refine⟨"tuple",_,PyProof.Rows.slot_tuple_getitem.lookup,ht.typeIs,?_⟩;refine k4 ht hs pl pu (by rw[hlen];exact hw.1) (by rw[hlen];exact hw.2) ⟨.ref a,H,I,rfl,q a H (.refl H) ?_⟩;unfold fY;rw[hw.1,hw.2,qOk,qMa,qEd];exact hx
 ·exact HR pins s σ H (.ref a) v vl vu lo hi sl Q I rx hs pl pu ⟨a,xs,rfl,hx,hw,fun p hp=>q p _ (.aF hp) (cA.of aC)⟩
section
variable {K:qAc}{a:Addr}{xs:List V}{σ0:St}{H1:Hp}{i0:Nat}{c:TT}{te:TE}{Q:Addr->Hp->Prop}
theorem cP (f:Nat->V->Option V) (hq:aR K H1 a xs) (hn:xs.length<=qAh)
  (step:∀(i:Nat) (x:V) (H2:Hp) (k:VK) (k0:Hp->Prop),aH H1 H2->xs[i]?=some x->(∀y,f i x=some y->∀H3,aH H2 H3->k y H3)->(f i x=none->∀H3,aH H2 H3->k0 H3) ->
   c (σ0.set i0 (some x)) H2 fun b H4=>if b=true then te (σ0.set i0 (some x)) H4 k else k0 H4)
  (h:∀D H2,H1 D=none->aH H1 H2->H2 D=some (.lst ((qAn xs.length).filterMap fun i=>(xs[i]?).bind (f i)))->Q D H2) :
  ∀D,H1 D=none->∃W:Nat->Nat->St->Hp->Prop,(∃m,W 0 m σ0 (upd H1 D (.lst [])))/\∀i m σ1 H2,W i m σ1 H2 ->
   ((yH K a).stop i H2/\Q D H2)\/((yH K a).go i H2/\∃N:St->Hp->Prop,(∀σ' H',N σ' H'->∃m',m'<m/\W (i+1) m' σ' H') /\
    ∀x H',(yH K a).pX i H2 x H'->aY i0 x σ1 H' fun σ2 H3=>c σ2 H3 fun b H4=>if b=true then te σ2 H4 fun y H5=>∃xs,H5 D=some (.lst xs)/\xs.length<qAh/\N σ2 (upd H5 D (.lst (xs++[y]))) else N σ2 H4):=by
 intro D hD;refine⟨fun i m σ1 H2=>σ1.set i0 none=σ0.set i0 none/\aH H1 H2/\H2 D=some (.lst ((qAn i).filterMap fun i=>(xs[i]?).bind (f i)))/\i<=xs.length/\m=xs.length-i,⟨xs.length,rfl,.aF hD,aC,qBq _,rfl⟩,?_⟩;rintro i m σ1 H2 ⟨hσ,hs,hd,hi,rfl⟩;have hset:∀v:Option V,σ1.set i0 v=σ0.set i0 v:=fun v=>by
  have z:=congrArg (fun l=>qHu l i0 v) hσ;simpa using z
 rcases qAl i xs.length with hlt | hge
 ·right
  refine⟨⟨xs,xs[i],hs.seq hq,by simp[hlt]⟩,fun σ' H'=>σ'.set i0 none=σ0.set i0 none/\aH H1 H'/\H' D=some (.lst ((qAn (i+1)).filterMap fun i=>(xs[i]?).bind (f i))),fun σ' H' ⟨a,b,c⟩=>⟨xs.length-(i+1),by lia,a,b,c,hlt,rfl⟩,?_⟩;rintro x H' ⟨rfl,hx⟩;have hx:=hx xs (hs.seq hq);show c (σ1.set i0 (some x)) _ _;rw[hset];refine step i x _ _ _ hs hx (fun y hy H3 hs3=>⟨_,hs3 _ _ hd,?_,?_,?_,?_⟩) fun hno H3 hs3=>⟨?_,hs.trans hs3,?_⟩
  ·refine qBp (qEt _ _) ?_;rw[qAu];lia
  ·simp
  ·refine(hs.trans hs3).upd_ne' hD
  ·rw[aC,qBk,qBy];simp[hx,hy]
  ·simp
  ·rw[hs3 _ _ hd,qBk,qBy];simp[hx,hno]
 ·left
  obtain rfl:i=xs.length:=qCw hi hge;exact⟨⟨xs,hs.seq hq,qAg _⟩,h D _ hD hs hd⟩
end
section
variable {X:Cx}
end
section
variable {K:qAc}{lo:Int}{n:Nat}{σ0:St}{H1:Hp}{i0:Nat}{c:TT}{te:TE}{Q:Addr->Hp->Prop}
theorem fC (f:Nat->Option V) (hn:n<=qAh)
  (step:∀(i:Nat) (H2:Hp) (k:VK) (k0:Hp->Prop),aH H1 H2->i<n->(∀y,f i=some y->∀H3,aH H2 H3->k y H3)->(f i=none->∀H3,aH H2 H3->k0 H3) ->
   c (σ0.set i0 (some (.int (lo+(i:Int))))) H2 fun b H4=>if b=true then te (σ0.set i0 (some (.int (lo+(i:Int))))) H4 k else k0 H4)
  (h:∀D H2,H1 D=none->aH H1 H2->H2 D=some (.lst ((qAn n).filterMap f))->Q D H2) :
  ∀D,H1 D=none->∃W:Nat->Nat->St->Hp->Prop,(∃m,W 0 m σ0 (upd H1 D (.lst [])))/\∀i m σ1 H2,W i m σ1 H2 ->
   ((pU lo n).stop i H2/\Q D H2)\/((pU lo n).go i H2/\∃N:St->Hp->Prop,(∀σ' H',N σ' H'->∃m',m'<m/\W (i+1) m' σ' H') /\
    ∀x H',(pU lo n).pX i H2 x H'->aY i0 x σ1 H' fun σ2 H3=>c σ2 H3 fun b H4=>if b=true then te σ2 H4 fun y H5=>∃xs,H5 D=some (.lst xs)/\xs.length<qAh/\N σ2 (upd H5 D (.lst (xs++[y]))) else N σ2 H4):=by
 intro D hD;refine⟨fun i m σ1 H2=>σ1.set i0 none=σ0.set i0 none/\aH H1 H2/\H2 D=some (.lst ((qAn i).filterMap f))/\i<=n/\m=n-i,⟨n,rfl,.aF hD,aC,qBq _,rfl⟩,?_⟩;rintro i m σ1 H2 ⟨hσ,hs,hd,hi,rfl⟩;have hset:∀v:Option V,σ1.set i0 v=σ0.set i0 v:=fun v=>by
  have z:=congrArg (fun l=>qHu l i0 v) hσ;simpa using z
 rcases qAl i n with hlt | hge
 ·right
  refine⟨hlt,fun σ' H'=>σ'.set i0 none=σ0.set i0 none/\aH H1 H'/\H' D=some (.lst ((qAn (i+1)).filterMap f)),fun σ' H' ⟨a,b,c⟩=>⟨n-(i+1),by lia,a,b,c,hlt,rfl⟩,?_⟩;rintro x H' ⟨rfl,rfl⟩;show c (σ1.set i0 (some (.int (lo+(i:Int))))) _ _;rw[hset];refine step i _ _ _ hs hlt (fun y hy H3 hs3=>⟨_,hs3 _ _ hd,?_,?_,?_,?_⟩) fun hno H3 hs3=>⟨?_,hs.trans hs3,?_⟩
  ·refine qBp (qEt _ _) ?_;rw[qAu];lia
  ·simp
  ·exact(hs.trans hs3).upd_ne' hD
  ·rw[aC,qBk,qBy];simp[hy]
  ·simp
  ·rw[hs3 _ _ hd,qBk,qBy];simp[hno]
 ·left
  obtain rfl:i=n:=qCw hi hge;exact⟨qAg _,h D _ hD hs hd⟩
end
section
variable {X:Cx}
theorem AH (K:qAc) (hh:X.calm=true) (h:X.K=K:=by rfl):g5 X (.builtin "sum") (fun xs H Q=>∃(p:Addr) (ns:List Int),xs=[.ref p]/\(aR K H p (ns.map V.int)\/cA K H p (ns.map V.int))/\Q (.int ns.sum) H):=by
 subst h;exact fQ hh
end
def Gn (K:qAc) (l:Addr):It :=
  ⟨fun i H=>∃xs x,aR K H l xs/\xs[i]?=some x,
   fun i H v H'=>∃t x,v = .ref t/\H t=none/\H'=upd H t (.tup [.int (i:Int),x])/\∀xs,aR K H l xs->xs[i]?=some x,
   fun i H=>∃xs,aR K H l xs/\xs.length<=i⟩
def Io (e it l:Addr) (i:Nat) (h:Heap):Prop:=(∃old,IsEnum h e it (i:Int) old)/\h.IsListIter it l i
theorem AI {P:qBm}{w:qCy}{K:qAc}{elts:List Expr} {x1}{pos:Pos}{e it l:Addr} (hne:e≠it) :
  Turn P w K (.Tuple elts x1 pos) (Gn K l) [e,it] e (Io e it l) where
 mem:=by simp
 obj:=fun i h ⟨⟨old,he⟩,⟨o,ho,_,d⟩⟩ b hb=>by
  simp only[qEc,qDc,or_false] at hb;rcases hb with rfl | rfl
  ·exact⟨_,he,fun v q=>nomatch q⟩
  ·exact⟨_,ho,fun v q=>by rw[d] at q;cases q⟩
 keep:=fun i h h' ⟨⟨old,he⟩,h1⟩ k=>⟨⟨old,k e (by simp) _ he⟩,h1.at fun o q=>k it (by simp) o q⟩
 item:=by
  intro X hP hw hK hc i pins s σ H E I hf st hg;subst hP hw hK;obtain⟨⟨old,he⟩,h1⟩:=st;obtain⟨xs,x,q1,hx⟩:=hg;obtain⟨its1,r1,p1,z1⟩:=I.list q1;obtain⟨u,hu,ru⟩:=r1.get hx;refine wpAny_pyNext_enum_item he h1 p1.isList (by simpa using hu) hne fun h' a1 a2 a3 a4 a5=>⟨_,rfl,?_⟩;refine wpAny_letOwnedTupleGo_enum a1 fun h'' b1 hs=>?_;have lt:∀c o,s.heap.get? c=some o->c≠s.heap.objs.size:=fun c o e=>qBf (qAs e);have lte:s.heap.objs.size≠e:=(lt e _ he).symm;have I1:Inv X pins σ H { s with heap:=h'',toks:=s.toks+1 }:=I.nP (t':=s.toks+1) (fun c o hb e=>(hs.2 c (fun q=>hb (by simp[q]))).trans (a5 c o (fun q=>hb (by simp[q])) (fun q=>hb (by simp[q])) e)) hf;have ht:h''.get? s.heap.objs.size=some { cls:=.type "tuple",data:=.seq #[.int i s.toks,u] }:=(hs.2 _ lte).trans a3;have hn:H s.heap.objs.size=none:=I.cJ.fresh (qAg _);have I2:Inv X pins σ (upd H s.heap.objs.size (.tup [.int (i:Int),x])) { s with heap:=h'',toks:=s.toks+1 }:=by
   refine I1.Gk hn (qIq I.sz) (qBf I.lt).symm (fun y c q=>?_) (fun p hp=>?_) (I.Hz (qAg _)) ⟨iY,[.int i s.toks,u],.cons ⟨_,rfl⟩ (.cons ru .nil),_,ht,rfl,_,rfl⟩
   ·obtain⟨_,o,ho,_⟩:=I.cell y c q;exact lt c o ho
   ·exact lt _ _ (I.pin p hp).1
  refine⟨.ref s.heap.objs.size,_,I2,rfl,⟨_,x,rfl,hn,rfl,fun xs' q=>?_⟩,⟨⟨u,?_⟩,a2.at fun o e=>(hs.2 _ hne.symm).trans e⟩,fun c hb=>?_⟩
  ·rw[I.i3 q q1];exact hx
  ·rw[show((i+1:Nat):Int)=(i:Int)+1 by push_cast;rfl];exact b1
  ·obtain⟨o,ho,_⟩:∃o,s.heap.get? c=some o/\True:=by
    simp only[qEc,qDc,or_false] at hb;rcases hb with rfl | rfl
    ·exact⟨_,he,trivial⟩
    ·obtain⟨o,ho,_⟩:=h1;exact⟨o,ho,trivial⟩
   rw[aM (lt c o ho)];exact(hf c hb).1
 done:=by
  intro X hP hw hK hc i pins s σ H E I hf st hg;subst hP hw hK;obtain⟨⟨old,he⟩,h1⟩:=st;obtain⟨xs,q1,hend⟩:=hg;obtain⟨its1,r1,p1,z1⟩:=I.list q1;have e1:=r1.length;exact wpAny_pyNext_enum_end (I.ok.hd hc) he h1 p1.isList (by simp;lia) fun h' k=>⟨rfl,I.nP (t':=s.toks) (fun c o hb e=>k c o (fun q=>hb (by simp[q])) e) hf⟩
 self:=fun _ _ _ _ _ ⟨⟨_,he⟩,_⟩ h=>wpAny_pyIter_enum he h
def Mq (K:qAc) (ta:TA):TI:=fun σ H R=>ta σ H fun vs H1=>∃l,vs=[.ref l]/\(∃xs,aR K H1 l xs)/\R (Gn K l) H1
theorem EM:qCs "enumerate"=some (.type "enumerate"):=by decide +kernel
theorem sC {X:Cx}{elts:List Expr} {x1}{tpos:Pos}{a:Expr}{ta:TA}{p pos:Pos} (hg:Gl X "enumerate") (hm:X.mg "enumerate"=none) (ha:PA X [a] ta) (hs:qBt [a] X.env=[(false,eval a X.env)]:=by rfl) :
  PI X (.Tuple elts x1 tpos) (.Call (.Name "enumerate" p) [a] [] pos) (Mq X.K ta):=by
 intro pins s σ H R I h;refine qOa (fI I hg hm EM (qCf (cF (ha pos pins s σ H _ I h) fun us s1 ⟨vs,H1,I1,r1,q1⟩=>?_) hs rfl));obtain⟨l,e,⟨xs,q1⟩,q⟩:=q1;subst e;obtain⟨u,rfl,ru⟩:=vals1 r1;cases (show u=Value.ref l from ru);obtain⟨its1,r1,p1,z1⟩:=I1.list q1;refine call_enumerate_list p1.isList fun h' hE hI hsz hk=>?_;refine wpAny_pyIter_enum hE ?_;have I2:Inv X pins σ H1 { s1 with heap:=h' }:=I1.kept (t':=s1.toks) hk;refine⟨_,[s1.heap.objs.size+1,s1.heap.objs.size],_,_,H1,rfl,I2,AI (qOc _),⟨⟨_,hE⟩,hI⟩,fun c hc=>?_,q⟩;have hge:s1.heap.objs.size<=c:=by
  simp only[qEc,qDc,or_false] at hc;rcases hc with h | h
  all_goals first | (rw[h];exact qOf _ _) | exact qIi h.symm
 have:=I1.As (H':=H1) hge (I1.cJ.fresh hge);exact this
theorem uJ {K:qAc}{l:Addr}{xs:List V}{g:TG}{tb:TS}{D:Ends}{σ:St}{H:Hp} (Pv:Nat->St->Hp->Prop) (h0:Pv 0 σ H) (hl:∀i σ H,i<=xs.length->Pv i σ H->aR K H l xs)
  (hs:∀i x t σ H,xs[i]?=some x->H t=none->Pv i σ H->g (.ref t) σ (upd H t (.tup [.int (i:Int),x])) fun σ2 H2=>tb { D with nx:=Pv (i+1),ct:=Pv (i+1),bk:=D.nx } σ2 H2) (hd:∀σ H,Pv xs.length σ H->D.nx σ H) :
  ∃W:Nat->Nat->St->Hp->Prop,(∃m,W 0 m σ H)/\∀i m σ H,W i m σ H ->
   ((Gn K l).stop i H/\D.nx σ H)\/((Gn K l).go i H/\∃N:St->Hp->Prop,(∀σ' H',N σ' H'->∃m',m'<m/\W (i+1) m' σ' H')/\∀x H',(Gn K l).pX i H x H'->g x σ H' fun σ2 H2=>tb { D with nx:=N,ct:=N,bk:=D.nx } σ2 H2):=by
 refine⟨fun i m σ H=>Pv i σ H/\i<=xs.length/\m=xs.length-i,⟨_,h0,qBq _,rfl⟩,?_⟩;rintro i m σ H ⟨hp,hi,rfl⟩;have q1:=hl i σ H hi hp;rcases qAl i xs.length with hlt | hge
 ·right
  obtain⟨x,hx⟩:∃x,xs[i]?=some x:=⟨_,qAd hlt⟩;refine⟨⟨xs,x,q1,hx⟩,Pv (i+1),fun σ' H' h=>⟨_,qMx hlt (qGn _),h,hlt,rfl⟩,?_⟩;rintro v H' ⟨t,x',rfl,hn,rfl,e1⟩;have e1':=e1 xs q1;rw[hx] at e1';cases e1';exact hs i x t σ H hx hn hp
 ·left
  obtain rfl:i=xs.length:=qCw hi hge;exact⟨⟨xs,q1,qAg _⟩,hd σ H hp⟩
section
variable {K:qAc}{a a':Addr}{xs ys:List V}{σ0:St}{H1:Hp}{g:TG}{c:TT}{te:TE}{Q:Addr->Hp->Prop}
theorem wZ (Ag:St->Prop) (f:Nat->V->Option V) (h0:Ag σ0) (hq:aR K H1 a xs) (hn:xs.length<=qAh)
  (step:∀(i:Nat) (x:V) (t:Addr) (σ1:St) (H2:Hp) (k:St->VK) (k0:St->Hp->Prop),Ag σ1->aH H1 H2->xs[i]?=some x->H2 t=some (.tup [.int (i:Int),x])->(∀σ2 y,Ag σ2->f i x=some y->∀H3,aH H2 H3->k σ2 y H3)->(∀σ2,Ag σ2->f i x=none->∀H3,aH H2 H3->k0 σ2 H3) ->
   g (.ref t) σ1 H2 fun σ2 H3=>c σ2 H3 fun b H4=>if b=true then te σ2 H4 (k σ2) else k0 σ2 H4)
  (h:∀D H2,H1 D=none->aH H1 H2->H2 D=some (.lst ((qAn xs.length).filterMap fun i=>(xs[i]?).bind (f i)))->Q D H2) :
  ∀D,H1 D=none->∃W:Nat->Nat->St->Hp->Prop,(∃m,W 0 m σ0 (upd H1 D (.lst [])))/\∀i m σ1 H2,W i m σ1 H2 ->
   ((Gn K a).stop i H2/\Q D H2)\/((Gn K a).go i H2/\∃N:St->Hp->Prop,(∀σ' H',N σ' H'->∃m',m'<m/\W (i+1) m' σ' H') /\
    ∀x H',(Gn K a).pX i H2 x H'->g x σ1 H' fun σ2 H3=>c σ2 H3 fun b H4=>if b=true then te σ2 H4 fun y H5=>∃xs,H5 D=some (.lst xs)/\xs.length<qAh/\N σ2 (upd H5 D (.lst (xs++[y]))) else N σ2 H4):=by
 intro D hD;refine⟨fun i m σ1 H2=>Ag σ1/\aH H1 H2/\H2 D=some (.lst ((qAn i).filterMap fun i=>(xs[i]?).bind (f i)))/\i<=xs.length/\m=xs.length-i,⟨xs.length,h0,.aF hD,aC,qBq _,rfl⟩,?_⟩;rintro i m σ1 H2 ⟨hσ,hs,hd,hi,rfl⟩;rcases qAl i xs.length with hlt | hge
 ·right
  refine⟨⟨xs,xs[i],hs.seq hq,by simp[hlt]⟩,fun σ' H'=>Ag σ'/\aH H1 H'/\H' D=some (.lst ((qAn (i+1)).filterMap fun i=>(xs[i]?).bind (f i))),fun σ' H' ⟨a,b,c⟩=>⟨xs.length-(i+1),by lia,a,b,c,hlt,rfl⟩,?_⟩;rintro v H' ⟨t,x,rfl,ht,rfl,hx⟩;have hx:=hx xs (hs.seq hq);have hst:aH H1 (upd H2 t (.tup [.int (i:Int),x])):=hs.trans (.aF ht);have hdt:=aH.aF (o:=.tup [.int (i:Int),x]) ht _ _ hd;refine step i x t σ1 _ (fun σ2 y H5=>∃xs,H5 D=some (.lst xs)/\xs.length<qAh/\_) _ hσ hst hx aC (fun σ2 y a2 hy H3 hs3=>⟨_,hs3 _ _ hdt,?_,a2,?_,?_⟩) fun σ2 a2 hno H3 hs3=>⟨a2,hst.trans hs3,?_⟩
  ·refine qBp (qEt _ _) ?_;rw[qAu];lia
  ·exact(hst.trans hs3).upd_ne' hD
  ·rw[aC,qBk,qBy];simp[hx,hy]
  ·rw[hs3 _ _ hdt,qBk,qBy];simp[hx,hno]
 ·left
  obtain rfl:i=xs.length:=qCw hi hge;exact⟨⟨xs,hs.seq hq,qAg _⟩,h D _ hD hs hd⟩
theorem jP (Ag:St->Prop) (f:Nat->V->V->Option V) (h0:Ag σ0) (hq:aR K H1 a xs) (hq':aR K H1 a' ys) (hlen:xs.length=ys.length) (hn:xs.length<=qAh)
  (step:∀(i:Nat) (x y:V) (t:Addr) (σ1:St) (H2:Hp) (k:St->VK) (k0:St->Hp->Prop),Ag σ1->aH H1 H2->xs[i]?=some x->ys[i]?=some y->H2 t=some (.tup [x,y])->(∀σ2 z,Ag σ2->f i x y=some z->∀H3,aH H2 H3->k σ2 z H3)->(∀σ2,Ag σ2->f i x y=none->∀H3,aH H2 H3->k0 σ2 H3) ->
   g (.ref t) σ1 H2 fun σ2 H3=>c σ2 H3 fun b H4=>if b=true then te σ2 H4 (k σ2) else k0 σ2 H4)
  (h:∀D H2,H1 D=none->aH H1 H2->H2 D=some (.lst ((qAn xs.length).filterMap fun i=>(xs[i]?).bind fun x=>(ys[i]?).bind (f i x)))->Q D H2) :
  ∀D,H1 D=none->∃W:Nat->Nat->St->Hp->Prop,(∃m,W 0 m σ0 (upd H1 D (.lst [])))/\∀i m σ1 H2,W i m σ1 H2 ->
   ((yW K a a').stop i H2/\Q D H2)\/((yW K a a').go i H2/\∃N:St->Hp->Prop,(∀σ' H',N σ' H'->∃m',m'<m/\W (i+1) m' σ' H') /\
    ∀x H',(yW K a a').pX i H2 x H'->g x σ1 H' fun σ2 H3=>c σ2 H3 fun b H4=>if b=true then te σ2 H4 fun y H5=>∃xs,H5 D=some (.lst xs)/\xs.length<qAh/\N σ2 (upd H5 D (.lst (xs++[y]))) else N σ2 H4):=by
 intro D hD;refine⟨fun i m σ1 H2=>Ag σ1/\aH H1 H2/\H2 D=some (.lst ((qAn i).filterMap fun i=>(xs[i]?).bind fun x=>(ys[i]?).bind (f i x)))/\i<=xs.length/\m=xs.length-i,⟨xs.length,h0,.aF hD,aC,qBq _,rfl⟩,?_⟩;rintro i m σ1 H2 ⟨hσ,hs,hd,hi,rfl⟩;rcases qAl i xs.length with hlt | hge
 ·right
  have hlt':i<ys.length:=hlen▸hlt;refine⟨⟨xs,ys,xs[i],ys[i],hs.seq hq,hs.seq hq',by simp[hlt],by simp[hlt']⟩,fun σ' H'=>Ag σ'/\aH H1 H'/\H' D=some (.lst ((qAn (i+1)).filterMap fun i=>(xs[i]?).bind fun x=>(ys[i]?).bind (f i x))),fun σ' H' ⟨a,b,c⟩=>⟨xs.length-(i+1),by lia,a,b,c,hlt,rfl⟩,?_⟩;rintro v H' ⟨t,x,y,rfl,ht,rfl,hx,hy⟩;have hx:=hx xs (hs.seq hq);have hy:=hy ys (hs.seq hq');have hst:aH H1 (upd H2 t (.tup [x,y])):=hs.trans (.aF ht);have hdt:=aH.aF (o:=.tup [x,y]) ht _ _ hd;refine step i x y t σ1 _ (fun σ2 y H5=>∃xs,H5 D=some (.lst xs)/\xs.length<qAh/\_) _ hσ hst hx hy aC (fun σ2 z a2 hz H3 hs3=>⟨_,hs3 _ _ hdt,?_,a2,?_,?_⟩) fun σ2 a2 hno H3 hs3=>⟨a2,hst.trans hs3,?_⟩
  ·refine qBp (qEt _ _) ?_;rw[qAu];lia
  ·exact(hst.trans hs3).upd_ne' hD
  ·rw[aC,qBk,qBy];simp[hx,hy,hz]
  ·rw[hs3 _ _ hdt,qBk,qBy];simp[hx,hy,hno]
 ·left
  obtain rfl:i=xs.length:=qCw hi hge;exact⟨⟨xs,ys,hs.seq hq,hs.seq hq',.inl (qAg _)⟩,h D _ hD hs hd⟩
end
section
variable {X:Cx}
theorem Ck (K:qAc){tg l:Expr}{tl:TE} (hl:PE X l tl) (h:X.K=K:=by rfl):PI X tg l (Ge K tl):=by
 subst h;exact bN hl
end
section
variable {K:qAc}{a:Addr}{xs:List V}{lo:Int}{n:Nat}{σ0:St}{H1:Hp}{i0:Nat}{c:TT}{te:TE}{Q:Addr->Hp->Prop}
def k6 (H H':Hp):Prop:=∀b xs,H b=some (.tup xs)->H' b=some (.tup xs)
theorem aH.t {H H':Hp} (s:aH H H'):k6 H H':=fun _ _ e=>s _ _ e
theorem k6.lst {H:Hp}{D:Addr}{ys:List V}{o:HO} (h:H D=some (.lst ys)):k6 H (upd H D o):=fun b xs e=>by
 rw[aM fun q=>by subst q;rw[h] at e;cases e];exact e
end
section
variable {X:Cx}{tg:Expr}
end
section
variable {X:Cx}{e c:Expr}{te:TE}{ts:TO}{pos p2:Pos}
end
def Ip (h:Heap) (vs:List qAf):Heap:=((h.push (qPc "list" #[] 0)).update h.objs.size (Obj.mapSeq (· ++ vs.toArray))).push (qPc "list" vs.toArray 0)
theorem k7:∀{xs:List V}{us:List qAf},xs.length=us.length->(∀(i:Nat) (x:V) (u:qAf),xs[i]?=some x->us[i]?=some u->RelV x u)->Vals xs us
 | [],[],_,_=>.nil
 | [],_::_,h,_=>by cases h
 | _::_,[],h,_=>by cases h
 | x::xs,u::us,h,a=>.cons (a 0 x u rfl rfl) (k7 (by simpa using h) fun i x u e1 e2=>a (i+1) x u e1 e2)
theorem k8:∀{us:List qAf}{ns:List Int},qHy us ns->Vals (ns.map V.int) us
 | _,_,.nil=>.nil
 | _,_,.cons n t r=>.cons ⟨t,rfl⟩ (k8 r)
section
variable {X:Cx}
theorem w4:qCs "sorted"=some (.builtin "sorted"):=by decide +kernel
end
section
variable {X:Cx}
mutual
inductive fR (K:qAc) (H:Hp):V->qHd->Prop
 | int (i:Int):fR K H (.int i) (.int i)
 | non:fR K H .non .none
 | bl (b:Bool):fR K H (.bl b) (.bool b)
 | str (x:Str):PyData.strOk x=true->fR K H (.str x) (.str x)
 | lst {p:Addr}{xs:List V}{ds:List qHd}:aR K H p xs->cG K H xs ds->fR K H (.ref p) (.list ds)
 | tup {p:Addr}{xs:List V}{ds:List qHd}:cA K H p xs->cG K H xs ds->fR K H (.ref p) (.tuple ds)
inductive cG (K:qAc) (H:Hp):List V->List qHd->Prop
 | nil:cG K H [] []
 | cons {x:V}{d:qHd}{xs:List V}{ds:List qHd}:fR K H x d->cG K H xs ds->cG K H (x::xs) (d::ds)
end
mutual
theorem fR.reads {pins:List (Addr×Obj)}{σ:St}{H:Hp}{s:qAi} (I:Inv X pins σ H s):∀{v:V}{d:qHd}{u:qAf},fR X.K H v d->RelV v u->∃as,Reads s.heap u d as
 | _,_,u,.int i,r=>by obtain⟨t,rfl⟩:=(show ∃t,u=Value.int i t from r);exact⟨_,.int i t⟩
 | _,_,u,.non,r=>by obtain rfl:u=Value.none:=r;exact⟨_,.none⟩
 | _,_,u,.bl b,r=>by obtain rfl:u=Value.bool b:=r;exact⟨_,.bool b⟩
 | _,_,u,.str x _,r=>by obtain⟨t,rfl⟩:=(show ∃t,u=Value.str x t from r);exact⟨_,.str x t⟩
 | _,_,u,.lst (p:=p) hq ha,r=>by
  obtain rfl:u = .ref p:=r;obtain⟨its,r',pl,hz⟩:=I.list hq;obtain⟨o,ho,hc,n,hd⟩:=pl.isList;obtain⟨as,z⟩:=cG.reads I ha r';exact⟨_,.list ho hc hd (by simpa using z)⟩
 | _,_,u,.tup (p:=p) hq ha,r=>by
  obtain rfl:u = .ref p:=r;obtain⟨its,r',pl,hz⟩:=I.tuple hq;obtain⟨o,ho,hc,n,hd⟩:=pl;obtain⟨as,z⟩:=cG.reads I ha r';exact⟨_,.tuple ho hc hd (by simpa using z)⟩
theorem cG.reads {pins:List (Addr×Obj)}{σ:St}{H:Hp}{s:qAi} (I:Inv X pins σ H s):∀{vs:List V}{ds:List qHd}{us:List qAf},cG X.K H vs ds->Vals vs us->∃as,ReadsAll s.heap us ds as
 | _,_,_,.nil,.nil=>⟨_,.nil⟩
 | _,_,_,.cons h t,.cons r rs=>by
  obtain⟨a1,z1⟩:=fR.reads I h r;obtain⟨a2,z2⟩:=cG.reads I t rs;exact⟨_,.cons z1 z2⟩
end
mutual
theorem fR.lay {K:qAc}{H:Hp}:∀{v:V}{d:qHd},fR K H v d->d.canLay0=true/\PyData.eqv d d=true
 | _,_,.int i=>⟨rfl,by simp[PyData.eqv]⟩
 | _,_,.non=>⟨rfl,by simp[PyData.eqv]⟩
 | _,_,.bl b=>⟨rfl,by simp[PyData.eqv]⟩
 | _,_,.str x h=>⟨h,by simp[PyData.eqv]⟩
 | _,_,.lst _ h=>by
  obtain⟨a,b⟩:=cG.lay h;exact⟨by simpa [PyData.canLay0] using a,by simpa [PyData.eqv] using b⟩
 | _,_,.tup _ h=>by
  obtain⟨a,b⟩:=cG.lay h;exact⟨by simpa [PyData.canLay0] using a,by simpa [PyData.eqv] using b⟩
theorem cG.lay {K:qAc}{H:Hp}:∀{vs:List V}{ds:List qHd},cG K H vs ds->PyData.canLayAll0 ds=true/\PyData.eqvAll ds ds=true
 | _,_,.nil=>⟨rfl,rfl⟩
 | _,_,.cons h t=>by
  obtain⟨a,b⟩:=fR.lay h;obtain⟨c,d⟩:=cG.lay t;exact⟨by simp[PyData.canLayAll0,a,c],by simp[PyData.eqvAll,b,d]⟩
end
mutual
theorem fR.same {K:qAc}{H H':Hp} (s:aH H H'):∀{v:V}{d:qHd},fR K H v d->fR K H' v d
 | _,_,.int i=>.int i
 | _,_,.non=>.non
 | _,_,.bl b=>.bl b
 | _,_,.str x h=>.str x h
 | _,_,.lst q h=>.lst (s.seq q) (cG.same s h)
 | _,_,.tup q h=>.tup (s.Pw q) (cG.same s h)
theorem cG.same {K:qAc}{H H':Hp} (s:aH H H'):∀{vs:List V}{ds:List qHd},cG K H vs ds->cG K H' vs ds
 | _,_,.nil=>.nil
 | _,_,.cons h t=>.cons (fR.same s h) (cG.same s t)
end
end
section
variable {X:Cx}
end
section
variable {X:Cx}
variable {o e:Expr}{es:List Expr}{to:TE}{t:TA}{name:Str}{apos cpos:Pos}{T id:String}{r:V->List V->Hp->VK->Prop}
theorem Iq (K:qAc) (hK:X.K=K) (pa:PlainAttrs T) (slot:Slot T name id) (hty:qOx (.builtin id)=pure (.type "method_descriptor")) (hm:Gi X id r) (ho:PE X o to) (ha:PA X (e::es) t)
  (hbase:qGh o name X.env (eval o X.env)=eval o X.env:=by rfl)
  (hfew:((qHc cpos (qBt (e::es) X.env)).all (fun x=>!x.1)&&(backToKw cpos (keywordEach [] X.env)).all (fun x=>x.1.isSome)
   && decide ((e::es).length+([]:List qOq).length+(if ([]:List qOq).isEmpty then 0 else 1)<30))=true:=by rfl)
  (hline:(apos.endLine == cpos.line)=true:=by rfl) (hs:qBt (e::es) X.env=(false,eval e X.env)::qBt es X.env:=by rfl) (hplain:(qHc cpos (qBt es X.env)).any (·.1)=false:=by rfl) :
  PE X (.Call (.Attribute o name apos) (e::es) [] cpos) (Pa K T r to t):=by
 subst hK;exact qF pa slot hty hm ho ha hbase hfew hline hs hplain
end
section
variable {A:qCt}{prog:qBm}{w:qCy}{E:qAf->qAi->Prop}
end
section
variable {X:Cx}{pos:Pos}
end
section
variable {κ:Type} [DecidableEq κ]
def nF (kvs:List (κ×V)) (k:κ):Option V:=(kvs.find? fun kv=>decide (kv.1=k)).map (·.2)
def putK (kvs:List (κ×V)) (k:κ) (v:V):List (κ×V) :=
 if (kvs.any fun kv=>decide (kv.1=k))=true then kvs.map (fun kv=>if kv.1=k then (kv.1,v) else kv) else kvs++[(k,v)]
theorem oN {p:κ×V}{r:List (κ×V)}{k:κ} (e:p.1=k):nF (p::r) k=some p.2:=by simp[nF,qFb,e]
theorem oO {p:κ×V}{r:List (κ×V)}{k:κ} (e:¬p.1=k):nF (p::r) k=nF r k:=by simp[nF,qFb,e]
theorem uK (k:κ):∀kvs:List (κ×V),(kvs.any fun kv=>decide (kv.1=k))=(nF kvs k).isSome
 | []=>rfl
 | p::r=>by
  rw[qHv];by_cases e:p.1=k
  ·simp only[oN e,decide_eq_true e,Bool.true_or,qLz]
  ·rw[oO e,decide_eq_false e,Bool.false_or];exact uK k r
theorem mY (kvs:List (κ×V)) (k:κ) (v:V):(putK kvs k v).length<=kvs.length+1:=by
 unfold putK;split
 ·rw[qAb];lia
 ·rw[qAm,qCh,qKo];lia
theorem jY.AJ {o:Option V}{u:Option qAf} (r:jY o u):o.isSome=u.isSome:=by
 cases o with
 | none=>cases u with
  | none=>rfl
  | some _=>exact(show False from r).elim
 | some _=>cases u with
  | none=>exact(show False from r).elim
  | some _=>rfl
theorem KV.val {kvs:List (κ×V)}{vs:List (κ×qAf)} (r:KV kvs vs) (k:κ):jY (nF kvs k) (qLl vs k):=by
 unfold KV at r;induction r with
 | nil=>exact True.intro
 | @cons p q ps qs h t ih =>
  obtain⟨h1,h2⟩:=h;by_cases e:p.1=k
  ·have e':q.1=k:=h1.symm.trans e;have b:qLl (q::qs) k=some q.2:=by simp[qLl,qFb,e']
   rw[oN e,b];exact h2
  ·have e':¬q.1=k:=fun z=>e (h1.trans z);have b:qLl (q::qs) k=qLl qs k:=by simp[qLl,qFb,e']
   rw[oO e,b];exact ih
theorem KV.any {kvs:List (κ×V)}{vs:List (κ×qAf)} (r:KV kvs vs) (k:κ):(kvs.any fun kv=>decide (kv.1=k))=vs.any fun kv=>decide (kv.1=k):=by
 unfold KV at r;induction r with
 | nil=>rfl
 | cons h t ih=>rw[qHv,qHv,ih,h.1]
theorem KV.Ir {kvs:List (κ×V)}{vs:List (κ×qAf)} (r:KV kvs vs) (k:κ){y:V}{u:qAf} (ry:RelV y u) :
  KV (kvs.map fun kv=>if kv.1=k then (kv.1,y) else kv) (vs.map fun kv=>if kv.1=k then (kv.1,u) else kv):=by
 unfold KV at r|-;induction r with
 | nil=>exact .nil
 | @cons p q ps qs h t ih =>
  rw[qDb,qDb];refine .cons ?_ ih;obtain⟨h1,h2⟩:=h;by_cases e:p.1=k
  ·rw[if_pos e,if_pos (h1.symm.trans e)];exact⟨h1,ry⟩
  ·rw[if_neg e,if_neg (fun z=>e (h1.trans z))];exact⟨h1,h2⟩
theorem KV.put {kvs:List (κ×V)}{vs:List (κ×qAf)} (r:KV kvs vs) (k:κ){y:V}{u:qAf} (ry:RelV y u):KV (putK kvs k y) (stored vs k u):=by
 unfold putK stored;rw[r.any k];by_cases e:(vs.any fun kv=>decide (kv.1=k))=true
 ·rw[if_pos e,if_pos e];exact r.Ir k ry
 ·rw[if_neg e,if_neg e];exact Paired.snoc r ⟨rfl,ry⟩
theorem KV.length {kvs:List (κ×V)}{vs:List (κ×qAf)} (r:KV kvs vs):kvs.length=vs.length:=Paired.length r
end
theorem Cn {P:qBm}{w:qCy}{k:Key}{u:qAf} (r:RelV (kV k) u):(cC P w).is k u=true:=by
 cases k with
 | inl i=>obtain⟨t,e⟩:=(show ∃t,u=Value.int i t from r);subst e;exact tX P w i t
 | inr x=>obtain⟨t,e⟩:=(show ∃t,u=Value.str x t from r);subst e;exact tY P w x t
theorem qJ {P:qBm}{w:qCy}:∀{ks:List Key}{us:List qAf},Vals (ks.map kV) us->ItemsAre (cC P w) ks us
 | [],_,r=>by rw[qEp] at r;cases r;exact .nil
 | k::ks,_,r=>by
  rw[qDb] at r;cases r with
  | cons h t=>exact .cons (Cn h) (qJ t)
abbrev KT (H:Hp):List (List Key×V)->List (List Key×Addr×qAf)->Prop:=Paired fun p q=>p.1=q.1/\H q.2.1=some (.tup (p.1.map kV))/\RelV p.2 q.2.2
theorem KT.val {H:Hp}{kvs:List (List Key×V)}{xs:List (List Key×Addr×qAf)} (r:KT H kvs xs) (k:List Key):jY (nF kvs k) ((qOp xs k).map (·.2)):=by
 induction r with
 | nil=>exact True.intro
 | @cons p q ps qs h t ih =>
  obtain⟨h1,_,h2⟩:=h;by_cases e:p.1=k
  ·have e':q.1=k:=h1.symm.trans e;have b:qOp (q::qs) k=some q.2:=by simp[qOp,qFb,e']
   rw[oN e,b];exact h2
  ·have e':¬q.1=k:=fun z=>e (h1.trans z);have b:qOp (q::qs) k=qOp qs k:=by simp[qOp,qFb,e']
   rw[oO e,b];exact ih
theorem KT.Ir {H:Hp}{kvs:List (List Key×V)}{xs:List (List Key×Addr×qAf)} (r:KT H kvs xs) (k:List Key){y:V}{u:qAf} (ry:RelV y u) :
  KT H (kvs.map fun kv=>if kv.1=k then (kv.1,y) else kv) (xs.map (putAt k u)):=by
 induction r with
 | nil=>exact .nil
 | @cons p q ps qs h t ih =>
  rw[qDb,qDb];refine .cons ?_ ih;obtain⟨h1,h2,h3⟩:=h;unfold putAt;by_cases e:p.1=k
  ·rw[if_pos e,if_pos (h1.symm.trans e)];exact⟨h1,h2,ry⟩
  ·rw[if_neg e,if_neg (fun z=>e (h1.trans z))];exact⟨h1,h2,h3⟩
theorem KT.put {H:Hp}{kvs:List (List Key×V)}{xs:List (List Key×Addr×qAf)} (r:KT H kvs xs) (k:List Key){b:Addr}{y:V}{u:qAf} (hb:H b=some (.tup (k.map kV))) (ry:RelV y u) :
  KT H (putK kvs k y) (storedH xs k b u):=by
 have e:(kvs.any fun kv=>decide (kv.1=k))=(qOp xs k).isSome:=by
  rw[uK,(r.val k).AJ,Option.isSome_map]
 unfold putK storedH;rw[e];by_cases q:(qOp xs k).isSome=true
 ·rw[if_pos q,if_pos q];exact r.Ir k ry
 ·rw[if_neg q,if_neg q];exact Paired.snoc r ⟨rfl,hb,ry⟩
theorem KT.keeps {H H':Hp}{kvs:List (List Key×V)}{xs:List (List Key×Addr×qAf)} (r:KT H kvs xs) (ht:∀b ys,H b=some (.tup ys)->H' b=some (.tup ys)):KT H' kvs xs :=
 Paired.Hw r fun _ _ z=>⟨z.1,ht _ _ z.2.1,z.2.2⟩
section
variable {P:qBm}{w:qCy}{H:Hp}{h:Heap}{a:Addr}
theorem Gp {u:HO} (ok:j6 P w H h) (e:Rd H a u):cS P w H h a u:=e.ok ok
theorem qK {kvs:List (Key×V)} (ok:j6 P w H h) (e:Rd H a (.dK kvs)):kvs.length<=qAh/\(a == qFn)=false/\∃vs,KV kvs vs/\h.DictOf (cC P w) a vs :=
 show cS P w H h a (.dK kvs) from Gp ok e
theorem Co {kvs:List (Key×V)} (ok:j6 P w H h) (e:H a=some (.dK kvs)):kvs.length<=qAh/\(a == qFn)=false/\∃vs,KV kvs vs/\h.DictOf (cC P w) a vs:=qK ok (.inl e)
theorem w6 {ks:List Key} (ok:j6 P w H h) (e:H a=some (.tup (ks.map kV))):(qLm (cC P w)).is h ks a:=by
 obtain⟨_,its,r,o,h1,h2,n,h3⟩:=(show cS P w H h a (.tup (ks.map kV)) from ok a _ e);exact⟨o,its.toArray,n,h1,h2,h3,by simpa using qJ r⟩
theorem Cp {kvs:List (List Key×V)} (ok:j6 P w H h) (e:Rd H a (.dT kvs)):kvs.length<=qAh/\(a == qFn)=false /\
  ∃xs,KT H kvs xs/\h.DictOfH (qLm (cC P w)) a xs:=by
 obtain⟨z,y,xs,r,o,es,ep,h1,h2,h3,h4,h5⟩:=(show cS P w H h a (.dT kvs) from Gp ok e);refine⟨z,y,xs,r,o,es,ep,h1,h2,h3,h4,fun x hx=>?_,h5⟩;have all:∀{l:List (List Key×V)}{m:List (List Key×Addr×qAf)},KT H l m->∀x∈m,(qLm (cC P w)).is h x.1 x.2.1:=by
  intro l m q;induction q with
  | nil=>intro x hx;exact nomatch hx
  | @cons p q ps qs hq t ih =>
   intro x hx;rcases List.mem_cons.mp hx with e | hx
   ·subst e;exact w6 ok (by rw[<- hq.1];exact hq.2.1)
   ·exact ih x hx
 exact all r x hx
theorem Mr {kvs:List (List Key×V)} (ok:j6 P w H h) (e:H a=some (.dT kvs)):kvs.length<=qAh/\(a == qFn)=false /\
  ∃xs,KT H kvs xs/\h.DictOfH (qLm (cC P w)) a xs:=Cp ok (.inl e)
end
def Iu (H:Hp) (a:Addr) (y:V) (r:Option V):Prop :=
 (∃kvs k,Rd H a (.dK kvs)/\y=kV k/\r=nF kvs k)\/∃kvs k b,Rd H a (.dT kvs)/\y = .ref b/\H b=some (.tup (k.map kV))/\r=nF kvs k
def Ms (H:Hp) (a:Addr) (y v:V) (H':Hp):Prop :=
 (∃kvs k,H a=some (.dK kvs)/\y=kV k/\kvs.length<qAh/\H'=upd H a (.dK (putK kvs k v))) \/
 ∃kvs k b,H a=some (.dT kvs)/\y = .ref b/\H b=some (.tup (k.map kV))/\kvs.length<qAh/\H'=upd H a (.dT (putK kvs k v))
section
variable {X:Cx}{pins:List (Addr×Obj)}{σ:St}{H:Hp}{s:qAi}{a:Addr}{y v:V}{u r:qAf}{o:Option V}{A:qCt}{E:qAf->qAi->Prop}
theorem AK {Q:qAf->qAi->Prop} (hu:A.units+1<qLq) (I:Inv X pins σ H s) (g:Iu H a y (some v)) (ry:RelV y u) (h:∀w' s',Inv X pins σ H s'->RelV v w'->Q w' s') :
  qBg (qBz X.prog X.w) A (qIm (.ref a) u) Q E s:=by
 rcases g with ⟨kvs,k,e,ey,l⟩ | ⟨kvs,k,b,e,ey,eb,l⟩
 ·subst ey;obtain⟨z,hd,vs,rel,dd⟩:=qK I.cJ e;obtain⟨w',hw,rw'⟩:=jY.some_of (v:=v) (o:=qLl vs k) (by rw[l];exact rel.val k);exact wpAny_getItem_of (Cn ry) dd.mapOf hw (h w' _ (I.tok _) rw')
 ·subst ey;cases (show u=Value.ref b from ry);obtain⟨z,hd,xs,rel,dd⟩:=Cp I.cJ e;obtain⟨w',hw,rw'⟩:=jY.some_of (v:=v) (o:=(qOp xs k).map (·.2)) (by rw[l];exact rel.val k);obtain⟨p,hp,hp2⟩:=Option.map_eq_some_iff.mp hw;refine wpAny_getItem_heap (tupleKind_room_in1 hu) (w6 I.cJ eb) dd hp ?_;rw[hp2];exact h w' _ (I.tok _) rw'
theorem sE {h':Heap}{t':Nat}{ob:HO} (I:Inv X pins σ H s) (mu:LI (H a)) (hs:qFc a s.heap h') (he:∃q,h'.get? a=some q) (new:cS X.prog X.w (upd H a ob) h' a ob) :
  Inv X pins σ (upd H a ob) { s with heap:=h',toks:=t' } :=
 I.write (x:=a) (e:=a) mu (.inl rfl) (fun b q hb z=>(hs.2 b hb).trans z) he new
theorem Cq {P:qBm}{w:qCy}{H':Hp}{h':Heap}{kvs:List (Key×V)}{vs:List (Key×qAf)} (z:kvs.length<=qAh) (hd:(a == qFn)=false) (rel:KV kvs vs) (dd:h'.DictOf (cC P w) a vs) :
  cS P w H' h' a (.dK kvs):=⟨z,hd,vs,rel,dd⟩
theorem AM {H':Hp}{Q:Unit->qAi->Prop} (hu:A.units+1<qLq) (I:Inv X pins σ H s) (g:Ms H a y v H') (ry:RelV y u) (rv:RelV v r) (h:∀s',Inv X pins σ H' s'->Q () s') :
  qBg (qBz X.prog X.w) A (setItem (.ref a) u r) Q E s:=by
 rcases g with ⟨kvs,k,e,ey,l,eH⟩ | ⟨kvs,k,b,e,ey,eb,l,eH⟩
 ·subst ey eH;obtain⟨z,hd,vs,rel,dd⟩:=Co I.cJ e;have hz:vs.length<=qAh:=by rw[<- rel.length];exact z
  have hl:(putK kvs k v).length<=qAh:=by have:=mY kvs k v;lia
  refine wpAny_setItem_pairs (hsz:=hz) (Cn ry) dd fun h' dd' hs=>h _ ?_;have he:∃q,h'.get? a=some q:=let ⟨q,_,_,hq,_⟩:=dd';⟨q,hq⟩;exact sE I (by rw[e];exact True.intro) hs he (Cq hl hd (rel.put k rv) dd')
 ·subst ey eH;cases (show u=Value.ref b from ry);obtain⟨z,hd,xs,rel,dd⟩:=Mr I.cJ e;have hz:xs.length<=qAh:=by rw[<- Paired.length rel];exact z
  have hl:(putK kvs k v).length<=qAh:=by have:=mY kvs k v;lia
  refine wpAny_setItem_heap (hsz:=hz) (tupleKind_room_in1 hu) (w6 I.cJ eb) dd fun h' dd' hs=>h _ ?_;obtain⟨q,es,ep,hq,h2,h3,h4,_,h5⟩:=dd';refine sE I (by rw[e];exact True.intro) hs ⟨q,hq⟩ ⟨hl,hd,_,(rel.put k eb rv).keeps fun c ys ec=>?_,q,es,ep,hq,h2,h3,h4,h5⟩;rw[aM (j5 ec e (fun z=>nomatch z))];exact ec
end
section
variable {X:Cx}{pins:List (Addr×Obj)}{σ:St}{H:Hp}{s:qAi}{a:Addr}{kvs:List (Key×V)}{k:Key}{u:qAf}{A:qCt}{E:qAf->qAi->Prop}
end
def Mt (i:Expr):Prop:=∀ov iv,qLn i false ov iv=operate [ov,iv] (qIm ov iv)
theorem EN {prog:qBm}{w:qCy}{A:qCt}{E:qAf->qAi->Prop}{s:qAi}{env:Env}{value slice:Expr}{pos:Pos}{T id:String}{Q:qAf->qAi->Prop}
  (hl:qMq (.type T) "__getitem__"=pure (some (.builtin id))) (hs:Mt slice)
  (h:qBg (qBz prog w) A (eval value env) (fun o s₁=>qBg (qBz prog w) A (eval slice env) (fun i s₂=>s₂.TypeIs o T/\qBg (qBz prog w) A (qIm o i) Q E s₂) E s₁) E s) :
  qBg (qBz prog w) A (eval (.Subscript value slice pos) env) Q E s:=by
 refine Subscript_ (qHk h (fun o s₁ h₁=>qHk h₁ (fun i s₂ h₂=>?_) fun _ _ x=>x) fun _ _ x=>x);obtain⟨hT,h₂⟩:=h₂;unfold subscriptTail;refine qAa ?_;rw[getitemInPython_of_ne hT.not_modules];refine qAa (wpAny_specialOf hT hl ?_);have fin:qBg (qBz prog w) A (qLn slice false o i) (fun r s₃=>qBg (qBz prog w) A (letTemporaryGo value o r >>= fun _=>pure r) Q E s₃) E s₂:=by
  rw[hs o i];exact wpAny_operating (qHk h₂ (fun r s₃ h₃=>qAa (wpAny_letTemporaryGo (qAe h₃))) fun _ _ x=>x)
 first
  | exact qAe (qAa fin)
  | exact qAa (qAe (qAa fin))
  | exact qAa fin
theorem uL {X:Cx}{pins:List (Addr×Obj)}{σ:St}{H:Hp}{s:qAi}{a:Addr}{y:V}{o:Option V} (I:Inv X pins σ H s) (g:Iu H a y o):s.TypeIs (.ref a) "dict":=by
 rcases g with ⟨kvs,k,e,_,_⟩ | ⟨kvs,k,b,e,_,_,_⟩
 ·obtain⟨_,_,vs,_,dd⟩:=qK I.cJ e;exact dd.typeIs
 ·obtain⟨_,_,xs,_,dd⟩:=Cp I.cJ e;exact dd.typeIs
def Mu (td ty:TE):TE:=fun σ H Q=>td σ H fun x H1=>ty σ H1 fun y H2=>∃a v,x = .ref a/\Iu H2 a y (some v)/\Q v H2
def Mv (td ty tv:TE):TS:=fun D σ H=>tv σ H fun v H1=>td σ H1 fun x H2=>ty σ H2 fun y H3=>∃a H4,x = .ref a/\Ms H3 a y v H4/\D.nx σ H4
section
variable {X:Cx}{o i e value:Expr}{pos pos' tpos:Pos}{td ty tv:TE}
theorem EO (hu:X.A.units+1<qLq) (ho:PE X o td) (hi:PE X i ty) (hs:Mt i):PE X (.Subscript o i pos) (Mu td ty):=by
 intro pins s σ H Q I h;refine EN PySem.F.slot_dict_getitem.lookup hs (cF (ho pins s σ H _ I h) fun u s1 ⟨x,H1,I1,rx,q1⟩=>cF (hi pins s1 σ H1 _ I1 q1) fun iv s2 ⟨y,H2,I2,ry,a,v,ex,g,q2⟩=>?_);subst ex;obtain rfl:u=Value.ref a:=rx;exact⟨uL I2 g,AK hu I2 g ry fun w' s3 I3 rw'=>⟨v,H2,I3,rw',q2⟩⟩
theorem yZ (hu:X.A.units+1<qLq) (ho:PE X o td) (hi:PE X i ty) (hv:PE X value tv) (hs:qKd value (some (.Subscript o i pos')) pos.line X.env=pure false) :
  PS X (.Assign [.Subscript o i pos'] value pos) (Mv td ty tv):=by
 intro pins s σ H D I h;refine wpAny_Assign_Subscript (cF (hv pins s σ H _ I h) fun r s1 ⟨v,H1,I1,rv,q1⟩=>cF (ho pins s1 σ H1 _ I1 q1) fun u s2 ⟨x,H2,I2,rx,q2⟩=>cF (hi pins s2 σ H2 _ I2 q2) fun iv s3 ⟨y,H3,I3,ry,a,H4,ex,g,q3⟩=>?_) hs;subst ex;obtain rfl:u=Value.ref a:=rx;exact AM hu I3 g ry rv fun s4 I4=>⟨σ,H4,I4,q3⟩
end
section
variable {κ:Type} [DecidableEq κ]
end
section
variable {X:Cx}{pos:Pos}
end
end L2
namespace PySem.W
open PySem PySem.Calls PyProof.Rows
def KasT.Ok {α:Type} (n:Nat) (P:α->Prop):KasT α->Prop
 | .ret a=>P a
 | .ask i j k=>i<n/\j<n/\∀b,(k b).Ok n P
def KasT.run {α:Type} (lt:Nat->Nat->Bool):KasT α->α
 | .ret a=>a
 | .ask i j k=>(k (lt i j)).run lt
section
variable {prog:qBm}{w:qCy}{A:qCt}{E:qAf->qAi->Prop}{s:qAi}
end
end PySem.W
namespace L2
open PySem PySem.Spec PyProof.Rows PySem.W
section
variable {X:Cx}{pins:List (Addr×Obj)}{σ:St}{H:Hp}{s:qAi}
end
section
variable {X:Cx}{a b c d:Expr}{ta tb tc td:TE}{pos:Pos}
theorem ER:Gi X "list.pop" Mh:=HX
end
section
variable {K:qAc}{a:Addr}{xs:List V}{σ0:St}{H1:Hp}{g:TG}{c:TT}{te:TE}{Q:Addr->Hp->Prop}
end
section
variable {X:Cx}{Ex:XS}{o e:Expr}{es:List Expr}{ta:TE}{t:TA}{m:Str}{apos pos:Pos}{j k:Nat}
end
section
variable {X:Cx}
end
section
variable {K:qAc}{a:Addr}{xs:List V}{σ0:St}{H1:Hp}{i0:Nat}{c:TT}{te:TE}{Q:Addr->Hp->Prop}
end
def j3 (X:Cx) (NB:List Str) (sc:qIn) (cl:List (Str×Addr)) (y0:Str) (s₃:qAi) (H₃:Hp) (fp:List Addr):Cx :=
 { X with N:=NB,s₀:=s₃,H₀:=H₃,env:=compEnvC sc ((y0,s₃.heap.objs.size+1)::cl) s₃.heap.objs.size X.env,outer:=X.stack,stack:=X.stack,ex:=fp,fn:=fun y=>y == y0,pn:=[],xe:=fun _ _=>False }
structure AN (X:Cx) (NB:List Str) (pick:List (Option Nat)) (sc:qIn) (cl:List (Str×Addr)) (y0:Str):Prop where
 wU:qMt sc X.env=pure cl
 kind:sc.kind = .function
 Iw:∀n,qKh n sc.names cl=(y0,n)::cl
 Mw:∀h:Heap,pushCells h sc.names=h.push { cls:=.type "cell",data:=.cell none }
 names:∀y∈sc.names,y.2 = .local->sc.names.lookup y.1=some .local
 sub:mV X.env.cells cl
 has:∀n x,((qIy sc X.env).names.lookup x=some .cell\/(qIy sc X.env).names.lookup x=some .free)->∃c,((y0,n)::cl).lookup x=some c
 len:pick.length=NB.length
 got:∀(j i:Nat) (x:Str),pick[j]?=some (some i)->NB[j]?=some x->(X.N[i]?=some x/\(X.env.kindOf x=some .cell\/X.env.kindOf x=some .free)/\(qIy sc X.env).names.lookup x=some .cell)/\(x == y0)=false
def mF (y0:Str):List (Option Nat)->List Str->Bool
 | some _::p,x::r=>!(x == y0)&&mF y0 p r
 | none::p,_::r=>mF y0 p r
 | _,_=>true
theorem mG {y0:Str}:∀{p:List (Option Nat)}{r:List Str},mF y0 p r=true->∀(j i:Nat) (x:Str),p[j]?=some (some i)->r[j]?=some x->(x == y0)=false
 | [],_,_,j,i,x,h,_=>by simp at h
 | _::_,[],_,j,i,x,_,h=>by simp at h
 | some k::p,y::r,h,0,i,x,h1,h2=>by
  have z:(!(y == y0)&&mF y0 p r)=true:=h;rw[qCd] at z;obtain rfl:y=x:=Option.some.inj h2;simpa using z.1
 | none::p,y::r,h,0,i,x,h1,h2=>by cases (Option.some.inj h1)
 | some k::p,y::r,h,j+1,i,x,h1,h2=>by
  have z:(!(y == y0)&&mF y0 p r)=true:=h;rw[qCd] at z;exact mG z.2 j i x h1 h2
 | none::p,y::r,h,j+1,i,x,h1,h2=>mG (p:=p) (r:=r) h j i x h1 h2
theorem ES {X:Cx}{NB:List Str}{pick:List (Option Nat)}{sc:qIn}{cl:List (Str×Addr)}{y0:Str} (wU:qMt sc X.env=pure cl) (sub:mV X.env.cells cl) (kind:sc.kind = .function) (cb:∀n,qKh n sc.names cl=(y0,n)::cl)
  (pb:∀h:Heap,pushCells h sc.names=h.push { cls:=.type "cell",data:=.cell none }) (names:∀y∈sc.names,y.2 = .local->sc.names.lookup y.1=some .local) (has:∀n,hasB ((y0,n)::cl) (qIy sc X.env).names=true) (got:uC X.N X.env.scope.names (qIy sc X.env).names pick NB=true) (no:mF y0 pick NB=true):AN X NB pick sc cl y0 :=
 ⟨wU,kind,cb,pb,names,sub,fun n=>yR (has n),kY got,fun j i x h1 h2=>⟨nO got j i x h1 h2,mG no j i x h1 h2⟩⟩
theorem nS {n c:Nat} (h:c<n) (e:c=n+1):False:=by lia
theorem dS {y0 x:Str}{n c:Addr}{cl:List (Str×Addr)} (h:((y0,n)::cl).lookup x=some c):(x=y0/\c=n)\/cl.lookup x=some c:=by
 rw[qJt] at h;cases hx:x == y0 with
 | true =>
  rw[hx] at h;cases h;exact .inl ⟨by simpa using hx,rfl⟩
 | false =>
  rw[hx] at h;exact .inr h
section
variable {M:qNz}{A:qCt}{E:qAf->qAi->Prop}{s:qAi}
theorem w8 {sc:qIn}{globals:Addr}{cl:List (Str×Addr)}{qual:Str}{out:Env}{y0:Str}{Q:Env->qAi->Prop} (cb:∀n,qKh n sc.names cl=(y0,n)::cl) (pb:∀h:Heap,pushCells h sc.names=h.push { cls:=.type "cell",data:=.cell none })
  (hQ:∀h',h'.Ns s.heap.objs.size (fun _=>none)->h'.IsCell (s.heap.objs.size+1) none->(∀b o,s.heap.get? b=some o->h'.get? b=some o) ->
   Q { scope:=sc,locals:=s.heap.objs.size,globals,cells:=(y0,s.heap.objs.size+1)::cl,qual,func:=none,code:=out.code,frame:=out.frame,builtins:=out.builtins } { s with heap:=h' }) :
  qBg M A (newFunctionEnv sc globals cl [] qual none .none (some out)) Q E s:=by
 simp only[newFunctionEnv,qLz,if_true];refine qAa (wpAny_alloc ?_);refine qAa (wpAny_layCells _ (fun name kind cells=>by cases hkc:kind == NameKind.cell <;> simp[hkc]) _ _ _ _ ?_);rw[cb,pb,show({ s with heap:=s.heap.push { cls:=.type "dict",data:=.dict #[] } }:qAi).heap.objs.size=s.heap.objs.size+1 from qDg ..];refine qAa ?_;rw[List.forIn_nil];refine qAe (qAe ?_);refine hQ _ ((Heap.Ns.new s.heap (.type "dict")).keeps fun b o e=>qAj _ e) ?_ fun b o e=>qAj _ (qAj _ e);have e:(s.heap.push { cls:=.type "dict",data:=.dict #[] }).objs.size=s.heap.objs.size+1:=qDg ..;rw[<- e];exact⟨_,qAt _ rfl,rfl⟩
end
section
variable {X:Cx}{NB:List Str}{pick:List (Option Nat)}{sc:qIn}{cl:List (Str×Addr)}{y0:Str}{pins:List (Addr×Obj)}{σ:St}{H:Hp}{s:qAi}{fp:List Addr}
theorem sub_lt (I:Inv X pins σ H s) (B:AN X NB pick sc cl y0){x:Str}{c:Addr} (h:cl.lookup x=some c):c<s.heap.objs.size:=by
 obtain⟨v,q⟩:=I.cell x c (B.sub.of x c h);exact q.lt
theorem ET (I:Inv X pins σ H s) (B:AN X NB pick sc cl y0) (hf:∀b∈fp,i5 X pins H b) (hex:∀b∈fp,∃o,s.heap.get? b=some o):(j3 X NB sc cl y0 s H fp).Ok:=by
 have nfs:∀b∈fp,b∉n6 X.stack:=fun b hb z=>by
  rcases List.mem_cons.mp (I.kE b z) with e | e
  ·exact(hf b hb).2.1 e
  ·exact(hf b hb).2.2.1 e
 refine⟨I.ok.mod,B.kind,I.ok.glob,I.ok.blt,qAg _,fun x y c h1 h2=>?_,fun x hx=>B.has _ x hx,fun x c h e=>?_,I.ok.hd,I.ok.frames,.inl rfl,fun b hb=>⟨?_,fun x c h e=>?_⟩,I.bs,qCu I.ok.Es I.sz,fun b o e hb=>?_,nfs,I.stack,I.nK⟩
 ·rcases dS h1 with ⟨e1,e2⟩ | e1
  ·rcases dS h2 with ⟨f1,f2⟩ | f1
   ·rw[e1,f1]
   ·exact(nS (sub_lt I B f1) e2).elim
  ·rcases dS h2 with ⟨f1,f2⟩ | f1
   ·exact(nS (sub_lt I B e1) f2).elim
   ·exact I.ok.inj x y c (B.sub.of x c e1) (B.sub.of y c f1)
 ·rcases dS e with ⟨e1,e2⟩ | e1
  ·rw[e2];exact qFd _
  ·have e0:x=y0:=by simpa using (show(x == y0)=true from h)
   have z:((y0,s.heap.objs.size+1)::cl).lookup x=some (s.heap.objs.size+1):=by rw[e0,qJt];simp
   have e':c=s.heap.objs.size+1:=Option.some.inj ((show((y0,s.heap.objs.size+1)::cl).lookup x=some c from e).symm.trans z);rw[e'];exact qFd _
 ·obtain⟨o,ho⟩:=hex b hb;exact qBf (qAs ho)
 ·rcases dS h with ⟨e1,e2⟩ | e1
  ·obtain⟨o,ho⟩:=hex b hb;exact(nS (qAs ho) (e.symm.trans e2)).elim
  ·exact(hf b hb).2.2.2.2.1 x c (B.sub.of x c e1) e
 ·rcases(hf b hb).2.2.2.1 with z | z
  ·exact I.ok.Ar b o e z
  ·exact absurd (qBd (qAs (I.ok.bs b o e).1) z) (qDh _)
theorem xA {h':Heap} (I:Inv X pins σ H s) (B:AN X NB pick sc cl y0) (hf:∀b∈fp,i5 X pins H b) (hex:∀b∈fp,∃o,s.heap.get? b=some o)
  (hn:h'.Ns s.heap.objs.size (fun _=>none)) (hce:h'.IsCell (s.heap.objs.size+1) none) (hs:∀b o,s.heap.get? b=some o->h'.get? b=some o) (t:Nat):Inv (j3 X NB sc cl y0 s H fp) [] (oI pick σ) H { s with heap:=h',toks:=t }:=by
 refine⟨ET I B hf hex,rfl,I.bare,Un.kept hs,⟨_,hn,fun j x v h1 h2 h3=>?_⟩,fun x c e=>?_,I.cJ.fresh (qAg _),fun x c e=>?_,fun p hp=>absurd (show p∈([]:List (Addr×Obj)) from hp) (by simp),I.cJ.kept hs,?_⟩
 ·have h2':(pick.map fun o=>o.bind fun i=>(σ[i]?).join)[j]?=some (some v):=h2;rw[qAo] at h2';cases hp:pick[j]? with
  | none=>rw[hp] at h2';cases h2'
  | some o =>
   rw[hp] at h2';cases o with
   | none=>cases h2'
   | some i =>
    have h2'':(σ[i]?).join=some v:=Option.some.inj h2';obtain⟨⟨g1,g2,g3⟩,ny⟩:=B.got j i x hp h1;have hσ:σ[i]?=some (some v):=by
     cases hq:σ[i]? with
     | none=>rw[hq] at h2'';cases h2''
     | some z=>rw[hq] at h2'';have e:z=some v:=h2'';rw[e]
    obtain⟨m,_,hl⟩:=I.loc;obtain⟨u,r,L⟩:=hl i x v g1 hσ (.inr g2);refine⟨u,r,?_⟩;rcases L with ⟨k,_⟩ | ⟨_,c,hc,⟨o,ho,hd⟩⟩
    ·rcases g2 with g2 | g2 <;> rw[k] at g2 <;> cases g2
    ·obtain⟨c',hc'⟩:=B.has (s.heap.objs.size+1) x (.inl g3);rcases dS hc' with ⟨e1,_⟩ | e1
     ·rw[e1] at ny;simp at ny
     ·have e:c'=c:=Option.some.inj ((B.sub.of x c' e1).symm.trans hc);subst e;exact .inr ⟨.inl g3,c',hc',o,hs _ _ ho,hd⟩
 ·rcases dS e with ⟨_,e2⟩ | e1
  ·rw[e2];exact⟨none,hce⟩
  ·obtain⟨v,o,ho,hd⟩:=I.cell x c (B.sub.of x c e1);exact⟨v,o,hs _ _ ho,hd⟩
 ·rcases dS e with ⟨_,e2⟩ | e1
  ·rw[e2];exact I.cJ.fresh (qFd _)
  ·exact I.iT x c (B.sub.of x c e1)
 ·show(oI pick σ).length=NB.length;unfold oI;rw[qAb];exact B.len
theorem Cr {σ':St}{H':Hp}{s':qAi} (I:Inv X pins σ H s) (hf:∀b∈fp,i5 X pins H b) (J:Inv (j3 X NB sc cl y0 s H fp) [] σ' H' s'):Inv X pins σ H' s':=by
 refine I.call' (ch:=fp) J.os J.base J.cJ J.bare fun b hb=>?_;obtain⟨_,f1,_,f3,f4,f5⟩:=hf b hb;exact⟨f3,f1,f4,f5⟩
end
section
variable {X:Cx}{NB:List Str}{pick:List (Option Nat)}{sc:qIn}{cl:List (Str×Addr)}{y0:Str}{elt target iter:Expr}{ifs:List Expr}{pos:Pos}{wi:TI}{g:TG}{c:TT}{te:TE}
theorem AO {pins:List (Addr×Obj)}{s:qAi}{σ:St}{H:Hp}{use:Option (qAf->Sem Unit)}{Q:Addr->Hp->Prop}{QV:qAf->qAi->Prop} (B:AN X NB pick sc cl y0) (hc:X.calm=true) (hi:PI X target iter wi)
  (hg:∀s₃ H₃ fp,PG (j3 X NB sc cl y0 s₃ H₃ fp) target g) (ht:∀s₃ H₃ fp,uE (j3 X NB sc cl y0 s₃ H₃ fp) ifs c) (he:∀s₃ H₃ fp,PE (j3 X NB sc cl y0 s₃ H₃ fp) elt te)
  (hs:∀x,qFo iter X.env x=pure x) (I:Inv X pins σ H s) (h:uD wi pick g c te σ H Q)
  (fin:∀(D C:Addr) (s':qAi) (H':Hp),Inv X pins σ H' s'->Q D H'->H' C=none->C≠X.env.locals->X.s₀.heap.objs.size<=C->(∀x a,X.env.cells.lookup x=some a->a≠C)->(∀p∈X.pn++pins,p.1≠C)->(∃m,s'.heap.Ns C m) ->
   qOy (qBz X.prog X.w) X.A X.xe use QV (.ref D) C (.ok .next) s') :
  qBg (qBz X.prog X.w) X.A (qKg (.ListComp elt [⟨target,iter,ifs,0⟩] sc pos) sc X.env (firstIterPos [⟨target,iter,ifs,0⟩] pos) (qOo []) false (eval iter X.env) use) QV X.xe s:=by
 refine wpAny_comprehension_free rfl hs B.wU B.kind B.names (cF (hi pins s σ H _ I h) fun v s1 h1=>cF h1 fun itv s2 h2=>?_);obtain⟨it,fp,tn,J,H2,e,I2,T,st2,f2,h2⟩:=h2;subst e;refine qCj ?_;have I3:Inv X pins σ (upd H2 s2.heap.objs.size (.lst [])) { s2 with heap:=s2.heap.push { cls:=.type "list",dict:=none,data:=.seq ([]:List qAf).toArray } } :=
  I2.laid (t':=s2.toks) (fun b u e=>qAj _ e) (qAg _) ⟨qBq _,[],0,.nil,qAt _ rfl⟩
 have hf:H2 s2.heap.objs.size=none:=I2.cJ.fresh (qAg _);have lt:∀b∈fp,b≠s2.heap.objs.size:=fun b hb=>by
  obtain⟨o,ho,_⟩:=T.obj _ _ st2 b hb;exact qBf (qAs ho)
 have f3:∀b∈fp,i5 X pins (upd H2 s2.heap.objs.size (.lst [])) b:=fun b hb=>⟨by rw[aM (lt b hb)];exact(f2 b hb).1,(f2 b hb).2⟩;generalize hs3:({ s2 with heap:=s2.heap.push { cls:=.type "list",dict:=none,data:=.seq ([]:List qAf).toArray } }:qAi)=s3 at I3|-;have kp3:∀b o,s2.heap.get? b=some o->s3.heap.get? b=some o:=fun b o e=>by
  rw[<- hs3];exact qAj _ e
 have hex:∀b∈fp,∃o,s3.heap.get? b=some o:=fun b hb=>by
  obtain⟨o,ho,_⟩:=T.obj _ _ st2 b hb;exact⟨o,kp3 b o ho⟩
 have st3:tn 0 s3.heap:=T.keep _ _ _ st2 fun b _ o e=>kp3 b o e;obtain⟨W,⟨m0,w0⟩,turn⟩:=h2 _ hf;refine w8 B.Iw B.Mw (fun h₁ hns₁ hce₁ kp4=>?_);have J4:=xA I3 B f3 hex hns₁ hce₁ kp4 s3.toks;have st4:tn 0 h₁:=T.keep _ _ _ st3 fun b _ o e=>kp4 b o e;have stat:∀{H':Hp},(∀b∈fp,H' b=none)->∀b∈fp,i5 (j3 X NB sc cl y0 s3 (upd H2 s2.heap.objs.size (.lst [])) fp) [] H' b:=fun {H'} hn b hb=>by
  obtain⟨o,ho⟩:=hex b hb;refine⟨hn b hb,qBf (qAs ho),fun z=>?_,.inl hb,fun x a e=>(dS e).elim (fun q z=>nS (qAs ho) (z.symm.trans q.2)) (fun e1=>(f2 b hb).2.2.2.2.1 x a (B.sub.of x a e1)),fun p hp=>absurd (show p∈([]:List (Addr×Obj)) from hp) (by simp)⟩;rcases List.mem_cons.mp (I2.kE b z) with e | e
  ·exact(f2 b hb).2.1 e
  ·exact(f2 b hb).2.2.1 e
 have loop:qHn (qBz X.prog X.w) X.A (.compLoop (.ListComp elt [⟨target,iter,ifs,0⟩] sc pos) 0 (.ref it) (.ref s2.heap.objs.size) (j3 X NB sc cl y0 s3 (upd H2 s2.heap.objs.size (.lst [])) fp).env)
   (qOy (qBz X.prog X.w) X.A X.xe use QV (.ref s2.heap.objs.size) s3.heap.objs.size) { s3 with heap:=h₁,toks:=s3.toks }:=by
  refine kZ (fun n s'=>∃i σ' H',Inv (j3 X NB sc cl y0 s3 (upd H2 s2.heap.objs.size (.lst [])) fp) [] σ' H' s'/\tn i s'.heap/\(∀b∈fp,H' b=none)/\W i n σ' H') ?_ m0 ⟨0,_,_,J4,st4,fun b hb=>(f3 b hb).1,w0⟩;rintro n s5 ⟨i,σ5,H5,I5,st5,fr5,w5⟩;rcases turn i n σ5 H5 w5 with ⟨stop,qn⟩ | ⟨go,N,hN,step⟩
  ·refine cF (T.done (j3 X NB sc cl y0 s3 (upd H2 s2.heap.objs.size (.lst [])) fp) rfl rfl rfl hc i [] s5 σ5 H5 _ I5 (stat fr5) st5 stop) fun r s6 ⟨hr,I6⟩=>?_;subst hr;refine fin s2.heap.objs.size s3.heap.objs.size s6 H5 (Cr I3 f3 I6) qn I6.free (qBf I3.lt).symm I3.sz (fun x a e=>?_) (fun p hp=>?_) ?_
   ·obtain⟨v,o,ho,_⟩:=I3.cell x a e;exact qBf (qAs ho)
   ·exact qBf (qAs (I3.pin p hp).1)
   ·obtain⟨m,hn,_⟩:=I6.loc;exact⟨m,hn⟩
  ·refine cF (T.item (j3 X NB sc cl y0 s3 (upd H2 s2.heap.objs.size (.lst [])) fp) rfl rfl rfl hc i [] s5 σ5 H5 _ I5 (stat fr5) st5 go) fun r s6 ⟨u,hr,h6⟩=>?_;subst hr;refine cF h6 fun _ s7 ⟨x,H7,I7,r7,y7,st7,fr7⟩=>?_;have I7':=I7.pinned (stat fr7) (T.obj _ _ st7);have qNg:∀{s9:qAi}{σ9:St}{H9:Hp},Inv (j3 X NB sc cl y0 s3 (upd H2 s2.heap.objs.size (.lst [])) fp) ([]++mB fp s7.heap) σ9 H9 s9->N σ9 H9 ->
     ∃m,m<n/\∃i σ' H',Inv (j3 X NB sc cl y0 s3 (upd H2 s2.heap.objs.size (.lst [])) fp) [] σ' H' s9/\tn i s9.heap/\(∀b∈fp,H' b=none)/\W i m σ' H':=fun {s9 σ9 H9} I9 n9=>by
    obtain⟨m',hm,w9⟩:=hN σ9 H9 n9;refine⟨m',hm,i+1,σ9,H9,I9.i6,T.keep _ _ _ st7 fun b hb o e=>(I9.pin (b,o) (qAx _ (qAx _ (fJ hb e)))).1,fun b hb=>?_,w9⟩;obtain⟨o,e,d⟩:=T.obj _ _ st7 b hb;exact(I9.pin (b,o) (qAx _ (qAx _ (fJ hb e)))).2.1
   refine cF (hg _ _ _ _ s7 σ5 H7 x u _ I7' r7 (step x H7 y7)) fun _ s8 ⟨σ8,H8,I8,q8⟩=>?_;refine cF (ht _ _ _ _ s8 σ8 H8 _ I8 q8) fun b s9 ⟨H9,I9,q9⟩=>?_;cases b with
   | false =>
    rw[if_neg qAp];exact qNg I9 (by rw[if_neg qAp] at q9;exact q9)
   | true =>
    rw[if_pos rfl] at q9|-;refine cF (he _ _ _ _ s9 σ8 H9 _ I9 q9) fun y s10 ⟨vy,H10,I10,r10,xs,hD,hl,q10⟩=>?_;refine cF (mE _ s10 σ8 H10 (.ref s2.heap.objs.size) [vy] (.ref s2.heap.objs.size) [y] (fun _ H'=>N σ8 H') I10 rfl (.cons r10 .nil) ⟨_,xs,vy,rfl,rfl,hD,hl,q10⟩) fun _ s11 ⟨_,H11,I11,_,q11⟩=>?_;exact qNg I11 q11
 refine codeAny_compStart_list loop (T.self _ 0 _ _ _ st4 loop)
theorem Cs {i:Nat}{x:Str}{pos' spos:Pos} (hN:X.N.Nodup) (hx1:X.N[i]?=some x) (hx2:Loc X.env.scope x)
  (hsw:qKd (.ListComp elt [⟨target,iter,ifs,0⟩] sc pos) (some (.Name x pos')) spos.line X.env=pure true) (B:AN X NB pick sc cl y0) (hc:X.calm=true) (hi:PI X target iter wi)
  (hg:∀s₃ H₃ fp,PG (j3 X NB sc cl y0 s₃ H₃ fp) target g) (ht:∀s₃ H₃ fp,uE (j3 X NB sc cl y0 s₃ H₃ fp) ifs c) (he:∀s₃ H₃ fp,PE (j3 X NB sc cl y0 s₃ H₃ fp) elt te)
  (hs:∀x,qFo iter X.env x=pure x:=by intro _;rfl) (hfn:X.fn x=true\/X.env.scope.names.lookup x=some .local:=by first|exact .inl rfl | exact .inr rfl | assumption) :
  PS X (.Assign [.Name x pos'] (.ListComp elt [⟨target,iter,ifs,0⟩] sc pos) spos) (fun D σ H=>uD wi pick g c te σ H fun l H'=>D.nx (σ.set i (some (.ref l))) H'):=by
 intro pins s σ H D I h;rw[exec_Assign_Name_used _ _ _ _ hsw];refine qAa (qIk (qAa ?_));show qBg _ _ (do let _ <- qKg (.ListComp elt [⟨target,iter,ifs,0⟩] sc pos) sc X.env _ (qOo []) false (eval iter X.env) (some (qKj (.Name x pos') X.env))) _ _ s;refine qAa (cF (AO (use:=some (qKj (.Name x pos') X.env)) (QV:=fun _ s'=>SP X pins D .next s') B hc hi hg ht he hs I h fun l C s' H' I' q c0 c1 c2 c3 c4 hn=>?_) fun _ s' hq=>qAe (qAe hq));obtain⟨m,hm⟩:=hn;show qBg _ _ (qKj (.Name x pos') X.env (.ref l)) _ _ _;refine wpAny_assign_Name (lY (v:=.ref l) I' hN hx1 hx2 rfl (fun s'' I'' ⟨a,hsb,ha⟩=>?_) hfn);have ne:C≠a:=by
  rcases ha with e | e
  ·rw[e];exact c1
  ·exact(c3 x a e).symm
 refine⟨m,hm.sameBut hsb ne,fun hh hsb2=>?_⟩;exact⟨_,H',I''.turned (t':=s''.toks) (fun b o hb e=>(hsb2.2 b hb).trans e) c0 c1 (.inr c2) c3 c4,q⟩
end
end L2
namespace HT
open PySem PyProof.Rows
section
open PySem.SeqAt
open PySem.AutoSeq1 (wpAny_loadPart')
open PySem.MeetsSeq PySem.MeetsSeq2 PySem.MeetsSeq3
end
section
variable {prog:qBm}{w:qCy}{A:qCt}{E:qAf->qAi->Prop}{s:qAi}
end
end HT
namespace L2
open PySem PySem.Spec PyProof.Rows
section
variable {X:Cx}
end
section
variable {X:Cx}
end
end L2
namespace PySem
section
variable {prog:qBm}{w:qCy}{K:Type} [DecidableEq K] {knd:HeapKind prog w K}{A:qCt}{E:qAf->qAi->Prop}{s:qAi}
end
section
variable {prog:qBm}{w:qCy}{K:Type} [DecidableEq K] {knd:KeyKind prog w K}{A:qCt}{E:qAf->qAi->Prop}{s:qAi}
end
end PySem
namespace L2
open PySem PySem.Spec PyProof.Rows
section
variable {X:Cx}
end
section
variable {X:Cx}
end
section
variable {X:Cx}
def Gq (K:qAc):R2:=fun x y H Q=>∃d d',fR K H x d/\fR K H y d'/\d.depth<=64/\d'.depth<=64/\Q (.bl (!PyData.eqv d d')) H
theorem y3 (hu:X.A.units+64<qLq):iN X (qDw .NotEq) (Gq X.K):=by
 intro pins s σ H x y v u Q I rx ry h;obtain⟨d,d',h1,h2,hd,hd',q⟩:=h;obtain⟨as,r1⟩:=h1.reads I rx;obtain⟨bs,r2⟩:=h2.reads I ry;have sh:SeqAt.shaped d=true:=by
  show(d.canLay0&&decide (d.depth<=64))=true;rw[h1.lay.1,decide_eq_true hd];rfl
 have sh':SeqAt.shaped d'=true:=by
  show(d'.canLay0&&decide (d'.depth<=64))=true;rw[h2.lay.1,decide_eq_true hd'];rfl
 exact ne_dataH r1 r2 sh sh' hu ⟨.bl (!PyData.eqv d d'),H,I,rfl,q⟩
end
end L2
set_option maxHeartbeats 4000000
namespace L2
open PySem PySem.Spec PyProof.Rows
section
variable {X:Cx}{pins:List (Addr×Obj)}{σ:St}{H:Hp}{s:qAi}
end
end L2
set_option maxHeartbeats 4000000
namespace PySem.W
open PySem PySem.Calls PyProof.Rows
namespace S6
end S6
end PySem.W
namespace L2
open PySem PySem.Spec PyProof.Rows PySem.W
section
variable {X:Cx}
end
end L2
set_option maxHeartbeats 4000000
namespace L2
open PySem PySem.Spec PyProof.Rows
section
variable {prog:qBm}{w:qCy}{A:qCt}{E:qAf->qAi->Prop}{s:qAi}{d it:Addr}{o:Obj}{es:Array DictEntry}{ep:Nat}
theorem Ct {Q:qAf->qAi->Prop} (hd:(d == qFn)=false) (ho:s.heap.get? d=some o) (hc:o.ExactDict) (hdat:o.data = .dict es ep)
  (hQ:Q (.ref s.heap.objs.size) { s with heap:=s.heap.push { cls:=.type "dict_keyiterator",data:=.fields #[.ref d,.int 0 0,.int es.size 0,.int ep 0] } }) :
  qBg (qBz prog w) A (qMs (.ref d)) Q E s:=by
 have hT:s.TypeIs (.ref d) "dict":=⟨o,ho,hc.1⟩;refine wpAny_pyIter_slot hT F.slot_dict_iter (qEb F.slot_dict_iter hT F.entry_dict_iter ?_ (F.args_dict_iter_1 _));unfold Builtin.«dict.__iter__»;refine qAa ?_;unfold Builtin.Dict.dictSlotNone;refine qAa (wpAny_notOrdered_dict hT ?_);show qBg _ _ (pure (Value.ref d)) _ _ s;refine qAe ?_;show qBg _ _ (Builtin.Dict.showsAll d >>= _) _ _ s;unfold Builtin.Dict.showsAll;rw[if_neg (by rw[hd];exact qAp)];refine qAa (qAe ?_);refine qAa (wpAny_dictEntries ho hdat ?_);refine qAa (wpAny_dictEpoch ho hdat ?_);refine qAa (qCj (qAe ⟨_,rfl,"dict_keyiterator",_,⟨_,qAt _ rfl,rfl⟩,F.slot_dict_keyiterator_next.lookup,?_⟩));simpa [qJk] using hQ
theorem Cu {i:Nat}{Q:Option qAf->qAi->Prop} (hit:s.heap.IsKeyIter it d i es.size ep) (hod:s.heap.get? d=some o) (hdd:o.data = .dict es ep) (hlt:i<es.size)
  (hQ:∀h',h'.IsKeyIter it d (i+1) es.size ep->qFc it s.heap h'->Q (some es[i].key) { s with heap:=h' }) :
  qBg (qBz prog w) A (qIz (.ref it)) Q E s:=by
 obtain⟨oi,ho,hc,hd⟩:=id hit;unfold qIz;refine qAa (qHh (qEl (name:=Str.ofString "__next__") hit.typeIs F.slot_dict_keyiterator_next
  (qEb F.slot_dict_keyiterator_next hit.typeIs F.entry_dict_keyiterator_next ?_ (F.args_dict_keyiterator_next_1 _))))
 refine qAa (qAe ?_);refine qAa ?_;refine qAa ?_;first | refine qAa (qEz hit.typeIs (qAe ?_)) | refine qAa (qGb hit.typeIs (qAe ?_))
 refine qAa (qJj ho hd ?_);have hown:Builtin.Dict_items.ownsTuple "dict_keyiterator"=false:=by decide
 simp only[hown,qFu,if_false];show qBg _ _ (if (Value.ref d == Value.none)=true then _ else _) _ _ s;rw[if_neg (show ¬((Value.ref d == Value.none)=true) from qAp)];refine qAa (qAe ?_);refine qAa (wpAny_dictEntries hod hdd ?_);rw[if_neg (by simp)];refine qAa (qAe ?_);refine qAa (wpAny_dictEpoch hod hdd ?_);rw[if_neg (by simp)];refine qAe ?_;simp only[show ¬((i:Int)<0) from by lia,if_false,qBb,qBn hlt];refine qAa ?_;first | refine qAa (qEz hit.typeIs (qAe ?_)) | refine qAa (qGb hit.typeIs (qAe ?_))
 refine qAa (wpAny_isOneOf_keyiter hit.typeIs ?_);show qBg _ _ (setField (.ref it) 1 (qJk ((i:Int)+1)) >>= _) _ _ s;refine qAa (qFs ho hd (by simp) ?_);have hit':(s.heap.update it (Obj.mapFields (·.setIfInBounds 1 (qJk ((i:Int)+1))))).IsKeyIter it d (i+1) es.size ep :=
  ⟨_,qDe _ ho (Obj.isFreed_of_fields (Obj.data_mapFields hd _)),(Obj.cls_mapFields ..).trans hc,by rw[Obj.data_mapFields hd];simp[qJk]⟩
 refine qAa (qDj ?_);refine qAa (wpAny_isOneOf_keyiter (s:={ s with heap:=s.heap.update it (Obj.mapFields (·.setIfInBounds 1 (qJk ((i:Int)+1)))) }) hit'.typeIs ?_);show qBg _ _ (pure es[i].key) _ _ _;exact qAe (qAe ⟨_,rfl,qAe (hQ _ hit' (Heap.SameBut.update ..))⟩)
theorem EU {i:Nat}{Q:Option qAf->qAi->Prop} (hh:A.handled=none) (hit:s.heap.IsKeyIter it d i es.size ep) (hod:s.heap.get? d=some o) (hdd:o.data = .dict es ep) (hge:es.size<=i)
  (hQ:∀h',qKq it s.heap h'->Q none { s with heap:=h' }):qBg (qBz prog w) A (qIz (.ref it)) Q E s:=by
 obtain⟨oi,ho,hc,hd⟩:=id hit;unfold qIz;refine qAa (qHh (qEl (name:=Str.ofString "__next__") hit.typeIs F.slot_dict_keyiterator_next
  (qEb F.slot_dict_keyiterator_next hit.typeIs F.entry_dict_keyiterator_next ?_ (F.args_dict_keyiterator_next_1 _))))
 refine qAa (qAe ?_);refine qAa ?_;refine qAa ?_;first | refine qAa (qEz hit.typeIs (qAe ?_)) | refine qAa (qGb hit.typeIs (qAe ?_))
 refine qAa (qJj ho hd ?_);have hown:Builtin.Dict_items.ownsTuple "dict_keyiterator"=false:=by decide
 simp only[hown,qFu,if_false];show qBg _ _ (if (Value.ref d == Value.none)=true then _ else _) _ _ s;rw[if_neg (show ¬((Value.ref d == Value.none)=true) from qAp)];refine qAa (qAe ?_);refine qAa (wpAny_dictEntries hod hdd ?_);rw[if_neg (by simp)];refine qAa (qAe ?_);refine qAa (wpAny_dictEpoch hod hdd ?_);rw[if_neg (by simp)];refine qAe ?_;simp only[show ¬((i:Int)<0) from by lia,if_false,qBb,qDv hge];refine qAa ?_;first | refine qAa (qEz hit.typeIs (qAe ?_)) | refine qAa (qGb hit.typeIs (qAe ?_))
 show qBg _ _ (setField (.ref it) 0 .none >>= _) _ _ s;refine qAa (qFs ho hd (by simp) ?_);show qBg _ _ (qPx (.type "StopIteration") [] >>= _) _ _ _;refine qAa ?_;simp only[qPx,newTuple];refine qAa (qCj ?_ (by size_fits));refine qAa (m:=qJl _ _) (qGp (a:=Value.none) (by first | rfl | (simp only[qJl];rfl)) ?_)
 refine qCj ?_ (by size_fits);simp only[raiseNew];refine qAa (wpAny_handled ?_);rw[show A.in1.handled=none from hh];refine qAa (qAe (wpAny_throw ?_));refine qAa (wpAny_isInstance (T:="StopIteration") (b:=true) ⟨_,qAt _ rfl,rfl⟩ isSubtype_stop ?_);exact qAe (hQ _ (((Heap.SameBut.update ..).extBut.push _).push _))
end
section
variable {X:Cx}{tg:Expr}
end
section
variable {K:qAc}{a:Addr}{xs:List V}{σ0:St}{H1:Hp}{g:TG}{c:TT}{te:TE}{Q:Addr->Hp->Prop}
end
section
variable {X:Cx}
theorem k9 (K:qAc){e:Expr}{f:Str}{ta:TE}{pos:Pos} (he:PE X e ta) (hb:qGh e f X.env (eval e X.env)=eval e X.env) (h:X.K=K:=by rfl):PE X (.Attribute e f pos) (LZ K ta f):=by
 subst h;exact bZ he hb
theorem Cv (K:qAc) (h:X.K=K:=by rfl):iN X (qFw .Add) (yT K):=by
 subst h;exact fA
end
section
variable {K:qAc}{a:Addr}{xs:List V}{lo:Int}{n:Nat}{σ0:St}{H1:Hp}{i0:Nat}{c:TT}{te:TE}{Q:Addr->Hp->Prop}
structure sH (f:Nat->List V) (H1:Hp) (D:Addr) (rs:List Addr) (H:Hp):Prop where
 at_:∀i r,rs[i]?=some r->H1 r=none/\r≠D/\H r=some (.lst (f i))
 nd:rs.Nodup
theorem sH.more {f:Nat->List V}{H1 H2 H3:Hp}{D r:Addr}{rs:List Addr} (h:sH f H1 D rs H2) (hs:aH H1 H2) (hd:H2 D=some (.lst (rs.map V.ref))) (s:aH H2 H3) (hr:H2 r=none) (e:H3 r=some (.lst (f rs.length))):sH f H1 D (rs++[r]) (upd H3 D (.lst ((rs++[r]).map V.ref))):=by
 have nD:r≠D:=fun z=>by rw[z,hd] at hr;cases hr
 refine⟨fun i q hq=>?_,?_⟩
 ·rcases qAl i rs.length with z1 | z1
  ·rw[qAz z1] at hq;obtain⟨a,b,c⟩:=h.at_ i q hq;exact⟨a,b,by rw[aM b];exact s _ _ c⟩
  ·rw[qAv z1] at hq;obtain⟨rfl,rfl⟩:i=rs.length/\r=q:=by
    rcases qEr (i-rs.length) with z | z
    ·rw[z] at hq;exact⟨by lia,Option.some.inj hq⟩
    ·rw[qBa (by show 1<=_;lia)] at hq;cases hq
   exact⟨hs.free hr,nD,by rw[aM nD];exact e⟩
 ·refine List.nodup_append.mpr ⟨h.nd,by simp,fun x hx y hy=>?_⟩;rw[qHf] at hy;subst hy;rintro rfl;obtain⟨i,hi⟩:=List.mem_iff_getElem?.mp hx;have z:=(h.at_ i x hi).2.2;rw[hr] at z;cases z
theorem AQ (f:Nat->List V) (hn:n<=qAh)
  (step:∀(i:Nat) (H2:Hp) (k:VK) (k0:Hp->Prop),aH H1 H2->i<n->(∀r H3,aH H2 H3->H2 r=none->H3 r=some (.lst (f i))->k (.ref r) H3) ->
   c (σ0.set i0 (some (.int (lo+(i:Int))))) H2 fun b H4=>if b=true then te (σ0.set i0 (some (.int (lo+(i:Int))))) H4 k else k0 H4)
  (h:∀D rs H2,H1 D=none->aH H1 H2->rs.length=n->sH f H1 D rs H2->H2 D=some (.lst (rs.map V.ref))->Q D H2) :
  ∀D,H1 D=none->∃W:Nat->Nat->St->Hp->Prop,(∃m,W 0 m σ0 (upd H1 D (.lst [])))/\∀i m σ1 H2,W i m σ1 H2 ->
   ((pU lo n).stop i H2/\Q D H2)\/((pU lo n).go i H2/\∃N:St->Hp->Prop,(∀σ' H',N σ' H'->∃m',m'<m/\W (i+1) m' σ' H') /\
    ∀x H',(pU lo n).pX i H2 x H'->aY i0 x σ1 H' fun σ2 H3=>c σ2 H3 fun b H4=>if b=true then te σ2 H4 fun y H5=>∃xs,H5 D=some (.lst xs)/\xs.length<qAh/\N σ2 (upd H5 D (.lst (xs++[y]))) else N σ2 H4):=by
 intro D hD;refine⟨fun i m σ1 H2=>σ1.set i0 none=σ0.set i0 none/\aH H1 H2/\(∃rs:List Addr,rs.length=i/\sH f H1 D rs H2/\H2 D=some (.lst (rs.map V.ref)))/\i<=n/\m=n-i,⟨n,rfl,.aF hD,⟨[],rfl,⟨fun j y e=>(by cases e),qIs⟩,aC⟩,qBq _,rfl⟩,?_⟩;rintro i m σ1 H2 ⟨hσ,hs,⟨rs,hy,hR,hd⟩,hi,rfl⟩;have hset:∀v:Option V,σ1.set i0 v=σ0.set i0 v:=fun v=>by
  have z:=congrArg (fun l=>qHu l i0 v) hσ;simpa using z
 rcases qAl i n with hlt | hge
 ·right
  refine⟨hlt,fun σ' H'=>σ'.set i0 none=σ0.set i0 none/\aH H1 H'/\∃rs:List Addr,rs.length=i+1/\sH f H1 D rs H'/\H' D=some (.lst (rs.map V.ref)),fun σ' H' ⟨a,b,c⟩=>⟨n-(i+1),by lia,a,b,c,hlt,rfl⟩,?_⟩;rintro x H' ⟨rfl,rfl⟩;show c (σ1.set i0 (some (.int (lo+(i:Int))))) _ _;rw[hset];subst hy;refine step rs.length _ _ _ hs hlt fun r H3 hs3 hr e3=>⟨_,hs3 _ _ hd,by rw[qAb];lia,by simp,(hs.trans hs3).upd_ne' hD,rs++[r],by rw[qAm];rfl,?_,?_⟩
  ·have z:=hR.more hs hd hs3 hr e3;rw[qAr] at z;exact z
  ·rw[aC,qAr];rfl
 ·left
  obtain rfl:i=n:=qCw hi hge;exact⟨qAg _,h D rs _ hD hs hy hR hd⟩
theorem mH (f:Nat->List V) (hq:aR K H1 a xs) (hn:xs.length<=qAh)
  (step:∀(i:Nat) (x:V) (H2:Hp) (k:VK) (k0:Hp->Prop),aH H1 H2->xs[i]?=some x->(∀r H3,aH H2 H3->H2 r=none->H3 r=some (.lst (f i))->k (.ref r) H3) ->
   c (σ0.set i0 (some x)) H2 fun b H4=>if b=true then te (σ0.set i0 (some x)) H4 k else k0 H4)
  (h:∀D rs H2,H1 D=none->aH H1 H2->rs.length=xs.length->sH f H1 D rs H2->H2 D=some (.lst (rs.map V.ref))->Q D H2) :
  ∀D,H1 D=none->∃W:Nat->Nat->St->Hp->Prop,(∃m,W 0 m σ0 (upd H1 D (.lst [])))/\∀i m σ1 H2,W i m σ1 H2 ->
   ((yH K a).stop i H2/\Q D H2)\/((yH K a).go i H2/\∃N:St->Hp->Prop,(∀σ' H',N σ' H'->∃m',m'<m/\W (i+1) m' σ' H') /\
    ∀x H',(yH K a).pX i H2 x H'->aY i0 x σ1 H' fun σ2 H3=>c σ2 H3 fun b H4=>if b=true then te σ2 H4 fun y H5=>∃xs,H5 D=some (.lst xs)/\xs.length<qAh/\N σ2 (upd H5 D (.lst (xs++[y]))) else N σ2 H4):=by
 intro D hD;refine⟨fun i m σ1 H2=>σ1.set i0 none=σ0.set i0 none/\aH H1 H2/\(∃rs:List Addr,rs.length=i/\sH f H1 D rs H2/\H2 D=some (.lst (rs.map V.ref)))/\i<=xs.length/\m=xs.length-i,⟨xs.length,rfl,.aF hD,⟨[],rfl,⟨fun j y e=>(by cases e),qIs⟩,aC⟩,qBq _,rfl⟩,?_⟩;rintro i m σ1 H2 ⟨hσ,hs,⟨rs,hy,hR,hd⟩,hi,rfl⟩;have hset:∀v:Option V,σ1.set i0 v=σ0.set i0 v:=fun v=>by
  have z:=congrArg (fun l=>qHu l i0 v) hσ;simpa using z
 rcases qAl i xs.length with hlt | hge
 ·right
  refine⟨⟨xs,xs[i],hs.seq hq,by simp[hlt]⟩,fun σ' H'=>σ'.set i0 none=σ0.set i0 none/\aH H1 H'/\∃rs:List Addr,rs.length=i+1/\sH f H1 D rs H'/\H' D=some (.lst (rs.map V.ref)),fun σ' H' ⟨a,b,c⟩=>⟨xs.length-(i+1),by lia,a,b,c,hlt,rfl⟩,?_⟩;rintro x H' ⟨rfl,hx⟩;have hx:=hx xs (hs.seq hq);show c (σ1.set i0 (some x)) _ _;rw[hset];subst hy;refine step rs.length x _ _ _ hs hx fun r H3 hs3 hr e3=>⟨_,hs3 _ _ hd,by rw[qAb];lia,by simp,(hs.trans hs3).upd_ne' hD,rs++[r],by rw[qAm];rfl,?_,?_⟩
  ·have z:=hR.more hs hd hs3 hr e3;rw[qAr] at z;exact z
  ·rw[aC,qAr];rfl
 ·left
  obtain rfl:i=xs.length:=qCw hi hge;exact⟨⟨xs,hs.seq hq,qAg _⟩,h D rs _ hD hs hy hR hd⟩
end
section
variable {X:Cx}
def My (K:qAc):R2:=fun x y H Q=>∃d d',fR K H x d/\fR K H y d'/\d.depth<=64/\d'.depth<=64/\Q (.bl (PyData.eqv d d')) H
theorem y4 (hu:X.A.units+64<qLq):iN X (qDw .Eq) (My X.K):=by
 intro pins s σ H x y v u Q I rx ry h;obtain⟨d,d',h1,h2,hd,hd',q⟩:=h;obtain⟨as,r1⟩:=h1.reads I rx;obtain⟨bs,r2⟩:=h2.reads I ry;have sh:SeqAt.shaped d=true:=by
  show(d.canLay0&&decide (d.depth<=64))=true;rw[h1.lay.1,decide_eq_true hd];rfl
 have sh':SeqAt.shaped d'=true:=by
  show(d'.canLay0&&decide (d'.depth<=64))=true;rw[h2.lay.1,decide_eq_true hd'];rfl
 exact eq_dataH r1 r2 sh sh' hu ⟨.bl (PyData.eqv d d'),H,I,rfl,q⟩
end
section
variable {K:qAc}{a a':Addr}{xs xs':List V}{lo:Int}{n:Nat}{σ0:St}{H1:Hp}{i0:Nat}{c:TT}{te:TE}{g:TG}{Q:Addr->Hp->Prop}
theorem qL (Iv:Nat->List V->Hp->Prop) (mono:∀i ys H H',k6 H H'->Iv i ys H->Iv i ys H') (h0:Iv 0 [] H1) (hq:aR K H1 a xs) (hn:xs.length<=qAh)
  (step:∀(i:Nat) (x:V) (H2:Hp) (k:VK) (k0:Hp->Prop) (ys:List V),aH H1 H2->xs[i]?=some x->Iv i ys H2->(∀y H3,aH H2 H3->Iv (i+1) (ys++[y]) H3->k y H3)->(∀H3,aH H2 H3->Iv (i+1) ys H3->k0 H3) ->
   c (σ0.set i0 (some x)) H2 fun b H4=>if b=true then te (σ0.set i0 (some x)) H4 k else k0 H4)
  (h:∀D ys H2,H1 D=none->aH H1 H2->Iv xs.length ys H2->H2 D=some (.lst ys)->Q D H2) :
  ∀D,H1 D=none->∃W:Nat->Nat->St->Hp->Prop,(∃m,W 0 m σ0 (upd H1 D (.lst [])))/\∀i m σ1 H2,W i m σ1 H2 ->
   ((yH K a).stop i H2/\Q D H2)\/((yH K a).go i H2/\∃N:St->Hp->Prop,(∀σ' H',N σ' H'->∃m',m'<m/\W (i+1) m' σ' H') /\
    ∀x H',(yH K a).pX i H2 x H'->aY i0 x σ1 H' fun σ2 H3=>c σ2 H3 fun b H4=>if b=true then te σ2 H4 fun y H5=>∃xs,H5 D=some (.lst xs)/\xs.length<qAh/\N σ2 (upd H5 D (.lst (xs++[y]))) else N σ2 H4):=by
 intro D hD;refine⟨fun i m σ1 H2=>σ1.set i0 none=σ0.set i0 none/\aH H1 H2/\(∃ys,ys.length<=i/\Iv i ys H2/\H2 D=some (.lst ys))/\i<=xs.length/\m=xs.length-i,⟨xs.length,rfl,.aF hD,⟨[],qAg _,mono _ _ _ _ (aH.aF hD).t h0,aC⟩,qBq _,rfl⟩,?_⟩;rintro i m σ1 H2 ⟨hσ,hs,⟨ys,hy,hR,hd⟩,hi,rfl⟩;have hset:∀v:Option V,σ1.set i0 v=σ0.set i0 v:=fun v=>by
  have z:=congrArg (fun l=>qHu l i0 v) hσ;simpa using z
 rcases qAl i xs.length with hlt | hge
 ·right
  refine⟨⟨xs,xs[i],hs.seq hq,by simp[hlt]⟩,fun σ' H'=>σ'.set i0 none=σ0.set i0 none/\aH H1 H'/\∃ys,ys.length<=i+1/\Iv (i+1) ys H'/\H' D=some (.lst ys),fun σ' H' ⟨a,b,c⟩=>⟨xs.length-(i+1),by lia,a,b,c,hlt,rfl⟩,?_⟩;rintro x H' ⟨rfl,hx⟩;have hx:=hx xs (hs.seq hq);show c (σ1.set i0 (some x)) _ _;rw[hset];refine step i x _ _ _ ys hs hx hR (fun y H3 hs3 hR3=>⟨_,hs3 _ _ hd,by lia,?_,(hs.trans hs3).upd_ne' hD,ys++[y],by rw[qAm];show _+1<=_;lia,mono _ _ _ _ (.lst (hs3 _ _ hd)) hR3,aC⟩) fun H3 hs3 hR3=>⟨?_,hs.trans hs3,ys,by lia,hR3,hs3 _ _ hd⟩
  ·simp
  ·simp
 ·left
  obtain rfl:i=xs.length:=qCw hi hge;exact⟨⟨xs,hs.seq hq,qAg _⟩,h D ys _ hD hs hR hd⟩
theorem qM (Ag:St->Prop) (Iv:Nat->List V->Hp->Prop) (mono:∀i ys H H',k6 H H'->Iv i ys H->Iv i ys H') (h0:Ag σ0) (h00:Iv 0 [] H1) (hq:aR K H1 a xs) (hq':aR K H1 a' xs') (hlen:xs.length=xs'.length) (hn:xs.length<=qAh)
  (step:∀(i:Nat) (x y:V) (t:Addr) (σ1:St) (H2:Hp) (k:St->VK) (k0:St->Hp->Prop) (ys:List V),Ag σ1->aH H1 H2->xs[i]?=some x->xs'[i]?=some y->H2 t=some (.tup [x,y])->Iv i ys H2->(∀σ2 z H3,Ag σ2->aH H2 H3->Iv (i+1) (ys++[z]) H3->k σ2 z H3)->(∀σ2 H3,Ag σ2->aH H2 H3->Iv (i+1) ys H3->k0 σ2 H3) ->
   g (.ref t) σ1 H2 fun σ2 H3=>c σ2 H3 fun b H4=>if b=true then te σ2 H4 (k σ2) else k0 σ2 H4)
  (h:∀D ys H2,H1 D=none->aH H1 H2->Iv xs.length ys H2->H2 D=some (.lst ys)->Q D H2) :
  ∀D,H1 D=none->∃W:Nat->Nat->St->Hp->Prop,(∃m,W 0 m σ0 (upd H1 D (.lst [])))/\∀i m σ1 H2,W i m σ1 H2 ->
   ((yW K a a').stop i H2/\Q D H2)\/((yW K a a').go i H2/\∃N:St->Hp->Prop,(∀σ' H',N σ' H'->∃m',m'<m/\W (i+1) m' σ' H') /\
    ∀x H',(yW K a a').pX i H2 x H'->g x σ1 H' fun σ2 H3=>c σ2 H3 fun b H4=>if b=true then te σ2 H4 fun y H5=>∃xs,H5 D=some (.lst xs)/\xs.length<qAh/\N σ2 (upd H5 D (.lst (xs++[y]))) else N σ2 H4):=by
 intro D hD;refine⟨fun i m σ1 H2=>Ag σ1/\aH H1 H2/\(∃ys,ys.length<=i/\Iv i ys H2/\H2 D=some (.lst ys))/\i<=xs.length/\m=xs.length-i,⟨xs.length,h0,.aF hD,⟨[],qAg _,mono _ _ _ _ (aH.aF hD).t h00,aC⟩,qBq _,rfl⟩,?_⟩;rintro i m σ1 H2 ⟨hσ,hs,⟨ys,hy',hR,hd⟩,hi,rfl⟩;rcases qAl i xs.length with hlt | hge
 ·right
  have hlt':i<xs'.length:=hlen▸hlt;refine⟨⟨xs,xs',xs[i],xs'[i],hs.seq hq,hs.seq hq',by simp[hlt],by simp[hlt']⟩,fun σ' H'=>Ag σ'/\aH H1 H'/\∃ys,ys.length<=i+1/\Iv (i+1) ys H'/\H' D=some (.lst ys),fun σ' H' ⟨a,b,c⟩=>⟨xs.length-(i+1),by lia,a,b,c,hlt,rfl⟩,?_⟩;rintro v H' ⟨t,x,y,rfl,ht,rfl,hx,hy⟩;have hx:=hx xs (hs.seq hq);have hy:=hy xs' (hs.seq hq');have hst:aH H1 (upd H2 t (.tup [x,y])):=hs.trans (.aF ht);have hdt:=aH.aF (o:=.tup [x,y]) ht _ _ hd;refine step i x y t σ1 _ (fun σ2 y H5=>∃xs,H5 D=some (.lst xs)/\xs.length<qAh/\_) _ ys hσ hst hx hy aC (mono _ _ _ _ (aH.aF ht).t hR) (fun σ2 z H3 a2 hs3 hR3=>⟨_,hs3 _ _ hdt,by lia,a2,(hst.trans hs3).upd_ne' hD,ys++[z],by rw[qAm];show _+1<=_;lia,mono _ _ _ _ (.lst (hs3 _ _ hdt)) hR3,aC⟩) fun σ2 H3 a2 hs3 hR3=>⟨a2,hst.trans hs3,ys,by lia,hR3,hs3 _ _ hdt⟩
 ·left
  obtain rfl:i=xs.length:=qCw hi hge;exact⟨⟨xs,xs',hs.seq hq,hs.seq hq',.inl (qAg _)⟩,h D ys _ hD hs hR hd⟩
end
section
variable {X:Cx}
def fZ (lo:Int) (n:Nat):List V:=(qAn n).map fun(i:Nat)=>V.int (lo+(i:Int))
def Ow (ta:TA):TE:=fun σ H Q=>ta σ H fun vs H1=>∃(lo hi:Int) (n:Nat),vs=[.int lo,.int hi]/\hi=lo+(n:Int)/\n<=1000/\-(2^61)<=lo/\lo<2^61/\∀p,H1 p=none->Q (.ref p) (upd H1 p (.lst (fZ lo n)))
theorem p6 {a b:Expr}{ta:TA}{p p' pos pos':Pos} (hg:Gl X "list") (hm:X.mg "list"=none) (hg':Gl X "range") (hm':X.mg "range"=none) (hc:X.calm=true) (ha:PA X [a,b] ta)
  (hs:qBt [a,b] X.env=[(false,eval a X.env),(false,eval b X.env)]:=by rfl) (hs2:qBt [b] X.env=[(false,eval b X.env)]:=by rfl) (hs':qBt [.Call (.Name "range" p') [a,b] [] pos'] X.env=[(false,eval (.Call (.Name "range" p') [a,b] [] pos') X.env)]:=by rfl) :
  PE X (.Call (.Name "list" p) [.Call (.Name "range" p') [a,b] [] pos'] [] pos) (Ow ta):=by
 intro pins s σ H Q I h;refine qOa (fI I hg hm dA (qCf ?_ hs' rfl));rw[hs'];show qBg _ _ (qOn ((false,eval (.Call (.Name "range" p') [a,b] [] pos') X.env)::[])) _ _ s;refine qHb ?_;refine qOa (fI I hg' hm' boot_range (qCf (cF (ha pos' pins s σ H _ I h) fun us s1 ⟨vs,H1,I1,r1,q1⟩=>?_) (by rw[hs,hs2]) (by rw[hs2];rfl)));obtain⟨lo,hi,n,e,ehi,hn,l1,l2,q⟩:=q1;subst e;obtain⟨u,u',rfl,⟨t,rfl⟩,⟨t',rfl⟩⟩:=vals2 r1;refine call_range_2 ?_;refine qHl ?_;refine call_list_range (I1.ok.hd hc) (IsRange.new ..) (small_one (by lia) (by lia) (by lia) (by lia)) (n:=n) (by rw[rangeSize_one];split <;> lia) (by lia) fun h' tk acc c hk hS hacc=>?_;have hk2:∀b o,s1.heap.get? b=some o->h'.get? b=some o:=fun b o e=>hk b o (qAj _ e);have vv:Vals (fZ lo n) acc.toList:=by
  refine k7 (by unfold fZ;rw[qAb,qAu,qCb,hacc.1]) fun i x u hx hu=>?_;have hi:i<n:=by
   obtain⟨z,_⟩:=List.getElem?_eq_some_iff.mp hx;unfold fZ at z;rw[qAb,qAu] at z;exact z
  unfold fZ at hx;rw[qAo,qCr hi] at hx;obtain rfl:V.int (lo+(i:Int))=x:=Option.some.inj hx;obtain⟨t',rfl⟩:=hacc.2 i u (by simpa using hu);exact⟨t',by rw[qFe]⟩
 refine⟨.ref _,_,I1.laid (o:=.lst (fZ lo n)) (t':=tk) hk2 ?_ ?_,rfl,q _ (I1.cJ.fresh ?_)⟩
 ·rw[qDg];exact qFd _
 ·refine⟨by unfold fZ;rw[qAb,qAu];exact qAq (aO hn),acc.toList,c,vv,by simpa using hS⟩
 ·rw[qDg];exact qFd _
theorem uM (K:qAc) (hu:X.A.units+64<qLq) (h:X.K=K:=by rfl):iN X (qDw .NotEq) (Gq K):=by
 subst h;exact y3 hu
end
section
variable {K:qAc}{lo:Int}{n:Nat}{σ0:St}{H1:Hp}{i0:Nat}{c:TT}{te:TE}{Q:Addr->Hp->Prop}
theorem qN (Iv:Nat->List V->Hp->Prop) (mono:∀i ys H H',k6 H H'->Iv i ys H->Iv i ys H') (h0:Iv 0 [] H1) (hn:n<=qAh)
  (step:∀(i:Nat) (H2:Hp) (k:VK) (k0:Hp->Prop) (ys:List V),aH H1 H2->i<n->Iv i ys H2->(∀y H3,aH H2 H3->Iv (i+1) (ys++[y]) H3->k y H3)->(∀H3,aH H2 H3->Iv (i+1) ys H3->k0 H3) ->
   c (σ0.set i0 (some (.int (lo+(i:Int))))) H2 fun b H4=>if b=true then te (σ0.set i0 (some (.int (lo+(i:Int))))) H4 k else k0 H4)
  (h:∀D ys H2,H1 D=none->aH H1 H2->Iv n ys H2->H2 D=some (.lst ys)->Q D H2) :
  ∀D,H1 D=none->∃W:Nat->Nat->St->Hp->Prop,(∃m,W 0 m σ0 (upd H1 D (.lst [])))/\∀i m σ1 H2,W i m σ1 H2 ->
   ((pU lo n).stop i H2/\Q D H2)\/((pU lo n).go i H2/\∃N:St->Hp->Prop,(∀σ' H',N σ' H'->∃m',m'<m/\W (i+1) m' σ' H') /\
    ∀x H',(pU lo n).pX i H2 x H'->aY i0 x σ1 H' fun σ2 H3=>c σ2 H3 fun b H4=>if b=true then te σ2 H4 fun y H5=>∃xs,H5 D=some (.lst xs)/\xs.length<qAh/\N σ2 (upd H5 D (.lst (xs++[y]))) else N σ2 H4):=by
 intro D hD;refine⟨fun i m σ1 H2=>σ1.set i0 none=σ0.set i0 none/\aH H1 H2/\(∃ys,ys.length<=i/\Iv i ys H2/\H2 D=some (.lst ys))/\i<=n/\m=n-i,⟨n,rfl,.aF hD,⟨[],qAg _,mono _ _ _ _ (aH.aF hD).t h0,aC⟩,qBq _,rfl⟩,?_⟩;rintro i m σ1 H2 ⟨hσ,hs,⟨ys,hy,hR,hd⟩,hi,rfl⟩;have hset:∀v:Option V,σ1.set i0 v=σ0.set i0 v:=fun v=>by
  have z:=congrArg (fun l=>qHu l i0 v) hσ;simpa using z
 rcases qAl i n with hlt | hge
 ·right
  refine⟨hlt,fun σ' H'=>σ'.set i0 none=σ0.set i0 none/\aH H1 H'/\∃ys,ys.length<=i+1/\Iv (i+1) ys H'/\H' D=some (.lst ys),fun σ' H' ⟨a,b,c⟩=>⟨n-(i+1),by lia,a,b,c,hlt,rfl⟩,?_⟩;rintro x H' ⟨rfl,rfl⟩;show c (σ1.set i0 (some (.int (lo+(i:Int))))) _ _;rw[hset];refine step i _ _ _ ys hs hlt hR (fun y H3 hs3 hR3=>⟨_,hs3 _ _ hd,by lia,?_,(hs.trans hs3).upd_ne' hD,ys++[y],by rw[qAm];show _+1<=_;lia,mono _ _ _ _ (.lst (hs3 _ _ hd)) hR3,aC⟩) fun H3 hs3 hR3=>⟨?_,hs.trans hs3,ys,by lia,hR3,hs3 _ _ hd⟩
  ·simp
  ·simp
 ·left
  obtain rfl:i=n:=qCw hi hge;exact⟨qAg _,h D ys _ hD hs hR hd⟩
end
section
variable {prog:qBm}{w:qCy}{A:qCt}{E:qAf->qAi->Prop}{s:qAi}
theorem j7:isSeqSlotId "list.__iadd__"=true:=by decide +kernel
theorem iG {M:qNz}{a b:qAf}{Q:qAf->qAi->Prop} (ha:s.TypeIs a "list") (hb:s.TypeIs b "list")
  (hc:qBg M A (call (.builtin "list.__iadd__") [a,b]) Q E s):qBg M A (qNy .Add a b) Q E s:=by
 unfold qNy;refine qDj ?_;have hl:qMq (.type "list") (dunderI "add")=pure (some (.builtin "list.__iadd__")):=PySem.F.slot_list_iadd.lookup;have hfi:fillsInplaceSlot (.type "list") "add" (Operator.Add == .Add)=pure false:=by
  unfold fillsInplaceSlot;show(qMq (.type "list") (dunderI "add") >>= fun fi=>pure (fi.isSome && !isSeqSlot fi))=pure false;rw[hl];show(pure (true && !isSeqSlotId "list.__iadd__"):Sem Bool)=pure false;rw[j7];rfl
 have hsi:seqSlot? (.type "list") (dunderI "add")=pure (some (.builtin "list.__iadd__")):=by
  unfold seqSlot?;rw[hl];show((if (!isSeqSlotId "list.__iadd__")=true then pure none else pure (some (.builtin "list.__iadd__")):Sem (Option qAf)))=_;rw[j7];rfl
 refine qAa (qHw ha (qAa (qGp hfi ?_)));show qBg M A (if false=true then _ else _) Q E s;rw[if_neg qAp];refine qAa (wpAny_binaryOp1_none (nm:="add") ha hb noFill_list_add ?_);refine qAa (qGp hsi ?_);exact qAa (qGo hc)
end
section
variable {X:Cx}
def Py:NF:=fun x y H Q=>∃l b xs zs,x = .ref l/\y = .ref b/\H l=some (.lst xs)/\H b=some (.lst zs)/\xs.length+zs.length<=qAh/\Q (.ref l) (upd H l (.lst (xs++zs)))
theorem nT:NV X .Add Py:=by
 intro pins s σ H x y v u Q I rx ry h;obtain⟨l,b,xs,zs,rfl,rfl,hH,hB,hz,q⟩:=h;cases rx;cases ry;obtain⟨z,its,n,r,hl,e⟩:=I.BQ hH;obtain⟨z2,its2,n2,r2,hl2,e2⟩:=I.BQ hB;have hsz:its.toArray.size+its2.toArray.size<=qAh:=by rw[qAw,qAw];lia
 have hlong:¬(!its.toArray.isEmpty&&Builtin.List.listTooLong (its.toArray.size+its2.toArray.size))=true:=by
  rw[uA hsz,qIt];exact qAp
 refine iG ⟨_,e,rfl⟩ ⟨_,e2,rfl⟩ (qIb F.slot_list_iadd ⟨_,e,rfl⟩ F.entry_list_iadd (F.args_list_iadd_2 _ _)
  (AutoSeq1.list___iadd___list_list_0 l its.toArray n b its2.toArray n2 hlong (by rw[qAw];lia) (by lia)) ⟨e,e2,?_⟩)
 refine⟨.ref l,_,I.HW (its':=its++its2) hH e (by simp) (r.append r2) ?_,rfl,q⟩;rw[qAm];lia
theorem EV (K:qAc) (hu:X.A.units+64<qLq) (h:X.K=K:=by rfl):iN X (qDw .NotEq) (EJ K (!·)):=by
 subst h;exact Cb hu
def EW (K:qAc):V->List V->Hp->VK->Prop:=fun x vs H Q=>∃(p:Addr) (bs:List Bool) (j:Nat),x = .ref p/\vs=[.bl true]/\aR K H p (bs.map V.bl)/\bs[j]?=some true/\(∀m,m<j->bs[m]?=some false)/\Q (.int (j:Nat)) H
def eqB (u:qAf):Bool:=match u with
 | .bool b=>b
 | _=>false
theorem AR (K:qAc) (hK:X.K=K):Gi X "list.index" (EW K):=by
 subst hK;intro pins s σ H x vs v us Q I rx rv h;obtain⟨p,bs,j,rfl,rfl,hq,hj,hno,q⟩:=h;cases rx;obtain⟨u,rfl,ru⟩:=rv.one;obtain rfl:u=Value.bool true:=ru;obtain⟨its,r',pl,hz⟩:=I.list hq;obtain⟨⟨oc,od,odt,osl⟩,h1,h2,n,h3⟩:=id pl.isList;dsimp only at h2 h3;subst h2 h3;have at_:∀(m:Nat) (k:Bool),bs[m]?=some k->its[m]?=some (.bool k):=fun m k hm=>by
  obtain⟨u,hu,ru⟩:=r'.get (i:=m) (x:=.bl k) (by rw[qAo,hm];rfl);obtain rfl:u=Value.bool k:=ru;exact hu
 have hl:=r'.length;rw[qAb] at hl;have ht1:=at_ j true hj;have hjl:j<its.length:=by
  rcases qAl j its.length with z | z
  ·exact z
  ·rw[qBa z] at ht1;cases ht1
 refine qIb F.slot_list_index ⟨_,h1,rfl⟩ F.entry_list_index (F.args_list_index_2 _ _) (SeqAt.list_indexAt p its.toArray n od osl (.bool true) eqB j (by simpa using hjl) (by rw[qAb,qCa] at hz;lia) ?_ fun m hm hmj=>?_) ⟨h1,fun y hy=>?_,?_⟩
 ·have e:its.toArray[j]'(by simpa using hjl) = .bool true:=by
   have:=qAd hjl;rw[ht1] at this;simpa using (Option.some.inj this).symm
  rw[e];rfl
 ·have hml:m<its.length:=by simpa using hm
  have ht2:=at_ m _ (hno m hmj);have e:its.toArray[m]'hm = .bool false:=by
   have:=qAd hml;rw[ht2] at this;simpa using (Option.some.inj this).symm
  rw[e];rfl
 ·have hy':y∈its:=by simpa using hy
  obtain⟨m,hm,e⟩:=qCq hy';have hmn:m<bs.length:=by lia
  have ht2:=at_ m _ (qAd hmn);rw[qAd hm,e] at ht2;obtain rfl:y = .bool bs[m]:=Option.some.inj ht2;have ee:eqB (.bool bs[m])=(bs[m] == true):=by cases bs[m] <;> rfl
  rw[ee];exact SeqAt.EqAt.bool_bool _ _
 ·exact⟨.int (j:Nat),H,I.tok _,⟨_,rfl⟩,q⟩
end
theorem lA {α β:Type}{R:α->β->Prop}:∀{l:List α}{m:List β},Paired R l m->∀{i:Nat}{x:α},l[i]?=some x->∃y,m[i]?=some y/\R x y
 | _,_,.nil,i,x,e=>by cases i <;> cases e
 | _,_,.cons h t,0,x,e=>⟨_,rfl,by rw[<- Option.some.inj e];exact h⟩
 | _,_,.cons h t,i+1,x,e=>lA t (i:=i) e
theorem uN {P:qBm}{w:qCy}{k:Key}{v:qAf} (h:(cC P w).is k v=true):RelV (kV k) v:=by
 rcases cM h with ⟨i,t,rfl,rfl⟩ | ⟨x,t,rfl,rfl⟩
 ·exact⟨t,rfl⟩
 ·exact⟨t,rfl⟩
theorem y6 {P:qBm}{w:qCy}{h:Heap}{a:Addr}{vs:List (Key×qAf)} (d:h.DictOf (cC P w) a vs):∃ep,h.DictAt (cC P w) a vs ep:=by
 obtain⟨o,es,ep,r⟩:=d;exact⟨ep,o,es,r⟩
theorem AS {P:qBm}{w:qCy}{kvs:List (Key×V)}{vs:List (Key×qAf)} (r:KV kvs vs){its:List qAf} (hl:its.length=vs.length) (h:∀(i:Nat) (v:qAf),its[i]?=some v->∃k x,vs[i]?=some (k,x)/\(cC P w).is k v=true):Vals (kvs.map fun kv=>kV kv.1) its:=by
 have rl:=Paired.length r;refine k7 (by rw[qAb];lia) fun i x u hx hu=>?_;obtain⟨k,y,e1,e2⟩:=h i u hu;rw[qAo] at hx;cases e:kvs[i]? with
 | none=>rw[e] at hx;cases hx
 | some kv =>
  rw[e] at hx;obtain rfl:kV kv.1=x:=Option.some.inj hx;obtain⟨q,hq,rq⟩:=lA r e;rw[e1] at hq;obtain rfl:(k,y)=q:=Option.some.inj hq;rw[show kv.1=k from rq.1];exact uN e2
theorem AU {kvs:List (Key×V)}{vs:List (Key×qAf)} (r:KV kvs vs){its:List qAf} (hl:its.length=vs.length) (h:∀(i:Nat) (v:qAf),its[i]?=some v->∃k,vs[i]?=some (k,v)):Vals (kvs.map fun kv=>kv.2) its:=by
 have rl:=Paired.length r;refine k7 (by rw[qAb];lia) fun i x u hx hu=>?_;obtain⟨k,e1⟩:=h i u hu;rw[qAo] at hx;cases e:kvs[i]? with
 | none=>rw[e] at hx;cases hx
 | some kv =>
  rw[e] at hx;obtain rfl:kv.2=x:=Option.some.inj hx;obtain⟨q,hq,rq⟩:=lA r e;rw[e1] at hq;obtain rfl:(k,u)=q:=Option.some.inj hq;exact rq.2
section
variable {X:Cx}
theorem f9 (hc:X.calm=true):g5 X (.type "list") (fun xs H Q=>∃a kvs,xs=[.ref a]/\Rd H a (.dK kvs)/\∀l,H l=none->Q (.ref l) (upd H l (.lst (kvs.map fun kv=>kV kv.1)))):=by
 intro pins s σ H xs us Q I r h;obtain⟨a,kvs,rfl,hq,q⟩:=h;obtain⟨u,rfl,rx⟩:=vals1 r;cases rx;obtain⟨z,hd,vs,rel,dd⟩:=qK I.cJ hq;obtain⟨ep,da⟩:=y6 dd;have rl:=Paired.length rel;refine qMj (PySem.W.kdl_dict (knd:=cC X.prog X.w) hd) (I.ok.hd hc) da (by lia) fun h' tk acc c kp e hacc=>?_;refine⟨.ref s.heap.objs.size,_,I.laid (t':=tk) kp (qAg _) (show cS X.prog X.w _ h' _ (.lst (kvs.map fun kv=>kV kv.1)) from⟨by rw[qAb];exact z,acc.toList,c,AS rel (by rw[qCb];exact hacc.1) fun i v hv=>hacc.2 i v (by rw[<- qDd];exact hv),by simpa using e⟩),rfl,q _ (I.cJ.fresh (qAg _))⟩
def Pz (td:TE):TE:=fun σ H Q=>td σ H fun x H1=>∃a kvs,x = .ref a/\Rd H1 a (.dK kvs)/\∀l,H1 l=none->Q (.ref l) (upd H1 l (.lst (kvs.map fun kv=>kv.2)))
theorem hV {o:Expr}{td:TE}{p pos apos cpos:Pos} (hg:Gl X "list") (hm:X.mg "list"=none) (hc:X.calm=true) (ho:PE X o td)
  (hbase:qGh o "values" X.env (eval o X.env)=eval o X.env:=by rfl) (hline:(apos.endLine == cpos.line)=true:=by rfl)
  (hs:qBt [.Call (.Attribute o "values" apos) [] [] cpos] X.env=[(false,eval (.Call (.Attribute o "values" apos) [] [] cpos) X.env)]:=by rfl) :
  PE X (.Call (.Name "list" p) [.Call (.Attribute o "values" apos) [] [] cpos] [] pos) (Pz td):=by
 intro pins s σ H Q I h;refine qOa (fI I hg hm dA (qCf ?_ hs rfl));rw[hs];show qBg _ _ (qOn ((false,eval (.Call (.Attribute o "values" apos) [] [] cpos) X.env)::[])) _ _ s;refine qHb ?_;refine wpAny_Call_method0_late hbase hline (cF (ho pins s σ H _ I h) fun v s1 ⟨x,H1,I1,r1,q1⟩=>?_);obtain⟨a,kvs,ex,hq,q⟩:=q1;subst ex;cases r1;obtain⟨z,hd,vs,rel,dd⟩:=qK I1.cJ hq;have rl:=Paired.length rel;refine⟨"dict","dict.values",PySem.F.plainAttrs_dict,qKk,PySem.F.type_dict_values,dd.typeIs,fun b e=>?_,qHx rfl (PySem.evalArgs_none ?_)⟩
 ·cases e
  obtain⟨o,es,ep,g1,g2,_⟩:=id dd;exact⟨o,g1,g2.2.1⟩
 refine call_meetsIn qKk dd.typeIs PySem.F.entry_dict_values (PySem.F.args_dict_values_1 _) (meets_dict_values (cC X.prog X.w) a hd) ⟨⟨vs,dd⟩,?_⟩;refine qHl ?_;have kp1:∀b o,s1.heap.get? b=some o->(s1.heap.push { cls:=.type "dict_values",data:=.fields #[.ref a] }).get? b=some o:=fun b o e=>qAj _ e;obtain⟨ep,da⟩:=y6 dd;have I2:Inv X pins σ H1 { s1 with heap:=s1.heap.push { cls:=.type "dict_values",data:=.fields #[.ref a] } }:=I1.kept (t':=s1.toks) kp1;have vw:(s1.heap.push { cls:=.type "dict_values",data:=.fields #[.ref a] }).IsValuesView s1.heap.objs.size a:=⟨_,qAt _ rfl,rfl,rfl⟩;have da2:(s1.heap.push { cls:=.type "dict_values",data:=.fields #[.ref a] }).DictAt (cC X.prog X.w) a vs ep:=da.at' fun o e=>kp1 _ _ e;refine qMj (s:={ s1 with heap:=s1.heap.push { cls:=.type "dict_values",data:=.fields #[.ref a] } }) (PySem.W.kdl_values (knd:=cC X.prog X.w)) (I2.ok.hd hc) ⟨vw,da2⟩ (by lia) fun h' tk acc c kp e hacc=>?_;refine⟨.ref _,_,I2.laid (t':=tk) kp (qAg _) (show cS X.prog X.w _ h' _ (.lst (kvs.map fun kv=>kv.2)) from⟨by rw[qAb];exact z,acc.toList,c,AU rel (by rw[qCb];exact hacc.1) fun i v hv=>hacc.2 i v (by rw[<- qDd];exact hv),by simpa using e⟩),rfl,q _ (I2.cJ.fresh (qAg _))⟩
end
end L2
namespace L2
namespace ST
open PySem
def sI (xs:Array Nat):Prop:=∀(i j a b:Nat),xs[i]?=some a->xs[j]?=some b->i<j->a<b
theorem Mz (xs:Array Nat) (j:Nat) (hr:sI xs):∀(f lo hi:Nat),hi-lo<=f->lo<=hi->hi<=xs.size ->
  (∀i a,i<lo->xs[i]?=some a->a<j)->(∀i a,hi<=i->xs[i]?=some a->j<=a) ->
  SetTable.below.go xs j f lo hi<=xs.size/\(∀i a,i<SetTable.below.go xs j f lo hi->xs[i]?=some a->a<j)/\(∀i a,SetTable.below.go xs j f lo hi<=i->xs[i]?=some a->j<=a):=by
 intro f;induction f with
 | zero =>
  intro lo hi h1 h2 h3 h4 h5;have e:lo=hi:=by lia
  subst e;exact⟨h3,h4,h5⟩
 | succ f ih =>
  intro lo hi h1 h2 h3 h4 h5;unfold SetTable.below.go;by_cases hl:lo<hi
  ·rw[if_pos hl];have hm:(lo+hi)/2<xs.size:=by lia
   have em:xs[(lo+hi)/2]?=some xs[(lo+hi)/2]:=qBn hm;have ed:xs.getD ((lo+hi)/2) j=xs[(lo+hi)/2]:=by
    rw[Array.getD_eq_getD_getElem?,em];rfl
   dsimp only;by_cases hc:xs.getD ((lo+hi)/2) j<j
   ·rw[if_pos hc];refine ih _ _ (by lia) (by lia) h3 (fun i a hi' e=>?_) h5;rw[ed] at hc;rcases qAl i ((lo+hi)/2) with h | h
    ·exact qPm (hr _ _ _ _ e em h) hc
    ·have:i=(lo+hi)/2:=by lia
     subst this;rw[em] at e;have:=Option.some.inj e;lia
   ·rw[if_neg hc];refine ih _ _ (by lia) (by lia) (by lia) h4 (fun i a hi' e=>?_);rw[ed] at hc;rcases qAl ((lo+hi)/2) i with h | h
    ·have:=hr _ _ _ _ em e h;lia
    ·have:i=(lo+hi)/2:=by lia
     subst this;rw[em] at e;have:=Option.some.inj e;lia
  ·rw[if_neg hl];have e:lo=hi:=by lia
   subst e;exact⟨h3,h4,h5⟩
theorem oP {xs:Array Nat} (hr:sI xs) (j:Nat):SetTable.below xs j<=xs.size/\(∀i a,i<SetTable.below xs j->xs[i]?=some a->a<j)/\(∀i a,SetTable.below xs j<=i->xs[i]?=some a->j<=a):=by
 refine Mz xs j hr _ 0 _ (by lia) (qBq _) (qAg _) (fun i a h=>absurd h (qFy _)) (fun i a h e=>?_);rw[qDv h] at e;cases e
theorem xB {xs:Array Nat} (hr:sI xs){i a:Nat} (e:xs[i]?=some a):SetTable.below xs (a+1)=i+1:=by
 obtain⟨h1,h2,h3⟩:=oP hr (a+1);have hi:i<xs.size:=by
  rcases qAl i xs.size with h | h
  ·exact h
  ·rw[qDv h] at e;cases e
 rcases Nat.lt_trichotomy (SetTable.below xs (a+1)) (i+1) with h | h | h
 ·have:=h3 i a (by lia) e;lia
 ·exact h
 ·have hs:i+1<xs.size:=by lia
  have e2:=qBn hs;have:=h2 (i+1) _ h e2;have:=hr i (i+1) _ _ e e2 (by lia);lia
theorem xC {xs:Array Nat} (hr:sI xs):SetTable.below xs 0=0:=by
 obtain⟨h1,h2,h3⟩:=oP hr 0;rcases qEr (SetTable.below xs 0) with h | h
 ·exact h
 ·have e:=qBn (xs:=xs) (i:=0) (by lia);exact absurd (h2 0 _ h e) (qFy _)
theorem EX:sI #[]:=fun i j a b e=>by simp at e
theorem AV {l:List Nat} (h:l.Pairwise (· < ·)):sI l.toArray:=by
 intro i j a b e1 e2 hij;rw[qLu] at e1 e2;obtain⟨hi,rfl⟩:=List.getElem?_eq_some_iff.mp e1;obtain⟨hj,rfl⟩:=List.getElem?_eq_some_iff.mp e2;exact List.pairwise_iff_getElem.mp h i j hi hj hij
theorem jQ (n:Nat):sI (Array.range n):=by
 intro i j a b e1 e2 hij;obtain⟨hi,e1⟩:=Array.getElem?_eq_some_iff.mp e1;obtain⟨hj,e2⟩:=Array.getElem?_eq_some_iff.mp e2;rw[Array.getElem_range] at e1 e2;lia
theorem xD {xs:Array Nat} (hr:sI xs){j:Nat} (hn:xs[SetTable.below xs j]?≠some j):sI (SetTable.insertAt xs (SetTable.below xs j) j):=by
 obtain⟨h1,h2,h3⟩:=oP hr j;generalize SetTable.below xs j=p at hn h1 h2 h3;have at_:∀i a,(SetTable.insertAt xs p j)[i]?=some a->(i<p/\xs[i]?=some a)\/(i=p/\a=j)\/(p<i/\xs[i-1]?=some a):=by
  intro i a e;unfold SetTable.insertAt at e;rw[Array.getElem?_append,Array.size_push,qMo] at e;split at e
  ·rename_i h;rw[Array.getElem?_push,qMo] at e;split at e
   ·right;left
    exact⟨by lia,(Option.some.inj e).symm⟩
   ·left
    rw[qLg] at e;split at e
    ·rename_i h';exact⟨by lia,by simpa using e⟩
    ·cases e
  ·rename_i h;right;right;rw[qLg] at e;split at e
   ·rename_i h';refine⟨by lia,?_⟩;rw[show i-1=p+(i-(min p xs.size-0+1)) by lia];exact e
   ·cases e
 intro i k a b e1 e2 hik;rcases at_ i a e1 with ⟨a1,a2⟩ | ⟨a1,a2⟩ | ⟨a1,a2⟩ <;> rcases at_ k b e2 with ⟨b1,b2⟩ | ⟨b1,b2⟩ | ⟨b1,b2⟩
 ·exact hr _ _ _ _ a2 b2 hik
 ·rw[b2];exact h2 _ _ a1 a2
 ·exact hr _ _ _ _ a2 b2 (by lia)
 ·lia
 ·lia
 ·rw[a2];have:=h3 _ _ (by lia) b2;rcases qAl j b with h | h
  ·exact h
  ·have ej:b=j:=by lia
   subst ej;exfalso;rcases qAl p (k-1) with h' | h'
   ·have hp:p<xs.size:=by
     have:k-1<xs.size:=by
      rcases qAl (k-1) xs.size with z | z
      ·exact z
      ·rw[qDv z] at b2;cases b2
     lia
    have e:=qBn hp;have:=h3 _ _ (qAg _) e;have:=hr _ _ _ _ e b2 h';lia
   ·rw[show k-1=p by lia] at b2;exact hn b2
 ·lia
 ·lia
 ·exact hr _ _ _ _ a2 b2 (by lia)
theorem AW {t:qFx}{j:Nat} (h:∀i,t.slot j≠.live i):t.place[SetTable.below t.place j]?≠some j:=by
 intro e;refine h (SetTable.below t.place j) ?_;unfold SetTable.slot;dsimp only;rw[e];simp
theorem kH {t:qFx}{f:Nat->Int}{h:Int}:∀(n:Nat) (p:SetTable.Probe) (j:Nat) (d:Option Nat),(∀x,p.dummy=some x->∀i,t.slot x≠.live i)->SetTable.probe.go t f h n p=some (.empty j d)->(∀i,t.slot j≠.live i)/\∀x,d=some x->∀i,t.slot x≠.live i
 | 0,p,j,d,_,e=>by cases e
 | n+1,p,j,d,hp,e=>by
  unfold SetTable.probe.go at e;cases hs:t.slot p.j with
  | empty =>
   rw[hs] at e;dsimp only at e;injection e with e;injection e with e1 e2;subst e1;subst e2;exact⟨fun i=>by (rw[hs];exact fun z=>nomatch z),hp⟩
  | dummy =>
   rw[hs] at e;dsimp only at e;refine kH n _ j d (fun x hx=>?_) e;have:some p.j=some x:=by
    rw[<- hx];unfold SetTable.advance;split <;> rfl
   rw[<- Option.some.inj this];exact fun i=>by rw[hs];exact fun z=>nomatch z
  | live i =>
   rw[hs] at e;dsimp only at e;split at e
   ·injection e with e
    cases e
   ·refine kH n _ j d (fun x hx=>?_) e;refine hp x ?_;rw[<- hx];unfold SetTable.advance;split <;> rfl
theorem p7 {t:qFx}{h:Int}{j:Nat}{b:Bool} (e:t.freeSlot h=some (j,b)):t.place[SetTable.below t.place j]?≠some j:=by
 unfold SetTable.freeSlot at e;split at e
 ·rename_i j' d hm;injection e with e;injection e with e1 e2;subst e1;obtain⟨a1,a2⟩:=kH _ _ _ _ (fun x hx=>by cases hx) hm;refine AW fun i=>?_;cases d with
  | none=>exact a1 i
  | some x=>exact a2 x rfl i
 ·cases e
theorem p8 {t:qFx}{n:Nat} (h:sI t.place):sI (t.orStandIn n).place:=by
 unfold SetTable.orStandIn;split
 ·exact h
 ·exact jQ n
theorem uO (t:qFx) (n:Nat):(t.orStandIn n).led=t.led:=by
 unfold SetTable.orStandIn;split <;> rfl
theorem xE {t:qFx}{es:Array (Int×qAf)}{h:Int}{x:qAf} (hr:sI t.place):sI (layNew t es h x).2.1.place/\(layNew t es h x).2.1.led=t.led:=by
 unfold layNew;split
 ·rename_i j b e;exact⟨p8 (xD hr (p7 e)),uO _ _⟩
 ·exact⟨jQ _,rfl⟩
theorem Cw {mask finger moves:Nat}{led plain:Bool}{hs:Array Int}{t':qFx}{order:Array Nat} (e:SetTable.laid mask finger moves led plain hs=some (t',order)):sI t'.place/\t'.led=led:=by
 unfold SetTable.laid at e;cases hl:SetTable.layClean mask hs with
 | none=>rw[hl] at e;cases e
 | some owner =>
  rw[hl] at e;have e:=Option.some.inj e;injection e with e1 e2;subst e1;refine⟨AV ?_,rfl⟩;rw[qJd];refine List.Pairwise.filterMap (R:=(· < ·)) _ (fun a a' haa b hb b' hb'=>?_) qHz;rw[Option.map_map] at hb hb';cases ho:owner.getD a none with
  | none=>rw[ho] at hb;cases hb
  | some z =>
   cases ho':owner.getD a' none with
   | none=>rw[ho'] at hb';cases hb'
   | some z' =>
    rw[ho] at hb;rw[ho'] at hb';have:=Option.some.inj hb;have:=Option.some.inj hb';simp only[Function.comp] at *;lia
theorem AX {t:qFx}{es:Array (Int×qAf)}{n:Nat}:sI (qKe t es n).2.1.place/\(qKe t es n).2.1.led=t.led:=by
 unfold qKe;split
 ·rename_i t' order e;dsimp only;split
  ·exact Cw e
  ·exact⟨jQ _,rfl⟩
 ·exact⟨jQ _,rfl⟩
end ST
end L2
namespace L2
namespace ST
open PySem PySem.Spec PyProof.Rows
def iv:qAf->Int
 | .int n _=>n
 | _=>0
def eQ (P:qBm) (w:qCy) (h:Heap) (a:Addr) (σ:List Int):Prop :=
 ∃o es ep t,h.get? a=some o/\o.ExactSet/\o.data = .set es ep t/\qNh (qGa P w) es.toList/\(es.toList.map fun e=>iv e.2).Perm σ/\es.size<qFt/\t.fits es.size=true/\sI t.place/\t.led = !w.params.followText "set-order"
theorem Gr {P:qBm}{w:qCy}{k:Int}{v:qAf} (h:(qGa P w).is k v=true):iv v=k:=by
 obtain⟨t,rfl⟩:=Value.isInt_shape (k:=k) (v:=v) h;rfl
theorem eQ.at' {P:qBm}{w:qCy}{h h':Heap}{a:Addr}{σ:List Int} (x:eQ P w h a σ) (e:∀o,h.get? a=some o->h'.get? a=some o):eQ P w h' a σ:=by
 obtain⟨o,es,ep,t,ho,r⟩:=x;exact⟨o,es,ep,t,e _ ho,r⟩
section
variable {prog:qBm}{w:qCy}{A:qCt}{E:qAf->qAi->Prop}{s:qAi}
theorem mZ {h:Heap}{a:Addr}{o:Obj}{es:Array (Int×qAf)}{ep:Nat}{t:qFx} (ho:h.get? a=some o) (hex:o.ExactSet) (hd:o.data = .set es ep t)
  {es':Array (Int×qAf)}{t':qFx}{σ:List Int} (hel:qNh (qGa prog w) es'.toList) (hmem:(es'.toList.map fun e=>iv e.2).Perm σ) (hb:es'.size<qFt) (hf:t'.fits es'.size=true) (hr:sI t'.place) (hl:t'.led = !w.params.followText "set-order") :
  (h.update a (Obj.putSet es' t')).get? a=some { o with data:=.set es' (ep+1) t' }/\eQ prog w (h.update a (Obj.putSet es' t')) a σ:=by
 have hg:(h.update a (Obj.putSet es' t')).get? a=some { o with data:=.set es' (ep+1) t' }:=by
  have:=qDe (Obj.putSet es' t') ho (by rw[putSet_of es' t' hd];rfl);rw[putSet_of es' t' hd] at this;exact this
 exact⟨hg,_,es',ep+1,t',hg,hex,rfl,hel,hmem,hb,hf,hr,hl⟩
theorem y8 {g:Bool->Sem Unit} (hg:∀(b:Bool) (s₁:qAi) (Q':Unit->qAi->Prop),Q' () s₁->qBg (qBz prog w) A (g b) Q' E s₁)
  {a:Addr}{o:Obj}{es:Array (Int×qAf)}{ep:Nat}{t:qFx} (ho:s.heap.get? a=some o) (hex:o.ExactSet) (hd:o.data = .set es ep t)
  {es1:Array (Int×qAf)}{t2:qFx}{σ:List Int} (hel1:qNh (qGa prog w) es1.toList) (hmem1:(es1.toList.map fun e=>iv e.2).Perm σ)
  (hb1:es1.size<qFt) (hf2:t2.fits es1.size=true) (hr2:sI t2.place) (hl2:t2.led = !w.params.followText "set-order"){wasDummy:Bool}{R:Option Bool->qAi->Prop}
  (h:∀h',qFc a s.heap h'->eQ prog w h' a σ->R (some true) { s with heap:=h' }) :
  qBg (qBz prog w) A (do
    storeSet a es1 t2
    if (!wasDummy&&t2.tooFull)=true then do
      g (qKe t2 es1 (SetTable.grown es1.size)).2.2
      storeSet a (qKe t2 es1 (SetTable.grown es1.size)).1 (qKe t2 es1 (SetTable.grown es1.size)).2.1
      pure (some true)
     else pure (some true)) R E s:=by
 refine qAa (wpAny_storeSet_of ho hd ?_ (fits_of_scanBound hb1));obtain⟨ho1,hS1⟩:=mZ (prog:=prog) (w:=w) ho hex hd hel1 hmem1 hb1 hf2 hr2 hl2;have hsb1:=Heap.SameBut.update s.heap a (Obj.putSet es1 t2);split
 ·have hp:=relayAll_perm t2 es1 (SetTable.grown es1.size);have hfr:=relayAll_fits t2 es1 (SetTable.grown es1.size);obtain⟨hrr,hlr⟩:=AX (t:=t2) (es:=es1) (n:=SetTable.grown es1.size);generalize hRl:qKe t2 es1 (SetTable.grown es1.size)=Rl at hp hfr hrr hlr|-;obtain⟨es2,t3,gave2⟩:=Rl;dsimp only at hp hfr hrr hlr|-;have hel2:qNh (qGa prog w) es2.toList:=hel1.perm hp;have hmem2:(es2.toList.map fun e=>iv e.2).Perm σ:=(hp.map _).trans hmem1;have hsz:es2.size=es1.size:=by rw[<- qCb,hp.length_eq,qCb]
  have hb2:es2.size<qFt:=by rw[hsz];exact hb1
  refine qAa (hg _ _ _ ?_);refine qAa (wpAny_storeSet_of ho1 rfl ?_ (fits_of_scanBound hb2));obtain⟨_,hS2⟩:=mZ (prog:=prog) (w:=w) ho1 hex rfl hel2 hmem2 hb2 hfr hrr (hlr.trans hl2);exact qAe (h _ (hsb1.trans (Heap.SameBut.update _ a _)) hS2)
 ·exact qAe (h _ hsb1 hS1)
theorem Iy {a:Addr}{σ:List Int}{k:Int}{tk:Tok}{Q:Bool->qAi->Prop} (hS:eQ prog w s.heap a σ) (hroom:σ.length+1<qFt)
  (h:∀h' b,qFc a s.heap h'->eQ prog w h' a (qKw σ k)->Q b { s with heap:=h' }) :
  qBg (qBz prog w) A (setAddHashed a (.int k tk) (hashInt k)) Q E s:=by
 obtain⟨o,es,ep,t,ho,hex,hd,hel,hmem,hb,hf,hr,hl⟩:=id hS;have hkey:(qGa prog w).is k (.int k tk)=true:=intKind_is _ _ _ _;have hsc:(Value.int k tk).scannable=true:=rfl;have hn:es.size=σ.length:=by rw[<- hmem.length_eq,qAb,qCb]
 have hb1:es.size+1<qFt:=by rw[hn];exact hroom
 unfold setAddHashed setAddHashedIn;refine qDj (qAa (qFm ho hd hf ?_));dsimp only;rw[byScan_of hsc hb hel];simp only[↓reduceIte];unfold setAddByScan;refine qAa ?_;refine qAa (qGo ?_);refine qAa (wpAny_setScan_of (knd:=qGa prog w) hkey ho hd hf hel ?_);cases hr':List.findIdx? (fun e=>(qGa prog w).is k e.2) es.toList with
 | some j =>
  dsimp only;obtain⟨hj,hpj,_⟩:=List.findIdx?_eq_some_iff_getElem.mp hr';have hk:k∈σ:=hmem.mem_iff.mp (List.mem_map.mpr ⟨_,qDu hj,Gr hpj⟩);refine qAe (qAe ?_);have e:s={ s with heap:=s.heap }:=by cases s;rfl
  rw[e];refine h s.heap false (Heap.SameBut.refl a s.heap) ?_;unfold qKw;rw[if_pos (List.any_eq_true.mpr ⟨k,hk,by simp⟩)];exact hS
 | none =>
  dsimp only;have hk:k∉σ:=fun hk=>by
   obtain⟨e,he,q⟩:=List.mem_map.mp (hmem.mem_iff.mpr hk);have hno:=List.findIdx?_eq_none_iff.mp hr' e he;obtain⟨⟨k',hk',_⟩,_⟩:=hel e he;have:k'=k:=by rw[<- Gr hk',q]
   rw[this] at hk';rw[hk'] at hno;cases hno
  have hgw:∀(b:Bool){s₁:qAi}{Q':Unit->qAi->Prop},Q' () s₁->qBg (qBz prog w) A (match b with | true=>rule "set.scan.the-table-gave-way" | false=>pure ()) Q' E s₁ :=
   fun b s₁ Q' hq=>by cases b <;> first | exact qAe hq | exact qGo hq
  have hperm:=layNew_perm t es ((qGa prog w).hash k) (.int k tk);have hfits:=layNew_fits t es ((qGa prog w).hash k) (.int k tk);obtain⟨hris,hled⟩:=xE (es:=es) (h:=(qGa prog w).hash k) (x:=.int k tk) hr;rw[show hashInt k=(qGa prog w).hash k from rfl];generalize hL:layNew t es ((qGa prog w).hash k) (.int k tk)=L at hperm hfits hris hled|-;obtain⟨es1,t1,wasDummy,gave⟩:=L;dsimp only at hperm hfits hris hled|-;rw[qNd] at hperm;have hel1:qNh (qGa prog w) es1.toList:=(hel.push hkey hsc).perm hperm;have hmem1:(es1.toList.map fun e=>iv e.2).Perm (qKw σ k):=by
   unfold qKw;rw[if_neg (fun z=>by
    obtain⟨x,hx,e⟩:=List.any_eq_true.mp z;rw[eq_of_beq e] at hx;exact hk hx)]
   refine(hperm.map _).trans ?_;rw[qAr];exact hmem.append_right _
  have hb1':es1.size<qFt:=by rw[<- qCb,hperm.length_eq,qAm,qCb];simpa using hb1
  refine qAa (hgw _ ?_);split
  ·refine qAa ?_;rw[hashByValue_scannable 8 hsc];refine qAe ?_;refine y8 ?_ ho hex hd hel1 hmem1 hb1' ?_ ?_ ?_ ?_
   ·intro b s₁ Q' hq;cases b <;> first | exact qAe hq | exact qGo hq
   ·split
    ·exact hfits
    ·exact SetTable.fits_plain_off hfits
   ·split
    ·exact hris
    ·exact hris
   ·split
    ·exact hled.trans hl
    ·exact hled.trans hl
   ·intro h' hsb hS';dsimp only;exact qAe (h h' true hsb hS')
  ·refine qAa (qAe ?_);simp only[↓reduceIte];refine y8 ?_ ho hex hd hel1 hmem1 hb1' hfits hris (hled.trans hl) ?_
   ·intro b s₁ Q' hq;cases b <;> first | exact qAe hq | exact qGo hq
   ·intro h' hsb hS';dsimp only;exact qAe (h h' true hsb hS')
end
section
variable {prog:qBm}{w:qCy}{A:qCt}{R:qPa->qAi->Prop}{I:Addr}{fp wr:List Addr}{G:Array qPb->Array qPb->Prop}{n:Nat}{P:Nat->qAf->Prop}{St:Nat->qAi->Prop}
theorem uP (W:WalksS prog w A.in1 I fp wr G n P St) (S:Addr) (hSf:S∉fp)
  (val:Nat->Int) (hval:∀i v,P i v->∃t,v = .int (val i) t) (hb:n+1<qFt) :
  ∀(k i:Nat) (s:qAi),n-i=k->i<=n->St i s ->
   eQ prog w s.heap S (qIp val i) ->
   (∀s',Moved (S::wr) G s s'->eQ prog w s'.heap S (qIp val n)->R (.ok (.ret .none)) s') ->
   qHn (qBz prog w) A (.builtin "set.update.loop" ⟨[.ref S,.ref I],[]⟩) R s:=by
 have hSw:S∉wr:=fun h=>hSf (W.sub _ h);have hsub:∀b∈wr,b∈S::wr:=fun b hb=>qBx _ hb;intro k;induction k with
 | zero =>
  intro i s hk hi hst hS hR;have hin:i=n:=by lia
  subst hin;refine qFi PyProof.Rows.F.entry_set_update_loop ?_;rw[Around.under_plainId PyProof.Rows.F.plain_set_update_loop _];show qBg _ A.in1 (qIz (.ref I) >>= _) _ _ s;refine qAa (W.done s _ _ hst fun s' hm=>?_);show qBg _ A.in1 (ret Value.none) _ _ s';exact qAe (hR s' (hm.mono hsub) (hS.at' fun o e=>hm.heap S _ hSw e))
 | succ k ih =>
  intro i s hk hi hst hS hR;have hlt:i<n:=by lia
  refine qFi PyProof.Rows.F.entry_set_update_loop ?_;rw[Around.under_plainId PyProof.Rows.F.plain_set_update_loop _];show qBg _ A.in1 (qIz (.ref I) >>= _) _ _ s;refine qAa (W.item i s _ _ hlt hst fun v s' hP hst' hm=>?_);obtain⟨t,rfl⟩:=hval i v hP;have hS':eQ prog w s'.heap S (qIp val i):=hS.at' fun o e=>hm.heap S _ hSw e;show qBg _ A.in1 (qLo [Value.int (val i) t] (setAdd S (.int (val i) t)) >>= _) _ _ s';refine qAa (qDj ?_);unfold setAdd;refine qDj ?_;refine qAa ((qGa prog w).pyHash (k:=val i) (intKind_is _ _ _ _) ?_);have hroom:(qIp val i).length+1<qFt:=by have:=firstMet_length_le val i;lia
  refine Iy (s:={ s' with toks:=s'.toks+1 }) hS' hroom fun h' b hsb hS2=>?_;have hSi:eQ prog w h' S (qIp val (i+1)):=by rw[firstMet_succ];exact hS2
  refine qAe ⟨qIl PyProof.Rows.F.plain_set_update_loop _,ih (i+1) _ (by lia) hlt (W.frame _ s' _ _ hst' (qFd _) fun b hb o e=>?_) hSi fun s'' hm'' hS''=>?_⟩
  ·rw[hsb.2 b (fun h:b=S=>hSf (by rw[<- h];exact hb))];exact e
  ·refine hR s'' (Moved.trans W.gtrans ((hm.mono hsub).then_heap (qFd _) fun b o hb e=>?_) hm'') hS'';rw[hsb.2 b (fun h:b=S=>hb (by rw[h];exact qCi))];exact e
end
end ST
end L2
namespace PySem
namespace ST
open L2.ST
section
variable {prog:qBm}{w:qCy}{A:qCt}{E:qAf->qAi->Prop}{s:qAi}
def dD (w:qCy):Obj:={ cls:=.type "set",dict:=none,data:=.set #[] 0 (.fresh 0 0 (!w.params.followText "set-order")) }
theorem Cy {h:Heap}{a:Addr} (e:h.get? a=some (dD w)):eQ prog w h a [] :=
 ⟨dD w,#[],0,_,e,⟨rfl,rfl,rfl⟩,rfl,fun e he=>by simp at he,List.Perm.refl _,by decide,by rfl,L2.ST.EX,rfl⟩
theorem nG (a:qAf){Q₁:qAf->qAi->Prop}
  (h:Q₁ (.ref s.heap.objs.size) { s with heap:=s.heap.push (dD w) }) :
  qHn (qBz prog w) A (.call (.builtin "set.__new__") ⟨[.type "set",a],[]⟩) (wants Q₁ E) s:=by
 refine codeAny_of_tree ?_;show qBg _ A.in1 (do checkBuiltinCall "set.__new__" ⟨[.type "set",a],[]⟩;qNg (.builtin "set.__new__" ⟨[.type "set",a],[]⟩)) _ _ s;refine qAa (qGp (F.newCall_set_1 a) (qAe ⟨qIl F.plain_set_new _,qFi F.entry_set_new ?_⟩));rw[Around.under_plainId F.plain_set_new _];unfold Builtin.«set.__new__» Builtin.Frozenset.newClass;have hsub:=sub_set_self;obtain⟨hp,g,d,tk,os⟩:=s;dsimp only;wp_walk;refine qFv (qAe ?_);dsimp only;simp only[newObj];refine qAa (wpAny_alloc (qAe ?_));exact qAe h
set_option maxHeartbeats 3200000 in
theorem uQ {l:Addr}{items:Array qAf}{ns:List Int}{Q:qAf->qAi->Prop}
  (hh:A.handled=none) (hl:s.heap.IsList l items) (hi:qPk items.toList ns) (hb:items.size+1<qFt)
  (h:∀(h':Heap) (tk:Nat),eQ prog w h' s.heap.objs.size (qJr (fun i=>ns.getD i 0) items.size) ->
   (∀b o,b<s.heap.objs.size->s.heap.get? b=some o->h'.get? b=some o)->Q (.ref s.heap.objs.size) { s with heap:=h',toks:=tk }) :
  qBg (qBz prog w) A (call (.type "set") [.ref l]) Q E s:=by
 obtain⟨c,tl,hmro⟩:=F.called_set.mro;have hmade:=F.called_set.made;have hsub:=F.called_set.sub;refine qJg (codeAny_of_tree ?_);show qBg _ _ (callAny (.type "set") _) _ _ _;refine qAe ⟨Code.quiet_builtin _ (by decide +kernel),qFi F.entry_type_call ?_⟩;rw[Around.under_plain (weight_type_call_type "set" [.ref l] []) rfl];have h1:=F.called_set.notType;have h2:=F.called_set.canCreate;have hct:=F.typeCall_set_1 (.ref l);repeat (any_goals (first | assumption | wp_step))
 refine qGc (nG (.ref l) (E:=E) (Q₁:=fun obj s₁=>obj = .ref s.heap.objs.size/\s₁={ s with heap:=s.heap.push (dD w) }) ⟨rfl,rfl⟩) fun r s₁ hr=>?_;cases r with
 | error e=>exact hr
 | ok fl =>
  cases fl with
  | ret obj =>
   obtain⟨rfl,rfl⟩:=hr;have hS:(s.heap.push (dD w)).get? s.heap.objs.size=some (dD w):=qAt _ rfl;have hT:Shared.TypeIs { s with heap:=s.heap.push (dD w) } (.ref s.heap.objs.size) "set":=⟨_,hS,rfl⟩;have hli:=F.called_set.init.lookup;have hbi:=F.called_set.init.bind (.ref s.heap.objs.size);repeat (any_goals (first | assumption | wp_step))
   refine qGc (codeAny_call_builtin (R:=wants (fun r s₂=>r = .none/\∃h' tk,s₂={ s with heap:=h',toks:=tk } /\
     eQ prog w h' s.heap.objs.size (qJr (fun i=>ns.getD i 0) items.size) /\
     (∀b o,b<s.heap.objs.size->s.heap.get? b=some o->h'.get? b=some o)) E) F.called_set.init.plain F.entry_set_init (check_set_init_1 hT ?_)) fun r₂ s₂ hr₂=>?_
   ·obtain⟨ol,hol,hcl,nl,hdl⟩:=hl;obtain⟨ocls,odict,odata,oslots⟩:=ol;simp only at hcl hdl;subst hcl;subst hdl;have hol':(s.heap.push (dD w)).get? l=some { cls:=.type "list",dict:=odict,data:=.seq items nl,slots:=oslots }:=qAj _ hol;have hsls:=F.sub_list_set;have hslf:=F.sub_list_frozenset;have hne:(Value.type "list" == Value.type "dict")=false:=by decide
    have hl1:(s.heap.push (dD w)).IsList l items:=⟨_,hol',rfl,nl,rfl⟩;unfold Builtin.«set.__init__» noKeywords Builtin.Frozenset.updateFrom;generalize hPI:qMs=PI;wp_walk;subst hPI;refine qIa hl1 ?_;refine qAa (wpAny_runValue ?_);have hlS:l<s.heap.objs.size:=qAs hol;have hh3:A.in1.in1.in1.handled=none:=by simp[hh]
    have hneI:l≠(s.heap.push (dD w)).objs.size:=by
     rw[qDg];exact qBf (qHs hlS)
    have hSf:s.heap.objs.size∉[(s.heap.push (dD w)).objs.size,l]:=by
     rw[qDg];simp only[qEc,qHf,qDc,or_false,not_or];exact⟨qBf (qGn _),qGl hlS⟩
    have hval:∀(i:Nat) (v:qAf),items[i]?=some v->∃t,v = .int ((fun i=>ns.getD i 0) i) t:=fun i v hv =>
     PyProof.Rows.IntsAre.int_at hi i v (by rw[qDd];exact hv)
    refine L2.ST.uP ((Walks.list hh3 _ l hneI items).toS) s.heap.objs.size
     hSf (fun i=>ns.getD i 0) hval hb (items.size-0) 0 _ (by lia) (qBq _)
     ⟨⟨_,qAt _ rfl,rfl,rfl⟩,(hl1.push _)⟩ ?hS0 ?hR
    case hS0=>exact Cy (qAj _ hS)
    case hR =>
     intro s' hm hS';obtain⟨h',g',d',tk',os'⟩:=s';have eg:g'=s.gens:=hm.gens;have ed:d'=s.drawn:=hm.drawn;have eo:os'=s.os:=hm.os;subst eg;subst ed;subst eo;show qBg _ _ _ _ _ _;refine qAe ?_;show qBg _ _ (ret Value.none) _ _ _;refine qAe ⟨rfl,h',tk',rfl,hS',fun b o hb e=>?_⟩;have hb1:b≠s.heap.objs.size:=qBf hb;have hb2:b≠(s.heap.push (dD w)).objs.size:=by
      rw[qDg];exact qBf (qHs hb)
     exact hm.heap b o (by simp only[qEc,qHf,qDc,or_false,not_or];exact⟨hb1,hb2⟩) (qAj _ (qAj _ e))
   ·cases r₂ with
    | error e=>exact hr₂
    | ok fl₂ =>
     cases fl₂ with
     | ret r =>
      obtain⟨rfl,h',tk,rfl,hS',hk'⟩:=hr₂;repeat (any_goals (first | assumption | wp_step))
      exact h _ _ hS' hk'
     | next=>exact hr₂.elim
     | brk=>exact hr₂.elim
     | cont=>exact hr₂.elim
  | next=>exact hr.elim
  | brk=>exact hr.elim
  | cont=>exact hr.elim
end
end ST
end PySem
namespace PySem
namespace ST
open L2.ST
theorem cU:Slot "set_iterator" "__next__" "set_iterator.__next__" :=
 .of (owner:="set_iterator") (n:="__next__") (by rw[typeLookup_type,builtinLookup_eq_fast];kernel_rfl) (by decide +kernel) (by decide +kernel) (by decide +kernel)
  (by first|exact .inl (by decide +kernel) | exact .inr (by decide +kernel)) (by rw[isSubtype_type];kernel_rfl)
theorem j8:entryFor table "set_iterator.__next__"=some Builtin.«set_iterator.__next__»:=entryFor_of_tree (by kernel_rfl)
theorem uR:Manifest.owners.lookup (String.ofList ['r','o','t','a','r','e','t','i','_','t','e','s'].reverse)=some Manifest.sig_set_iterator:=by kernel_rfl
theorem lB (a:qAf):argsOk "set_iterator.__next__" ⟨[a],[]⟩:=by
 unfold argsOk;rw[signature?_of (id:="set_iterator.__next__") (n:=['_','_','t','x','e','n','_','_']) (o:=['r','o','t','a','r','e','t','i','_','t','e','s']) (by kernel_rfl) uR];kernel_rfl
theorem oQ:entryFor table "set.__iter__"=some Builtin.«frozenset.__iter__» :=
 entryFor_alias (id':="frozenset.__iter__") (by kernel_rfl) rfl (by decide +kernel) (by kernel_rfl)
def j9 (first:qAf) (i:Nat) (S:Addr) (n ep:Nat):Obj:={ cls:=.type "set_iterator",dict:=none,data:=.fields #[first,.int i 0,.ref S,.int n 0,.int ep 0],slots:=#[] }
section
variable {prog:qBm}{w:qCy}{A:qCt}{E:qAf->qAi->Prop}{s:qAi}{I S:Addr}{o:Obj}{es:Array (Int×qAf)}{ep:Nat}{t:qFx}
theorem kI {α:Type}:∀(l:List α) (k:Nat) (h:k<l.length),(l[k]::l.eraseIdx k).Perm l
 | [],k,h=>by cases h
 | x::xs,0,h=>List.Perm.refl _
 | x::xs,k+1,h=>(List.Perm.swap _ _ _).trans ((kI xs k (by simpa using h)).cons x)
theorem xF {src:Source}{n:Nat}{Q:Nat->qAi->Prop} (hn:n≠0) (h:∀k d,k<n->Q k { s with drawn:=d }):qBg (qBz prog w) A (choose src n) Q E s:=by
 intro Γ p hΓ;exact⟨hn,h _ _ (qNr _ (qNj hn))⟩
theorem kB {α:Type}:∀(n:Nat) (xs:List α) (s:qAi){Q:List α->qAi->Prop},xs.length=n->(∀ys d,ys.Perm xs->Q ys { s with drawn:=d })->qBg (qBz prog w) A (drawOrder n xs) Q E s
 | 0,xs,s,Q,hl,h=>by
  obtain rfl:xs=[]:=List.length_eq_zero_iff.mp hl;unfold drawOrder;refine qAe ?_;have:=h [] s.drawn (List.Perm.refl _);cases s;exact this
 | n+1,[],s,Q,hl,h=>by cases hl
 | n+1,x::xs,s,Q,hl,h=>by
  unfold drawOrder;refine qAa (xF (by simp) fun k d hk=>?_);rw[qAd hk];dsimp only;refine qAa (kB n _ _ ?_ fun ys d' hp=>?_)
  ·rw[qKt hk];simpa using hl
  ·refine qAe (h _ d' ?_);exact(hp.cons _).trans (kI _ _ hk)
theorem xG {Q:qAf->qAi->Prop} (ho:s.heap.get? S=some o) (hex:o.ExactSet) (hd:o.data = .set es ep t) (hf:t.fits es.size=true) (hz:es.size<qFt)
  (h1:(w.params.followText "set-order"=true\/(w.params.followText "set-order"=false/\((!t.plain&&decide (es.size>1))=false)))->Q (.ref s.heap.objs.size) { s with heap:=s.heap.push (j9 (.int 0 0) 0 S es.size ep) })
  (h2:w.params.followText "set-order"=false->∀(ys:List Nat) d,ys.Perm (qAn es.size)->Q (.ref (s.heap.objs.size+1)) { s with heap:=(s.heap.push { cls:=.type "tuple",data:=.seq (ys.map fun(i:Nat)=>Value.int i 0).toArray }).push (j9 (.ref s.heap.objs.size) 0 S es.size ep),drawn:=d }) :
  qBg (qBz prog w) A (qMs (.ref S)) Q E s:=by
 have hT:s.TypeIs (.ref S) "set":=⟨o,ho,hex.1⟩;refine wpAny_pyIter_slot hT F.slot_set_iter (qEb F.slot_set_iter hT oQ ?_ (F.args_set_iter_1 _));unfold Builtin.«frozenset.__iter__» Builtin.Frozenset.slot0 slotArgs;simp only[List.isEmpty_nil,qOw,qFu,↓reduceIte,bind_assoc,qKo,bne_self_eq_false];unfold Builtin.Frozenset.addrOf Builtin.Frozenset.sizeOf;refine qAa (qAe ?_);try dsimp only
 refine qAa (qAe ?_);refine qAa (qAa (wpAny_setEntries_of ho hd hf (qAe ?_)));unfold setDrawn;refine qAa ?_;refine qAa (qFm ho hd hf ?_);dsimp only;unfold qMr;refine qAa (qAa (qFv (qAe ?_)));refine qAe ?_;show qBg _ _ (if ((!w.params.followText "set-order")&&(!t.plain&&decide (es.size>1)))=true then _ else _) _ _ s;cases hT1:w.params.followText "set-order" with
 | true =>
  rw[if_neg (by simp)];refine qAa (qAe ?_);refine qAa (wpAny_setEpoch_of ho hd hf ?_);refine qAa ?_;unfold newFields;refine qCj (qAe ⟨_,rfl,"set_iterator",_,⟨_,qAt _ rfl,rfl⟩,cU.lookup,h1 (.inl hT1)⟩)
 | false =>
  cases hD:(!t.plain&&decide (es.size>1)) with
  | false =>
   rw[if_neg (by simp)];refine qAa (qAe ?_);refine qAa (wpAny_setEpoch_of ho hd hf ?_);refine qAa ?_;unfold newFields;refine qCj (qAe ⟨_,rfl,"set_iterator",_,⟨_,qAt _ rfl,rfl⟩,cU.lookup,h1 (.inr ⟨hT1,hD⟩)⟩)
  | true =>
   rw[if_pos (by simp)];refine qAa (kB es.size _ s (qAu) fun ys d hp=>?_);refine qAa (wpAny_newTuple ?_ (by rw[qAb,hp.length_eq,qAu];exact fits_of_scanBound hz));have ho1:(s.heap.push { cls:=.type "tuple",data:=.seq (ys.map fun(i:Nat)=>Value.int i 0).toArray }).get? S=some o:=qAj _ ho;refine qAa (wpAny_setEpoch_of ho1 hd hf ?_);refine qAa ?_;unfold newFields;refine qCj (qAe ⟨_,rfl,"set_iterator",_,⟨_,qAt _ rfl,rfl⟩,cU.lookup,?_⟩);have:=h2 hT1 ys d hp;rw[show s.heap.objs.size+1=(s.heap.push { cls:=.type "tuple",data:=.seq (ys.map fun(i:Nat)=>Value.int i 0).toArray }).objs.size by rw[qDg]] at this;exact this
theorem qO {first:qAf}{i n:Nat}{Q:Option qAf->qAi->Prop}{s1:qAi} (hh:A.handled=none) (hit:s1.heap.get? I=some (j9 first i S n ep)) (hQ:∀h',qKq I s1.heap h'->Q none { s1 with heap:=h' }) :
  qBg (qBz prog w) A.in1 (do setField (Value.ref I) 2 Value.none;let e <- qPx (Value.type "StopIteration") [];raiseNew e)
   (fun(fin:Fin) s'=>∃v,fin=Fin.done (Flow.ret v)/\qBg (qBz prog w) A (pure (some v)) Q E s')
   (fun e s'=>qBg (qBz prog w) A (do let b <- isInstance e (Value.type "StopIteration");if b=true then pure none else throw e) Q E s') s1:=by
 refine qAa (qFs hit rfl (by simp) ?_);show qBg _ _ (qPx (.type "StopIteration") [] >>= _) _ _ _;refine qAa ?_;simp only[qPx,newTuple];refine qAa (qCj ?_ (by size_fits));refine qAa (m:=qJl _ _) (qGp (a:=Value.none) (by first | rfl | (simp only[qJl];rfl)) ?_)
 refine qCj ?_ (by size_fits);simp only[raiseNew];refine qAa (wpAny_handled ?_);rw[show A.in1.handled=none from hh];refine qAa (qAe (wpAny_throw ?_));refine qAa (wpAny_isInstance (T:="StopIteration") (b:=true) ⟨_,qAt _ rfl,rfl⟩ isSubtype_stop ?_);exact qAe (hQ _ (((Heap.SameBut.update ..).extBut.push _).push _))
theorem uS {i n slot:Nat}{Q:Option qAf->qAi->Prop} (hh:A.handled=none) (hit:s.heap.get? I=some (j9 (.int slot 0) i S n ep)) (ho:s.heap.get? S=some o) (hd:o.data = .set es ep t) (hf:t.fits es.size=true) (hn:es.size=n)
  (h:qBg (qBz prog w) A.in1 (qNe S slot i ep) (fun r s1=>s1=s/\match r with
   | some (x,nx)=>∀h',h'.get? I=some (j9 (.int nx 0) (i+1) S n ep)->qFc I s.heap h'->Q (some x) { s with heap:=h' }
   | none=>∀h',qKq I s.heap h'->Q none { s with heap:=h' }) (fun _ _=>False) s) :
  qBg (qBz prog w) A (qIz (.ref I)) Q E s:=by
 have hT:s.TypeIs (.ref I) "set_iterator":=⟨_,hit,rfl⟩;unfold qIz;refine qAa (qHh (qEl (name:=Str.ofString "__next__") hT cU
  (qEb cU hT j8 ?_ (lB _))))
 unfold Builtin.«set_iterator.__next__»;refine qAa (qAe ?_);refine qAa (qJj hit rfl ?_);dsimp only;refine qAa (wpAny_setEntries_of ho hd hf ?_);rw[if_neg (by rw[hn];simp),qBb,qBb,qBb];refine qAa (qHk h (fun r s1 hr=>?_) fun _ _ z=>z.elim);obtain⟨rfl,hr⟩:=hr;match r,hr with
 | none,hr =>
  dsimp only at hr|-;exact qO hh hit hr
 | some (x,nx),hr =>
  dsimp only at hr|-;refine qAa (qFs hit rfl (by simp) ?_);have e1:=qDe (Obj.mapFields (·.setIfInBounds 0 (qJk (nx:Int)))) hit rfl;refine qAa (qFs e1 rfl (by simp) ?_);have e2:=qDe (Obj.mapFields (·.setIfInBounds 1 (qJk ((i:Int)+1)))) e1 rfl;refine qAe ⟨_,rfl,qAe (hr _ ?_ ((Heap.SameBut.update ..).trans (Heap.SameBut.update ..)))⟩;rw[e2];rfl
theorem uT {i n:Nat}{T:Addr}{ys:List Nat}{Q:Option qAf->qAi->Prop} (hh:A.handled=none) (hit:s.heap.get? I=some (j9 (.ref T) i S n ep)) (ho:s.heap.get? S=some o) (hd:o.data = .set es ep t) (hf:t.fits es.size=true) (hn:es.size=n)
  (hT:s.heap.get? T=some { cls:=.type "tuple",data:=.seq (ys.map fun(i:Nat)=>Value.int i 0).toArray }) (hp:ys.Perm (qAn n))
  (h1:∀k e,ys[i]?=some k->es[k]?=some e->∀h',h'.get? I=some (j9 (.ref T) (i+1) S n ep)->qFc I s.heap h'->Q (some e.2) { s with heap:=h' })
  (h2:ys[i]?=none->∀h',qKq I s.heap h'->Q none { s with heap:=h' }) :
  qBg (qBz prog w) A (qIz (.ref I)) Q E s:=by
 have hTy:s.TypeIs (.ref I) "set_iterator":=⟨_,hit,rfl⟩;unfold qIz;refine qAa (qHh (qEl (name:=Str.ofString "__next__") hTy cU
  (qEb cU hTy j8 ?_ (lB _))))
 unfold Builtin.«set_iterator.__next__»;refine qAa (qAe ?_);refine qAa (qJj hit rfl ?_);dsimp only;refine qAa (wpAny_setEntries_of ho hd hf ?_);rw[if_neg (by rw[hn];simp)];refine qAa (wpAny_seqItems hT rfl ?_);dsimp only;rw[qBb,qLu,qAo];cases hy:ys[i]? with
 | none =>
  dsimp only[qPd];refine qAa (qFs hit rfl (by simp) ?_);have e1:=qDe (Obj.mapFields (·.setIfInBounds 0 (qJk 0))) hit rfl;refine qO (first:=qJk 0) (i:=i) (S:=S) (n:=n) (ep:=ep) hh (by rw[e1];rfl) fun h' hx=>h2 hy h' fun b o hb e=>hx b o hb ?_;exact(qDx _ _ (Ne.symm hb)).trans e
 | some k =>
  dsimp only[qPd];have hk:k<es.size:=by
   rw[hn];exact List.mem_range.mp (hp.mem_iff.mp (qAy hy))
  refine qAa ?_;unfold setNextDrawn;rw[qBb,qBb];refine qAa (qFm ho hd hf ?_);dsimp only;rw[if_neg (by simp)];rw[qBn hk];dsimp only;refine qAe ?_;refine qAa (qFs hit rfl (by simp) ?_);have e1:=qDe (Obj.mapFields (·.setIfInBounds 1 (qJk ((i:Int)+1)))) hit rfl;refine qAe ⟨_,rfl,qAe (h1 k _ hy (qBn hk) _ ?_ (Heap.SameBut.update ..))⟩;rw[e1];rfl
theorem qP {α:Type} (next:Nat->Nat):∀(f k:Nat) (left:List α) (out:Array α),left.length=f->(pickOrder.go next f k left out).toList.Perm (out.toList++left)
 | 0,k,left,out,hl=>by
  obtain rfl:left=[]:=List.length_eq_zero_iff.mp hl;unfold pickOrder.go;simp
 | f+1,k,left,out,hl=>by
  unfold pickOrder.go;have hk:next k%left.length<left.length:=qNr _ (by lia);rw[qAd hk];dsimp only;refine(qP next f (k+1) _ _ (by rw[qKt hk];lia)).trans ?_;rw[qNd,qHr];exact(List.Perm.refl _).append (kI left _ hk)
theorem y9 {α:Type} (next:Nat->Nat) (xs:Array α):(qKf next xs).toList.Perm xs.toList:=by
 unfold qKf;simpa using qP next xs.size 0 xs.toList #[] (by simp)
theorem sJ {slot i:Nat}{Q:Option (qAf×Nat)->qAi->Prop} (hB:w.params.followText "set-order"=true) (ho:s.heap.get? S=some o) (hd:o.data = .set es ep t) (hf:t.fits es.size=true)
  (h:Q (((qKf (w.params.setOrder S ep) es)[i]?).map fun e=>(e.2,slot)) s):qBg (qBz prog w) A (qNe S slot i ep) Q E s:=by
 unfold qNe;refine qAa (qFm ho hd hf ?_);dsimp only;unfold qMr;refine qAa (qAa (qFv (qAe ?_)));show qBg _ _ (if w.params.followText "set-order"=true then _ else _) _ _ s;rw[hB,if_pos rfl,if_neg (by simp)];refine qAa ?_;unfold setWalk;refine qAa (qFm ho hd hf ?_);dsimp only;unfold qMr;refine qAa (qAa (qFv (qAe ?_)));show qBg _ _ (if w.params.followText "set-order"=true then _ else _) _ _ s;rw[hB,if_pos rfl];refine qAa (qFv (qAe (qAe h)))
theorem uU {slot i:Nat}{Q:Option (qAf×Nat)->qAi->Prop} (hB:w.params.followText "set-order"=false) (hD:(!t.plain&&decide (es.size>1))=false) (hl:t.led=true) (ho:s.heap.get? S=some o) (hd:o.data = .set es ep t) (hf:t.fits es.size=true)
  (h:Q (match es[SetTable.below t.place slot]?,t.place[SetTable.below t.place slot]? with | some (_,x),some j=>some (x,j+1) | _,_=>none) s):qBg (qBz prog w) A (qNe S slot i ep) Q E s:=by
 unfold qNe;refine qAa (qFm ho hd hf ?_);dsimp only;unfold qMr;refine qAa (qAa (qFv (qAe ?_)));show qBg _ _ (if w.params.followText "set-order"=true then _ else if (!t.plain&&decide (es.size>1))=true then _ else _) _ _ s;rw[hB,if_neg (by simp),hD,if_neg (by simp)];refine qAa (m:=if (!t.led && !es.isEmpty)=true then unsupported "set:maker-not-led" else pure ()) ?_;rw[hl,if_neg (by simp)];refine qAe (qAe ?_);exact h
end
end ST
end PySem
namespace PySem
namespace ST
open L2.ST PyProof.Rows
theorem lC:Slot "set_iterator" "__iter__" "set_iterator.__iter__" :=
 .of (owner:="set_iterator") (n:="__iter__") (by rw[typeLookup_type,builtinLookup_eq_fast];kernel_rfl) (by decide +kernel) (by decide +kernel) (by decide +kernel)
  (by first|exact .inl (by decide +kernel) | exact .inr (by decide +kernel)) (by rw[isSubtype_type];kernel_rfl)
theorem p9:entryFor table "set_iterator.__iter__"=some Builtin.«dict_keyiterator.__iter__» :=
 entryFor_alias (id':="dict_keyiterator.__iter__") (by kernel_rfl) rfl (by decide +kernel) (by kernel_rfl)
theorem sM (a:qAf):argsOk "set_iterator.__iter__" ⟨[a],[]⟩:=by
 unfold argsOk;rw[signature?_of (id:="set_iterator.__iter__") (n:=['_','_','r','e','t','i','_','_']) (o:=['r','o','t','a','r','e','t','i','_','t','e','s']) (by kernel_rfl) uR];kernel_rfl
def Iz (p:Array Nat):Nat->Nat
 | 0=>0
 | j+1=>(p[j]?.getD 0)+1
theorem xH {p:Array Nat} (hr:sI p):∀{i:Nat},i<=p.size->SetTable.below p (Iz p i)=i
 | 0,_=>xC hr
 | j+1,h=>by
  have e:=qBn (xs:=p) (i:=j) (by lia);show SetTable.below p ((p[j]?.getD 0)+1)=j+1;rw[e];exact xB hr e
theorem zA:∀{vs:List qAf},(∀v∈vs,∃k t,v=Value.int k t)->qHy vs (vs.map iv)
 | [],_=>.nil
 | v::vs,h=>by
  obtain⟨k,t,rfl⟩:=h v (.head _);exact .cons k t (zA fun u hu=>h u (.tail _ hu))
section
variable {prog:qBm}{w:qCy}{A:qCt}{E:qAf->qAi->Prop}{s:qAi}{I S:Addr}{o:Obj}{es:Array (Int×qAf)}{ep:Nat}{t:qFx}
theorem qQ {first:qAf}{i n:Nat}{Q:qAf->qAi->Prop} (hit:s.heap.get? I=some (j9 first i S n ep)) (h:Q (.ref I) s):qBg (qBz prog w) A (qMs (.ref I)) Q E s:=by
 have hT:s.TypeIs (.ref I) "set_iterator":=⟨_,hit,rfl⟩;refine wpAny_pyIter_slot hT lC (qEb lC hT p9 ?_ (sM _));show qBg _ _ (ret (.ref I)) _ _ s;exact qAe ⟨_,rfl,"set_iterator",_,hT,cU.lookup,h⟩
theorem qR {n:Nat} (hh:A.handled=none) (hIS:I≠S) (hd:o.data = .set es ep t) (hf:t.fits es.size=true) (hn:es.size=n) (sl:Nat->Nat) (ord:List qAf) (hl:ord.length=n)
  (hstep:∀(s':qAi) (Q':Option (qAf×Nat)->qAi->Prop) (E':qAf->qAi->Prop) (i:Nat),s'.heap.get? S=some o->i<=n->Q' ((ord[i]?).map fun v=>(v,sl (i+1))) s'->qBg (qBz prog w) A.in1 (qNe S (sl i) i ep) Q' E' s') :
  Walks prog w A I [I,S] [I] n (fun i v=>ord[i]?=some v) (fun i h=>h.get? S=some o/\h.get? I=some (j9 (.int (sl i) 0) i S n ep)) where
 sub:=fun b hb=>by simp at hb;simp[hb]
 frame:=fun _ _ _ st hk=>⟨hk S (by simp) _ st.1,hk I (by simp) _ st.2⟩
 item:=fun i s Q E hi st hQ=>by
  have hx:ord[i]?=some ord[i]:=qAd (by lia);refine uS hh st.2 st.1 hd hf hn (hstep s _ _ i st.1 (by lia) ?_);rw[hx];refine⟨rfl,fun h' e1 e2=>?_⟩;exact hQ _ h' s.toks hx ⟨e2.extBut S _ (Ne.symm hIS) st.1,e1⟩ fun b o hb e=>e2.extBut b o (fun z=>hb (by simp[z])) e
 done:=fun s Q E st hQ=>by
  refine uS hh st.2 st.1 hd hf hn (hstep s _ _ n st.1 (qAg _) ?_);rw[qBa (by lia)];exact⟨rfl,fun h' e=>hQ h' s.toks fun b o hb e'=>e b o (fun z=>hb (by simp[z])) e'⟩
 self:=fun _ _ _ _ st hQ=>qQ st.2 hQ
theorem AY {n:Nat}{T:Addr}{ys:List Nat} (hh:A.handled=none) (hIS:I≠S) (hIT:I≠T) (hd:o.data = .set es ep t) (hf:t.fits es.size=true) (hn:es.size=n) (hp:ys.Perm (qAn n)) :
  Walks prog w A I [I,S,T] [I] n (fun i v=>(ys.map fun k=>(es[k]?.getD (0,.none)).2)[i]?=some v)
   (fun i h=>h.get? S=some o/\h.get? I=some (j9 (.ref T) i S n ep)/\h.get? T=some { cls:=.type "tuple",data:=.seq (ys.map fun(i:Nat)=>Value.int i 0).toArray }) where
 sub:=fun b hb=>by simp at hb;simp[hb]
 frame:=fun _ _ _ st hk=>⟨hk S (by simp) _ st.1,hk I (by simp) _ st.2.1,hk T (by simp) _ st.2.2⟩
 item:=fun i s Q E hi st hQ=>by
  have hyl:ys.length=n:=by rw[hp.length_eq,qAu]
  refine uT hh st.2.1 st.1 hd hf hn st.2.2 hp (fun k e h1 h2 h' e1 e2=>?_) (fun z=>?_)
  ·refine hQ _ h' s.toks ?_ ⟨e2.extBut S _ (Ne.symm hIS) st.1,e1,e2.extBut T _ (Ne.symm hIT) st.2.2⟩ fun b o hb e=>e2.extBut b o (fun z=>hb (by simp[z])) e;rw[qAo,h1];simp[h2]
  ·rw[qAd (by lia)] at z;cases z
 done:=fun s Q E st hQ=>by
  have hyl:ys.length=n:=by rw[hp.length_eq,qAu]
  refine uT hh st.2.1 st.1 hd hf hn st.2.2 hp (fun k e h1 h2 h' e1 e2=>?_) (fun z h' e=>hQ h' s.toks fun b o hb e'=>e b o (fun z=>hb (by simp[z])) e');rw[qBa (by lia)] at h1;cases h1
 self:=fun _ _ _ _ st hQ=>qQ st.2.1 hQ
theorem mI {ord:List qAf}{σ:List Int} (hel:qNh (qGa prog w) es.toList) (hm:(es.toList.map fun e=>iv e.2).Perm σ) (hp:ord.Perm (es.toList.map fun e=>e.2)):∃ms,qHy ord ms/\ms.Perm σ:=by
 refine⟨_,zA fun v hv=>?_,((hp.map iv).trans ?_)⟩
 ·obtain⟨e,he,rfl⟩:=List.mem_map.mp (hp.mem_iff.mp hv);obtain⟨⟨k,hk,_⟩,_⟩:=hel e he;obtain⟨t,ht⟩:=Value.isInt_shape (k:=k) hk;exact⟨k,t,ht⟩
 ·rw[qCz];exact hm
theorem Cz {σ:List Int}{Q:qAf->qAi->Prop} (hh:A.handled=none) (hS:eQ prog w s.heap S σ)
  (h:∀(I:Addr) (fp:List Addr) (ord:List qAf) (h':Heap) (d:Drawn) (St:Nat->Heap->Prop) (ms:List Int),Walks prog w A I fp [I] σ.length (fun i v=>ord[i]?=some v) St->St 0 h'->ord.length=σ.length->qHy ord ms->ms.Perm σ ->
   s.heap.objs.size<=I->(∀b∈fp,b=S\/s.heap.objs.size<=b)->(∀b o,s.heap.get? b=some o->h'.get? b=some o)->Q (.ref I) { s with heap:=h',drawn:=d }) :
  qBg (qBz prog w) A (qMs (.ref S)) Q E s:=by
 obtain⟨o,es,ep,t,ho,hex,hd,hel,hmem,hb,hf,hr,hled⟩:=hS;have hn:es.size=σ.length:=by rw[<- hmem.length_eq,qAb,qCb]
 have hSl:S<s.heap.objs.size:=qAs ho;have hps:t.place.size=es.size:=by
  simp only[SetTable.fits,qCd,beq_iff_eq,decide_eq_true_eq] at hf;exact hf.1
 refine xG ho hex hd hf hb (fun hm=>?_) (fun hB ys d hp=>?_)
 ·rcases hm with hB | ⟨hB,hD⟩
  ·obtain⟨ms,m1,m2⟩:=mI (prog:=prog) (w:=w) (ord:=(qKf (w.params.setOrder S ep) es).toList.map fun e=>e.2) hel hmem ((y9 _ es).map _);have hl:((qKf (w.params.setOrder S ep) es).toList.map fun e=>e.2).length=σ.length:=by
    rw[qAb,(y9 _ es).length_eq,qCb,hn]
   have W:=qR (prog:=prog) (w:=w) (A:=A) (I:=s.heap.objs.size) (S:=S) hh (qGl hSl) hd hf hn (fun _=>0) _ hl fun s' Q' E' i e1 e2 e3=>by
    refine sJ hB e1 hd hf ?_;rw[qAo,qDd] at e3;cases hz:(qKf (w.params.setOrder S ep) es)[i]? with
    | none=>rw[hz] at e3;exact e3
    | some z=>rw[hz] at e3;exact e3
   refine h _ _ _ _ s.drawn _ ms W ⟨qAj _ ho,?_⟩ hl m1 m2 (qAg _) (fun b hb=>?_) fun b o e=>qAj _ e
   ·rw[hn];exact qAt _ rfl
   ·simp only[qEc,qDc,or_false] at hb;rcases hb with rfl | rfl
    ·exact .inr (qAg _)
    ·exact .inl rfl
  ·have hl':t.led=true:=by rw[hled,hB];rfl
   obtain⟨ms,m1,m2⟩:=mI (prog:=prog) (w:=w) (ord:=es.toList.map fun e=>e.2) hel hmem (List.Perm.refl _);have hl:(es.toList.map fun e=>e.2).length=σ.length:=by rw[qAb,qCb,hn]
   have W:=qR (prog:=prog) (w:=w) (A:=A) (I:=s.heap.objs.size) (S:=S) hh (qGl hSl) hd hf hn (Iz t.place) _ hl fun s' Q' E' i e1 e2 e3=>by
    refine uU hB hD hl' e1 hd hf ?_;rw[xH hr (by lia)];rw[qAo,qDd] at e3;rcases qAl i es.size with hi | hi
    ·have ee:=qBn (xs:=es) (i:=i) hi;have ep:=qBn (xs:=t.place) (i:=i) (by lia);rw[ee] at e3|-;rw[ep];have e4:Iz t.place (i+1)=t.place[i]+1:=by
      show(t.place[i]?.getD 0)+1=_;rw[ep];rfl
     rw[e4] at e3;exact e3
    ·rw[qDv hi] at e3|-;exact e3
   refine h _ _ _ _ s.drawn _ ms W ⟨qAj _ ho,?_⟩ hl m1 m2 (qAg _) (fun b hb=>?_) fun b o e=>qAj _ e
   ·rw[hn];exact qAt _ rfl
   ·simp only[qEc,qDc,or_false] at hb;rcases hb with rfl | rfl
    ·exact .inr (qAg _)
    ·exact .inl rfl
 ·rw[hn] at hp;have hperm:(ys.map fun k=>(es[k]?.getD (0,.none)).2).Perm (es.toList.map fun e=>e.2):=by
   refine(hp.map _).trans ?_;refine List.Perm.of_eq (qEu fun i=>?_);rw[qAo,qAo,qDd (xs:=es)];rcases qAl i es.size with hi | hi
   ·rw[qCr (by lia),qBn hi];simp[hi]
   ·rw[qBa (by rw[qAu];lia),qDv hi];rfl
  obtain⟨ms,m1,m2⟩:=mI (prog:=prog) (w:=w) hel hmem hperm;have hl:(ys.map fun k=>(es[k]?.getD (0,Value.none)).2).length=σ.length:=by rw[qAb,hp.length_eq,qAu]
  have W:=AY (prog:=prog) (w:=w) (A:=A) (I:=s.heap.objs.size+1) (S:=S) (T:=s.heap.objs.size) hh (qGl (qHs hSl)) (qOc _) hd hf hn hp;refine h _ _ _ _ d _ ms W ⟨qAj _ (qAj _ ho),?_,qAj _ (qAt _ rfl)⟩ hl m1 m2 (qFd _) (fun b hb=>?_) fun b o e=>qAj _ (qAj _ e)
  ·rw[hn,show s.heap.objs.size+1=(s.heap.push { cls:=.type "tuple",data:=.seq (ys.map fun(i:Nat)=>Value.int i 0).toArray }).objs.size by rw[qDg]];exact qAt _ rfl
  ·simp only[qEc,qDc,or_false] at hb;rcases hb with rfl | rfl | rfl
   ·exact .inr (qFd _)
   ·exact .inl rfl
   ·exact .inr (qAg _)
end
end ST
end PySem
namespace PySem
namespace ST
open L2.ST PyProof.Rows
section
variable {prog:qBm}{w:qCy}{A:qCt}{E:qAf->qAi->Prop}{s:qAi}{S:Addr}{σ:List Int}
theorem CA {r:Addr}{Q:Bool->qAi->Prop} (hT:s.TypeIs (.ref r) "set") (h:Q false s):qBg (qBz prog w) A (Builtin.List.listLengthHint (.ref r)) Q E s:=by
 unfold Builtin.List.listLengthHint;refine qAa (wpAny_specialOf hT PySem.F.slot_set_len.lookup ?_);generalize hid:("set.__len__":String)=id0;wp_delta;rw[show splitId id0=some ("set","__len__") from by subst hid;decide +kernel];subst hid;refine qAa (wpAny_isInstance (T:="set") (b:=true) hT (by rw[isSubtype_type];kernel_rfl) ?_);refine wpAny_ite_split (fun hab=>absurd hab (by decide)) (fun _=>?_);refine wpAny_ite_split (fun _=>?_) (fun hab=>absurd (by decide +kernel) hab);refine qAa (qHw hT ?_);exact qAe h
theorem uV (x:eQ prog w s.heap S σ):s.TypeIs (.ref S) "set":=by
 obtain⟨o,es,ep,t,ho,hex,r⟩:=x;exact⟨o,ho,hex.1⟩
theorem CB (x:eQ prog w s.heap S σ):S<s.heap.objs.size:=by
 obtain⟨o,es,ep,t,ho,hex,r⟩:=x;exact qAs ho
theorem CC {ord:List qAf}{acc:Array qAf}{n:Nat} (hl:ord.length=n) (h:ItemsOf (fun i v=>ord[i]?=some v) acc n):acc.toList=ord:=by
 refine qEu fun i=>?_;rw[qDd];rcases qAl i n with hi | hi
 ·have e:=qBn (xs:=acc) (i:=i) (by rw[h.1];exact hi);rw[e];exact(h.2 i _ e).symm
 ·rw[qDv (by rw[h.1];exact hi),qBa (by lia)]
theorem uW {Q:List qAf->qAi->Prop} (hh:A.handled=none) (hS:eQ prog w s.heap S σ) (hn:σ.length<=qAh)
  (hQ:∀h' tk d vs ms,s.heap.objs.size<=h'.objs.size->(∀b o,s.heap.get? b=some o->h'.get? b=some o)->qHy vs ms->ms.Perm σ->Q vs { s with heap:=h',toks:=tk,drawn:=d }):qBg (qBz prog w) A (collect (.ref S)) Q E s:=by
 have hlt:=CB hS;unfold collect;refine qAa (wpAny_runValue (qFi F.entry_proto_collect ?_));rw[Around.under_plainId F.plain_proto_collect _];show qBg _ A.in1 (qOo [] >>= fun l=>qNg (.builtin "list.__iadd__" ⟨[l,.ref S],[]⟩)) _ _ s;refine qAa (qCj ?_);refine qAe ⟨qIl F.plain_list_iadd _,qFi F.entry_list_iadd ?_⟩;rw[Around.under_plainId F.plain_list_iadd _];have kp0:∀b o,s.heap.get? b=some o->(s.heap.push { cls:=.type "list",data:=.seq ([]:List qAf).toArray }).get? b=some o:=fun b o e=>qAj _ e;have hS0:eQ prog w (s.heap.push { cls:=.type "list",data:=.seq ([]:List qAf).toArray }) S σ:=hS.at' fun o e=>kp0 _ _ e;show qBg _ A.in1 (Builtin.List.listExtendWith (.ref s.heap.objs.size) (.ref S) (.ref s.heap.objs.size)) _ _ _;unfold Builtin.List.listExtendWith;refine qAa (qHw (uV (s:={ s with heap:=s.heap.push { cls:=.type "list",data:=.seq ([]:List qAf).toArray } }) hS0) ?_);have h1:Builtin.List.listSameRef (.ref s.heap.objs.size) (.ref S)=false:=by simp[Builtin.List.listSameRef,qGl hlt]
 have h2:(Value.type "set" == Value.type "list")=false:=by decide
 have h3:(Value.type "set" == Value.type "tuple")=false:=by decide
 simp only[h1,h2,h3,Bool.or_false,qFu,if_false];refine qAa (Cz (s:={ s with heap:=s.heap.push { cls:=.type "list",data:=.seq ([]:List qAf).toArray } }) (A:=A.in1) hh hS0 fun I fp ord h' d St ms W st hl m1 m2 hI hfp hkeep=>?_);have hLI:s.heap.objs.size≠I:=by
  have:s.heap.objs.size+1<=I:=by rw[<- qDg];exact hI
  exact qBf this
 have hSf:s.heap.objs.size∉fp:=fun hm=>by
  rcases hfp _ hm with e | e
  ·exact absurd e (qGl hlt)
  ·have:s.heap.objs.size+1<=s.heap.objs.size:=by rw[<- qDg];exact e
   exact absurd this (Nat.not_succ_le_self _)
 have hL1:h'.get? s.heap.objs.size=some { cls:=.type "list",data:=.seq #[] 0 }:=hkeep _ _ (qAt _ rfl);have kp1:∀b o,s.heap.get? b=some o->h'.get? b=some o:=fun b o e=>hkeep _ _ (kp0 _ _ e);refine qAa (qDj (CA (s:={ s with heap:=h',drawn:=d }) (uV (s:={ s with heap:=h',drawn:=d }) (hS.at' fun o e=>kp1 _ _ e)) ?_));have key:∀(R:qPa->qAi->Prop) (h2:Heap) (c₁ tk:Nat),St 0 h2->(∀b o,s.heap.get? b=some o->h2.get? b=some o) ->
   h2.get? s.heap.objs.size=some { cls:=.type "list",data:=.seq #[] c₁ } ->
   (∀h3 tk3 acc c,h3.get? s.heap.objs.size=some { cls:=.type "list",dict:=none,data:=.seq acc c,slots:=#[] }->acc.toList=ord->(∀b o,s.heap.get? b=some o->h3.get? b=some o)->R (.ok (.ret (.ref s.heap.objs.size))) { s with heap:=h3,toks:=tk3,drawn:=d }) ->
   qHn (qBz prog w) A (.builtin "list.extend.loop" ⟨[.ref s.heap.objs.size,.ref I,.ref s.heap.objs.size],[]⟩) R { s with heap:=h2,toks:=tk,drawn:=d }:=by
  intro R h2 c₁ tk st2 kp2 e2 hR;refine codeAny_extend_loopS W.toS hn _ hSf _ σ.length 0 _ #[] c₁ rfl (qBq _) st2 e2 (ItemsOf.nil _) fun s' acc' c' hm hS' hacc=>?_;have em:=Moved.eq_with hm;rw[em];refine hR s'.heap s'.toks acc' c' hS' (CC hl hacc) fun b o e=>hm.heap b o (fun hmem=>?_) (kp2 b o e);have hb:=qAs e;rcases List.mem_cons.mp hmem with e' | hmem
  ·exact absurd hb (by rw[e'];exact qDh _)
  ·have e3:b=I:=List.mem_singleton.mp hmem;have:s.heap.objs.size+1<=I:=by rw[<- qDg];exact hI
   rw[e3] at hb;exact absurd (qBd hb (Nat.le_of_succ_le this)) (qDh _)
 have fin:∀h3 tk3 acc c,h3.get? s.heap.objs.size=some { cls:=.type "list",dict:=none,data:=.seq acc c,slots:=#[] }->acc.toList=ord->(∀b o,s.heap.get? b=some o->h3.get? b=some o) ->
   qBg (qBz prog w) A (do
    let o <- load s.heap.objs.size
    match o.data with
    | .seq xs _=>pure xs.toList
    | _=>unsupported "internal:collect") Q E { s with heap:=h3,toks:=tk3,drawn:=d }:=by
  intro h3 tk3 acc c e1 e2 e3;refine qAa (wpAny_load e1 ?_);show qBg _ _ (pure acc.toList) _ _ _;rw[e2];exact qAe (hQ h3 tk3 d ord ms (qAq (qAs e1)) e3 m1 m2)
 refine wpAny_ite_split (fun _=>?_) (fun _=>qAe ⟨qIl qKa _,key _ _ 0 _ st kp1 hL1 fin⟩);refine qAa (qGo ?_);refine qAa ?_;show qBg _ _ (updateSeq s.heap.objs.size (·.push .none) >>= fun _=>updateSeq s.heap.objs.size (·.pop)) _ _ _;refine qAa (wpAny_updateSeq hL1 rfl ?_);have hS₂:=qDe (Obj.mapSeq (·.push Value.none)) hL1 rfl;refine wpAny_updateSeq (hz:=by seq_fits) hS₂ rfl ?_;have hS₃:=qDe (Obj.mapSeq (·.pop)) hS₂ rfl;refine qAe ⟨qIl qKa _,key _ _ _ _ (W.frame 0 _ _ st fun b hb o e=>?_) (fun b o e=>?_) hS₃ fin⟩
 ·have hbS:b≠s.heap.objs.size:=fun z=>hSf (z▸hb);exact(qDx _ _ (Ne.symm hbS)).trans ((qDx _ _ (Ne.symm hbS)).trans e)
 ·have hbS:b≠s.heap.objs.size:=qBf (qAs e);exact(qDx _ _ (Ne.symm hbS)).trans ((qDx _ _ (Ne.symm hbS)).trans (kp1 _ _ e))
theorem xI {Q:qAf->qAi->Prop} (hh:A.handled=none) (hS:eQ prog w s.heap S σ) (h64:σ.length<64)
  (h:∀h' tk d (l:Addr) (out:Array qAf) (ms:List Int) c,(∀b o,s.heap.get? b=some o->h'.get? b=some o)->s.heap.objs.size<=l->h'.get? l=some (qPc "list" out c)->qHy out.toList ms->ms.Perm σ->ms.Pairwise (·<=·)->Q (.ref l) { s with heap:=h',toks:=tk,drawn:=d }) :
  qBg (qBz prog w) A (call (.builtin "sorted") [.ref S]) Q E s:=by
 refine Calls.call_function_entry kind_sorted plain_sorted entry_sorted (args_sorted1 _) ?_;unfold Builtin.«sorted»;refine qAa (m:=checkCount "sorted" 1 1 _) (qAe ?_);refine qAa (uW hh hS (by rw[qCa];lia) fun h1 tk d vs ms hle kp m1 m2=>?_);have hvl:vs.length=σ.length:=by
  rw[<- m2.length_eq];exact IntsAre.length m1
 refine qAa (wpAny_newList ?_ (by rw[qCa];lia));have hoL:(h1.push (qPc "list" vs.toArray 0)).get? h1.objs.size=some (qPc "list" vs.toArray 0):=qAt _ rfl;show qBg _ _ _ _ _ { s with heap:=h1.push (qPc "list" vs.toArray 0),toks:=tk,drawn:=d };refine qAa (qDj (qEb slot_list_sort ⟨_,hoL,rfl⟩ entry_list_sort (list_sort_tree hoL m1 (by lia) fun out ns' a1 a2 a3=>⟨_,rfl,?_⟩) (args_list_sort _)));obtain⟨c,hc⟩:=sortedHeap_at (out:=out) hoL;refine qAe ⟨_,rfl,h _ tk d _ out ns' c (fun b o e=>?_) hle hc a1 (a2.trans m2) a3⟩;have e1:=kp b o e;have hb:=qAs e1;rw[sortedHeap_old (qBf hb) (by rw[size_push'];exact qHs hb)];exact qAj _ e1
end
end ST
end PySem
namespace L2
open PySem PySem.Spec PyProof.Rows
theorem Inv.draws {X:Cx}{pins:List (Addr×Obj)}{σ:List (Option V)}{H:Addr->Option HO}{s:qAi}{d:Drawn} (I:Inv X pins σ H s):Inv X pins σ H { s with drawn:=d }:=by
 have z:=I.step (g':=s.gens) (t':=s.toks) (d':=d) (h':=s.heap) (H':=H) (ch:=[]) (fun _ z=>nomatch z) (fun b o _ _ _ e _=>e) (fun b o _ _ _ e _=>⟨o.slots,e⟩) (fun _ _ _ _ n=>n) (fun b o _ e=>⟨o,e⟩) (fun _ _ e=>e) (fun _ _ _ e=>e) (fun _ _ e=>⟨#[],by simpa using e⟩) (fun _ n=>n) I.cJ I.bare;exact z
theorem sN (ns:List Int) (k:Int):k∈qIp (fun i=>ns.getD i 0) ns.length↔k∈ns:=by
 have h:=firstMet_any (fun i=>ns.getD i 0) ns.length k;have e:(qAn ns.length).map (fun i=>ns.getD i 0)=ns:=by
  refine qNu (by simp) fun i h1 h2=>?_;rw[qJu,qMz,qAk,qAd h2];rfl
 rw[e] at h;have q:∀l:List Int,l.any (· == k)=true↔k∈l:=fun l=>by simp
 rw[<- q,<- q,h]
theorem gK (f:Nat->Int):∀n,(qIp f n).Nodup
 | 0=>by rw[firstMet_zero];exact qIs
 | n+1=>by
  rw[firstMet_succ];unfold qKw;split
  ·exact gK f n
  ·rename_i h;refine List.nodup_append.mpr ⟨gK f n,by simp,fun a ha b hb e=>?_⟩;obtain rfl:b=f n:=by simpa using hb
   subst e;exact h (List.any_eq_true.mpr ⟨_,ha,by simp⟩)
def PB (K:qAc) (ta:TA):TE:=fun σ H Q=>ta σ H fun vs H1=>∃(p:Addr) (ns:List Int),vs=[.ref p]/\aR K H1 p (ns.map V.int)/\ns.length<64/\∀(l:Addr) (ms:List Int),H1 l=none->(∀k,k∈ms↔k∈ns)->ms.Pairwise (· < ·)->Q (.ref l) (upd H1 l (.lst (ms.map V.int)))
theorem EY:qCs "set"=some (.type "set"):=by decide +kernel
theorem pw_lt:∀{ms:List Int},ms.Pairwise (·<=·)->ms.Nodup->ms.Pairwise (· < ·)
 | [],_,_=>.nil
 | m::ms,.cons h1 h2,hn=>by
  obtain⟨n1,n2⟩:=List.nodup_cons.mp hn;refine .cons (fun k hk=>?_) (pw_lt h2 n2);have:=h1 k hk;rcases qNo this with z | z
  ·exact z
  ·exact absurd (z▸hk) n1
section
variable {X:Cx}
theorem lD {a:Expr}{ta:TA}{p p' pos pos':Pos} (hg:Gl X "sorted") (hm:X.mg "sorted"=none) (hg':Gl X "set") (hm':X.mg "set"=none) (hc:X.calm=true) (ha:PA X [a] ta)
  (hs:qBt [a] X.env=[(false,eval a X.env)]:=by rfl) (hs':qBt [.Call (.Name "set" p') [a] [] pos'] X.env=[(false,eval (.Call (.Name "set" p') [a] [] pos') X.env)]:=by rfl) :
  PE X (.Call (.Name "sorted" p) [.Call (.Name "set" p') [a] [] pos'] [] pos) (PB X.K ta):=by
 intro pins s σ H Q I h;refine qOa (fI I hg hm w4 (qIg ?_ hs' rfl));rw[hs'];show qBg _ _ (qOn ((false,eval (.Call (.Name "set" p') [a] [] pos') X.env)::[])) _ _ s;refine qHb ?_;refine qOa (fI I hg' hm' EY (qCf (cF (ha pos' pins s σ H _ I h) fun us s1 ⟨vs,H1,I1,r1,q1⟩=>?_) hs rfl));obtain⟨p,ns,e,hq,h64,q⟩:=q1;subst e;obtain⟨u,rfl,rx⟩:=vals1 r1;cases rx;obtain⟨its,r',pl,hz⟩:=I1.list hq;have hi:=intsAre_of r';have hl:its.length=ns.length:=by rw[<- r'.length,qAb]
 refine PySem.ST.uQ (items:=its.toArray) (ns:=ns) (I1.ok.hd hc) pl.isList (by simpa using hi) (by rw[qAw,hl];unfold qFt;lia) fun h' tk hS kp=>?_;refine qHl ?_;rw[show its.toArray.size=ns.length by rw[qAw,hl]] at hS;have hle:(qIp (fun i=>ns.getD i 0) ns.length).length<=ns.length:=firstMet_length_le _ _;have kp1:∀b o,s1.heap.get? b=some o->h'.get? b=some o:=fun b o e=>kp b o (qAs e) e;have I2:Inv X pins σ H1 { s1 with heap:=h',toks:=tk }:=I1.kept kp1;refine PySem.ST.xI (s:={ s1 with heap:=h',toks:=tk }) (I2.ok.hd hc) hS (by lia) fun h2 tk2 d l out ms c kp2 hl2 e2 m1 m2 m3=>?_;have hms:ms.length=(qIp (fun i=>ns.getD i 0) ns.length).length:=m2.length_eq;have I3:=(I2.laid (a:=l) (o:=.lst (ms.map V.int)) (t':=tk2) kp2 hl2 ⟨by rw[qAb,qCa];lia,out.toList,c,k8 m1,by rw[show out.toList.toArray=out by simp];exact e2⟩).draws (d:=d);refine⟨.ref l,_,I3,rfl,q _ _ (I2.cJ.fresh hl2) (fun k=>?_) (pw_lt m3 (m2.nodup_iff.mpr (gK _ _)))⟩;rw[m2.mem_iff];exact sN ns k
end
end L2
set_option maxHeartbeats 4000000
namespace L2
open PySem PySem.Spec PyProof.Rows
def CD (a:Addr) (ob:Obj) (kvs:List (Key×V)):It :=
 ⟨fun i H=>H a=some (.frz ob (.dK kvs))/\i<kvs.length,fun i H x H'=>H'=H/\∃(kv:Key×V),kvs[i]?=some kv/\x=kV kv.1,fun i H=>H a=some (.frz ob (.dK kvs))/\kvs.length<=i⟩
theorem sO {P:qBm}{w:qCy}{H:Hp}{h:Heap}{a:Addr}{ob:Obj}{kvs:List (Key×V)} (ok:j6 P w H h) (e:H a=some (.frz ob (.dK kvs))):h.get? a=some ob/\∃es ep vs,(a == qFn)=false/\ob.ExactDict/\ob.data = .dict es ep/\KV kvs vs/\Pairs (cC P w) es.toList vs:=by
 have z:h.get? a=some ob/\_:=ok a _ e;obtain⟨_,hd,vs,rel,o,es,ep,h1,h2,h3,h4,h5,h6⟩:=qK ok (.inr ⟨ob,e⟩);have eo:o=ob:=Option.some.inj (h1.symm.trans z.1);subst eo;exact⟨h1,es,ep,vs,hd,h2,h3,rel,h5⟩
theorem xJ {P:qBm}{w:qCy}{K:qAc}{tg:Expr} (a it:Addr){ob:Obj}{kvs:List (Key×V)}{es:Array DictEntry}{ep:Nat} (hdat:ob.data = .dict es ep):Turn P w K tg (CD a ob kvs) [it] it (fun i h=>h.IsKeyIter it a i es.size ep) where
 mem:=by simp
 obj:=fun i h st b hb=>by
  have e:b=it:=by simpa using hb
  subst e;obtain⟨o,e,c,d⟩:=st;exact⟨o,e,fun v z=>by rw[d] at z;cases z⟩
 keep:=fun i h h' st k=>st.at fun o e=>k it (by simp) o e
 item:=by
  intro X hP hw hK hc i pins s σ H E I hf st hg;subst hP hw hK;obtain⟨hq,hlt⟩:=hg;obtain⟨h1,es',ep',vs,h2,h3,h4,rel,h5⟩:=sO I.cJ hq;have e1:Data.dict es' ep'=Data.dict es ep:=h4.symm.trans hdat;obtain⟨rfl,rfl⟩:es'=es/\ep'=ep:=by injection e1 with a b;exact⟨a,b⟩
  have hlen:es'.size=kvs.length:=by rw[<- qCb,h5.length,Paired.length rel]
  obtain⟨f0,f1,f2,f3,f4,f5⟩:=hf it (by simp);refine Cu st h1 h4 (by lia) fun h' st' sb=>?_;have I1:Inv X pins σ H { s with heap:=h' }:=I.turned (t':=s.toks) (fun b o hb e=>(sb.2 b hb).trans e) f0 f1 f3 f4 f5;obtain⟨o,e,c,dd⟩:=id st';have hkv:kvs[i]?=some kvs[i]:=qAd hlt;obtain⟨q,hq1,hq2⟩:=lA rel hkv;have hes:es'.toList[i]?=some es'[i]:=by rw[qDd,qBn (by lia)]
  have hkey:=(h5.get? (k:=q.1) (v:=q.2) hes hq1).1;refine⟨_,rfl,yG (s:={ s with heap:=h' }) e c dd (by decide) ⟨kV kvs[i].1,H,I1,?_,⟨rfl,kvs[i],hkv,rfl⟩,st',fun b hb=>(hf b hb).1⟩⟩;rw[show kvs[i].1=q.1 from hq2.1];exact uN hkey
 done:=by
  intro X hP hw hK hc i pins s σ H E I hf st hg;subst hP hw hK;obtain⟨hq,hge⟩:=hg;obtain⟨h1,es',ep',vs,h2,h3,h4,rel,h5⟩:=sO I.cJ hq;have e1:Data.dict es' ep'=Data.dict es ep:=h4.symm.trans hdat;obtain⟨rfl,rfl⟩:es'=es/\ep'=ep:=by injection e1 with a b;exact⟨a,b⟩
  have hlen:es'.size=kvs.length:=by rw[<- qCb,h5.length,Paired.length rel]
  obtain⟨f0,f1,f2,f3,f4,f5⟩:=hf it (by simp);exact EU (I.ok.hd hc) st h1 h4 (by lia) fun h' eb=>⟨rfl,I.turned (t':=s.toks) (fun b o hb e=>eb b o hb e) f0 f1 f3 f4 f5⟩
 self:=fun _ _ _ _ _ st h=>wpAny_pyIter_keyiter st h
section
variable {X:Cx}{tg:Expr}
def IA (td:TE):TI:=fun σ H R=>td σ H fun x H1=>∃(a:Addr) (ob:Obj) (kvs:List (Key×V)),x = .ref a/\H1 a=some (.frz ob (.dK kvs))/\R (CD a ob kvs) H1
theorem CF {l:Expr}{td:TE} (hl:PE X l td):PI X tg l (IA td):=by
 intro pins s σ H R I h;refine cF (hl pins s σ H _ I h) fun v s1 ⟨x,H1,I1,r1,q1⟩=>?_;obtain⟨a,ob,kvs,e,hq,q⟩:=q1;subst e;cases r1;obtain⟨h1,es,ep,xs,h2,h3,h4,rel,h5⟩:=sO I1.cJ hq;refine Ct h2 h1 h3 h4 ?_;refine⟨s1.heap.objs.size,[s1.heap.objs.size],_,_,H1,rfl,I1.kept (t':=s1.toks) fun b o e=>qAj _ e,xJ a _ h4,⟨_,qAt _ rfl,rfl,rfl⟩,fun b hb=>?_,q⟩;have e:b=s1.heap.objs.size:=by simpa using hb
 subst e;exact I1.As (qAg _) (I1.cJ.fresh (qAg _))
def MA (t:TE):TE:=fun σ H Q=>t σ H fun x H1=>∃(a:Addr) (kvs:List (Key×V)),x = .ref a/\H1 a=some (.dK kvs)/\∀ob,Q x (upd H1 a (.frz ob (.dK kvs)))
theorem EZ {l:Expr}{td:TE} (hl:PE X l td):PE X l (MA td):=by
 intro pins s σ H Q I h;refine cF (hl pins s σ H _ I h) fun v s1 ⟨x,H1,I1,r1,q1⟩=>?_;obtain⟨a,kvs,e,hq,q⟩:=q1;obtain⟨z,hd,vs,rel,dd⟩:=Co I1.cJ hq;obtain⟨ob,es,ep,g1,g2⟩:=id dd;exact⟨x,_,I1.write (x:=a) (e:=a) (o:=.frz ob (.dK kvs)) (t':=s1.toks) (by rw[hq];exact True.intro) (.inl rfl) (fun b u _ e=>e) ⟨ob,g1⟩ ⟨g1,z,hd,vs,rel,dd⟩,r1,q ob⟩
end
section
variable {K:qAc}{a a':Addr}{xs xs':List V}{lo:Int}{n:Nat}{σ0:St}{H1:Hp}{i0:Nat}{c:TT}{te:TE}{g:TG}{Q:Addr->Hp->Prop}
theorem xK {ob:Obj}{kvs:List (Key×V)} (Iv:Nat->List V->Hp->Prop) (mono:∀i ys H H',k6 H H'->Iv i ys H->Iv i ys H') (h0:Iv 0 [] H1) (hq:H1 a=some (.frz ob (.dK kvs))) (hn:kvs.length<=qAh)
  (step:∀(i:Nat) (kv:Key×V) (H2:Hp) (k:VK) (k0:Hp->Prop) (ys:List V),aH H1 H2->kvs[i]?=some kv->Iv i ys H2->(∀y H3,aH H2 H3->Iv (i+1) (ys++[y]) H3->k y H3)->(∀H3,aH H2 H3->Iv (i+1) ys H3->k0 H3) ->
   c (σ0.set i0 (some (kV kv.1))) H2 fun b H4=>if b=true then te (σ0.set i0 (some (kV kv.1))) H4 k else k0 H4)
  (h:∀D ys H2,H1 D=none->aH H1 H2->Iv kvs.length ys H2->H2 D=some (.lst ys)->Q D H2) :
  ∀D,H1 D=none->∃W:Nat->Nat->St->Hp->Prop,(∃m,W 0 m σ0 (upd H1 D (.lst [])))/\∀i m σ1 H2,W i m σ1 H2 ->
   ((CD a ob kvs).stop i H2/\Q D H2)\/((CD a ob kvs).go i H2/\∃N:St->Hp->Prop,(∀σ' H',N σ' H'->∃m',m'<m/\W (i+1) m' σ' H') /\
    ∀x H',(CD a ob kvs).pX i H2 x H'->aY i0 x σ1 H' fun σ2 H3=>c σ2 H3 fun b H4=>if b=true then te σ2 H4 fun y H5=>∃xs,H5 D=some (.lst xs)/\xs.length<qAh/\N σ2 (upd H5 D (.lst (xs++[y]))) else N σ2 H4):=by
 intro D hD;refine⟨fun i m σ1 H2=>σ1.set i0 none=σ0.set i0 none/\aH H1 H2/\(∃ys,ys.length<=i/\Iv i ys H2/\H2 D=some (.lst ys))/\i<=kvs.length/\m=kvs.length-i,⟨kvs.length,rfl,.aF hD,⟨[],qAg _,mono _ _ _ _ (aH.aF hD).t h0,aC⟩,qBq _,rfl⟩,?_⟩;rintro i m σ1 H2 ⟨hσ,hs,⟨ys,hy,hR,hd⟩,hi,rfl⟩;have hset:∀v:Option V,σ1.set i0 v=σ0.set i0 v:=fun v=>by
  have z:=congrArg (fun l=>qHu l i0 v) hσ;simpa using z
 rcases qAl i kvs.length with hlt | hge
 ·right
  refine⟨⟨hs _ _ hq,hlt⟩,fun σ' H'=>σ'.set i0 none=σ0.set i0 none/\aH H1 H'/\∃ys,ys.length<=i+1/\Iv (i+1) ys H'/\H' D=some (.lst ys),fun σ' H' ⟨a,b,c⟩=>⟨kvs.length-(i+1),by lia,a,b,c,hlt,rfl⟩,?_⟩;rintro x H' ⟨rfl,kv,hx,rfl⟩;show c (σ1.set i0 (some (kV kv.1))) _ _;rw[hset];refine step i kv _ _ _ ys hs hx hR (fun y H3 hs3 hR3=>⟨_,hs3 _ _ hd,by lia,?_,(hs.trans hs3).upd_ne' hD,ys++[y],by rw[qAm];show _+1<=_;lia,mono _ _ _ _ (.lst (hs3 _ _ hd)) hR3,aC⟩) fun H3 hs3 hR3=>⟨?_,hs.trans hs3,ys,by lia,hR3,hs3 _ _ hd⟩
  ·simp
  ·simp
 ·left
  obtain rfl:i=kvs.length:=qCw hi hge;exact⟨⟨hs _ _ hq,qAg _⟩,h D ys _ hD hs hR hd⟩
theorem AZ (Ag:St->Prop) (Iv:Nat->List V->Hp->Prop) (mono:∀i ys H H',k6 H H'->Iv i ys H->Iv i ys H') (h0:Ag σ0) (h00:Iv 0 [] H1) (hq:aR K H1 a xs) (hq':aR K H1 a' xs') (hlen:xs.length<=xs'.length) (hn:xs.length<=qAh)
  (step:∀(i:Nat) (x y:V) (t:Addr) (σ1:St) (H2:Hp) (k:St->VK) (k0:St->Hp->Prop) (ys:List V),Ag σ1->aH H1 H2->xs[i]?=some x->xs'[i]?=some y->H2 t=some (.tup [x,y])->Iv i ys H2->(∀σ2 z H3,Ag σ2->aH H2 H3->Iv (i+1) (ys++[z]) H3->k σ2 z H3)->(∀σ2 H3,Ag σ2->aH H2 H3->Iv (i+1) ys H3->k0 σ2 H3) ->
   g (.ref t) σ1 H2 fun σ2 H3=>c σ2 H3 fun b H4=>if b=true then te σ2 H4 (k σ2) else k0 σ2 H4)
  (h:∀D ys H2,H1 D=none->aH H1 H2->Iv xs.length ys H2->H2 D=some (.lst ys)->Q D H2) :
  ∀D,H1 D=none->∃W:Nat->Nat->St->Hp->Prop,(∃m,W 0 m σ0 (upd H1 D (.lst [])))/\∀i m σ1 H2,W i m σ1 H2 ->
   ((yW K a a').stop i H2/\Q D H2)\/((yW K a a').go i H2/\∃N:St->Hp->Prop,(∀σ' H',N σ' H'->∃m',m'<m/\W (i+1) m' σ' H') /\
    ∀x H',(yW K a a').pX i H2 x H'->g x σ1 H' fun σ2 H3=>c σ2 H3 fun b H4=>if b=true then te σ2 H4 fun y H5=>∃xs,H5 D=some (.lst xs)/\xs.length<qAh/\N σ2 (upd H5 D (.lst (xs++[y]))) else N σ2 H4):=by
 intro D hD;refine⟨fun i m σ1 H2=>Ag σ1/\aH H1 H2/\(∃ys,ys.length<=i/\Iv i ys H2/\H2 D=some (.lst ys))/\i<=xs.length/\m=xs.length-i,⟨xs.length,h0,.aF hD,⟨[],qAg _,mono _ _ _ _ (aH.aF hD).t h00,aC⟩,qBq _,rfl⟩,?_⟩;rintro i m σ1 H2 ⟨hσ,hs,⟨ys,hy',hR,hd⟩,hi,rfl⟩;rcases qAl i xs.length with hlt | hge
 ·right
  have hlt':i<xs'.length:=qBd hlt hlen;refine⟨⟨xs,xs',xs[i],xs'[i],hs.seq hq,hs.seq hq',by simp[hlt],by simp[hlt']⟩,fun σ' H'=>Ag σ'/\aH H1 H'/\∃ys,ys.length<=i+1/\Iv (i+1) ys H'/\H' D=some (.lst ys),fun σ' H' ⟨a,b,c⟩=>⟨xs.length-(i+1),by lia,a,b,c,hlt,rfl⟩,?_⟩;rintro v H' ⟨t,x,y,rfl,ht,rfl,hx,hy⟩;have hx:=hx xs (hs.seq hq);have hy:=hy xs' (hs.seq hq');have hst:aH H1 (upd H2 t (.tup [x,y])):=hs.trans (.aF ht);have hdt:=aH.aF (o:=.tup [x,y]) ht _ _ hd;refine step i x y t σ1 _ (fun σ2 y H5=>∃xs,H5 D=some (.lst xs)/\xs.length<qAh/\_) _ ys hσ hst hx hy aC (mono _ _ _ _ (aH.aF ht).t hR) (fun σ2 z H3 a2 hs3 hR3=>⟨_,hs3 _ _ hdt,by lia,a2,(hst.trans hs3).upd_ne' hD,ys++[z],by rw[qAm];show _+1<=_;lia,mono _ _ _ _ (.lst (hs3 _ _ hdt)) hR3,aC⟩) fun σ2 H3 a2 hs3 hR3=>⟨a2,hst.trans hs3,ys,by lia,hR3,hs3 _ _ hdt⟩
 ·left
  obtain rfl:i=xs.length:=qCw hi hge;exact⟨⟨xs,xs',hs.seq hq,hs.seq hq',.inl (qAg _)⟩,h D ys _ hD hs hR hd⟩
end
end L2
set_option maxHeartbeats 4000000
namespace L2
open PySem PySem.Spec PyProof.Rows
def MB (K:qAc) (a:Addr) (n:Nat):It :=
 ⟨fun i H=>i<n/\∃xs x,aR K H a xs/\xs[n-1-i]?=some x,fun i H x H'=>H'=H/\∀xs,aR K H a xs->xs[n-1-i]?=some x,fun i H=>i=n⟩
theorem CG {P:qBm}{w:qCy}{K:qAc}{tg:Expr} (a it:Addr) (n:Nat):Turn P w K tg (MB K a n) [it] it (fun i h=>h.IsRevIter it a ((n:Int)-1-(i:Int))) where
 mem:=by simp
 obj:=fun i h st b hb=>by
  have e:b=it:=by simpa using hb
  subst e;obtain⟨o,e,c,d⟩:=st;exact⟨o,e,fun v z=>by rw[d] at z;cases z⟩
 keep:=fun i h h' st k=>st.at fun o e=>k it (by simp) o e
 item:=by
  intro X hP hw hK hc i pins s σ H E I hf st hg;subst hP hw hK;obtain⟨hi,xs,x,hq,hx⟩:=hg;obtain⟨its,rv,p,hz⟩:=I.list hq;obtain⟨u,hu,ru⟩:=rv.get hx;obtain⟨f0,f1,f2,f3,f4,f5⟩:=hf it (by simp);rw[show(n:Int)-1-(i:Int)=((n-1-i:Nat):Int) by lia] at st;refine wpAny_pyNext_rev_item st p.isList (x:=u) (by simpa using hu) fun h' st' sb=>?_;rw[show((n-1-i:Nat):Int)-1=(n:Int)-1-((i+1:Nat):Int) by lia] at st';have I1:Inv X pins σ H { s with heap:=h' }:=I.turned (t':=s.toks) (fun b o hb e=>(sb.2 b hb).trans e) f0 f1 f3 f4 f5;obtain⟨o,e,c,d⟩:=id st';exact⟨u,rfl,yG (s:={ s with heap:=h' }) e c d (by decide) ⟨x,H,I1,ru,⟨rfl,fun ys hy=>by rw[I.i3 hy hq];exact hx⟩,st',fun b hb=>(hf b hb).1⟩⟩
 done:=by
  intro X hP hw hK hc i pins s σ H E I hf st hg;subst hP hw hK;obtain rfl:i=n:=hg;obtain⟨f0,f1,f2,f3,f4,f5⟩:=hf it (by simp);rw[show(i:Int)-1-(i:Int)=-1 by lia] at st;exact wpAny_pyNext_rev_end (I.ok.hd hc) st fun h' eb=>⟨rfl,I.turned (t':=s.toks) (fun b o hb e=>eb b o hb e) f0 f1 f3 f4 f5⟩
 self:=fun _ _ _ _ _ st h=>wpAny_pyIter_revIter st h
theorem uX:qCs "reversed"=some (.type "reversed"):=by decide +kernel
def Ox (K:qAc) (ta:TA):TI:=fun σ H R=>ta σ H fun vs H1=>∃l xs,vs=[.ref l]/\aR K H1 l xs/\R (MB K l xs.length) H1
theorem IB {X:Cx}{tg a:Expr}{ta:TA}{p pos:Pos} (hg:Gl X "reversed") (hm:X.mg "reversed"=none) (ha:PA X [a] ta) (hs:qBt [a] X.env=[(false,eval a X.env)]:=by rfl) :
  PI X tg (.Call (.Name "reversed" p) [a] [] pos) (Ox X.K ta):=by
 intro pins s σ H R I h;refine qOa (fI I hg hm uX (qCf (cF (ha pos pins s σ H _ I h) fun us s1 ⟨vs,H1,I1,r1,q1⟩=>?_) hs rfl));obtain⟨l,xs,e,hq,q⟩:=q1;subst e;obtain⟨u,rfl,ru⟩:=vals1 r1;cases (show u=Value.ref l from ru);obtain⟨its,rv,p1,z1⟩:=I1.list hq;have hl:=rv.length;refine call_reversed_list p1.isList ?_;have hit:(s1.heap.push (revObj l ((its.toArray.size:Int)-1))).IsRevIter s1.heap.objs.size l ((xs.length:Int)-1-((0:Nat):Int)):=⟨_,qAt _ rfl,rfl,by
  show Data.fields #[.ref l,qJk ((its.toArray.size:Int)-1)]=_;rw[qAw,<- hl];simp⟩
 refine wpAny_pyIter_revIter (s:={ s1 with heap:=s1.heap.push (revObj l ((its.toArray.size:Int)-1)) }) hit ?_;have I2:Inv X pins σ H1 { s1 with heap:=s1.heap.push (revObj l ((its.toArray.size:Int)-1)) }:=I1.kept (t':=s1.toks) fun b o e=>qAj _ e;refine⟨s1.heap.objs.size,[s1.heap.objs.size],_,_,H1,rfl,I2,CG l _ xs.length,hit,fun b hb=>?_,q⟩;have e:b=s1.heap.objs.size:=by simpa using hb
 subst e;exact I1.As (qAg _) (I1.cJ.fresh (qAg _))
theorem Fb {K:qAc}{a:Addr}{xs:List V}{g:TG}{tb:TS}{D:Ends}{σ:St}{H:Hp} (Pv:Nat->St->Hp->Prop) (h0:Pv 0 σ H) (hl:∀i σ H,i<=xs.length->Pv i σ H->aR K H a xs)
  (hs:∀i x σ H,xs[xs.length-1-i]?=some x->i<xs.length->Pv i σ H->g x σ H fun σ2 H2=>tb { D with nx:=Pv (i+1),ct:=Pv (i+1),bk:=D.nx } σ2 H2) (hd:∀σ H,Pv xs.length σ H->D.nx σ H) :
  ∃W:Nat->Nat->St->Hp->Prop,(∃m,W 0 m σ H)/\∀i m σ H,W i m σ H ->
   ((MB K a xs.length).stop i H/\D.nx σ H)\/((MB K a xs.length).go i H/\∃N:St->Hp->Prop,(∀σ' H',N σ' H'->∃m',m'<m/\W (i+1) m' σ' H')/\∀x H',(MB K a xs.length).pX i H x H'->g x σ H' fun σ2 H2=>tb { D with nx:=N,ct:=N,bk:=D.nx } σ2 H2):=by
 refine⟨fun i m σ H=>m=xs.length-i/\i<=xs.length/\Pv i σ H,⟨xs.length,by simp,qBq _,h0⟩,?_⟩;rintro i m σ H ⟨rfl,hi,p⟩;have q:=hl i σ H hi p;by_cases hlt:i<xs.length
 ·refine .inr ⟨⟨hlt,xs,xs[xs.length-1-i],q,qAd (by lia)⟩,Pv (i+1),fun σ' H' p'=>⟨xs.length-(i+1),by lia,rfl,hlt,p'⟩,fun x H' y=>?_⟩;obtain⟨e,y⟩:=y;subst e;exact hs i x σ _ (y xs q) hlt p
 ·have e:i=xs.length:=by lia
  subst e;exact .inl ⟨rfl,hd σ H p⟩
end L2
set_option maxHeartbeats 4000000
namespace L2
open PySem PySem.Spec PyProof.Rows
def IC (tk tv:TE):TE:=fun σ H Q=>∀p,H p=none->tk σ (upd H p (.dK [])) fun x H2=>tv σ H2 fun y H3=>H3 p=some (.dK [])/\∃i:Int,x = .int i/\Q (.ref p) (upd H3 p (.dK [(.inl i,y)]))
theorem CH {X:Cx}{pos:Pos}{k v:Expr}{tk tv:TE} (hk:PE X k tk) (hv:PE X v tv):PE X (.Dict [some k] [v] pos) (IC tk tv):=by
 intro pins s σ H Q I q;have hn:=I.cJ.fresh (qAg s.heap.objs.size);have I1:=I.laid (a:=s.heap.objs.size) (o:=.dK []) (h':=s.heap.push { cls:=.type "dict",data:=.dict #[] }) (t':=s.toks) (fun _ _ q=>qAj _ q) (qAg _) (uI s.heap I.big);refine wpAny_Dict_walk (knd:=cC X.prog X.w) (by rfl) (by rfl) (by simp) (by simp) ?_;refine pairTrees_cons_walk (cF (hk pins _ σ _ _ I1 (q _ hn)) fun u s2 ⟨x,H2,I2,rx,q2⟩=>cF (hv pins s2 σ H2 _ I2 q2) fun u2 s3 ⟨y,H3,I3,ry,e,i,ex,q3⟩=>pairTrees_nil_walk ?_);subst ex;obtain⟨t,rfl⟩:=rx;obtain⟨z,hd,vs0,r0,dd⟩:=Co I3.cJ e;cases r0;refine⟨[(.inl i,u2)],⟨by simp[cC,n4,Value.isInt],rfl,True.intro⟩,dd,fun h' dd' hs=>⟨.ref s.heap.objs.size,_,?_,rfl,q3⟩⟩;have he:∃q,h'.get? s.heap.objs.size=some q:=let ⟨q,_,_,hq,_⟩:=dd';⟨q,hq⟩;exact sE I3 (by rw[e];exact True.intro) hs he (Cq (by rw[qCa];simp) hd (.cons ⟨rfl,ry⟩ .nil) dd')
end L2
namespace Wg
def sm:Nat->(Nat->Int)->Int
 | 0,_=>0
 | n+1,f=>sm n f+f n
theorem bB {n:Nat}{f g:Nat->Int} (h:∀i,i<n->f i=g i):sm n f=sm n g:=by
 induction n with
 | zero=>rfl
 | succ n ih=>show sm n f+f n=sm n g+g n;rw[ih fun i hi=>h i (by lia),h n (by lia)]
theorem fL (n:Nat) (f g:Nat->Int):sm n (fun i=>f i+g i)=sm n f+sm n g:=by
 induction n with
 | zero=>rfl
 | succ n ih=>show sm n _+(f n+g n)=(sm n f+f n)+(sm n g+g n);rw[ih];lia
theorem bO (n:Nat) (a:Int) (f:Nat->Int):sm n (fun i=>a*f i)=a*sm n f:=by
 induction n with
 | zero=>exact(qBu a).symm
 | succ n ih=>show sm n _+a*f n=a*(sm n f+f n);rw[ih,qPv]
theorem cH {n:Nat}{f:Nat->Int} (h:∀i,i<n->f i=0):sm n f=0:=by
 induction n with
 | zero=>rfl
 | succ n ih=>show sm n f+f n=0;rw[ih fun i hi=>h i (by lia),h n (by lia)];rfl
theorem fU {n:Nat}{f:Nat->Int}{k:Nat} (hk:k<n) (h:∀i,i<n->i≠k->f i=0):sm n f=f k:=by
 induction n with
 | zero=>lia
 | succ n ih =>
  show sm n f+f n=f k;rcases qAl k n with z | z
  ·rw[ih z fun i hi=>h i (by lia),h n (by lia) (by lia)];lia
  ·have e:k=n:=by lia
   subst e;rw[cH fun i hi=>h i (by lia) (by lia)];lia
theorem xM {n:Nat}{f:Nat->Int}{k l:Nat} (hkl:k<l) (hl:l<n) (h:∀i,i<n->i≠k->i≠l->f i=0):sm n f=f k+f l:=by
 induction n with
 | zero=>lia
 | succ n ih =>
  show sm n f+f n=f k+f l;rcases qAl l n with z | z
  ·rw[ih z fun i hi=>h i (by lia),h n (by lia) (by lia) (by lia)];lia
  ·have e:l=n:=by lia
   subst e;rw[fU hkl fun i hi ne=>h i (by lia) ne (by lia)]
theorem lE (n m:Nat) (f:Nat->Nat->Int):sm n (fun i=>sm m fun j=>f i j)=sm m (fun j=>sm n fun i=>f i j):=by
 induction n with
 | zero=>exact(cH fun _ _=>rfl).symm
 | succ n ih =>
  show sm n (fun i=>sm m fun j=>f i j)+sm m (fun j=>f n j)=sm m (fun j=>sm n (fun i=>f i j)+f n j);rw[ih,fL]
theorem uY {n:Nat}{f g:Nat->Int} (h:∀i,i<n->f i<=g i):sm n f<=sm n g:=by
 induction n with
 | zero=>exact qDq _
 | succ n ih =>
  show sm n f+f n<=sm n g+g n;have:=ih fun i hi=>h i (by lia);have:=h n (by lia);lia
def sk (k i:Nat):Nat:=if i<k then i else i+1
def sg:Nat->Int
 | 0=>1
 | n+1=>- sg n
theorem MC (n:Nat):sg n=1\/sg n=-1:=by
 induction n with
 | zero=>exact .inl rfl
 | succ n ih=>rcases ih with h | h <;> simp[sg,h]
def det:Nat->(Nat->Nat->Int)->Int
 | 0,_=>1
 | m+1,c=>sm (m+1) fun k=>sg k*c k 0*det m (fun i r=>c (sk k i) (r+1))
def up (c:Nat->Nat->Int) (i:Nat) (v:Nat->Int):Nat->Nat->Int:=fun k=>if k=i then v else c k
theorem fD (c:Nat->Nat->Int) (i:Nat) (v:Nat->Int):up c i v i=v:=if_pos rfl
theorem g7 {c:Nat->Nat->Int}{i k:Nat}{v:Nat->Int} (h:k≠i):up c i v k=c k:=if_neg h
theorem jR (c:Nat->Nat->Int) (i:Nat):up c i (c i)=c:=by
 funext k
 unfold up;split
 ·rename_i h;rw[h]
 ·rfl
theorem eF (c:Nat->Nat->Int){i j:Nat} (v u:Nat->Int) (h:i≠j):up (up c i v) j u=up (up c j u) i v:=by
 funext k
 unfold up;split
 ·rename_i e;rw[if_neg (by lia)]
 ·rfl
theorem sQ {m:Nat}:∀{c d:Nat->Nat->Int},(∀k,k<m->∀r,r<m->c k r=d k r)->det m c=det m d:=by
 induction m with
 | zero=>intros;rfl
 | succ m ih =>
  intro c d h;refine bB fun k hk=>?_;rw[h k hk 0 (by lia),ih fun i hi r hr=>?_];show c (sk k i) (r+1)=d (sk k i) (r+1);refine h _ ?_ _ (by lia);unfold sk;split <;> lia
theorem mJ (c:Nat->Nat->Int) (k:Nat) (v:Nat->Int):(fun i r=>up c k v (sk k i) (r+1))=(fun i r=>c (sk k i) (r+1)):=by
 funext i r
 rw[g7];unfold sk;split <;> lia
def un (k j:Nat):Nat:=if j<k then j else j-1
theorem kJ (c:Nat->Nat->Int){k j:Nat} (h:k≠j) (v:Nat->Int):(fun i r=>up c j v (sk k i) (r+1))=up (fun i r=>c (sk k i) (r+1)) (un k j) (fun r=>v (r+1)):=by
 funext i r
 unfold up;by_cases e:sk k i=j
 ·rw[if_pos e,if_pos];unfold sk at e;unfold un;split at e <;> split <;> lia
 ·rw[if_neg e,if_neg];unfold sk at e;unfold un;split at e <;> split <;> lia
theorem MD {m k j:Nat} (hk:k<m+1) (hj:j<m+1) (h:k≠j):un k j<m:=by
 unfold un;split <;> lia
theorem g8 {m:Nat}:∀{c:Nat->Nat->Int}{j:Nat} (a b:Int) (u v:Nat->Int),j<m->det m (up c j fun r=>a*u r+b*v r)=a*det m (up c j u)+b*det m (up c j v):=by
 induction m with
 | zero=>intros;lia
 | succ m ih =>
  intro c j a b u v hj;unfold det;rw[<- bO,<- bO,<- fL];refine bB fun k hk=>?_;by_cases e:k=j
  ·subst e;rw[mJ,mJ,mJ,fD,fD,fD];grind
  ·rw[kJ c e,kJ c e,kJ c e,g7 e,g7 e,g7 e,ih a b (fun r=>u (r+1)) (fun r=>v (r+1)) (MD hk hj e)];grind
theorem zB {m:Nat}:∀{c:Nat->Nat->Int}{j:Nat},j+1<m->c j=c (j+1)->det m c=0:=by
 induction m with
 | zero=>intros;lia
 | succ m ih =>
  intro c j hj e;unfold det;rw[xM (k:=j) (l:=j+1) (by lia) hj fun k hk n1 n2=>?_]
  ·have e2:(fun i r=>c (sk j i) (r+1))=(fun i r=>c (sk (j+1) i) (r+1)):=by
    funext i r
    unfold sk;by_cases h1:i<j
    ·rw[if_pos h1,if_pos (by lia)]
    ·rw[if_neg h1];by_cases h2:i<j+1
     ·rw[if_pos h2,show i=j by lia,e]
     ·rw[if_neg h2]
   rw[e2,e];show sg j*_*_ + - sg j*_*_=0;grind
  ·rw[ih (j:=un k j) (by unfold un;split <;> lia)]
   ·exact qBu _
   ·funext r
    have h1:sk k (un k j)=j:=by
     unfold sk un;by_cases z:j<k
     ·rw[if_pos z,if_pos z]
     ·rw[if_neg z,if_neg (by lia)];lia
    have h2:sk k (un k j+1)=j+1:=by
     unfold sk un;by_cases z:j<k
     ·rw[if_pos z,if_pos (by lia)]
     ·rw[if_neg z,if_neg (by lia)];lia
    rw[h1,h2,e]
theorem Fc (m:Nat):det m (fun k r=>if k=r then 1 else 0)=1:=by
 induction m with
 | zero=>rfl
 | succ m ih =>
  unfold det;rw[fU (k:=0) (by lia) fun k hk ne=>by show sg k*(if k=0 then 1 else 0)*_=0;rw[if_neg ne];simp];have e:(fun(i r:Nat)=>(if sk 0 i=r+1 then (1:Int) else 0))=(fun k r=>if k=r then 1 else 0):=by
   funext i r
   have z:sk 0 i=i+1:=rfl;rw[z];by_cases h:i=r
   ·rw[if_pos h,if_pos (by lia)]
   ·rw[if_neg h,if_neg (by lia)]
  show sg 0*(if 0=0 then 1 else 0)*det m (fun(i r:Nat)=>(if sk 0 i=r+1 then (1:Int) else 0))=1;rw[e,ih];rfl
theorem Ba {m:Nat}{c:Nat->Nat->Int}{j:Nat} (u v:Nat->Int) (hj:j+1<m):det m (up (up c j u) (j+1) v)=- det m (up (up c j v) (j+1) u):=by
 have h0:∀w:Nat->Int,det m (up (up c j w) (j+1) w)=0:=fun w=>zB hj (by rw[g7 (by lia),fD,fD]);have ne:j≠j+1:=by lia
 have h:=h0 (fun r=>1*u r+1*v r);rw[g8 1 1 u v hj,eF c _ u ne,eF c _ v ne,g8 1 1 u v (by lia),g8 1 1 u v (by lia),<- eF c u u ne,<- eF c v u ne,<- eF c u v ne,<- eF c v v ne,h0 u,h0 v] at h;lia
theorem zC {m:Nat}:∀(n:Nat){c:Nat->Nat->Int}{j:Nat},j+n+1<m->c j=c (j+n+1)->det m c=0:=by
 intro n;induction n with
 | zero=>exact fun hj e=>zB hj e
 | succ n ih =>
  intro c j hj e;have z:=Ba (m:=m) (c:=c) (j:=j+n+1) (c (j+n+1)) (c (j+n+2)) (by lia);rw[jR,jR] at z;rw[z,ih (j:=j) (by lia)]
  ·rfl
  ·rw[g7 (by lia),g7 (by lia),g7 (by lia),fD];exact e
theorem lF {m:Nat}{c:Nat->Nat->Int}{i j:Nat} (hi:i<m) (hj:j<m) (ne:i≠j) (e:c i=c j):det m c=0:=by
 rcases qAl i j with h | h
 ·exact zC (j-i-1) (j:=i) (by lia) (by rw[show i+(j-i-1)+1=j by lia];exact e)
 ·exact zC (i-j-1) (j:=j) (by lia) (by rw[show j+(i-j-1)+1=i by lia];exact e.symm)
theorem CI {m:Nat}{c:Nat->Nat->Int}{i j:Nat} (u v:Nat->Int) (hi:i<m) (hj:j<m) (ne:i≠j):det m (up (up c i u) j v)=- det m (up (up c i v) j u):=by
 have h0:∀w:Nat->Int,det m (up (up c i w) j w)=0:=fun w=>lF hi hj ne (by rw[g7 ne,fD,fD]);have h:=h0 (fun r=>1*u r+1*v r);rw[g8 1 1 u v hj,eF c _ u ne,eF c _ v ne,g8 1 1 u v hi,g8 1 1 u v hi,<- eF c u u ne,<- eF c v u ne,<- eF c u v ne,<- eF c v v ne,h0 u,h0 v] at h;lia
theorem sS {m:Nat}{c:Nat->Nat->Int}{j:Nat} (hj:j<m):∀(n:Nat) (a:Nat->Int) (u:Nat->Nat->Int),det m (up c j fun r=>sm n fun k=>a k*u k r)=sm n fun k=>a k*det m (up c j (u k)):=by
 intro n a u;induction n with
 | zero =>
  show det m (up c j fun r=>0)=0;have z:=g8 (c:=c) 0 0 (fun _=>0) (fun _=>0) hj;have e:(fun r:Nat=>(0:Int)*(0:Int)+0*0)=fun _=>0:=rfl;have z2:det m (up c j fun r=>(0:Int)*(0:Int)+0*0)=_:=z;rw[e] at z2;lia
 | succ n ih =>
  show det m (up c j fun r=>sm n (fun k=>a k*u k r)+a n*u n r)=_+_;have z:=g8 (c:=c) 1 (a n) (fun r=>sm n fun k=>a k*u k r) (u n) hj;rw[show(fun r=>(1:Int)*(sm n fun k=>a k*u k r)+a n*u n r)=fun r=>sm n (fun k=>a k*u k r)+a n*u n r from funext fun r=>by rw[qCx]] at z;rw[z,ih];show 1*sm n _+a n*_=sm n _+a n*_;rw[qCx]
theorem CJ {m:Nat}{c:Nat->Nat->Int}{j:Nat} (hj:j<m) (a:Int) (u:Nat->Int):det m (up c j fun r=>a*u r)=a*det m (up c j u):=by
 have z:=sS (c:=c) hj 1 (fun _=>a) (fun _=>u);simp only[sm,qCk] at z;exact z
def pV:Nat->Nat
 | 0=>1
 | n+1=>(n+1)*pV n
theorem qS {m:Nat}{X:Nat}:∀{c:Nat->Nat->Int},(∀k r,k<m->r<m->(c k r).natAbs<=X)->(det m c).natAbs<=pV m*X^m:=by
 induction m with
 | zero=>intro c _;exact qAg _
 | succ m ih =>
  intro c h;have hb:∀k,k<m+1->(sg k*c k 0*det m (fun i r=>c (sk k i) (r+1))).natAbs<=X*(pV m*X^m):=fun k hk=>by
   rw[qDs,qDs];have h1:(sg k).natAbs=1:=by rcases MC k with e | e <;> rw[e] <;> rfl
   rw[h1,qIw];refine qOs (h k 0 hk (by lia)) (ih fun i r hi hr=>h _ _ ?_ (by lia));unfold sk;split <;> lia
  have hs:∀n,n<=m+1->(sm n fun k=>sg k*c k 0*det m (fun i r=>c (sk k i) (r+1))).natAbs<=n*(X*(pV m*X^m)):=by
   intro n;induction n with
   | zero=>intro _;show 0<=_;exact qBq _
   | succ n ih2 =>
    intro hn;refine qCu (qNw _ _) ?_;have a:=ih2 (by lia);have b:=hb n (by lia);rw[qMy,qIw];exact Nat.add_le_add a b
  refine qCu (hs (m+1) (qAg _)) (qIi ?_);show(m+1)*(X*(pV m*X^m))=(m+1)*pV m*X^(m+1);rw[qIh];simp only[qMc,qNq,qPe]
end Wg
namespace Wg
theorem sm_two' {n:Nat}{f:Nat->Int}{k l:Nat} (ne:k≠l) (hk:k<n) (hl:l<n) (h:∀i,i<n->i≠k->i≠l->f i=0):sm n f=f k+f l:=by
 rcases qAl k l with z | z
 ·exact xM z hl h
 ·rw[xM (k:=l) (l:=k) (by lia) hk fun i hi a b=>h i hi b a];lia
structure Fr (m:Nat) (M:Nat->Nat->Int) (d:Int) (R:Nat->Nat->Int) (ch:Nat->Nat) (s:Int):Prop where
 pos:0<d
 eq:∀j r,d*M j r=sm m fun k=>R k j*M (ch k) r
 sg:s=1\/s=-1
 det:d=s*det m fun k=>M (ch k)
variable {m:Nat}{M:Nat->Nat->Int}{d:Int}{R:Nat->Nat->Int}{ch:Nat->Nat}{s:Int}
theorem Fr.ss (h:Fr m M d R ch s):s*s=1:=by rcases h.sg with e | e <;> rw[e] <;> rfl
theorem Fr.ID (h:Fr m M d R ch s){B:Nat->Nat->Int}{i:Nat} (hi:i<m) (j:Nat):d*Wg.det m (up B i (M j))=sm m fun k=>R k j*Wg.det m (up B i (M (ch k))):=by
 rw[<- CJ hi,show(fun r=>d*M j r)=fun r=>sm m fun k=>R k j*M (ch k) r from funext fun r=>h.eq j r,sS hi]
theorem Fr.gL (h:Fr m M d R ch s){k:Nat} (hk:k<m) (j:Nat):R k j=s*Wg.det m (up (fun k=>M (ch k)) k (M j)):=by
 have z:=h.ID (B:=fun k=>M (ch k)) hk j;rw[fU hk fun i hi ne=>by rw[lF (i:=i) (j:=k) hi hk ne (by rw[g7 ne,fD])];exact qBu _] at z;rw[show up (fun k=>M (ch k)) k (M (ch k))=fun k=>M (ch k) from jR (fun k=>M (ch k)) k] at z;have hd:=h.det;have hp:=h.pos;have e:=h.ss;generalize Wg.det m (fun k=>M (ch k))=X at z hd;generalize Wg.det m (up (fun k=>M (ch k)) k (M j))=Y at z|-;have hX:X≠0:=fun x=>by rw[x] at hd;simp at hd;lia
 have z2:X*(s*Y)=X*R k j:=by
  rw[hd] at z;grind
 exact(qFl hX z2).symm
theorem Fr.unit (h:Fr m M d R ch s){k i:Nat} (hk:k<m) (hi:i<m):R k (ch i)=if k=i then d else 0:=by
 rw[h.gL hk];by_cases e:k=i
 ·rw[if_pos e,e,show up (fun k=>M (ch k)) i (M (ch i))=fun k=>M (ch k) from jR (fun k=>M (ch k)) i,<- h.det]
 ·rw[if_neg e,lF (i:=i) (j:=k) hi hk (fun z=>e z.symm) (by rw[g7 (fun z=>e z.symm),fD]),qBu]
theorem Fr.inj (h:Fr m M d R ch s){k i:Nat} (hk:k<m) (hi:i<m) (e:ch k=ch i):k=i:=by
 have a:=h.unit hk hi;rw[<- e,h.unit hk hk,if_pos rfl] at a;have:=h.pos;by_cases z:k=i
 ·exact z
 ·rw[if_neg z] at a;lia
theorem Fr.exact(h:Fr m M d R ch s){i p:Nat} (hi:i<m) (hp:p<m) (ne:i≠p) (j q:Nat):d∣R i j*R p q-R i q*R p j:=by
 have z:=h.ID (B:=up (fun k=>M (ch k)) i (M j)) hp q;rw[sm_two' (k:=p) (l:=i) (fun e=>ne e.symm) hp hi fun k hk n1 n2=>by
  rw[lF (i:=k) (j:=p) hk hp n1 (by rw[g7 n1,fD,g7 n2])];exact qBu _] at z
 rw[show up (up (fun k=>M (ch k)) i (M j)) p (M (ch p))=up (fun k=>M (ch k)) i (M j) by
  have e:=jR (up (fun k=>M (ch k)) i (M j)) p;rw[g7 (fun e=>ne e.symm)] at e;exact e] at z
 rw[CI (c:=fun k=>M (ch k)) (M j) (M (ch i)) hi hp ne,show up (fun k=>M (ch k)) i (M (ch i))=fun k=>M (ch k) from jR (fun k=>M (ch k)) i] at z;have a1:=h.gL hi j;have a2:=h.gL hp j;have e:=h.ss;refine⟨s*Wg.det m (up (up (fun k=>M (ch k)) i (M j)) p (M q)),?_⟩;generalize Wg.det m (up (up (fun k=>M (ch k)) i (M j)) p (M q))=E at z|-;generalize Wg.det m (up (fun k=>M (ch k)) i (M j))=X at z a1;generalize Wg.det m (up (fun k=>M (ch k)) p (M j))=Y at z a2;rw[a1,a2];grind
def sgn (x:Int):Int:=if x<0 then -1 else 1
theorem zD {x:Int} (h:x≠0):0<sgn x*x:=by unfold sgn;split <;> lia
theorem sT (x:Int):sgn x=1\/sgn x=-1:=by unfold sgn;split <;> lia
def hZ (d:Int) (R:Nat->Nat->Int) (p q:Nat):Nat->Nat->Int:=fun k j=>if k=p then sgn (R p q)*R p j else (R k j*(sgn (R p q)*R p q)-R k q*(sgn (R p q)*R p j))/d
def Fd (ch:Nat->Nat) (p q:Nat):Nat->Nat:=fun k=>if k=p then q else ch k
theorem Fr.hZ (h:Fr m M d R ch s){p q:Nat} (hp:p<m){k:Nat} (hk:k<m) (ne:k≠p) (j:Nat):d*hZ d R p q k j=R k j*(sgn (R p q)*R p q)-R k q*(sgn (R p q)*R p j):=by
 unfold Wg.hZ;rw[if_neg ne];refine Int.mul_ediv_cancel' ?_;obtain⟨c,hc⟩:=h.exact hk hp ne j q;exact⟨sgn (R p q)*c,by grind⟩
theorem Fr.next (h:Fr m M d R ch s){p q:Nat} (hp:p<m) (hq:R p q≠0):Fr m M (sgn (R p q)*R p q) (Wg.hZ d R p q) (Fd ch p q) (sgn (R p q)*s):=by
 have hd:d≠0:=by have:=h.pos;lia
 refine⟨zD hq,fun j r=>?_,?_,?_⟩
 ·have e1:=h.eq j r;have e2:=h.eq q r;refine qFl hd ?_;rw[<- bO];have e3:sm m (fun k=>d*(Wg.hZ d R p q k j*M (Fd ch p q k) r))=sm m fun k=>(sgn (R p q)*R p q)*(R k j*M (ch k) r)+(-(sgn (R p q)*R p j)*(R k q*M (ch k) r)+if k=p then d*(sgn (R p q)*R p j)*M q r else 0):=by
   refine bB fun k hk=>?_;by_cases e:k=p
   ·subst e;unfold Wg.hZ Fd;rw[if_pos rfl,if_pos rfl,if_pos rfl];grind
   ·have z:=h.hZ (q:=q) hp hk e j;rw[if_neg e];unfold Fd;rw[if_neg e];generalize Wg.hZ d R p q k j=X at z|-;generalize sgn (R p q)=S at z|-;grind
  rw[e3,fL,bO,fL,bO,<- e1,<- e2,fU (k:=p) hp fun i hi ne=>if_neg ne,if_pos rfl];grind
 ·rcases sT (R p q) with e | e <;> rcases h.sg with e2 | e2 <;> rw[e,e2] <;> decide
 ·rw[show(fun k=>M (Fd ch p q k))=up (fun k=>M (ch k)) p (M q) from funext fun k=>by unfold Fd up;split <;> rfl]
  have z:=h.gL hp q;grind
theorem Fr.uniq {d':Int}{R':Nat->Nat->Int}{ch':Nat->Nat}{s':Int} (h:Fr m M d R ch s) (h':Fr m M d' R' ch' s') (e:∀k,k<m->ch k=ch' k):d=d'/\∀k,k<m->∀j,R k j=R' k j:=by
 have eb:∀(v:Nat->Int) (i:Nat),Wg.det m (up (fun k=>M (ch k)) i v)=Wg.det m (up (fun k=>M (ch' k)) i v):=fun v i=>sQ fun k hk r _=>by
  unfold up;split
  ·rfl
  ·show M (ch k) r=M (ch' k) r;rw[e k hk]
 have e0:Wg.det m (fun k=>M (ch k))=Wg.det m (fun k=>M (ch' k)):=sQ fun k hk r _=>by rw[e k hk]
 have es:s=s':=by
  have a:=h.det;have b:=h'.det;have:=h.pos;have:=h'.pos;rw[<- e0] at b;rcases h.sg with x | x <;> rcases h'.sg with y | y <;> rw[x] at a <;> rw[y] at b <;> lia
 refine⟨by rw[h.det,h'.det,e0,es],fun k hk j=>?_⟩;rw[h.gL hk,h'.gL hk,eb,es]
theorem Fr.bound (h:Fr m M d R ch s){X:Nat} (hX:∀j r,(M j r).natAbs<=X):d.natAbs<=pV m*X^m/\∀k,k<m->∀j,(R k j).natAbs<=pV m*X^m:=by
 have a:s.natAbs=1:=by rcases h.sg with e | e <;> rw[e] <;> rfl
 refine⟨?_,fun k hk j=>?_⟩
 ·rw[h.det,qDs,a,qIw];exact qS fun k r _ _=>hX _ r
 ·rw[h.gL hk,qDs,a,qIw];refine qS fun i r _ _=>?_;unfold up;split
  ·exact hX _ r
  ·exact hX _ r
end Wg
namespace Wg
def red (m:Nat) (c:Nat->Int) (d:Int) (R:Nat->Nat->Int) (ch:Nat->Nat) (j:Nat):Int:=c j*d-sm m fun k=>c (ch k)*R k j
structure St where
 d:Int
 R:Nat->Nat->Int
 ch:Nat->Nat
 s:Int
variable {m n L:Nat}{M:Nat->Nat->Int}{c:Nat->Int}
def St.ok (m:Nat) (M:Nat->Nat->Int) (S:St):Prop:=Fr m M S.d S.R S.ch S.s
def St.red (m:Nat) (c:Nat->Int) (S:St) (j:Nat):Int:=Wg.red m c S.d S.R S.ch j
def St.next (S:St) (p q:Nat):St:=⟨sgn (S.R p q)*S.R p q,hZ S.d S.R p q,Fd S.ch p q,sgn (S.R p q)*S.s⟩
structure Goes (m n L:Nat) (c:Nat->Int) (S:St) (p q:Nat):Prop where
 qn:q<n
 more:0<S.red m c q
 least:∀j,j<q->S.red m c j<=0
 pm:p<m
 pos:0<S.R p q
 ahead:∀k,k<m->0<S.R k q->S.R p L*S.R k q<S.R k L*S.R p q\/(S.R p L*S.R k q=S.R k L*S.R p q/\S.ch p<=S.ch k)
theorem kK {x:Int} (h:0<x):sgn x=1:=by unfold sgn;rw[if_neg (by lia)]
theorem St.zE {S:St} (h:S.ok m M){p q:Nat} (hp:p<m) (hq:S.R p q≠0):(S.next p q).ok m M:=Fr.next h hp hq
theorem St.IE {S:St}{p q:Nat} (hq:0<S.R p q):(S.next p q).d=S.R p q:=by
 show sgn _*_=_;rw[kK hq,qCx]
theorem St.xN {S:St}{p q:Nat} (hq:0<S.R p q) (j:Nat):(S.next p q).R p j=S.R p j:=by
 show hZ _ _ _ _ _ _=_;unfold hZ;rw[if_pos rfl,kK hq,qCx]
theorem St.xO {S:St} (h:S.ok m M){p q:Nat} (hp:p<m) (hq:0<S.R p q){k:Nat} (hk:k<m) (ne:k≠p) (j:Nat):S.d*(S.next p q).R k j=S.R k j*S.R p q-S.R k q*S.R p j:=by
 have z:=Fr.hZ h (q:=q) hp hk ne j;rw[kK hq,qCx,qCx] at z;exact z
theorem St.gM {S:St}{p q:Nat}:(S.next p q).ch p=q:=if_pos rfl
theorem St.fE {S:St}{p q k:Nat} (ne:k≠p):(S.next p q).ch k=S.ch k:=if_neg ne
theorem St.CK {S:St} (h:S.ok m M){p q:Nat} (hp:p<m) (hq:0<S.R p q) (c:Nat->Int) (j:Nat):S.d*(sm m fun k=>c ((S.next p q).ch k)*(S.next p q).R k j)=S.R p q*(sm m fun k=>c (S.ch k)*S.R k j)+S.R p j*S.red m c q:=by
 unfold St.red Wg.red;rw[<- bO];have e:sm m (fun k=>S.d*(c ((S.next p q).ch k)*(S.next p q).R k j))=sm m fun k=>S.R p q*(c (S.ch k)*S.R k j)+(-(S.R p j)*(c (S.ch k)*S.R k q)+if k=p then S.d*c q*S.R p j else 0):=by
  refine bB fun k hk=>?_;by_cases e:k=p
  ·subst e;rw[if_pos rfl,St.gM,St.xN hq];grind
  ·have z:=St.xO h hp hq hk e j;rw[if_neg e,St.fE e];generalize (S.next p q).R k j=X at z|-;grind
 rw[e,fL,bO,fL,bO,fU (k:=p) hp fun i hi ne=>if_neg ne,if_pos rfl];grind
theorem St.Bb {S:St} (h:S.ok m M){p q:Nat} (g:Goes m n L c S p q) (hf:∀k,k<m->0<=S.R k L):∀k,k<m->0<=(S.next p q).R k L:=fun k hk=>by
 by_cases e:k=p
 ·subst e;rw[St.xN g.pos];exact hf k hk
 ·have z:=St.xO h g.pm g.pos hk e L;have hd:=Fr.pos h;have h0:0<=S.R k L*S.R p q-S.R k q*S.R p L:=by
   rcases qHi 0 (S.R k q) with y | y
   ·have:=g.ahead k hk y;have e1:S.R p L*S.R k q=S.R k q*S.R p L:=qCp _ _;rcases this with a | ⟨a,_⟩ <;> lia
   ·have a:=qEj (hf k hk) (qCe g.pos);have b:=Int.mul_nonpos_of_nonpos_of_nonneg y (hf p g.pm);lia
  rw[<- z] at h0;exact qJw h0 hd
theorem St.jS {S:St} (h:S.ok m M){k:Nat} (hk:k<m) (c:Nat->Int):S.red m c (S.ch k)=0:=by
 unfold St.red Wg.red;rw[fU hk fun i hi ne=>by rw[Fr.unit h hi hk,if_neg ne,qBu],Fr.unit h hk hk,if_pos rfl];lia
theorem St.IF {S S':St} (h:S.ok m M) (h':S'.ok m M) (c:Nat->Int) (j:Nat):S.d*S'.red m c j-(sm m fun k=>S'.red m c (S.ch k)*S.R k j)=S'.d*S.red m c j:=by
 have key:∀l,l<m->S.d*S'.R l j=sm m fun k=>S.R k j*S'.R l (S.ch k):=fun l hl=>by
  have e:=Fr.ID h (B:=fun k=>M (S'.ch k)) hl j;have z:S.d*S'.R l j=S'.s*(S.d*det m (up (fun k=>M (S'.ch k)) l (M j))):=by
   rw[Fr.gL h' hl];grind
  rw[z,e,<- bO];refine bB fun k hk=>?_;rw[Fr.gL h' hl];grind
 unfold St.red Wg.red;have e1:sm m (fun k=>(c (S.ch k)*S'.d-sm m fun l=>c (S'.ch l)*S'.R l (S.ch k))*S.R k j)=S'.d*(sm m fun k=>c (S.ch k)*S.R k j)-sm m fun l=>c (S'.ch l)*(S.d*S'.R l j):=by
  have e2:sm m (fun l=>c (S'.ch l)*(S.d*S'.R l j))=sm m fun k=>S.R k j*sm m fun l=>c (S'.ch l)*S'.R l (S.ch k):=by
   have e3:sm m (fun l=>c (S'.ch l)*(S.d*S'.R l j))=sm m fun l=>sm m fun k=>S.R k j*(c (S'.ch l)*S'.R l (S.ch k)):=by
    refine bB fun l hl=>?_;rw[key l hl,<- bO];refine bB fun k hk=>?_;grind
   rw[e3,lE];refine bB fun k hk=>?_;rw[bO]
  rw[e2,show ∀a b:Int,a-b=a+(-1)*b from fun a b=>by lia,<- bO,<- bO,<- fL];refine bB fun k hk=>?_;grind
 rw[e1];have e4:sm m (fun l=>c (S'.ch l)*(S.d*S'.R l j))=S.d*sm m fun l=>c (S'.ch l)*S'.R l j:=by
  rw[<- bO];refine bB fun k hk=>?_;grind
 rw[e4];grind
theorem IG {n:Nat}{f:Nat->Int} (h:sm n f<0):∃k,k<n/\f k<0:=by
 induction n with
 | zero=>simp[sm] at h
 | succ n ih =>
  have h':sm n f+f n<0:=h;rcases qHi (f n) 0 with z | z
  ·exact⟨n,by lia,z⟩
  ·obtain⟨k,hk,y⟩:=ih (by lia);exact⟨k,by lia,y⟩
structure Run (m n L:Nat) (M:Nat->Nat->Int) (c:Nat->Int) (T:Nat) (st:Nat->St) (p q:Nat->Nat):Prop where
 ok:(st 0).ok m M
 ME:∀k,k<m->0<=(st 0).R k L
 nH:∀i,i<T->Goes m n L c (st i) (p i) (q i)
 next:∀i,i<T->st (i+1)=(st i).next (p i) (q i)
section
variable {T:Nat}{st:Nat->St}{p q:Nat->Nat}
theorem Run.qT (r:Run m n L M c T st p q):∀i,i<=T->(st i).ok m M/\∀k,k<m->0<=(st i).R k L:=by
 intro i;induction i with
 | zero=>exact fun _=>⟨r.ok,r.ME⟩
 | succ i ih =>
  intro h;obtain⟨a,b⟩:=ih (by lia);have g:=r.nH i (by lia);rw[r.next i (by lia)];exact⟨St.zE a g.pm (by have:=g.pos;lia),St.Bb a g b⟩
def St.val (m L:Nat) (c:Nat->Int) (S:St):Int:=sm m fun k=>c (S.ch k)*S.R k L
theorem Run.uZ (r:Run m n L M c T st p q){i:Nat} (h:i<T):(st i).d*(st (i+1)).val m L c=(st (i+1)).d*(st i).val m L c+(st i).R (p i) L*(st i).red m c (q i):=by
 have g:=r.nH i h;have z:=St.CK (r.qT i (by lia)).1 g.pm g.pos c L;rw[<- St.IE g.pos,<- r.next i h] at z;exact z
theorem oR {a b e x y z:Int} (hb:0<b) (ha:0<a) (he:0<e) (h1:x*b<=y*a) (h2:y*e<=z*b):x*e<=z*a:=by
 have a1:=qDa h1 (qCe he);have a2:=qDa h2 (qCe ha);have:b*(x*e)<=b*(z*a):=by grind
 exact Int.le_of_mul_le_mul_left this hb
theorem vA {a b e x y z:Int} (hb:0<b) (ha:0<a) (he:0<e) (h1:x*b<=y*a) (h2:y*e<z*b):x*e<z*a:=by
 have a1:=qDa h1 (qCe he);have a2:=qEk h2 ha;have:b*(x*e)<b*(z*a):=by grind
 exact qLe this (qCe hb)
theorem qU {a b e x y z:Int} (hb:0<b) (ha:0<a) (he:0<e) (h1:x*b<y*a) (h2:y*e<=z*b):x*e<z*a:=by
 have a1:=qEk h1 he;have a2:=qDa h2 (qCe ha);have:b*(x*e)<b*(z*a):=by grind
 exact qLe this (qCe hb)
theorem Run.vB (r:Run m n L M c T st p q){a:Nat}:∀k,a+k<=T->(st a).val m L c*(st (a+k)).d<=(st (a+k)).val m L c*(st a).d:=by
 intro k;induction k with
 | zero=>exact fun _=>qDq _
 | succ k ih =>
  intro h;have h1:=ih (by lia);have z:=r.uZ (i:=a+k) (by lia);have pa:=Fr.pos (r.qT a (by lia)).1;have pk:=Fr.pos (r.qT (a+k) (by lia)).1;have pk1:=Fr.pos (r.qT (a+k+1) (by lia)).1;have g:=r.nH (a+k) (by lia);have nn:=qEj ((r.qT (a+k) (by lia)).2 _ g.pm) (qCe g.more);exact oR pk pa pk1 h1 (by grind)
theorem Run.vC (r:Run m n L M c T st p q){a b:Nat} (hab:a<b) (hb:b<=T) (e:∀k,k<m->(st a).ch k=(st b).ch k):∀i,a<=i->i<b->(st i).R (p i) L=0:=fun i h1 h2=>by
 obtain⟨ed,eR⟩:=Fr.uniq (r.qT a (by lia)).1 (r.qT b hb).1 e;have ev:(st a).val m L c=(st b).val m L c:=bB fun k hk=>by rw[e k hk,eR k hk]
 have g:=r.nH i (by lia);have f:=(r.qT i (by lia)).2 _ g.pm;rcases qHi 0 ((st i).R (p i) L) with y | y
 ·exfalso;have z:=r.uZ (i:=i) (by lia);have pos:=qGy y g.more;have pa:=Fr.pos (r.qT a (by lia)).1;have pi:=Fr.pos (r.qT i (by lia)).1;have pi1:=Fr.pos (r.qT (i+1) (by lia)).1;have pb:=Fr.pos (r.qT b hb).1;have m1:=r.vB (a:=a) (i-a) (by lia);rw[show a+(i-a)=i by lia] at m1;have m2:=r.vB (a:=i+1) (b-(i+1)) (by lia);rw[show i+1+(b-(i+1))=b by lia] at m2;have s1:(st a).val m L c*(st (i+1)).d<(st (i+1)).val m L c*(st a).d:=vA pi pa pi1 m1 (by grind);have s2:=qU pi1 pa pb s1 m2;rw[ev,ed] at s2;lia
 ·lia
def St.has (m:Nat) (S:St) (j:Nat):Prop:=∃k,k<m/\S.ch k=j
def St.nil (m L:Nat) (S:St) (j:Nat):Prop:=∀k,k<m->S.ch k=j->S.R k L=0
theorem round {P:Nat->Prop}{a b:Nat} (h:∀i,a<=i->i<b->P i->P (i+1)) (e:P b->P a){i j:Nat} (ai:a<=i) (ib:i<=b) (aj:a<=j) (jb:j<=b) (hi:P i):P j:=by
 have up:∀k x,a<=x->x+k<=b->P x->P (x+k):=by
  intro k;induction k with
  | zero=>exact fun _ _ _ h=>h
  | succ k ih=>exact fun x h1 h2 h3=>h (x+k) (by lia) (by lia) (ih x h1 (by lia) h3)
 have hb:=up (b-i) i ai (by lia) hi;rw[show i+(b-i)=b by lia] at hb;have z:=up (j-a) a (qAg _) (by lia) (e hb);rw[show a+(j-a)=j by lia] at z;exact z
theorem sU {P:Nat->Prop}{a b:Nat}{f:Nat->Nat} (hab:a<b):∃i,a<=i/\i<b/\∀j,a<=j->j<b->f j<=f i:=by
 have up:∀k,∃i,a<=i/\i<a+k+1/\∀j,a<=j->j<a+k+1->f j<=f i:=by
  intro k;induction k with
  | zero=>exact⟨a,qAg _,by lia,fun j h1 h2=>by rw[show j=a by lia];exact qAg _⟩
  | succ k ih =>
   obtain⟨i,h1,h2,h3⟩:=ih;rcases qAl (f i) (f (a+k+1)) with z | z
   ·exact⟨a+k+1,by lia,by lia,fun j j1 j2=>by
     by_cases e:j=a+k+1
     ·rw[e];exact qAg _
     ·have:=h3 j j1 (by lia);lia⟩
   ·exact⟨i,h1,by lia,fun j j1 j2=>by
     by_cases e:j=a+k+1
     ·rw[e];exact z
     ·exact h3 j j1 (by lia)⟩
 have z:=up (b-a-1);rw[show a+(b-a-1)+1=b by lia] at z;exact z
theorem Run.Fe (r:Run m n L M c T st p q){a b:Nat} (hab:a<b) (hb:b<=T) (e:∀k,k<m->(st a).ch k=(st b).ch k):False:=by
 have vC:=r.vC hab hb e;obtain⟨_,eR⟩:=Fr.uniq (r.qT a (by lia)).1 (r.qT b hb).1 e;obtain⟨i1,a1,b1,mx⟩:=sU (P:=fun _=>True) (f:=q) hab;have hasE:∀j,St.has m (st b) j->St.has m (st a) j:=fun j ⟨k,hk,z⟩=>⟨k,hk,by rw[e k hk];exact z⟩;have hasE':∀j,St.has m (st a) j->St.has m (st b) j:=fun j ⟨k,hk,z⟩=>⟨k,hk,by rw[<- e k hk];exact z⟩;have nilE:∀j,St.nil m L (st b) j->St.nil m L (st a) j:=fun j h k hk z=>by rw[eR k hk];exact h k hk (by rw[<- e k hk];exact z)
 have comes:∀j i i',a<=i->i<=b->a<=i'->i'<=b->¬St.has m (st i) j->St.has m (st i') j->∃x,a<=x/\x<b/\q x=j:=fun j i i' x1 x2 y1 y2 no yes=>by
  refine qBj fun nx=>?_;refine round (P:=fun i=>¬St.has m (st i) j) (fun i u1 u2 h ⟨k,hk,z⟩=>?_) (fun h z=>h (hasE' j z)) x1 x2 y1 y2 no yes;rw[r.next i (by lia)] at z;by_cases ek:k=p i
  ·rw[ek,St.gM] at z;exact nx ⟨i,u1,u2,z⟩
  ·rw[St.fE ek] at z;exact h ⟨k,hk,z⟩
 have nilR:∀j i i',a<=i->i<=b->a<=i'->i'<=b->St.nil m L (st i) j->St.nil m L (st i') j:=fun j i i' x1 x2 y1 y2 h=>by
  refine round (P:=fun i=>St.nil m L (st i) j) (fun i u1 u2 h k hk z=>?_) (nilE j) x1 x2 y1 y2 h;have g:=r.nH i (by lia);have okI:=(r.qT i (by lia)).1;rw[r.next i (by lia)] at z|-;by_cases ek:k=p i
  ·rw[ek,St.xN g.pos];exact vC i u1 u2
  ·rw[St.fE ek] at z;have w:=St.xO okI g.pm g.pos hk ek L;rw[h k hk z,vC i u1 u2,qBi,qBu] at w;have pd:=Fr.pos okI;have w':(st i).d*((st i).next (p i) (q i)).R k L=0:=by rw[w];rfl
   rcases Int.mul_eq_zero.mp w' with v | v
   ·lia
   ·exact v
 have g1:=r.nH i1 (by lia);have Lz:=(r.qT i1 (by lia)).1;have not1:¬St.has m (st i1) (q i1):=fun⟨k,hk,z⟩=>by
  have w:=St.jS Lz hk c;rw[z] at w;have:=g1.more;lia
 have yes1:St.has m (st (i1+1)) (q i1):=⟨p i1,g1.pm,by rw[r.next i1 (by lia)];exact St.gM⟩;have nH:∃i,a<=i/\i<b/\(st i).ch (p i)=q i1:=by
  refine qBj fun nx=>?_;refine not1 (round (P:=fun i=>St.has m (st i) (q i1)) (fun i u1 u2 ⟨k,hk,z⟩=>?_) (hasE _) (i:=i1+1) (j:=i1) (by lia) (by lia) a1 (by lia) yes1);rw[r.next i (by lia)];by_cases ek:k=p i
  ·exact absurd ⟨i,u1,u2,by rw[<- ek];exact z⟩ nx
  ·exact⟨k,hk,by rw[St.fE ek];exact z⟩
 obtain⟨i2,a2,b2,e2⟩:=nH;have g2:=r.nH i2 (by lia);have ok2:=(r.qT i2 (by lia)).1;have not2:q i2≠q i1:=fun z=>by
  have w:=St.jS ok2 g2.pm c;rw[e2,<- z] at w;have:=g2.more;lia
 have lt2:q i2<q i1:=by have:=mx i2 a2 b2;lia
 have key:=St.IF ok2 Lz c (q i2);have le:=g1.least _ lt2;have posd:=Fr.pos Lz;have posd2:=Fr.pos ok2;have rhs:=qGy posd g2.more;have l0:(st i2).d*(st i1).red m c (q i2)<=0:=by
  have:=qEj (qCe posd2) (show 0<=-((st i1).red m c (q i2)) by lia);rw[qNb] at this;lia
 obtain⟨k,hk,neg⟩:=IG (n:=m) (f:=fun k=>(st i1).red m c ((st i2).ch k)*(st i2).R k (q i2)) (by lia);have neg:(st i1).red m c ((st i2).ch k)*(st i2).R k (q i2)<0:=neg;have nob:¬St.has m (st i1) ((st i2).ch k):=fun⟨k',hk',z⟩=>by
  have w:=St.jS Lz hk' c;rw[z] at w;rw[w,qBi] at neg;lia
 obtain⟨x,x1,x2,ex⟩:=comes _ i1 i2 a1 (by lia) a2 (by lia) nob ⟨k,hk,rfl⟩;have lex:=mx x x1 x2;rw[ex] at lex;by_cases et:(st i2).ch k=q i1
 ·have kp:k=p i2:=Fr.inj ok2 hk g2.pm (by rw[et,e2]);rw[et,kp] at neg;have:=qGy g1.more g2.pos;lia
 ·have lt:(st i2).ch k<q i1:=by lia
  have le2:=g1.least _ lt;have pos:0<(st i2).R k (q i2):=by
   rcases qHi 0 ((st i2).R k (q i2)) with y | y
   ·exact y
   ·have:=qEj (show 0<=-((st i1).red m c ((st i2).ch k)) by lia) (show 0<=-((st i2).R k (q i2)) by lia);rw[qKu] at this;lia
  have z0:(st i2).R k L=0:=nilR _ i1 i2 a1 (by lia) a2 (by lia) (fun k' hk' z=>absurd ⟨k',hk',z⟩ nob) k hk rfl;have z1:=vC i2 a2 b2;rcases g2.ahead k hk pos with y | ⟨_,y⟩
  ·rw[z0,z1,qBi,qBi] at y;lia
  ·rw[e2] at y;lia
end
end Wg
namespace Wg
theorem IH:∀(K T:Nat) (f:Nat->Nat),(∀i,i<=T->f i<K)->(∀i j,i<j->j<=T->f i≠f j)->T<K:=by
 intro K;induction K with
 | zero=>intro T f h _;exact absurd (h 0 (by lia)) (by lia)
 | succ K ih =>
  intro T f h inj;by_cases ex:∃i,i<=T/\f i=K
  ·obtain⟨i0,h0,e0⟩:=ex;cases T with
   | zero=>lia
   | succ T =>
    have z:=ih T (fun i=>if i=i0 then f (T+1) else f i) (fun i hi=>?_) (fun i j ij jT=>?_)
    ·lia
    ·show(if i=i0 then f (T+1) else f i)<K;split
     ·rename_i e;have a:=h (T+1) (by lia);have b:=inj i (T+1) (by lia) (by lia);rw[e,e0] at b;lia
     ·rename_i e;have a:=h i (by lia);have:f i≠K:=fun z=>by
       rcases qAl i i0 with y | y
       ·exact inj i i0 y h0 (by lia)
       ·exact inj i0 i (by lia) (by lia) (by lia)
      lia
    ·show(if i=i0 then f (T+1) else f i)≠(if j=i0 then f (T+1) else f j);split
     ·rw[if_neg (by lia)];exact fun z=>inj j (T+1) (by lia) (by lia) z.symm
     ·split
      ·exact inj i (T+1) (by lia) (by lia)
      ·exact inj i j ij (by lia)
  ·have z:=ih T f (fun i hi=>?_) inj
   ·lia
   ·have a:=h i hi;have:f i≠K:=fun z=>ex ⟨i,hi,z⟩;lia
def code (N:Nat) (ch:Nat->Nat):Nat->Nat
 | 0=>0
 | k+1=>code N ch k*N+ch k
theorem Ff {N:Nat}{ch:Nat->Nat}:∀m,(∀k,k<m->ch k<N)->code N ch m<N^m:=by
 intro m;induction m with
 | zero=>exact fun _=>Nat.one_pos
 | succ m ih =>
  intro h;have a:=ih fun k hk=>h k (by lia);have b:=h m (by lia);show code N ch m*N+ch m<N^m*N;have:(code N ch m+1)*N<=N^m*N:=qMl N a;rw[qMy] at this;lia
theorem code_inj {N:Nat}{ch ch':Nat->Nat}:∀m,(∀k,k<m->ch k<N)->(∀k,k<m->ch' k<N)->code N ch m=code N ch' m->∀k,k<m->ch k=ch' k:=by
 intro m;induction m with
 | zero=>intros;lia
 | succ m ih =>
  intro h h' e k hk;have e:code N ch m*N+ch m=code N ch' m*N+ch' m:=e;have a:=h m (by lia);have b:=h' m (by lia);have e1:ch m=ch' m:=by
   have:=congrArg (· % N) e;simp only[Nat.mul_add_mod_self_right,qOd a,qOd b] at this;exact this
  have e2:code N ch m=code N ch' m:=by
   rw[e1] at e;exact Nat.eq_of_mul_eq_mul_right (by lia) (Nat.add_right_cancel e)
  by_cases z:k=m
  ·rw[z,e1]
  ·exact ih (fun k hk=>h k (by lia)) (fun k hk=>h' k (by lia)) e2 k (by lia)
variable {m n L:Nat}{M:Nat->Nat->Int}{c:Nat->Int}{T:Nat}{st:Nat->St}{p q:Nat->Nat}
theorem Run.Oy (r:Run m n L M c T st p q){N:Nat} (hn:n<=N) (h:∀k,k<m->(st 0).ch k<N):∀i,i<=T->∀k,k<m->(st i).ch k<N:=by
 intro i;induction i with
 | zero=>exact fun _=>h
 | succ i ih =>
  intro hi k hk;rw[r.next i (by lia)];have g:=r.nH i (by lia);by_cases e:k=p i
  ·rw[e,St.gM];have:=g.qn;lia
  ·rw[St.fE e];exact ih (by lia) k hk
theorem Run.ends (r:Run m n L M c T st p q){N:Nat} (hn:n<=N) (h:∀k,k<m->(st 0).ch k<N):T<N^m :=
 IH (N^m) T (fun i=>code N (st i).ch m) (fun i hi=>Ff m (r.Oy hn h i hi)) fun i j ij jT z =>
  r.Fe ij jT (code_inj m (r.Oy hn h i (by lia)) (r.Oy hn h j jT) z)
theorem Run.more (r:Run m n L M c T st p q){p' q':Nat} (g:Goes m n L c (st T) p' q'):∃st' p2 q2,Run m n L M c (T+1) st' p2 q2/\st' 0=st 0/\st' (T+1)=(st T).next p' q':=by
 refine⟨fun i=>if i<=T then st i else (st T).next p' q',fun i=>if i<T then p i else p',fun i=>if i<T then q i else q',⟨?_,?_,fun i hi=>?_,fun i hi=>?_⟩,if_pos (by lia),if_neg (by lia)⟩
 ·rw[if_pos (by lia)];exact r.ok
 ·rw[if_pos (by lia)];exact r.ME
 ·by_cases e:i<T
  ·rw[if_pos (by lia),if_pos e,if_pos e];exact r.nH i e
  ·rw[if_pos (by lia),if_neg e,if_neg e,show i=T by lia];exact g
 ·by_cases e:i<T
  ·rw[if_pos (by lia),if_pos (by lia),if_pos e,if_pos e];exact r.next i e
  ·rw[if_neg (by lia),if_pos (by lia),if_neg e,if_neg e,show i=T by lia]
theorem Run.none {S:St} (h:S.ok m M) (f:∀k,k<m->0<=S.R k L):Run m n L M c 0 (fun _=>S) (fun _=>0) (fun _=>0) :=
 ⟨h,f,fun i hi=>by lia,fun i hi=>by lia⟩
theorem Run.keeps (r:Run m n L M c T st p q){P:St->Prop} (h0:P (st 0)) (h:∀S p q,S.ok m M->(∀k,k<m->0<=S.R k L)->Goes m n L c S p q->P S->P (S.next p q)):P (st T):=by
 have z:∀i,i<=T->P (st i):=by
  intro i;induction i with
  | zero=>exact fun _=>h0
  | succ i ih =>
   intro hi;rw[r.next i (by lia)];exact h _ _ _ (r.qT i (by lia)).1 (r.qT i (by lia)).2 (r.nH i (by lia)) (ih (by lia))
 exact z T (qAg _)
def fX (m n:Nat) (A:Nat->Nat->Int) (due:Nat->Int):Nat->Nat->Int:=fun j r =>
 if r<m then if j<n then sgn (due r)*A j r else if j<n+m then (if j=n+r then 1 else 0) else if j=n+m then sgn (due r)*due r else 0 else 0
variable {A:Nat->Nat->Int}{due:Nat->Int}
theorem mK {i r:Nat} (hi:i<m):fX m n A due (n+i) r=if r=i then 1 else 0:=by
 unfold fX;by_cases hr:r<m
 ·rw[if_pos hr,if_neg (by lia),if_pos (by lia)];by_cases e:r=i
  ·rw[if_pos e,if_pos (by lia)]
  ·rw[if_neg e,if_neg (by lia)]
 ·rw[if_neg hr,if_neg (by lia)]
theorem zF {j r:Nat} (hr:¬r<m):fX m n A due j r=0:=if_neg hr
theorem nU {j r:Nat} (hr:r<m) (hj:j<n):fX m n A due j r=sgn (due r)*A j r:=by unfold fX;rw[if_pos hr,if_pos hj]
theorem sV {r:Nat} (hr:r<m):fX m n A due (n+m) r=sgn (due r)*due r:=by unfold fX;rw[if_pos hr,if_neg (by lia),if_neg (by lia),if_pos rfl]
theorem xP (j r:Nat):fX m n A due j r=sm m fun i=>fX m n A due j i*fX m n A due (n+i) r:=by
 by_cases hr:r<m
 ·rw[fU (k:=r) hr fun i hi ne=>by rw[mK hi,if_neg (fun e=>ne e.symm),qBu],mK hr,if_pos rfl,qFe]
 ·rw[zF hr,cH fun i hi=>by rw[zF hr,qBu]]
def start (m n:Nat) (A:Nat->Nat->Int) (due:Nat->Int):St:=⟨1,fun k j=>fX m n A due j k,fun k=>n+k,1⟩
theorem CL:(start m n A due).ok m (fX m n A due):=by
 refine⟨by show(0:Int)<1;decide,fun j r=>?_,.inl rfl,?_⟩
 ·show 1*_=_;rw[qCx];exact xP j r
 ·show 1=1*det m (fun k=>fX m n A due (n+k));rw[qCx,<- Fc m];refine sQ fun k hk r hr=>?_;rw[mK hk];by_cases e:k=r
  ·rw[if_pos e,if_pos e.symm]
  ·rw[if_neg e,if_neg (fun z=>e z.symm)]
theorem II (x:Int):0<=sgn x*x:=by unfold sgn;split <;> lia
theorem xQ:∀k,k<m->0<=(start m n A due).R k (n+m):=fun k hk=>by
 show 0<=fX m n A due (n+m) k;rw[sV hk];exact II _
theorem Fg {S:St} (h:S.ok m (fX m n A due)){k:Nat} (hk:k<m) (j:Nat):S.R k j=sm m fun i=>fX m n A due j i*S.R k (n+i):=by
 rw[Fr.gL h hk,show fX m n A due j=fun r=>sm m fun i=>fX m n A due j i*fX m n A due (n+i) r from funext fun r=>xP j r,sS hk,<- bO];refine bB fun i hi=>?_;rw[Fr.gL h hk (n+i)];show _=(sm m fun i'=>fX m n A due j i'*fX m n A due (n+i') i)*_;rw[<- xP j i];grind
def fG (m n:Nat) (c:Nat->Int) (S:St) (i:Nat):Int:=sm m fun k=>c (S.ch k)*S.R k (n+i)
theorem qV {S:St} (h:S.ok m (fX m n A due)) (c:Nat->Int) (j:Nat):(sm m fun i=>fX m n A due j i*fG m n c S i)=c j*S.d-S.red m c j:=by
 have e:(sm m fun i=>fX m n A due j i*fG m n c S i)=sm m fun k=>c (S.ch k)*S.R k j:=by
  have e1:(sm m fun i=>fX m n A due j i*fG m n c S i)=sm m fun i=>sm m fun k=>fX m n A due j i*(c (S.ch k)*S.R k (n+i)):=bB fun i hi=>by
   unfold fG;rw[bO]
  rw[e1,lE];refine bB fun k hk=>?_;rw[Fg h hk j,<- bO];refine bB fun i hi=>?_;grind
 rw[e];unfold St.red red;lia
theorem CM (x:Int):sgn x*sgn x=1:=by rcases sT x with e | e <;> rw[e] <;> rfl
theorem oS {S:St} (h:S.ok m (fX m n A due)) (c:Nat->Int){j:Nat} (hj:j<n):(sm m fun i=>A j i*(sgn (due i)*fG m n c S i))=c j*S.d-S.red m c j:=by
 rw[<- qV h];refine bB fun i hi=>?_;rw[nU hi hj];grind
theorem qW {S:St} (h:S.ok m (fX m n A due)) (c:Nat->Int) (c0:c (n+m)=0):(sm m fun i=>due i*(sgn (due i)*fG m n c S i))=sm m fun k=>c (S.ch k)*S.R k (n+m):=by
 have z:=qV h c (n+m);unfold St.red red at z;rw[c0] at z;have e:(sm m fun i=>due i*(sgn (due i)*fG m n c S i))=sm m fun i=>fX m n A due (n+m) i*fG m n c S i:=bB fun i hi=>by
  rw[sV hi];grind
 rw[e,z];lia
def wt (m:Nat) (f:Nat->Int) (S:St) (j:Nat):Int:=sm m fun k=>if S.ch k=j then f k else 0
theorem sW (f:Nat->Int) (S:St) (g:Nat->Int) (h0:∀k,k<m->n<=S.ch k->g (S.ch k)*f k=0):(sm n fun j=>g j*wt m f S j)=sm m fun k=>g (S.ch k)*f k:=by
 have e1:(sm n fun j=>g j*wt m f S j)=sm n fun j=>sm m fun k=>if S.ch k=j then g j*f k else 0:=bB fun j hj=>by
  unfold wt;rw[<- bO];refine bB fun k hk=>?_;split
  ·rfl
  ·exact qBu _
 rw[e1,lE];refine bB fun k hk=>?_;rcases qAl (S.ch k) n with z | z
 ·rw[fU (k:=S.ch k) z fun i hi ne=>if_neg (fun e=>ne e.symm),if_pos rfl]
 ·rw[cH fun i hi=>if_neg (by lia),h0 k hk z]
theorem Gs {S:St} (f:Nat->Int){j:Nat} (h:∀k,k<m->S.ch k≠j):wt m f S j=0:=cH fun k hk=>if_neg (h k hk)
theorem oT {n:Nat}{f:Nat->Int} (h:∀i,i<n->0<=f i):0<=sm n f:=by
 have z:=uY (n:=n) (f:=fun _=>0) (g:=f) h;rw[cH fun _ _=>rfl] at z;exact z
theorem CN {f:Nat->Int} (h:∀k,k<m->0<=f k) (S:St) (j:Nat):0<=wt m f S j:=oT fun k hk=>by
 split
 ·exact h k hk
 ·exact qDq _
def Clean (m n:Nat) (S:St):Prop:=∀k,k<m->n<=S.ch k->S.R k (n+m)=0/\∀j,j<n->S.R k j=0
theorem meets {S:St} (h:S.ok m (fX m n A due)) (cl:Clean m n S){i:Nat} (hi:i<m):(sm n fun j=>A j i*wt m (fun k=>S.R k (n+m)) S j)=due i*S.d:=by
 rw[sW (fun k=>S.R k (n+m)) S (fun j=>A j i) fun k hk z=>by rw[(cl k hk z).1,qBu]];have e:=Fr.eq h (n+m) i;rw[sV hi] at e;have e2:sgn (due i)*(sm m fun k=>A (S.ch k) i*S.R k (n+m))=S.d*(sgn (due i)*due i):=by
  rw[e,<- bO];refine bB fun k hk=>?_;rcases qAl (S.ch k) n with z | z
  ·rw[nU hi z];grind
  ·rw[(cl k hk z).1];grind
 have sq:=CM (due i);generalize (sm m fun k=>A (S.ch k) i*S.R k (n+m))=X at e2|-;generalize sgn (due i)=s at e2 sq;have:s*(s*X)=s*(S.d*(s*due i)):=by rw[e2]
 grind
theorem away {S:St} (h:S.ok m (fX m n A due)) (cl:Clean m n S){q:Nat} (hq:q<n){i:Nat} (hi:i<m):A q i*S.d+(sm n fun j=>A j i*wt m (fun k=>- S.R k q) S j)=0:=by
 rw[sW (fun k=>- S.R k q) S (fun j=>A j i) fun k hk z=>by rw[(cl k hk z).2 q hq];grind];have e:=Fr.eq h q i;rw[nU hi hq] at e;have e2:sgn (due i)*(sm m fun k=>A (S.ch k) i * - S.R k q)=- (S.d*(sgn (due i)*A q i)):=by
  rw[e,<- bO,show ∀a:Int,- a=(-1)*a from fun a=>by lia,<- bO];refine bB fun k hk=>?_;rcases qAl (S.ch k) n with z | z
  ·rw[nU hi z];grind
  ·rw[(cl k hk z).2 q hq];grind
 have sq:=CM (due i);generalize (sm m fun k=>A (S.ch k) i * - S.R k q)=X at e2|-;generalize sgn (due i)=s at e2 sq;have:s*(s*X)=s*(- (S.d*(s*A q i))):=by rw[e2]
 grind
theorem xR {S:St} (h:S.ok m M){p q:Nat} (hp:p<m) (hq:q<n) (nz:S.R p q≠0) (cl:Clean m n S):Clean m n (S.next p q):=fun k hk z=>by
 have ne:k≠p:=fun e=>by rw[e,St.gM] at z;lia
 rw[St.fE ne] at z;obtain⟨a,b⟩:=cl k hk z;have key:∀j,S.R k j=0->(S.next p q).R k j=0:=fun j e=>by
  have w:=Fr.hZ h (q:=q) hp hk ne j;rw[e,b q hq,qBi,qBi] at w;have pd:=Fr.pos h;have w':S.d*(S.next p q).R k j=0:=w;rcases Int.mul_eq_zero.mp w' with v | v
  ·lia
  ·exact v
 exact⟨key _ a,fun j hj=>key j (b j hj)⟩
theorem Bc {S:St} (h:S.ok m M){p q:Nat} (hp:p<m) (nz:S.R p q≠0) (z:S.R p L=0) (f:∀k,k<m->0<=S.R k L):(∀k,k<m->0<=(S.next p q).R k L)/\∀k,k<m->S.R k L=0->(S.next p q).R k L=0:=by
 have pd:=Fr.pos h;have key:∀k,k<m->k≠p->S.d*(S.next p q).R k L=S.R k L*(sgn (S.R p q)*S.R p q):=fun k hk ne=>by
  have w:=Fr.hZ h (q:=q) hp hk ne L;rw[z,qBu,qBu,qPp] at w;exact w
 have at_p:(S.next p q).R p L=0:=by
  show hZ _ _ _ _ _ _=_;unfold hZ;rw[if_pos rfl,z,qBu]
 refine⟨fun k hk=>?_,fun k hk e=>?_⟩
 ·by_cases e:k=p
  ·rw[e,at_p];exact qDq _
  ·have w:=key k hk e;have:0<=S.d*(S.next p q).R k L:=by rw[w];exact qEj (f k hk) (qCe (zD nz))
   exact qJw this pd
 ·by_cases ek:k=p
  ·rw[ek,at_p]
  ·have w:=key k hk ek;rw[e,qBi] at w;rcases Int.mul_eq_zero.mp w with v | v
   ·lia
   ·exact v
theorem CO {S:St} (h:S.ok m M){p q:Nat} (hp:p<m) (hq:q<n) (nz:S.R p q≠0){k:Nat} (hk:k<m) (ne:k≠p) (r0:∀j,j<n->S.R k j=0):∀j,j<n->(S.next p q).R k j=0:=fun j hj=>by
 have w:=Fr.hZ h (q:=q) hp hk ne j;rw[r0 j hj,r0 q hq,qBi,qBi] at w;have pd:=Fr.pos h;have w':S.d*(S.next p q).R k j=0:=w;rcases Int.mul_eq_zero.mp w' with v | v
 ·lia
 ·exact v
def lv (m n:Nat) (j:Nat):Int:=if n<=j/\j<n+m then -1 else 0
theorem tD {S:St} (h:S.ok m M){q:Nat} (hq:q<n) (g:0<S.red m (lv m n) q) (le:∀k,k<m->S.R k q<=0):False:=by
 unfold St.red red at g;rw[show lv m n q=0 from if_neg (by lia),qBi] at g;have z:0<=sm m fun k=>lv m n (S.ch k)*S.R k q:=oT fun k hk=>by
  have:=le k hk;unfold lv;split <;> lia
 lia
theorem Bd {S:St} (h:S.ok m (fX m n A due)) (f:∀k,k<m->0<=S.R k (n+m)) (le:∀j,j<n->S.red m (lv m n) j<=0) (ch:∀k,k<m->S.ch k<n+m){k:Nat} (hk:k<m) (sp:n<=S.ch k) (nz:S.R k (n+m)≠0) :
  (∀j,j<n->0<=sm m fun i=>A j i*(sgn (due i)*fG m n (lv m n) S i))/\(sm m fun i=>due i*(sgn (due i)*fG m n (lv m n) S i))<0:=by
 refine⟨fun j hj=>?_,?_⟩
 ·rw[oS h _ hj,show lv m n j=0 from if_neg (by lia)];have:=le j hj;lia
 ·rw[qW h _ (if_neg (by lia))];have z:sm m (fun k=>lv m n (S.ch k)*S.R k (n+m))<=sm m fun i=>if i=k then -1 else 0:=uY fun i hi=>by
   have a:=f i hi;by_cases e:i=k
   ·rw[if_pos e,e];rw[e] at a;rw[show lv m n (S.ch k)=-1 from if_pos ⟨sp,ch k hk⟩];lia
   ·rw[if_neg e];unfold lv;split <;> lia
  rw[fU hk (fun i hi ne=>if_neg ne),if_pos rfl] at z;lia
theorem Be {S:St}{g:Nat->Int} (h:S.ok m (fX m n A due)) (cl:Clean m n S) (le:∀j,j<n->S.red m g j<=0) (g0:∀j,n<=j->g j=0) :
  (∀j,j<n->g j*S.d<=sm m fun i=>A j i*(sgn (due i)*fG m n g S i))/\(sm m fun i=>due i*(sgn (due i)*fG m n g S i))=sm n fun j=>g j*wt m (fun k=>S.R k (n+m)) S j:=by
 refine⟨fun j hj=>?_,?_⟩
 ·rw[oS h _ hj];have:=le j hj;lia
 ·rw[qW h _ (g0 _ (by lia)),sW (fun k=>S.R k (n+m)) S g fun k hk z=>by rw[g0 _ z,qBi]]
def way (m q:Nat) (S:St) (j:Nat):Int:=if j=q then S.d else wt m (fun k=>- S.R k q) S j
theorem zG {S:St}{q:Nat} (hq:q<n) (no:∀k,k<m->S.ch k≠q) (a:Nat->Int):(sm n fun j=>a j*way m q S j)=a q*S.d+sm n fun j=>a j*wt m (fun k=>- S.R k q) S j:=by
 have e:(sm n fun j=>a j*way m q S j)=sm n fun j=>(if j=q then a q*S.d else 0)+a j*wt m (fun k=>- S.R k q) S j:=bB fun j hj=>by
  unfold way;by_cases e:j=q
  ·rw[if_pos e,if_pos e,e,Gs _ no];lia
  ·rw[if_neg e,if_neg e,qCk]
 rw[e,fL,fU hq fun i hi ne=>if_neg ne,if_pos rfl]
theorem CP {S:St}{g:Nat->Int} (h:S.ok m M){q:Nat} (gr:0<S.red m g q):∀k,k<m->S.ch k≠q:=fun k hk e=>by
 have z:=St.jS h hk g;rw[e] at z;lia
theorem tE {S:St}{g:Nat->Int} (h:S.ok m (fX m n A due)) (cl:Clean m n S) (g0:∀j,n<=j->g j=0){q:Nat} (hq:q<n) (gr:0<S.red m g q) (le:∀k,k<m->S.R k q<=0) :
  (∀j,0<=way m q S j)/\(∀i,i<m->(sm n fun j=>A j i*way m q S j)=0)/\0<sm n fun j=>g j*way m q S j:=by
 have no:=CP h gr;refine⟨fun j=>?_,fun i hi=>?_,?_⟩
 ·unfold way;split
  ·exact qCe (Fr.pos h)
  ·exact CN (fun k hk=>by have:=le k hk;lia) S j
 ·rw[zG hq no (fun j=>A j i)];exact away h cl hq hi
 ·rw[zG hq no g,sW (fun k=>- S.R k q) S g fun k hk z=>by rw[g0 _ z,qBi]];unfold St.red red at gr;have e:(sm m fun k=>g (S.ch k) * - S.R k q)=-(sm m fun k=>g (S.ch k)*S.R k q):=by
   rw[show ∀a:Int,- a=(-1)*a from fun a=>by lia,<- bO];refine bB fun k hk=>?_;grind
  rw[e];lia
end Wg
namespace Wg
def Ah (L q:Nat) (S:St) (a b:Nat):Prop:=S.R a L*S.R b q<S.R b L*S.R a q\/(S.R a L*S.R b q=S.R b L*S.R a q/\S.ch a<=S.ch b)
theorem Ah.refl {L q:Nat}{S:St} (a:Nat):Ah L q S a a:=.inr ⟨rfl,qAg _⟩
theorem Ah.le {L q:Nat}{S:St}{a b:Nat} (h:Ah L q S a b):S.R a L*S.R b q<=S.R b L*S.R a q:=by
 rcases h with h | ⟨h,_⟩ <;> lia
theorem Ah.trans {L q:Nat}{S:St}{a b c:Nat} (ha:0<S.R a q) (hb:0<S.R b q) (hc:0<S.R c q) (h1:Ah L q S a b) (h2:Ah L q S b c):Ah L q S a c:=by
 rcases h1 with h1 | ⟨h1,e1⟩
 ·exact .inl (qU hb ha hc h1 h2.le)
 ·rcases h2 with h2 | ⟨h2,e2⟩
  ·exact .inl (vA hb ha hc (qFr h1) h2)
  ·have z1:=oR hb ha hc (qFr h1) (qFr h2);have z2:=oR hb hc ha (qFr h2.symm) (qFr h1.symm);exact .inr ⟨Int.le_antisymm z1 z2,qCu e1 e2⟩
theorem Ah.IJ {L q:Nat}{S:St}{a b:Nat} (h:¬(S.R b L*S.R a q<S.R a L*S.R b q\/(S.R b L*S.R a q=S.R a L*S.R b q/\S.ch b<S.ch a))):Ah L q S a b:=by
 rcases qJp (S.R a L*S.R b q) (S.R b L*S.R a q) with z | z | z
 ·exact .inl z
 ·refine .inr ⟨z,?_⟩;rcases qAl (S.ch b) (S.ch a) with y | y
  ·exact absurd (.inr ⟨z.symm,y⟩) h
  ·exact y
 ·exact absurd (.inl z) h
theorem Ah.of {L q:Nat}{S:St}{a b:Nat} (h:S.R a L*S.R b q<S.R b L*S.R a q\/(S.R a L*S.R b q=S.R b L*S.R a q/\S.ch a<S.ch b)):Ah L q S a b:=by
 rcases h with h | ⟨h,e⟩
 ·exact .inl h
 ·exact .inr ⟨h,qAq e⟩
end Wg
namespace Cm
open Wg
theorem snocInd {α:Type}{motive:List α->Prop} (nil:motive []) (append_singleton:∀xs x,motive xs->motive (xs++[x])) (xs:List α):motive xs:=by
 have h:∀n (xs:List α),xs.length=n->motive xs:=by
  intro n;induction n with
  | zero=>intro xs hl;rw[List.length_eq_zero_iff.mp hl];exact nil
  | succ n ih =>
   intro xs hl;have hne:xs≠[]:=fun e=>by rw[e] at hl;cases hl
   rw[<- qGq hne];exact append_singleton _ _ (ih _ (by rw[qMf,hl];rfl))
 exact h _ xs rfl
theorem sub_len:∀{l l':List Nat},l.Nodup->(∀x,x∈l->x∈l')->l.length<=l'.length
 | [],_,_,_=>qBq _
 | x::l,l',hn,h=>by
  obtain⟨n1,n2⟩:=List.nodup_cons.mp hn;have hx:=h x (.head _);have z:=sub_len (l:=l) (l':=l'.erase x) n2 fun y hy=>(qMe (fun e=>by subst e;exact n1 hy)).mpr (h y (.tail _ hy));rw[qLb hx] at z;have:=qGd hx;rw[qCh];lia
def iM:Nat->(Nat->Int)->Nat
 | 0,_=>0
 | m+1,f=>if iM m f<m then iM m f else if f m≠0 then m else m+1
theorem iH:∀{m:Nat}{f:Nat->Int}{i:Nat},i<iM m f->i<m->f i=0
 | 0,f,i,_,h=>absurd h (qFy _)
 | m+1,f,i,h,hm=>by
  unfold iM at h;split at h
  ·exact iH h (by lia)
  ·rename_i h1;split at h
   ·rename_i h2;exact iH (m:=m) (by lia) (by lia)
   ·rename_i h2;rcases qAl i m with z | z
    ·exact iH (m:=m) (by lia) z
    ·have e:i=m:=by lia
     subst e;exact Classical.not_not.mp h2
theorem mL:∀{m:Nat}{f:Nat->Int},iM m f<m->f (iM m f)≠0
 | 0,f,h=>absurd h (qFy _)
 | m+1,f,h=>by
  unfold iM at h|-;split
  ·rename_i h1;exact mL h1
  ·rename_i h1;rw[if_neg h1] at h;split
   ·assumption
   ·rename_i h2;rw[if_neg h2] at h;lia
def jD (m:Nat) (l f:Nat->Int):Nat->Int:=fun i=>f i*l (iM m l)-l i*f (iM m l)
def cZ (m:Nat) (rows:List (Nat->Int)) (f:Nat->Int):Nat->Int:=rows.foldl (fun f l=>jD m l f) f
theorem cR (m:Nat) (rows:List (Nat->Int)) (l f:Nat->Int):cZ m (rows++[l]) f=jD m l (cZ m rows f):=by
 unfold cZ;rw[qHq];rfl
def iA (m:Nat) (vs:List (Nat->Int)):List (Nat->Int):=vs.foldl (fun acc v=>acc++[cZ m acc v]) []
theorem dP (m:Nat) (vs:List (Nat->Int)) (v:Nat->Int):iA m (vs++[v])=iA m vs++[cZ m (iA m vs) v]:=by
 unfold iA;rw[qHq];rfl
theorem lG (m:Nat) (vs:List (Nat->Int)):(iA m vs).length=vs.length:=by
 induction vs using snocInd with
 | nil=>rfl
 | append_singleton vs v ih=>rw[dP,qAm,qAm,ih];rfl
theorem Bf (m:Nat) (l f g:Nat->Int) (a b:Int):jD m l (fun i=>a*f i+b*g i)=fun i=>a*jD m l f i+b*jD m l g i:=by
 funext i;unfold jD;grind
theorem jE (m:Nat) (rows:List (Nat->Int)) (f g:Nat->Int) (a b:Int):cZ m rows (fun i=>a*f i+b*g i)=fun i=>a*cZ m rows f i+b*cZ m rows g i:=by
 induction rows using snocInd with
 | nil=>rfl
 | append_singleton rows l ih=>rw[cR,cR,cR,ih,Bf]
def iI (m:Nat) (vs:List (Nat->Int)):Prop:=∀r,r∈iA m vs->iM m r<m
theorem iI.jU {m:Nat}{vs:List (Nat->Int)}{v:Nat->Int} (h:iI m (vs++[v])):iI m vs/\iM m (cZ m (iA m vs) v)<m:=by
 unfold iI at h|-;rw[dP] at h;exact⟨fun r hr=>h r (qCc _ hr),h _ (qAx _ (List.mem_singleton.mpr rfl))⟩
theorem iI.snoc {m:Nat}{vs:List (Nat->Int)}{v:Nat->Int} (h:iI m vs) (h1:iM m (cZ m (iA m vs) v)<m):iI m (vs++[v]):=by
 unfold iI at h|-;rw[dP];intro r hr;rcases List.mem_append.mp hr with hr | hr
 ·exact h r hr
 ·rw[List.mem_singleton.mp hr];exact h1
theorem zH {m:Nat}{vs:List (Nat->Int)} (h:iI m vs):∀(f:Nat->Int) (r:Nat->Int),r∈iA m vs->cZ m (iA m vs) f (iM m r)=0:=by
 induction vs using snocInd with
 | nil=>intro f r hr;cases hr
 | append_singleton vs v ih =>
  intro f r hr;obtain⟨h1,h2⟩:=h.jU;rw[dP] at hr|-;rw[cR];rcases List.mem_append.mp hr with hr | hr
  ·have e1:=ih h1 f r hr;have e2:=ih h1 v r hr;show _*_-_*_=(0:Int);rw[e1,e2,qBi,qBi];rfl
  ·rw[List.mem_singleton.mp hr];show _*_-_*_=(0:Int);rw[qCp];lia
theorem vD {m:Nat}{vs:List (Nat->Int)} (h:iI m vs):∀v,v∈vs->∀i,cZ m (iA m vs) v i=0:=by
 induction vs using snocInd with
 | nil=>intro v hv;cases hv
 | append_singleton vs u ih =>
  intro v hv i;obtain⟨h1,h2⟩:=h.jU;rw[dP,cR];rcases List.mem_append.mp hv with hv | hv
  ·have e:=ih h1 v hv;show _*_-_*_=(0:Int);rw[e,e,qBi,qBu];rfl
  ·rw[List.mem_singleton.mp hv];show _*_-_*_=(0:Int);lia
def dot (m:Nat) (y f:Nat->Int):Int:=sm m fun i=>y i*f i
theorem CQ (m:Nat) (y l f:Nat->Int):dot m y (jD m l f)=l (iM m l)*dot m y f-f (iM m l)*dot m y l:=by
 unfold dot jD;have e:(fun i=>y i*(f i*l (iM m l)-l i*f (iM m l)))=fun i=>l (iM m l)*(y i*f i)+(-(f (iM m l)))*(y i*l i):=by
  funext i;grind
 rw[e,fL,bO,bO];grind
theorem Fh {m:Nat}{vs:List (Nat->Int)} (h:iI m vs){y:Nat->Int} (hy:∀v,v∈vs->dot m y v=0):(∀r,r∈iA m vs->dot m y r=0)/\∀f,∃c:Int,c≠0/\dot m y (cZ m (iA m vs) f)=c*dot m y f:=by
 induction vs using snocInd with
 | nil=>exact⟨fun r hr=>(by cases hr),fun f=>⟨1,by decide,(qCx _).symm⟩⟩
 | append_singleton vs v ih =>
  obtain⟨h1,h2⟩:=h.jU;obtain⟨i1,i2⟩:=ih h1 fun u hu=>hy u (qCc _ hu);have hr:dot m y (cZ m (iA m vs) v)=0:=by
   obtain⟨c,_,e⟩:=i2 v;rw[e,hy v (qAx _ (List.mem_singleton.mpr rfl)),qBu]
  rw[dP];refine⟨fun r hr'=>?_,fun f=>?_⟩
  ·rcases List.mem_append.mp hr' with hr' | hr'
   ·exact i1 r hr'
   ·rw[List.mem_singleton.mp hr'];exact hr
  ·obtain⟨c,hc,e⟩:=i2 f;refine⟨cZ m (iA m vs) v (iM m (cZ m (iA m vs) v))*c,qKv (mL h2) hc,?_⟩;rw[cR,CQ,hr,e,qBu,qPp,qEi]
def Told (m:Nat) (vs:List (Nat->Int)) (f:Nat->Int):Prop:=∀i,i<m->cZ m (iA m vs) f i=0
theorem Told.dot {m:Nat}{vs:List (Nat->Int)}{f y:Nat->Int} (h:iI m vs) (t:Told m vs f) (hy:∀v,v∈vs->dot m y v=0):dot m y f=0:=by
 obtain⟨_,i2⟩:=Fh h hy;obtain⟨c,hc,e⟩:=i2 f;have z:Cm.dot m y (cZ m (iA m vs) f)=0:=cH fun i hi=>by rw[t i hi,qBu]
 rw[z] at e;rcases Int.mul_eq_zero.mp e.symm with z | z
 ·exact absurd z hc
 ·exact z
theorem Told.PC {m:Nat}{vs:List (Nat->Int)}{f g:Nat->Int} (a b:Int) (t:Told m vs f) (u:Told m vs g):Told m vs fun i=>a*f i+b*g i:=fun i hi=>by
 rw[jE];show a*_+b*_=(0:Int);rw[t i hi,u i hi,qBu,qBu];rfl
theorem Told.self {m:Nat}{vs:List (Nat->Int)} (h:iI m vs){v:Nat->Int} (hv:v∈vs):Told m vs v:=fun i _=>vD h v hv i
theorem Told.snoc {m:Nat}{vs:List (Nat->Int)}{v f:Nat->Int} (t:Told m vs f):Told m (vs++[v]) f:=fun i hi=>by
 rw[dP,cR];show _*_-_*_=(0:Int);rw[t i hi];rcases qAl (iM m (cZ m (iA m vs) v)) m with z | z
 ·rw[t _ z];grind
 ·have e:cZ m (iA m vs) v i=0:=iH (by lia) hi;rw[e];grind
theorem qX {m:Nat}{vs:List (Nat->Int)}{f:Nat->Int} (h:¬Told m vs f):iM m (cZ m (iA m vs) f)<m:=by
 rcases qAl (iM m (cZ m (iA m vs) f)) m with z | z
 ·exact z
 ·exact absurd (fun i hi=>iH (by lia) hi) h
theorem oU:∀(m:Nat) (l:List Nat),l.Nodup->(∀x,x∈l->x<m)->l.length<=m
 | 0,[],_,_=>qAg _
 | 0,x::l,_,h=>absurd (h x (.head _)) (qFy _)
 | m+1,l,hn,h=>by
  have h1:=oU m (l.erase m) (hn.erase m) fun x hx=>by
   have hx':=(List.Nodup.mem_erase_iff hn).mp hx;have:=h x hx'.2;have:=hx'.1;lia
  rw[List.length_erase] at h1;split at h1 <;> lia
theorem qY {m:Nat}{vs:List (Nat->Int)} (h:iI m vs):((iA m vs).map (iM m)).Nodup:=by
 induction vs using snocInd with
 | nil=>exact qIs
 | append_singleton vs v ih =>
  obtain⟨h1,h2⟩:=h.jU;rw[dP,qAr];refine List.nodup_append.mpr ⟨ih h1,by simp,fun a ha b hb e=>?_⟩;obtain⟨r,hr,rfl⟩:=List.mem_map.mp ha;have hb':b=iM m (cZ m (iA m vs) v):=by simpa using hb
  have z:=zH h1 v r hr;rw[e,hb'] at z;exact mL h2 z
theorem iI.len {m:Nat}{vs:List (Nat->Int)} (h:iI m vs):vs.length<=m:=by
 have z:=oU m _ (qY h) fun x hx=>by
  obtain⟨r,hr,rfl⟩:=List.mem_map.mp hx;exact h r hr
 rw[qAb,lG] at z;exact z
theorem full:∀(m:Nat) (l:List Nat),l.Nodup->(∀x,x∈l->x<m)->l.length=m->∀i,i<m->i∈l:=by
 intro m l hn h hl i hi;refine qBj fun hc=>?_;have z:=oU m (i::l) (List.nodup_cons.mpr ⟨hc,hn⟩) fun x hx=>by
  rcases List.mem_cons.mp hx with e | e
  ·rw[e];exact hi
  ·exact h x e
 rw[qCh] at z;lia
theorem Bg {m:Nat}{vs:List (Nat->Int)} (h:iI m vs) (hl:vs.length=m) (f:Nat->Int):Told m vs f:=fun i hi=>by
 have z:=full m _ (qY h) (fun x hx=>by
  obtain⟨r,hr,rfl⟩:=List.mem_map.mp hx;exact h r hr) (by rw[qAb,lG,hl]) i hi
 obtain⟨r,hr,rfl⟩:=List.mem_map.mp z;exact zH h f r hr
def e1 (p:Nat):Nat->Int:=fun i=>if i=p then 1 else 0
theorem IK {m p:Nat}:∀(rows:List (Nat->Int)),(∀r,r∈rows->iM m r<m/\iM m r≠p)->∃c:Int,c≠0/\cZ m rows (e1 p)=fun i=>c*e1 p i:=by
 intro rows;induction rows using snocInd with
 | nil=>intro _;exact⟨1,by decide,funext fun i=>(qCx _).symm⟩
 | append_singleton rows l ih =>
  intro h;obtain⟨c,hc,e⟩:=ih fun r hr=>h r (qCc _ hr);obtain⟨h1,h2⟩:=h l (qAx _ (List.mem_singleton.mpr rfl));refine⟨c*l (iM m l),qKv hc (mL h1),?_⟩;rw[cR,e];funext i;unfold jD;have z:e1 p (iM m l)=0:=if_neg h2;dsimp only;rw[z];grind
theorem Bh {m:Nat}{vs:List (Nat->Int)} (h:iI m vs) (t:∀p,p<m->Told m vs (e1 p)):vs.length=m:=by
 have hle:=h.len;rcases qAl vs.length m with z | z
 ·exfalso;have hex:∃p,p<m/\p∉(iA m vs).map (iM m):=qBj fun hc=>by
   have hall:∀p,p<m->p∈(iA m vs).map (iM m):=fun p hp=>qBj fun hn=>hc ⟨p,hp,hn⟩;have hs:(qAn m).length<=((iA m vs).map (iM m)).length:=by
    exact sub_len List.nodup_range fun x hx=>hall x (List.mem_range.mp hx)
   rw[qAu,qAb,lG] at hs;lia
  obtain⟨p,hp,hn⟩:=hex;obtain⟨c,hc,e⟩:=IK (m:=m) (p:=p) (iA m vs) fun r hr=>⟨h r hr,fun e=>hn (List.mem_map.mpr ⟨r,hr,e⟩)⟩;have z1:=t p hp p hp;rw[e] at z1;have z2:e1 p p=1:=if_pos rfl;dsimp only at z1;rw[z2] at z1;lia
 ·lia
def comb:List (Int×(Nat->Int))->Nat->Int
 | [],_=>0
 | (a,v)::r,i=>a*v i+comb r i
theorem mM (l:List (Int×(Nat->Int))) (a:Int) (v:Nat->Int) (i:Nat):comb (l++[(a,v)]) i=comb l i+a*v i:=by
 induction l with
 | nil=>show a*v i+0=0+a*v i;lia
 | cons p l ih =>
  obtain⟨b,u⟩:=p;show b*u i+comb (l++[(a,v)]) i=(b*u i+comb l i)+a*v i;rw[ih];lia
theorem vE {m:Nat}{rows:List (Nat->Int)}:∀(l:List (Int×(Nat->Int))),(∀p,p∈l->∀i,i<m->cZ m rows p.2 i=0)->∀i,i<m->cZ m rows (comb l) i=0
 | [],_,i,hi=>by
  have e:(comb []:Nat->Int)=fun i=>0*(0:Int)+0*(0:Int):=rfl;rw[e,jE m rows (fun _=>0) (fun _=>0) 0 0];show 0*_+0*_=(0:Int);lia
 | (a,v)::r,h,i,hi=>by
  have e:comb ((a,v)::r)=fun i=>a*v i+1*comb r i:=by
   funext i;show a*v i+comb r i=_;lia
  rw[e,jE];show a*_+1*_=(0:Int);rw[h _ (.head _) i hi,vE r (fun p hp=>h p (.tail _ hp)) i hi];lia
theorem tF {m:Nat}{rows:List (Nat->Int)} (hr:∀r,r∈rows->iM m r<m){f g:Nat->Int} (h:∀i,i<m->f i=g i):∀i,i<m->cZ m rows f i=cZ m rows g i:=by
 induction rows using snocInd with
 | nil=>exact h
 | append_singleton rows l ih =>
  intro i hi;have z:=ih fun r hr'=>hr r (qCc _ hr');rw[cR,cR];unfold jD;rw[z i hi,z _ (hr l (qAx _ (List.mem_singleton.mpr rfl)))]
theorem iI.alone {m:Nat}{vs:List (Nat->Int)} (h:iI m vs):∀(as:List Int),as.length=vs.length->(∀i,i<m->comb (as.zip vs) i=0)->∀a,a∈as->a=0:=by
 induction vs using snocInd with
 | nil =>
  intro as hl _ a ha;rw[List.length_eq_zero_iff.mp hl] at ha;cases ha
 | append_singleton vs v ih =>
  intro as hl h0 a ha;obtain⟨h1,h2⟩:=h.jU;have hne:as≠[]:=fun e=>by rw[e] at hl;simp at hl
  obtain⟨bs,b,rfl⟩:∃bs b,as=bs++[b]:=⟨as.dropLast,as.getLast hne,(qGq hne).symm⟩;have hbl:bs.length=vs.length:=by simpa using hl
  have ez:(bs++[b]).zip (vs++[v])=bs.zip vs++[(b,v)]:=by rw[qKl hbl];rfl
  rw[ez] at h0;have hc:∀i,i<m->cZ m (iA m vs) (comb (bs.zip vs)) i=0:=vE _ fun p hp i _=>vD h1 p.2 (qGs (a:=p.1) (b:=p.2) hp).2 i;have hb:b=0:=by
   refine qBj fun hb=>?_;have p1:=tF (m:=m) (rows:=iA m vs) h1 (f:=fun i=>1*comb (bs.zip vs) i+b*v i) (g:=fun _=>0*0+0*0) (fun i hi=>by
    have:=h0 i hi;rw[mM] at this;show 1*_+_=(0*0+0*0:Int);lia)
   have p2:=p1 _ h2;rw[jE,jE m _ (fun _=>0) (fun _=>0) 0 0] at p2;dsimp only at p2;rw[hc _ h2] at p2;have p3:b*cZ m (iA m vs) v (iM m (cZ m (iA m vs) v))=0:=by lia
   rcases Int.mul_eq_zero.mp p3 with z | z
   ·exact hb z
   ·exact mL h2 z
  rcases List.mem_append.mp ha with ha | ha
  ·refine ih h1 bs hbl (fun i hi=>?_) a ha;have:=h0 i hi;rw[mM,hb] at this;lia
  ·rw[List.mem_singleton.mp ha];exact hb
end Cm
set_option autoImplicit false
namespace Cm
def pt (m:Nat) (e:Nat->Nat->Int) (y:Nat->Int) (g:Nat):Int:=Wg.sm m fun i=>e g i*y i
def Tl (m:Nat) (e:Nat->Nat->Int) (ks:List Nat) (g:Nat):Prop:=∀y:Nat->Int,(∀k,k∈ks->pt m e y k=0)->pt m e y g=0
def Oz (m:Nat) (e:Nat->Nat->Int) (N:Nat) (P:Nat->Prop) (ks:List Nat) (lk:Nat->Int):Prop :=
 ∀S:Nat->Prop,(∀g h,P g->Tl m e ks g->P h->Tl m e ks h->S g->lk g<=lk h->S h)->∀y:Nat->Int,pt m e y N<=0->(∀g,P g->Tl m e ks g->S g->0<=pt m e y g)->∀g,P g->Tl m e ks g->S g->pt m e y N=0/\pt m e y g=0
theorem Tl.more {m:Nat}{e:Nat->Nat->Int}{ks ks':List Nat} (h:∀k,k∈ks->k∈ks'){g:Nat} (t:Tl m e ks g):Tl m e ks' g:=fun y hy=>t y fun k hk=>hy k (h k hk)
theorem Tl.self {m:Nat}{e:Nat->Nat->Int}{ks:List Nat}{g:Nat} (h:g∈ks):Tl m e ks g:=fun _ hy=>hy g h
theorem xS {n:Nat}{f:Nat->Int} (h:∀j,j<n->0<=f j) (z:Wg.sm n f<=0):∀j,j<n->f j=0:=by
 induction n with
 | zero=>intro j hj;lia
 | succ n ih =>
  intro j hj;have z:Wg.sm n f+f n<=0:=z;have a:0<=Wg.sm n f:=Wg.oT fun i hi=>h i (by lia);have b:=h n (by lia);rcases qAl j n with q | q
  ·exact ih (fun i hi=>h i (by lia)) (by lia) j q
  ·obtain rfl:j=n:=by lia
   lia
structure Cert (m:Nat) (e:Nat->Nat->Int) (fr ks:List Nat) (lk:Nat->Int) (dw ev:Int) (lam mu:Nat->Int):Prop where
 zI:0<dw
 l0:∀c,0<=lam c
 sum:Wg.sm fr.length lam=dw
 away:∀y:Nat->Int,(Wg.sm fr.length fun c=>lam c*pt m e y (fr.getD c 0))+(Wg.sm ks.length fun j=>mu j*pt m e y (ks.getD j 0))=0
 hold:∀c,c<fr.length->lam c≠0->lk (fr.getD c 0)=ev
 low:∀g,g∈fr->lk g<=ev
theorem mem_getD {l:List Nat}{c:Nat} (h:c<l.length):l.getD c 0∈l:=by
 rw[qAk,qAd h];exact qDu h
theorem Cert.some {m:Nat}{e:Nat->Nat->Int}{fr ks:List Nat}{lk:Nat->Int}{dw ev:Int}{lam mu:Nat->Int} (h:Cert m e fr ks lk dw ev lam mu):∃c,c<fr.length/\lam c≠0:=by
 refine qBj fun no=>?_;have z:Wg.sm fr.length lam=0:=Wg.cH fun c hc=>qBj fun ne=>no ⟨c,hc,ne⟩;have:=h.sum;have:=h.zI;lia
theorem Cert.step {m:Nat}{e:Nat->Nat->Int}{N:Nat}{P:Nat->Prop}{fr ks ks':List Nat}{lk lk':Nat->Int}{dw ev:Int}{lam mu:Nat->Int} (h:Cert m e fr ks lk' dw ev lam mu)
  (st:Oz m e N P ks lk) (sub:∀k,k∈ks->k∈ks') (new:∀k,k∈ks'->k∈ks\/∃c,c<fr.length/\lam c≠0/\fr.getD c 0=k)
  (told:∀c,c<fr.length->lam c≠0->Tl m e ks' (fr.getD c 0)) (frP:∀g,g∈fr->P g) (free:∀g,P g->¬Tl m e ks g->g∈fr)
  (same:∀g,P g->Tl m e ks g->lk' g=dw*lk g) (kP:∀k,k∈ks->k=N\/P k) (hN:N∈ks) (old:∀k,k∈ks->k≠N->ev<=lk' k)
  (one:∀g,P g->1<=pt m e (fun _=>1) g) (oneN:0<pt m e (fun _=>1) N):Oz m e N P ks' lk':=by
 intro S up y yN y0 g gP gT gS;have zI:=h.zI;by_cases B:∃c,c<fr.length/\lam c≠0/\S (fr.getD c 0)
 ·obtain⟨c0,hc0,ne0,s0⟩:=B;have inS:∀c,c<fr.length->lam c≠0->S (fr.getD c 0):=fun c hc ne =>
   up _ _ (frP _ (mem_getD hc0)) (told c0 hc0 ne0) (frP _ (mem_getD hc)) (told c hc ne) s0 (by rw[h.hold c hc ne,h.hold c0 hc0 ne0];exact qDq _)
  have hnn:∀c,c<fr.length->0<=lam c*pt m e y (fr.getD c 0):=fun c hc=>by
   by_cases ne:lam c=0
   ·rw[ne,qBi];exact qDq _
   ·exact qEj (h.l0 c) (y0 _ (frP _ (mem_getD hc)) (told c hc ne) (inS c hc ne))
  have kS:∀k,k∈ks->k≠N->P k/\S k:=fun k hk ne=>by
   have p:P k:=(kP k hk).resolve_left ne;exact⟨p,up _ _ (frP _ (mem_getD hc0)) (told c0 hc0 ne0) p (Tl.self (sub k hk)) s0 (by rw[h.hold c0 hc0 ne0];exact old k hk ne)⟩
  have aw:=h.away y;have key:pt m e y N=0/\(∀k,k∈ks->k≠N->pt m e y k=0):=by
   by_cases one':∃k,k∈ks/\k≠N
   ·have ih:∀k,k∈ks->k≠N->pt m e y N=0/\pt m e y k=0:=fun k hk ne =>
     st S (fun g h gp gt hp ht gs le=>up g h gp (gt.more sub) hp (ht.more sub) gs (by rw[same g gp gt,same h hp ht];exact qCo le (by lia))) y yN (fun g gp gt gs=>y0 g gp (gt.more sub) gs) k (kS k hk ne).1 (Tl.self hk) (kS k hk ne).2
    obtain⟨k,hk,ne⟩:=one';exact⟨(ih k hk ne).1,fun k hk ne=>(ih k hk ne).2⟩
   ·have all:∀k,k∈ks->k=N:=fun k hk=>qBj fun ne=>one' ⟨k,hk,ne⟩;have con:∀y:Nat->Int,(Wg.sm ks.length fun j=>mu j*pt m e y (ks.getD j 0))=pt m e y N*Wg.sm ks.length mu:=fun y=>by
     rw[<- Wg.bO];exact Wg.bB fun j hj=>by rw[all _ (mem_getD hj),qCp]
    have a1:=h.away fun _=>1;rw[con] at aw a1;have b1:dw<=Wg.sm fr.length fun c=>lam c*pt m e (fun _=>1) (fr.getD c 0):=by
     rw[<- h.sum];refine Wg.uY fun c hc=>?_;have:=qCo (one _ (frP _ (mem_getD hc))) (h.l0 c);rw[qFe] at this;exact this
    have M:Wg.sm ks.length mu<0:=by
     refine Int.not_le.mp fun z=>?_;have:=qEj (qCe oneN) z;lia
    have a:0<=Wg.sm fr.length fun c=>lam c*pt m e y (fr.getD c 0):=Wg.oT hnn;have z:pt m e y N=0:=by
     refine qBj fun ne=>?_;have lt:pt m e y N<0:=by lia
     have:=Int.mul_pos_of_neg_of_neg lt M;lia
    exact⟨z,fun k hk ne=>absurd (all k hk) ne⟩
  have k0:∀k,k∈ks->pt m e y k=0:=fun k hk=>by
   by_cases ne:k=N
   ·rw[ne];exact key.1
   ·exact key.2 k hk ne
  rw[show(Wg.sm ks.length fun j=>mu j*pt m e y (ks.getD j 0))=0 from Wg.cH fun j hj=>by rw[k0 _ (mem_getD hj),qBu],qDk] at aw;have hz:=xS hnn (by lia);refine⟨key.1,gT y fun k hk=>?_⟩;rcases new k hk with o | ⟨c,hc,ne,rfl⟩
  ·exact k0 k o
  ·exact(Int.mul_eq_zero.mp (hz c hc)).resolve_left ne
 ·have inT:∀g,P g->Tl m e ks' g->S g->Tl m e ks g:=fun g gp gt gs=>by
   refine qBj fun no=>?_;have gf:=free g gp no;obtain⟨c,hc,ne⟩:=h.some;exact B ⟨c,hc,ne,up g _ gp gt (frP _ (mem_getD hc)) (told c hc ne) gs (by rw[h.hold c hc ne];exact h.low g gf)⟩
  exact st S (fun g h gp gt hp ht gs le=>up g h gp (gt.more sub) hp (ht.more sub) gs (by rw[same g gp gt,same h hp ht];exact qCo le (by lia))) y yN (fun g gp gt gs=>y0 g gp (gt.more sub) gs) g gP (inT g gP gT gS) gS
theorem Cert.IL {m:Nat}{e:Nat->Nat->Int}{fr ks:List Nat}{lk':Nat->Int}{dw ev ev0:Int}{lam mu:Nat->Int} (h:Cert m e fr ks lk' dw ev lam mu){y:Nat->Int} (hy:∀k,k∈ks->pt m e y k=0)
  (lo:∀g,g∈fr->pt m e y g+lk' g<=dw*ev0):ev<=dw*ev0:=by
 have zI:=h.zI;have aw:=h.away y;rw[show(Wg.sm ks.length fun j=>mu j*pt m e y (ks.getD j 0))=0 from Wg.cH fun j hj=>by rw[hy _ (mem_getD hj),qBu],qDk] at aw;have a1:(Wg.sm fr.length fun c=>lam c*pt m e y (fr.getD c 0))<=Wg.sm fr.length fun c=>(dw*ev0-ev)*lam c:=by
  refine Wg.uY fun c hc=>?_;rw[qCp (dw*ev0-ev)];by_cases ne:lam c=0
  ·rw[ne,qBi,qBi];exact qDq _
  ·refine qCo ?_ (h.l0 c);have:=lo _ (mem_getD hc);rw[h.hold c hc ne] at this;lia
 rw[Wg.bO,h.sum,aw] at a1;refine Int.not_lt.mp fun z=>?_;have:=Int.mul_neg_of_neg_of_pos (show dw*ev0-ev<0 by lia) zI;lia
end Cm
set_option autoImplicit false
namespace Cm
theorem IM (a b:Nat) (f:Nat->Int):Wg.sm (a+b) f=Wg.sm a f+Wg.sm b fun j=>f (a+j):=by
 induction b with
 | zero=>show _=_+0;rw[qDk];rfl
 | succ b ih =>
  show Wg.sm (a+b) f+f (a+b)=_+(Wg.sm b (fun j=>f (a+j))+f (a+b));rw[ih];lia
theorem CS (f:Nat->Int):∀n,Wg.sm (2*n) f=Wg.sm n fun j=>f (2*j)+f (2*j+1)
 | 0=>rfl
 | n+1=>by
  show Wg.sm (2*n) f+f (2*n)+f (2*n+1)=(Wg.sm n fun j=>f (2*j)+f (2*j+1))+(f (2*n)+f (2*n+1));rw[CS f n];lia
theorem lH (a b:Nat) (f:Nat->Int):Wg.sm (a+2*b) f=Wg.sm a f+Wg.sm b fun j=>f (a+2*j)+f (a+(2*j+1)):=by
 rw[IM,CS]
structure nI (m:Nat) (e:Nat->Nat->Int) (fr ks:List Nat) (A:Nat->Nat->Int):Prop where
 f0:∀c,c<fr.length->(∀i,i<m->A c i=e (fr.getD c 0) i)/\A c m=1
 k0:∀j,j<ks.length->(∀i,i<m->A (fr.length+2*j) i=e (ks.getD j 0) i)/\A (fr.length+2*j) m=0
 k1:∀j,j<ks.length->(∀i,i<m->A (fr.length+(2*j+1)) i=-e (ks.getD j 0) i)/\A (fr.length+(2*j+1)) m=0
theorem nI.pf {m:Nat}{e:Nat->Nat->Int}{fr ks:List Nat}{A:Nat->Nat->Int} (h:nI m e fr ks A) (y:Nat->Int){c:Nat} (hc:c<fr.length):(Wg.sm m fun i=>A c i*y i)=pt m e y (fr.getD c 0):=Wg.bB fun i hi=>by rw[(h.f0 c hc).1 i hi]
theorem nI.p0 {m:Nat}{e:Nat->Nat->Int}{fr ks:List Nat}{A:Nat->Nat->Int} (h:nI m e fr ks A) (y:Nat->Int){j:Nat} (hj:j<ks.length):(Wg.sm m fun i=>A (fr.length+2*j) i*y i)=pt m e y (ks.getD j 0):=Wg.bB fun i hi=>by rw[(h.k0 j hj).1 i hi]
theorem nI.p1 {m:Nat}{e:Nat->Nat->Int}{fr ks:List Nat}{A:Nat->Nat->Int} (h:nI m e fr ks A) (y:Nat->Int){j:Nat} (hj:j<ks.length):(Wg.sm m fun i=>A (fr.length+(2*j+1)) i*y i)=-pt m e y (ks.getD j 0):=by
 have:=Wg.bO m (-1) fun i=>e (ks.getD j 0) i*y i;unfold pt;rw[show(-Wg.sm m fun i=>e (ks.getD j 0) i*y i)=-1*Wg.sm m fun i=>e (ks.getD j 0) i*y i by lia,<- this];exact Wg.bB fun i hi=>by rw[(h.k1 j hj).1 i hi];grind
theorem vF (m n:Nat) (A:Nat->Nat->Int) (x y:Nat->Int):(Wg.sm n fun c=>x c*Wg.sm m fun i=>A c i*y i)=Wg.sm m fun i=>y i*Wg.sm n fun c=>A c i*x c:=by
 have a:(Wg.sm n fun c=>x c*Wg.sm m fun i=>A c i*y i)=Wg.sm n fun c=>Wg.sm m fun i=>x c*(A c i*y i):=Wg.bB fun c _=>(Wg.bO _ _ _).symm;rw[a,Wg.lE];exact Wg.bB fun i _=>by rw[<- Wg.bO];exact Wg.bB fun c _=>by grind
theorem nI.away {m:Nat}{e:Nat->Nat->Int}{fr ks:List Nat}{A:Nat->Nat->Int} (h:nI m e fr ks A){X:Nat->Int} (mt:∀i,i<m->(Wg.sm (fr.length+2*ks.length) fun c=>A c i*X c)=0) (y:Nat->Int) :
  (Wg.sm fr.length fun c=>X c*pt m e y (fr.getD c 0))+(Wg.sm ks.length fun j=>(X (fr.length+2*j)-X (fr.length+(2*j+1)))*pt m e y (ks.getD j 0))=0:=by
 have t:=vF m (fr.length+2*ks.length) A X y;rw[show(Wg.sm m fun i=>y i*Wg.sm (fr.length+2*ks.length) fun c=>A c i*X c)=0 from Wg.cH fun i hi=>by rw[mt i hi,qBu],lH] at t;rw[<- t];congr 1
 ·exact Wg.bB fun c hc=>by rw[h.pf y hc]
 ·exact Wg.bB fun j hj=>by rw[h.p0 y hj,h.p1 y hj];grind
structure OA (tb:Nat->Int) (L:Int) (fr ks:List Nat) (tt g:Nat->Int):Prop where
 f0:∀c,c<fr.length->g c=tb (fr.getD c 0)*L
 k0:∀j,j<ks.length->g (fr.length+2*j)=tt j
 k1:∀j,j<ks.length->g (fr.length+(2*j+1))=-tt j
theorem Fi {m:Nat}{e:Nat->Nat->Int}{fr ks:List Nat}{A:Nat->Nat->Int}{tb tt g due X Y:Nat->Int}{L r d:Int} (h:nI m e fr ks A) (hg:OA tb L fr ks tt g) (r0:0<r) (d0:0<d)
  (du:∀i,i<m->due i=0) (dm:due m=1) (x0:∀j,0<=X j)
  (mt:∀i,i<m+1->(Wg.sm (fr.length+2*ks.length) fun c=>A c i*X c)=due i*d)
  (cols:∀c,c<fr.length+2*ks.length->g c*d<=Wg.sm (m+1) fun i=>A c i*Y i)
  (same:(Wg.sm (m+1) fun i=>due i*Y i)=Wg.sm (fr.length+2*ks.length) fun c=>g c*X c) :
  Cert m e fr ks (fun q=>tb q*(d*(L*r))-pt m e (fun i=>r*Y i) q) d (r*Y m) X (fun j=>X (fr.length+2*j)-X (fr.length+(2*j+1)))/\∀j,j<ks.length->pt m e (fun i=>r*Y i) (ks.getD j 0)=d*(tt j*r):=by
 have last:∀c,(Wg.sm (m+1) fun i=>A c i*Y i)=(Wg.sm m fun i=>A c i*Y i)+A c m*Y m:=fun c=>rfl;have sc:∀q,pt m e (fun i=>r*Y i) q=r*pt m e Y q:=fun q=>by
  unfold pt;rw[<- Wg.bO];exact Wg.bB fun i _=>by grind
 have cf:∀c,c<fr.length->(Wg.sm (m+1) fun i=>A c i*Y i)=pt m e Y (fr.getD c 0)+Y m:=fun c hc=>by rw[last,h.pf Y hc,(h.f0 c hc).2,qCx]
 have slack:∀c,c<fr.length+2*ks.length->X c*((Wg.sm (m+1) fun i=>A c i*Y i)-g c*d)=0:=by
  refine xS (fun c hc=>qEj (x0 c) (by have:=cols c hc;lia)) ?_;have a:(Wg.sm (fr.length+2*ks.length) fun c=>X c*((Wg.sm (m+1) fun i=>A c i*Y i)-g c*d))=(Wg.sm (fr.length+2*ks.length) fun c=>X c*Wg.sm (m+1) fun i=>A c i*Y i)+Wg.sm (fr.length+2*ks.length) fun c=>-d*(g c*X c):=by
   rw[<- Wg.fL];exact Wg.bB fun c _=>by grind
  rw[a,vF,Wg.bO,<- same];have b:(Wg.sm (m+1) fun i=>Y i*Wg.sm (fr.length+2*ks.length) fun c=>A c i*X c)=Wg.sm (m+1) fun i=>d*(due i*Y i):=Wg.bB fun i hi=>by rw[mt i hi];grind
  rw[b,Wg.bO];grind
 refine⟨⟨d0,x0,?_,h.away fun i hi=>by rw[mt i (by lia),du i hi,qBi],fun c hc ne=>?_,fun q hq=>?_⟩,fun j hj=>?_⟩
 ·have t:=mt m (by lia);rw[dm,qCx,lH] at t;rw[<- t,show(Wg.sm ks.length fun j=>A (fr.length+2*j) m*X (fr.length+2*j)+A (fr.length+(2*j+1)) m*X (fr.length+(2*j+1)))=0 from Wg.cH fun j hj=>by rw[(h.k0 j hj).2,(h.k1 j hj).2,qBi,qBi];rfl,qDk];exact Wg.bB fun c hc=>by rw[(h.f0 c hc).2,qCx]
 ·have z:=(Int.mul_eq_zero.mp (slack c (by lia))).resolve_left ne;rw[cf c hc,hg.f0 c hc] at z;show tb (fr.getD c 0)*(d*(L*r))-pt m e (fun i=>r*Y i) (fr.getD c 0)=r*Y m;rw[sc];generalize pt m e Y (fr.getD c 0)=p at z|-;have:tb (fr.getD c 0)*L*d=p+Y m:=by lia
  have:tb (fr.getD c 0)*L*d*r=(p+Y m)*r:=by rw[this]
  grind
 ·obtain⟨c,hc,hcq⟩:=qCq hq;have eq:fr.getD c 0=q:=by rw[qAk,qAd hc];exact hcq
  have z:=cols c (by lia);rw[cf c hc,hg.f0 c hc,eq] at z;show tb q*(d*(L*r))-pt m e (fun i=>r*Y i) q<=r*Y m;rw[sc];have z:=qCo z (qCe r0);rw[qPv] at z;have:r*(tb q*L*d)=tb q*(d*(L*r)):=by grind
  lia
 ·have z0:=cols (fr.length+2*j) (by lia);have z1:=cols (fr.length+(2*j+1)) (by lia);rw[last,h.p0 Y hj,(h.k0 j hj).2,qBi,qDk,hg.k0 j hj] at z0;rw[last,h.p1 Y hj,(h.k1 j hj).2,qBi,qDk,hg.k1 j hj,qPu] at z1;rw[sc,show pt m e Y (ks.getD j 0)=tt j*d by lia];grind
theorem Fj {m:Nat}{e:Nat->Nat->Int}{fr ks:List Nat}{A:Nat->Nat->Int}{due Y:Nat->Int} (h:nI m e fr ks A) (du:∀i,i<m->due i=0) (dm:due m=1)
  (no:∀y:Nat->Int,(∀k,k∈ks->pt m e y k=0)->∃q,q∈fr/\pt m e y q<=0)
  (cols:∀c,c<fr.length+2*ks.length->0<=Wg.sm (m+1) fun i=>A c i*Y i) (neg:(Wg.sm (m+1) fun i=>due i*Y i)<0):False:=by
 have last:∀c,(Wg.sm (m+1) fun i=>A c i*Y i)=(Wg.sm m fun i=>A c i*Y i)+A c m*Y m:=fun c=>rfl;have n1:(Wg.sm (m+1) fun i=>due i*Y i)=(Wg.sm m fun i=>due i*Y i)+due m*Y m:=rfl;rw[n1,dm,qCx,Wg.cH fun i hi=>by rw[du i hi,qBi]] at neg;obtain⟨q,hq,lo⟩:=no Y fun k hk=>by
  obtain⟨j,hj,hjk⟩:=qCq hk;have eq:ks.getD j 0=k:=by rw[qAk,qAd hj];exact hjk
  have z0:=cols (fr.length+2*j) (by lia);have z1:=cols (fr.length+(2*j+1)) (by lia);rw[last,h.p0 Y hj,(h.k0 j hj).2,qBi,qDk,eq] at z0;rw[last,h.p1 Y hj,(h.k1 j hj).2,qBi,qDk,eq] at z1;lia
 obtain⟨c,hc,hcq⟩:=qCq hq;have eq:fr.getD c 0=q:=by rw[qAk,qAd hc];exact hcq
 have z:=cols c (by lia);rw[last,h.pf Y hc,(h.f0 c hc).2,eq] at z;lia
theorem CT:∀(as:List Int) (vs:List (Nat->Int)),as.length=vs.length->∀i,comb (as.zip vs) i=Wg.sm vs.length fun j=>as.getD j 0*(vs.getD j fun _=>0) i:=by
 intro as vs;induction vs using snocInd generalizing as with
 | nil =>
  intro hl i;obtain rfl:as=[]:=qEv hl;rfl
 | append_singleton vs v ih =>
  intro hl i;rw[qAm,qBc] at hl;obtain⟨as',a,rfl⟩:∃as' a,as=as'++[a]:=⟨as.dropLast,as.getLast (by intro z;rw[z] at hl;cases hl),(qGq _).symm⟩;rw[qAm,qBc] at hl;have hl:as'.length=vs.length:=by lia
  rw[qKl hl];show comb (as'.zip vs++[(a,v)]) i=_;rw[mM,ih as' hl i,qAm,qBc];show _=Wg.sm vs.length (fun j=>(as'++[a]).getD j 0*((vs++[v]).getD j fun _=>0) i)+(as'++[a]).getD vs.length 0*((vs++[v]).getD vs.length fun _=>0) i;congr 1
  ·refine Wg.bB fun j hj=>?_;rw[qAk,qAk,qAk,qAk,qAz hj,qAz (by lia)]
  ·rw[qAk,qAk,qAv (qAg _),qAv (by lia),hl,qMb];rfl
theorem IP {m:Nat}{e:Nat->Nat->Int}{fr ks:List Nat}{A:Nat->Nat->Int}{tb tt g Z:Nat->Int}{L:Int} (h:nI m e fr ks A) (hg:OA tb L fr ks tt g) (ind:iI m (ks.map e)) (z0:∀j,0<=Z j)
  (aw:∀i,i<m+1->(Wg.sm (fr.length+2*ks.length) fun c=>A c i*Z c)=0) (more:0<Wg.sm (fr.length+2*ks.length) fun c=>g c*Z c):False:=by
 have fz:∀c,c<fr.length->Z c=0:=by
  have t:=aw m (by lia);rw[lH,show(Wg.sm ks.length fun j=>A (fr.length+2*j) m*Z (fr.length+2*j)+A (fr.length+(2*j+1)) m*Z (fr.length+(2*j+1)))=0 from Wg.cH fun j hj=>by rw[(h.k0 j hj).2,(h.k1 j hj).2,qBi,qBi];rfl,qDk] at t;have t2:Wg.sm fr.length Z=0:=by rw[<- t];exact Wg.bB fun c hc=>by rw[(h.f0 c hc).2,qCx]
  exact xS (fun j _=>z0 j) (by lia)
 let as:List Int:=(qAn ks.length).map fun j=>Z (fr.length+2*j)-Z (fr.length+(2*j+1))
 have asl:as.length=ks.length:=by show((qAn ks.length).map _).length=_;rw[qAb,qAu]
 have asg:∀j,j<ks.length->as.getD j 0=Z (fr.length+2*j)-Z (fr.length+(2*j+1)):=fun j hj=>by
  show((qAn ks.length).map _).getD j 0=_;rw[qAk,qAo,qCr hj];rfl
 have zero:=ind.alone as (by rw[asl,qAb]) fun i hi=>by
  rw[CT as _ (by rw[asl,qAb]),qAb];have t:=aw i (by lia);rw[lH,Wg.cH fun c hc=>by rw[fz c hc,qBu],qCk] at t;refine Eq.trans (Wg.bB fun j hj=>?_) t;rw[asg j hj,(h.k0 j hj).1 i hi,(h.k1 j hj).1 i hi,qAk (l:=ks.map e),qAo,qAk,qAd hj];show _*e ks[j] i=e ks[j] i*_ + -e ks[j] i*_;grind
 have dz:∀j,j<ks.length->Z (fr.length+2*j)=Z (fr.length+(2*j+1)):=fun j hj=>by
  have:=zero (as.getD j 0) (by rw[qAk,qAd (by lia)];exact qDu _);rw[asg j hj] at this;lia
 rw[lH,Wg.cH fun c hc=>by rw[fz c hc,qBu],qCk,Wg.cH fun j hj=>by rw[hg.k0 j hj,hg.k1 j hj,dz j hj];grind] at more;exact absurd more (by decide)
end Cm
set_option autoImplicit false
namespace Cm
theorem sU (f:Nat->Int):∀{l:List Nat},l≠[]->∃g,g∈l/\∀h,h∈l->f h<=f g
 | [],h=>absurd rfl h
 | [x],_=>⟨x,List.mem_singleton.mpr rfl,fun h hh=>by rw[List.mem_singleton.mp hh];exact qDq _⟩
 | x::y::l,_=>by
  obtain⟨g,hg,m⟩:=sU f (l:=y::l) (by simp);by_cases z:f x<=f g
  ·refine⟨g,qBx _ hg,fun h hh=>?_⟩;rcases List.mem_cons.mp hh with rfl | hh
   ·exact z
   ·exact m h hh
  ·refine⟨x,qCi ..,fun h hh=>?_⟩;rcases List.mem_cons.mp hh with rfl | hh
   ·exact qDq _
   ·have:=m h hh;lia
end Cm
set_option maxHeartbeats 8000000
namespace K44
open PySem L2
seal PE PT PW PA PS tU PG LS PI iN NH g5 PO Mb Lx Gi Ol uE HG NV NZ
def top (i:Nat):Stmt:=PySem.Challenge.pw_shareparley_k44_calm_of_two.main.body.getD i (.Pass ⟨0,0,0,0⟩)
abbrev IQ:Stmt:=top 7
abbrev IS:Stmt:=top 10
abbrev OB:Stmt:=top 11
abbrev CU:Stmt:=top 29
abbrev IT:Stmt:=top 30
abbrev IU:Stmt:=top 31
abbrev IV:Stmt:=top 32
abbrev IW:Stmt:=top 33
abbrev IX:Stmt:=top 35
abbrev IY:Stmt:=top 36
abbrev IZ:Stmt:=top 37
abbrev Ja:Stmt:=top 38
abbrev Jb:Stmt:=top 39
abbrev Jc:Stmt:=top 40
abbrev Jd:Stmt:=top 41
abbrev CV:Stmt:=top 8
abbrev Je:Stmt:=top 12
abbrev Jf:Stmt:=top 13
abbrev Jg:Stmt:=top 14
abbrev Jh:Stmt:=top 15
abbrev OC:Stmt:=top 18
abbrev Ji:Stmt:=top 19
abbrev Jj:Stmt:=top 20
abbrev Jk:Stmt:=top 21
abbrev Jl:Stmt:=top 24
abbrev Jm:Stmt:=top 25
abbrev Jn:Stmt:=top 43
abbrev Jo:Stmt:=top 44
abbrev Jp:Stmt:=top 45
abbrev Jq:Stmt:=top 46
abbrev Jr:Stmt:=top 47
abbrev Js:Stmt:=top 48
abbrev Jt:Stmt:=top 49
abbrev Ju:Stmt:=top 50
abbrev Jv:Stmt:=top 51
abbrev Jw:Stmt:=top 52
abbrev Jx:Stmt:=top 53
abbrev Jy:Stmt:=top 55
abbrev Jz:Stmt:=top 56
abbrev JA:Stmt:=top 57
abbrev JB:Stmt:=top 58
abbrev JC:Stmt:=top 59
abbrev JD:Stmt:=top 60
abbrev JE:Stmt:=top 61
abbrev JF:Stmt:=top 62
abbrev JG:Stmt:=top 63
abbrev JH:Stmt:=top 64
abbrev JI:Stmt:=top 65
abbrev JJ:Stmt:=top 66
abbrev JK:Stmt:=top 67
abbrev JL:Stmt:=top 68
abbrev JM:Stmt:=top 69
abbrev LB:Stmt:=inClass (top 34) 0
abbrev Bi:Stmt:=inClass (top 34) 1
abbrev Bj:Stmt:=inClass (top 34) 2
abbrev Bk:Stmt:=inClass (top 34) 3
abbrev Bl:Stmt:=inClass (top 34) 4
abbrev Bm:Stmt:=inClass (top 34) 5
def dv (a b:Int):Int:=if b<0 then -(qBs a b:Int) else (qBs a b:Int)
theorem zJ (a b:Int) (hb:b≠0):dv a b≠0/\a.fdiv (dv a b)*b=a*b.fdiv (dv a b)/\1<=b.fdiv (dv a b)/\qBs (a.fdiv (dv a b)) (b.fdiv (dv a b))=1:=by
 have hg:0<qBs a b:=qKp _ hb;obtain⟨a',ha⟩:(qBs a b:Int)∣a:=qKc ..;obtain⟨b',hb'⟩:(qBs a b:Int)∣b:=qJq ..;have hgi:(0:Int)<(qBs a b:Int):=by lia
 have hcop:qBs a' b'=1:=by
  have h1:qBs a b*qBs a' b'=qBs a b:=by
   have:=qOh (qBs a b:Int) a' b';rw[<- ha,<- hb'] at this;simpa using this.symm
  exact qLa hg (h1.trans (qPr _).symm)
 unfold dv;generalize hG:(qBs a b:Int)=G at *;clear hG hg;subst ha hb';have hG0:G≠0:=by lia
 have e1:(G*a').fdiv G=a':=qCn _ hG0;have e2:(G*b').fdiv G=b':=qCn _ hG0;have n1:(G*a').fdiv (-G)=-a':=by
  have h:G*a'=(-G)*(-a'):=by rw[qKu]
  rw[h];exact qCn _ (by lia)
 have n2:(G*b').fdiv (-G)=-b':=by
  have h:G*b'=(-G)*(-b'):=by rw[qKu]
  rw[h];exact qCn _ (by lia)
 by_cases h:G*b'<0
 ·rw[if_pos h,n1,n2];have hbn:b'<0:=by
   rcases qHi b' 0 with h' | h'
   ·exact h'
   ·exact absurd (qEj (qCe hgi) h') (Int.not_le.mpr h)
  refine⟨by lia,?_,by lia,?_⟩
  ·rw[qPu,qNb,qNx,qEi]
  ·simpa using hcop
 ·rw[if_neg h,e1,e2];have hbn:0<b':=by
   rcases qJp b' 0 with h' | h' | h'
   ·exact absurd (Int.mul_neg_of_pos_of_neg hgi h') h
   ·subst h';simp at hb
   ·exact h'
  exact⟨hG0,by rw[qNx,qEi],by lia,hcop⟩
theorem CW (d r:Nat):qIj r (d%r)=qIj d r:=by
 rw[qPo,<- Nat.gcd_rec,qPo]
theorem CY {t b:Int} (hb:1<=b):(qBs t b:Int)≠0/\qBs t b<=b.natAbs/\1<=b.fdiv (qBs t b:Int)/\qBs (t.fdiv (qBs t b:Int)) (b.fdiv (qBs t b:Int))=1/\b.fdiv (qBs t b:Int)∣b/\(t.fdiv (qBs t b:Int)).natAbs<=t.natAbs:=by
 have hg:0<qBs t b:=qKp _ (by lia);have hle:qBs t b<=b.natAbs:=qJi (by lia) (qNs _ _);have hlast:=qLd t (qBs t b:Int);obtain⟨a',ha⟩:(qBs t b:Int)∣t:=qKc ..;obtain⟨b',hb'⟩:(qBs t b:Int)∣b:=qJq ..;have hgi:(0:Int)<(qBs t b:Int):=by lia
 have hcop:qBs a' b'=1:=by
  have h1:qBs t b*qBs a' b'=qBs t b:=by
   have:=qOh (qBs t b:Int) a' b';rw[<- ha,<- hb'] at this;simpa using this.symm
  exact qLa hg (h1.trans (qPr _).symm)
 have e1:t.fdiv (qBs t b:Int)=a':=by
  conv=>lhs;arg 1;rw[ha]
  exact qCn _ (by lia)
 have e2:b.fdiv (qBs t b:Int)=b':=by
  conv=>lhs;arg 1;rw[hb']
  exact qCn _ (by lia)
 refine⟨by lia,hle,?_,?_,?_,hlast⟩
 ·rw[e2];rcases qHi 0 b' with h | h
  ·lia
  ·have:=Int.mul_nonpos_of_nonneg_of_nonpos (qCe hgi) h;lia
 ·rw[e1,e2];exact hcop
 ·rw[e2];exact⟨_,by rw[qCp];exact hb'⟩
theorem CZ {v:V}{m:Nat} (h1:EK 0 (2^m-1) v=true):∃g:Nat,v = .int (g:Int)/\g<2^m:=by
 cases v with
 | int i =>
  have z:(decide (0<=i)&&decide (i<=2^m-1))=true:=h1;rw[qCd] at z;have z1:=of_decide_eq_true z.1;have z2:=of_decide_eq_true z.2;have e:((2^m:Nat):Int)=2^m:=by push_cast;rfl
  exact⟨i.toNat,by rw[qDp z1],by lia⟩
 | _=>exact(qAp h1).elim
theorem Fm {g m:Nat} (hg:g<2^m):EK 0 (2^m-1) (.int (g:Int))=true:=by
 show(decide (0<=(g:Int))&&decide ((g:Int)<=2^m-1))=true;have e:((2^m:Nat):Int)=2^m:=by push_cast;rfl
 rw[decide_eq_true (by lia),decide_eq_true (by lia)];rfl
def iR:List Int:=[1,2,4,8,16,32]
def alone (i:Nat):Int:=iR.getD i 0
def qZ (g:Nat) (i:Nat):Option V:=if qDi (g:Int) (alone i)=0 then none else some (.int (i:Int))
def hN (g:Nat):Nat->List Int
 | 0=>[]
 | i+1=>if g/2^i%2=1 then hN g i++[(i:Int)] else hN g i
def iJ (g:Nat):List Int:=hN g 6
theorem xT:∀g:_root_.Fin 64,(qAn 6).filterMap (qZ g.1)=(iJ g.1).map V.int:=by decide +kernel
theorem Dc (g:Nat):∀i,(hN g i).length<=i
 | 0=>qAg _
 | i+1=>by
  have h:=Dc g i;unfold hN;split
  ·rw[qAm,qBc];lia
  ·lia
theorem xU {g m:Nat} (hg:g<2^m):∀(i:Nat) (x:Int),x∈hN g i->0<=x/\x<m
 | 0,x,h=>by cases h
 | i+1,x,h=>by
  unfold hN at h;split at h
  ·rename_i hb;rcases List.mem_append.mp h with h | h
   ·exact xU hg i x h
   ·have:x=(i:Int):=by simpa using h
    rcases qAl i m with z | z
    ·lia
    ·have:g/2^i=0:=qOg (qBd hg (qBr (by decide) z));lia
  ·exact xU hg i x h
def Ip (ns:List Int) (g:Nat):Nat->Int
 | 0=>0
 | i+1=>if g/2^i%2=1 then Ip ns g i+ns.getD i 0 else Ip ns g i
theorem JN (xs:List V) (n:Nat):fY xs (some (n:Int)) none=xs.drop n:=by
 unfold fY;rw[HT.rV,HT.t9];rcases qPn n xs.length with h | h
 ·rw[qOj h];exact qEw (by rw[qGm];lia)
 ·rw[qOe h,qNv,List.drop_of_length_le h];simp
theorem Dd (xs:List V) (n:Nat):fY xs none (some (n:Int))=xs.take n:=by
 unfold fY;rw[HT.rV,HT.t9,qOk,qMa];rcases qPn n xs.length with h | h
 ·rw[qOj h]
 ·rw[qOe h,qEd,qEw h]
theorem MF {m:Nat} (h:m<=6):2^m<=64:=qBr (n:=2) (by decide) h
theorem all_ints (ns:List Int):(ns.map V.int).all kG=true:=by
 induction ns with
 | nil=>rfl
 | cons n r ih=>exact ih
theorem dE {α β:Type}{f g:α->Option β}:∀{l:List α},(∀x∈l,f x=g x)->l.filterMap f=l.filterMap g
 | [],_=>rfl
 | x::r,h=>by
  rw[qCg,qCg,h x (by simp),dE fun y hy=>h y (by simp[hy])]
def oV:List Int:=[1,2,4,8,16,32,64]
structure FC (K:qAc) (C fCh fGM fCC fCA fPL:Addr):Prop where
 oc:Ou K C
 nm:hJ K C "many"
 nb:hJ K C "bottom"
 nr:hJ K C "rows"
 nc:hJ K C "chosen"
 Pc:Meth K C "choose" fCh
 PD:Meth K C "gains_more" fGM
 Pd:Meth K C "column_to_choose" fCC
 PF:Meth K C "comes_ahead" fCA
 PH:Meth K C "place_to_leave" fPL
structure T (K:qAc) (mg:Str->Option qAf) (AL LN FR iF fCh fGM fCC fCA fPL SE NN NG NT NR:Addr):Prop where
 dY:mg "isinstance"=none
 oW:mg "int"=none
 mO:mg "bool"=none
 cD:mg "range"=none
 bW:mg "len"=none
 cV:mg "list"=none
 iV:mg "sum"=none
 oX:mg "all"=none
 vG:mg "any"=none
 gA:mg "tuple"=none
 gO:mg "zip"=none
 oY:mg "abs"=none
 kL:mg "enumerate"=none
 zK:mg "max"=none
 zL:mg "str"=none
 iK:mg "sorted"=none
 rA:mg "set"=none
 gQ:mg "reversed"=none
 El:mg "ALONE"=some (.ref AL)
 al:∀H:Hp,cA K H AL (iR.map V.int)
 LC:mg "LENGTHS"=some (.ref LN)
 ln:∀H:Hp,cA K H LN (oV.map V.int)
 PJ:∃o,K.lookup LN=some o/\o.cls = .type "tuple"/\o.dict=none
 mp:∃tk,mg "MOST_PLACES"=some (.int 8 tk)
 mc:∃tk,mg "MOST_COLUMNS"=some (.int 70 tk)
 MG:mg "Frame"=some (.ref FR)
 cN:FC K FR fCh fGM fCC fCA fPL
 PK:Mk K FR iF
 PL:∃fd,Mx K "__init__" "Frame.__init__" LB ["self","columns","due"] iF fd
 OD:∃fd,Mx K "choose" "Frame.choose" Bi ["self","place","column"] fCh fd
 OE:∃fd,Mx K "gains_more" "Frame.gains_more" Bj ["self","column","gains"] fGM fd
 OF:∃fd,Mx K "column_to_choose" "Frame.column_to_choose" Bk ["self","gains"] fCC fd
 OG:∃fd,Mx K "comes_ahead" "Frame.comes_ahead" Bl ["self","one","other","column"] fCA fd
 OH:∃fd,Mx K "place_to_leave" "Frame.place_to_leave" Bm ["self","column"] fPL fd
 NJ:mg "ShareError"=some (.ref SE)
 LD:mg "NoNumber"=some (.ref NN)
 MH:mg "NoGroup"=some (.ref NG)
 MI:mg "NoTable"=some (.ref NT)
 Gu:mg "NoRows"=some (.ref NR)
 PM:oJ K SE
 LF:qEf K NN EH "ValueError.__new__"=true
 Gv:qEf K NR EH "ValueError.__new__"=true
 MJ:qEf K NG EH "ValueError.__new__"=true
 MK:qEf K NT EH "ValueError.__new__"=true
section
variable {P:qBm}{w:qCy}{K:qAc}{mg:Str->Option qAf}{base:Heap}{AL LN FR iF fCh fGM fCC fCA fPL SE NN NG NT NR:Addr}{f:Addr}{fd:qBo}
def lI (K:qAc):Sp:=fun vs H Q _=>∃v,vs=[v]/\Pl K H v/\Q (.bl (kG v)) H
theorem ML:aT ["thing"] ["thing"] (aI IQ):=by constructor<;>first|rfl|decide +kernel
theorem JO (t:Tx K mg "is_number" IQ ["thing"] f fd) (T:T K mg AL LN FR iF fCh fGM fCC fCA fPL SE NN NG NT NR):Df P w K mg base b0 1 "is_number" ["thing"] (lI K) f fd:=by
 refine t.gY ML (fun vs H Q E h=>?_) (fun cdv A outer s H vs Q E hr h=>?_)
 ·obtain⟨v,rfl,_⟩:=h;rfl
 ·obtain⟨v,rfl,pl,k⟩:=h;obtain⟨Ty,ty,kd⟩:=pl.ex;refine⟨_,aG (aQ (lZ (aJ cI (by rfl) T.dY dO (aA (pv 0) (aA (cT (v:=.ty "int") (by rfl) T.oW wW rfl) aB)))
   (kF (BA (aJ cI (by rfl) T.dY dO (aA (pv 0) (aA (cT (v:=.ty "bool") (by rfl) T.mO yV rfl) aB))))))),?_⟩
  refine⟨_,rfl,v,.ty "int",_,_,_,rfl,rfl,.of ty,kd.Mo K,_,rfl,?_⟩;refine cY (fun h1=>?_) (fun h1=>?_)
  ·refine⟨_,rfl,v,.ty "bool",_,_,_,rfl,rfl,.of ty,kd.Gm K,_,rfl,?_⟩;have e:(!(Ty == "bool"))=kG v:=by
    rw[Pl.kG ty];cases kd <;> first | rfl | (exact absurd h1 (by decide))
   rw[e];exact k
  ·have e:false=kG v:=by
    rw[Pl.kG ty];cases kd <;> first | rfl | (exact absurd rfl h1)
   rw[e];exact k
def De:Sp:=fun vs H Q _=>∃a b:Int,vs=[.int a,.int b]/\Q (.int (qBs a b:Int)) H
theorem abs_eq (i:Int):(if i<0 then -i else i)=(i.natAbs:Int):=by split <;> lia
theorem oZ {r:Nat} (h:(!decide (V.int (r:Int)=V.int 0))=true):0<r:=by
 rcases qEr r with z | z
 ·subst z;exact absurd h (by decide)
 ·exact z
theorem zM {r:Nat} (h:¬(!decide (V.int (r:Int)=V.int 0))=true):r=0:=by
 rcases qEr r with z | z
 ·exact z
 ·refine absurd ?_ h;rw[decide_eq_false (fun q=>by have:=V.int.inj q;lia)];rfl
theorem rB:aT ["one","other","divisor","rest","left"] ["one","other"] (aI IS):=by constructor<;>first|rfl|decide +kernel
theorem JP (t:Tx K mg "greatest_divisor" IS ["one","other"] f fd) (T:T K mg AL LN FR iF fCh fGM fCC fCA fPL SE NN NG NT NR):Df P w K mg base b0 1 "greatest_divisor" ["one","other"] De f fd:=by
 refine t.gY rB (fun vs H Q E h=>?_) (fun cdv A outer s H vs Q E hr h=>?_)
 ·obtain⟨a,b,rfl,_⟩:=h;rfl
 ·obtain⟨a,b,rfl,k⟩:=h;refine⟨_,(aD (aU (i:=2) rB.nd rfl bT (aJ oE (by rfl) T.oY wX (aA (pv 0) aB)))
   (aD (aU (i:=3) rB.nd rfl bT (aJ oE (by rfl) T.oY wX (aA (pv 1) aB)))
   (aD (kT PassesOwn.never (aV eO (pv 3) aE (aW _))
    (aD (aU (i:=4) rB.nd rfl bT (aS iO (pv 2) (pv 3)))
    (aD (aU (i:=2) rB.nd rfl bT (pv 3))
    (aG (aU (i:=3) rB.nd rfl bT (pv 4))))))
   (aG (aQ (pv 2)))))),?_⟩
  refine⟨_,rfl,a,rfl,_,rfl,b,rfl,?_⟩;rw[abs_eq,abs_eq];refine⟨fun m σ H2=>H2=H/\∃(d r:Nat) (v:Option V),m=r/\σ=[some (.int a),some (.int b),some (.int (d:Int)),some (.int (r:Int)),v]/\qIj d r=qBs a b,⟨_,rfl,a.natAbs,b.natAbs,none,rfl,rfl,rfl⟩,?_⟩;rintro m σ H2 ⟨rfl,d,r,v,rfl,rfl,hg⟩;refine⟨_,rfl,rfl,_,rfl,?_⟩;refine cY (fun h1=>?_) (fun h1=>?_)
  ·have hr0:=oZ h1;refine⟨fun σ' H'=>H'=H2/\∃(d' r':Nat) (v:Option V),r'<m/\σ'=[some (.int a),some (.int b),some (.int (d':Int)),some (.int (r':Int)),v]/\qIj d' r'=qBs a b,fun σ' H' ⟨e,d',r',v,h1,h2,h3⟩=>⟨r',h1,e,d',r',v,rfl,h2,h3⟩,?_⟩;refine⟨_,rfl,_,rfl,_,_,rfl,rfl,(by show(0:Int)<(m:Int);lia),?_⟩;refine⟨_,rfl,_,rfl,rfl,m,d%m,_,qNr _ hr0,rfl,?_⟩;rw[CW];exact hg
  ·have hr0:=zM h1;subst hr0;rw[Nat.gcd_zero_right] at hg;refine⟨_,rfl,?_⟩;rw[hg];exact k
def tG (K:qAc) (NN:Addr):Sp:=fun vs H Q E=>∃v1 v2,vs=[v1,v2]/\Pl K H v1/\Pl K H v2/\((kG v1=false\/kG v2=false\/v2 = .int 0)->E (.ref NN) none H) /\
 ∀a b:Int,v1 = .int a->v2 = .int b->b≠0->Sm 8000 b/\∀p,H p=none->Q (.ref p) (upd H p (.tup [.int (a.fdiv (dv a b)),.int (b.fdiv (dv a b))]))
theorem Dg {a b:Int} (hb:b≠0){n:Nat} (h:Sm n b):Sm n (dv a b):=by
 have h1:qBs a b<=b.natAbs:=qJi (by lia) (qNs _ _);have h2:(dv a b).natAbs=qBs a b:=by
  unfold dv;split <;> lia
 exact h.le (by lia)
theorem JQ:aT ["top","bottom","divisor"] ["top","bottom"] (aI OB):=by constructor<;>first|rfl|decide +kernel
theorem MM {f1 f2:Addr}{fd1 fd2:qBo} (t:Tx K mg "fraction" OB ["top","bottom"] f fd) (T:T K mg AL LN FR iF fCh fGM fCC fCA fPL SE NN NG NT NR) (D_is_number:Df P w K mg base b0 1 "is_number" ["thing"] (lI K) f1 fd1) (D_greatest_divisor:Df P w K mg base b0 1 "greatest_divisor" ["one","other"] De f2 fd2) :
  Df P w K mg base (j0 P w) 2 "fraction" ["top","bottom"] (tG K NN) f fd:=by
 refine t.Ih JQ (fun vs H Q E h=>?_) (fun cdv A outer s H vs Q E hr h=>?_)
 ·obtain⟨v1,v2,rfl,_⟩:=h;rfl
 ·obtain⟨v1,v2,rfl,pl1,pl2,k0,k⟩:=h;refine⟨_,(aD (bR (PW.pt (pw_or (bX (bU (aX D_is_number hr (by decide) (by rfl) (aA (pv 0) aB)))) (pw_or1 (bX (bU (aX D_is_number hr (by decide) (by rfl) (aA (pv 1) aB))))))) (aG (fP dB rfl (by rfl) T.LD T.LF (aA gG aB))) a8)
   (aD (bR (aV g6 (pv 1) aE (aW _)) (aG (fP dB rfl (by rfl) T.LD T.LF (aA gG aB))) a8)
   (aD (aU (i:=2) JQ.nd rfl bT (aX D_greatest_divisor hr (by decide) (by rfl) (aA (pv 0) (aA (pv 1) aB))))
   (aD (bR (aV i8 (pv 1) aE (aW _)) (aG (aU (i:=2) JQ.nd rfl bT (iU fT (pv 2)))) a8)
   (aG (aQ (cE (aA (aS gH (pv 0) (pv 2)) (aA (aS gH (pv 1) (pv 2)) aB))))))))),?_⟩
  refine⟨_,rfl,v1,rfl,pl1,_,rfl,?_⟩;cases e1:kG v1 with
  | false=>exact iP (iP ⟨jX,k0 (.inl e1)⟩)
  | true =>
   refine cL ⟨_,rfl,v2,rfl,pl2,_,rfl,?_⟩;cases e2:kG v2 with
   | false=>exact iP ⟨jX,k0 (.inr (.inl e2))⟩
   | true =>
    refine cL ?_;obtain⟨a,rfl⟩:∃a,v1 = .int a:=by
     cases v1 with
     | int a=>exact⟨a,rfl⟩
     | _=>cases e1
    obtain⟨b,rfl⟩:∃b,v2 = .int b:=by
     cases v2 with
     | int b=>exact⟨b,rfl⟩
     | _=>cases e2
    refine⟨_,rfl,rfl,_,rfl,?_⟩;refine cY (fun h1=>⟨jX,k0 (.inr (.inr (of_decide_eq_true h1)))⟩) (fun h1=>?_);have hb:b≠0:=fun z=>h1 (decide_eq_true (congrArg V.int z));obtain⟨hbig,kk⟩:=k a b rfl rfl hb;refine⟨_,rfl,_,rfl,a,b,rfl,?_⟩;have hd0:=(zJ a b hb).1;have hds:=Dg (a:=a) hb hbig;dsimp only;refine Cf (fun σ2 H2=>H2=H/\σ2=[some (.int a),some (.int b),some (.int (dv a b))]) ?_ fun tail=>?_
    ·rintro σ2 H2 ⟨rfl,rfl⟩;exact⟨_,rfl,_,rfl,_,_,rfl,rfl,⟨hd0,hds⟩,_,rfl,_,rfl,_,_,rfl,rfl,⟨hd0,hds⟩,iY,fun p hp=>kk p hp⟩
    ·refine⟨_,rfl,_,_,rfl,rfl,_,rfl,?_⟩;refine cY (fun h2=>⟨_,rfl,_,rfl,tail _ _ ⟨rfl,?_⟩⟩) (fun h2=>tail _ _ ⟨rfl,?_⟩)
     ·show [some (V.int a),some (V.int b),some (V.int (-(qBs a b:Int)))]=_;unfold dv;rw[if_pos (of_decide_eq_true h2)]
     ·show [some (V.int a),some (V.int b),some (V.int (qBs a b:Int))]=_;unfold dv;rw[if_neg (fun z=>h2 (decide_eq_true z))]
def bG (n:Nat) (f:Nat->Int):List V:=(qAn n).map fun j=>V.int (f j)
theorem aK (n:Nat) (f:Nat->Int):(bG n f).length=n:=by unfold bG;rw[qAb,qAu]
theorem dH {n j:Nat}{f:Nat->Int} (h:j<n):(bG n f)[j]?=some (.int (f j)):=by unfold bG;rw[qAo,qCr h];rfl
theorem fF {n j:Nat}{f:Nat->Int}{v:V} (h:(bG n f)[j]?=some v):j<n/\v = .int (f j):=by
 obtain⟨z,_⟩:=List.getElem?_eq_some_iff.mp h;rw[aK] at z;rw[dH z] at h;exact⟨z,(Option.some.inj h).symm⟩
theorem bS {n j:Nat}{f:Nat->Int} (h:j<n):fK (bG n f) (j:Int)=some (.int (f j)):=eY (dH h)
theorem dI {n:Nat}{f g:Nat->Int} (h:∀j,j<n->f j=g j):bG n f=bG n g:=qMm fun j hj=>by rw[h j (List.mem_range.mp hj)]
theorem gB (n:Nat) (f:Nat->Int):bG n f=((qAn n).map f).map V.int:=by unfold bG;rw[qCz];rfl
theorem jF (n:Nat) (f:Nat->Int):fK (bG (n+1) f) (-1)=some (.int (f n)):=by
 unfold fK;have e:BN (bG (n+1) f).length (-1)=some n:=by
  rw[aK];unfold BN;rw[if_neg (by lia),if_pos (by lia)];congr 1;lia
 rw[e];exact dH (by lia)
theorem mP (n:Nat) (f:Nat->Int):((qAn n).map f).sum=Wg.sm n f:=by
 induction n with
 | zero=>rfl
 | succ n ih =>
  rw[qBk,qAr,qFa,ih];show Wg.sm n f+(f n+0)=Wg.sm n f+f n;rw[qDk]
theorem Fn {n p:Nat}{f:Nat->Int} (v:Int):(bG n f).set p (.int v)=bG n fun j=>if j=p then v else f j:=by
 refine qEu fun i=>?_;rw[qHp,aK];rcases qAl i n with h | h
 ·rw[dH h,dH h];by_cases e:i=p
  ·rw[if_pos e.symm,if_pos (by lia),if_pos e]
  ·rw[if_neg (fun z=>e z.symm),if_neg e]
 ·rw[qBa (by rw[aK];exact h),qBa (by rw[aK];exact h)];split
  ·split
   ·lia
   ·rfl
  ·rfl
theorem lJ (n k:Nat) (f g:Nat->Int):bG n f++bG k g=bG (n+k) fun j=>if j<n then f j else g (j-n):=by
 refine qEu fun i=>?_;rcases qAl i n with h | h
 ·rw[qAz (by rw[aK];exact h),dH h,dH (by lia),if_pos h]
 ·rw[qAv (by rw[aK];exact h),aK];rcases qAl i (n+k) with h2 | h2
  ·rw[dH (by lia),dH h2,if_neg (by lia)]
  ·rw[qBa (by rw[aK];lia),qBa (by rw[aK];lia)]
theorem lK {xs:List V}{n:Nat} (F:Nat->V) (h:xs.length=n):((qAn n).filterMap fun i=>(xs[i]?).bind fun _=>some (F i))=(qAn n).map F:=by
 rw[<- qGk];refine dE fun i hi=>?_;rw[qAd (by rw[h];exact List.mem_range.mp hi)];rfl
theorem tH {xs ys:List V}{n:Nat} (F:Nat->V) (h:xs.length=n) (h2:ys.length=n):((qAn n).filterMap fun i=>(xs[i]?).bind fun _=>(ys[i]?).bind fun _=>some (F i))=(qAn n).map F:=by
 rw[<- qGk];refine dE fun i hi=>?_;rw[qAd (by rw[h];exact List.mem_range.mp hi),qAd (l:=ys) (by rw[h2];exact List.mem_range.mp hi)];rfl
theorem lL {n j:Nat} (h:j<n):BN n (j:Int)=some j:=by
 unfold BN;rw[if_pos (by lia),if_pos (by lia)];congr 1
def nJ (x y:Addr) (H H':Hp):Prop:=∀b o,b≠x->b≠y->H b=some o->H' b=some o
theorem nJ.refl {x y:Addr} (H:Hp):nJ x y H H:=fun _ _ _ _ e=>e
theorem Gw {H H':Hp} (s:aH H H') (x y:Addr):nJ x y H H':=fun b o _ _ e=>s b o e
theorem nJ.then {x y:Addr}{H H1 H2:Hp} (a:nJ x y H H1) (b:aH H1 H2):nJ x y H H2:=fun c o n n2 e=>b c o (a c o n n2 e)
theorem nJ.trans {x y:Addr}{H H1 H2:Hp} (a:nJ x y H H1) (b:nJ x y H1 H2):nJ x y H H2:=fun c o n n2 e=>b c o n n2 (a c o n n2 e)
theorem nJ.nE {x y:Addr}{H H1:Hp} (a:nJ x y H H1) (u:HO):nJ x y H (upd H1 x u):=fun c o n n2 e=>by rw[aM n];exact a c o n n2 e
theorem nJ.OI {x y:Addr}{H H1:Hp} (a:nJ x y H H1) (u:HO):nJ x y H (upd H1 y u):=fun c o n n2 e=>by rw[aM n2];exact a c o n n2 e
structure Inst (m n:Nat) (A:Nat->Nat->Int) (due:Nat->Int):Prop where
 m1:1<=m
 m8:m<=8
 pA:n<=70
 bA:∀j i,Sm 700 (A j i)
 bD:∀i,Sm 700 (due i)
theorem gC (x y:Int):(Wg.sgn x*y).natAbs=y.natAbs:=by
 rw[qDs];rcases Wg.sT x with e | e <;> rw[e] <;> simp
theorem Inst.fX {m n:Nat}{A:Nat->Nat->Int}{due:Nat->Int} (h:Inst m n A due) (j r:Nat):(Wg.fX m n A due j r).natAbs<=2^700:=by
 have one:(1:Int).natAbs<=2^700:=Nat.one_le_two_pow;have zero:(0:Int).natAbs<=2^700:=qBq _;unfold Wg.fX;split
 ·split
  ·rw[gC];exact qAq (h.bA j r)
  ·split
   ·split
    ·exact one
    ·exact zero
   ·split
    ·rw[gC];exact qAq (h.bD r)
    ·exact zero
 ·exact zero
theorem OJ:∀m:_root_.Fin 9,Wg.pV m.1*(2^700)^m.1<2^6000:=by decide +kernel
theorem Inst.size {m n:Nat}{A:Nat->Nat->Int}{due:Nat->Int} (h:Inst m n A due){S:Wg.St} (ok:S.ok m (Wg.fX m n A due)):Sm 6000 S.d/\∀k,k<m->∀j,Sm 6000 (S.R k j):=by
 have z:=Wg.Fr.bound ok h.fX;have f:=OJ ⟨m,by have:=h.m8;lia⟩;exact⟨qBp z.1 f,fun k hk j=>qBp (z.2 k hk j) f⟩
def pB (m:Nat) (A:Nat->Nat->Int) (due:Nat->Int) (d:Int):Prop:=∀B:Nat,1<=B->(∀j i,(A j i).natAbs<=B)->(∀i,(due i).natAbs<=B)->d.natAbs<=Wg.pV m*B^m
theorem Inst.small {m n:Nat}{A:Nat->Nat->Int}{due:Nat->Int} (h:Inst m n A due){S:Wg.St} (ok:S.ok m (Wg.fX m n A due)):pB m A due S.d:=fun B hB hA hD=>by
 refine(Wg.Fr.bound (X:=B) ok fun j r=>?_).1;have zero:(0:Int).natAbs<=B:=qBq _;unfold Wg.fX;split
 ·split
  ·rw[gC];exact hA j r
  ·split
   ·split
    ·exact hB
    ·exact zero
   ·split
    ·rw[gC];exact hD r
    ·exact zero
 ·exact zero
def xV (m:Nat) (A:Nat->Nat->Int) (due g Y:Nat->Int):Prop:=∀B G:Nat,1<=B->(∀j i,(A j i).natAbs<=B)->(∀i,(due i).natAbs<=B)->(∀j,(g j).natAbs<=G)->∀i,(Y i).natAbs<=m*(G*(Wg.pV m*B^m))
theorem rC {f:Nat->Int}{C:Nat}:∀{n:Nat},(∀k,k<n->(f k).natAbs<=C)->(Wg.sm n f).natAbs<=n*C
 | 0,_=>qBq _
 | n+1,h=>by
  have i:=rC (n:=n) fun k hk=>h k (by lia);have z:=h n (by lia);show(Wg.sm n f+f n).natAbs<=(n+1)*C;rw[qMy,qIw];have:=qNw (Wg.sm n f) (f n);lia
theorem Inst.JR {m n:Nat}{A:Nat->Nat->Int}{due g:Nat->Int} (h:Inst m n A due){S:Wg.St} (ok:S.ok m (Wg.fX m n A due)):xV m A due g (fun i=>Wg.sgn (due i)*Wg.fG m n (fun j=>if j<n then g j else 0) S i):=fun B G hB hA hD hG i=>by
 rw[gC];refine rC fun k hk=>?_;rw[qDs];refine qOs ?_ ?_
 ·show(if S.ch k<n then g (S.ch k) else 0).natAbs<=G;split
  ·exact hG _
  ·exact qBq _
 ·refine(Wg.Fr.bound (X:=B) ok fun j r=>?_).2 k hk _;have zero:(0:Int).natAbs<=B:=qBq _;unfold Wg.fX;split
  ·split
   ·rw[gC];exact hA j r
   ·split
    ·split
     ·exact hB
     ·exact zero
    ·split
     ·rw[gC];exact hD r
     ·exact zero
  ·exact zero
def zO:Sp:=fun vs H Q _=>∃i:Int,vs=[.int i]/\Q (.int (Wg.sgn i)) H
theorem MN:aT ["number"] ["number"] (aI IU):=by constructor<;>first|rfl|decide +kernel
theorem JS (t:Tx K mg "sign_of" IU ["number"] f fd):Df P w K mg base b0 1 "sign_of" ["number"] zO f fd:=by
 refine t.gY MN (fun vs H Q E h=>?_) (fun cdv A outer s H vs Q E hr h=>?_)
 ·obtain⟨i,rfl,_⟩:=h;rfl
 ·obtain⟨i,rfl,k⟩:=h;refine⟨_,(aG (aQ (n8 (aV i8 (pv 0) aE (aW _)) (iU fT aE) aE))),?_⟩;refine⟨_,rfl,_,_,rfl,rfl,_,rfl,cY (fun z=>?_) (fun z=>?_)⟩
  ·have e:Wg.sgn i=-1:=by unfold Wg.sgn;rw[if_pos (of_decide_eq_true z)]
   rw[e] at k;exact⟨_,rfl,k⟩
  ·have e:Wg.sgn i=1:=by unfold Wg.sgn;rw[if_neg (fun y=>z (decide_eq_true y))]
   rw[e] at k;exact k
structure tI (m n:Nat) (A:Nat->Nat->Int) (due:Nat->Int) (H:Hp) (pc pd:Addr) (cs:List Addr):Prop where
 hc:H pc=some (.lst (cs.map V.ref))
 len:cs.length=n
 at_:∀j c,cs[j]?=some c->H c=some (.lst (bG m (A j)))
 hd:H pd=some (.lst (bG m due))
theorem tI.same {m n:Nat}{A:Nat->Nat->Int}{due:Nat->Int}{H H':Hp}{pc pd:Addr}{cs:List Addr} (h:tI m n A due H pc pd cs) (s:aH H H'):tI m n A due H' pc pd cs :=
 ⟨s _ _ h.hc,h.len,fun j c e=>s _ _ (h.at_ j c e),s _ _ h.hd⟩
theorem c9 {as:List Addr}{i:Nat}{x:V} (h:(as.map V.ref)[i]?=some x):∃a,as[i]?=some a/\x = .ref a:=by
 rw[qAo] at h;cases e:as[i]? with
 | none=>rw[e] at h;cases h
 | some a=>rw[e] at h;exact⟨a,rfl,(Option.some.inj h).symm⟩
def Gx:Sp:=fun vs H Q _=>∃(m n:Nat) (A:Nat->Nat->Int) (due:Nat->Int) (pc pd:Addr) (cs:List Addr) (i:Nat),vs=[.ref pc,.ref pd,.int (i:Int)]/\Inst m n A due/\tI m n A due H pc pd cs/\i<m /\
 ∀(r:Addr) (H':Hp),aH H H'->H r=none->H' r=some (.lst (bG (n+m+1) fun j=>Wg.fX m n A due j i))->Q (.ref r) H'
theorem Dh:aT ["columns","due","place","sign","spares"] ["columns","due","place"] (aI IV):=by constructor<;>first|rfl|decide +kernel
theorem tJ (x:Int):Sm 2 (Wg.sgn x):=by
 have:(Wg.sgn x).natAbs=1:=by rcases Wg.sT x with e | e <;> rw[e] <;> rfl
 show(Wg.sgn x).natAbs<2^2;lia
theorem JT {f1:Addr}{fd1:qBo} (t:Tx K mg "first_row" IV ["columns","due","place"] f fd) (T:T K mg AL LN FR iF fCh fGM fCC fCA fPL SE NN NG NT NR) (D_sign_of:Df P w K mg base b0 1 "sign_of" ["number"] zO f1 fd1) :
  Df P w K mg base b0 2 "first_row" ["columns","due","place"] Gx f fd:=by
 refine t.gY Dh (fun vs H Q E h=>?_) (fun cdv _A outer s H vs Q E hr h=>?_)
 ·obtain⟨m,n,A,due,pc,pd,cs,i,rfl,_⟩:=h;rfl
 ·obtain⟨m,n,A,due,pc,pd,cs,i,rfl,ins,co,hi,k⟩:=h;have m8:=ins.m8;have pA:=ins.pA;refine⟨_,(aD (aU (i:=3) Dh.nd rfl (by first|exact .inl rfl|exact .inr rfl) (aX D_sign_of hr (by decide) (by rfl) (aA (aP bC (pv 1) (pv 2) (fun _ _=>rfl)) aB)))
   (aD (eD (NB:=["other","place"]) (pick:=[none,some 2]) (i:=4) Dh.nd rfl bT (by rfl) (bJ (by with_unfolding_all rfl) (by exact(And.intro rfl trivial)) rfl (by decide +kernel) (by decide +kernel) (by rfl) (by rfl)) rfl
     (cB (by rfl) T.cD (aA (aJ aN (by rfl) T.bW bM (aA (pv 1) aB)) aB)) (fun _ _ _=>aL (i:=0) (show(["other","place"]:List Str).Nodup from by decide +kernel) rfl bT)
     (fun _ _ _=>bK) (fun _ _ _=>(n8 (aV g6 (pv 0) (pv 1) (aW _)) aE aE)))
   (aG (aQ (aS fA (aS fA (bQ (NB:=["column","place","sign"]) (pick:=[none,some 2,some 3]) (bJ (by with_unfolding_all rfl) (by exact(And.intro rfl (And.intro rfl trivial))) rfl (by decide +kernel) (by decide +kernel) (by rfl) (by rfl)) rfl
     (bN (pv 0)) (fun _ _ _=>aL (i:=0) (show(["column","place","sign"]:List Str).Nodup from by decide +kernel) rfl bT)
     (fun _ _ _=>bK) (fun _ _ _=>(aS bL (pv 2) (aP (bV K) (pv 0) (pv 1) (fun _ _=>rfl))))) (pv 4)) (bH (aA (aS bL (pv 3) (aP bC (pv 1) (pv 2) (fun _ _=>rfl))) aB))))))),?_⟩
  refine⟨_,rfl,_,rfl,pd,_,_,_,rfl,rfl,aR.of co.hd,bS hi,_,rfl,?_⟩;refine⟨_,rfl,pd,_,rfl,.inl (aR.of co.hd),?_⟩;rw[aK];refine⟨m,rfl,by lia,by lia,?_⟩;refine fC (n:=m) (fun j=>some (.int (if j=i then 1 else 0))) (qAq (aO (by lia))) (fun j H2 kk kk0 s2 hj g1 g2=>?_) fun D H2 hD s2 hd=>?_
  ·refine⟨_,rfl,_,rfl,rfl,_,rfl,cY (fun z=>?_) (fun z=>?_)⟩
   ·have e:j=i:=by have:=V.int.inj (of_decide_eq_true z);lia
    exact g1 _ (by rw[if_pos e]) _ (.refl _)
   ·have e:j≠i:=fun q=>z (decide_eq_true (by rw[q];congr 1;lia));exact g1 _ (by rw[if_neg e]) _ (.refl _)
  ·have hs:H2 D=some (.lst (bG m fun j=>if j=i then 1 else 0)):=by
    rw[hd];unfold bG;rw[qDl]
   have co2:=co.same s2;refine⟨_,rfl,pc,rfl,⟨_,aR.of co2.hc⟩,?_⟩;refine cP (xs:=cs.map V.ref) (fun j _=>some (.int (Wg.sgn (due i)*A j i))) (aR.of co2.hc) (by rw[qAb,co.len];exact qAq (aO (by lia))) (fun j y H3 kk kk0 s3 hy g1 g2=>?_) fun D2 H3 hD2 s3 hd2=>?_
   ·obtain⟨c,hc,rfl⟩:=c9 hy;exact⟨_,rfl,_,rfl,_,rfl,c,_,_,_,rfl,rfl,aR.of (s3 _ _ (co2.at_ j c hc)),bS hi,_,_,rfl,rfl,(tJ _).mb (ins.bA j i),g1 _ rfl _ (.refl _)⟩
   ·have hd2':H3 D2=some (.lst (bG n fun j=>Wg.sgn (due i)*A j i)):=by
     rw[hd2,qAb,co.len,lK _ (by rw[qAb,co.len])];rfl
    have hs3:=s3 _ _ hs;refine⟨_,rfl,D2,D,_,_,rfl,rfl,aR.of hd2',aR.of hs3,by rw[aK,aK];exact qAq (aO (by lia)),fun p1 hp1=>?_⟩;have u1:=aH.aF (o:=.lst (bG n (fun j=>Wg.sgn (due i)*A j i)++bG m fun j=>if j=i then 1 else 0)) hp1;have e1:upd H3 p1 (.lst (bG n (fun j=>Wg.sgn (due i)*A j i)++bG m fun j=>if j=i then 1 else 0)) p1=_:=aC;generalize upd H3 p1 (.lst (bG n (fun j=>Wg.sgn (due i)*A j i)++bG m fun j=>if j=i then 1 else 0))=H4 at u1 e1|-;have s4:=s2.trans (s3.trans u1);refine⟨_,rfl,_,rfl,_,rfl,pd,_,_,_,rfl,rfl,aR.of (s4 _ _ co.hd),bS hi,_,_,rfl,rfl,(tJ _).mb (ins.bD i),jX,fun p2 hp2=>?_⟩;have u2:=aH.aF (o:=.lst [V.int (Wg.sgn (due i)*due i)]) hp2;have e2:upd H4 p2 (.lst [V.int (Wg.sgn (due i)*due i)]) p2=_:=aC;generalize upd H4 p2 (.lst [V.int (Wg.sgn (due i)*due i)])=H5 at u2 e2|-;have s5:=s4.trans u2;refine⟨p1,p2,_,_,rfl,rfl,aR.of (u2 _ _ e1),aR.of e2,by rw[qAm,aK,aK];exact qAq (aO (by show n+m+1<=1000;lia)),fun p3 hp3=>?_⟩;refine k p3 _ (s5.trans (.aF hp3)) (s5.free hp3) ?_;rw[aC,lJ,show [V.int (Wg.sgn (due i)*due i)]=bG 1 fun _=>Wg.sgn (due i)*due i from rfl,lJ];congr 2;refine dI fun j hj=>?_;unfold Wg.fX;rw[if_pos hi];by_cases h1:j<n
    ·rw[if_pos (by lia),if_pos h1,if_pos h1]
    ·by_cases h2:j<n+m
     ·rw[if_pos h2,if_neg h1,if_neg h1,if_pos h2];by_cases h3:j=n+i
      ·rw[if_pos h3,if_pos (by lia)]
      ·rw[if_neg h3,if_neg (by lia)]
     ·rw[if_neg h2,if_neg h1,if_neg h2,if_pos (by lia)]
def Gy:Sp:=fun vs H Q _=>∃(r l:Addr) (W q:Nat) (fr fl:Nat->Int) (d:Int),vs=[.ref r,.ref l,.int (q:Int),.int d]/\H r=some (.lst (bG W fr))/\H l=some (.lst (bG W fl))/\q<W/\W<=100/\0<d/\Sm 6000 d/\(∀j,j<W->Sm 6000 (fr j))/\(∀j,j<W->Sm 6000 (fl j)) /\
 ∀(D:Addr) (H':Hp),aH H H'->H D=none->H' D=some (.lst (bG W fun j=>(fr j*fl q-fr q*fl j)/d))->Q (.ref D) H'
theorem MP:aT ["row","lead","column","bottom"] ["row","lead","column","bottom"] (aI IW):=by constructor<;>first|rfl|decide +kernel
theorem JU (t:Tx K mg "cleared" IW ["row","lead","column","bottom"] f fd) (T:T K mg AL LN FR iF fCh fGM fCC fCA fPL SE NN NG NT NR):Df P w K mg base b0 1 "cleared" ["row","lead","column","bottom"] Gy f fd:=by
 refine t.gY MP (fun vs H Q E h=>?_) (fun cdv _A outer s H vs Q E hr h=>?_)
 ·obtain⟨r,l,W,q,fr,fl,d,rfl,_⟩:=h;rfl
 ·obtain⟨r,l,W,q,fr,fl,d,rfl,hr1,hl1,hq,hW,d0,ds,sr,sl,k⟩:=h;refine⟨_,(aG (aQ (bQ (NB:=["number","other","bottom","column","lead","row"]) (pick:=[none,none,some 3,some 2,some 1,some 0]) (bJ (by with_unfolding_all rfl) (by exact(And.intro rfl (And.intro rfl (And.intro rfl (And.intro rfl trivial))))) rfl (by decide +kernel) (by decide +kernel) (by rfl) (by rfl)) rfl
     (gI (by rfl) T.gO (aA (pv 0) (aA (pv 1) aB))) (fun _ _ _=>(show PG _ _ (rP K 2 (fO (aY 0) (fO (aY 1) rO))) from eW rfl (bI (aL (i:=0) (show(["number","other","bottom","column","lead","row"]:List Str).Nodup from by decide +kernel) rfl bT) (bI (aL (i:=1) (show(["number","other","bottom","column","lead","row"]:List Str).Nodup from by decide +kernel) rfl bT) dG))))
     (fun _ _ _=>bK) (fun _ _ _=>(aS gH (aS eX (aS bL (pv 0) (aP (bV K) (pv 4) (pv 3) (fun _ _=>rfl))) (aS bL (aP (bV K) (pv 5) (pv 3) (fun _ _=>rfl)) (pv 1))) (pv 2)))))),?_⟩
  refine⟨_,rfl,_,rfl,r,l,rfl,⟨_,aR.of hr1⟩,⟨_,aR.of hl1⟩,?_⟩;refine jP (xs:=bG W fr) (ys:=bG W fl) (fun σ'=>∃o0 o1:Option V,σ'=[o0,o1,some (.int d),some (.int (q:Int)),some (.ref l),some (.ref r)]) (fun j _ _=>some (.int ((fr j*fl q-fr q*fl j)/d))) ⟨_,_,rfl⟩ (aR.of hr1) (aR.of hl1) (by rw[aK,aK]) (by rw[aK];exact qAq (aO (by lia))) (fun i x y tt σ1 H2 kk kk0 hσ s2 hx hy ht h1 h2=>?_) fun D H2 hD s2 hd=>?_
  ·obtain⟨o0,o1,rfl⟩:=hσ;obtain⟨hi,rfl⟩:=fF hx;obtain⟨_,rfl⟩:=fF hy;refine⟨tt,_,rfl,cA.of ht,rfl,_,_,rfl,_,_,rfl,rfl,?_⟩;refine⟨_,rfl,_,rfl,_,rfl,l,_,_,_,rfl,rfl,aR.of (s2 _ _ hl1),bS hq,_,_,rfl,rfl,(sr i hi).mb (sl q hq),_,rfl,_,rfl,r,_,_,_,rfl,rfl,aR.of (s2 _ _ hr1),bS hq,_,rfl,_,_,rfl,rfl,(sr q hq).mb (sl i hi),_,_,rfl,rfl,_,rfl,_,_,rfl,rfl,ds.db (by lia),?_⟩;show kk _ (.int ((fr i*fl q-fr q*fl i).fdiv d)) H2;rw[qFg _ (qCe d0)];exact h1 _ _ ⟨_,_,rfl⟩ rfl _ (.refl _)
  ·refine k D H2 s2 hD ?_;rw[hd,aK,tH _ (aK _ _) (aK _ _)];rfl
def tK (m n:Nat) (S:Wg.St) (k:Nat):List V:=bG (n+m+1) (S.R k)
def tV (m:Nat) (S:Wg.St):List V:=bG m fun k=>(S.ch k:Int)
structure Rows (m n:Nat) (S:Wg.St) (H:Hp) (lr:Addr) (ras:List Addr):Prop where
 hr:H lr=some (.lst (ras.map V.ref))
 len:ras.length=m
 at_:∀k r,ras[k]?=some r->H r=some (.lst (tK m n S k))
theorem Rows.get {m n:Nat}{S:Wg.St}{H:Hp}{lr:Addr}{ras:List Addr} (h:Rows m n S H lr ras){k:Nat} (hk:k<m):∃r,ras[k]?=some r/\fK (ras.map V.ref) (k:Int)=some (.ref r)/\H r=some (.lst (tK m n S k)):=by
 have e:ras[k]?=some (ras[k]'(by rw[h.len];exact hk)):=qAd _;exact⟨_,e,eY (by rw[qAo,e];rfl),h.at_ k _ e⟩
def gZ (FR:Addr) (m n:Nat) (H:Hp) (x lc:Addr) (S:Wg.St):Prop:=∃(dx lr:Addr) (ras:List Addr),H x=some (.ins FR dx [("many",.int (n:Int)),("bottom",.int S.d),("rows",.ref lr),("chosen",.ref lc)])/\Rows m n S H lr ras/\H lc=some (.lst (tV m S))
theorem gZ.same {FR:Addr}{m n:Nat}{H H':Hp}{x lc:Addr}{S:Wg.St} (h:gZ FR m n H x lc S) (s:aH H H'):gZ FR m n H' x lc S:=by
 obtain⟨dx,lr,ras,h1,h2,h3⟩:=h;exact⟨dx,lr,ras,s _ _ h1,⟨s _ _ h2.hr,h2.len,fun k r e=>s _ _ (h2.at_ k r e)⟩,s _ _ h3⟩
structure Good (m n:Nat) (A:Nat->Nat->Int) (due:Nat->Int) (S:Wg.St):Prop where
 ins:Inst m n A due
 ok:S.ok m (Wg.fX m n A due)
 ch:∀k,k<m->S.ch k<n+m
theorem Good.start {m n:Nat}{A:Nat->Nat->Int}{due:Nat->Int} (h:Inst m n A due):Good m n A due (Wg.start m n A due) :=
 ⟨h,Wg.CL,fun k hk=>by show n+k<n+m;lia⟩
theorem Good.next {m n:Nat}{A:Nat->Nat->Int}{due:Nat->Int}{S:Wg.St} (h:Good m n A due S){p q:Nat} (hp:p<m) (hq:q<n) (nz:S.R p q≠0):Good m n A due (S.next p q) :=
 ⟨h.ins,Wg.St.zE h.ok hp nz,fun k hk=>by
  by_cases e:k=p
  ·rw[e,Wg.St.gM];lia
  ·rw[Wg.St.fE e];exact h.ch k hk⟩
def MQ (FR:Addr):Sp:=fun vs H Q _=>∃(m n:Nat) (A:Nat->Nat->Int) (due:Nat->Int) (x dx pc pd:Addr) (cs:List Addr),vs=[.ref x,.ref pc,.ref pd]/\H x=some (.ins FR dx [])/\Inst m n A due/\tI m n A due H pc pd cs /\
 ∀(lc:Addr) (H':Hp),SameBut x H H'->H lc=none->gZ FR m n H' x lc (Wg.start m n A due)->Q .non H'
theorem OK:aT ["self","columns","due"] ["self","columns","due"] (aI LB):=by constructor<;>first|rfl|decide +kernel
theorem MR {f1:Addr}{fd1:qBo} (t:Mx K "__init__" "Frame.__init__" LB ["self","columns","due"] f fd) (T:T K mg AL LN FR iF fCh fGM fCC fCA fPL SE NN NG NT NR) (D_first_row:Df P w K mg base b0 2 "first_row" ["columns","due","place"] Gx f1 fd1) :
  Md P w K mg base 3 ["self","columns","due"] (MQ FR) f:=by
 refine t.LA OK (fun vs H Q E h=>?_) (fun cdv _A outer s H vs Q E hr h=>?_)
 ·obtain⟨m,n,A,due,x,dx,pc,pd,cs,rfl,_⟩:=h;rfl
 ·obtain⟨m,n,A,due,x,dx,pc,pd,cs,rfl,hx,ins,co,k⟩:=h;have m8:=ins.m8;have pA:=ins.pA;refine⟨_,(aD (mD (pv 0) (aJ aN (by rfl) T.bW bM (aA (pv 1) aB)) rfl)
   (aD (mD (pv 0) aE rfl)
   (aD (mD (pv 0) (bQ (NB:=["place","columns","due"]) (pick:=[none,some 1,some 2]) (bJ (by with_unfolding_all rfl) (by exact(And.intro rfl (And.intro rfl trivial))) rfl (by decide +kernel) (by decide +kernel) (by rfl) (by rfl)) rfl
     (cB (by rfl) T.cD (aA (aJ aN (by rfl) T.bW bM (aA (pv 2) aB)) aB)) (fun _ _ _=>aL (i:=0) (show(["place","columns","due"]:List Str).Nodup from by decide +kernel) rfl bT)
     (fun _ _ _=>bK) (fun _ _ _=>(aX D_first_row hr (by decide) (by rfl) (aA (pv 1) (aA (pv 2) (aA (pv 0) aB)))))) rfl)
   (aG (mD (pv 0) (bQ (NB:=["place","self"]) (pick:=[none,some 0]) (bJ (by with_unfolding_all rfl) (by exact(And.intro rfl trivial)) rfl (by decide +kernel) (by decide +kernel) (by rfl) (by rfl)) rfl
     (cB (by rfl) T.cD (aA (aJ aN (by rfl) T.bW bM (aA (pv 2) aB)) aB)) (fun _ _ _=>aL (i:=0) (show(["place","self"]:List Str).Nodup from by decide +kernel) rfl bT)
     (fun _ _ _=>bK) (fun _ _ _=>(aS i7 (k9 K (pv 1) rfl) (pv 0)))) rfl))))),?_⟩
  have npc:pc≠x:=j5 co.hc hx (by intro z;cases z);have npd:pd≠x:=j5 co.hd hx (by intro z;cases z);refine⟨_,rfl,pc,_,rfl,.inl (aR.of co.hc),_,rfl,x,FR,dx,_,rfl,hx,T.cN.oc.cl,T.cN.nm,by decide,?_⟩;rw[qAb,co.len];have e1:upd H x (.ins FR dx (dF "many" (V.int (n:Int)) [])) x=some (.ins FR dx [("many",.int (n:Int))]):=aC;have b1:SameBut x H (upd H x (.ins FR dx (dF "many" (V.int (n:Int)) []))):=((aH.refl H).but x).nE _;generalize upd H x (.ins FR dx (dF "many" (V.int (n:Int)) []))=H1 at e1 b1|-;refine⟨_,rfl,x,FR,dx,_,rfl,e1,T.cN.oc.cl,T.cN.nb,by show 1<1000;decide,?_⟩;have e2:upd H1 x (.ins FR dx (dF "bottom" (V.int 1) [("many",.int (n:Int))])) x=some (.ins FR dx [("many",.int (n:Int)),("bottom",.int 1)]):=aC;have b2:SameBut x H (upd H1 x (.ins FR dx (dF "bottom" (V.int 1) [("many",.int (n:Int))]))):=b1.nE _;generalize upd H1 x (.ins FR dx (dF "bottom" (V.int 1) [("many",.int (n:Int))]))=H2 at e2 b2|-;have ncs:∀j c,cs[j]?=some c->c≠x:=fun j c e=>j5 (co.at_ j c e) hx (by intro z;cases z);have co2:tI m n A due H2 pc pd cs:=⟨b2 _ _ npc co.hc,co.len,fun j c e=>b2 _ _ (ncs j c e) (co.at_ j c e),b2 _ _ npd co.hd⟩;refine⟨_,rfl,pd,_,rfl,.inl (aR.of co2.hd),?_⟩;rw[aK];refine⟨m,rfl,by lia,by lia,?_⟩;refine AQ (n:=m) (fun i=>bG (n+m+1) fun j=>Wg.fX m n A due j i) (qAq (aO (by lia))) (fun i H3 kk kk0 s3 hi g1=>?_) fun D ras H3 hD s3 hl nw hd=>?_
  ·refine⟨_,rfl,_,rfl,_,rfl,m,n,A,due,pc,pd,cs,i,?_,ins,co2.same s3,hi,fun r H4 s4 hr4 e4=>g1 r H4 s4 hr4 e4⟩;rw[qCk];rfl
  ·refine⟨_,rfl,x,FR,dx,_,rfl,s3 _ _ e2,T.cN.oc.cl,T.cN.nr,by show 2<1000;decide,?_⟩;have nD:D≠x:=fun z=>by rw[z,e2] at hD;cases hD
   have e3:upd H3 x (.ins FR dx (dF "rows" (V.ref D) [("many",.int (n:Int)),("bottom",.int 1)])) x=some (.ins FR dx [("many",.int (n:Int)),("bottom",.int 1),("rows",.ref D)]):=aC;have b3:SameBut x H (upd H3 x (.ins FR dx (dF "rows" (V.ref D) [("many",.int (n:Int)),("bottom",.int 1)]))):=(b2.then s3).nE _;have rw3:Rows m n (Wg.start m n A due) (upd H3 x (.ins FR dx (dF "rows" (V.ref D) [("many",.int (n:Int)),("bottom",.int 1)]))) D ras:=by
    refine⟨by rw[aM nD];exact hd,hl,fun k' r e=>?_⟩;obtain⟨a1,a2,a3⟩:=nw.at_ k' r e;have nr:r≠x:=fun z=>by rw[z,e2] at a1;cases a1
    rw[aM nr];exact a3
   generalize upd H3 x (.ins FR dx (dF "rows" (V.ref D) [("many",.int (n:Int)),("bottom",.int 1)]))=H4 at e3 b3 rw3|-;refine⟨_,rfl,pd,_,rfl,.inl (aR.of (b3 _ _ npd co.hd)),?_⟩;rw[aK];refine⟨m,rfl,by lia,by lia,?_⟩;refine fC (n:=m) (fun i=>some (.int ((n+i:Nat):Int))) (qAq (aO (by lia))) (fun i H5 kk kk0 s5 hi g1 g2=>?_) fun D2 H5 hD2 s5 hd2=>?_
   ·refine⟨_,rfl,x,FR,dx,_,_,rfl,s5 _ _ e3,T.cN.oc.cl,T.cN.nm,rfl,_,rfl,_,_,rfl,rfl,?_⟩;rw[qCk];exact g1 _ (by rw[qOl]) _ (.refl _)
   ·have nD2:D2≠x:=fun z=>by rw[z,e3] at hD2;cases hD2
    refine⟨_,rfl,x,FR,dx,_,rfl,s5 _ _ e3,T.cN.oc.cl,T.cN.nc,by show 3<1000;decide,?_⟩;refine k D2 _ ((b3.then s5).nE _) ?_ ⟨dx,D,ras,aC,⟨?_,rw3.len,fun k' r e=>?_⟩,?_⟩
    ·cases e:H D2 with
     | none=>rfl
     | some o =>
      have z:=b3 _ _ nD2 e;rw[hD2] at z;cases z
    ·rw[aM nD];exact s5 _ _ rw3.hr
    ·have z:=rw3.at_ k' r e;have nr:r≠x:=fun y=>by rw[y,e3] at z;cases z
     rw[aM nr];exact s5 _ _ z
    ·rw[aM nD2,hd2,qDl];rfl
theorem JV {m n:Nat}{S:Wg.St}{H:Hp}{lr x:Addr}{ras:List Addr} (h:Rows m n S H lr ras){C dx:Addr}{fs:List (Str×V)} (hx:H x=some (.ins C dx fs)):lr≠x/\∀(k:Nat) (r:Addr),ras[k]?=some r->r≠x :=
 ⟨j5 h.hr hx (by intro z;cases z),fun k r e=>j5 (h.at_ k r e) hx (by intro z;cases z)⟩
def Di (FR:Addr):Sp:=fun vs H Q _=>∃(m n:Nat) (A:Nat->Nat->Int) (due:Nat->Int) (x lc:Addr) (S:Wg.St) (p q:Nat),vs=[.ref x,.int (p:Int),.int (q:Int)]/\gZ FR m n H x lc S/\Good m n A due S/\p<m/\q<n/\S.R p q≠0 /\
 ∀H',nJ x lc H H'->gZ FR m n H' x lc (S.next p q)->Q .non H'
theorem zP:aT ["self","place","column","sign","lead","rows"] ["self","place","column"] (aI Bi):=by constructor<;>first|rfl|decide +kernel
theorem JW {f1 f2:Addr}{fd1 fd2:qBo} (t:Mx K "choose" "Frame.choose" Bi ["self","place","column"] f fd) (T:T K mg AL LN FR iF fCh fGM fCC fCA fPL SE NN NG NT NR) (D_sign_of:Df P w K mg base b0 1 "sign_of" ["number"] zO f1 fd1) (D_cleared:Df P w K mg base b0 1 "cleared" ["row","lead","column","bottom"] Gy f2 fd2) :
  Md P w K mg base 2 ["self","place","column"] (Di FR) f:=by
 refine t.LA zP (fun vs H Q E h=>?_) (fun cdv _A outer s H vs Q E hr h=>?_)
 ·obtain⟨m,n,A,due,x,lc,S,p,q,rfl,_⟩:=h;rfl
 ·obtain⟨m,n,A,due,x,lc,S,p,q,rfl,⟨dx,lr,ras,hx,rs,hlc⟩,gd,hp,hq,nz,k⟩:=h;have m8:=gd.ins.m8;have pA:=gd.ins.pA;obtain⟨sd,sR⟩:=gd.ins.size gd.ok;have d0:=Wg.Fr.pos gd.ok;refine⟨_,(aD (aU (i:=3) zP.nd rfl (by first|exact .inl rfl|exact .inr rfl) (aX D_sign_of hr (by decide) (by rfl) (aA (aP bC (aP bC (bZ (pv 0) rfl) (pv 1) (fun _ _=>rfl)) (pv 2) (fun _ _=>rfl)) aB)))
   (aD (aU (i:=4) zP.nd rfl (by first|exact .inl rfl|exact .inr rfl) (bQ (NB:=["number","sign"]) (pick:=[none,some 3]) (bJ (by with_unfolding_all rfl) (by exact(And.intro rfl trivial)) rfl (by decide +kernel) (by decide +kernel) (by rfl) (by rfl)) rfl
     (bN (aP bC (bZ (pv 0) rfl) (pv 1) (fun _ _=>rfl))) (fun _ _ _=>aL (i:=0) (show(["number","sign"]:List Str).Nodup from by decide +kernel) rfl bT)
     (fun _ _ _=>bK) (fun _ _ _=>(aS bL (pv 1) (pv 0)))))
   (aD (eD (NB:=["row","column","lead","self"]) (pick:=[none,some 2,some 4,some 0]) (i:=5) zP.nd rfl bT (by rfl) (bJ (by with_unfolding_all rfl) (by exact(And.intro rfl (And.intro rfl (And.intro rfl trivial)))) rfl (by decide +kernel) (by decide +kernel) (by rfl) (by rfl)) rfl
     (bN (bZ (pv 0) rfl)) (fun _ _ _=>aL (i:=0) (show(["row","column","lead","self"]:List Str).Nodup from by decide +kernel) rfl bT)
     (fun _ _ _=>bK) (fun _ _ _=>(aX D_cleared hr (by decide) (by rfl) (aA (pv 0) (aA (pv 2) (aA (pv 1) (aA (k9 K (pv 3) rfl) aB)))))))
   (aD (oB (pv 4) (oA (pv 5) (pv 1) set_list))
   (aD (mD (pv 0) (pv 5) rfl)
   (aD (mD (pv 0) (aP bC (pv 4) (pv 2) (fun _ _=>rfl)) rfl)
   (aG (oB (pv 2) (oA (bZ (pv 0) rfl) (pv 1) set_list))))))))),?_⟩
  obtain⟨rp,erp,arp,hrp⟩:=rs.get hp;refine⟨_,rfl,x,FR,dx,_,_,rfl,hx,T.cN.oc.cl,T.cN.nr,rfl,_,rfl,lr,_,_,_,rfl,rfl,aR.of rs.hr,arp,_,rfl,rp,_,_,_,rfl,rfl,aR.of hrp,bS (by lia),_,rfl,?_⟩;refine⟨_,rfl,x,FR,dx,_,_,rfl,hx,T.cN.oc.cl,T.cN.nr,rfl,_,rfl,lr,_,_,_,rfl,rfl,aR.of rs.hr,arp,rp,rfl,⟨_,aR.of hrp⟩,?_⟩;refine cP (xs:=tK m n S p) (fun j _=>some (.int (Wg.sgn (S.R p q)*S.R p j))) (aR.of hrp) (by unfold tK;rw[aK];exact qAq (aO (by lia))) (fun j y H2 kk kk0 s2 hy g1 g2=>?_) fun D H2 hD s2 hd=>?_
  ·obtain⟨hj,rfl⟩:=fF hy;exact⟨_,rfl,_,rfl,_,_,rfl,rfl,(tJ _).mb (sR p hp j),g1 _ rfl _ (.refl _)⟩
  have hL:H2 D=some (.lst (bG (n+m+1) fun j=>Wg.sgn (S.R p q)*S.R p j)):=by
   rw[hd];unfold tK;rw[aK,lK _ (aK _ _)];rfl
  have sl:∀j,Sm 6000 (Wg.sgn (S.R p q)*S.R p j):=fun j=>(sR p hp j).le (by rw[gC];exact qAg _);refine⟨_,rfl,x,FR,dx,_,_,rfl,s2 _ _ hx,T.cN.oc.cl,T.cN.nr,rfl,lr,rfl,⟨_,aR.of (s2 _ _ rs.hr)⟩,?_⟩;refine mH (xs:=ras.map V.ref) (fun k'=>bG (n+m+1) fun j=>(S.R k' j*(Wg.sgn (S.R p q)*S.R p q)-S.R k' q*(Wg.sgn (S.R p q)*S.R p j))/S.d) (aR.of (s2 _ _ rs.hr)) (by rw[qAb,rs.len];exact qAq (aO (by lia))) (fun k' y H3 kk kk0 s3 hy g1=>?_) fun D2 ras2 H3 hD2 s3 hl2 nw hd2=>?_
  ·obtain⟨r,hr',rfl⟩:=c9 hy;have hk':k'<m:=by
    obtain⟨z,_⟩:=List.getElem?_eq_some_iff.mp hr';rw[rs.len] at z;exact z
   refine⟨_,rfl,_,rfl,_,rfl,_,rfl,x,FR,dx,_,_,rfl,s3 _ _ (s2 _ _ hx),T.cN.oc.cl,T.cN.nb,rfl,r,D,n+m+1,q,S.R k',fun j=>Wg.sgn (S.R p q)*S.R p j,S.d,rfl,s3 _ _ (s2 _ _ (rs.at_ k' r hr')),s3 _ _ hL,by lia,by lia,d0,sd,fun j _=>sR k' hk' j,fun j _=>sl j,fun r2 H4 s4 hr4 e4=>g1 r2 H4 s4 hr4 e4⟩
  rw[qAb,rs.len] at hl2;have hL3:=s3 _ _ hL;have hx3:=s3 _ _ (s2 _ _ hx);have hlc3:=s3 _ _ (s2 _ _ hlc);refine⟨_,rfl,_,rfl,_,rfl,D2,_,_,p,rfl,rfl,hd2,by rw[qAb,hl2];exact lL hp,?_⟩;have s23:=s2.trans s3;have b4:nJ x lc H (upd H3 D2 (.lst ((ras2.map V.ref).set p (V.ref D)))):=fun b o n1 n2 e=>by
   rw[aM (fun z=>by rw[z] at e;exact absurd (s2 _ _ e) (by rw[hD2];intro q;cases q))];exact s23 _ _ e
  have hx4:upd H3 D2 (.lst ((ras2.map V.ref).set p (V.ref D))) x=_:=(aM (fun z=>by rw[<- z,s2 _ _ hx] at hD2;cases hD2)).trans hx3;have hlc4:upd H3 D2 (.lst ((ras2.map V.ref).set p (V.ref D))) lc=_:=(aM (fun z=>by rw[<- z,s2 _ _ hlc] at hD2;cases hD2)).trans hlc3;have hL4:upd H3 D2 (.lst ((ras2.map V.ref).set p (V.ref D))) D=_:=(aM (fun z=>by rw[<- z,hL] at hD2;cases hD2)).trans hL3;have rs4:Rows m n (S.next p q) (upd H3 D2 (.lst ((ras2.map V.ref).set p (V.ref D)))) D2 (ras2.set p D):=by
   refine⟨by rw[aC,qPf],by rw[qKn];exact hl2,fun k' r e=>?_⟩;rw[qHp] at e;by_cases ek:p=k'
   ·rw[if_pos ek] at e;subst ek;rw[if_pos (by rw[hl2];exact hp)] at e;cases e;rw[hL4];congr 2;refine dI fun j _=>?_;show _=Wg.hZ S.d S.R p q p j;unfold Wg.hZ;rw[if_pos rfl]
   ·rw[if_neg ek] at e;obtain⟨a1,a2,a3⟩:=nw.at_ k' r e;rw[aM a2,a3];congr 2;refine dI fun j _=>?_;show _=Wg.hZ S.d S.R p q k' j;unfold Wg.hZ;rw[if_neg (fun z=>ek z.symm)]
  have nDx:D≠x:=fun z=>by rw[z,hx] at hD;cases hD
  have nDl:D≠lc:=fun z=>by rw[z,hlc] at hD;cases hD
  have nD2l:D2≠lc:=fun z=>by rw[z,s2 _ _ hlc] at hD2;cases hD2
  have nrl:∀k' r,(ras2.set p D)[k']?=some r->r≠lc:=fun k' r e=>by
   rw[qHp] at e;by_cases ek:p=k'
   ·rw[if_pos ek] at e;subst ek;rw[if_pos (by rw[hl2];exact hp)] at e;cases e;exact nDl
   ·rw[if_neg ek] at e;obtain⟨a1,_,_⟩:=nw.at_ k' r e;exact fun z=>by rw[z,s2 _ _ hlc] at a1;cases a1
  generalize upd H3 D2 (.lst ((ras2.map V.ref).set p (V.ref D)))=H4 at b4 hx4 hlc4 hL4 rs4|-;obtain⟨nrx1,nrx2⟩:=JV rs4 hx4;refine⟨_,rfl,_,rfl,x,FR,dx,_,rfl,hx4,T.cN.oc.cl,T.cN.nr,by show 4<1000;decide,?_⟩;have nlx:lc≠x:=j5 hlc hx (by intro z;cases z);have e5:upd H4 x (.ins FR dx (dF "rows" (V.ref D2) [("many",V.int (n:Int)),("bottom",.int S.d),("rows",.ref lr),("chosen",.ref lc)])) x=some (.ins FR dx [("many",V.int (n:Int)),("bottom",.int S.d),("rows",.ref D2),("chosen",.ref lc)]):=aC;have b5:nJ x lc H (upd H4 x (.ins FR dx (dF "rows" (V.ref D2) [("many",V.int (n:Int)),("bottom",.int S.d),("rows",.ref lr),("chosen",.ref lc)]))):=b4.nE _;have hL5:=(aM (H:=H4) (o:=.ins FR dx (dF "rows" (V.ref D2) [("many",V.int (n:Int)),("bottom",.int S.d),("rows",.ref lr),("chosen",.ref lc)])) nDx).trans hL4;have rs5:Rows m n (S.next p q) (upd H4 x (.ins FR dx (dF "rows" (V.ref D2) [("many",V.int (n:Int)),("bottom",.int S.d),("rows",.ref lr),("chosen",.ref lc)]))) D2 (ras2.set p D) :=
   ⟨by rw[aM nrx1];exact rs4.hr,rs4.len,fun k' r e=>by rw[aM (nrx2 k' r e)];exact rs4.at_ k' r e⟩
  have hlc5:=(aM (H:=H4) (o:=.ins FR dx (dF "rows" (V.ref D2) [("many",V.int (n:Int)),("bottom",.int S.d),("rows",.ref lr),("chosen",.ref lc)])) nlx).trans hlc4;generalize upd H4 x (.ins FR dx (dF "rows" (V.ref D2) [("many",V.int (n:Int)),("bottom",.int S.d),("rows",.ref lr),("chosen",.ref lc)]))=H5 at e5 b5 hL5 rs5 hlc5|-;refine⟨_,rfl,_,rfl,D,_,_,_,rfl,rfl,aR.of hL5,bS (by lia),_,rfl,x,FR,dx,_,rfl,e5,T.cN.oc.cl,T.cN.nb,by show 4<1000;decide,?_⟩;have e6:upd H5 x (.ins FR dx (dF "bottom" (V.int (Wg.sgn (S.R p q)*S.R p q)) [("many",V.int (n:Int)),("bottom",.int S.d),("rows",.ref D2),("chosen",.ref lc)])) x=some (.ins FR dx [("many",V.int (n:Int)),("bottom",.int (Wg.sgn (S.R p q)*S.R p q)),("rows",.ref D2),("chosen",.ref lc)]):=aC;have b6:nJ x lc H (upd H5 x (.ins FR dx (dF "bottom" (V.int (Wg.sgn (S.R p q)*S.R p q)) [("many",V.int (n:Int)),("bottom",.int S.d),("rows",.ref D2),("chosen",.ref lc)]))):=b5.nE _;have rs6:Rows m n (S.next p q) (upd H5 x (.ins FR dx (dF "bottom" (V.int (Wg.sgn (S.R p q)*S.R p q)) [("many",V.int (n:Int)),("bottom",.int S.d),("rows",.ref D2),("chosen",.ref lc)]))) D2 (ras2.set p D) :=
   ⟨by rw[aM nrx1];exact rs5.hr,rs5.len,fun k' r e=>by rw[aM (nrx2 k' r e)];exact rs5.at_ k' r e⟩
  have hlc6:=(aM (H:=H5) (o:=.ins FR dx (dF "bottom" (V.int (Wg.sgn (S.R p q)*S.R p q)) [("many",V.int (n:Int)),("bottom",.int S.d),("rows",.ref D2),("chosen",.ref lc)])) nlx).trans hlc5;generalize upd H5 x (.ins FR dx (dF "bottom" (V.int (Wg.sgn (S.R p q)*S.R p q)) [("many",V.int (n:Int)),("bottom",.int S.d),("rows",.ref D2),("chosen",.ref lc)]))=H6 at e6 b6 rs6 hlc6|-;refine⟨_,rfl,_,rfl,x,FR,dx,_,_,rfl,e6,T.cN.oc.cl,T.cN.nc,rfl,_,rfl,lc,_,_,p,rfl,rfl,hlc6,by unfold tV;rw[aK];exact lL hp,?_⟩;refine k _ (b6.OI _) ⟨dx,D2,_,(aM (fun z=>nlx z.symm)).trans e6,⟨(aM nD2l).trans rs6.hr,rs6.len,fun k' r e=>(aM (nrl k' r e)).trans (rs6.at_ k' r e)⟩,?_⟩;rw[aC];unfold tV;rw[Fn];congr 2;refine dI fun k' _=>?_;show _=((Wg.Fd S.ch p q k':Nat):Int);unfold Wg.Fd;split <;> rfl
structure Bv (m n:Nat) (c:Nat->Int) (H:Hp) (pg:Addr):Prop where
 hg:H pg=some (.lst (bG (n+m) c))
 sz:∀j,Sm 100000 (c j)
theorem Bv.same {m n:Nat}{c:Nat->Int}{H H':Hp}{pg:Addr} (h:Bv m n c H pg) (s:aH H H'):Bv m n c H' pg:=⟨s _ _ h.hg,h.sz⟩
theorem tL {m n:Nat}{S:Wg.St}{H:Hp}{lr:Addr}{ras:List Addr} (rs:Rows m n S H lr ras):(tV m S).length=(ras.map V.ref).length:=by unfold tV;rw[aK,qAb,rs.len]
def Gz (FR:Addr):Sp:=fun vs H Q _=>∃(m n:Nat) (A:Nat->Nat->Int) (due:Nat->Int) (c:Nat->Int) (x lc pg:Addr) (S:Wg.St) (q:Nat),vs=[.ref x,.int (q:Int),.ref pg]/\gZ FR m n H x lc S/\Good m n A due S/\Bv m n c H pg/\q<n /\
 ∀H',aH H H'->Q (.bl (decide (0<S.red m c q))) H'
theorem GA:aT ["self","column","gains","given_up"] ["self","column","gains"] (aI Bj):=by constructor<;>first|rfl|decide +kernel
theorem JX (t:Mx K "gains_more" "Frame.gains_more" Bj ["self","column","gains"] f fd) (T:T K mg AL LN FR iF fCh fGM fCC fCA fPL SE NN NG NT NR):Md P w K mg base 1 ["self","column","gains"] (Gz FR) f:=by
 refine t.LA GA (fun vs H Q E h=>?_) (fun cdv _A outer s H vs Q E hr h=>?_)
 ·obtain⟨m,n,A,due,c,x,lc,pg,S,q,rfl,_⟩:=h;rfl
 ·obtain⟨m,n,A,due,c,x,lc,pg,S,q,rfl,⟨dx,lr,ras,hx,rs,hlc⟩,gd,gn,hq,k⟩:=h;have m8:=gd.ins.m8;have pA:=gd.ins.pA;obtain⟨sd,sR⟩:=gd.ins.size gd.ok;refine⟨_,(aD (aU (i:=3) GA.nd rfl bT (aJ (fQ rfl) (by rfl) T.iV jC (aA (bQ (NB:=["chosen","row","column","gains"]) (pick:=[none,none,some 1,some 2]) (bJ (by with_unfolding_all rfl) (by exact(And.intro rfl (And.intro rfl trivial))) rfl (by decide +kernel) (by decide +kernel) (by rfl) (by rfl)) rfl
     (gI (by rfl) T.gO (aA (bZ (pv 0) rfl) (aA (bZ (pv 0) rfl) aB))) (fun _ _ _=>(show PG _ _ (rP K 2 (fO (aY 0) (fO (aY 1) rO))) from eW rfl (bI (aL (i:=0) (show(["chosen","row","column","gains"]:List Str).Nodup from by decide +kernel) rfl bT) (bI (aL (i:=1) (show(["chosen","row","column","gains"]:List Str).Nodup from by decide +kernel) rfl bT) dG))))
     (fun _ _ _=>bK) (fun _ _ _=>(aS bL (aP (bV K) (pv 3) (pv 0) (fun _ _=>rfl)) (aP (bV K) (pv 1) (pv 2) (fun _ _=>rfl))))) aB)))
   (aG (aQ (eB i8 (pv 3) (aS bL (aP bC (pv 2) (pv 1) (fun _ _=>rfl)) (bZ (pv 0) rfl)) (aW _))))),?_⟩
  refine⟨_,rfl,x,FR,dx,_,_,rfl,hx,T.cN.oc.cl,T.cN.nc,rfl,_,rfl,x,FR,dx,_,_,rfl,hx,T.cN.oc.cl,T.cN.nr,rfl,lc,lr,rfl,⟨_,aR.of hlc⟩,⟨_,aR.of rs.hr⟩,?_⟩;refine jP (xs:=tV m S) (ys:=ras.map V.ref) (fun σ'=>∃o0 o1:Option V,σ'=[o0,o1,some (.int (q:Int)),some (.ref pg)]) (fun k' _ _=>some (.int (c (S.ch k')*S.R k' q))) ⟨_,_,rfl⟩ (aR.of hlc) (aR.of rs.hr) (tL rs) (by unfold tV;rw[aK];exact qAq (aO (by lia))) (fun k' x' y' tt σ1 H2 kk kk0 hσ s2 hx' hy' ht h1 h2=>?_) fun D H2 hD s2 hd=>?_
  ·obtain⟨o0,o1,rfl⟩:=hσ;obtain⟨hk',rfl⟩:=fF hx';obtain⟨r,er,rfl⟩:=c9 hy';have hch:=gd.ch k' hk';refine⟨tt,_,rfl,cA.of ht,rfl,_,_,rfl,_,_,rfl,rfl,?_⟩;exact⟨_,rfl,_,rfl,pg,_,_,_,rfl,rfl,aR.of (s2 _ _ gn.hg),bS hch,_,rfl,_,rfl,r,_,_,_,rfl,rfl,aR.of (s2 _ _ (rs.at_ k' r er)),bS (by lia),_,_,rfl,rfl,(gn.sz _).mb (sR k' hk' q),h1 _ _ ⟨_,_,rfl⟩ rfl _ (.refl _)⟩
  ·have hd':H2 D=some (.lst (((qAn m).map fun k'=>c (S.ch k')*S.R k' q).map V.int)):=by
    have e:(tV m S).length=m:=aK _ _;rw[hd,e,tH _ e (by rw[qAb,rs.len]),qCz];rfl
   refine⟨D,_,rfl,.inl (aR.of hd'),?_⟩;refine⟨_,rfl,_,rfl,_,rfl,pg,_,_,_,rfl,rfl,aR.of (s2 _ _ gn.hg),bS (by lia),_,rfl,x,FR,dx,_,_,rfl,s2 _ _ hx,T.cN.oc.cl,T.cN.nb,rfl,_,_,rfl,rfl,(gn.sz q).mb sd,_,_,rfl,rfl,?_⟩;rw[mP];have e:decide (Wg.sm m (fun k'=>c (S.ch k')*S.R k' q)<c q*S.d)=decide (0<S.red m c q):=by
    refine decide_eq_decide.mpr ?_;unfold Wg.St.red Wg.red;lia
   show Q (.bl (decide (Wg.sm m (fun k'=>c (S.ch k')*S.R k' q)<c q*S.d))) H2;rw[e];exact k H2 s2
def Dj (FR:Addr):Sp:=fun vs H Q _=>∃(m n:Nat) (A:Nat->Nat->Int) (due:Nat->Int) (c:Nat->Int) (x lc pg:Addr) (S:Wg.St),vs=[.ref x,.ref pg]/\gZ FR m n H x lc S/\Good m n A due S/\Bv m n c H pg /\
 ∀H',aH H H'->((∀j,j<n->S.red m c j<=0)->Q .non H')/\∀q:Nat,q<n->0<S.red m c q->(∀j,j<q->S.red m c j<=0)->Q (.int (q:Int)) H'
theorem GB:aT ["self","gains","column"] ["self","gains"] (aI Bk):=by constructor<;>first|rfl|decide +kernel
theorem JY (t:Mx K "column_to_choose" "Frame.column_to_choose" Bk ["self","gains"] f fd) (T:T K mg AL LN FR iF fCh fGM fCC fCA fPL SE NN NG NT NR) (DG:Md P w K mg base 1 ["self","column","gains"] (Gz FR) fGM):Md P w K mg base 2 ["self","gains"] (Dj FR) f:=by
 refine t.LA GB (fun vs H Q E h=>?_) (fun cdv _A outer s H vs Q E hr h=>?_)
 ·obtain⟨m,n,A,due,c,x,lc,pg,S,rfl,_⟩:=h;rfl
 ·obtain⟨m,n,A,due,c,x,lc,pg,S,rfl,fo,gd,gn,k⟩:=h;have pA:=gd.ins.pA;obtain⟨dx,lr,ras,hx,rs,hlc⟩:=id fo;refine⟨_,(aD (cO PassesOwn.never rfl (cB (by rfl) T.cD (aA (bZ (pv 0) rfl) aB)) (aL (i:=2) GB.nd rfl bT)
    (aG (bR (bU (gJ (k:=1) cK (pv 0) hr (by decide) (aA (pv 2) (aA (pv 1) aB)))) (aG (aQ (pv 2))) a8)))
   (aG (aQ dM))),?_⟩
  refine⟨_,rfl,x,FR,dx,_,_,rfl,hx,T.cN.oc.cl,T.cN.nm,rfl,n,rfl,by lia,by lia,?_⟩;refine iB (n:=n) (fun i σ H2=>aH H H2/\(∃o:Option V,σ=[some (.ref x),some (.ref pg),o])/\∀j,j<i->S.red m c j<=0) ⟨.refl _,⟨_,rfl⟩,fun j hj=>by lia⟩ (fun i σ H2 hi ⟨s2,⟨o,eσ⟩,le⟩=>?_) (fun σ H2 ⟨s2,⟨o,eσ⟩,le⟩=>?_)
  ·subst eσ;refine⟨_,rfl,x,FR,dx,_,fGM,_,rfl,s2 _ _ hx,rfl,T.cN.oc.cl,T.cN.PD,⟨_,DG⟩,?_⟩;refine⟨_,rfl,_,rfl,m,n,A,due,c,x,lc,pg,S,i,?_,fo.same s2,gd,gn.same s2,hi,fun H3 s3=>?_⟩
   ·rw[qCk]
   ·refine⟨_,rfl,cY (fun z=>⟨_,rfl,?_⟩) (fun z=>⟨s2.trans s3,⟨_,rfl⟩,fun j hj=>?_⟩)⟩
    ·rw[qCk];exact(k H3 (s2.trans s3)).2 i hi (of_decide_eq_true z) le
    ·by_cases e:j=i
     ·subst e;have:¬(0<S.red m c j):=fun y=>z (decide_eq_true y);lia
     ·exact le j (by lia)
  ·exact(k H2 s2).1 le
def GC (FR:Addr):Sp:=fun vs H Q _=>∃(m n:Nat) (A:Nat->Nat->Int) (due:Nat->Int) (x lc:Addr) (S:Wg.St) (a b q:Nat),vs=[.ref x,.int (a:Int),.int (b:Int),.int (q:Int)]/\gZ FR m n H x lc S/\Good m n A due S/\a<m/\b<m/\q<n /\
 Q (.bl (decide (S.R a (n+m)*S.R b q<S.R b (n+m)*S.R a q\/(S.R a (n+m)*S.R b q=S.R b (n+m)*S.R a q/\S.ch a<S.ch b)))) H
theorem Dk:aT ["self","one","other","column","first","second"] ["self","one","other","column"] (aI Bl):=by constructor<;>first|rfl|decide +kernel
theorem JZ (t:Mx K "comes_ahead" "Frame.comes_ahead" Bl ["self","one","other","column"] f fd) (T:T K mg AL LN FR iF fCh fGM fCC fCA fPL SE NN NG NT NR):Md P w K mg base 1 ["self","one","other","column"] (GC FR) f:=by
 refine t.LA Dk (fun vs H Q E h=>?_) (fun cdv _A outer s H vs Q E hr h=>?_)
 ·obtain⟨m,n,A,due,x,lc,S,a,b,q,rfl,_⟩:=h;rfl
 ·obtain⟨m,n,A,due,x,lc,S,a,b,q,rfl,⟨dx,lr,ras,hx,rs,hlc⟩,gd,ha,hb,hq,k⟩:=h;obtain⟨sd,sR⟩:=gd.ins.size gd.ok;obtain⟨ra,ea,aa,hra⟩:=rs.get ha;obtain⟨rb,eb,ab,hrb⟩:=rs.get hb;refine⟨_,(aD (aU (i:=4) Dk.nd rfl bT (aS bL (aP bC (aP bC (bZ (pv 0) rfl) (pv 1) (fun _ _=>rfl)) (iU fT aE) (fun _ _=>rfl)) (aP bC (aP bC (bZ (pv 0) rfl) (pv 2) (fun _ _=>rfl)) (pv 3) (fun _ _=>rfl))))
   (aD (aU (i:=5) Dk.nd rfl bT (aS bL (aP bC (aP bC (bZ (pv 0) rfl) (pv 2) (fun _ _=>rfl)) (iU fT aE) (fun _ _=>rfl)) (aP bC (aP bC (bZ (pv 0) rfl) (pv 1) (fun _ _=>rfl)) (pv 3) (fun _ _=>rfl))))
   (aG (aQ (LO (eB i8 (pv 4) (pv 5) (aW _)) (kF (lZ (eB g6 (pv 4) (pv 5) (aW _)) (kF (eB i8 (aP bC (bZ (pv 0) rfl) (pv 1) (fun _ _=>rfl)) (aP bC (bZ (pv 0) rfl) (pv 2) (fun _ _=>rfl)) (aW _)))))))))),?_⟩
  have la:fK (tK m n S a) (-1)=some (.int (S.R a (n+m))):=jF (n+m) _;have lb:fK (tK m n S b) (-1)=some (.int (S.R b (n+m))):=jF (n+m) _;refine⟨_,rfl,x,FR,dx,_,_,rfl,hx,T.cN.oc.cl,T.cN.nr,rfl,_,rfl,lr,_,_,_,rfl,rfl,aR.of rs.hr,aa,_,rfl,ra,_,_,_,rfl,rfl,aR.of hra,la,?_⟩;refine⟨_,rfl,x,FR,dx,_,_,rfl,hx,T.cN.oc.cl,T.cN.nr,rfl,_,rfl,lr,_,_,_,rfl,rfl,aR.of rs.hr,ab,_,rfl,rb,_,_,_,rfl,rfl,aR.of hrb,bS (by lia),_,_,rfl,rfl,(sR a ha _).mb (sR b hb _),?_⟩;refine⟨_,rfl,x,FR,dx,_,_,rfl,hx,T.cN.oc.cl,T.cN.nr,rfl,_,rfl,lr,_,_,_,rfl,rfl,aR.of rs.hr,ab,_,rfl,rb,_,_,_,rfl,rfl,aR.of hrb,lb,?_⟩;refine⟨_,rfl,x,FR,dx,_,_,rfl,hx,T.cN.oc.cl,T.cN.nr,rfl,_,rfl,lr,_,_,_,rfl,rfl,aR.of rs.hr,aa,_,rfl,ra,_,_,_,rfl,rfl,aR.of hra,bS (by lia),_,_,rfl,rfl,(sR b hb _).mb (sR a ha _),?_⟩;refine⟨_,rfl,_,rfl,_,_,rfl,rfl,_,rfl,cY (fun z=>?_) (fun z=>?_)⟩
  ·rw[decide_eq_true (.inl (of_decide_eq_true z))] at k;exact k
  ·have z1:¬S.R a (n+m)*S.R b q<S.R b (n+m)*S.R a q:=fun y=>z (decide_eq_true y);refine⟨_,rfl,_,rfl,rfl,_,rfl,cY (fun z2=>?_) (fun z2=>?_)⟩
   ·have e:=V.int.inj (of_decide_eq_true z2);refine⟨_,rfl,x,FR,dx,_,_,rfl,hx,T.cN.oc.cl,T.cN.nc,rfl,_,rfl,lc,_,_,_,rfl,rfl,aR.of hlc,bS ha,_,rfl,x,FR,dx,_,_,rfl,hx,T.cN.oc.cl,T.cN.nc,rfl,_,rfl,lc,_,_,_,rfl,rfl,aR.of hlc,bS hb,_,_,rfl,rfl,?_⟩;have e2:decide (((S.ch a:Nat):Int)<((S.ch b:Nat):Int))=decide (S.R a (n+m)*S.R b q<S.R b (n+m)*S.R a q\/S.R a (n+m)*S.R b q=S.R b (n+m)*S.R a q/\S.ch a<S.ch b):=by
     refine decide_eq_decide.mpr ⟨fun y=>.inr ⟨e,by lia⟩,fun y=>?_⟩;rcases y with y | ⟨_,y⟩ <;> lia
    rw[<- e2] at k;exact k
   ·have e:¬S.R a (n+m)*S.R b q=S.R b (n+m)*S.R a q:=fun y=>z2 (decide_eq_true (congrArg V.int y));rw[decide_eq_false (fun y=>by rcases y with y | ⟨y,_⟩ <;> contradiction)] at k;exact k
def GD (FR:Addr):Sp:=fun vs H Q _=>∃(m n:Nat) (A:Nat->Nat->Int) (due:Nat->Int) (x lc:Addr) (S:Wg.St) (q:Nat),vs=[.ref x,.int (q:Int)]/\gZ FR m n H x lc S/\Good m n A due S/\q<n /\
 ∀H',aH H H'->((∀k,k<m->S.R k q<=0)->Q .non H')/\∀p:Nat,p<m->0<S.R p q->(∀k,k<m->0<S.R k q->Wg.Ah (n+m) q S p k)->Q (.int (p:Int)) H'
def OL (L q:Nat) (S:Wg.St) (i:Nat) (v:V):Prop:=(v = .non/\∀k,k<i->S.R k q<=0)\/∃p:Nat,v = .int (p:Int)/\p<i/\0<S.R p q/\∀k,k<i->0<S.R k q->Wg.Ah L q S p k
theorem vH:aT ["self","column","found","place","row"] ["self","column"] (aI Bm):=by constructor<;>first|rfl|decide +kernel
theorem Ka (t:Mx K "place_to_leave" "Frame.place_to_leave" Bm ["self","column"] f fd) (T:T K mg AL LN FR iF fCh fGM fCC fCA fPL SE NN NG NT NR) (DA:Md P w K mg base 1 ["self","one","other","column"] (GC FR) fCA):Md P w K mg base 2 ["self","column"] (GD FR) f:=by
 refine t.LA vH (fun vs H Q E h=>?_) (fun cdv _A outer s H vs Q E hr h=>?_)
 ·obtain⟨m,n,A,due,x,lc,S,q,rfl,_⟩:=h;rfl
 ·obtain⟨m,n,A,due,x,lc,S,q,rfl,fo,gd,hq,k⟩:=h;obtain⟨dx,lr,ras,hx,rs,hlc⟩:=id fo;refine⟨_,(aD (aU (i:=2) vH.nd rfl bT dM)
   (aD (cO PassesOwn.never rfl (sC (by rfl) T.kL (aA (bZ (pv 0) rfl) aB)) (eW rfl (bI (aL (i:=3) vH.nd rfl bT) (bI (aL (i:=4) vH.nd rfl bT) dG)))
    (aG (bR (PW.pt (pw_and (aV t7 (aP bC (pv 4) (pv 1) (fun _ _=>rfl)) aE (aW _)) (pw_and1 (PW.pt (pw_or (aV rS (pv 2) dM (aW _)) (pw_or1 (bU (gJ (k:=1) cK (pv 0) hr (by decide) (aA (pv 3) (aA (pv 2) (aA (pv 1) aB))))))))))) (aG (aU (i:=2) vH.nd rfl bT (pv 3))) a8)))
   (aG (aQ (pv 2))))),?_⟩
  refine⟨_,rfl,x,FR,dx,_,_,rfl,hx,T.cN.oc.cl,T.cN.nr,rfl,lr,rfl,⟨_,aR.of rs.hr⟩,?_⟩;refine uJ (xs:=ras.map V.ref) (fun i σ H2=>aH H H2/\∃(v:V) (o3 o4:Option V),σ=[some (.ref x),some (.int (q:Int)),some v,o3,o4]/\OL (n+m) q S i v) ⟨.refl _,.non,_,_,rfl,.inl ⟨rfl,fun k' hk'=>by lia⟩⟩ (fun i σ H2 _ ⟨s2,_⟩=>aR.of (s2 _ _ rs.hr)) (fun i y tt σ H2 hy ht ⟨s2,v,o3,o4,eσ,fn⟩=>?_) (fun σ H2 ⟨s2,v,o3,o4,eσ,fn⟩=>?_)
  ·subst eσ;obtain⟨r,er,rfl⟩:=c9 hy;have hi:i<m:=by
    obtain⟨z,_⟩:=List.getElem?_eq_some_iff.mp er;rw[rs.len] at z;exact z
   have u2:=aH.aF (o:=.tup [.int (i:Int),.ref r]) ht;have e2:upd H2 tt (.tup [.int (i:Int),.ref r]) tt=some (.tup [.int (i:Int),.ref r]):=aC;generalize upd H2 tt (.tup [.int (i:Int),.ref r])=H3 at u2 e2|-;have s3:=s2.trans u2;refine⟨tt,_,rfl,cA.of e2,rfl,_,_,rfl,_,_,rfl,rfl,?_⟩;have goOn:∀(v':V),(∀w',v'=w'->True)->OL (n+m) q S (i+1) v'->aH H H3/\∃(v:V) (o3 o4:Option V),[some (V.ref x),some (V.int (q:Int)),some v',some (V.int (i:Int)),some (V.ref r)]=[some (.ref x),some (.int (q:Int)),some v,o3,o4]/\OL (n+m) q S (i+1) v:=fun v' _ h=>⟨s3,v',_,_,rfl,h⟩;refine⟨_,rfl,_,rfl,r,_,_,_,rfl,rfl,aR.of (s3 _ _ (rs.at_ i r er)),bS (by lia),_,_,rfl,rfl,_,rfl,cY (fun z=>?_) (fun z=>?_)⟩
   ·have pos:0<S.R i q:=of_decide_eq_true z;rcases fn with ⟨rfl,no⟩ | ⟨p,rfl,hp,pp,ah⟩
    ·refine⟨_,rfl,rfl,_,rfl,iP ?_⟩;refine⟨_,rfl,goOn _ (fun _ _=>trivial) (.inr ⟨i,rfl,by lia,pos,fun k' hk' pk=>?_⟩)⟩;by_cases e:k'=i
     ·rw[e];exact .refl _
     ·have:=no k' (by lia);lia
    ·refine⟨_,rfl,rfl,_,rfl,cL ?_⟩;refine⟨_,rfl,x,FR,dx,_,fCA,_,rfl,s3 _ _ hx,rfl,T.cN.oc.cl,T.cN.PF,⟨_,DA⟩,?_⟩;refine⟨_,rfl,_,rfl,_,rfl,m,n,A,due,x,lc,S,i,p,q,rfl,fo.same s3,gd,hi,by lia,hq,?_⟩;refine⟨_,rfl,cY (fun y=>?_) (fun y=>?_)⟩
     ·refine⟨_,rfl,goOn _ (fun _ _=>trivial) (.inr ⟨i,rfl,by lia,pos,fun k' hk' pk=>?_⟩)⟩;by_cases e:k'=i
      ·rw[e];exact .refl _
      ·exact .trans pos pp pk (.of (of_decide_eq_true y)) (ah k' (by lia) pk)
     ·refine goOn _ (fun _ _=>trivial) (.inr ⟨p,rfl,by lia,pp,fun k' hk' pk=>?_⟩);by_cases e:k'=i
      ·rw[e];exact .IJ (fun z=>y (decide_eq_true z))
      ·exact ah k' (by lia) pk
   ·have le:S.R i q<=0:=by
     have:¬(0<S.R i q):=fun y=>z (decide_eq_true y);lia
    refine goOn _ (fun _ _=>trivial) ?_;rcases fn with ⟨rfl,no⟩ | ⟨p,rfl,hp,pp,ah⟩
    ·refine .inl ⟨rfl,fun k' hk'=>?_⟩;by_cases e:k'=i
     ·rw[e];exact le
     ·exact no k' (by lia)
    ·refine .inr ⟨p,rfl,by lia,pp,fun k' hk' pk=>?_⟩;by_cases e:k'=i
     ·rw[e] at pk;lia
     ·exact ah k' (by lia) pk
  ·subst eσ;rw[qAb,rs.len] at fn;refine⟨_,rfl,?_⟩;rcases fn with ⟨rfl,no⟩ | ⟨p,rfl,hp,pp,ah⟩
   ·exact(k H2 s2).1 no
   ·exact(k H2 s2).2 p hp pp ah
def GF (FR:Addr):Sp:=fun vs H Q _=>∃(m n:Nat) (A:Nat->Nat->Int) (due:Nat->Int) (c:Nat->Int) (x lc pg:Addr) (S:Wg.St),vs=[.ref x,.ref pg]/\gZ FR m n H x lc S/\Good m n A due S/\(∀k,k<m->0<=S.R k (n+m))/\Bv m n c H pg/\pg≠lc /\
 ∀(S':Wg.St) (H':Hp),nJ x lc H H'->gZ FR m n H' x lc S'->Good m n A due S'->(∃T st p q,Wg.Run m n (n+m) (Wg.fX m n A due) c T st p q/\st 0=S/\st T=S') ->
  ((∀j,j<n->S'.red m c j<=0)->Q .non H')/\∀q:Nat,q<n->0<S'.red m c q->(∀k,k<m->S'.R k q<=0)->Q (.int (q:Int)) H'
def OM (m n:Nat) (c:Nat->Int) (S:Wg.St) (v:V):Prop:=(v = .non/\∀j,j<n->S.red m c j<=0)\/∃q:Nat,v = .int (q:Int)/\q<n/\0<S.red m c q/\∀j,j<q->S.red m c j<=0
theorem zQ:aT ["frame","gains","column","place"] ["frame","gains"] (aI IX):=by constructor<;>first|rfl|decide +kernel
theorem Kb (t:Tx K mg "climb" IX ["frame","gains"] f fd) (T:T K mg AL LN FR iF fCh fGM fCC fCA fPL SE NN NG NT NR) (DC:Md P w K mg base 2 ["self","gains"] (Dj FR) fCC) (DP:Md P w K mg base 2 ["self","column"] (GD FR) fPL) (DH:Md P w K mg base 2 ["self","place","column"] (Di FR) fCh) :
  Df P w K mg base b0 3 "climb" ["frame","gains"] (GF FR) f fd:=by
 refine t.gY zQ (fun vs H Q E h=>?_) (fun cdv _A outer s H vs Q E hr h=>?_)
 ·obtain⟨m,n,A,due,c,x,lc,pg,S,rfl,_⟩:=h;rfl
 ·obtain⟨m,n,A,due,c,x,lc,pg,S,rfl,fo,gd,fe,gn,npl,k⟩:=h;have hch:=gd.ch;refine⟨_,(aD (aU (i:=2) zQ.nd rfl bT (gJ (k:=2) cK (pv 0) hr (by decide) (aA (pv 1) aB)))
   (aD (kT PassesOwn.never (aV yL (pv 2) dM (aW _))
    (aD (aU (i:=3) zQ.nd rfl bT (gJ (k:=2) cK (pv 0) hr (by decide) (aA (pv 2) aB)))
    (aD (bR (aV rS (pv 3) dM (aW _)) (aG (aQ (pv 2))) a8)
    (aD (fN (gJ (k:=2) cK (pv 0) hr (by decide) (aA (pv 3) (aA (pv 2) aB))))
    (aG (aU (i:=2) zQ.nd rfl bT (gJ (k:=2) cK (pv 0) hr (by decide) (aA (pv 1) aB))))))))
   (aG (aQ dM)))),?_⟩
  have ask:∀{S1:Wg.St}{H1:Hp}{R:VK}{E':XK},gZ FR m n H1 x lc S1->Good m n A due S1->Bv m n c H1 pg->(∀v H2,aH H1 H2->OM m n c S1 v->R v H2)->Dj FR [.ref x,.ref pg] H1 R E':=fun {S1 H1 R E'} f1 g1 n1 kk =>
   ⟨m,n,A,due,c,x,lc,pg,S1,rfl,f1,g1,n1,fun H2 s2=>⟨fun no=>kk _ H2 s2 (.inl ⟨rfl,no⟩),fun q hq pos le=>kk _ H2 s2 (.inr ⟨q,rfl,hq,pos,le⟩)⟩⟩
  obtain⟨dx,lr,ras,hx,rs,hlc⟩:=id fo;refine⟨_,rfl,x,FR,dx,_,fCC,_,rfl,hx,rfl,T.cN.oc.cl,T.cN.Pd,⟨_,DC⟩,_,rfl,?_⟩;dsimp only[iC];refine ask fo gd gn fun v0 H1 s1 nx0=>?_;refine⟨fun mm σ H2=>∃(TT:Nat) (st:Nat->Wg.St) (p q:Nat->Nat) (v:V) (o:Option V),Wg.Run m n (n+m) (Wg.fX m n A due) c TT st p q/\st 0=S/\mm=(n+m)^m-TT/\nJ x lc H H2/\gZ FR m n H2 x lc (st TT)/\Good m n A due (st TT)/\σ=[some (.ref x),some (.ref pg),some v,o]/\OM m n c (st TT) v,
   ⟨_,0,fun _=>S,fun _=>0,fun _=>0,v0,none,.none gd.ok fe,rfl,rfl,Gw s1 x lc,fo.same s1,gd,rfl,nx0⟩,?_⟩
  rintro mm σ H2 ⟨TT,st,p,q,v,o,run,e0,rfl,sb,f2,g2,rfl,nx⟩;have hpx:pg≠x:=j5 gn.hg hx (by intro z;cases z);have gn2:Bv m n c H2 pg:=⟨sb _ _ hpx npl gn.hg,gn.sz⟩;obtain⟨dx2,lr2,ras2,hx2,rs2,hlc2⟩:=id f2;refine⟨_,rfl,rfl,_,rfl,?_⟩;rcases nx with ⟨rfl,no⟩ | ⟨q0,rfl,hq0,pos,le⟩
  ·exact cL ((k (st TT) H2 sb f2 g2 ⟨TT,st,p,q,run,e0,rfl⟩).1 no)
  ·refine iP ⟨fun σ' H'=>∃(TT':Nat) (st':Nat->Wg.St) (p' q':Nat->Nat) (v:V) (o:Option V),Wg.Run m n (n+m) (Wg.fX m n A due) c TT' st' p' q'/\st' 0=S/\TT'=TT+1/\nJ x lc H H'/\gZ FR m n H' x lc (st' TT')/\Good m n A due (st' TT')/\σ'=[some (.ref x),some (.ref pg),some v,o]/\OM m n c (st' TT') v,?_,?_⟩
   ·rintro σ' H' ⟨TT',st',p',q',v,o,run',e0',rfl,sb',f',g',eσ,nx'⟩;have z:=run'.ends (N:=n+m) (by lia) (by rw[e0'];exact hch);exact⟨_,by lia,TT+1,st',p',q',v,o,run',e0',rfl,sb',f',g',eσ,nx'⟩
   ·refine⟨_,rfl,x,FR,dx2,_,fPL,_,rfl,hx2,rfl,T.cN.oc.cl,T.cN.PH,⟨_,DP⟩,_,rfl,m,n,A,due,x,lc,st TT,q0,rfl,f2,g2,hq0,fun H3 s3=>⟨fun no=>?_,fun p0 hp0 pp ah=>?_⟩⟩
    ·refine⟨_,rfl,rfl,_,rfl,iP ⟨_,rfl,?_⟩⟩;exact(k (st TT) H3 (sb.then s3) (f2.same s3) g2 ⟨TT,st,p,q,run,e0,rfl⟩).2 q0 hq0 pos no
    ·have go:Wg.Goes m n (n+m) c (st TT) p0 q0:=⟨hq0,pos,le,hp0,pp,ah⟩;obtain⟨st',p',q',run',e0',e1'⟩:=run.more go;have g3:Good m n A due ((st TT).next p0 q0):=g2.next hp0 hq0 (by lia);refine⟨_,rfl,rfl,_,rfl,cL ?_⟩;have hx3:=s3 _ _ hx2;refine⟨_,rfl,x,FR,dx2,_,fCh,_,rfl,hx3,rfl,T.cN.oc.cl,T.cN.Pc,⟨_,DH⟩,_,rfl,_,rfl,m,n,A,due,x,lc,st TT,p0,q0,rfl,f2.same s3,g2,hp0,hq0,by lia,fun H4 s4 f4=>?_⟩;obtain⟨dx4,lr4,ras4,hx4,rs4,hlc4⟩:=id f4;have sb4:=(sb.then s3).trans s4;refine⟨_,rfl,x,FR,dx4,_,fCC,_,rfl,hx4,rfl,T.cN.oc.cl,T.cN.Pd,⟨_,DC⟩,_,rfl,?_⟩;dsimp only[iC];refine ask f4 g3 ⟨sb4 _ _ hpx npl gn.hg,gn.sz⟩ fun v5 H5 s5 nx5=>?_;refine⟨TT+1,st',p',q',v5,_,run',e0'.trans e0,rfl,sb4.then s5,?_,?_,rfl,?_⟩
     ·rw[e1'];exact f4.same s5
     ·rw[e1'];exact g3
     ·rw[e1'];exact nx5
def tW (m n:Nat) (S:Wg.St):List Nat:=(qAn m).filter fun k=>decide (n<=S.ch k)
theorem lM {m n:Nat}{S:Wg.St}{k:Nat}:k∈tW m n S↔k<m/\n<=S.ch k:=by
 unfold tW;rw[qKm,List.mem_range,decide_eq_true_iff]
def aZ (ks:List Nat):List V:=ks.map fun(k:Nat)=>V.int (k:Int)
theorem zR {ks:List Nat}{i:Nat}{v:V} (h:(aZ ks)[i]?=some v):∃k,ks[i]?=some k/\v = .int (k:Int):=by
 unfold aZ at h;rw[qAo] at h;cases e:ks[i]? with
 | none=>rw[e] at h;cases h
 | some a=>rw[e] at h;exact⟨a,rfl,(Option.some.inj h).symm⟩
def Dl (FR:Addr):Sp:=fun vs H Q _=>∃(m n:Nat) (A:Nat->Nat->Int) (due:Nat->Int) (x lc:Addr) (S:Wg.St),vs=[.ref x]/\gZ FR m n H x lc S/\Good m n A due S/\∀D H',H D=none->aH H H'->H' D=some (.lst (aZ (tW m n S)))->Q (.ref D) H'
theorem MS:aT ["frame"] ["frame"] (aI IY):=by constructor<;>first|rfl|decide +kernel
theorem Kc (t:Tx K mg "spare_places" IY ["frame"] f fd) (T:T K mg AL LN FR iF fCh fGM fCC fCA fPL SE NN NG NT NR):Df P w K mg base b0 1 "spare_places" ["frame"] (Dl FR) f fd:=by
 refine t.gY MS (fun vs H Q E h=>?_) (fun cdv _A outer s H vs Q E hr h=>?_)
 ·obtain⟨m,n,A,due,x,lc,S,rfl,_⟩:=h;rfl
 ·obtain⟨m,n,A,due,x,lc,S,rfl,⟨dx,lr,ras,hx,rs,hlc⟩,gd,k⟩:=h;have m8:=gd.ins.m8;refine⟨_,(aG (aQ (bQ (NB:=["place","column","frame"]) (pick:=[none,none,some 0]) (bJ (by with_unfolding_all rfl) (by exact(And.intro rfl trivial)) rfl (by decide +kernel) (by decide +kernel) (by rfl) (by rfl)) rfl
     (sC (by rfl) T.kL (aA (bZ (pv 0) rfl) aB)) (fun _ _ _=>(show PG _ _ (rP K 2 (fO (aY 0) (fO (aY 1) rO))) from eW rfl (bI (aL (i:=0) (show(["place","column","frame"]:List Str).Nodup from by decide +kernel) rfl bT) (bI (aL (i:=1) (show(["place","column","frame"]:List Str).Nodup from by decide +kernel) rfl bT) dG))))
     (fun _ _ _=>eZ (aV BF (pv 1) (k9 K (pv 2) rfl) (aW _))) (fun _ _ _=>(pv 0))))),?_⟩
  refine⟨_,rfl,x,FR,dx,_,_,rfl,hx,T.cN.oc.cl,T.cN.nc,rfl,lc,rfl,⟨_,aR.of hlc⟩,?_⟩;refine wZ (xs:=tV m S) (fun σ'=>∃o0 o1:Option V,σ'=[o0,o1,some (.ref x)]) (fun k' _=>if n<=S.ch k' then some (.int (k':Int)) else none) ⟨_,_,rfl⟩ (aR.of hlc) (by unfold tV;rw[aK];exact qAq (aO (by lia))) (fun i y tt σ1 H2 kk kk0 hσ s2 hy ht h1 h2=>?_) fun D H2 hD s2 hd=>?_
  ·obtain⟨o0,o1,rfl⟩:=hσ;obtain⟨hi,rfl⟩:=fF hy;refine⟨tt,_,rfl,cA.of ht,rfl,_,_,rfl,_,_,rfl,rfl,?_⟩;refine⟨_,rfl,_,rfl,x,FR,dx,_,_,rfl,s2 _ _ hx,T.cN.oc.cl,T.cN.nm,rfl,_,_,rfl,rfl,_,rfl,cY (fun z=>?_) (fun z=>?_)⟩
   ·have z':n<=S.ch i:=by have:((n:Nat):Int)<=((S.ch i:Nat):Int):=of_decide_eq_true z;lia
    exact⟨_,rfl,h1 _ _ ⟨_,_,rfl⟩ (if_pos z') _ (.refl _)⟩
   ·have z':¬n<=S.ch i:=fun y=>z (decide_eq_true (by show((n:Nat):Int)<=((S.ch i:Nat):Int);lia));exact h2 _ ⟨_,_,rfl⟩ (if_neg z') _ (.refl _)
  ·refine k D H2 hD s2 ?_;rw[hd];have e:(tV m S).length=m:=aK _ _;rw[e];congr 2;unfold aZ tW;rw[<- qGk,qLv];refine dE fun i hi=>?_;rw[qAd (by rw[e];exact List.mem_range.mp hi)];show(if n<=S.ch i then some (V.int (i:Int)) else none)=if decide (n<=S.ch i)=true then some (V.int (i:Int)) else none;by_cases z:n<=S.ch i
   ·rw[if_pos z,if_pos (decide_eq_true z)]
   ·rw[if_neg z,if_neg (fun y=>z (of_decide_eq_true y))]
def GG (FR:Addr):Sp:=fun vs H Q _=>∃(m n:Nat) (A:Nat->Nat->Int) (due:Nat->Int) (x lc:Addr) (S:Wg.St),vs=[.ref x]/\gZ FR m n H x lc S/\Good m n A due S/\(∀k,k<m->0<=S.R k (n+m))/\(∀k,k<m->n<=S.ch k->S.R k (n+m)=0) /\
 ∀(S':Wg.St) (H':Hp),nJ x lc H H'->gZ FR m n H' x lc S'->Good m n A due S'->(∀k,k<m->0<=S'.R k (n+m))->Wg.Clean m n S'->Q .non H'
structure Ke (m n:Nat) (S:Wg.St) (ps:List Nat):Prop where
 fe:∀k,k<m->0<=S.R k (n+m)
 z0:∀k,k<m->n<=S.ch k->S.R k (n+m)=0
 Fo:∀k∈ps,k<m/\n<=S.ch k
 done:∀k,k<m->n<=S.ch k->k∉ps->∀j,j<n->S.R k j=0
 nd:ps.Nodup
theorem Ke.skip {m n:Nat}{S:Wg.St}{p:Nat}{ps:List Nat} (h:Ke m n S (p::ps)) (r0:∀j,j<n->S.R p j=0):Ke m n S ps :=
 ⟨h.fe,h.z0,fun k hk=>h.Fo k (qBx _ hk),fun k hk sp no=>by
  by_cases e:k=p
  ·rw[e];exact r0
  ·exact h.done k hk sp (fun z=>by rcases List.mem_cons.mp z with y | y <;> contradiction),(List.nodup_cons.mp h.nd).2⟩
theorem Ke.go {m n:Nat}{M:Nat->Nat->Int}{S:Wg.St}{p q:Nat}{ps:List Nat} (h:Ke m n S (p::ps)) (ok:S.ok m M) (hq:q<n) (nz:S.R p q≠0):Ke m n (S.next p q) ps:=by
 obtain⟨hp,spp⟩:=h.Fo p (qCi ..);obtain⟨z1,z2⟩:=Wg.Bc ok hp nz (h.z0 p hp spp) h.fe;have nd:=List.nodup_cons.mp h.nd;have back:∀k,n<=(S.next p q).ch k->k≠p/\n<=S.ch k:=fun k sp=>by
  have ne:k≠p:=fun e=>by rw[e,Wg.St.gM] at sp;lia
  rw[Wg.St.fE ne] at sp;exact⟨ne,sp⟩
 refine⟨z1,fun k hk sp=>z2 k hk (h.z0 k hk (back k sp).2),fun k hk=>?_,fun k hk sp no=>?_,nd.2⟩
 ·obtain⟨a,b⟩:=h.Fo k (qBx _ hk);have ne:k≠p:=fun e=>nd.1 (e▸hk);exact⟨a,by rw[Wg.St.fE ne];exact b⟩
 ·obtain⟨ne,sp'⟩:=back k sp;exact Wg.CO ok hp hq nz hk ne (h.done k hk sp' (fun z=>by rcases List.mem_cons.mp z with y | y <;> contradiction))
def MT (n:Nat) (f:Nat->Int):List Nat:=(qAn n).filter fun j=>decide (f j≠0)
theorem Dm:aT ["frame","place","others"] ["frame"] (aI IZ):=by constructor<;>first|rfl|decide +kernel
theorem Kf {f1:Addr}{fd1:qBo} (t:Tx K mg "leave_spares" IZ ["frame"] f fd) (T:T K mg AL LN FR iF fCh fGM fCC fCA fPL SE NN NG NT NR) (D_spare_places:Df P w K mg base b0 1 "spare_places" ["frame"] (Dl FR) f1 fd1) (DH:Md P w K mg base 2 ["self","place","column"] (Di FR) fCh) :
  Df P w K mg base b0 3 "leave_spares" ["frame"] (GG FR) f fd:=by
 refine t.gY Dm (fun vs H Q E h=>?_) (fun cdv _A outer s H vs Q E hr h=>?_)
 ·obtain⟨m,n,A,due,x,lc,S,rfl,_⟩:=h;rfl
 ·obtain⟨m,n,A,due,x,lc,S,rfl,fo,gd,fe,z0,k⟩:=h;have pA:=gd.ins.pA;refine⟨_,(aG (cO PassesOwn.never rfl (bN (aX D_spare_places hr (by decide) (by rfl) (aA (pv 0) aB))) (aL (i:=1) Dm.nd rfl (by first|exact .inl rfl|exact .inr rfl))
    (aD (eD (NB:=["column","frame","place"]) (pick:=[none,some 0,some 1]) (i:=2) Dm.nd rfl bT (by rfl) (bJ (by with_unfolding_all rfl) (by exact(And.intro rfl (And.intro rfl trivial))) rfl (by decide +kernel) (by decide +kernel) (by rfl) (by rfl)) rfl
     (cB (by rfl) T.cD (aA (bZ (pv 0) rfl) aB)) (fun _ _ _=>aL (i:=0) (show(["column","frame","place"]:List Str).Nodup from by decide +kernel) rfl bT)
     (fun _ _ _=>eZ (aV eO (aP (bV K) (aP (bV K) (k9 K (pv 1) rfl) (pv 2) (fun _ _=>rfl)) (pv 0) (fun _ _=>rfl)) aE (aW _))) (fun _ _ _=>(pv 0)))
    (aG (bR (aV t7 (aJ aN (by rfl) T.bW bM (aA (pv 2) aB)) aE (aW _)) (aG (fN (gJ (k:=2) cK (pv 0) hr (by decide) (aA (pv 1) (aA (aP bC (pv 2) aE (fun _ _=>rfl)) aB))))) a8))))),?_⟩
  refine⟨_,rfl,m,n,A,due,x,lc,S,rfl,fo,gd,fun D H1 hD s1 hd=>⟨D,rfl,⟨_,aR.of hd⟩,?_⟩⟩;obtain⟨dx0,lr0,ras0,hx0,rs0,hlc0⟩:=id fo;have nDx:D≠x:=fun z=>by rw[z,hx0] at hD;cases hD
  have nDl:D≠lc:=fun z=>by rw[z,hlc0] at hD;cases hD
  refine dN (xs:=aZ (tW m n S)) (fun i σ H2=>∃(S2:Wg.St) (o1 o2:Option V),σ=[some (.ref x),o1,o2]/\nJ x lc H1 H2/\gZ FR m n H2 x lc S2/\Good m n A due S2/\Ke m n S2 ((tW m n S).drop i)) ⟨S,_,_,rfl,.refl _,fo.same s1,gd,⟨fe,z0,fun k' hk'=>lM.mp hk',fun k' hk' sp no=>absurd (lM.mpr ⟨hk',sp⟩) no,List.nodup_range.filter _⟩⟩ (fun i σ H2 _ ⟨S2,o1,o2,_,sb,_⟩=>aR.of (sb _ _ nDx nDl hd)) (fun i y σ H2 hy ⟨S2,o1,o2,eσ,sb,f2,g2,lv⟩=>?_) (fun σ H2 ⟨S2,o1,o2,eσ,sb,f2,g2,lv⟩=>?_)
  ·subst eσ;obtain⟨p,ep,rfl⟩:=zR hy;obtain⟨hi,ep'⟩:=List.getElem?_eq_some_iff.mp ep;rw[List.drop_eq_getElem_cons hi,ep'] at lv;obtain⟨hp,spp⟩:=lv.Fo p (qCi ..);obtain⟨dx,lr,ras,hx,rs,hlc⟩:=id f2;obtain⟨rp,erp,arp,hrp⟩:=rs.get hp;refine⟨_,rfl,x,FR,dx,_,_,rfl,hx,T.cN.oc.cl,T.cN.nm,rfl,n,rfl,by lia,by lia,?_⟩;refine fC (n:=n) (fun j=>if S2.R p j≠0 then some (.int (j:Int)) else none) (qAq (aO (by lia))) (fun j H3 kk kk0 s3 hj g1 g2=>?_) fun D2 H3 hD2 s3 hd2=>?_
   ·refine⟨_,rfl,x,FR,dx,_,_,rfl,s3 _ _ hx,T.cN.oc.cl,T.cN.nr,rfl,_,rfl,lr,_,_,_,rfl,rfl,aR.of (s3 _ _ rs.hr),arp,_,rfl,rp,_,_,_,rfl,rfl,aR.of (s3 _ _ hrp),(show fK (tK m n S2 p) (0+(j:Int))=some (.int (S2.R p j)) by rw[qCk];exact bS (by lia)),rfl,_,rfl,cY (fun z=>?_) (fun z=>?_)⟩
    ·have z':S2.R p j≠0:=fun y=>by rw[y] at z;exact absurd z (by decide)
     exact⟨_,rfl,g1 _ (by rw[if_pos z',qCk]) _ (.refl _)⟩
    ·have z':¬S2.R p j≠0:=fun y=>z (by rw[decide_eq_false (fun q=>y (V.int.inj q))];rfl);exact g2 (if_neg z') _ (.refl _)
   ·have hd3:H3 D2=some (.lst (aZ (MT n (S2.R p)))):=by
     rw[hd2];congr 2;unfold aZ MT;rw[<- qGk,qLv];refine dE fun j hj=>?_;by_cases z:S2.R p j≠0
     ·rw[if_pos z,if_pos (decide_eq_true z)];rfl
     ·rw[if_neg z,if_neg (fun y=>z (of_decide_eq_true y))]
    refine⟨_,rfl,D2,_,rfl,.inl (aR.of hd3),_,_,rfl,rfl,_,rfl,?_⟩;cases en:MT n (S2.R p) with
    | nil =>
     rw[en] at hd3;refine cY (fun z=>absurd z (by decide)) (fun _=>⟨S2,_,_,rfl,sb.then s3,f2.same s3,g2,lv.skip fun j hj=>qBj fun nz=>?_⟩);have:j∈MT n (S2.R p):=List.mem_filter.mpr ⟨List.mem_range.mpr hj,decide_eq_true nz⟩;rw[en] at this;cases this
    | cons q qs =>
     rw[en] at hd3;have hqm:q∈MT n (S2.R p):=by rw[en];exact qCi ..
     obtain⟨hq,nz⟩:=List.mem_filter.mp hqm;have hq:=List.mem_range.mp hq;have nz:S2.R p q≠0:=of_decide_eq_true nz;refine cY (fun _=>?_) (fun z=>absurd (decide_eq_true (by show(0:Int)<(((aZ (q::qs)).length:Nat):Int);exact Int.natCast_pos.mpr (qPl _))) z);refine⟨_,rfl,x,FR,dx,_,fCh,_,rfl,s3 _ _ hx,rfl,T.cN.oc.cl,T.cN.Pc,⟨_,DH⟩,_,rfl,_,rfl,D2,_,_,_,rfl,rfl,aR.of hd3,(show fK (aZ (q::qs)) ((0:Nat):Int)=some (.int (q:Int)) from eY rfl),m,n,A,due,x,lc,S2,p,q,rfl,f2.same s3,g2,hp,hq,nz,fun H4 s4 f4=>?_⟩;exact⟨S2.next p q,_,_,rfl,(sb.then s3).trans s4,f4,g2.next hp hq nz,lv.go g2.ok hq nz⟩
  ·subst eσ;have el:(aZ (tW m n S)).length=(tW m n S).length:=by unfold aZ;rw[qAb]
   rw[el,qNv] at lv;exact k S2 H2 ((Gw s1 x lc).trans sb) f2 g2 lv.fe fun k' hk' sp=>⟨lv.z0 k' hk' sp,lv.done k' hk' sp (qDc)⟩
abbrev eJ (a d:Int):HO:=.tup [.int (a.fdiv (dv a d)),.int (d.fdiv (dv a d))]
theorem vI {d:Int} (h:0<d):eJ 0 d = .tup [.int 0,.int 1]:=by
 have e:dv 0 d=d:=by
  unfold dv;rw[if_neg (by lia),Int.gcd_zero_left];lia
 unfold eJ;rw[e,Int.zero_fdiv,qPh (by lia)]
theorem tM {d:Int} (h:0<d):eJ d d = .tup [.int 1,.int 1]:=by
 have e:dv d d=d:=by
  unfold dv;rw[if_neg (by lia),Int.gcd_self];lia
 unfold eJ;rw[e,qPh (by lia)]
structure j4 (n:Nat) (X:Nat->Int) (d:Int) (H:Hp) (l:Addr) (ws:List Addr):Prop where
 hr:H l=some (.lst (ws.map V.ref))
 len:ws.length=n
 at_:∀j w,ws[j]?=some w->H w=some (eJ (X j) d)
theorem j4.same {n:Nat}{X:Nat->Int}{d:Int}{H H':Hp}{l:Addr}{ws:List Addr} (h:j4 n X d H l ws) (s:aH H H'):j4 n X d H' l ws:=⟨s _ _ h.hr,h.len,fun j w e=>s _ _ (h.at_ j w e)⟩
theorem j4.ext {n:Nat}{X Y:Nat->Int}{d:Int}{H:Hp}{l:Addr}{ws:List Addr} (h:j4 n X d H l ws) (e:∀j,j<n->X j=Y j):j4 n Y d H l ws:=⟨h.hr,h.len,fun j w ej=>by
 obtain⟨z,_⟩:=List.getElem?_eq_some_iff.mp ej;rw[<- e j (by rw[<- h.len];exact z)];exact h.at_ j w ej⟩
theorem j4.put {n:Nat}{X:Nat->Int}{d:Int}{H:Hp}{l p:Addr}{ws:List Addr} (h:j4 n X d H l ws){o:HO}{q:Nat}{a:Int} (ho:o=eJ a d) (hp:H p=none):j4 n (fun j=>if j=q then a else X j) d (upd (upd H p o) l (.lst ((ws.map V.ref).set q (.ref p)))) l (ws.set q p):=by
 have npl:p≠l:=fun z=>by rw[z,h.hr] at hp;cases hp
 refine⟨by rw[aC,qPf],by rw[qKn];exact h.len,fun j w e=>?_⟩;rw[qHp] at e;by_cases ej:q=j
 ·rw[if_pos ej] at e;by_cases ql:q<ws.length
  ·rw[if_pos ql] at e;cases e;rw[aM npl,aC,if_pos ej.symm,ho]
  ·rw[if_neg ql] at e;cases e
 ·rw[if_neg ej] at e;have z:=h.at_ j w e;have n1:w≠l:=j5 z h.hr (by intro z;cases z);have n2:w≠p:=bE z hp;rw[aM n1,aM n2,if_neg (fun y=>ej y.symm)];exact z
theorem Kg {b:Int} (a:Int) (hb:b≠0) (z:kG (.int a)=false\/kG (.int b)=false\/V.int b = .int 0):False:=by
 rcases z with z | z | z
 ·cases z
 ·cases z
 ·exact hb (V.int.inj z)
theorem pC {K:qAc}{NN:Addr}{H:Hp}{a b:Int}{R:VK}{E:XK} (hb:b≠0) (sb:Sm 8000 b) (k:∀p,H p=none->R (.ref p) (upd H p (eJ a b))):tG K NN [.int a,.int b] H R E :=
 ⟨_,_,rfl,.int _,.int _,fun z=>(Kg a hb z).elim,fun a' b' h1 h2 _=>by
  cases h1
  cases h2
  exact⟨sb,k⟩⟩
theorem nV {m i:Nat}{M:Nat->Nat->Int}{S:Wg.St} (ok:S.ok m M) (hi:i<m) (f:Nat->Int) (j:Nat):Wg.wt (i+1) f S j=if j=S.ch i then f i else Wg.wt i f S j:=by
 show Wg.wt i f S j+(if S.ch i=j then f i else 0)=_;by_cases e:j=S.ch i
 ·rw[if_pos e,if_pos e.symm,Wg.Gs f fun k hk z=>?_,qCk];have:=Wg.Fr.inj ok (by lia) hi (z.trans e);lia
 ·rw[if_neg e,if_neg (fun z=>e z.symm),qDk]
theorem vJ (n:Nat) (t:Addr):(qBl n [V.ref t]).flatten=(qBl n t).map V.ref:=by
 induction n with
 | zero=>rfl
 | succ n ih=>rw[qEa,qFf,ih,qEa];rfl
theorem gR (n:Nat) (v:Int):(qBl n [V.int v]).flatten=bG n fun _=>v:=by
 unfold bG;induction n with
 | zero=>rfl
 | succ n ih =>
  rw[qEa,qFf,ih];refine qEu fun i=>?_;cases i with
  | zero=>rw[qAo,qCr (by lia)];rfl
  | succ i =>
   show((qAn n).map fun _=>V.int v)[i]?=_;rw[qAo,qAo];rcases qAl i n with h | h
   ·rw[qCr h,qCr (by lia)];rfl
   ·rw[qBa (by rw[qAu];exact h),qBa (by rw[qAu];lia)]
def GH (FR:Addr):Sp:=fun vs H Q _=>∃(m n:Nat) (A:Nat->Nat->Int) (due:Nat->Int) (x lc:Addr) (S:Wg.St),vs=[.ref x]/\gZ FR m n H x lc S/\Good m n A due S /\
 ∀(l:Addr) (ws:List Addr) (H':Hp),H l=none->aH H H'->j4 n (Wg.wt m (fun k=>S.R k (n+m)) S) S.d H' l ws->Q (.ref l) H'
theorem zS:aT ["frame","weights","column","row"] ["frame"] (aI Ja):=by constructor<;>first|rfl|decide +kernel
theorem Kh {f1:Addr}{fd1:qBo} (t:Tx K mg "weights_of" Ja ["frame"] f fd) (T:T K mg AL LN FR iF fCh fGM fCC fCA fPL SE NN NG NT NR) (D_fraction:Df P w K mg base (j0 P w) 2 "fraction" ["top","bottom"] (tG K NN) f1 fd1):Df P w K mg base b0 3 "weights_of" ["frame"] (GH FR) f fd:=by
 refine t.gY zS (fun vs H Q E h=>?_) (fun cdv _A outer s H vs Q E hr h=>?_)
 ·obtain⟨m,n,A,due,x,lc,S,rfl,_⟩:=h;rfl
 ·obtain⟨m,n,A,due,x,lc,S,rfl,⟨dx,lr,ras,hx,rs,hlc⟩,gd,k⟩:=h;have m8:=gd.ins.m8;have pA:=gd.ins.pA;have d0:=Wg.Fr.pos gd.ok;obtain⟨sd,sR⟩:=gd.ins.size gd.ok;refine⟨_,(aD (aU (i:=1) zS.nd rfl bT (aS hU (bH (aA (cE (aA aE (aA aE aB))) aB)) (bZ (pv 0) rfl)))
   (aD (cO PassesOwn.never rfl (gI (by rfl) T.gO (aA (bZ (pv 0) rfl) (aA (bZ (pv 0) rfl) aB))) (eW rfl (bI (aL (i:=2) zS.nd rfl bT) (bI (aL (i:=3) zS.nd rfl bT) dG)))
    (aG (bR (aV i8 (pv 2) (bZ (pv 0) rfl) (aW _)) (aG (oB (fW cK D_fraction hr (by decide) (by rfl) (aA (aP bC (pv 3) (iU fT aE) (fun _ _=>rfl)) (aA (bZ (pv 0) rfl) aB))) (oA (pv 1) (pv 2) set_list))) a8)))
   (aG (aQ (pv 1))))),?_⟩
  refine⟨iY,fun t0 ht0=>⟨jX,fun l0 hl0=>?_⟩⟩;have u0:=aH.aF (o:=.tup [.int 0,.int 1]) ht0;have e0:upd H t0 (.tup [.int 0,.int 1]) t0=some (.tup [.int 0,.int 1]):=aC;generalize upd H t0 (.tup [.int 0,.int 1])=H0 at u0 e0 hl0|-;have u1:=aH.aF (o:=.lst [.ref t0]) hl0;have e1:upd H0 l0 (.lst [.ref t0]) l0=some (.lst [.ref t0]):=aC;generalize upd H0 l0 (.lst [.ref t0])=H1 at u1 e1|-;have s1:=u0.trans u1;refine⟨_,rfl,x,FR,dx,_,_,rfl,s1 _ _ hx,T.cN.oc.cl,T.cN.nm,rfl,l0,_,_,rfl,rfl,e1,by lia,by lia,?_,fun l hl=>?_⟩
  ·show 1*((n:Int)).toNat<=qAh;exact qAq (aO (by lia))
  rw[qBb,vJ];have u2:=aH.aF (o:=.lst ((qBl n t0).map V.ref)) hl;have e2:upd H1 l (.lst ((qBl n t0).map V.ref)) l=_:=aC;have et0:=u2 _ _ (u1 _ _ e0);generalize upd H1 l (.lst ((qBl n t0).map V.ref))=H2 at u2 e2 et0|-;have s2:=s1.trans u2;have hlc2:=s2 _ _ hlc;have hlr2:=s2 _ _ rs.hr;have hx2:=s2 _ _ hx;have nlc:lc≠l:=fun z=>by rw[<- z,s1 _ _ hlc] at hl;cases hl
  have nlr:lr≠l:=fun z=>by rw[<- z,s1 _ _ rs.hr] at hl;cases hl
  have nx:x≠l:=fun z=>by rw[<- z,s1 _ _ hx] at hl;cases hl
  refine⟨_,rfl,x,FR,dx,_,_,rfl,hx2,T.cN.oc.cl,T.cN.nc,rfl,_,rfl,x,FR,dx,_,_,rfl,hx2,T.cN.oc.cl,T.cN.nr,rfl,lc,lr,rfl,⟨_,aR.of hlc2⟩,⟨_,aR.of hlr2⟩,?_⟩;refine nQ (K:=K) (l1:=lc) (l2:=lr) (xs:=tV m S) (ys:=ras.map V.ref) (fun i σ H3=>∃(ws:List Addr) (o2 o3:Option V),σ=[some (.ref x),some (.ref l),o2,o3]/\SameBut l H2 H3/\j4 n (Wg.wt i (fun k=>S.R k (n+m)) S) S.d H3 l ws) ⟨qBl n t0,_,_,rfl,(aH.refl _).but l,e2,qIe ..,fun j w e=>?_⟩ (fun i σ H3 _ ⟨ws,o2,o3,_,sb,_⟩=>⟨aR.of (sb _ _ nlc hlc2),aR.of (sb _ _ nlr hlr2)⟩) (tL rs) (fun i y1 y2 tt σ H3 hy1 hy2 ht ⟨ws,o2,o3,eσ,sb,fl⟩=>?_) (fun σ H3 ⟨ws,o2,o3,eσ,sb,fl⟩=>?_)
  ·obtain⟨_,rfl⟩:=List.mem_replicate.mp (qAy e);show _=some (eJ 0 S.d);rw[vI d0];exact et0
  ·subst eσ;obtain⟨hi,rfl⟩:=fF hy1;obtain⟨r,er,rfl⟩:=c9 hy2;have u4:=aH.aF (o:=.tup [.int ((S.ch i:Nat):Int),.ref r]) ht;have e4:upd H3 tt (.tup [.int ((S.ch i:Nat):Int),.ref r]) tt=_:=aC;generalize upd H3 tt (.tup [.int ((S.ch i:Nat):Int),.ref r])=H4 at u4 e4|-;have sb4:=sb.then u4;have fl4:=fl.same u4;refine⟨tt,_,rfl,cA.of e4,rfl,_,_,rfl,_,_,rfl,rfl,?_⟩;refine⟨_,rfl,_,rfl,x,FR,dx,_,_,rfl,sb4 _ _ nx hx2,T.cN.oc.cl,T.cN.nm,rfl,_,_,rfl,rfl,_,rfl,cY (fun z=>?_) (fun z=>?_)⟩
   ·have hc:S.ch i<n:=by have:((S.ch i:Nat):Int)<((n:Nat):Int):=of_decide_eq_true z;lia
    have hrow:=s2 _ _ (rs.at_ i r er);have nrl:r≠l:=bE (s1 _ _ (rs.at_ i r er)) hl;refine⟨_,rfl,_,rfl,r,_,_,_,rfl,rfl,aR.of (sb4 _ _ nrl hrow),jF (n+m) _,_,rfl,x,FR,dx,_,_,rfl,sb4 _ _ nx hx2,T.cN.oc.cl,T.cN.nb,rfl,?_⟩;dsimp only[iC,qCl,qCm];refine pC (by lia) (sd.mono (by decide)) fun p hp=>?_;have npl:p≠l:=fun z=>by rw[z,fl4.hr] at hp;cases hp
    refine⟨_,rfl,_,rfl,l,_,_,S.ch i,rfl,rfl,(aM (fun z=>npl z.symm)).trans fl4.hr,by rw[qAb,fl4.len];exact lL hc,?_⟩;refine⟨ws.set (S.ch i) p,_,_,rfl,(sb4.then (.aF hp)).nE _,(fl4.put rfl hp).ext fun j hj=>?_⟩;rw[nV gd.ok hi]
   ·have hc:¬S.ch i<n:=fun y=>z (decide_eq_true (by show((S.ch i:Nat):Int)<((n:Nat):Int);lia));refine⟨ws,_,_,rfl,sb4,fl4.ext fun j hj=>?_⟩;rw[nV gd.ok hi,if_neg (by lia)]
  ·subst eσ;rw[show(tV m S).length=m from aK _ _] at fl;exact⟨_,rfl,k l ws H3 (s1.free hl) (fun b o e=>sb b o (fun z=>by rw[z] at e;rw[s1 _ _ e] at hl;cases hl) (s2 _ _ e)) fl⟩
def GI (FR:Addr):Sp:=fun vs H Q _=>∃(m n:Nat) (A:Nat->Nat->Int) (due:Nat->Int) (x lc:Addr) (S:Wg.St) (q:Nat),vs=[.ref x,.int (q:Int)]/\gZ FR m n H x lc S/\Good m n A due S/\q<n /\
 ∀(l:Addr) (ws:List Addr) (H':Hp),H l=none->aH H H'->j4 n (Wg.way m q S) S.d H' l ws->Q (.ref l) H'
theorem zT:aT ["frame","growing","way","column","row"] ["frame","growing"] (aI Jc):=by constructor<;>first|rfl|decide +kernel
theorem Ki {f1:Addr}{fd1:qBo} (t:Tx K mg "way_of" Jc ["frame","growing"] f fd) (T:T K mg AL LN FR iF fCh fGM fCC fCA fPL SE NN NG NT NR) (D_fraction:Df P w K mg base (j0 P w) 2 "fraction" ["top","bottom"] (tG K NN) f1 fd1):Df P w K mg base b0 3 "way_of" ["frame","growing"] (GI FR) f fd:=by
 refine t.gY zT (fun vs H Q E h=>?_) (fun cdv _A outer s H vs Q E hr h=>?_)
 ·obtain⟨m,n,A,due,x,lc,S,q,rfl,_⟩:=h;rfl
 ·obtain⟨m,n,A,due,x,lc,S,q,rfl,⟨dx,lr,ras,hx,rs,hlc⟩,gd,hq,k⟩:=h;have m8:=gd.ins.m8;have pA:=gd.ins.pA;have d0:=Wg.Fr.pos gd.ok;obtain⟨sd,sR⟩:=gd.ins.size gd.ok;refine⟨_,(aD (aU (i:=2) zT.nd rfl bT (aS hU (bH (aA (cE (aA aE (aA aE aB))) aB)) (bZ (pv 0) rfl)))
   (aD (cO PassesOwn.never rfl (gI (by rfl) T.gO (aA (bZ (pv 0) rfl) (aA (bZ (pv 0) rfl) aB))) (eW rfl (bI (aL (i:=3) zT.nd rfl bT) (bI (aL (i:=4) zT.nd rfl bT) dG)))
    (aG (bR (aV i8 (pv 3) (bZ (pv 0) rfl) (aW _)) (aG (oB (fW cK D_fraction hr (by decide) (by rfl) (aA (iU fT (aP bC (pv 4) (pv 1) (fun _ _=>rfl))) (aA (bZ (pv 0) rfl) aB))) (oA (pv 2) (pv 3) set_list))) a8)))
   (aD (oB (cE (aA aE (aA aE aB))) (oA (pv 2) (pv 1) set_list))
   (aG (aQ (pv 2)))))),?_⟩
  refine⟨iY,fun t0 ht0=>⟨jX,fun l0 hl0=>?_⟩⟩;have u0:=aH.aF (o:=.tup [.int 0,.int 1]) ht0;have e0:upd H t0 (.tup [.int 0,.int 1]) t0=some (.tup [.int 0,.int 1]):=aC;generalize upd H t0 (.tup [.int 0,.int 1])=H0 at u0 e0 hl0|-;have u1:=aH.aF (o:=.lst [.ref t0]) hl0;have e1:upd H0 l0 (.lst [.ref t0]) l0=some (.lst [.ref t0]):=aC;generalize upd H0 l0 (.lst [.ref t0])=H1 at u1 e1|-;have s1:=u0.trans u1;refine⟨_,rfl,x,FR,dx,_,_,rfl,s1 _ _ hx,T.cN.oc.cl,T.cN.nm,rfl,l0,_,_,rfl,rfl,e1,by lia,by lia,?_,fun l hl=>?_⟩
  ·show 1*((n:Int)).toNat<=qAh;exact qAq (aO (by lia))
  rw[qBb,vJ];have u2:=aH.aF (o:=.lst ((qBl n t0).map V.ref)) hl;have e2:upd H1 l (.lst ((qBl n t0).map V.ref)) l=_:=aC;have et0:=u2 _ _ (u1 _ _ e0);generalize upd H1 l (.lst ((qBl n t0).map V.ref))=H2 at u2 e2 et0|-;have s2:=s1.trans u2;have hlc2:=s2 _ _ hlc;have hlr2:=s2 _ _ rs.hr;have hx2:=s2 _ _ hx;have nlc:lc≠l:=fun z=>by rw[<- z,s1 _ _ hlc] at hl;cases hl
  have nlr:lr≠l:=fun z=>by rw[<- z,s1 _ _ rs.hr] at hl;cases hl
  have nx:x≠l:=fun z=>by rw[<- z,s1 _ _ hx] at hl;cases hl
  refine⟨_,rfl,x,FR,dx,_,_,rfl,hx2,T.cN.oc.cl,T.cN.nc,rfl,_,rfl,x,FR,dx,_,_,rfl,hx2,T.cN.oc.cl,T.cN.nr,rfl,lc,lr,rfl,⟨_,aR.of hlc2⟩,⟨_,aR.of hlr2⟩,?_⟩;refine nQ (K:=K) (l1:=lc) (l2:=lr) (xs:=tV m S) (ys:=ras.map V.ref) (fun i σ H3=>∃(ws:List Addr) (o2 o3:Option V),σ=[some (.ref x),some (.int (q:Int)),some (.ref l),o2,o3]/\SameBut l H2 H3/\j4 n (Wg.wt i (fun k=>- S.R k q) S) S.d H3 l ws) ⟨qBl n t0,_,_,rfl,(aH.refl _).but l,e2,qIe ..,fun j w e=>?_⟩ (fun i σ H3 _ ⟨ws,o2,o3,_,sb,_⟩=>⟨aR.of (sb _ _ nlc hlc2),aR.of (sb _ _ nlr hlr2)⟩) (tL rs) (fun i y1 y2 tt σ H3 hy1 hy2 ht ⟨ws,o2,o3,eσ,sb,fl⟩=>?_) (fun σ H3 ⟨ws,o2,o3,eσ,sb,fl⟩=>?_)
  ·obtain⟨_,rfl⟩:=List.mem_replicate.mp (qAy e);show _=some (eJ 0 S.d);rw[vI d0];exact et0
  ·subst eσ;obtain⟨hi,rfl⟩:=fF hy1;obtain⟨r,er,rfl⟩:=c9 hy2;have u4:=aH.aF (o:=.tup [.int ((S.ch i:Nat):Int),.ref r]) ht;have e4:upd H3 tt (.tup [.int ((S.ch i:Nat):Int),.ref r]) tt=_:=aC;generalize upd H3 tt (.tup [.int ((S.ch i:Nat):Int),.ref r])=H4 at u4 e4|-;have sb4:=sb.then u4;have fl4:=fl.same u4;refine⟨tt,_,rfl,cA.of e4,rfl,_,_,rfl,_,_,rfl,rfl,?_⟩;refine⟨_,rfl,_,rfl,x,FR,dx,_,_,rfl,sb4 _ _ nx hx2,T.cN.oc.cl,T.cN.nm,rfl,_,_,rfl,rfl,_,rfl,cY (fun z=>?_) (fun z=>?_)⟩
   ·have hc:S.ch i<n:=by have:((S.ch i:Nat):Int)<((n:Nat):Int):=of_decide_eq_true z;lia
    have hrow:=s2 _ _ (rs.at_ i r er);have nrl:r≠l:=bE (s1 _ _ (rs.at_ i r er)) hl;refine⟨_,rfl,_,rfl,r,_,_,_,rfl,rfl,aR.of (sb4 _ _ nrl hrow),bS (by lia),_,rfl,_,rfl,x,FR,dx,_,_,rfl,sb4 _ _ nx hx2,T.cN.oc.cl,T.cN.nb,rfl,?_⟩;dsimp only[iC,qCl,qCm];refine pC (by lia) (sd.mono (by decide)) fun p hp=>?_;have npl:p≠l:=fun z=>by rw[z,fl4.hr] at hp;cases hp
    refine⟨_,rfl,_,rfl,l,_,_,S.ch i,rfl,rfl,(aM (fun z=>npl z.symm)).trans fl4.hr,by rw[qAb,fl4.len];exact lL hc,?_⟩;refine⟨ws.set (S.ch i) p,_,_,rfl,(sb4.then (.aF hp)).nE _,(fl4.put rfl hp).ext fun j hj=>?_⟩;rw[nV gd.ok hi]
   ·have hc:¬S.ch i<n:=fun y=>z (decide_eq_true (by show((S.ch i:Nat):Int)<((n:Nat):Int);lia));refine⟨ws,_,_,rfl,sb4,fl4.ext fun j hj=>?_⟩;rw[nV gd.ok hi,if_neg (by lia)]
  ·subst eσ;rw[show(tV m S).length=m from aK _ _] at fl;refine⟨iY,fun p hp=>?_⟩;have npl:p≠l:=fun z=>by rw[z,fl.hr] at hp;cases hp
   refine⟨_,rfl,_,rfl,l,_,_,q,rfl,rfl,(aM (fun z=>npl z.symm)).trans fl.hr,by rw[qAb,fl.len];exact lL hq,?_⟩;have f5:=fl.put (q:=q) (a:=S.d) (tM d0).symm hp;refine⟨_,rfl,k l _ _ (s1.free hl) (fun b o e=>?_) (f5.ext fun j hj=>rfl)⟩;have nb:b≠l:=fun z=>by rw[z] at e;rw[s1 _ _ e] at hl;cases hl
   rw[aM nb];exact aH.aF hp _ _ (sb b o nb (s2 _ _ e))
theorem rD {a:Nat}{f:Nat->Int}:∀m,(∀k,k<m->Sm a (f k))->Sm (a+m) (Wg.sm m f)
 | 0,_=>Sm.zero
 | m+1,h=>(rD m fun k hk=>h k (by lia)).add ((h m (by lia)).mono (by lia))
def GJ (FR:Addr):Sp:=fun vs H Q _=>∃(m n:Nat) (A:Nat->Nat->Int) (due:Nat->Int) (c:Nat->Int) (x lc pg pd:Addr) (S:Wg.St),vs=[.ref x,.ref pg,.ref pd]/\gZ FR m n H x lc S/\Good m n A due S/\Bv m n c H pg/\H pd=some (.lst (bG m due)) /\
 ∀(l:Addr) (ws:List Addr) (H':Hp),H l=none->aH H H'->j4 m (fun i=>Wg.sgn (due i)*Wg.fG m n c S i) S.d H' l ws->Q (.ref l) H'
theorem rE:aT ["frame","gains","due","prices","place","number","column","price"] ["frame","gains","due"] (aI Jb):=by constructor<;>first|rfl|decide +kernel
theorem Kj {f1 f2:Addr}{fd1 fd2:qBo} (t:Tx K mg "prices_of" Jb ["frame","gains","due"] f fd) (T:T K mg AL LN FR iF fCh fGM fCC fCA fPL SE NN NG NT NR) (D_fraction:Df P w K mg base (j0 P w) 2 "fraction" ["top","bottom"] (tG K NN) f1 fd1) (D_sign_of:Df P w K mg base b0 1 "sign_of" ["number"] zO f2 fd2):Df P w K mg base b0 3 "prices_of" ["frame","gains","due"] (GJ FR) f fd:=by
 refine t.gY rE (fun vs H Q E h=>?_) (fun cdv _A outer s H vs Q E hr h=>?_)
 ·obtain⟨m,n,A,due,c,x,lc,pg,pd,S,rfl,_⟩:=h;rfl
 ·obtain⟨m,n,A,due,c,x,lc,pg,pd,S,rfl,fo,gd,gn,hpd,k⟩:=h;have m8:=gd.ins.m8;have pA:=gd.ins.pA;have d0:=Wg.Fr.pos gd.ok;obtain⟨sd,sR⟩:=gd.ins.size gd.ok;obtain⟨dx,lr,ras,hx,rs,hlc⟩:=id fo;refine⟨_,(aD (aU (i:=3) rE.nd rfl bT (bH aB))
   (aD (cO PassesOwn.never rfl (sC (by rfl) T.kL (aA (pv 2) aB)) (eW rfl (bI (aL (i:=4) rE.nd rfl bT) (bI (aL (i:=5) rE.nd rfl bT) dG)))
    (aD (aU (i:=6) rE.nd rfl (by first|exact .inl rfl|exact .inr rfl) (aS i7 (bZ (pv 0) rfl) (pv 4)))
    (aD (aU (i:=7) rE.nd rfl bT (aJ (fQ rfl) (by rfl) T.iV jC (aA (bQ (NB:=["chosen","row","column","gains"]) (pick:=[none,none,some 6,some 1]) (bJ (by with_unfolding_all rfl) (by exact(And.intro rfl (And.intro rfl trivial))) rfl (by decide +kernel) (by decide +kernel) (by rfl) (by rfl)) rfl
     (gI (by rfl) T.gO (aA (bZ (pv 0) rfl) (aA (bZ (pv 0) rfl) aB))) (fun _ _ _=>(show PG _ _ (rP K 2 (fO (aY 0) (fO (aY 1) rO))) from eW rfl (bI (aL (i:=0) (show(["chosen","row","column","gains"]:List Str).Nodup from by decide +kernel) rfl bT) (bI (aL (i:=1) (show(["chosen","row","column","gains"]:List Str).Nodup from by decide +kernel) rfl bT) dG))))
     (fun _ _ _=>bK) (fun _ _ _=>(aS bL (aP (bV K) (pv 3) (pv 0) (fun _ _=>rfl)) (aP (bV K) (pv 1) (pv 2) (fun _ _=>rfl))))) aB)))
    (aG (fN (qF qEg qFk qFj iQ (pv 3) (aA (fW cK D_fraction hr (by decide) (by rfl) (aA (aS bL (aX D_sign_of hr (by decide) (by rfl) (aA (pv 5) aB)) (pv 7)) (aA (bZ (pv 0) rfl) aB))) aB)))))))
   (aG (aQ (pv 3))))),?_⟩
  refine⟨by show 0<=qAh;decide,fun l hl=>?_⟩;have u1:=aH.aF (o:=.lst []) hl;have e1:upd H l (.lst []) l=some (.lst []):=aC;generalize upd H l (.lst [])=H1 at u1 e1|-;have npd:pd≠l:=bE hpd hl;have npg:pg≠l:=bE gn.hg hl;have nx:x≠l:=bE hx hl;have nlc:lc≠l:=bE hlc hl;have nlr:lr≠l:=bE rs.hr hl;refine⟨_,rfl,pd,rfl,⟨_,aR.of (u1 _ _ hpd)⟩,?_⟩;refine uJ (xs:=bG m due) (fun i σ H2=>∃(ws:List Addr) (o4 o5 o6 o7:Option V),σ=[some (.ref x),some (.ref pg),some (.ref pd),some (.ref l),o4,o5,o6,o7]/\SameBut l H H2/\j4 i (fun i=>Wg.sgn (due i)*Wg.fG m n c S i) S.d H2 l ws) ⟨[],_,_,_,_,rfl,u1.but l,e1,rfl,fun j w e=>by cases e⟩ (fun i σ H2 _ ⟨ws,o4,o5,o6,o7,_,sb,_⟩=>aR.of (sb _ _ npd hpd)) (fun i y tt σ H2 hy ht ⟨ws,o4,o5,o6,o7,eσ,sb,fl⟩=>?_) (fun σ H2 ⟨ws,o4,o5,o6,o7,eσ,sb,fl⟩=>?_)
  ·subst eσ;obtain⟨hi,rfl⟩:=fF hy;have u2:=aH.aF (o:=.tup [.int (i:Int),.int (due i)]) ht;have e2:upd H2 tt (.tup [.int (i:Int),.int (due i)]) tt=_:=aC;generalize upd H2 tt (.tup [.int (i:Int),.int (due i)])=H3 at u2 e2|-;have sb3:=sb.then u2;have fl3:=fl.same u2;have hx3:=sb3 _ _ nx hx;refine⟨tt,_,rfl,cA.of e2,rfl,_,_,rfl,_,_,rfl,rfl,?_⟩;refine⟨_,rfl,x,FR,dx,_,_,rfl,hx3,T.cN.oc.cl,T.cN.nm,rfl,_,rfl,_,_,rfl,rfl,?_⟩;refine⟨_,rfl,x,FR,dx,_,_,rfl,hx3,T.cN.oc.cl,T.cN.nc,rfl,_,rfl,x,FR,dx,_,_,rfl,hx3,T.cN.oc.cl,T.cN.nr,rfl,lc,lr,rfl,⟨_,aR.of (sb3 _ _ nlc hlc)⟩,⟨_,aR.of (sb3 _ _ nlr rs.hr)⟩,?_⟩;refine jP (xs:=tV m S) (ys:=ras.map V.ref) (fun σ'=>∃o0 o1:Option V,σ'=[o0,o1,some (.int ((n:Int)+(i:Int))),some (.ref pg)]) (fun k' _ _=>some (.int (c (S.ch k')*S.R k' (n+i)))) ⟨_,_,rfl⟩ (aR.of (sb3 _ _ nlc hlc)) (aR.of (sb3 _ _ nlr rs.hr)) (tL rs) (by unfold tV;rw[aK];exact qAq (aO (by lia))) (fun k' x' y' tt2 σ1 H4 kk kk0 hσ s4 hx' hy' ht2 h1 h2=>?_) fun D H4 hD s4 hd=>?_
   ·obtain⟨o0,o1,rfl⟩:=hσ;obtain⟨hk',rfl⟩:=fF hx';obtain⟨r,er,rfl⟩:=c9 hy';have hch:=gd.ch k' hk';have nrl:r≠l:=bE (rs.at_ k' r er) hl;refine⟨tt2,_,rfl,cA.of ht2,rfl,_,_,rfl,_,_,rfl,rfl,?_⟩;refine⟨_,rfl,_,rfl,pg,_,_,_,rfl,rfl,aR.of (s4 _ _ (sb3 _ _ npg gn.hg)),bS hch,_,rfl,_,rfl,r,_,_,_,rfl,rfl,aR.of (s4 _ _ (sb3 _ _ nrl (rs.at_ k' r er))),(show fK (tK m n S k') ((n:Int)+(i:Int))=some (.int (S.R k' (n+i))) by rw[<- qOl];exact bS (by lia)),_,_,rfl,rfl,(gn.sz _).mb (sR k' hk' _),h1 _ _ ⟨_,_,rfl⟩ rfl _ (.refl _)⟩
   ·have hd':H4 D=some (.lst (((qAn m).map fun k'=>c (S.ch k')*S.R k' (n+i)).map V.int)):=by
     have e:(tV m S).length=m:=aK _ _;rw[hd,e,tH _ e (by rw[qAb,rs.len]),qCz];rfl
    refine⟨D,_,rfl,.inl (aR.of hd'),?_⟩;rw[mP];have sp:Sm 200000 (Wg.fG m n c S i):=(rD (a:=106000) m fun k' hk'=>((gn.sz _).mul (sR k' hk' _)).mono (by decide)).mono (by lia);have fl4:=fl3.same s4;have sb4:=sb3.then s4;refine⟨_,rfl,.inl ⟨rfl,_,aR.of fl4.hr⟩,?_⟩;refine⟨_,rfl,_,rfl,_,rfl,_,_,rfl,rfl,(tJ _).mb sp,_,rfl,x,FR,dx,_,_,rfl,sb4 _ _ nx hx,T.cN.oc.cl,T.cN.nb,rfl,?_⟩;dsimp only[iC,qCl,qCm];refine pC (by lia) (sd.mono (by decide)) fun p hp=>?_;have npl:p≠l:=fun z=>by rw[z,fl4.hr] at hp;cases hp
    refine⟨l,_,_,rfl,rfl,(aM (fun z=>npl z.symm)).trans fl4.hr,by rw[qAb,fl4.len];exact aO (by lia),?_⟩;refine⟨ws++[p],_,_,_,_,rfl,(sb4.then (.aF hp)).nE _,by rw[aC,qAr];rfl,by rw[qAm,fl4.len];rfl,fun j w e=>?_⟩;rcases qAl j ws.length with z1 | z1
    ·rw[qAz z1] at e;have z:=fl4.at_ j w e;rw[aM (j5 z fl4.hr (by intro z;cases z)),aM (bE z hp)];exact z
    ·rw[qAv z1] at e;obtain⟨rfl,rfl⟩:j=i/\p=w:=by
      rcases qEr (j-ws.length) with q | q
      ·rw[q] at e;exact⟨by rw[fl4.len] at z1 q;lia,Option.some.inj e⟩
      ·rw[qBa (by show 1<=_;lia)] at e;cases e
     rw[aM npl,aC];rfl
  ·subst eσ;rw[aK] at fl;exact⟨_,rfl,k l ws H2 hl (fun b o e=>sb b o (bE e hl) e) fl⟩
def jG (lo hi:Nat) (xs:List V):Bool:=decide (lo<=xs.length)&&decide (xs.length<=hi)&&xs.all kG
def Dn (K:qAc):Sp:=fun vs H Q _=>∃(p:Addr) (xs:List V) (lo hi:Nat),vs=[.ref p,.int (lo:Int),.int (hi:Int)]/\H p=some (.lst xs)/\(∀v∈xs,Pl K H v)/\xs.length<=1000/\∀H',aH H H'->Q (.bl (jG lo hi xs)) H'
theorem Kk:aT ["thing","least","most"] ["thing","least","most"] (aI CU):=by constructor<;>first|rfl|decide +kernel
theorem Fp {f1:Addr}{fd1:qBo} (t:Tx K mg "are_numbers" CU ["thing","least","most"] f fd) (T:T K mg AL LN FR iF fCh fGM fCC fCA fPL SE NN NG NT NR) (D_is_number:Df P w K mg base b0 1 "is_number" ["thing"] (lI K) f1 fd1) :
  Df P w K mg base b0 2 "are_numbers" ["thing","least","most"] (Dn K) f fd:=by
 refine t.gY Kk (fun vs H Q E h=>?_) (fun cdv _A outer s H vs Q E hr h=>?_)
 ·obtain⟨p,xs,lo,hi,rfl,_⟩:=h;rfl
 ·obtain⟨p,xs,lo,hi,rfl,hp,pl,hlen,k⟩:=h;refine⟨_,(aD (bR (PW.pt (pw_or (bX (bU (aJ cI (by rfl) T.dY dO (aA (pv 0) (aA (cT (v:=.ty "list") (by rfl) T.cV dA rfl) aB))))) (pw_or1 (bX (BI t6 t6 (pv 1) (aJ aN (by rfl) T.bW bM (aA (pv 0) aB)) (pv 2)))))) (aG (aQ eV)) a8)
   (aG (aQ (aJ (oM rfl) (by rfl) T.oX wY (aA (bQ (NB:=["number"]) (pick:=[none]) (bJ (by with_unfolding_all rfl) (by exact trivial) rfl (by decide +kernel) (by decide +kernel) (by rfl) (by rfl)) rfl
     (bN (pv 0)) (fun _ _ _=>aL (i:=0) (show(["number"]:List Str).Nodup from by decide +kernel) rfl bT)
     (fun _ _ _=>bK) (fun _ _ _=>(aX D_is_number hr (by decide) (by rfl) (aA (pv 0) aB)))) aB))))),?_⟩
  refine⟨_,rfl,.ref p,.ty "list",_,_,_,rfl,rfl,.of (.lst hp),Kd.lst.mW K,_,rfl,cL ?_⟩;have out:jG lo hi xs=false->∀H',aH H H'->Q (.bl false) H':=fun e H' s'=>by
   have z:=k H' s';rw[e] at z;exact z
  refine⟨_,rfl,_,rfl,p,_,rfl,.inl (aR.of hp),_,_,rfl,rfl,_,rfl,?_⟩;refine cY (fun z1=>?_) (fun z1=>?_)
  ·have h1:lo<=xs.length:=by have:((lo:Nat):Int)<=((xs.length:Nat):Int):=of_decide_eq_true z1;lia
   refine⟨_,rfl,_,_,rfl,rfl,_,rfl,?_⟩;cases e2:decide (((xs.length:Nat):Int)<=((hi:Nat):Int)) with
   | false =>
    refine iP (out ?_ H (.refl _));have:¬xs.length<=hi:=fun y=>(of_decide_eq_false e2) (by lia);unfold jG;rw[decide_eq_false this,qIt,qGf]
   | true =>
    have h2:xs.length<=hi:=by have:=of_decide_eq_true e2;lia
    refine cL ⟨_,rfl,p,rfl,⟨xs,aR.of hp⟩,?_⟩;refine cP (xs:=xs) (fun _ x=>some (.bl (kG x))) (aR.of hp) (qAq (aO hlen)) (fun i x H2 kk kk0 s2 hx h1 h2=>?_) fun D H2 hD s2 hd=>?_
    ·exact⟨_,rfl,x,rfl,(pl x (qAy hx)).same s2,h1 _ rfl _ (.refl _)⟩
    ·have ed:((qAn xs.length).filterMap fun i=>(xs[i]?).bind fun x=>some (V.bl (kG x)))=(xs.map kG).map V.bl:=by
      rw[qCz,<- r9];rfl
     rw[ed] at hd;refine⟨D,_,rfl,aR.of hd,?_⟩;have ea:(xs.map kG).all id=jG lo hi xs:=by
      unfold jG;rw[qPg,decide_eq_true h1,decide_eq_true h2];rfl
     rw[ea];exact k H2 s2
  ·refine⟨_,rfl,iP (out ?_ H (.refl _))⟩;have:¬lo<=xs.length:=fun y=>z1 (decide_eq_true (by show((lo:Nat):Int)<=((xs.length:Nat):Int);lia));unfold jG;rw[decide_eq_false this,qGf,qGf]
structure Bn (K:qAc) (H:Hp) (pc pd pg:Addr) (cs:List Addr) (col:Nat->List V) (ds gs:List V):Prop where
 hc:H pc=some (.lst (cs.map V.ref))
 lc:cs.length<=1000
 at_:∀j c,cs[j]?=some c->H c=some (.lst (col j))/\(∀v∈col j,Pl K H v)/\(col j).length<=1000
 hd:H pd=some (.lst ds)
 Pe:∀v∈ds,Pl K H v
 ld:ds.length<=1000
 hg:H pg=some (.lst gs)
 Pf:∀v∈gs,Pl K H v
 lg:gs.length<=1000
theorem Bn.same {H H':Hp}{pc pd pg:Addr}{cs:List Addr}{col:Nat->List V}{ds gs:List V} (h:Bn K H pc pd pg cs col ds gs) (s:aH H H'):Bn K H' pc pd pg cs col ds gs :=
 ⟨s _ _ h.hc,h.lc,fun j c e=>⟨s _ _ (h.at_ j c e).1,fun v hv=>((h.at_ j c e).2.1 v hv).same s,(h.at_ j c e).2.2⟩,s _ _ h.hd,fun v hv=>(h.Pe v hv).same s,h.ld,s _ _ h.hg,fun v hv=>(h.Pf v hv).same s,h.lg⟩
def jH (n:Nat) (col:Nat->List V) (ds gs:List V):Bool:=jG 1 8 ds&&(decide (n<=70)&&(((qAn n).map fun j=>jG ds.length ds.length (col j)).all id&&jG n n gs))
def GK (K:qAc) (NR:Addr):Sp:=fun vs H Q E=>∃(pc pd pg:Addr) (cs:List Addr) (col:Nat->List V) (ds gs:List V),vs=[.ref pc,.ref pd,.ref pg]/\Bn K H pc pd pg cs col ds gs/\(jH cs.length col ds gs=false->∀H',aH H H'->E (.ref NR) none H')/\(jH cs.length col ds gs=true->∀H',aH H H'->Q .non H')
theorem MU:aT ["columns","due","gains"] ["columns","due","gains"] (aI IT):=by constructor<;>first|rfl|decide +kernel
theorem Kl {f1:Addr}{fd1:qBo} (t:Tx K mg "check_rows" IT ["columns","due","gains"] f fd) (T:T K mg AL LN FR iF fCh fGM fCC fCA fPL SE NN NG NT NR) (D_are_numbers:Df P w K mg base b0 2 "are_numbers" ["thing","least","most"] (Dn K) f1 fd1) :
  Df P w K mg base (j0 P w) 3 "check_rows" ["columns","due","gains"] (GK K NR) f fd:=by
 refine t.Ih MU (fun vs H Q E h=>?_) (fun cdv _A outer s H vs Q E hr h=>?_)
 ·obtain⟨pc,pd,pg,cs,col,ds,gs,rfl,_⟩:=h;rfl
 ·obtain⟨pc,pd,pg,cs,col,ds,gs,rfl,rw0,k0,k⟩:=h;obtain⟨tkMP,hMP⟩:=T.mp;obtain⟨tkMC,hMC⟩:=T.mc;refine⟨_,(aD (bR (bX (bU (aX D_are_numbers hr (by decide) (by rfl) (aA (pv 1) (aA aE (aA (fM (v:=.int 8) (by rfl) hMP ⟨tkMP,rfl⟩) aB)))))) (aG (fP dB rfl (by rfl) T.Gu T.Gv (aA gG aB))) a8)
   (aD (bR (PW.pt (pw_or (bX (bU (aJ cI (by rfl) T.dY dO (aA (pv 0) (aA (cT (v:=.ty "list") (by rfl) T.cV dA rfl) aB))))) (pw_or1 (aV t7 (aJ aN (by rfl) T.bW bM (aA (pv 0) aB)) (fM (v:=.int 70) (by rfl) hMC ⟨tkMC,rfl⟩) (aW _))))) (aG (fP dB rfl (by rfl) T.Gu T.Gv (aA gG aB))) a8)
   (aD (bR (bX (bU (aJ (oM rfl) (by rfl) T.oX wY (aA (bQ (NB:=["column","due"]) (pick:=[none,some 1]) (bJ (by with_unfolding_all rfl) (by exact(And.intro rfl trivial)) rfl (by decide +kernel) (by decide +kernel) (by rfl) (by rfl)) rfl
     (bN (pv 0)) (fun _ _ _=>aL (i:=0) (show(["column","due"]:List Str).Nodup from by decide +kernel) rfl bT)
     (fun _ _ _=>bK) (fun _ _ _=>(aX D_are_numbers hr (by decide) (by rfl) (aA (pv 0) (aA (aJ (qH K) (by rfl) T.bW bM (aA (pv 1) aB)) (aA (aJ (qH K) (by rfl) T.bW bM (aA (pv 1) aB)) aB)))))) aB)))) (aG (fP dB rfl (by rfl) T.Gu T.Gv (aA gG aB))) a8)
   (aG (bR (bX (bU (aX D_are_numbers hr (by decide) (by rfl) (aA (pv 2) (aA (aJ aN (by rfl) T.bW bM (aA (pv 0) aB)) (aA (aJ aN (by rfl) T.bW bM (aA (pv 0) aB)) aB)))))) (aG (fP dB rfl (by rfl) T.Gu T.Gv (aA gG aB))) a8))))),?_⟩
  refine⟨_,rfl,pd,ds,1,8,rfl,rw0.hd,rw0.Pe,rw0.ld,fun H1 s1=>⟨_,rfl,?_⟩⟩;cases e1:jG 1 8 ds with
  | false=>exact iP ⟨jX,k0 (by unfold jH;rw[e1];rfl) H1 s1⟩
  | true =>
   have rw1:=rw0.same s1;refine cL ⟨_,rfl,.ref pc,.ty "list",_,_,_,rfl,rfl,.of (.lst rw1.hc),Kd.lst.mW K,_,rfl,cL ?_⟩;refine⟨_,rfl,pc,_,rfl,.inl (aR.of rw1.hc),_,_,rfl,rfl,_,rfl,?_⟩;rw[qAb];have ec:decide (((cs.length:Nat):Int)>70) = !decide (cs.length<=70):=by
    by_cases z:cs.length<=70
    ·rw[decide_eq_true z,decide_eq_false (by lia)];rfl
    ·rw[decide_eq_false z,decide_eq_true (by lia)];rfl
   show if decide (((cs.length:Nat):Int)>70)=true then _ else _;rw[ec];cases e2:decide (cs.length<=70) with
   | false=>exact iP ⟨jX,k0 (by unfold jH;rw[e1,e2];rfl) H1 s1⟩
   | true =>
    refine cL ⟨_,rfl,pc,rfl,⟨_,aR.of rw1.hc⟩,?_⟩;refine cP (xs:=cs.map V.ref) (fun j _=>some (.bl (jG ds.length ds.length (col j)))) (aR.of rw1.hc) (by rw[qAb];exact qAq (aO rw0.lc)) (fun j y H2 kk kk0 s2 hy h1 h2=>?_) fun D H2 hD s2 hd=>?_
    ·obtain⟨c,hc,rfl⟩:=c9 hy;have rw2:=rw1.same s2;obtain⟨a1,a2,a3⟩:=rw2.at_ j c hc;exact⟨_,rfl,_,rfl,pd,_,rfl,.inl (aR.of rw2.hd),_,rfl,pd,_,rfl,.inl (aR.of rw2.hd),c,col j,ds.length,ds.length,rfl,a1,a2,a3,fun H3 s3=>h1 _ rfl _ s3⟩
    ·have hd':H2 D=some (.lst (((qAn cs.length).map fun j=>jG ds.length ds.length (col j)).map V.bl)):=by
      rw[hd,qAb,lK _ (qAb ..),qCz];rfl
     refine⟨D,_,rfl,aR.of hd',_,rfl,?_⟩;cases e3:((qAn cs.length).map fun j=>jG ds.length ds.length (col j)).all id with
     | false=>exact iP ⟨jX,k0 (by unfold jH;rw[e1,e2,e3];rfl) H2 (s1.trans s2)⟩
     | true =>
      have rw2:=rw1.same s2;refine cL ⟨_,rfl,_,rfl,pc,_,rfl,.inl (aR.of rw2.hc),_,rfl,pc,_,rfl,.inl (aR.of rw2.hc),pg,gs,cs.length,cs.length,by rw[qAb];rfl,rw2.hg,rw2.Pf,rw2.lg,fun H3 s3=>⟨_,rfl,?_⟩⟩;cases e4:jG cs.length cs.length gs with
      | false=>exact iP ⟨jX,k0 (by unfold jH;rw[e1,e2,e3,e4];rfl) H3 (s1.trans (s2.trans s3))⟩
      | true=>exact cL (k (by unfold jH;rw[e1,e2,e3,e4];rfl) H3 (s1.trans (s2.trans s3)))
theorem tN {H:Hp}{q x dx:Addr}{o u v:HO} (hq:H q=some o) (hx:H x=none) (hd:H dx=none):upd (upd H dx u) x v q=some o:=by
 rw[aM (bE hq hx),aM (bE hq hd)];exact hq
structure MV (m n:Nat) (A:Nat->Nat->Int) (due g:Nat->Int) (H H':Hp) (r lw lp:Addr) (ws ps:List Addr) (d:Int) (X Y:Nat->Int):Prop where
 tup:H' r=some (.tup [.str "best",.ref lw,.ref lp])
 d0:0<d
 ds:Sm 6000 d
 dm:pB m A due d
 ym:xV m A due g Y
 fw:j4 n X d H' lw ws
 fp:j4 m Y d H' lp ps
 nw:H lw=none
 np:H lp=none
 sX:∀j,Sm 300000 (X j)
 sY:∀j,Sm 300000 (Y j)
 x0:∀j,0<=X j
 meets:∀i,i<m->(Wg.sm n fun j=>A j i*X j)=due i*d
 cols:∀j,j<n->g j*d<=Wg.sm m fun i=>A j i*Y i
 same:(Wg.sm m fun i=>due i*Y i)=Wg.sm n fun j=>g j*X j
structure MW (m n:Nat) (A:Nat->Nat->Int) (due:Nat->Int) (H H':Hp) (r lp:Addr) (ps:List Addr) (d:Int) (Y:Nat->Int):Prop where
 tup:H' r=some (.tup [.str "none",.ref lp])
 d0:0<d
 ds:Sm 6000 d
 fp:j4 m Y d H' lp ps
 np:H lp=none
 sY:∀j,Sm 300000 (Y j)
 cols:∀j,j<n->0<=Wg.sm m fun i=>A j i*Y i
 neg:(Wg.sm m fun i=>due i*Y i)<0
structure ON (m n:Nat) (A:Nat->Nat->Int) (due g:Nat->Int) (H H':Hp) (r lw lv:Addr) (ws vs:List Addr) (d:Int) (X Z:Nat->Int):Prop where
 tup:H' r=some (.tup [.str "endless",.ref lw,.ref lv])
 d0:0<d
 ds:Sm 6000 d
 fw:j4 n X d H' lw ws
 fv:j4 n Z d H' lv vs
 nw:H lw=none
 nv:H lv=none
 sX:∀j,Sm 300000 (X j)
 sZ:∀j,Sm 300000 (Z j)
 x0:∀j,0<=X j
 meets:∀i,i<m->(Wg.sm n fun j=>A j i*X j)=due i*d
 z0:∀j,0<=Z j
 away:∀i,i<m->(Wg.sm n fun j=>A j i*Z j)=0
 more:0<Wg.sm n fun j=>g j*Z j
def Told (m n:Nat) (A:Nat->Nat->Int) (due g:Nat->Int) (H H':Hp) (r:Addr):Prop :=
 (∃lw lp ws ps d X Y,MV m n A due g H H' r lw lp ws ps d X Y)\/(∃lp ps d Y,MW m n A due H H' r lp ps d Y)\/(∃lw lv ws vs d X Z,ON m n A due g H H' r lw lv ws vs d X Z)
def vK (K:qAc) (NR:Addr):Sp:=fun vs H Q E=>∃(pc pd pg:Addr) (cs:List Addr) (col:Nat->List V) (ds gs:List V),vs=[.ref pc,.ref pd,.ref pg]/\Bn K H pc pd pg cs col ds gs/\(jH cs.length col ds gs=false->∀H',aH H H'->E (.ref NR) none H') /\
 (jH cs.length col ds gs=true->∃(m n:Nat) (A:Nat->Nat->Int) (due g:Nat->Int),Inst m n A due/\cs.length=n/\(∀j,j<n->col j=bG m (A j))/\ds=bG m due/\gs=bG n g/\(∀j,Sm 90000 (g j))/\∀(r:Addr) (H':Hp),aH H H'->Told m n A due g H H' r->Q (.ref r) H')
theorem Clean.run {m n:Nat}{M:Nat->Nat->Int}{c:Nat->Int}{S S':Wg.St} (h:∃T st p q,Wg.Run m n (n+m) M c T st p q/\st 0=S/\st T=S') (cl:Wg.Clean m n S):Wg.Clean m n S':=by
 obtain⟨TT,st,p,q,r,rfl,rfl⟩:=h;exact r.keeps (P:=Wg.Clean m n) cl fun S p q ok _ g cl=>Wg.xR ok g.pm g.qn (by have:=g.pos;lia) cl
theorem vL {m n:Nat}{M:Nat->Nat->Int}{c:Nat->Int}{S S':Wg.St} (h:∃T st p q,Wg.Run m n (n+m) M c T st p q/\st 0=S/\st T=S'):∀k,k<m->0<=S'.R k (n+m):=by
 obtain⟨TT,st,p,q,r,rfl,rfl⟩:=h;exact(r.qT TT (qAg _)).2
theorem vM:aT ["columns","due","gains","frame","leaving","all_gains","growing"] ["columns","due","gains"] (aI Jd):=by constructor<;>first|rfl|decide +kernel
theorem Dp {m n:Nat}{A:Nat->Nat->Int}{due:Nat->Int}{S:Wg.St} (gd:Good m n A due S) (f:Nat->Int) (h:∀k,k<m->Sm 6000 (f k)) (j:Nat):Sm 300000 (Wg.wt m f S j):=by
 unfold Wg.wt;refine(rD (a:=6000) m fun k hk=>?_).mono (by have:=gd.ins.m8;lia);split
 ·exact h k hk
 ·exact Sm.zero
theorem vN {m n:Nat}{A:Nat->Nat->Int}{due c:Nat->Int}{S:Wg.St} (gd:Good m n A due S) (h:∀j,Sm 100000 (c j)) (i:Nat):Sm 300000 (Wg.sgn (due i)*Wg.fG m n c S i):=by
 obtain⟨sd,sR⟩:=gd.ins.size gd.ok;have m8:=gd.ins.m8;have z:Sm 300000 (Wg.fG m n c S i):=(rD (a:=106000) m fun k hk=>((h _).mul (sR k hk _)).mono (by decide)).mono (by lia);exact z.le (by rw[gC];exact qAg _)
theorem Km {f1 f2 f3 f4 f5 f6 f7:Addr}{fd1 fd2 fd3 fd4 fd5 fd6 fd7:qBo} (t:Tx K mg "weigh" Jd ["columns","due","gains"] f fd) (T:T K mg AL LN FR iF fCh fGM fCC fCA fPL SE NN NG NT NR) (D_check_rows:Df P w K mg base (j0 P w) 3 "check_rows" ["columns","due","gains"] (GK K NR) f1 fd1) (D_FI:Md P w K mg base 3 ["self","columns","due"] (MQ FR) iF)
  (D_climb:Df P w K mg base b0 3 "climb" ["frame","gains"] (GF FR) f2 fd2) (D_spare_places:Df P w K mg base b0 1 "spare_places" ["frame"] (Dl FR) f3 fd3) (D_leave_spares:Df P w K mg base b0 3 "leave_spares" ["frame"] (GG FR) f4 fd4) (D_weights_of:Df P w K mg base b0 3 "weights_of" ["frame"] (GH FR) f5 fd5)
  (D_prices_of:Df P w K mg base b0 3 "prices_of" ["frame","gains","due"] (GJ FR) f6 fd6) (D_way_of:Df P w K mg base b0 3 "way_of" ["frame","growing"] (GI FR) f7 fd7) :
  Df P w K mg base (j0 P w) 5 "weigh" ["columns","due","gains"] (vK K NR) f fd:=by
 refine t.Ih vM (fun vs H Q E h=>?_) (fun cdv _A outer s H vs Q E hr h=>?_)
 ·obtain⟨pc,pd,pg,cs,col,ds,gs,rfl,_⟩:=h;rfl
 ·obtain⟨pc,pd,pg,cs,col,ds,gs,rfl,rw0,k0,k⟩:=h;refine⟨_,(aD (fN (fW dB.toPass D_check_rows hr (by decide) (by rfl) (aA (pv 0) (aA (pv 1) (aA (pv 2) aB)))))
   (aD (aU (i:=3) vM.nd rfl (by first|exact .inl rfl|exact .inr rfl) (Cg dB.toPass T.PK D_FI hr (by decide) (by rfl) T.MG (aA (pv 0) (aA (pv 1) aB))))
   (aD (aU (i:=4) vM.nd rfl bT (aS fA (aS hU (bH (aA aE aB)) (aJ aN (by rfl) T.bW bM (aA (pv 0) aB))) (aS hU (bH (aA (iU fT aE) aB)) (aJ aN (by rfl) T.bW bM (aA (pv 1) aB)))))
   (aD (fN (aX D_climb hr (by decide) (by rfl) (aA (pv 3) (aA (pv 4) aB))))
   (aD (bR (bU (aJ (Ci rfl) (by rfl) T.vG Im (aA (bQ (NB:=["place","frame"]) (pick:=[none,some 3]) (bJ (by with_unfolding_all rfl) (by exact(And.intro rfl trivial)) rfl (by decide +kernel) (by decide +kernel) (by rfl) (by rfl)) rfl
     (bN (aX D_spare_places hr (by decide) (by rfl) (aA (pv 3) aB))) (fun _ _ _=>aL (i:=0) (show(["place","frame"]:List Str).Nodup from by decide +kernel) rfl bT)
     (fun _ _ _=>bK) (fun _ _ _=>(eB eO (aP (bV K) (aP (bV K) (k9 K (pv 1) rfl) (pv 0) (fun _ _=>rfl)) (iU fT aE) (fun _ _=>rfl)) aE (aW _)))) aB))) (aG (aQ (cE (aA gG (aA (aX D_prices_of hr (by decide) (by rfl) (aA (pv 3) (aA (pv 4) (aA (pv 1) aB)))) aB))))) a8)
   (aD (fN (aX D_leave_spares hr (by decide) (by rfl) (aA (pv 3) aB)))
   (aD (aU (i:=5) vM.nd rfl bT (aS fA (pv 2) (aS hU (bH (aA aE aB)) (aJ aN (by rfl) T.bW bM (aA (pv 1) aB)))))
   (aD (aU (i:=6) vM.nd rfl bT (aX D_climb hr (by decide) (by rfl) (aA (pv 3) (aA (pv 5) aB))))
   (aD (bR (aV rS (pv 6) dM (aW _)) (aG (aQ (cE (aA gG (aA (aX D_weights_of hr (by decide) (by rfl) (aA (pv 3) aB)) (aA (aX D_prices_of hr (by decide) (by rfl) (aA (pv 3) (aA (pv 5) (aA (pv 1) aB)))) aB)))))) a8)
   (aG (aQ (cE (aA gG (aA (aX D_weights_of hr (by decide) (by rfl) (aA (pv 3) aB)) (aA (aX D_way_of hr (by decide) (by rfl) (aA (pv 3) (aA (pv 6) aB))) aB))))))))))))))),?_⟩
  refine⟨_,rfl,_,rfl,_,rfl,pc,pd,pg,cs,col,ds,gs,rfl,rw0,k0,fun yes H1 s1=>?_⟩;obtain⟨m,n,A,due,g,ins,hn,hcol,rfl,rfl,sg,k⟩:=k yes;have m8:=ins.m8;have pA:=ins.pA;have co:tI m n A due H pc pd cs:=⟨rw0.hc,hn,fun j c e=>by
   have hj:j<n:=by rw[<- hn];exact(List.getElem?_eq_some_iff.mp e).1
   rw[<- hcol j hj];exact(rw0.at_ j c e).1,rw0.hd⟩
  have co1:=co.same s1;have hg1:=s1 _ _ rw0.hg;refine⟨_,rfl,_,rfl,fun x dx hx hdx ne=>?_⟩;refine⟨m,n,A,due,x,dx,pc,pd,cs,rfl,aC,ins,⟨tN co1.hc hx hdx,hn,fun j c e=>tN (co1.at_ j c e) hx hdx,tN co1.hd hx hdx⟩,fun lc H2 sb2 hlc0 fo2=>?_⟩;have s2:aH H1 H2:=sb2.made hx hdx ne;have hlc1:H1 lc=none:=by
   have nl:lc≠x:=fun z=>by rw[z,aC] at hlc0;cases hlc0
   have nd:lc≠dx:=fun z=>by rw[z,aM ne,aC] at hlc0;cases hlc0
   rw[aM nl,aM nd] at hlc0;exact hlc0
  have co2:=co1.same s2;have gd0:=Good.start ins;refine⟨rfl,jX,fun a1 ha1=>?_⟩;have u3:=aH.aF (o:=.lst [.int 0]) ha1;have e3:upd H2 a1 (.lst [.int 0]) a1=some (.lst [.int 0]):=aC;generalize upd H2 a1 (.lst [.int 0])=H3 at u3 e3|-;refine⟨_,rfl,pc,_,rfl,.inl (aR.of (u3 _ _ co2.hc)),a1,_,_,rfl,rfl,e3,by rw[qAb];lia,by rw[qAb];lia,?_,fun a2 ha2=>?_⟩
  ·rw[qAb,hn];show 1*((n:Int)).toNat<=qAh;exact qAq (aO (by lia))
  rw[qAb,hn,qBb,gR];have u4:=aH.aF (o:=.lst (bG n fun _=>0)) ha2;have e4:upd H3 a2 (.lst (bG n fun _=>0)) a2=_:=aC;generalize upd H3 a2 (.lst (bG n fun _=>0))=H4 at u4 e4|-;refine⟨_,rfl,jX,fun a3 ha3=>?_⟩;have u5:=aH.aF (o:=.lst [.int (-1)]) ha3;have e5:upd H4 a3 (.lst [.int (-1)]) a3=some (.lst [.int (-1)]):=aC;generalize upd H4 a3 (.lst [.int (-1)])=H5 at u5 e5|-;have s5:=s2.trans (u3.trans (u4.trans u5));refine⟨_,rfl,pd,_,rfl,.inl (aR.of (s5 _ _ co1.hd)),a3,_,_,rfl,rfl,e5,by rw[aK];lia,by rw[aK];lia,?_,fun a4 ha4=>?_⟩
  ·rw[aK];show 1*((m:Int)).toNat<=qAh;exact qAq (aO (by lia))
  rw[aK,qBb,gR];have u6:=aH.aF (o:=.lst (bG m fun _=>-1)) ha4;have e6:upd H5 a4 (.lst (bG m fun _=>-1)) a4=_:=aC;generalize upd H5 a4 (.lst (bG m fun _=>-1))=H6 at u6 e6|-;refine⟨a2,a4,_,_,rfl,rfl,aR.of (u6 _ _ (u5 _ _ e4)),aR.of e6,by rw[aK,aK];exact qAq (aO (by lia)),fun pl hpl=>?_⟩;rw[lJ];have u7:=aH.aF (o:=.lst (bG (n+m) fun j=>if j<n then 0 else -1)) hpl;have e7:upd H6 pl (.lst (bG (n+m) fun j=>if j<n then 0 else -1)) pl=_:=aC;generalize upd H6 pl (.lst (bG (n+m) fun j=>if j<n then 0 else -1))=H7 at u7 e7|-;have s26:=u3.trans (u4.trans (u5.trans u6));have s27:=s26.trans u7;have s7:=s2.trans s27;have fo7:=fo2.same s27;obtain⟨dx2,lr2,ras2,hx2,rs2,hlc2⟩:=id fo2;have gn7:Bv m n (Wg.lv m n) H7 pl:=⟨by
   rw[e7];congr 2;refine dI fun j hj=>?_;unfold Wg.lv;by_cases z:j<n
   ·rw[if_pos z,if_neg (by lia)]
   ·rw[if_neg z,if_pos ⟨by lia,hj⟩],fun j=>by
   unfold Wg.lv;split
   ·exact Sm.of 1 (by decide) (by decide)
   ·exact Sm.zero⟩
  have npl:pl≠lc:=fun z=>by rw[z,s26 _ _ hlc2] at hpl;cases hpl
  have npx:pl≠x:=fun z=>by rw[z,s26 _ _ hx2] at hpl;cases hpl
  have old:∀{b o},H1 b=some o->b≠x/\b≠lc:=fun {b o} e=>⟨bE e hx,bE e hlc1⟩;refine⟨_,rfl,_,rfl,m,n,A,due,_,x,lc,pl,_,rfl,fo7,gd0,Wg.xQ,gn7,npl,fun S1 H8 sb8 fo8 gd1 run1=>?_⟩;have fe1:=vL run1;have s18:aH H1 H8:=fun b o e=>sb8 b o (old e).1 (old e).2 (s7 _ _ e);refine⟨fun le=>?_,fun q hq gr nn=>(Wg.tD gd1.ok hq gr nn).elim⟩;refine⟨_,rfl,m,n,A,due,x,lc,S1,rfl,fo8,gd1,fun D H9 hD s9 hd=>⟨D,rfl,⟨_,aR.of hd⟩,?_⟩⟩;obtain⟨dx8,lr8,ras8,hx8,rs8,hlc8⟩:=id fo8;refine cP (xs:=aZ (tW m n S1)) (fun i _=>((tW m n S1)[i]?).map fun p=>V.bl (!decide (V.int (S1.R p (n+m))=V.int 0))) (aR.of hd) (by unfold aZ tW;rw[qAb];exact qCu (qEq ..) (by rw[qAu];exact qAq (aO (by lia)))) (fun i y H10 kk kk0 s10 hy h1 h2=>?_) fun D2 H10 hD2 s10 hd2=>?_
  ·obtain⟨p,ep,rfl⟩:=zR hy;have hp:=(lM.mp (qAy ep)).1;obtain⟨rp,erp,arp,hrp⟩:=rs8.get hp;have s810:=s9.trans s10;refine⟨_,rfl,x,FR,dx8,_,_,rfl,s810 _ _ hx8,T.cN.oc.cl,T.cN.nr,rfl,_,rfl,lr8,_,_,_,rfl,rfl,aR.of (s810 _ _ rs8.hr),arp,_,rfl,rp,_,_,_,rfl,rfl,aR.of (s810 _ _ hrp),jF (n+m) _,rfl,?_⟩;exact h1 _ (by rw[ep];rfl) _ (.refl _)
  have el:(aZ (tW m n S1)).length=(tW m n S1).length:=by unfold aZ;rw[qAb]
  have hd3:H10 D2=some (.lst (((tW m n S1).map fun p=>!decide (V.int (S1.R p (n+m))=V.int 0)).map V.bl)):=by
   rw[hd2,el,qCz];congr 2;refine Eq.trans (dE (g:=fun i=>((tW m n S1)[i]?).bind fun p=>some (V.bl (!decide (V.int (S1.R p (n+m))=V.int 0)))) fun i hi=>?_) ?_
   ·have hi:=List.mem_range.mp hi;rw[qAd (l:=aZ (tW m n S1)) (by rw[el];exact hi),qAd hi];rfl
   ·rw[yX,qDl];rfl
  refine⟨D2,_,rfl,aR.of hd3,_,rfl,?_⟩;have s810:=s9.trans s10;have fo10:=fo8.same s810;have s110:=s18.trans s810;have gn10:Bv m n (Wg.lv m n) H10 pl:=⟨s810 _ _ (sb8 _ _ npx npl gn7.hg),gn7.sz⟩;obtain⟨sd1,sR1⟩:=ins.size gd1.ok;cases ea:((tW m n S1).map fun p=>!decide (V.int (S1.R p (n+m))=V.int 0)).any id with
  | true =>
   refine iP ?_;obtain⟨b,hb,eb⟩:=List.any_eq_true.mp ea;obtain⟨p,hp,rfl⟩:=List.mem_map.mp hb;obtain⟨hpm,sp⟩:=lM.mp hp;have nz:S1.R p (n+m)≠0:=fun z=>by rw[z] at eb;exact absurd eb (by decide)
   obtain⟨t1,t2⟩:=Wg.Bd gd1.ok fe1 le gd1.ch hpm sp nz;refine⟨_,rfl,_,rfl,_,rfl,m,n,A,due,_,x,lc,pl,pd,S1,rfl,fo10,gd1,gn10,s110 _ _ co1.hd,fun lp ps H11 hlp s11 fl=>⟨iY,fun r hr=>?_⟩⟩;have u12:=aH.aF (o:=.tup [.str "none",.ref lp]) hr;exact k r _ (s1.trans (s110.trans (s11.trans u12))) (.inr (.inl ⟨lp,ps,S1.d,_,aC,Wg.Fr.pos gd1.ok,sd1,fl.same u12,(s1.trans s110).free hlp,vN gd1 gn7.sz,t1,t2⟩))
  | false =>
   refine cL ?_;have z1:∀k',k'<m->n<=S1.ch k'->S1.R k' (n+m)=0:=fun k' hk' sp=>qBj fun nz=>by
    have:((tW m n S1).map fun p=>!decide (V.int (S1.R p (n+m))=V.int 0)).any id=true:=List.any_eq_true.mpr ⟨_,List.mem_map.mpr ⟨k',lM.mpr ⟨hk',sp⟩,rfl⟩,by
     rw[decide_eq_false (fun y=>nz (V.int.inj y))];rfl⟩
    rw[ea] at this;cases this
   refine⟨_,rfl,m,n,A,due,x,lc,S1,rfl,fo10,gd1,fe1,z1,fun S2 H11 sb11 fo11 gd2 fe2 cl2=>?_⟩;have s111:aH H1 H11:=fun b o e=>sb11 b o (old e).1 (old e).2 (s110 _ _ e);have hg11:=s111 _ _ hg1;refine⟨_,rfl,jX,fun b1 hb1=>?_⟩;have v1:=aH.aF (o:=.lst [.int 0]) hb1;have w1:upd H11 b1 (.lst [.int 0]) b1=some (.lst [.int 0]):=aC;generalize upd H11 b1 (.lst [.int 0])=H12 at v1 w1|-;refine⟨_,rfl,pd,_,rfl,.inl (aR.of (v1 _ _ (s111 _ _ co1.hd))),b1,_,_,rfl,rfl,w1,by rw[aK];lia,by rw[aK];lia,?_,fun b2 hb2=>?_⟩
   ·rw[aK];show 1*((m:Int)).toNat<=qAh;exact qAq (aO (by lia))
   rw[aK,qBb,gR];have v2:=aH.aF (o:=.lst (bG m fun _=>0)) hb2;have w2:upd H12 b2 (.lst (bG m fun _=>0)) b2=_:=aC;generalize upd H12 b2 (.lst (bG m fun _=>0))=H13 at v2 w2|-;refine⟨pg,b2,_,_,rfl,rfl,aR.of (v2 _ _ (v1 _ _ hg11)),aR.of w2,by rw[aK,aK];exact qAq (aO (by lia)),fun pa hpa=>?_⟩;rw[lJ];have v3:=aH.aF (o:=.lst (bG (n+m) fun j=>if j<n then g j else 0)) hpa;have w3:upd H13 pa (.lst (bG (n+m) fun j=>if j<n then g j else 0)) pa=_:=aC;generalize upd H13 pa (.lst (bG (n+m) fun j=>if j<n then g j else 0))=H14 at v3 w3|-;have v13:=v1.trans (v2.trans v3);have fo14:=fo11.same v13;have s114:=s111.trans v13;obtain⟨dx11,lr11,ras11,hx11,rs11,hlc11⟩:=id fo11;have npal:pa≠lc:=fun z=>by rw[z,v2 _ _ (v1 _ _ hlc11)] at hpa;cases hpa
   have npax:pa≠x:=fun z=>by rw[z,v2 _ _ (v1 _ _ hx11)] at hpa;cases hpa
   have gn14:Bv m n (fun j=>if j<n then g j else 0) H14 pa:=⟨w3,fun j=>by
    show Sm 100000 (if j<n then g j else 0);split
    ·exact(sg j).mono (by decide)
    ·exact Sm.zero⟩
   have g0:∀j,n<=j->(if j<n then g j else 0)=0:=fun j hj=>if_neg (by lia);refine⟨_,rfl,_,rfl,m,n,A,due,_,x,lc,pa,S2,rfl,fo14,gd2,fe2,gn14,npal,fun S3 H15 sb15 fo15 gd3 run3=>?_⟩;have fe3:=vL run3;have cl3:=Clean.run run3 cl2;have s115:aH H1 H15:=fun b o e=>sb15 b o (old e).1 (old e).2 (s114 _ _ e);obtain⟨sd3,sR3⟩:=ins.size gd3.ok;have d3:=Wg.Fr.pos gd3.ok;have gsum:∀X:Nat->Int,(Wg.sm n fun j=>(if j<n then g j else 0)*X j)=Wg.sm n fun j=>g j*X j:=fun X=>Wg.bB fun j hj=>by rw[if_pos hj]
   refine⟨fun le3=>?_,fun q hq gr nn=>?_⟩
   ·obtain⟨t1,t2⟩:=Wg.Be gd3.ok cl3 le3 g0;refine⟨_,rfl,rfl,_,rfl,iP ?_⟩;refine⟨_,rfl,m,n,A,due,x,lc,S3,rfl,fo15,gd3,fun lw ws H16 hlw s16 fw=>?_⟩;have s116:=s115.trans s16;refine⟨_,rfl,_,rfl,_,rfl,m,n,A,due,_,x,lc,pa,pd,S3,rfl,fo15.same s16,gd3,⟨s16 _ _ (sb15 _ _ npax npal gn14.hg),gn14.sz⟩,s116 _ _ co1.hd,fun lp ps H17 hlp s17 fp=>⟨LH,fun r hr=>?_⟩⟩;have u18:=aH.aF (o:=.tup [.str "best",.ref lw,.ref lp]) hr;refine k r _ (s1.trans (s116.trans (s17.trans u18))) (.inl ⟨lw,lp,ws,ps,S3.d,_,_,aC,d3,sd3,ins.small gd3.ok,ins.JR gd3.ok,(fw.same s17).same u18,fp.same u18,(s1.trans s115).free hlw,(s1.trans s116).free hlp,Dp gd3 _ fun k' hk'=>sR3 k' hk' _,vN gd3 gn14.sz,Wg.CN fe3 S3,fun i hi=>Wg.meets gd3.ok cl3 hi,fun j hj=>?_,?_⟩)
    ·have z:=t1 j hj;rw[if_pos hj] at z;exact z
    ·rw[t2,gsum]
   ·obtain⟨t1,t2,t3⟩:=Wg.tE gd3.ok cl3 g0 hq gr nn;refine⟨_,rfl,rfl,_,rfl,cL ?_⟩;refine⟨_,rfl,m,n,A,due,x,lc,S3,rfl,fo15,gd3,fun lw ws H16 hlw s16 fw=>?_⟩;have s116:=s115.trans s16;refine⟨_,rfl,_,rfl,m,n,A,due,x,lc,S3,q,rfl,fo15.same s16,gd3,hq,fun lv vs' H17 hlv s17 fv=>⟨LH,fun r hr=>?_⟩⟩;have u18:=aH.aF (o:=.tup [.str "endless",.ref lw,.ref lv]) hr;rw[gsum] at t3;refine k r _ (s1.trans (s116.trans (s17.trans u18))) (.inr (.inr ⟨lw,lv,ws,vs',S3.d,_,_,aC,d3,sd3,(fw.same s17).same u18,fv.same u18,(s1.trans s115).free hlw,(s1.trans s116).free hlv,Dp gd3 _ fun k' hk'=>sR3 k' hk' _,fun j=>?_,Wg.CN fe3 S3,fun i hi=>Wg.meets gd3.ok cl3 hi,t1,t2,t3⟩));unfold Wg.way;split
    ·exact sd3.mono (by decide)
    ·exact Dp gd3 _ (fun k' hk'=>(sR3 k' hk' q).le (by rw[qLc];exact qAg _)) j
theorem Fq {l b d:Nat} (hl:0<l) (hb:0<b) (h1:l∣d) (h2:b∣d):0<l/qIj l b*b/\l/qIj l b*b∣d/\l∣l/qIj l b*b/\b∣l/qIj l b*b:=by
 have e:l/qIj l b*b=Nat.lcm l b:=by
  unfold Nat.lcm;exact Nat.div_mul_right_comm (qKb l b) b
 rw[e];exact⟨Nat.lcm_pos hl hb,Nat.lcm_dvd h1 h2,Nat.dvd_lcm_left l b,Nat.dvd_lcm_right l b⟩
theorem Dq {l b d:Int} (hl:0<l) (hb:0<b) (hd:0<d) (h1:l∣d) (h2:b∣d):0<l.fdiv (qBs l b:Int)*b/\l.fdiv (qBs l b:Int)*b∣d/\l∣l.fdiv (qBs l b:Int)*b/\b∣l.fdiv (qBs l b:Int)*b:=by
 obtain⟨l,rfl⟩:=qFz (qCe hl);obtain⟨b,rfl⟩:=qFz (qCe hb);obtain⟨d,rfl⟩:=qFz (qCe hd);have z:=Fq (l:=l) (b:=b) (d:=d) (by lia) (by lia) (Int.natCast_dvd_natCast.mp h1) (Int.natCast_dvd_natCast.mp h2);have e:(l:Int).fdiv (qBs (l:Int) (b:Int):Int)*(b:Int)=((l/qIj l b*b:Nat):Int):=by
  rw[qFg _ (by lia),Int.gcd_natCast_natCast,Int.natCast_mul,Int.natCast_ediv]
 rw[e];exact⟨by lia,Int.natCast_dvd_natCast.mpr z.2.1,Int.natCast_dvd_natCast.mpr z.2.2.1,Int.natCast_dvd_natCast.mpr z.2.2.2⟩
abbrev ta (X d:Int):Int:=X.fdiv (dv X d)
abbrev tb (X d:Int):Int:=d.fdiv (dv X d)
theorem Kn {X d:Int} (h:0<d):dv X d=(qBs X d:Int):=by unfold dv;rw[if_neg (by lia)]
theorem cW {X d:Int} (h:0<d):ta X d*d=X*tb X d/\1<=tb X d/\qBs (ta X d) (tb X d)=1/\tb X d∣d:=by
 obtain⟨_,a,b,c⟩:=zJ X d (by lia);obtain⟨_,_,_,_,e,_⟩:=CY (t:=X) (b:=d) (by lia);refine⟨a,b,c,?_⟩;show d.fdiv (dv X d)∣d;rw[Kn h];exact e
theorem kC {X d:Int} (h:0<d){n:Nat} (s:Sm n d):Sm n (tb X d):=s.le (by
 have a:=cW (X:=X) h;have:=qDt h a.2.2.2;lia)
theorem lN {X d:Int}{n:Nat} (s:Sm n X):Sm n (ta X d):=s.fdiv
structure Fs (n:Nat) (X:Nat->Int) (d L:Int):Prop where
 pos:0<L
 dvd:L∣d
 all:∀j,j<n->tb (X j) d∣L
theorem vO {n:Nat}{X:Nat->Int}{d L:Int} (d0:0<d) (h:Fs n X d L):Fs (n+1) X d (L.fdiv (qBs L (tb (X n) d):Int)*tb (X n) d):=by
 obtain⟨_,y1,_,yd⟩:=cW (X:=X n) d0;obtain⟨a,b,c,e⟩:=Dq h.pos (show 0<tb (X n) d by lia) d0 h.dvd yd;refine⟨a,b,fun j hj=>?_⟩;by_cases z:j=n
 ·rw[z];exact e
 ·exact Int.dvd_trans (h.all j (by lia)) c
theorem pD {n:Nat}{a t X:Nat->Int}{d L:Int} (e:∀j,j<n->t j*d=X j*L):(Wg.sm n fun j=>a j*t j)*d=(Wg.sm n fun j=>a j*X j)*L:=by
 rw[qCp,<- Wg.bO,qCp (Wg.sm n fun j=>a j*X j),<- Wg.bO];refine Wg.bB fun j hj=>?_;have:=e j hj;grind
theorem zU {k m n:Int} (h:k∣m*n) (g:qBs k m=1):k∣n:=by
 rw[<- qMh,qDs] at h;rw[<- qMh];exact Nat.Coprime.dvd_of_dvd_mul_left (show Nat.Coprime k.natAbs m.natAbs from g) h
theorem tO {lo hi n:Nat}{a:Nat->Int} (h1:lo<=n) (h2:n<=hi):jG lo hi (bG n a)=true:=by
 unfold jG;rw[aK,decide_eq_true h1,decide_eq_true h2];show(bG n a).all kG=true;rw[qJv];intro v hv;obtain⟨j,_,rfl⟩:=List.mem_map.mp hv;rfl
theorem zV {K:qAc}{H:Hp}{n:Nat}{a:Nat->Int}:∀v∈bG n a,Pl K H v:=fun v hv=>by
 obtain⟨j,_,rfl⟩:=List.mem_map.mp hv;exact .int _
theorem MX {K:qAc}{m n:Nat}{A:Nat->Nat->Int}{due g:Nat->Int}{H:Hp}{pc pd pg:Addr}{cs:List Addr} (ins:Inst m n A due) (co:tI m n A due H pc pd cs) (hg:H pg=some (.lst (bG n g))):Bn K H pc pd pg cs (fun j=>bG m (A j)) (bG m due) (bG n g):=by
 have m8:=ins.m8;have pA:=ins.pA;exact⟨co.hc,by rw[co.len];lia,fun j c e=>⟨co.at_ j c e,zV,by rw[aK];lia⟩,co.hd,zV,by rw[aK];lia,hg,zV,by rw[aK];lia⟩
theorem Dr {m n:Nat}{A:Nat->Nat->Int}{due g:Nat->Int} (ins:Inst m n A due):jH n (fun j=>bG m (A j)) (bG m due) (bG n g)=true:=by
 unfold jH;rw[tO ins.m1 ins.m8,decide_eq_true ins.pA,tO (qAg _) (qAg _),aK];have e:((qAn n).map fun j=>jG m m (bG m (A j))).all id=true:=by
  rw[qJv];intro b hb;obtain⟨j,_,rfl⟩:=List.mem_map.mp hb;exact tO (qAg _) (qAg _)
 rw[e];rfl
theorem xW {K:qAc}{NR:Addr}{m n:Nat}{A:Nat->Nat->Int}{due g:Nat->Int}{H:Hp}{pc pd pg:Addr}{cs:List Addr}{R:VK}{E:XK} (ins:Inst m n A due) (co:tI m n A due H pc pd cs) (hg:H pg=some (.lst (bG n g))) (sg:∀j,Sm 90000 (g j)) (k:∀(r:Addr) (H':Hp),aH H H'->Told m n A due g H H' r->R (.ref r) H'):vK K NR [.ref pc,.ref pd,.ref pg] H R E:=by
 refine⟨pc,pd,pg,cs,_,_,_,rfl,MX ins co hg,fun no=>?_,fun _=>⟨m,n,A,due,g,ins,co.len,fun j _=>rfl,rfl,rfl,sg,k⟩⟩;rw[co.len,Dr ins] at no;cases no
def Dt (K:qAc):Sp:=fun vs H Q _=>∃(v:V) (lo hi:Int),vs=[v,.int lo,.int hi]/\Pl K H v/\Q (.bl (EK lo hi v)) H
theorem Ko:aT ["thing","least","most"] ["thing","least","most"] (aI CV):=by constructor<;>first|rfl|decide +kernel
theorem Ft {f1:Addr}{fd1:qBo} (t:Tx K mg "is_number_within" CV ["thing","least","most"] f fd) (D:Df P w K mg base b0 1 "is_number" ["thing"] (lI K) f1 fd1) :
  Df P w K mg base b0 2 "is_number_within" ["thing","least","most"] (Dt K) f fd:=by
 refine t.gY Ko (fun vs H Q E h=>?_) (fun cdv A outer s H vs Q E hr h=>?_)
 ·obtain⟨v,lo,hi,rfl,_⟩:=h;rfl
 ·obtain⟨v,lo,hi,rfl,pl,k⟩:=h;refine⟨_,aG (aQ (lZ (aX D hr (qAg _) (by rfl) (aA (pv 0) aB)) (kF (BH t6 t6 (pv 1) (pv 0) (pv 2))))),?_⟩;refine⟨_,rfl,v,rfl,pl,_,rfl,?_⟩;cases v with
  | int i =>
   refine iP ⟨_,rfl,_,rfl,lo,i,rfl,rfl,_,rfl,?_⟩;refine cY (fun h1=>⟨_,rfl,i,hi,rfl,rfl,?_⟩) (fun h1=>?_)
   ·have e:decide (i<=hi)=EK lo hi (.int i):=by
     show _=(decide (lo<=i)&&decide (i<=hi));rw[h1,Bool.true_and]
    show Q (.bl (decide (i<=hi))) H;rw[e];exact k
   ·have e:false=EK lo hi (.int i):=by
     show _=(decide (lo<=i)&&decide (i<=hi));rw[Bool.eq_false_iff.mpr h1,qGf]
    rw[e];exact k
  | _=>exact cL k
def Fu:Sp:=fun vs H Q _=>∃m:Nat,vs=[.int (m:Int)]/\m<=6/\∀H',aH H H'->Q (.int (2^m-1)) H'
theorem Bo:∀m:_root_.Fin 7,(iR.take m.1).sum=2^m.1-1:=by decide
theorem OO:aT ["many"] ["many"] (aI OC):=by constructor<;>first|rfl|decide +kernel
theorem MY (t:Tx K mg "whole_company" OC ["many"] f fd) (T:T K mg AL LN FR iF fCh fGM fCC fCA fPL SE NN NG NT NR):Df P w K mg base b0 1 "whole_company" ["many"] Fu f fd:=by
 refine t.gY OO (fun vs H Q E h=>?_) (fun cdv A outer s H vs Q E hr h=>?_)
 ·obtain⟨m,rfl,_⟩:=h;rfl
 ·obtain⟨m,rfl,hm,k⟩:=h;refine⟨_,(aG (aQ (aJ (fQ rfl) (by rfl) T.iV jC (aA (jA yY (fM (v:=.ref AL) (by rfl) T.El rfl) nN (jO (pv 0))) aB)))),?_⟩;refine⟨_,rfl,_,rfl,AL,_,rfl,T.al _,fun p H' s hq=>⟨p,iR.take m,rfl,.inr ?_,?_⟩⟩
  ·rw[Dd,<- qOt] at hq;exact hq
  ·rw[Bo ⟨m,by lia⟩];exact k H' s
def GL (K:qAc) (NG:Addr):Sp:=fun vs H Q E=>∃(v:V) (m:Nat),vs=[v,.int (m:Int)]/\m<=6/\Pl K H v/\(EK 0 (2^m-1) v=false->∀H',aH H H'->E (.ref NG) none H')/\(EK 0 (2^m-1) v=true->∀H',aH H H'->Q .non H')
theorem MZ:aT ["group","many"] ["group","many"] (aI Ji):=by constructor<;>first|rfl|decide +kernel
theorem Kq {f1 f2:Addr}{fd1 fd2:qBo} (t:Tx K mg "check_group" Ji ["group","many"] f fd) (T:T K mg AL LN FR iF fCh fGM fCC fCA fPL SE NN NG NT NR) (D_is_number_within:Df P w K mg base b0 2 "is_number_within" ["thing","least","most"] (Dt K) f1 fd1)
  (D_whole_company:Df P w K mg base b0 1 "whole_company" ["many"] Fu f2 fd2):Df P w K mg base (j0 P w) 3 "check_group" ["group","many"] (GL K NG) f fd:=by
 refine t.Ih MZ (fun vs H Q E h=>?_) (fun cdv A outer s H vs Q E hr h=>?_)
 ·obtain⟨v,m,rfl,_⟩:=h;rfl
 ·obtain⟨v,m,rfl,hm,pl,k0,k⟩:=h;refine⟨_,(aG (bR (bX (bU (aX D_is_number_within hr (by decide) (by rfl) (aA (pv 0) (aA aE (aA (aX D_whole_company hr (by decide) (by rfl) (aA (pv 1) aB)) aB)))))) (aG (fP dB rfl (by rfl) T.MH T.MJ (aA gG aB))) a8)),?_⟩;refine⟨_,rfl,_,rfl,m,rfl,hm,fun H' s=>⟨v,0,_,rfl,pl.same s,_,rfl,?_⟩⟩;cases e:EK 0 (2^m-1) v with
  | true=>exact cL (k e H' s)
  | false=>exact iP ⟨jX,k0 e H' s⟩
theorem pE {i:Int} (h0:0<=i) (h5:i<=5):fK (iR.map V.int) i=some (.int (alone i.toNat)):=by
 have h:i.toNat<6:=by lia
 have all:∀j:_root_.Fin 6,(iR.map V.int)[j.1]?=some (.int (alone j.1)):=by decide
 have z:=eY (all ⟨i.toNat,h⟩);rw[show(((⟨i.toNat,h⟩:_root_.Fin 6).1:Nat):Int)=i from qDp h0] at z;exact z
def GN (K:qAc) (NG:Addr):Sp:=fun vs H Q E=>∃v,vs=[v]/\Pl K H v/\(EK 0 (2^6-1) v=false->∀H',aH H H'->E (.ref NG) none H') /\
 ∀(g:Nat) (l:Addr) (H':Hp),v = .int (g:Int)->g<64->H l=none->aH H H'->H' l=some (.lst ((iJ g).map V.int))->Q (.ref l) H'
theorem Na:aT ["group"] ["group"] (aI Jj):=by constructor<;>first|rfl|decide +kernel
theorem Kr {f1:Addr}{fd1:qBo} (t:Tx K mg "hands_of" Jj ["group"] f fd) (T:T K mg AL LN FR iF fCh fGM fCC fCA fPL SE NN NG NT NR) (D_check_group:Df P w K mg base (j0 P w) 3 "check_group" ["group","many"] (GL K NG) f1 fd1) :
  Df P w K mg base (j0 P w) 4 "hands_of" ["group"] (GN K NG) f fd:=by
 refine t.Ih Na (fun vs H Q E h=>?_) (fun cdv A outer s H vs Q E hr h=>?_)
 ·obtain⟨v,rfl,_⟩:=h;rfl
 ·obtain⟨v,rfl,pl,k0,k⟩:=h;refine⟨_,(aD (fN (fW dB.toPass D_check_group hr (by decide) (by rfl) (aA (pv 0) (aA (aJ aN (by rfl) T.bW bM (aA (fM (v:=.ref AL) (by rfl) T.El rfl) aB)) aB))))
   (aG (aQ (bQ (NB:=["hand","group"]) (pick:=[none,some 0]) (bJ (by with_unfolding_all rfl) (by exact(And.intro rfl trivial)) rfl (by decide +kernel) (by decide +kernel) (by rfl) (by rfl)) rfl
     (cB (by rfl) T.cD (aA (aJ aN (by rfl) T.bW bM (aA (fM (v:=.ref AL) (by rfl) T.El rfl) aB)) aB)) (fun _ _ _=>aL (i:=0) (show(["hand","group"]:List Str).Nodup from by decide +kernel) rfl bT)
     (fun _ _ _=>eZ (aV eO (aS oC (pv 1) (aP (eE K) (fM (v:=.ref AL) (by rfl) T.El rfl) (pv 0) (fun _ _=>rfl))) aE (aW _))) (fun _ _ _=>(pv 0)))))),?_⟩
  refine⟨_,rfl,AL,_,rfl,.inr (T.al _),v,6,rfl,by decide,pl,k0,fun h1 H' s1=>?_⟩;obtain⟨g,rfl,hg⟩:=CZ h1;have hg:g<64:=hg;refine⟨AL,_,rfl,.inr (T.al _),_,rfl,by decide,by decide,?_⟩;refine Cd (qZ g) (by decide) (fun i H2 kk kk0 hi h1 h2=>?_) fun D hD=>?_
  ·obtain⟨j,rfl⟩:∃j:Nat,j=i:=⟨i,rfl⟩;have e0:(0:Int)+(j:Int)=(j:Int):=qCk _;have hat:fK (iR.map V.int) ((0:Int)+(j:Int))=some (.int (alone j)):=by
    rw[e0];have z:=pE (i:=(j:Int)) (by lia) (by have:j<6:=hi;lia);simpa using z
   refine⟨_,rfl,_,rfl,AL,_,_,_,rfl,rfl,T.al _,hat,_,_,rfl,rfl,rfl,_,rfl,?_⟩;refine cY (fun h3=>⟨_,rfl,h1 _ ?_⟩) (fun h3=>h2 ?_)
   ·have z:¬V.int (qDi (g:Int) (alone j))=V.int 0:=of_decide_eq_false (by
     have z:(!decide (V.int (qDi (g:Int) (alone j))=V.int 0))=true:=h3;simpa using z)
    rw[e0];unfold qZ;rw[if_neg fun q=>z (congrArg V.int q)]
   ·unfold qZ;refine if_pos (qBj fun q=>h3 ?_);show(!decide (V.int (qDi (g:Int) (alone j))=V.int 0))=true;rw[decide_eq_false fun z=>q (V.int.inj z)];rfl
  ·have e':(qAn 6).filterMap (qZ g)=(iJ g).map V.int:=xT ⟨g,hg⟩;show Q _ (upd H' D (.lst ((qAn 6).filterMap (qZ g))));rw[e'];exact k g D _ rfl hg (s1.free hD) (s1.trans (.aF hD)) aC
def jI (xs:List V):Bool:=[2,4,8,16,32,64].contains xs.length&&xs.all kG&&decide (xs[0]?=some (.int 0))
def GO (K:qAc):Sp:=fun vs H Q _=>∃(p:Addr) (xs:List V),vs=[.ref p]/\H p=some (.lst xs)/\(∀v∈xs,Pl K H v)/\xs.length<=1000/\∀H',aH H H'->Q (.bl (jI xs)) H'
theorem Nb:aT ["thing"] ["thing"] (aI Jl):=by constructor<;>first|rfl|decide +kernel
theorem Fv (n:Nat):(!Gj (.int (n:Int)) (fY (oV.map V.int) (some 1) none)) = !([2,4,8,16,32,64].contains n):=by
 have e:fY (oV.map V.int) (some 1) none=[V.int 2,.int 4,.int 8,.int 16,.int 32,.int 64]:=by decide
 rw[e];have q:∀k:Nat,ED (.int (k:Int)) (.int (n:Int))=(n == k):=fun k=>by
  show((k:Int) == (n:Int))=(n == k);rw[qGv,beq_iff_eq,beq_iff_eq];lia
 have:=q 2;have:=q 4;have:=q 8;have:=q 16;have:=q 32;have:=q 64;simp_all [Gj];rfl
theorem Ks {f1:Addr}{fd1:qBo} (t:Tx K mg "is_table" Jl ["thing"] f fd) (T:T K mg AL LN FR iF fCh fGM fCC fCA fPL SE NN NG NT NR) (D_is_number:Df P w K mg base b0 1 "is_number" ["thing"] (lI K) f1 fd1) :
  Df P w K mg base b0 2 "is_table" ["thing"] (GO K) f fd:=by
 refine t.gY Nb (fun vs H Q E h=>?_) (fun cdv A outer s H vs Q E hr h=>?_)
 ·obtain⟨p,xs,rfl,_⟩:=h;rfl
 ·obtain⟨p,xs,rfl,hp,pl,hlen,k⟩:=h;refine⟨_,(aD (bR (PW.pt (pw_or (bX (bU (aJ cI (by rfl) T.dY dO (aA (pv 0) (aA (cT (v:=.ty "list") (by rfl) T.cV dA rfl) aB))))) (pw_or1 (aV kX (aJ aN (by rfl) T.bW bM (aA (pv 0) aB)) (jA yY (fM (v:=.ref LN) (by rfl) T.LC rfl) (jO aE) nN) (by rfl))))) (aG (aQ eV)) a8)
   (aG (aQ (lZ (aJ (oM rfl) (by rfl) T.oX wY (aA (bQ (NB:=["number"]) (pick:=[none]) (bJ (by with_unfolding_all rfl) (by exact trivial) rfl (by decide +kernel) (by decide +kernel) (by rfl) (by rfl)) rfl
     (bN (pv 0)) (fun _ _ _=>aL (i:=0) (show(["number"]:List Str).Nodup from by decide +kernel) rfl bT)
     (fun _ _ _=>bK) (fun _ _ _=>(aX D_is_number hr (by decide) (by rfl) (aA (pv 0) aB)))) aB)) (kF (eB g6 (aP bC (pv 0) aE (fun _ _=>rfl)) aE (aW _))))))),?_⟩
  refine⟨_,rfl,.ref p,.ty "list",_,_,_,rfl,rfl,.of (.lst hp),Kd.lst.mW K,_,rfl,cL ?_⟩;refine⟨_,rfl,p,_,rfl,.inl (aR.of hp),_,rfl,LN,_,rfl,T.ln _,fun q H1 s1 hq=>⟨q,_,rfl,.inr hq,rfl,by decide,_,rfl,?_⟩⟩;show if (!Gj (.int (xs.length:Int)) (fY (oV.map V.int) (some 1) none))=true then _ else _;rw[Fv];cases ec:[2,4,8,16,32,64].contains xs.length with
  | false =>
   have e:false=jI xs:=by unfold jI;rw[ec];rfl
   refine iP ?_;have z:=k H1 s1;rw[<- e] at z;exact z
  | true =>
   refine cL ⟨_,rfl,p,rfl,⟨xs,aR.of (s1 _ _ hp)⟩,?_⟩;refine cP (xs:=xs) (fun _ x=>some (.bl (kG x))) (aR.of (s1 _ _ hp)) (qAq (aO hlen)) (fun i x H2 kk kk0 s2 hx h1 h2=>?_) fun D H2 hD s2 hd=>?_
   ·exact⟨_,rfl,x,rfl,(pl x (qAy hx)).same (s1.trans s2),h1 _ rfl _ (.refl _)⟩
   ·have ed:((qAn xs.length).filterMap fun i=>(xs[i]?).bind fun x=>some (V.bl (kG x)))=(xs.map kG).map V.bl:=by
     rw[qCz,<- r9];rfl
    rw[ed] at hd;refine⟨D,_,rfl,aR.of hd,_,rfl,?_⟩;have ea:(xs.map kG).all id=xs.all kG:=by rw[qPg];rfl
    rw[ea];cases eb:xs.all kG with
    | false =>
     have e:false=jI xs:=by unfold jI;rw[ec,eb];rfl
     refine cL ?_;have z:=k H2 (s1.trans s2);rw[<- e] at z;exact z
    | true =>
     have hpos:0<xs.length:=by
      cases xs with
      | nil=>exact absurd ec (by decide)
      | cons _ _=>exact qPl _
     obtain⟨i,hi⟩:∃i,xs[0]?=some (.int i):=by
      have hm:=List.all_eq_true.mp eb xs[0] (qDu hpos);cases e0:xs[0] with
      | int i=>exact⟨i,by rw[qAd hpos,e0]⟩
      | _=>rw[e0] at hm;exact(qAp hm).elim
     refine iP ⟨_,rfl,p,_,_,_,rfl,rfl,aR.of (s2 _ _ (s1 _ _ hp)),eY hi,rfl,?_⟩;have e:decide (V.int i=V.int 0)=jI xs:=by unfold jI;rw[ec,eb,hi];simp
     show Q (.bl (decide (V.int i=V.int 0))) H2;rw[e];exact k H2 (s1.trans s2)
def GP (K:qAc) (NT:Addr):Sp:=fun vs H Q E=>∃(p:Addr) (xs:List V),vs=[.ref p]/\H p=some (.lst xs)/\(∀v∈xs,Pl K H v)/\xs.length<=1000/\(jI xs=false->∀H',aH H H'->E (.ref NT) none H') /\
 ∀m:Nat,1<=m->m<=6->xs.length=2^m->jI xs=true->∀H',aH H H'->Q (.int (m:Int)) H'
theorem Nc:aT ["table"] ["table"] (aI Jm):=by constructor<;>first|rfl|decide +kernel
theorem Fw {xs:List V} (h:jI xs=true):∃m:Nat,1<=m/\m<=6/\xs.length=2^m:=by
 have z:[2,4,8,16,32,64].contains xs.length=true:=by
  unfold jI at h;rw[qCd,qCd] at h;exact h.1.1
 have z:xs.length∈[2,4,8,16,32,64]:=by simpa using z
 simp only[qEc,qDc,or_false] at z;rcases z with z | z | z | z | z | z
 ·exact⟨1,by decide,by decide,z⟩
 ·exact⟨2,by decide,by decide,z⟩
 ·exact⟨3,by decide,by decide,z⟩
 ·exact⟨4,by decide,by decide,z⟩
 ·exact⟨5,by decide,by decide,z⟩
 ·exact⟨6,by decide,by decide,z⟩
theorem Fx:∀m:_root_.Fin 7,oV[m.1]?=some ((2:Int)^m.1)/\∀j:_root_.Fin 7,j.1<m.1->oV[j.1]?≠some ((2:Int)^m.1):=by decide
theorem Kt {f1:Addr}{fd1:qBo} (t:Tx K mg "hands_in" Jm ["table"] f fd) (T:T K mg AL LN FR iF fCh fGM fCC fCA fPL SE NN NG NT NR) (D_is_table:Df P w K mg base b0 2 "is_table" ["thing"] (GO K) f1 fd1) :
  Df P w K mg base (j0 P w) 3 "hands_in" ["table"] (GP K NT) f fd:=by
 refine t.Ih Nc (fun vs H Q E h=>?_) (fun cdv A outer s H vs Q E hr h=>?_)
 ·obtain⟨p,xs,rfl,_⟩:=h;rfl
 ·obtain⟨p,xs,rfl,hp,pl,hlen,k0,k⟩:=h;refine⟨_,(aD (bR (bX (bU (aX D_is_table hr (by decide) (by rfl) (aA (pv 0) aB)))) (aG (fP dB rfl (by rfl) T.MI T.MK (aA gG aB))) a8)
   (aG (aQ (qF PySem.F.plainAttrs_tuple PySem.F.slot_tuple_index PySem.F.type_tuple_index Cj (fM (v:=.ref LN) (by rfl) T.LC rfl) (aA (aJ aN (by rfl) T.bW bM (aA (pv 0) aB)) aB))))),?_⟩
  refine⟨_,rfl,p,xs,rfl,hp,pl,hlen,fun H1 s1=>⟨_,rfl,?_⟩⟩;cases e:jI xs with
  | false=>exact iP ⟨jX,k0 e H1 s1⟩
  | true =>
   obtain⟨m,h1,h6,hm⟩:=Fw e;obtain⟨l1,l2⟩:=Fx ⟨m,by lia⟩;refine cL ⟨.inr (.inl ⟨rfl,T.PJ⟩),_,rfl,p,_,rfl,.inl (aR.of (s1 _ _ hp)),LN,oV,_,m,rfl,rfl,T.ln _,?_,?_,k m h1 h6 hm e H1 s1⟩
   ·rw[hm,l1];push_cast;rfl
   ·intro j hj;have z:=l2 ⟨j,by lia⟩ hj;rw[hm];intro q;refine z (q.trans ?_);push_cast;rfl
def OP (m:Nat) (rs:List Int):Prop:=1<=m/\m<=6/\rs.length=2^m/\rs[0]?=some 0
theorem Fy {m:Nat}{rs:List Int} (t:OP m rs):jI (rs.map V.int)=true:=by
 obtain⟨m1,m6,h,h0⟩:=t;have hc:[2,4,8,16,32,64].contains (2^m)=true:=by
  have all:∀k:_root_.Fin 7,1<=k.1->[2,4,8,16,32,64].contains (2^k.1)=true:=by decide
  exact all ⟨m,by lia⟩ m1
 unfold jI;rw[qAb,h,hc,all_ints,qAo,h0];rfl
def bt (g i:Nat):Int:=((g/2^i%2:Nat):Int)
theorem vP (g i:Nat):bt g i=0\/bt g i=1:=by unfold bt;lia
theorem rF (g i:Nat):Sm 2 (bt g i):=by
 show(bt g i).natAbs<2^2;rcases vP g i with e | e <;> rw[e] <;> decide
theorem Du:∀(g:_root_.Fin 64) (i:_root_.Fin 6),(if (!decide (V.int (qDi ((g.1:Nat):Int) (alone i.1))=V.int 0))=true then (1:Int) else 0)=bt g.1 i.1:=by decide +kernel
def vQ:Sp:=fun vs H Q _=>∃g m:Nat,vs=[.int (g:Int),.int (m:Int)]/\g<64/\m<=6/\∀D H',H D=none->aH H H'->H' D=some (.lst (bG m (bt g)))->Q (.ref D) H'
theorem Nd:aT ["group","many"] ["group","many"] (aI Jk):=by constructor<;>first|rfl|decide +kernel
theorem Ku (t:Tx K mg "marks_of" Jk ["group","many"] f fd) (T:T K mg AL LN FR iF fCh fGM fCC fCA fPL SE NN NG NT NR):Df P w K mg base b0 1 "marks_of" ["group","many"] vQ f fd:=by
 refine t.gY Nd (fun vs H Q E h=>?_) (fun cdv _A outer s H vs Q E hr h=>?_)
 ·obtain⟨g,m,rfl,_⟩:=h;rfl
 ·obtain⟨g,m,rfl,hg,hm,k⟩:=h;refine⟨_,(aG (aQ (bQ (NB:=["hand","group"]) (pick:=[none,some 0]) (bJ (by with_unfolding_all rfl) (by exact(And.intro rfl trivial)) rfl (by decide +kernel) (by decide +kernel) (by rfl) (by rfl)) rfl
     (cB (by rfl) T.cD (aA (pv 1) aB)) (fun _ _ _=>aL (i:=0) (show(["hand","group"]:List Str).Nodup from by decide +kernel) rfl bT)
     (fun _ _ _=>bK) (fun _ _ _=>(n8 (aV eO (aS oC (pv 1) (aP (eE K) (fM (v:=.ref AL) (by rfl) T.El rfl) (pv 0) (fun _ _=>rfl))) aE (aW _)) aE aE))))),?_⟩
  refine⟨_,rfl,m,rfl,by lia,by lia,?_⟩;refine fC (n:=m) (fun j=>some (.int (bt g j))) (qAq (aO (by lia))) (fun j H2 kk kk0 s2 hj g1 g2=>?_) fun D H2 hD s2 hd=>?_
  ·have e0:(0:Int)+(j:Int)=(j:Int):=qCk _;have hat:fK (iR.map V.int) ((0:Int)+(j:Int))=some (.int (alone j)):=by
    rw[e0];have z:=pE (i:=(j:Int)) (by lia) (by lia);simpa using z
   have z:=Du ⟨g,hg⟩ ⟨j,by lia⟩;dsimp only at z;refine⟨_,rfl,_,rfl,AL,_,_,_,rfl,rfl,T.al _,hat,_,_,rfl,rfl,rfl,_,rfl,cY (fun h3=>?_) (fun h3=>?_)⟩
   ·rw[if_pos h3] at z;exact g1 _ (by rw[<- z]) _ (.refl _)
   ·rw[if_neg h3] at z;exact g1 _ (by rw[<- z]) _ (.refl _)
  ·refine k D H2 hD s2 ?_;rw[hd,qDl];rfl
theorem Dv {l b:Int} (hl:0<l) (hb:0<b):l*b.fdiv (qBs l b:Int)=l.fdiv (qBs l b:Int)*b:=by
 have g0:(0:Int)<(qBs l b:Int):=by
  have:=qGz b (show l≠0 by lia);lia
 obtain⟨c,hc⟩:=qKc (a:=l) (b:=b);obtain⟨e,he⟩:=qJq (a:=l) (b:=b);generalize hG:(qBs l b:Int)=G at *;have e1:b.fdiv G=e:=by rw[he];exact qCn _ (by lia)
 have e2:l.fdiv G=c:=by rw[hc];exact qCn _ (by lia)
 rw[e1,e2,hc];grind
def Dw:Sp:=fun vs H Q _=>∃(l:Addr) (n:Nat) (X:Nat->Int) (d:Int) (ws:List Addr),vs=[.ref l]/\j4 n X d H l ws/\0<d/\Sm 6000 d/\∀L,Fs n X d L->Q (.int L) H
theorem zW:aT ["fractions","common","one"] ["fractions"] (aI Jg):=by constructor<;>first|rfl|decide +kernel
theorem Kv {f1:Addr}{fd1:qBo} (t:Tx K mg "common_bottom" Jg ["fractions"] f fd) (T:T K mg AL LN FR iF fCh fGM fCC fCA fPL SE NN NG NT NR) (D_greatest_divisor:Df P w K mg base b0 1 "greatest_divisor" ["one","other"] De f1 fd1) :
  Df P w K mg base b0 2 "common_bottom" ["fractions"] Dw f fd:=by
 refine t.gY zW (fun vs H Q E h=>?_) (fun cdv A outer s H vs Q E hr h=>?_)
 ·obtain⟨l,n,X,d,ws,rfl,_⟩:=h;rfl
 ·obtain⟨l,n,X,d,ws,rfl,fl,d0,sd,k⟩:=h;refine⟨_,(aD (aU (i:=1) zW.nd rfl bT aE)
   (aD (cO PassesOwn.never rfl (bN (pv 0)) (aL (i:=2) zW.nd rfl bT)
    (aG (aU (i:=1) zW.nd rfl bT (aS bL (pv 1) (aS gH (aP a9 (pv 2) aE (fun _ _=>rfl)) (aX D_greatest_divisor hr (by decide) (by rfl) (aA (pv 1) (aA (aP a9 (pv 2) aE (fun _ _=>rfl)) aB))))))))
   (aG (aQ (pv 1))))),?_⟩
  refine⟨_,rfl,l,rfl,⟨_,aR.of fl.hr⟩,?_⟩;refine dN (xs:=ws.map V.ref) (fun i σ H2=>H2=H/\∃(L:Int) (o:Option V),σ=[some (.ref l),some (.int L),o]/\Fs i X d L) ⟨rfl,1,_,rfl,by decide,qPt _,fun j hj=>by lia⟩ (fun i σ H2 _ ⟨e,_⟩=>by rw[e];exact aR.of fl.hr) (fun i y σ H2 hy ⟨eH,L,o,eσ,lo⟩=>?_) (fun σ H2 ⟨eH,L,o,eσ,lo⟩=>?_)
  ·subst eH eσ;obtain⟨p,hp,rfl⟩:=c9 hy;have hpt:=fl.at_ i p hp;obtain⟨_,y1,_,yd⟩:=cW (X:=X i) d0;have sL:Sm 6000 L:=sd.le (by have:=qDt d0 lo.dvd;have:=lo.pos;lia);have sb:=kC (X:=X i) d0 sd;have g0:(qBs L (tb (X i) d):Int)≠0:=by
    have:=qGz (tb (X i) d) (show L≠0 by have:=lo.pos;lia);lia
   have sg:Sm 6000 ((qBs L (tb (X i) d):Nat):Int):=sL.le (by
    rw[qNn];exact qJi (by have:=lo.pos;lia) (qKb _ _))
   have st:=vO d0 lo;rw[<- Dv lo.pos (show 0<tb (X i) d by lia)] at st;exact⟨_,rfl,_,rfl,p,_,_,_,rfl,rfl,cA.of hpt,rfl,_,rfl,_,rfl,p,_,_,_,rfl,rfl,cA.of hpt,rfl,_,_,rfl,_,_,rfl,rfl,sg.db g0,_,_,rfl,rfl,sL.mb sb.fdiv,rfl,_,_,rfl,st⟩
  ·subst eH eσ;rw[qAb,fl.len] at lo;exact⟨_,rfl,k L lo⟩
def Dx:Sp:=fun vs H Q _=>∃(l:Addr) (n:Nat) (X:Nat->Int) (d L:Int) (ws:List Addr),vs=[.int L,.ref l]/\j4 n X d H l ws/\n<=100/\0<d/\Sm 6000 d/\(∀j,Sm 300000 (X j))/\Fs n X d L /\
 ∀(D:Addr) (H':Hp) (tt:Nat->Int),H D=none->aH H H'->H' D=some (.lst (bG n tt))->(∀j,j<n->tt j*d=X j*L)->(∀j,Sm 320000 (tt j))->Q (.ref D) H'
theorem Nf:aT ["bottom","fractions"] ["bottom","fractions"] (aI Jh):=by constructor<;>first|rfl|decide +kernel
theorem Kw (t:Tx K mg "tops_over" Jh ["bottom","fractions"] f fd) (T:T K mg AL LN FR iF fCh fGM fCC fCA fPL SE NN NG NT NR):Df P w K mg base b0 1 "tops_over" ["bottom","fractions"] Dx f fd:=by
 refine t.gY Nf (fun vs H Q E h=>?_) (fun cdv A outer s H vs Q E hr h=>?_)
 ·obtain⟨l,n,X,d,L,ws,rfl,_⟩:=h;rfl
 ·obtain⟨l,n,X,d,L,ws,rfl,fl,n1,d0,sd,sX,lo,k⟩:=h;refine⟨_,(aG (aQ (bQ (NB:=["one","bottom"]) (pick:=[none,some 0]) (bJ (by with_unfolding_all rfl) (by exact(And.intro rfl trivial)) rfl (by decide +kernel) (by decide +kernel) (by rfl) (by rfl)) rfl
     (bN (pv 1)) (fun _ _ _=>aL (i:=0) (show(["one","bottom"]:List Str).Nodup from by decide +kernel) rfl bT)
     (fun _ _ _=>bK) (fun _ _ _=>(aS bL (aP (eE K) (pv 0) aE (fun _ _=>rfl)) (aS gH (pv 1) (aP (eE K) (pv 0) aE (fun _ _=>rfl)))))))),?_⟩
  have sL:Sm 6000 L:=sd.le (by have:=qDt d0 lo.dvd;have:=lo.pos;lia);refine⟨_,rfl,l,rfl,⟨_,aR.of fl.hr⟩,?_⟩;refine cP (xs:=ws.map V.ref) (fun j _=>some (.int (ta (X j) d*L.fdiv (tb (X j) d)))) (aR.of fl.hr) (by rw[qAb,fl.len];exact qAq (aO (by lia))) (fun j y H2 kk kk0 s2 hy g1 g2=>?_) fun D H2 hD s2 hd=>?_
  ·obtain⟨p,hp,rfl⟩:=c9 hy;have hpt:=s2 _ _ (fl.at_ j p hp);obtain⟨_,y1,_,yd⟩:=cW (X:=X j) d0;exact⟨_,rfl,p,_,_,_,rfl,rfl,cA.of hpt,rfl,_,rfl,_,rfl,p,_,_,_,rfl,rfl,cA.of hpt,rfl,_,_,rfl,rfl,(kC (X:=X j) d0 sd).db (show tb (X j) d≠0 by lia),_,_,rfl,rfl,(lN (sX j)).mb sL.fdiv,g1 _ rfl _ (.refl _)⟩
  ·refine k D H2 (fun j=>ta (X j) d*L.fdiv (tb (X j) d)) hD s2 ?_ (fun j hj=>?_) fun j=>((lN (sX j)).mul sL.fdiv).mono (by decide)
   ·rw[hd,qAb,fl.len,lK _ (by rw[qAb,fl.len])];rfl
   ·obtain⟨e,y1,_,yd⟩:=cW (X:=X j) d0;obtain⟨c,hc⟩:=lo.all j hj;have e2:L.fdiv (tb (X j) d)=c:=by
     rw[hc];exact qCn _ (by lia)
    rw[e2,hc];generalize ta (X j) d=a at e;generalize tb (X j) d=b at e;grind
theorem fV {x y X d:Int} (hy:0<y) (hd:0<d) (e:x*d=X*y):eJ x y=eJ X d:=by
 obtain⟨a1,b1,c1,_⟩:=cW (X:=x) hy;obtain⟨a2,b2,c2,_⟩:=cW (X:=X) hd;generalize hp1:ta x y=p1 at *;generalize hq1:tb x y=q1 at *;generalize hp2:ta X d=p2 at *;generalize hq2:tb X d=q2 at *;have cross:p1*q2=p2*q1:=by
  have hne:y*d≠0:=qKv (by lia) (by lia);refine qEo hne ?_;have e1:p1*q2*(y*d)=(p1*y)*q2*d:=by grind
  have e2:p2*q1*(y*d)=(p2*d)*q1*y:=by grind
  rw[e1,e2,a1,a2];have e3:x*q1*q2*d=x*d*(q1*q2):=by grind
  have e4:X*q2*q1*y=X*y*(q1*q2):=by grind
  rw[e3,e4,e]
 have d12:q1∣q2:=zU (m:=p1) (by rw[cross];exact qOi ..) (by rw[qMi];exact c1);have d21:q2∣q1:=zU (m:=p2) (by rw[<- cross];exact qOi ..) (by rw[qMi];exact c2);have qq:q1=q2:=by
  have l1:=qDt (by lia) d12;have l2:=qDt (by lia) d21;lia
 have pp:p1=p2:=by
  rw[qq] at cross;exact qEo (by lia) cross
 show HO.tup [V.int (ta x y),V.int (tb x y)]=HO.tup [V.int (ta X d),V.int (tb X d)];rw[hp1,hq1,hp2,hq2,pp,qq]
def GQ:Sp:=fun vs H Q _=>∃(p q:Addr) (a b d:Int),vs=[.ref p,.ref q]/\H p=some (eJ a d)/\H q=some (eJ b d)/\0<d/\Sm 3000 d/\Sm 400000 a/\Sm 400000 b/\∀r H',aH H H'->H' r=some (eJ (a+b) d)->Q (.ref r) H'
theorem Ng:aT ["one","other"] ["one","other"] (aI Je):=by constructor<;>first|rfl|decide +kernel
theorem Kx {f1:Addr}{fd1:qBo} (t:Tx K mg "plus" Je ["one","other"] f fd) (T:T K mg AL LN FR iF fCh fGM fCC fCA fPL SE NN NG NT NR) (D_fraction:Df P w K mg base (j0 P w) 2 "fraction" ["top","bottom"] (tG K NN) f1 fd1) :
  Df P w K mg base b0 3 "plus" ["one","other"] GQ f fd:=by
 refine t.gY Ng (fun vs H Q E h=>?_) (fun cdv A outer s H vs Q E hr h=>?_)
 ·obtain⟨p,q,a,b,d,rfl,_⟩:=h;rfl
 ·obtain⟨p,q,a,b,d,rfl,hp,hq,d0,sd,sa,sb,k⟩:=h;obtain⟨e1,y1,_,_⟩:=cW (X:=a) d0;obtain⟨e2,y2,_,_⟩:=cW (X:=b) d0;have n2:1*1<=tb a d*tb b d:=qOv y1 y2 (by decide) (by lia);have s1:=kC (X:=a) d0 sd;have s2:=kC (X:=b) d0 sd;refine⟨_,(aG (aQ (fW cK D_fraction hr (by decide) (by rfl) (aA (aS i7 (aS bL (aP a9 (pv 0) aE (fun _ _=>rfl)) (aP a9 (pv 1) aE (fun _ _=>rfl))) (aS bL (aP a9 (pv 1) aE (fun _ _=>rfl)) (aP a9 (pv 0) aE (fun _ _=>rfl)))) (aA (aS bL (aP a9 (pv 0) aE (fun _ _=>rfl)) (aP a9 (pv 1) aE (fun _ _=>rfl))) aB))))),?_⟩;refine⟨_,rfl,p,_,_,_,rfl,rfl,cA.of hp,rfl,_,rfl,q,_,_,_,rfl,rfl,cA.of hq,rfl,_,_,rfl,rfl,(lN sa).mb s2,_,rfl,q,_,_,_,rfl,rfl,cA.of hq,rfl,_,rfl,p,_,_,_,rfl,rfl,cA.of hp,rfl,_,_,rfl,rfl,(lN sb).mb s1,_,_,rfl,rfl,_,rfl,p,_,_,_,rfl,rfl,cA.of hp,rfl,_,rfl,q,_,_,_,rfl,rfl,cA.of hq,rfl,_,_,rfl,rfl,s1.mb s2,?_⟩;dsimp only[iC,qCl,qCm];refine pC (by show tb a d*tb b d≠0;lia) ((s1.mul s2).mono (by decide)) fun r hr=>k r _ (.aF hr) ?_;rw[aC];have e:eJ (ta a d*tb b d+ta b d*tb a d) (tb a d*tb b d)=eJ (a+b) d:=by
   refine fV (by lia) d0 ?_;have z1:(ta a d*tb b d+ta b d*tb a d)*d=(ta a d*d)*tb b d+(ta b d*d)*tb a d:=by grind
   rw[z1,e1,e2];grind
  exact congrArg some e
theorem GR (g:Nat) (Y:Nat->Int):∀i,((hN g i).map fun h=>Y h.toNat).sum=Wg.sm i fun h=>bt g h*Y h
 | 0=>rfl
 | i+1=>by
  have ih:=GR g Y i;show _=(Wg.sm i fun h=>bt g h*Y h)+bt g i*Y i;rw[<- ih];have eh:hN g (i+1)=if g/2^i%2=1 then hN g i++[(i:Int)] else hN g i:=rfl;rw[eh];unfold bt;split
  ·rename_i e;rw[e,qAr,qFa,qDb,qEp,qHt,qLt,qDk,qBb];simp
  ·have e:g/2^i%2=0:=by lia
   rw[e];simp
theorem Nh {m g i:Nat} (hg:g<2^m) (hi:m<=i):bt g i=0:=by
 unfold bt;rw[qOg (qBd hg (qBr (by decide) hi))];rfl
theorem zX {m g:Nat}{Y:Nat->Int} (hg:g<2^m):∀k,(Wg.sm (m+k) fun h=>bt g h*Y h)=Wg.sm m fun h=>bt g h*Y h
 | 0=>rfl
 | k+1=>by
  show(Wg.sm (m+k) fun h=>bt g h*Y h)+bt g (m+k)*Y (m+k)=_;rw[zX hg k,Nh hg (by lia),qBi,qDk]
theorem Dy (a b c e:Int):PyData.eqv (.tuple [.int a,.int b]) (.tuple [.int c,.int e])=(decide (a=c)&&decide (b=e)):=by
 simp[PyData.eqv,PyData.eqvAll];rfl
theorem lO (a b:Int):(PyData.tuple [.int a,.int b]).depth<=64:=by simp[PyData.depth,PyData.depthAll]
theorem jJ {K:qAc}{H:Hp}{w:Addr}{X d:Int} (h:H w=some (eJ X d)):fR K H (.ref w) (.tuple [.int (ta X d),.int (tb X d)]):=.tup (cA.of h) (.cons (.int _) (.cons (.int _) .nil))
theorem Dz {X d c:Int} (d0:0<d):(decide (ta X d=c)&&decide (tb X d=1))=decide (X=c*d):=by
 obtain⟨e1,y1,_,yd⟩:=cW (X:=X) d0;by_cases h:X=c*d
 ·have z:eJ X d=eJ c 1:=fV d0 (by decide) (by rw[h];grind);have z1:eJ c 1 = .tup [.int c,.int 1]:=by
   have e:dv c 1=1:=by unfold dv;rw[if_neg (by decide),qPw];rfl
   unfold eJ;rw[e,qJy,qJy]
  rw[z1] at z;have z:HO.tup [V.int (ta X d),V.int (tb X d)]=HO.tup [V.int c,V.int 1]:=z;injection z with z;injection z with a b;injection b with b _;rw[decide_eq_true h,V.int.inj a,V.int.inj b];simp
 ·rw[decide_eq_false h];by_cases h1:tb X d=1
  ·rw[h1,qFe] at e1;rw[decide_eq_false fun z=>h (by rw[<- e1,z])];rfl
  ·rw[decide_eq_false h1,qIt]
def dQ (H:Hp) (d:Int):List V->List (Int×Int)->Prop
 | [],[]=>True
 | v::vs,p::ps=>(∃a w,v = .ref a/\H a=some (.tup [.int p.1,.ref w])/\H w=some (eJ p.2 d))/\dQ H d vs ps
 | _,_=>False
theorem dQ.t {H H':Hp}{d:Int} (s:k6 H H'):∀{vs:List V}{ps:List (Int×Int)},dQ H d vs ps->dQ H' d vs ps
 | [],[],_=>trivial
 | v::vs,p::ps,⟨⟨a,w,e,h,h'⟩,r⟩=>⟨⟨a,w,e,s _ _ h,s _ _ h'⟩,r.t s⟩
 | [],_::_,h=>h.elim
 | _::_,[],h=>h.elim
theorem dQ.app {H:Hp}{d:Int}{a w:Addr}{p:Int×Int} (h:H a=some (.tup [.int p.1,.ref w])) (h':H w=some (eJ p.2 d)):∀{vs:List V}{ps:List (Int×Int)},dQ H d vs ps->dQ H d (vs++[.ref a]) (ps++[p])
 | [],[],_=>⟨⟨a,w,rfl,h,h'⟩,trivial⟩
 | v::vs,q::ps,⟨x,r⟩=>⟨x,r.app h h'⟩
 | [],_::_,h=>h.elim
 | _::_,[],h=>h.elim
theorem dQ.len {H:Hp}{d:Int}:∀{vs:List V}{ps:List (Int×Int)},dQ H d vs ps->vs.length=ps.length
 | [],[],_=>rfl
 | v::vs,q::ps,⟨_,r⟩=>by rw[qCh,qCh,r.len]
 | [],_::_,h=>h.elim
 | _::_,[],h=>h.elim
theorem dQ.get {H:Hp}{d:Int}:∀{vs:List V}{ps:List (Int×Int)},dQ H d vs ps->∀{i:Nat}{v:V},vs[i]?=some v->∃a w p,ps[i]?=some p/\v = .ref a/\H a=some (.tup [.int p.1,.ref w])/\H w=some (eJ p.2 d)
 | [],[],_,i,v,e=>by cases i <;> cases e
 | v::vs,q::ps,⟨⟨a,w,e1,h1,h2⟩,r⟩,0,v',e=>⟨a,w,q,rfl,by rw[<- e1];exact(Option.some.inj e).symm,h1,h2⟩
 | v::vs,q::ps,⟨_,r⟩,i+1,v',e=>r.get (i:=i) e
 | [],_::_,h,_,_,_=>h.elim
 | _::_,[],h,_,_,_=>h.elim
theorem Fz:∀a b:_root_.Fin 7,2^a.1=2^b.1->a.1=b.1:=by decide
theorem OQ:∀m:_root_.Fin 7,Wg.pV m.1*1^m.1<2^3000:=by decide +kernel
theorem DB {m:Nat}{A:Nat->Nat->Int}{due:Nat->Int}{d:Int} (m6:m<=6) (dm:pB m A due d) (hA:∀j i,(A j i).natAbs<=1) (hd:∀i,(due i).natAbs<=1):Sm 3000 d :=
 qBp (dm 1 (qAg _) hA hd) (OQ ⟨m,by lia⟩)
theorem pF (g i:Nat):(bt g i).natAbs<=1:=by rcases vP g i with e | e <;> rw[e] <;> decide
theorem lP:∀(m:_root_.Fin 7) (i:_root_.Fin 6),i.1<m.1->bt (2^m.1-1) i.1=1:=by decide +kernel
theorem DD {m:Nat} (m6:m<=6) (Y:Nat->Int):(Wg.sm m fun i=>bt (2^m-1) i*Y i)=Wg.sm m Y:=Wg.bB fun i hi=>by
 rw[show bt (2^m-1) i=1 from lP ⟨m,by lia⟩ ⟨i,by lia⟩ hi,qCx]
theorem Bp:∀(m:_root_.Fin 7) (g:_root_.Fin 64),1<=g.1->g.1<2^m.1->∃i:_root_.Fin 6,i.1<m.1/\bt g.1 i.1=1:=by decide +kernel
theorem oT {n:Nat}{f:Nat->Int} (h:∀j,j<n->0<=f j):0<=Wg.sm n f:=by
 have z:(Wg.sm n fun _=>(0:Int))=0:=Wg.cH fun _ _=>rfl;rw[<- z];exact Wg.uY h
theorem xX {n:Nat}{f:Nat->Int} (h:∀j,j<n->0<=f j) (e:Wg.sm n f=0):∀j,j<n->f j=0:=by
 induction n with
 | zero=>intro j hj;lia
 | succ n ih =>
  have e:Wg.sm n f+f n=0:=e;have a:=oT (n:=n) fun j hj=>h j (by lia);have b:=h n (by lia);intro j hj;by_cases z:j=n
  ·subst z;lia
  ·exact ih (fun j hj=>h j (by lia)) (by lia) j (by lia)
theorem pG {X d:Int} (d0:0<d):(!PyData.eqv (.tuple [.int (ta X d),.int (tb X d)]) (.tuple [.int 0,.int 1]))=decide (X≠0):=by
 rw[Dy,Dz d0,qBi];by_cases h:X=0
 ·rw[decide_eq_true h,decide_eq_false (fun z=>z h)];rfl
 ·rw[decide_eq_false h,decide_eq_true h];rfl
def DE:Sp:=fun vs H Q _=>∃(p q:Addr) (a b d:Int),vs=[.ref p,.ref q]/\H p=some (eJ a d)/\H q=some (eJ b d)/\0<d/\Sm 3000 d/\Sm 400000 a/\Sm 400000 b/\∀r H',aH H H'->H' r=some (eJ (a-b) d)->Q (.ref r) H'
theorem Ni:aT ["one","other"] ["one","other"] (aI Jf):=by constructor<;>first|rfl|decide +kernel
theorem Ky {f1:Addr}{fd1:qBo} (t:Tx K mg "minus" Jf ["one","other"] f fd) (T:T K mg AL LN FR iF fCh fGM fCC fCA fPL SE NN NG NT NR) (D_fraction:Df P w K mg base (j0 P w) 2 "fraction" ["top","bottom"] (tG K NN) f1 fd1) :
  Df P w K mg base b0 3 "minus" ["one","other"] DE f fd:=by
 refine t.gY Ni (fun vs H Q E h=>?_) (fun cdv A outer s H vs Q E hr h=>?_)
 ·obtain⟨p,q,a,b,d,rfl,_⟩:=h;rfl
 ·obtain⟨p,q,a,b,d,rfl,hp,hq,d0,sd,sa,sb,k⟩:=h;obtain⟨e1,y1,_,_⟩:=cW (X:=a) d0;obtain⟨e2,y2,_,_⟩:=cW (X:=b) d0;have n2:1*1<=tb a d*tb b d:=qOv y1 y2 (by decide) (by lia);have s1:=kC (X:=a) d0 sd;have s2:=kC (X:=b) d0 sd;refine⟨_,(aG (aQ (fW cK D_fraction hr (by decide) (by rfl) (aA (aS eX (aS bL (aP a9 (pv 0) aE (fun _ _=>rfl)) (aP a9 (pv 1) aE (fun _ _=>rfl))) (aS bL (aP a9 (pv 1) aE (fun _ _=>rfl)) (aP a9 (pv 0) aE (fun _ _=>rfl)))) (aA (aS bL (aP a9 (pv 0) aE (fun _ _=>rfl)) (aP a9 (pv 1) aE (fun _ _=>rfl))) aB))))),?_⟩;refine⟨_,rfl,p,_,_,_,rfl,rfl,cA.of hp,rfl,_,rfl,q,_,_,_,rfl,rfl,cA.of hq,rfl,_,_,rfl,rfl,(lN sa).mb s2,_,rfl,q,_,_,_,rfl,rfl,cA.of hq,rfl,_,rfl,p,_,_,_,rfl,rfl,cA.of hp,rfl,_,_,rfl,rfl,(lN sb).mb s1,_,_,rfl,rfl,_,rfl,p,_,_,_,rfl,rfl,cA.of hp,rfl,_,rfl,q,_,_,_,rfl,rfl,cA.of hq,rfl,_,_,rfl,rfl,s1.mb s2,?_⟩;dsimp only[iC,qCl,qCm];refine pC (by show tb a d*tb b d≠0;lia) ((s1.mul s2).mono (by decide)) fun r hr=>k r _ (.aF hr) ?_;rw[aC];have e:eJ (ta a d*tb b d-ta b d*tb a d) (tb a d*tb b d)=eJ (a-b) d:=by
   refine fV (by lia) d0 ?_;have z1:(ta a d*tb b d-ta b d*tb a d)*d=(ta a d*d)*tb b d-(ta b d*d)*tb a d:=by grind
   rw[z1,e1,e2];grind
  exact congrArg some e
def DF:Sp:=fun vs H Q _=>∃(p:Addr) (n:Nat) (g:Nat->Int),vs=[.ref p]/\H p=some (.lst (bG n g))/\n<=100/\∀D H',H D=none->aH H H'->H' D=some (.lst (bG n fun i=>-g i))->Q (.ref D) H'
theorem Nj:aT ["column"] ["column"] (aI Jn):=by constructor<;>first|rfl|decide +kernel
theorem Kz (t:Tx K mg "below_nought" Jn ["column"] f fd) (T:T K mg AL LN FR iF fCh fGM fCC fCA fPL SE NN NG NT NR):Df P w K mg base b0 1 "below_nought" ["column"] DF f fd:=by
 refine t.gY Nj (fun vs H Q E h=>?_) (fun cdv _A outer s H vs Q E hr h=>?_)
 ·obtain⟨p,n,g,rfl,_⟩:=h;rfl
 ·obtain⟨p,n,g,rfl,hp,hn,k⟩:=h;refine⟨_,(aG (aQ (bQ (NB:=["number"]) (pick:=[none]) (bJ (by with_unfolding_all rfl) (by exact trivial) rfl (by decide +kernel) (by decide +kernel) (by rfl) (by rfl)) rfl
     (bN (pv 0)) (fun _ _ _=>aL (i:=0) (show(["number"]:List Str).Nodup from by decide +kernel) rfl bT)
     (fun _ _ _=>bK) (fun _ _ _=>(iU fT (pv 0)))))),?_⟩
  refine⟨_,rfl,p,rfl,⟨_,aR.of hp⟩,?_⟩;refine cP (xs:=bG n g) (fun i _=>some (.int (-g i))) (aR.of hp) (by rw[aK];exact qAq (aO (by lia))) (fun i x H2 kk kk0 s2 hx g1 g2=>?_) fun D H2 hD s2 hd=>?_
  ·obtain⟨hi,rfl⟩:=fF hx;refine⟨_,rfl,_,rfl,?_⟩;exact g1 _ rfl _ (.refl _)
  ·refine k D H2 hD s2 ?_;rw[hd,aK,lK _ (aK _ _)];rfl
theorem Nk (x:Int):(!decide (V.int x=V.int 0))=decide (x≠0):=by
 by_cases e:x=0
 ·rw[decide_eq_true (show V.int x=V.int 0 by rw[e]),decide_eq_false (Classical.not_not.mpr e)];rfl
 ·rw[decide_eq_false (fun z=>e (V.int.inj z)),decide_eq_true e];rfl
def FA:Nat->Nat
 | 0=>0
 | k+1=>2*FA k+3
theorem pH:∀{j k:Nat},j<=k->FA j<=FA k
 | j,0,h=>by rw[Nat.le_zero.mp h];exact qAg _
 | j,k+1,h=>by
  rcases qAl k j with z | z
  ·rw[show j=k+1 by lia];exact qAg _
  ·have:=pH (j:=j) (k:=k) z;show FA j<=2*FA k+3;lia
structure Nl (m:Nat) (rs:List (Nat->Int)) (H:Hp) (q:Addr) (as:List Addr):Prop where
 hq:H q=some (.lst (as.map V.ref))
 len:as.length=rs.length
 at_:∀(k:Nat) (a:Addr) (r:Nat->Int),as[k]?=some a->rs[k]?=some r->H a=some (.lst (bG m r))
theorem Nl.same {m:Nat}{rs:List (Nat->Int)}{H H':Hp}{q:Addr}{as:List Addr} (h:Nl m rs H q as) (s:aH H H'):Nl m rs H' q as:=⟨s _ _ h.hq,h.len,fun k a r e1 e2=>s _ _ (h.at_ k a r e1 e2)⟩
def OR (rs:List (Nat->Int)):Prop:=∀(k:Nat) (r:Nat->Int),rs[k]?=some r->∀i,Sm (2+FA k) (r i)
theorem xY {m:Nat}{rs:List (Nat->Int)} (h:OR rs){g:Nat->Int} (hg:∀i,Sm 2 (g i)):∀(k:Nat),k<=rs.length->∀i,Sm (2+FA k) (Cm.cZ m (rs.take k) g i)
 | 0,_,i=>hg i
 | k+1,hk,i=>by
  have e:=qAd (l:=rs) (i:=k) (by lia);have ih:=xY (m:=m) h hg k (by lia);have et:rs.take (k+1)=rs.take k++[rs[k]]:=by rw[qEs,e];rfl
  rw[et,Cm.cR];have a1:=(ih i).mul (h k _ e (Cm.iM m rs[k]));have a2:=(h k _ e i).mul (ih (Cm.iM m rs[k]));refine Sm.mono (a1.sub (a2.mono (by lia))) ?_;show _<=2+(2*FA k+3);lia
def GS:Sp:=fun vs H Q _=>∃(p q:Addr) (m:Nat) (g:Nat->Int) (rs:List (Nat->Int)) (as:List Addr),vs=[.ref p,.ref q]/\H p=some (.lst (bG m g))/\Nl m rs H q as/\m<=6/\rs.length<=6/\(∀r,r∈rs->Cm.iM m r<m)/\(∀i,Sm 2 (g i))/\OR rs /\
 ∀D H',aH H H'->H' D=some (.lst (bG m (Cm.cZ m rs g)))->Q (.ref D) H'
theorem rG:aT ["row","rows","rest","lead","place","factor"] ["row","rows"] (aI Jo):=by constructor<;>first|rfl|decide +kernel
theorem KA (t:Tx K mg "rest_of" Jo ["row","rows"] f fd) (T:T K mg AL LN FR iF fCh fGM fCC fCA fPL SE NN NG NT NR):Df P w K mg base b0 1 "rest_of" ["row","rows"] GS f fd:=by
 refine t.gY rG (fun vs H Q E h=>?_) (fun cdv _A outer s H vs Q E hr h=>?_)
 ·obtain⟨p,q,m,g,rs,as,rfl,_⟩:=h;rfl
 ·obtain⟨p,q,m,g,rs,as,rfl,hp,rw_,hm,hl,hpv,sg,sr,k⟩:=h;refine⟨_,(aD (aU (i:=2) rG.nd rfl (by first|exact .inl rfl|exact .inr rfl) (pv 0))
   (aD (cO PassesOwn.never rfl (bN (pv 1)) (aL (i:=3) rG.nd rfl (by first|exact .inl rfl|exact .inr rfl))
    (aD (aU (i:=4) rG.nd rfl (by first|exact .inl rfl|exact .inr rfl) (Iq K rfl qEg PySem.F.slot_list_index PySem.F.type_list_index (AR K rfl) (bQ (NB:=["number"]) (pick:=[none]) (bJ (by with_unfolding_all rfl) (by exact trivial) rfl (by decide +kernel) (by decide +kernel) (by rfl) (by rfl)) rfl
     (bN (pv 3)) (fun _ _ _=>aL (i:=0) (show(["number"]:List Str).Nodup from by decide +kernel) rfl bT)
     (fun _ _ _=>bK) (fun _ _ _=>(eB eO (pv 0) aE (aW _)))) (aA eV aB)))
    (aD (aU (i:=5) rG.nd rfl (by first|exact .inl rfl|exact .inr rfl) (aP bC (pv 2) (pv 4) (fun _ _=>rfl)))
    (aG (eD (NB:=["number","other","factor","lead","place"]) (pick:=[none,none,some 5,some 3,some 4]) (i:=2) rG.nd rfl (by first|exact .inl rfl|exact .inr rfl) (by rfl) (bJ (by with_unfolding_all rfl) (by exact(And.intro rfl (And.intro rfl (And.intro rfl trivial)))) rfl (by decide +kernel) (by decide +kernel) (by rfl) (by rfl)) rfl
     (gI (by rfl) T.gO (aA (pv 2) (aA (pv 3) aB))) (fun _ _ _=>(show PG _ _ (rP K 2 (fO (aY 0) (fO (aY 1) rO))) from eW rfl (bI (aL (i:=0) (show(["number","other","factor","lead","place"]:List Str).Nodup from by decide +kernel) rfl bT) (bI (aL (i:=1) (show(["number","other","factor","lead","place"]:List Str).Nodup from by decide +kernel) rfl bT) dG))))
     (fun _ _ _=>bK) (fun _ _ _=>(aS eX (aS bL (pv 0) (aP (bV K) (pv 3) (pv 4) (fun _ _=>rfl))) (aS bL (pv 1) (pv 2)))))))))
   (aG (aQ (pv 2))))),?_⟩
  refine⟨_,rfl,_,rfl,q,rfl,⟨_,aR.of rw_.hq⟩,?_⟩;refine dN (xs:=as.map V.ref) (fun j σ' H'=>aH H H'/\∃(r:Addr) (o3 o4 o5:Option V),H' r=some (.lst (bG m (Cm.cZ m (rs.take j) g)))/\σ'=[some (.ref p),some (.ref q),some (.ref r),o3,o4,o5]) ⟨.refl _,p,_,_,_,hp,rfl⟩ ?_ ?_ ?_
  ·rintro j σ' H' _ ⟨s2,_⟩;exact aR.of (s2 _ _ rw_.hq)
  ·rintro j x σ' H2 hx ⟨s2,r,o3,o4,o5,hr2,rfl⟩;obtain⟨a,ha,rfl⟩:=c9 hx;have hj:j<rs.length:=by
    rw[<- rw_.len];exact(List.getElem?_eq_some_iff.mp ha).1
   have er:=qAd hj;have hla:=s2 _ _ (rw_.at_ j a _ ha er);have hpj:=hpv _ (qAy er);generalize rs[j]=lead at er hla hpj;have s1:=xY (m:=m) sr sg j (by lia);have sl:=sr j _ er;have hb:FA j<=200:=qCu (pH (j:=j) (k:=6) (by lia)) (by decide);have s1':∀i,Sm 202 (Cm.cZ m (rs.take j) g i):=fun i=>(s1 i).mono (by lia);have sl':∀i,Sm 202 (lead i):=fun i=>(sl i).mono (by lia);refine⟨_,rfl,a,rfl,⟨_,aR.of hla⟩,?_⟩;refine cP (xs:=bG m lead) (fun i _=>some (.bl (decide (lead i≠0)))) (aR.of hla) (by rw[aK];exact qAq (aO (by lia))) (fun i x H3 kk kk0 s3 hx g1 g2=>?_) fun D H3 hD s3 hd=>?_
   ·obtain⟨hi,rfl⟩:=fF hx;refine⟨_,rfl,rfl,?_⟩;exact g1 _ (by rw[Nk]) _ (.refl _)
   ·rw[aK,lK _ (aK _ _)] at hd;refine⟨.inl ⟨rfl,_,aR.of hd⟩,D,(qAn m).map fun i=>decide (lead i≠0),Cm.iM m lead,rfl,rfl,?_,?_,fun i hi=>?_,?_⟩
    ·rw[qCz];exact aR.of hd
    ·rw[qAo,qCr hpj];exact congrArg some (decide_eq_true (Cm.mL hpj))
    ·rw[qAo,qCr (by lia)];exact congrArg some (decide_eq_false (Classical.not_not.mpr (Cm.iH hi (by lia))))
    dsimp only[aY];have hr3:=s3 _ _ hr2;have hl3:=s3 _ _ hla;refine⟨_,rfl,_,rfl,r,_,_,_,rfl,rfl,aR.of hr3,bS hpj,?_⟩;dsimp only[aY];refine⟨_,rfl,_,rfl,r,a,rfl,⟨_,aR.of hr3⟩,⟨_,aR.of hl3⟩,?_⟩;refine jP (xs:=bG m (Cm.cZ m (rs.take j) g)) (ys:=bG m lead) (fun σ'=>∃o0 o1:Option V,σ'=[o0,o1,some (.int (Cm.cZ m (rs.take j) g (Cm.iM m lead))),some (.ref a),some (.int (Cm.iM m lead:Nat))]) (fun i _ _=>some (.int (Cm.jD m lead (Cm.cZ m (rs.take j) g) i))) ⟨_,_,rfl⟩ (aR.of hr3) (aR.of hl3) (by rw[aK,aK]) (by rw[aK];exact qAq (aO (by lia))) (fun i x y tt σ1 H4 kk kk0 hσ s4 hx hy ht h1 h2=>?_) fun D2 H4 hD2 s4 hd4=>?_
    ·obtain⟨o0,o1,rfl⟩:=hσ;obtain⟨hi,rfl⟩:=fF hx;obtain⟨_,rfl⟩:=fF hy;refine⟨tt,_,rfl,cA.of ht,rfl,_,_,rfl,_,_,rfl,rfl,?_⟩;refine⟨_,rfl,_,rfl,_,rfl,a,_,_,_,rfl,rfl,aR.of (s4 _ _ hl3),bS hpj,_,_,rfl,rfl,(s1' i).mb (sl' _),_,rfl,_,rfl,_,_,rfl,rfl,(sl' i).mb (s1' _),_,_,rfl,rfl,?_⟩;exact h1 _ _ ⟨_,_,rfl⟩ rfl _ (.refl _)
    ·refine⟨s2.trans (s3.trans s4),D2,_,_,_,?_,rfl⟩;have et:rs.take (j+1)=rs.take j++[lead]:=by rw[qEs,er];rfl
     rw[hd4,aK,tH _ (aK _ _) (aK _ _),et,Cm.cR];rfl
  ·rintro σ' H2 ⟨s2,r,o3,o4,o5,hr2,rfl⟩;refine⟨_,rfl,k r H2 s2 ?_⟩;rw[hr2,qAb,rw_.len,qEd]
theorem eM {l:List Nat}{i:Nat}{x:V} (h:(aZ l)[i]?=some x):∃g,l[i]?=some g/\x = .int (g:Int):=by
 unfold aZ at h;rw[qAo] at h;cases e:l[i]? with
 | none=>rw[e] at h;cases h
 | some g=>rw[e] at h;exact⟨g,rfl,(Option.some.inj h).symm⟩
theorem DI {m:Nat}{vs:List (Nat->Int)} (h:∀v,v∈vs->∀i,Sm 2 (v i)):OR (Cm.iA m vs):=by
 induction vs using Cm.snocInd with
 | nil=>intro k r e;cases e
 | append_singleton vs v ih =>
  have i1:=ih fun u hu=>h u (qCc _ hu);intro k r e i;rw[Cm.dP] at e;rcases qAl k (Cm.iA m vs).length with z | z
  ·rw[qAz z] at e;exact i1 k r e i
  ·rw[qAv z] at e;have hk:k-(Cm.iA m vs).length=0:=by
    have:=(List.getElem?_eq_some_iff.mp e).1;rw[qBc] at this;lia
   rw[hk] at e;obtain rfl:=Option.some.inj e;have q:=xY (m:=m) i1 (h v (qAx _ (List.mem_singleton.mpr rfl))) (Cm.iA m vs).length (qAg _) i;rw[qEd] at q;exact q.mono (by have:=pH (j:=(Cm.iA m vs).length) (k:=k) z;lia)
theorem pI {m:Nat}{r:Nat->Int}{as:List Addr} (h:0<m):bG m r≠as.map V.ref:=fun e=>by
 have h0:=dH (f:=r) h;rw[e,qAo] at h0;cases ha:as[0]? with
 | none=>rw[ha] at h0;cases h0
 | some a=>rw[ha] at h0;cases h0
def fS (ks:List Nat):List (Nat->Int):=ks.map bt
def g4 (m:Nat) (ks:List Nat) (g:Nat):Bool:=decide (bG m (Cm.cZ m (Cm.iA m (fS ks)) (bt g))=bG m fun _=>0)
theorem gD {m:Nat}{ks:List Nat}{g:Nat}:g4 m ks g=true↔Cm.Told m (fS ks) (bt g):=by
 unfold g4;rw[decide_eq_true_iff];constructor
 ·intro e i hi;have h0:=dH (f:=Cm.cZ m (Cm.iA m (fS ks)) (bt g)) hi;rw[e,dH hi] at h0;exact(V.int.inj (Option.some.inj h0)).symm
 ·intro h;exact dI fun j hj=>h j hj
theorem GU {ks:List Nat}:∀v,v∈fS ks->∀i,Sm 2 (v i):=fun v hv i=>by
 obtain⟨g,_,rfl⟩:=List.mem_map.mp hv;exact rF g i
theorem DJ {m:Nat}{ks:List Nat} (h:Cm.iI m (fS ks)):∀j,Cm.iI m (fS (ks.take j)):=by
 induction ks using Cm.snocInd with
 | nil=>intro j;rw[List.take_nil];exact h
 | append_singleton ks k ih =>
  intro j;have e:fS (ks++[k])=fS ks++[bt k]:=by unfold fS;rw[qAr];rfl
  rcases qAl ks.length j with z | z
  ·rw[qEw (by rw[qAm,qBc];lia)];exact h
  ·rw[List.take_append_of_le_length z];rw[e] at h;exact ih h.jU.1 j
theorem KC (m:Nat):(qBl m [V.int 0]).flatten=bG m fun _=>0:=by
 induction m with
 | zero=>rfl
 | succ m ih =>
  unfold bG at ih|-;rw[List.replicate_succ',List.flatten_append,ih,qBk,qAr];rfl
theorem KD {m:Nat}{u v:Nat->Int}:decide ((qAn m).map u=(qAn m).map v)=decide (bG m u=bG m v):=by
 rw[gB,gB];refine decide_eq_decide.mpr ⟨fun e=>by rw[e],fun e=>?_⟩;exact(List.map_inj_right fun a b h=>V.int.inj h).mp e
theorem pJ {α β:Type} (F:α->Option β) (l:List α):((qAn l.length).filterMap fun i=>(l[i]?).bind F)=l.filterMap F:=by
 induction l using Cm.snocInd with
 | nil=>rfl
 | append_singleton l x ih =>
  rw[qAm,qBc,qBk,qBy,qBy,<- ih];congr 1
  ·refine dE fun i hi=>?_;rw[qAz (List.mem_range.mp hi)]
  ·rw[qCg,qCg,qAv (qAg _),qMb];rfl
theorem Bq (gs:List Nat) (b:Nat->Bool):(gs.filterMap fun g=>if b g=true then none else some (V.int (g:Int)))=aZ (gs.filter fun g=>!b g):=by
 unfold aZ;induction gs with
 | nil=>rfl
 | cons g gs ih =>
  rw[qCg,qDf];cases b g with
  | true=>simpa using ih
  | false=>simpa using ih
theorem KG (gs:List Nat) (b:Nat->Bool):((qAn (aZ gs).length).filterMap fun i=>((aZ gs)[i]?).bind fun _=>(gs[i]?).bind fun g=>if b g=true then none else some (V.int (g:Int)))=aZ (gs.filter fun g=>!b g):=by
 have e:(aZ gs).length=gs.length:=by unfold aZ;rw[qAb]
 rw[e];have e2:((qAn gs.length).filterMap fun i=>((aZ gs)[i]?).bind fun _=>(gs[i]?).bind fun g=>if b g=true then none else some (V.int (g:Int)))=(qAn gs.length).filterMap fun i=>(gs[i]?).bind fun g=>if b g=true then none else some (V.int (g:Int)):=by
  refine dE fun i hi=>?_;have hi:=List.mem_range.mp hi;unfold aZ;rw[qAo,qAd hi];rfl
 rw[e2,pJ,Bq]
def DK:Sp:=fun vs H Q _=>∃(p q:Addr) (m:Nat) (gs ks:List Nat),vs=[.ref p,.ref q,.int (m:Int)]/\H p=some (.lst (aZ gs))/\H q=some (.lst (aZ ks))/\0<m/\m<=6/\gs.length<=64/\(∀g,g∈gs->g<64)/\(∀k,k∈ks->k<64)/\Cm.iI m (fS ks) /\
 ∀D H',H D=none->aH H H'->H' D=some (.lst (aZ (gs.filter fun g=>!g4 m ks g)))->Q (.ref D) H'
theorem zY:aT ["groups","kept","many","rows","group","nothing"] ["groups","kept","many"] (aI Jp):=by constructor<;>first|rfl|decide +kernel
theorem KH {f1 f2:Addr}{fd1 fd2:qBo} (t:Tx K mg "untold" Jp ["groups","kept","many"] f fd) (T:T K mg AL LN FR iF fCh fGM fCC fCA fPL SE NN NG NT NR) (D_marks_of:Df P w K mg base b0 1 "marks_of" ["group","many"] vQ f1 fd1) (D_rest_of:Df P w K mg base b0 1 "rest_of" ["row","rows"] GS f2 fd2) :
  Df P w K mg base b0 2 "untold" ["groups","kept","many"] DK f fd:=by
 refine t.gY zY (fun vs H Q E h=>?_) (fun cdv _A outer s H vs Q E hr h=>?_)
 ·obtain⟨p,q,m,gs,ks,rfl,_⟩:=h;rfl
 ·obtain⟨p,q,m,gs,ks,rfl,hp,hq,m0,m6,gl,g64,Em,ind,k⟩:=h;refine⟨_,(aD (aU (i:=3) zY.nd rfl (by first|exact .inl rfl|exact .inr rfl) (bH aB))
   (aD (cO PassesOwn.never rfl (bN (pv 1)) (aL (i:=4) zY.nd rfl (by first|exact .inl rfl|exact .inr rfl))
    (aG (fN (qF qEg qFk qFj iQ (pv 3) (aA (aX D_rest_of hr (by decide) (by rfl) (aA (aX D_marks_of hr (by decide) (by rfl) (aA (pv 4) (aA (pv 2) aB))) (aA (pv 3) aB))) aB)))))
   (aD (aU (i:=5) zY.nd rfl (by first|exact .inl rfl|exact .inr rfl) (aS hU (bH (aA aE aB)) (pv 2)))
   (aG (aQ (bQ (NB:=["group","many","nothing","rows"]) (pick:=[none,some 2,some 5,some 3]) (bJ (by with_unfolding_all rfl) (by exact(And.intro rfl (And.intro rfl (And.intro rfl trivial)))) rfl (by decide +kernel) (by decide +kernel) (by rfl) (by rfl)) rfl
     (bN (pv 0)) (fun _ _ _=>aL (i:=0) (show(["group","many","nothing","rows"]:List Str).Nodup from by decide +kernel) rfl bT)
     (fun _ _ _=>eZ (aV (EV K hr.units) (aX D_rest_of hr (by decide) (by rfl) (aA (aX D_marks_of hr (by decide) (by rfl) (aA (pv 0) (aA (pv 1) aB))) (aA (pv 3) aB))) (pv 2) (aW _))) (fun _ _ _=>(pv 0)))))))),?_⟩
  have kl:=ind.len;unfold fS at kl;rw[qAb] at kl;refine⟨by simp[qCa],fun lr hlr=>?_⟩;dsimp only[aY];have u0:aH H (upd H lr (.lst [])):=.aF hlr;refine⟨_,rfl,q,rfl,⟨_,aR.of (u0 _ _ hq)⟩,?_⟩;refine dN (xs:=aZ ks) (fun j σ' H'=>aH H H'/\∃(as:List Addr) (o4 o5:Option V),Nl m (Cm.iA m (fS (ks.take j))) H' lr as/\σ'=[some (.ref p),some (.ref q),some (.int (m:Int)),some (.ref lr),o4,o5]) ⟨u0,[],_,_,⟨aC,rfl,fun k a r e=>by cases e⟩,rfl⟩ ?_ ?_ ?_
  ·rintro j σ' H' _ ⟨s2,_⟩;exact aR.of (s2 _ _ hq)
  ·rintro j x σ' H2 hx ⟨s2,as,o4,o5,rl,rfl⟩;obtain⟨g,hg,rfl⟩:=eM hx;have hgm:g∈ks:=qAy hg;have hj:j<ks.length:=(List.getElem?_eq_some_iff.mp hg).1;have et:ks.take (j+1)=ks.take j++[g]:=by rw[qEs,hg];rfl
   have ev:fS (ks.take (j+1))=fS (ks.take j)++[bt g]:=by rw[et];unfold fS;rw[qAr];rfl
   have elen:(Cm.iA m (fS (ks.take j))).length=j:=by
    rw[Cm.lG];unfold fS;rw[qAb,qEn];lia
   have hind:Cm.iI m (fS (ks.take j)):=DJ ind j;have hsm:∀v,v∈fS (ks.take j)->∀i,Sm 2 (v i):=GU;dsimp only[aY];refine⟨_,rfl,.inl ⟨rfl,_,aR.of rl.hq⟩,_,rfl,_,rfl,g,m,rfl,Em g hgm,m6,fun D H3 hD s3 hd=>?_⟩;have rl3:=rl.same s3;refine⟨_,rfl,D,lr,m,bt g,_,as,rfl,hd,rl3,m6,by lia,hind,rF g,DI hsm,fun D2 H4 s4 h4=>?_⟩;have rl4:=rl3.same s4;have hlen:=rl4.len;refine⟨lr,_,_,rfl,rfl,rl4.hq,by rw[qAb];exact qBp (show as.length<=6 by lia) (by rw[qCa];decide),?_⟩;refine⟨(s2.trans (s3.trans s4)).upd_ne' hlr,as++[D2],_,_,⟨?_,?_,fun k' a' r' e1 e2=>?_⟩,rfl⟩
   ·rw[aC,qAr];rfl
   ·rw[ev,Cm.dP,qAm,qAm,hlen];rfl
   ·have hne:∀(b:Addr) (r:Nat->Int),H4 b=some (.lst (bG m r))->b≠lr:=fun b r e z=>by
     rw[z,rl4.hq] at e;exact pI m0 (HO.lst.inj (Option.some.inj e)).symm
    rw[ev,Cm.dP] at e2;rcases qAl k' as.length with z | z
    ·rw[qAz z] at e1;rw[qAz (by lia)] at e2;have q:=rl4.at_ k' a' r' e1 e2;rw[aM (hne _ _ q)];exact q
    ·rw[qAv z] at e1;rw[qAv (by lia)] at e2;have hk:k'-as.length=0:=by
      have:=(List.getElem?_eq_some_iff.mp e1).1;rw[qBc] at this;lia
     rw[hk] at e1;rw[<- hlen,hk] at e2;obtain rfl:=Option.some.inj e1;obtain rfl:=Option.some.inj e2;rw[aM (hne _ _ h4)];exact h4
  ·rintro σ' H2 ⟨s2,as,o4,o5,rl,rfl⟩;refine⟨by simp[qCa],fun l0 h0=>?_⟩;have h2t:((m:Int)).toNat=m:=qBb m;refine⟨_,rfl,l0,_,_,rfl,rfl,aC,by lia,by lia,by rw[h2t,qCa];simp;lia,fun ln hln=>?_⟩;dsimp only[aY];have s3:aH H2 (upd (upd H2 l0 (.lst [V.int 0])) ln (.lst (qBl ((m:Int)).toNat [V.int 0]).flatten)):=(aH.aF h0).trans (.aF hln);have hz:upd (upd H2 l0 (.lst [V.int 0])) ln (.lst (qBl ((m:Int)).toNat [V.int 0]).flatten) ln=some (.lst (bG m fun _=>0)):=by
    rw[aC,h2t,KC]
   generalize upd (upd H2 l0 (.lst [V.int 0])) ln (.lst (qBl ((m:Int)).toNat [V.int 0]).flatten)=H3 at s3 hz|-;have rl3:=rl.same s3;rw[show(aZ ks).length=ks.length by unfold aZ;rw[qAb],qEd] at rl3;have elen:(Cm.iA m (fS ks)).length=ks.length:=by rw[Cm.lG];unfold fS;rw[qAb]
   refine⟨_,rfl,p,rfl,⟨_,aR.of (s3 _ _ (s2 _ _ hp))⟩,?_⟩;refine cP (xs:=aZ gs) (fun i _=>(gs[i]?).bind fun g=>if g4 m ks g=true then none else some (.int (g:Int))) (aR.of (s3 _ _ (s2 _ _ hp))) (by unfold aZ;rw[qAb];exact qAq (aO (by lia))) (fun i x H4 kk kk0 s4 hx g1 g2=>?_) fun D H4 hD s4 hd=>?_
   ·obtain⟨g,hg,rfl⟩:=eM hx;rw[hg] at g1 g2;refine⟨_,rfl,_,rfl,g,m,rfl,g64 g (qAy hg),m6,fun D5 H5 hD5 s5 hd5=>?_⟩;refine⟨_,rfl,D5,lr,m,bt g,_,as,rfl,hd5,(rl3.same s4).same s5,m6,by lia,ind,rF g,DI GU,fun D6 H6 s6 h6=>?_⟩;rw[gB] at h6;have hz6:=s6 _ _ (s5 _ _ (s4 _ _ hz));rw[gB] at hz6;refine⟨_,rfl,D6,ln,_,_,rfl,rfl,aR.of h6,aR.of hz6,_,rfl,?_⟩;have hb:(!decide ((qAn m).map (Cm.cZ m (Cm.iA m (fS ks)) (bt g))=(qAn m).map fun _=>(0:Int))) = !g4 m ks g:=by
     rw[KD];rfl
    dsimp only;rw[hb];cases ht:g4 m ks g with
    | true =>
     rw[if_neg (by simp)];exact g2 (by simp[ht]) _ (s5.trans s6)
    | false =>
     rw[if_pos (by simp)];exact⟨_,rfl,g1 _ (by simp[ht]) _ (s5.trans s6)⟩
   ·have hD0:H D=none:=by
     cases e:H D with
     | none=>rfl
     | some o=>rw[(s2.trans s3) _ _ e] at hD;cases hD
    refine k D H4 hD0 (s2.trans (s3.trans s4)) ?_;rw[hd,KG]
def pK (m:Nat) (gs:List Nat):List Nat:=gs.foldl (fun acc g=>acc++[g].filter fun g=>!g4 m acc g) []
theorem jK (m:Nat) (gs:List Nat) (g:Nat):pK m (gs++[g])=pK m gs++[g].filter fun g'=>!g4 m (pK m gs) g':=by
 unfold pK;rw[qHq];rfl
theorem pL (g:Nat) (b:Nat->Bool):[g].filter b=if b g=true then [g] else []:=by
 rw[qDf];rfl
theorem jV (m:Nat) (gs:List Nat):Cm.iI m (fS (pK m gs)):=by
 induction gs using Cm.snocInd with
 | nil=>intro r hr;cases hr
 | append_singleton gs g ih =>
  rw[jK,pL];cases ht:g4 m (pK m gs) g with
  | true=>simpa using ih
  | false =>
   have e:fS (pK m gs++if (!false)=true then [g] else [])=fS (pK m gs)++[bt g]:=by unfold fS;rw[qAr];rfl
   rw[e];exact ih.snoc (Cm.qX fun z=>by rw[gD.mpr z] at ht;cases ht)
theorem FD {m:Nat}{gs:List Nat}:∀g,g∈pK m gs->g∈gs:=by
 induction gs using Cm.snocInd with
 | nil=>intro g hg;cases hg
 | append_singleton gs g ih =>
  intro g' hg';rw[jK] at hg';rcases List.mem_append.mp hg' with z | z
  ·exact qCc _ (ih _ z)
  ·exact qAx _ (List.mem_filter.mp z).1
theorem DL {m:Nat}{gs:List Nat}:∀g,g∈gs->Cm.Told m (fS (pK m gs)) (bt g):=by
 induction gs using Cm.snocInd with
 | nil=>intro g hg;cases hg
 | append_singleton gs g ih =>
  intro g' hg';have hind:=jV m (gs++[g]);rw[jK,pL] at hind|-;cases ht:g4 m (pK m gs) g with
  | true =>
   rw[ht] at hind;simp only[qOw,qFu,if_false,qDm] at hind|-;rcases List.mem_append.mp hg' with z | z
   ·exact ih _ z
   ·rw[List.mem_singleton.mp z];exact gD.mp ht
  | false =>
   rw[ht] at hind;have e:fS (pK m gs++if (!false)=true then [g] else [])=fS (pK m gs)++[bt g]:=by unfold fS;rw[qAr];rfl
   rw[e] at hind|-;rcases List.mem_append.mp hg' with z | z
   ·exact(ih _ z).snoc
   ·rw[List.mem_singleton.mp z];exact Cm.Told.self hind (qAx _ (List.mem_singleton.mpr rfl))
def GV:Sp:=fun vs H Q _=>∃(p:Addr) (m:Nat) (gs:List Nat),vs=[.ref p,.int (m:Int)]/\H p=some (.lst (aZ gs))/\0<m/\m<=6/\gs.length<=64/\(∀g,g∈gs->g<64) /\
 ∀D H',H D=none->aH H H'->H' D=some (.lst (aZ (pK m gs)))->Q (.ref D) H'
theorem zZ:aT ["groups","many","found","group"] ["groups","many"] (aI Jq):=by constructor<;>first|rfl|decide +kernel
theorem DM (a b:List Nat):aZ (a++b)=aZ a++aZ b:=by unfold aZ;rw[qAr]
theorem bF (a:List Nat):(aZ a).length=a.length:=by unfold aZ;rw[qAb]
theorem KI {f1:Addr}{fd1:qBo} (t:Tx K mg "sifted" Jq ["groups","many"] f fd) (T:T K mg AL LN FR iF fCh fGM fCC fCA fPL SE NN NG NT NR) (D_untold:Df P w K mg base b0 2 "untold" ["groups","kept","many"] DK f1 fd1) :
  Df P w K mg base b0 3 "sifted" ["groups","many"] GV f fd:=by
 refine t.gY zZ (fun vs H Q E h=>?_) (fun cdv _A outer s H vs Q E hr h=>?_)
 ·obtain⟨p,m,gs,rfl,_⟩:=h;rfl
 ·obtain⟨p,m,gs,rfl,hp,m0,m6,gl,g64,k⟩:=h;refine⟨_,(aD (aU (i:=2) zZ.nd rfl bT (bH aB))
   (aD (cO PassesOwn.never rfl (bN (pv 0)) (aL (i:=3) zZ.nd rfl bT)
    (aG (rQ (i:=2) zZ.nd rfl bT (aX D_untold hr (by decide) (by rfl) (aA (bH (aA (pv 3) aB)) (aA (pv 2) (aA (pv 1) aB)))) nT)))
   (aG (aQ (pv 2))))),?_⟩
  refine⟨by simp[qCa],fun lf hlf=>?_⟩;dsimp only[aY];have u0:aH H (upd H lf (.lst [])):=.aF hlf;refine⟨_,rfl,p,rfl,⟨_,aR.of (u0 _ _ hp)⟩,?_⟩;refine dN (xs:=aZ gs) (fun j σ' H'=>aH H H'/\∃(o3:Option V),H' lf=some (.lst (aZ (pK m (gs.take j))))/\σ'=[some (.ref p),some (.int (m:Int)),some (.ref lf),o3]) ⟨u0,_,aC,rfl⟩ ?_ ?_ ?_
  ·rintro j σ' H' _ ⟨s2,_⟩;exact aR.of (s2 _ _ hp)
  ·rintro j x σ' H2 hx ⟨s2,o3,hf,rfl⟩;obtain⟨g,hg,rfl⟩:=eM hx;have et:gs.take (j+1)=gs.take j++[g]:=by rw[qEs,hg];rfl
   have hm64:∀k',k'∈pK m (gs.take j)->k'<64:=fun k' hk'=>g64 k' (qMd (FD k' hk'));have hkl:=(jV m (gs.take j)).len;unfold fS at hkl;rw[qAb] at hkl;dsimp only[aY];refine⟨_,rfl,_,rfl,by simp[qCa],fun l1 h1=>?_⟩;have s3:aH H2 (upd H2 l1 (.lst [V.int (g:Int)])):=.aF h1;have hl1:upd H2 l1 (.lst [V.int (g:Int)]) l1=some (.lst (aZ [g])):=aC;generalize upd H2 l1 (.lst [V.int (g:Int)])=H3 at s3 hl1|-;refine⟨_,rfl,_,rfl,l1,lf,m,[g],pK m (gs.take j),rfl,hl1,s3 _ _ hf,m0,m6,by simp,fun g' hg'=>?_,hm64,jV m _,fun D H4 hD s4 hd=>?_⟩
   ·rw[List.mem_singleton.mp hg'];exact g64 g (qAy hg)
   have hf4:=s4 _ _ (s3 _ _ hf);have hfl:([g].filter fun g'=>!g4 m (pK m (gs.take j)) g').length<=1:=qEq _ _;refine⟨lf,D,_,_,rfl,rfl,hf4,hd,by rw[bF,bF,qCa];lia,?_⟩;refine⟨(s2.trans (s3.trans s4)).upd_ne' hlf,_,?_,rfl⟩;rw[aC,et,jK,DM]
  ·rintro σ' H2 ⟨s2,o3,hf,rfl⟩;rw[bF,qEd] at hf;exact⟨_,rfl,k lf H2 hlf s2 hf⟩
def gN (gs:List Nat) (j:Nat):Nat:=gs.getD j 0
theorem fH {gs:List Nat}{j g:Nat} (h:gs[j]?=some g):gN gs j=g:=by unfold gN;rw[qAk,h];rfl
def lQ (gs:List Nat) (i:Nat):Int:=Wg.sm gs.length fun j=>bt (gN gs j) i
def wA (gs:List Nat) (j i:Nat):Int:=match j with
 | 0=>lQ gs i
 | j+1=>bt (gN gs j) i
def Pg (m:Nat) (gs:List Nat):Prop:=∀y:Nat->Int,(∀g,g∈gs->0<=Wg.sm m fun i=>bt g i*y i)->Wg.sm m y<=0->Wg.sm m y=0/\∀g,g∈gs->(Wg.sm m fun i=>bt g i*y i)=0
def xZ (gs:List Nat) (X:Nat->Int) (k:Nat):List (Int×Int):=(qAn k).map fun(j:Nat)=>((gN gs j:Int),X 0+X (j+1))
theorem z6 {n:Nat} (F:Nat->Int):((qAn n).map F).sum=Wg.sm n F:=by
 induction n with
 | zero=>rfl
 | succ n ih=>rw[qBk,qAr,qFa,ih];show _+(F n+0)=_+F n;lia
theorem DN (gs:List Nat) (i:Nat):0<=lQ gs i/\lQ gs i<=gs.length:=by
 unfold lQ;have h:∀n,0<=(Wg.sm n fun j=>bt (gN gs j) i)/\(Wg.sm n fun j=>bt (gN gs j) i)<=n:=by
  intro n;induction n with
  | zero=>exact⟨qDq _,qDq _⟩
  | succ n ih =>
   have e:(Wg.sm (n+1) fun j=>bt (gN gs j) i)=(Wg.sm n fun j=>bt (gN gs j) i)+bt (gN gs n) i:=rfl;rw[e];rcases vP (gN gs n) i with z | z <;> rw[z] <;> lia
 exact h _
theorem DO {gs:List Nat} (gl:gs.length<=64) (j i:Nat):(wA gs j i).natAbs<=64:=by
 cases j with
 | zero =>
  have:=DN gs i;show(lQ gs i).natAbs<=64;lia
 | succ j=>exact qCu (pF _ _) (by decide)
theorem FE {m:Nat}{gs:List Nat} (m0:0<m) (m6:m<=6) (gl:gs.length<=64):Inst m (gs.length+1) (wA gs) (fun _=>1):=⟨m0,by lia,by lia,fun j i=>qBp (DO gl j i) (by decide),fun _=>Sm.of 2 (by decide) (by decide)⟩
theorem KJ (n:Nat):([V.int 1]++bG n fun _=>0)=bG (n+1) fun j=>if j=0 then 1 else 0:=by
 have h:=lJ 1 n (fun _=>1) (fun _=>0);have e:bG 1 (fun _=>1)=[V.int 1]:=rfl;rw[e] at h;rw[h,qJs];refine dI fun j _=>?_;by_cases z:j=0
 ·rw[if_pos z,if_pos (by lia)]
 ·rw[if_neg z,if_neg (by lia)]
theorem Nm:∀m:_root_.Fin 8,Wg.pV m.1*64^m.1<2^3000:=by decide +kernel
theorem x8 {m:Nat}{A:Nat->Nat->Int}{due:Nat->Int}{d:Int} (m7:m<=7) (dm:pB m A due d) (hA:∀j i,(A j i).natAbs<=64) (hd:∀i,(due i).natAbs<=64):Sm 3000 d :=
 qBp (dm 64 (by decide) hA hd) (Nm ⟨m,by lia⟩)
theorem FF {m:Nat} (gs:List Nat) (Y:Nat->Int):(Wg.sm m fun i=>lQ gs i*Y i)=Wg.sm gs.length fun j=>Wg.sm m fun i=>bt (gN gs j) i*Y i:=by
 rw[Wg.lE];refine Wg.bB fun i _=>?_;unfold lQ;rw[qCp,<- Wg.bO];exact Wg.bB fun j _=>qCp _ _
theorem Nn (gs:List Nat) (j i:Nat):0<=wA gs j i:=by
 cases j with
 | zero=>exact(DN gs i).1
 | succ j=>show 0<=bt _ _;rcases vP (gN gs j) i with e | e <;> rw[e] <;> decide
theorem GW {f:Nat->Int}:∀{n k:Nat},(∀j,j<n->0<=f j)->k<n->f k<=Wg.sm n f
 | 0,k,_,h=>absurd h (qFy _)
 | n+1,k,h,hk=>by
  show f k<=Wg.sm n f+f n;rcases qAl k n with z | z
  ·have:=GW (n:=n) (k:=k) (fun j hj=>h j (by lia)) z;have:=h n (by lia);lia
  ·have e:k=n:=by lia
   subst e;have:=oT (n:=k) (f:=f) fun j hj=>h j (by lia);lia
theorem vR (f:Nat->Int):∀n,Wg.sm (n+1) f=f 0+Wg.sm n fun j=>f (j+1)
 | 0=>by show 0+f 0=f 0+0;lia
 | n+1=>by
  show Wg.sm (n+1) f+f (n+1)=f 0+(Wg.sm n (fun j=>f (j+1))+f (n+1));rw[vR f n];lia
theorem vS (gs:List Nat) (X:Nat->Int) (k:Nat):xZ gs X (k+1)=xZ gs X k++[((gN gs k:Int),X 0+X (k+1))]:=by
 unfold xZ;rw[qBk,qAr];rfl
def GX:Sp:=fun vs H Q _=>∃(p:Addr) (m:Nat) (gs:List Nat),vs=[.ref p,.int (m:Int)]/\H p=some (.lst (aZ gs))/\0<m/\m<=6/\gs.length<=64/\0<gs.length/\(∀g,g∈gs->1<=g/\g<2^m)/\Pg m gs /\
 ∀D H' ys (d:Int) (X:Nat->Int),H D=none->aH H H'->H' D=some (.lst ys)->dQ H' d ys (xZ gs X gs.length)->0<d->Sm 6000 d->(∀j,Sm 300000 (X j))->0<X 0->(∀j,0<=X j)->(∀i,i<m->(Wg.sm gs.length fun j=>bt (gN gs j) i*(X 0+X (j+1)))=d)->Q (.ref D) H'
theorem vT:aT ["groups","many","marks","together","told","least"] ["groups","many"] (aI Jt):=by constructor<;>first|rfl|decide +kernel
theorem KL {f1 f2 f3:Addr}{fd1 fd2 fd3:qBo} (t:Tx K mg "weighing_of" Jt ["groups","many"] f fd) (T:T K mg AL LN FR iF fCh fGM fCC fCA fPL SE NN NG NT NR) (D_marks_of:Df P w K mg base b0 1 "marks_of" ["group","many"] vQ f1 fd1) (D_weigh:Df P w K mg base (j0 P w) 5 "weigh" ["columns","due","gains"] (vK K NR) f2 fd2) (D_plus:Df P w K mg base b0 3 "plus" ["one","other"] GQ f3 fd3) :
  Df P w K mg base b0 6 "weighing_of" ["groups","many"] GX f fd:=by
 refine t.gY vT (fun vs H Q E h=>?_) (fun cdv _A outer s H vs Q E hr h=>?_)
 ·obtain⟨p,m,gs,rfl,_⟩:=h;rfl
 ·obtain⟨p,m,gs,rfl,hp,m0,m6,gl,gp,g64,bal,k⟩:=h;refine⟨_,(aD (aU (i:=2) vT.nd rfl (by first|exact .inl rfl|exact .inr rfl) (bQ (NB:=["group","many"]) (pick:=[none,some 1]) (bJ (by with_unfolding_all rfl) (by exact(And.intro rfl trivial)) rfl (by decide +kernel) (by decide +kernel) (by rfl) (by rfl)) rfl
     (bN (pv 0)) (fun _ _ _=>aL (i:=0) (show(["group","many"]:List Str).Nodup from by decide +kernel) rfl bT)
     (fun _ _ _=>bK) (fun _ _ _=>(aX D_marks_of hr (by decide) (by rfl) (aA (pv 0) (aA (pv 1) aB))))))
   (aD (Cs (y0:="hand") (NB:=["hand","marks"]) (pick:=[none,some 2]) (i:=3) vT.nd rfl bT (by rfl) (ES (by with_unfolding_all rfl) (by exact(And.intro rfl trivial)) rfl (fun _=>rfl) (fun _=>rfl) (by decide +kernel) (fun _=>rfl) (by rfl) (by rfl)) rfl
     (cB (by rfl) T.cD (aA (pv 1) aB)) (fun _ _ _=>aL (i:=0) (show(["hand","marks"]:List Str).Nodup from by decide +kernel) rfl (Or.inr rfl))
     (fun _ _ _=>bK) (fun _ _ _=>(aJ (AH K rfl) (by rfl) T.iV jC (aA (bQ (NB:=["mark","hand"]) (pick:=[none,some 0]) (bJ (by with_unfolding_all rfl) (by exact(And.intro rfl trivial)) rfl (by decide +kernel) (by decide +kernel) (by rfl) (by rfl)) rfl
     (Ck K (pv 1)) (fun _ _ _=>aL (i:=0) (show(["mark","hand"]:List Str).Nodup from by decide +kernel) rfl bT)
     (fun _ _ _=>bK) (fun _ _ _=>(aP (bV K) (pv 0) (pv 1) (fun _ _=>rfl)))) aB))))
   (aD (aU (i:=4) vT.nd rfl (by first|exact .inl rfl|exact .inr rfl) (fW cK D_weigh hr (by decide) (by rfl) (aA (aS fA (bH (aA (pv 3) aB)) (pv 2)) (aA (aS hU (bH (aA aE aB)) (pv 1)) (aA (aS fA (bH (aA aE aB)) (aS hU (bH (aA aE aB)) (aJ aN (by rfl) T.bW bM (aA (pv 0) aB)))) aB)))))
   (aD (aU (i:=5) vT.nd rfl (by first|exact .inl rfl|exact .inr rfl) (aP bC (aP a9 (pv 4) aE (fun _ _=>rfl)) aE (fun _ _=>rfl)))
   (aG (aQ (bQ (NB:=["group","more","least"]) (pick:=[none,none,some 5]) (bJ (by with_unfolding_all rfl) (by exact(And.intro rfl trivial)) rfl (by decide +kernel) (by decide +kernel) (by rfl) (by rfl)) rfl
     (gI (by rfl) T.gO (aA (pv 0) (aA (jA rX (aP a9 (pv 4) aE (fun _ _=>rfl)) (jO aE) nN) aB))) (fun _ _ _=>(show PG _ _ (rP K 2 (fO (aY 0) (fO (aY 1) rO))) from eW rfl (bI (aL (i:=0) (show(["group","more","least"]:List Str).Nodup from by decide +kernel) rfl bT) (bI (aL (i:=1) (show(["group","more","least"]:List Str).Nodup from by decide +kernel) rfl bT) dG))))
     (fun _ _ _=>bK) (fun _ _ _=>(cE (aA (pv 0) (aA (aX D_plus hr (by decide) (by rfl) (aA (pv 2) (aA (pv 1) aB))) aB))))))))))),?_⟩
  have h64:∀g,g∈gs->g<64:=fun g hg=>qBd (g64 g hg).2 (qCu (qBr (by decide) m6) (by decide));refine⟨_,rfl,p,rfl,⟨_,aR.of hp⟩,?_⟩;refine mH (xs:=aZ gs) (fun j=>bG m (bt (gN gs j))) (aR.of hp) (by rw[bF];exact qAq (aO (by lia))) (fun j y H4 kk kk0 s4 hy g1=>?_) fun lm cs H1 hlm s1 hcs ncs hD=>?_
  ·obtain⟨g,hg,rfl⟩:=eM hy;refine⟨_,rfl,_,rfl,g,m,rfl,h64 g (qAy hg),m6,fun D H5 hD5 s5 h5=>g1 D H5 s5 hD5 ?_⟩;rw[fH hg];exact h5
  rw[bF] at hcs;have hcA:∀j c,cs[j]?=some c->H1 c=some (.lst (bG m (bt (gN gs j)))):=fun j c e=>(ncs.at_ j c e).2.2;dsimp only[aY];refine⟨_,rfl,m,rfl,by lia,by lia,?_⟩;refine fC (n:=m) (fun i=>some (.int (lQ gs i))) (qAq (aO (by lia))) (fun i H2 kk kk0 s2 hi g1 g2=>?_) fun lt H2 hlt s2 hd2=>?_
  ·refine⟨_,rfl,lm,rfl,⟨_,aR.of (s2 _ _ hD)⟩,?_⟩;refine cP (xs:=cs.map V.ref) (fun j _=>some (.int (bt (gN gs j) i))) (aR.of (s2 _ _ hD)) (by rw[qAb,hcs];exact qAq (aO (by lia))) (fun j x H3 kk' kk0' s3 hx g1' g2'=>?_) fun li H3 hli s3 hd3=>?_
   ·obtain⟨c,hc,rfl⟩:=c9 hx;have hat:fK (bG m (bt (gN gs j))) ((0:Int)+(i:Int))=some (.int (bt (gN gs j) i)):=by rw[qCk];exact bS hi
    refine⟨_,rfl,_,rfl,c,_,_,_,rfl,rfl,aR.of (s3 _ _ (s2 _ _ (hcA j c hc))),hat,?_⟩;exact g1' _ rfl _ (.refl _)
   ·rw[qAb,hcs,lK _ (by rw[qAb,hcs])] at hd3;refine⟨li,(qAn gs.length).map fun j=>bt (gN gs j) i,rfl,.inl (aR.of (by rw[hd3,qCz];rfl)),?_⟩;exact g1 _ (by rw[z6];rfl) _ s3
  rw[qDl] at hd2;have hd2:H2 lt=some (.lst (bG m (lQ gs))):=hd2;have hp2:=s2 _ _ (s1 _ _ hp);have hD2:=s2 _ _ hD;refine⟨_,rfl,jX,fun l3 hl3=>?_⟩;have u3:=aH.aF (o:=.lst [.ref lt]) hl3;have e3:upd H2 l3 (.lst [.ref lt]) l3=_:=aC;generalize upd H2 l3 (.lst [.ref lt])=H3 at u3 e3|-;refine⟨_,rfl,l3,lm,_,_,rfl,rfl,aR.of e3,aR.of (u3 _ _ hD2),by rw[qAb,hcs,qCa];simp;lia,fun pc hpc=>?_⟩;have u4:=aH.aF (o:=.lst ([V.ref lt]++cs.map V.ref)) hpc;have e4:upd H3 pc (.lst ([V.ref lt]++cs.map V.ref)) pc=some (.lst ((lt::cs).map V.ref)):=aC;generalize upd H3 pc (.lst ([V.ref lt]++cs.map V.ref))=H4 at u4 e4|-;refine⟨jX,fun a1 ha1=>?_⟩;have u5:=aH.aF (o:=.lst [.int 1]) ha1;have e5:upd H4 a1 (.lst [.int 1]) a1=_:=aC;generalize upd H4 a1 (.lst [.int 1])=H5 at u5 e5|-;refine⟨_,rfl,a1,_,_,rfl,rfl,e5,by lia,by lia,?_,fun pd hpd=>?_⟩
  ·show 1*((m:Nat):Int).toNat<=qAh;exact qAq (aO (by lia))
  rw[qBb,gR];have u6:=aH.aF (o:=.lst (bG m fun _=>1)) hpd;have e6:upd H5 pd (.lst (bG m fun _=>1)) pd=_:=aC;generalize upd H5 pd (.lst (bG m fun _=>1))=H6 at u6 e6|-;refine⟨jX,fun b1 hb1=>?_⟩;have u7:=aH.aF (o:=.lst [.int 1]) hb1;have e7:upd H6 b1 (.lst [.int 1]) b1=_:=aC;generalize upd H6 b1 (.lst [.int 1])=H7 at u7 e7|-;refine⟨jX,fun b2 hb2=>?_⟩;have u8:=aH.aF (o:=.lst [.int 0]) hb2;have e8:upd H7 b2 (.lst [.int 0]) b2=_:=aC;generalize upd H7 b2 (.lst [.int 0])=H8 at u8 e8|-;have s28:=u3.trans (u4.trans (u5.trans (u6.trans (u7.trans u8))));refine⟨_,rfl,p,_,rfl,.inl (aR.of (s28 _ _ hp2)),b2,_,_,rfl,rfl,e8,by lia,by rw[bF];lia,?_,fun b3 hb3=>?_⟩
  ·rw[bF];show 1*((gs.length:Nat):Int).toNat<=qAh;exact qAq (aO (by lia))
  rw[bF,qBb,gR];have u9:=aH.aF (o:=.lst (bG gs.length fun _=>0)) hb3;have e9:upd H8 b3 (.lst (bG gs.length fun _=>0)) b3=_:=aC;generalize upd H8 b3 (.lst (bG gs.length fun _=>0))=H9 at u9 e9|-;refine⟨b1,b3,_,_,rfl,rfl,aR.of (u9 _ _ (u8 _ _ e7)),aR.of e9,by rw[aK,qCa];simp;lia,fun pg hpg=>?_⟩;have u10:=aH.aF (o:=.lst ([V.int 1]++bG gs.length fun _=>0)) hpg;have e10:upd H9 pg (.lst ([V.int 1]++bG gs.length fun _=>0)) pg=some (.lst (bG (gs.length+1) fun j=>if j=0 then 1 else 0)):=by
   rw[aC,KJ]
  generalize upd H9 pg (.lst ([V.int 1]++bG gs.length fun _=>0))=H10 at u10 e10|-;have u410:=u5.trans (u6.trans (u7.trans (u8.trans (u9.trans u10))));have s210:=u3.trans (u4.trans u410);dsimp only[iC,qCl,qCm];refine xW (m:=m) (n:=gs.length+1) (A:=wA gs) (due:=fun _=>1) (g:=fun j=>if j=0 then 1 else 0) (FE m0 m6 gl) (cs:=lt::cs) ⟨u410 _ _ e4,by rw[qCh,hcs],fun j c e=>?_,u10 _ _ (u9 _ _ (u8 _ _ (u7 _ _ e6)))⟩ e10 (fun j=>by split <;> exact Sm.of 2 (by decide) (by decide)) fun r H11 s11 told=>?_
  ·cases j with
   | zero =>
    obtain rfl:=Option.some.inj e;exact s210 _ _ hd2
   | succ j=>exact s210 _ _ (s2 _ _ (hcA j c e))
  have sm1:∀Y:Nat->Int,(Wg.sm m fun i=>1*Y i)=Wg.sm m Y:=fun Y=>Wg.bB fun i _=>qCx _;have gm:∀Z:Nat->Int,(Wg.sm (gs.length+1) fun j=>(if j=0 then 1 else 0)*Z j)=Z 0:=fun Z=>by
   rw[Wg.fU (k:=0) (by lia) fun i _ z=>by rw[if_neg z,qBi]];rw[if_pos rfl,qCx]
  rcases told with ⟨lw,lp,ws,ps,d,X,Y,to⟩ | ⟨lp,ps,d,Y,to⟩ | ⟨lw,lp,ws,ps,d,X,Z,to⟩
  ·have d0:=to.d0;have same:=to.same;rw[sm1,gm] at same;have yg:∀g,g∈gs->0<=Wg.sm m fun i=>bt g i*Y i:=fun g hg=>by
    obtain⟨j,hj,e⟩:=qCq hg;have z:=to.cols (j+1) (by lia);rw[if_neg (by lia),qBi] at z;have e':gN gs j=g:=fH (by rw[qAd hj,e]);have ew:∀i,wA gs (j+1) i=bt g i:=fun i=>by show bt (gN gs j) i=_;rw[e']
    rw[Wg.bB fun i _=>by rw[ew i]] at z;exact z
   have x0:0<X 0:=by
    rcases qNo (to.x0 0) with z | z
    ·exact z
    ·exfalso;obtain⟨_,b2⟩:=bal Y yg (by rw[same,<- z];exact qDq _);have c0:=to.cols 0 (by lia);rw[if_pos rfl,qCx] at c0;have c1:(Wg.sm m fun i=>wA gs 0 i*Y i)=0:=by
      show(Wg.sm m fun i=>lQ gs i*Y i)=0;rw[FF];refine Wg.cH fun j hj=>b2 _ ?_;unfold gN;rw[qAk,qAd hj];exact qDu hj
     lia
   have sd:=x8 (by lia) to.dm (DO gl) (fun _=>by decide);have a1:fK [V.str "best",V.ref lw,V.ref lp] 1=some (.ref lw):=rfl;have wl:ws.length=gs.length+1:=to.fw.len;have ew0:ws[0]?=some ws[0]:=qAd (by lia);have a0:fK (ws.map V.ref) 0=some (.ref ws[0]):=eY (j:=0) (by rw[qAo,ew0];rfl);dsimp only[aY];refine⟨_,rfl,r,_,_,_,rfl,rfl,cA.of to.tup,a1,lw,_,_,_,rfl,rfl,aR.of to.fw.hr,a0,?_⟩;dsimp only[aY];have hp11:=s11 _ _ (s210 _ _ hp2);refine⟨_,rfl,_,rfl,r,_,_,_,rfl,rfl,cA.of to.tup,a1,_,rfl,lw,_,rfl,aR.of to.fw.hr,fun lz hlz=>?_⟩;have u12:=aH.aF (o:=.lst (fY (ws.map V.ref) (some 1) none)) hlz;have e12:upd H11 lz (.lst (fY (ws.map V.ref) (some 1) none)) lz=some (.lst ((ws.drop 1).map V.ref)):=by
    rw[aC,show(1:Int)=((1:Nat):Int) from rfl,JN,List.map_drop]
   generalize upd H11 lz (.lst (fY (ws.map V.ref) (some 1) none))=H12 at u12 e12|-;refine⟨p,lz,rfl,⟨_,aR.of (u12 _ _ hp11)⟩,⟨_,aR.of e12⟩,?_⟩;refine qM (xs:=aZ gs) (xs':=(ws.drop 1).map V.ref) (fun σ'=>∃o0 o1:Option V,σ'=[o0,o1,some (.ref ws[0])]) (fun i ys H'=>dQ H' d ys (xZ gs X i)) (fun i ys H1 H2 st h=>h.t st) ⟨_,_,rfl⟩ trivial (aR.of (u12 _ _ hp11)) (aR.of e12) (by rw[bF,qAb,qGm];lia) (by rw[bF];exact qAq (aO (by lia))) (fun i x y tt σ1 H13 kk kk0 ys hσ s13 hx hy ht iv g1 g2=>?_) fun D ys H13 hD13 s13 iv hd13=>?_
   ·obtain⟨o0,o1,rfl⟩:=hσ;obtain⟨g,hg,rfl⟩:=eM hx;obtain⟨w',hw',rfl⟩:=c9 hy;have hw1:ws[i+1]?=some w':=by rw[qNa] at hw';rw[qJs];exact hw'
    have hf0:=s13 _ _ (u12 _ _ (to.fw.at_ 0 _ ew0));have hf1:=s13 _ _ (u12 _ _ (to.fw.at_ (i+1) w' hw1));refine⟨tt,_,rfl,cA.of ht,rfl,_,_,rfl,_,_,rfl,rfl,?_⟩;refine⟨_,rfl,_,rfl,_,rfl,ws[0],w',X 0,X (i+1),d,rfl,hf0,hf1,d0,sd,(to.sX 0).mono (by decide),(to.sX _).mono (by decide),fun rr H14 s14 h14=>?_⟩;refine⟨iY,fun z2 hz2=>?_⟩;have u15:=aH.aF (o:=.tup [.int (g:Int),.ref rr]) hz2;refine g1 _ _ _ ⟨_,_,rfl⟩ (s14.trans u15) ?_;rw[vS,fH hg];exact dQ.app (p:=((g:Int),X 0+X (i+1))) aC (u15 _ _ h14) (iv.t (s14.trans u15).t)
   ·rw[bF] at iv;have sA:=s1.trans (s2.trans (s210.trans (s11.trans u12)));refine k D H13 ys d X (sA.free hD13) (sA.trans s13) hd13 iv d0 to.ds to.sX x0 to.x0 fun i hi=>?_;have mt:=to.meets i hi;rw[qCx,vR] at mt;have e1:(Wg.sm gs.length fun j=>bt (gN gs j) i*(X 0+X (j+1)))=lQ gs i*X 0+Wg.sm gs.length fun j=>bt (gN gs j) i*X (j+1):=by
     rw[show(fun j=>bt (gN gs j) i*(X 0+X (j+1)))=fun j=>X 0*bt (gN gs j) i+bt (gN gs j) i*X (j+1) from funext fun j=>by grind,Wg.fL,Wg.bO];unfold lQ;rw[qCp]
    rw[e1];exact mt
  ·exfalso;have ng:=to.neg;rw[sm1] at ng;have yg:∀g,g∈gs->0<=Wg.sm m fun i=>bt g i*Y i:=fun g hg=>by
    obtain⟨j,hj,e⟩:=qCq hg;have z:=to.cols (j+1) (by lia);have e':gN gs j=g:=fH (by rw[qAd hj,e]);have ew:∀i,wA gs (j+1) i=bt g i:=fun i=>by show bt (gN gs j) i=_;rw[e']
    rw[Wg.bB fun i _=>by rw[ew i]] at z;exact z
   have:=(bal Y yg (by lia)).1;lia
  ·exfalso;have mo:=to.more;rw[gm] at mo;have hg0:gs[0]?=some gs[0]:=qAd gp;obtain⟨q1,q2⟩:=g64 _ (qDu gp);obtain⟨i,hi,hb⟩:=Bp ⟨m,by lia⟩ ⟨gs[0],h64 _ (qDu gp)⟩ q1 q2;have zz:=xX (fun j _=>qEj (Nn gs j i.1) (to.z0 j)) (to.away i.1 hi) 0 (by lia);have t1:1<=lQ gs i.1:=by
    have z1:=GW (f:=fun j=>bt (gN gs j) i.1) (n:=gs.length) (fun j _=>by rcases vP (gN gs j) i.1 with e | e <;> rw[e] <;> decide) gp
    have e':gN gs 0=gs[0]:=fH hg0;dsimp only at z1 hb;rw[e',hb] at z1;exact z1
   rcases Int.mul_eq_zero.mp zz with z | z
   ·have z:lQ gs i.1=0:=z;lia
   ·lia
def kA (gs:List Nat) (c i:Nat):Int:=if c%2=0 then bt (gN gs (c/2)) i else -bt (gN gs (c/2)) i
theorem x9 (gs:List Nat) (c i:Nat):(kA gs c i).natAbs<=1:=by
 unfold kA;split
 ·exact pF _ _
 ·rw[qLc];exact pF _ _
theorem FG {m:Nat}{gs:List Nat}{h:Nat} (m0:0<m) (m6:m<=6) (gl:gs.length<=6):Inst m (2*gs.length) (kA gs) (bt (2^h)):=⟨m0,by lia,by lia,fun j i=>qBp (x9 gs j i) (by decide),fun i=>(rF _ i).mono (by decide)⟩
structure vU (m k:Nat) (A:Nat->Nat->Int) (H:Hp) (q:Addr) (cs:List Addr):Prop where
 hq:H q=some (.lst (cs.map V.ref))
 len:cs.length=k
 at_:∀(c:Nat) (a:Addr),cs[c]?=some a->H a=some (.lst (bG m (A c)))
theorem vU.add {m k:Nat}{A:Nat->Nat->Int}{H:Hp}{q a b:Addr}{cs:List Addr} (m0:0<m) (h:vU m k A H q cs) (ha:H a=some (.lst (bG m (A k)))) (hb:H b=some (.lst (bG m (A (k+1))))) :
  vU m (k+2) A (upd H q (.lst (cs.map V.ref++[V.ref a,V.ref b]))) q (cs++[a,b]):=by
 have hne:∀(x:Addr) (r:Nat->Int),H x=some (.lst (bG m r))->x≠q:=fun x r e z=>by
  rw[z,h.hq] at e;exact pI m0 (HO.lst.inj (Option.some.inj e)).symm
 refine⟨by rw[aC,qAr];rfl,by rw[qAm,h.len];rfl,fun c x e=>?_⟩;rcases qAl c cs.length with z | z
 ·rw[qAz z] at e;have w:=h.at_ c x e;rw[aM (hne _ _ w)];exact w
 ·rw[qAv z,h.len] at e;rw[h.len] at z;rcases qAl k c with z' | z'
  ·have hc:c-k=1:=by
    have:=(List.getElem?_eq_some_iff.mp e).1;simp only[qCh,qKo] at this;lia
   rw[hc] at e;obtain rfl:b=x:=Option.some.inj e;rw[aM (hne _ _ hb),show c=k+1 by lia];exact hb
  ·rw[show c-k=0 by lia] at e;obtain rfl:a=x:=Option.some.inj e;rw[aM (hne _ _ ha),show c=k by lia];exact ha
theorem vU.same {m k:Nat}{A:Nat->Nat->Int}{H H':Hp}{q:Addr}{cs:List Addr} (h:vU m k A H q cs) (s:aH H H'):vU m k A H' q cs:=⟨s _ _ h.hq,h.len,fun c a e=>s _ _ (h.at_ c a e)⟩
def iX (gs:List Nat) (F:Nat->Int) (k:Nat):List (Int×Int):=((qAn k).filter fun j=>decide (F j≠0)).map fun(j:Nat)=>((gN gs j:Int),F j)
theorem jW (gs:List Nat) (F:Nat->Int) (k:Nat):iX gs F (k+1)=if F k≠0 then iX gs F k++[((gN gs k:Int),F k)] else iX gs F k:=by
 unfold iX;rw[qBk,qHg,qAr,qDf,qGu];by_cases h:F k≠0
 ·rw[if_pos (decide_eq_true h),if_pos h];rfl
 ·rw[if_neg (by rw[decide_eq_false h];exact qAp),if_neg h,qEp,qDm]
theorem nW (gs:List Nat) (j:Nat):kA gs (2*j)=bt (gN gs j):=by
 funext i;unfold kA;rw[if_pos (by lia),show 2*j/2=j by lia]
theorem tP (gs:List Nat) (j:Nat):kA gs (2*j+1)=fun i=>-bt (gN gs j) i:=by
 funext i;unfold kA;rw[if_neg (by lia),show(2*j+1)/2=j by lia]
theorem Br:∀h:_root_.Fin 6,alone h.1=((2^h.1:Nat):Int):=by decide +kernel
theorem vV (f:Nat->Int):∀n,Wg.sm (2*n) f=Wg.sm n fun j=>f (2*j)+f (2*j+1)
 | 0=>rfl
 | n+1=>by
  show Wg.sm (2*n) f+f (2*n)+f (2*n+1)=(Wg.sm n fun j=>f (2*j)+f (2*j+1))+(f (2*n)+f (2*n+1));rw[vV f n];lia
def GY:Sp:=fun vs H Q _=>∃(p:Addr) (h m:Nat) (gs:List Nat),vs=[.int (h:Int),.ref p,.int (m:Int)]/\H p=some (.lst (aZ gs))/\h<m/\m<=6/\gs.length=m/\(∀g,g∈gs->g<64)/\Cm.iI m (fS gs) /\
 ∀D H' ys (d:Int) (F:Nat->Int),H D=none->aH H H'->H' D=some (.lst ys)->dQ H' d ys (iX gs F gs.length)->0<d->Sm 6000 d->(∀j,Sm 310000 (F j))->(∀i,i<m->(Wg.sm gs.length fun j=>bt (gN gs j) i*F j)=bt (2^h) i*d)->Q (.ref D) H'
theorem pM:aT ["hand","groups","many","columns","group","column","weights","factors"] ["hand","groups","many"] (aI Jw):=by constructor<;>first|rfl|decide +kernel
theorem KN {f1 f2 f3 f4:Addr}{fd1 fd2 fd3 fd4:qBo} (t:Tx K mg "key_of" Jw ["hand","groups","many"] f fd) (T:T K mg AL LN FR iF fCh fGM fCC fCA fPL SE NN NG NT NR) (D_marks_of:Df P w K mg base b0 1 "marks_of" ["group","many"] vQ f1 fd1) (D_below_nought:Df P w K mg base b0 1 "below_nought" ["column"] DF f2 fd2) (D_weigh:Df P w K mg base (j0 P w) 5 "weigh" ["columns","due","gains"] (vK K NR) f3 fd3) (D_minus:Df P w K mg base b0 3 "minus" ["one","other"] DE f4 fd4) :
  Df P w K mg base b0 6 "key_of" ["hand","groups","many"] GY f fd:=by
 refine t.gY pM (fun vs H Q E h=>?_) (fun cdv _A outer s H vs Q E hr h=>?_)
 ·obtain⟨p,h,m,gs,rfl,_⟩:=h;rfl
 ·obtain⟨p,h,m,gs,rfl,hp,hm,m6,gl,g64,ind,k⟩:=h;refine⟨_,(aD (aU (i:=3) pM.nd rfl bT (bH aB))
   (aD (cO PassesOwn.never rfl (bN (pv 1)) (aL (i:=4) pM.nd rfl (by first|exact .inl rfl|exact .inr rfl))
    (aD (aU (i:=5) pM.nd rfl bT (aX D_marks_of hr (by decide) (by rfl) (aA (pv 4) (aA (pv 2) aB))))
    (aG (rQ (i:=3) pM.nd rfl bT (bH (aA (pv 5) (aA (aX D_below_nought hr (by decide) (by rfl) (aA (pv 5) aB)) aB))) nT))))
   (aD (aU (i:=6) pM.nd rfl (by first|exact .inl rfl|exact .inr rfl) (aP a9 (fW cK D_weigh hr (by decide) (by rfl) (aA (pv 3) (aA (aX D_marks_of hr (by decide) (by rfl) (aA (aP a9 (fM (v:=.ref AL) (by rfl) T.El rfl) (pv 0) (fun _ _=>rfl)) (aA (pv 2) aB))) (aA (aS hU (bH (aA aE aB)) (aJ aN (by rfl) T.bW bM (aA (pv 3) aB))) aB)))) aE (fun _ _=>rfl)))
   (aD (eD (NB:=["place","weights"]) (pick:=[none,some 6]) (i:=7) pM.nd rfl (by first|exact .inl rfl|exact .inr rfl) (by rfl) (bJ (by with_unfolding_all rfl) (by exact(And.intro rfl trivial)) rfl (by decide +kernel) (by decide +kernel) (by rfl) (by rfl)) rfl
     (cB (by rfl) T.cD (aA (aJ aN (by rfl) T.bW bM (aA (pv 1) aB)) aB)) (fun _ _ _=>aL (i:=0) (show(["place","weights"]:List Str).Nodup from by decide +kernel) rfl bT)
     (fun _ _ _=>bK) (fun _ _ _=>(aX D_minus hr (by decide) (by rfl) (aA (aP (bV K) (pv 1) (aS bL aE (pv 0)) (fun _ _=>rfl)) (aA (aP (bV K) (pv 1) (aS i7 (aS bL aE (pv 0)) aE) (fun _ _=>rfl)) aB)))))
   (aG (aQ (bQ (NB:=["group","factor"]) (pick:=[none,none]) (bJ (by with_unfolding_all rfl) (by exact trivial) rfl (by decide +kernel) (by decide +kernel) (by rfl) (by rfl)) rfl
     (gI (by rfl) T.gO (aA (pv 1) (aA (pv 7) aB))) (fun _ _ _=>(show PG _ _ (rP K 2 (fO (aY 0) (fO (aY 1) rO))) from eW rfl (bI (aL (i:=0) (show(["group","factor"]:List Str).Nodup from by decide +kernel) rfl bT) (bI (aL (i:=1) (show(["group","factor"]:List Str).Nodup from by decide +kernel) rfl bT) dG))))
     (fun _ _ _=>eZ (aV (uM K hr.units) (pv 1) (cE (aA aE (aA aE aB))) (aW _))) (fun _ _ _=>(cE (aA (pv 0) (aA (pv 1) aB))))))))))),?_⟩
  have m0:0<m:=by lia
  refine⟨by simp[qCa],fun lc hlc=>?_⟩;dsimp only[aY];have u0:aH H (upd H lc (.lst [])):=.aF hlc;refine⟨_,rfl,p,rfl,⟨_,aR.of (u0 _ _ hp)⟩,?_⟩;refine dN (xs:=aZ gs) (fun j σ' H'=>aH H H'/\∃(cs:List Addr) (o4 o5 o6 o7:Option V),vU m (2*j) (kA gs) H' lc cs/\σ'=[some (.int (h:Int)),some (.ref p),some (.int (m:Int)),some (.ref lc),o4,o5,o6,o7]) ⟨u0,[],_,_,_,_,⟨aC,rfl,fun c a e=>by cases e⟩,rfl⟩ ?_ ?_ ?_
  ·rintro j σ' H' _ ⟨s2,_⟩;exact aR.of (s2 _ _ hp)
  ·rintro j x σ' H2 hx ⟨s2,cs,o4,o5,o6,o7,kc,rfl⟩;obtain⟨g,hg,rfl⟩:=eM hx;have hj:j<gs.length:=(List.getElem?_eq_some_iff.mp hg).1;dsimp only[aY];refine⟨_,rfl,_,rfl,g,m,rfl,g64 g (qAy hg),m6,fun D H3 hD s3 hd=>?_⟩;dsimp only[aY];refine⟨_,rfl,_,rfl,_,rfl,D,m,bt g,rfl,hd,by lia,fun D2 H4 hD2 s4 hd4=>?_⟩;have eg:gN gs j=g:=fH hg;refine⟨iY,fun l5 h5=>?_⟩;have u5:=aH.aF (o:=.lst [.ref D,.ref D2]) h5;have e5:upd H4 l5 (.lst [.ref D,.ref D2]) l5=_:=aC;generalize upd H4 l5 (.lst [.ref D,.ref D2])=H5 at u5 e5|-;have kc5:=kc.same (s3.trans (s4.trans u5));refine⟨lc,l5,_,_,rfl,rfl,kc5.hq,e5,by rw[qAb,kc5.len,qCa];simp;lia,?_⟩;refine⟨(s2.trans (s3.trans (s4.trans u5))).upd_ne' hlc,cs++[D,D2],_,_,_,_,kc5.add m0 ?_ ?_,rfl⟩
   ·show H5 D=some (.lst (bG m (kA gs (2*j))));rw[nW,eg];exact u5 _ _ (s4 _ _ hd)
   ·show H5 D2=some (.lst (bG m (kA gs (2*j+1))));rw[tP,eg];exact u5 _ _ hd4
  ·rintro σ' H2 ⟨s2,cs,o4,o5,o6,o7,kc,rfl⟩;rw[bF] at kc;have hat:fK (iR.map V.int) (h:Int)=some (.int (alone h)):=by
    have z:=pE (i:=(h:Int)) (by lia) (by lia);simpa using z
   have eal:alone h=((2^h:Nat):Int):=Br ⟨h,by lia⟩;refine⟨_,rfl,_,rfl,AL,_,_,_,rfl,rfl,T.al _,hat,_,rfl,2^h,m,by rw[eal];rfl,Nat.pow_lt_pow_right (n:=6) (by decide) (by lia),m6,fun pd H3 hpd s3 hd3=>?_⟩;refine⟨jX,fun b2 hb2=>?_⟩;have u8:=aH.aF (o:=.lst [.int 0]) hb2;have e8:upd H3 b2 (.lst [.int 0]) b2=_:=aC;generalize upd H3 b2 (.lst [.int 0])=H8 at u8 e8|-;have kc8:=kc.same (s3.trans u8);have cl:(cs.map V.ref).length=2*gs.length:=by rw[qAb,kc.len]
   refine⟨_,rfl,lc,_,rfl,.inl (aR.of kc8.hq),b2,_,_,rfl,rfl,e8,by lia,by rw[cl];lia,?_,fun b3 hb3=>?_⟩
   ·rw[cl];show 1*((2*gs.length:Nat):Int).toNat<=qAh;exact qAq (aO (by lia))
   rw[cl,qBb,gR];have u9:=aH.aF (o:=.lst (bG (2*gs.length) fun _=>0)) hb3;have e9:upd H8 b3 (.lst (bG (2*gs.length) fun _=>0)) b3=_:=aC;generalize upd H8 b3 (.lst (bG (2*gs.length) fun _=>0))=H9 at u9 e9|-;have kc9:=kc8.same u9;dsimp only[iC,qCl,qCm];refine xW (m:=m) (n:=2*gs.length) (A:=kA gs) (due:=bt (2^h)) (g:=fun _=>0) (FG m0 m6 (by lia)) (cs:=cs) ⟨kc9.hq,kc9.len,kc9.at_,u9 _ _ (u8 _ _ hd3)⟩ e9 (fun j=>Sm.of 2 (by decide) (by decide)) fun r H11 s11 told=>?_;have s211:=s3.trans (u8.trans (u9.trans s11));rcases told with ⟨lw,lp,ws,ps,d,X,Y,to⟩ | ⟨lp,ps,d,Y,to⟩ | ⟨lw,lp,ws,ps,d,X,Z,to⟩
   ·have a1:fK [V.str "best",V.ref lw,V.ref lp] 1=some (.ref lw):=rfl;have d0:=to.d0;have sd:=DB m6 to.dm (fun j i=>x9 gs j i) (fun i=>pF _ _);have wl:ws.length=2*gs.length:=to.fw.len;refine⟨r,_,_,_,rfl,rfl,cA.of to.tup,a1,?_⟩;dsimp only[aY];have hp11:=s211 _ _ (s2 _ _ hp);refine⟨_,rfl,p,_,rfl,.inl (aR.of hp11),gs.length,by rw[bF],by lia,by lia,?_⟩;refine qN (n:=gs.length) (fun i ys H'=>∃fs:List Addr,ys=fs.map V.ref/\fs.length=i/\∀(j:Nat) (w:Addr),fs[j]?=some w->H' w=some (eJ (X (2*j)-X (2*j+1)) d)) ?_ ⟨[],rfl,rfl,fun j w e=>by cases e⟩ (qAq (aO (by lia))) (fun i H12 kk kk0 ys s12 hi iv g1 g2=>?_) fun lf ys H12 hlf s12 iv hd12=>?_
    ·rintro i ys H1 H2 st ⟨fs,e1,e2,e3⟩;exact⟨fs,e1,e2,fun j w e=>st _ _ (e3 j w e)⟩
    ·obtain⟨fs,rfl,fl,fa⟩:=iv;have hw:=s12 _ _ to.fw.hr;have at1:∀c:Nat,c<2*gs.length->∃w,ws[c]?=some w/\fK (ws.map V.ref) (c:Int)=some (.ref w)/\H12 w=some (eJ (X c) d):=fun c hc=>by
      have e:=qAd (l:=ws) (i:=c) (by lia);exact⟨_,e,eY (by rw[qAo,e];rfl),s12 _ _ (to.fw.at_ c _ e)⟩
     obtain⟨w1,_,t1,q1⟩:=at1 (2*i) (by lia);obtain⟨w2,_,t2,q2⟩:=at1 (2*i+1) (by lia);have i1:((2*i:Nat):Int)=2*(0+(i:Int)):=by lia
     have i2:((2*i+1:Nat):Int)=2*(0+(i:Int))+1:=by lia
     rw[i1] at t1;rw[i2] at t2;have sm2:Sm 10 (2:Int):=by show(2:Int).natAbs<2^10;decide
     have smi:Sm 10 (0+(i:Int)):=by show(0+(i:Int)).natAbs<2^10;lia
     refine⟨_,rfl,_,rfl,_,_,rfl,rfl,sm2.mb smi,lw,_,_,_,rfl,rfl,aR.of hw,t1,_,rfl,_,rfl,_,_,rfl,rfl,sm2.mb smi,_,_,rfl,rfl,lw,_,_,_,rfl,rfl,aR.of hw,t2,w1,w2,X (2*i),X (2*i+1),d,rfl,q1,q2,d0,sd,(to.sX _).mono (by decide),(to.sX _).mono (by decide),fun rr H13 s13 h13=>?_⟩;refine g1 _ _ s13 ⟨fs++[rr],by rw[qAr];rfl,by rw[qAm,fl];rfl,fun j w e=>?_⟩;rcases qAl j fs.length with z | z
     ·rw[qAz z] at e;exact s13 _ _ (fa j w e)
     ·rw[qAv z] at e;have hj:j-fs.length=0:=by
       have:=(List.getElem?_eq_some_iff.mp e).1;rw[qBc] at this;lia
      rw[hj] at e;obtain rfl:=Option.some.inj e;rw[show j=i by lia];exact h13
    ·obtain⟨fs,rfl,fl,fa⟩:=iv;have hp12:=s12 _ _ hp11;refine⟨_,rfl,_,rfl,p,lf,rfl,⟨_,aR.of hp12⟩,⟨_,aR.of hd12⟩,?_⟩;refine qM (xs:=aZ gs) (xs':=fs.map V.ref) (fun σ'=>∃o0 o1:Option V,σ'=[o0,o1]) (fun i ys H'=>dQ H' d ys (iX gs (fun j=>X (2*j)-X (2*j+1)) i)) (fun i ys H1 H2 st h=>h.t st) ⟨_,_,rfl⟩ trivial (aR.of hp12) (aR.of hd12) (by rw[bF,qAb,fl]) (by rw[bF];exact qAq (aO (by lia))) (fun i x y tt σ1 H13 kk kk0 ys hσ s13 hx hy ht iv g1 g2=>?_) fun D ys H13 hD13 s13 iv hd13=>?_
     ·obtain⟨o0,o1,rfl⟩:=hσ;obtain⟨g,hg,rfl⟩:=eM hx;obtain⟨w',hw',rfl⟩:=c9 hy;have hfw:=s13 _ _ (fa i w' hw');refine⟨tt,_,rfl,cA.of ht,rfl,?_⟩;refine⟨_,_,rfl,_,_,rfl,rfl,_,rfl,iY,fun z1 hz1=>?_⟩;have u13:=aH.aF (o:=.tup [.int 0,.int 1]) hz1;have x13:upd H13 z1 (.tup [.int 0,.int 1]) z1=_:=aC;generalize upd H13 z1 (.tup [.int 0,.int 1])=H14 at u13 x13|-;refine⟨_,_,jJ (u13 _ _ hfw),.tup (cA.of x13) (.cons (.int _) (.cons (.int _) .nil)),lO _ _,lO _ _,_,rfl,?_⟩;rw[pG d0];by_cases e:X (2*i)-X (2*i+1)≠0
      ·refine cY (fun _=>?_) (fun no=>absurd (decide_eq_true e) no);refine⟨_,rfl,_,rfl,iY,fun z2 hz2=>?_⟩;have u14:=aH.aF (o:=.tup [.int (g:Int),.ref w']) hz2;refine g1 _ _ _ ⟨_,_,rfl⟩ (u13.trans u14) ?_;rw[jW,if_pos e,fH hg];exact dQ.app (p:=((g:Int),X (2*i)-X (2*i+1))) aC (u14 _ _ (u13 _ _ hfw)) (iv.t (u13.trans u14).t)
      ·refine cY (fun y=>absurd (of_decide_eq_true y) e) (fun _=>g2 _ _ ⟨_,_,rfl⟩ u13 ?_);rw[jW,if_neg e];exact iv.t u13.t
     ·rw[bF] at iv;have sA:=s2.trans (s211.trans s12);refine k D H13 ys d _ (sA.free hD13) (sA.trans s13) hd13 iv d0 to.ds (fun j=>((to.sX _).sub (to.sX _)).mono (by decide)) fun i hi=>?_;have mt:=to.meets i hi;rw[vV] at mt;rw[<- mt];refine Wg.bB fun j _=>?_;rw[nW,tP];grind
   ·exfalso;have ng:=to.neg;have yz:∀v,v∈fS gs->Cm.dot m Y v=0:=fun v hv=>by
     obtain⟨g,hg,rfl⟩:=List.mem_map.mp hv;obtain⟨j,hj,e⟩:=qCq hg;have e':gN gs j=g:=fH (by rw[qAd hj,e]);have z1:=to.cols (2*j) (by lia);have z2:=to.cols (2*j+1) (by lia);rw[nW,e'] at z1;rw[tP,e'] at z2;have z3:(Wg.sm m fun i=>-bt g i*Y i)=-Wg.sm m fun i=>bt g i*Y i:=by
      have:=Wg.bO m (-1) fun i=>bt g i*Y i;rw[show(-Wg.sm m fun i=>bt g i*Y i)=-1*Wg.sm m fun i=>bt g i*Y i by lia,<- this];exact Wg.bB fun i _=>by grind
     rw[z3] at z2;have z4:Cm.dot m Y (bt g)=Wg.sm m fun i=>bt g i*Y i:=Wg.bB fun i _=>qCp _ _;rw[z4];lia
    have z:=Cm.Told.dot ind (Cm.Bg ind (by unfold fS;rw[qAb,gl]) (bt (2^h))) yz;have z4:Cm.dot m Y (bt (2^h))=Wg.sm m fun i=>bt (2^h) i*Y i:=Wg.bB fun i _=>qCp _ _;rw[z4] at z;lia
   ·exfalso;have mo:=to.more;rw[Wg.cH fun j _=>qBi _] at mo;exact absurd mo (by decide)
def nX (m:Nat) (tb Y:Nat->Int) (b:Int) (g:Nat):Int:=tb g*b-Wg.sm m fun i=>bt g i*Y i
def kM (m:Nat) (tb Y:Nat->Int) (b:Int) (k:Nat):List (Key×V):=(qAn k).map fun(j:Nat)=>(Sum.inl ((j+1:Nat):Int),V.int (nX m tb Y b (j+1)))
theorem DQ (l:List Int) (F:Int->V):((qAn (l.map V.int).length).filterMap fun i=>((l.map V.int)[i]?).bind fun _=>(l[i]?).map F)=l.map F:=by
 rw[qAb];have e:((qAn l.length).filterMap fun i=>((l.map V.int)[i]?).bind fun _=>(l[i]?).map F)=(qAn l.length).filterMap fun i=>(l[i]?).bind fun h=>some (F h):=by
  refine dE fun i hi=>?_;have hi:=List.mem_range.mp hi;rw[qAo,qAd hi];rfl
 rw[e,pJ,qDl]
theorem DS (m:Nat) (tb Y:Nat->Int) (b:Int) (j:Nat):putK (kM m tb Y b j) (Sum.inl ((j+1:Nat):Int):Key) (V.int (tb (j+1)*b-Wg.sm m fun i=>bt (j+1) i*Y i))=kM m tb Y b (j+1):=by
 unfold putK;rw[if_neg]
 ·unfold kM;rw[qBk,qAr];rfl
 ·intro z;obtain⟨kv,hkv,e⟩:=List.any_eq_true.mp z;obtain⟨i,hi,rfl⟩:=List.mem_map.mp hkv;have hi:=List.mem_range.mp hi;have e:=Sum.inl.inj (of_decide_eq_true e);lia
def GZ (K:qAc):Sp:=fun vs H Q _=>∃(p q:Addr) (m n:Nat) (tb Y:Nat->Int) (b:Int),vs=[.ref p,.ref q,.int b]/\H p=some (.lst (bG n tb))/\H q=some (.lst (bG m Y))/\1<=m/\m<=6/\n=2^m/\Sm 6000 b/\(∀j,Sm 300000 (Y j))/\(∀j,Sm 80000 (tb j)) /\
 ∀D H' ob,H D=none->aH H H'->H' D=some (.frz ob (.dK (kM m tb Y b (n-2))))->Q (.ref D) H'
theorem DU:aT ["table","tops","bottom","lacks","group"] ["table","tops","bottom"] (aI Ju):=by constructor<;>first|rfl|decide +kernel
theorem KO {f1:Addr}{fd1:qBo} (t:Tx K mg "lacks_of" Ju ["table","tops","bottom"] f fd) (T:T K mg AL LN FR iF fCh fGM fCC fCA fPL SE NN NG NT NR) (D_hands_of:Df P w K mg base (j0 P w) 4 "hands_of" ["group"] (GN K NG) f1 fd1) :
  Df P w K mg base b0 5 "lacks_of" ["table","tops","bottom"] (GZ K) f fd:=by
 refine t.gY DU (fun vs H Q E h=>?_) (fun cdv _A outer s H vs Q E hr h=>?_)
 ·obtain⟨p,q,m,n,tb,Y,b,rfl,_⟩:=h;rfl
 ·obtain⟨p,q,m,n,tb,Y,b,rfl,hp,hq,m1,m6,hn,sb,sY,st,k⟩:=h;refine⟨_,(aD (aU (i:=3) DU.nd rfl bT Cc)
   (aD (cO PassesOwn.never rfl (qA (by rfl) T.cD (aA aE (aA (aS eX (aJ aN (by rfl) T.bW bM (aA (pv 0) aB)) aE) aB))) (aL (i:=4) DU.nd rfl (by first|exact .inl rfl|exact .inr rfl))
    (aG (yZ (BU hr) (pv 3) (pv 4) (aS eX (aS bL (aP bC (pv 0) (pv 4) (fun _ _=>rfl)) (pv 2)) (aJ (fQ rfl) (by rfl) T.iV jC (aA (bQ (NB:=["hand","tops"]) (pick:=[none,some 1]) (bJ (by with_unfolding_all rfl) (by exact(And.intro rfl trivial)) rfl (by decide +kernel) (by decide +kernel) (by rfl) (by rfl)) rfl
     (bN (fW cK D_hands_of hr (by decide) (by rfl) (aA (pv 4) aB))) (fun _ _ _=>aL (i:=0) (show(["hand","tops"]:List Str).Nodup from by decide +kernel) rfl bT)
     (fun _ _ _=>bK) (fun _ _ _=>(aP (bV K) (pv 1) (pv 0) (fun _ _=>rfl)))) aB))) rfl)))
   (aG (aQ (EZ (pv 3)))))),?_⟩
  refine fun D hD=>?_;dsimp only[aY];have u0:aH H (upd H D (.dK [])):=.aF hD;have n64:n<=64:=by rw[hn];exact MF m6
  have n2:2<=n:=by rw[hn];exact qBr (n:=2) (i:=1) (by decide) m1
  refine⟨_,rfl,p,_,rfl,.inl (aR.of (u0 _ _ hp)),_,_,rfl,rfl,1,_,rfl,?_,?_⟩
  ·rw[aK];lia
  rw[aK,show(((n:Nat):Int)-1-1).toNat=n-2 by lia];refine iB (lo:=1) (n:=n-2) (fun j σ' H'=>aH H H'/\∃(o4:Option V),H' D=some (.dK (kM m tb Y b j))/\σ'=[some (.ref p),some (.ref q),some (.int b),some (.ref D),o4]) ⟨u0,_,aC,rfl⟩ ?_ ?_
  ·rintro j σ' H2 hj ⟨s2,o4,hd,rfl⟩;have e1:(1:Int)+(j:Int)=((j+1:Nat):Int):=by lia
   rw[e1];dsimp only[aY];have hp2:=s2 _ _ hp;have hq2:=s2 _ _ hq;have gm:j+1<2^m:=by lia
   have h64:j+1<64:=by lia
   refine⟨_,rfl,_,rfl,p,_,_,_,rfl,rfl,aR.of hp2,bS (by lia),_,rfl,_,_,rfl,rfl,(st _).mb sb,?_⟩;refine⟨_,rfl,_,rfl,.int _,fun no=>?_,fun g' la H3 hv _ hla s3 hl3=>?_⟩
   ·exact absurd no (by rw[Fm (m:=6) h64];decide)
   obtain rfl:j+1=g':=by have:=V.int.inj hv;lia
   have hal:∀h∈iJ (j+1),0<=h/\h<m:=fun h hh=>xU gm 6 h hh;have hlen:(iJ (j+1)).length<=6:=Dc (j+1) 6;refine⟨la,rfl,⟨_,aR.of hl3⟩,?_⟩;refine cP (xs:=(iJ (j+1)).map V.int) (fun i _=>((iJ (j+1))[i]?).map fun h=>V.int (Y h.toNat)) (aR.of hl3) (by rw[qAb];exact qAq (aO (by lia))) (fun i x H4 kk kk0 s4 hx g1 g2=>?_) fun l4 H4 hl4 s4 hd4=>?_
   ·rw[qAo] at hx;cases e:(iJ (j+1))[i]? with
    | none=>rw[e] at hx;cases hx
    | some h =>
     rw[e] at hx g1;obtain rfl:V.int h=x:=Option.some.inj hx;obtain⟨z0,zm⟩:=hal h (qAy e);have hat:fK (bG m Y) h=some (.int (Y h.toNat)):=by
      have z:=bS (f:=Y) (n:=m) (j:=h.toNat) (by lia);rw[qDp z0] at z;exact z
     refine⟨_,rfl,_,rfl,q,_,_,_,rfl,rfl,aR.of (s4 _ _ (s3 _ _ hq2)),hat,?_⟩;exact g1 _ rfl _ (.refl _)
   ·rw[DQ] at hd4;have es:((iJ (j+1)).map fun h=>Y h.toNat).sum=Wg.sm m fun i=>bt (j+1) i*Y i:=by
     unfold iJ;rw[GR];have z:=zX (Y:=Y) gm (6-m);rw[show m+(6-m)=6 by lia] at z;exact z
    have hdD:=s4 _ _ (s3 _ _ hd);refine⟨l4,(iJ (j+1)).map fun h=>Y h.toNat,rfl,.inl (aR.of (by rw[hd4,qCz];rfl)),_,_,rfl,rfl,_,rfl,_,rfl,D,_,rfl,.inl ⟨_,.inl ((j+1:Nat):Int),hdD,rfl,by unfold kM;rw[qAb,qAu,qCa];lia,rfl⟩,(s2.trans (s3.trans s4)).upd_ne' hD,_,?_,rfl⟩;rw[aC,es,DS]
  ·rintro σ' H2 ⟨s2,o4,hd,rfl⟩;refine⟨_,rfl,D,_,rfl,hd,fun ob=>?_⟩;exact k D _ ob hD (s2.upd_ne' hD) aC
theorem jL (x:Int):eJ x 1 = .tup [.int x,.int 1]:=by
 have e:dv x 1=1:=by unfold dv;rw[if_neg (by decide),qPw];rfl
 unfold eJ;rw[e,qJy,qJy]
theorem FH {a b y dw L r:Int} (h:a*dw=y*b):a*(dw*(L*r))=r*y*(b*L):=by
 have z:a*(dw*(L*r))=a*dw*(L*r):=by grind
 rw[z,h];grind
structure Kp (ks:List Nat) (X:Nat->Int) (d:Int) (H:Hp) (p:Addr) (ws:List Addr):Prop where
 hd:H p=some (.dK ((ks.zip ws).map fun kw=>(Sum.inl (kw.1:Int),V.ref kw.2)))
 len:ws.length=ks.length
 at_:∀(j:Nat) (w:Addr),ws[j]?=some w->H w=some (eJ (X (gN ks j)) d)
theorem Kp.same {ks:List Nat}{X:Nat->Int}{d:Int}{H H':Hp}{p:Addr}{ws:List Addr} (h:Kp ks X d H p ws) (s:aH H H'):Kp ks X d H' p ws:=⟨s _ _ h.hd,h.len,fun j w e=>s _ _ (h.at_ j w e)⟩
theorem Kp.keys {ks:List Nat}{ws:List Addr} (h:ws.length=ks.length):(((ks.zip ws).map fun kw=>((Sum.inl (kw.1:Int):Key),V.ref kw.2)).map fun kv=>kV kv.1)=aZ ks:=by
 rw[qCz];unfold aZ;have e:(ks.zip ws).map Prod.fst=ks:=List.map_fst_zip (by lia);rw[show((fun kv:Key×V=>kV kv.1)∘fun kw:Nat×Addr=>((Sum.inl (kw.1:Int):Key),V.ref kw.2))=(fun(g:Nat)=>V.int (g:Int))∘Prod.fst from rfl,<- qCz,e]
theorem Kp.vals {ks:List Nat}{ws:List Addr} (h:ws.length=ks.length):(((ks.zip ws).map fun kw=>((Sum.inl (kw.1:Int):Key),V.ref kw.2)).map fun kv=>kv.2)=ws.map V.ref:=by
 rw[qCz];have e:(ks.zip ws).map Prod.snd=ws:=List.map_snd_zip (by lia);rw[show((fun kv:Key×V=>kv.2)∘fun kw:Nat×Addr=>((Sum.inl (kw.1:Int):Key),V.ref kw.2))=V.ref∘Prod.snd from rfl,<- qCz,e]
def sA (m:Nat) (fr ks:List Nat) (c i:Nat):Int:=if c<fr.length then (if i<m then bt (gN fr c) i else if i=m then 1 else 0) else if i<m then kA ks (c-fr.length) i else 0
def sG (tb:Nat->Int) (L:Int) (fr:List Nat) (tp:Nat->Int) (c:Nat):Int:=if c<fr.length then tb (gN fr c)*L else if (c-fr.length)%2=0 then tp ((c-fr.length)/2) else -tp ((c-fr.length)/2)
def sD (m i:Nat):Int:=if i<m then 0 else if i=m then 1 else 0
theorem yA (m:Nat) (fr ks:List Nat) (c i:Nat):(sA m fr ks c i).natAbs<=1:=by
 unfold sA;split
 ·split
  ·exact pF _ _
  ·split <;> decide
 ·split
  ·exact x9 _ _ _
  ·decide
theorem yB (m i:Nat):(sD m i).natAbs<=1:=by
 unfold sD;split
 ·decide
 ·split <;> decide
theorem gU (m:Nat) (fr ks:List Nat):Cm.nI m bt fr ks (sA m fr ks) where
 f0:=fun c hc=>⟨fun i hi=>by unfold sA;rw[if_pos hc,if_pos hi];rfl,by unfold sA;rw[if_pos hc,if_neg (qDh _),if_pos rfl]⟩
 k0:=fun j _=>⟨fun i hi=>by unfold sA;rw[if_neg (by lia),if_pos hi,show fr.length+2*j-fr.length=2*j by lia,nW];rfl,by unfold sA;rw[if_neg (by lia),if_neg (qDh _)]⟩
 k1:=fun j _=>⟨fun i hi=>by unfold sA;rw[if_neg (by lia),if_pos hi,show fr.length+(2*j+1)-fr.length=2*j+1 by lia,tP];rfl,by unfold sA;rw[if_neg (by lia),if_neg (qDh _)]⟩
theorem z7 (tb:Nat->Int) (L:Int) (fr ks:List Nat) (tp:Nat->Int):Cm.OA tb L fr ks tp (sG tb L fr tp) where
 f0:=fun c hc=>by unfold sG;rw[if_pos hc];rfl
 k0:=fun j _=>by unfold sG;rw[if_neg (by lia),if_pos (by lia),show(fr.length+2*j-fr.length)/2=j by lia]
 k1:=fun j _=>by unfold sG;rw[if_neg (by lia),if_neg (by lia),show(fr.length+(2*j+1)-fr.length)/2=j by lia]
theorem FI {m:Nat}{fr ks:List Nat} (m6:m<=6) (h:fr.length+2*ks.length<=70):Inst (m+1) (fr.length+2*ks.length) (sA m fr ks) (sD m) :=
 ⟨by lia,by lia,h,fun j i=>qBp (yA m fr ks j i) (by decide),fun i=>qBp (yB m i) (by decide)⟩
theorem Np:∀m:_root_.Fin 8,Wg.pV m.1*1^m.1<2^13/\m.1*(Wg.pV m.1*1^m.1)<2^16:=by decide +kernel
theorem DV {m n:Nat}{A:Nat->Nat->Int}{due:Nat->Int}{d:Int} (m7:m<=7) (dm:pB m A due d) (hA:∀j i,(A j i).natAbs<=1) (hd:∀i,(due i).natAbs<=1):Sm 13 d :=
 qBp (dm 1 (qAg _) hA hd) (Np ⟨m,by lia⟩).1
theorem DW {m b:Nat}{A:Nat->Nat->Int}{due g Y:Nat->Int}{r:Int} (m7:m<=7) (ps:xV m A due g Y) (hA:∀j i,(A j i).natAbs<=1) (hd:∀i,(due i).natAbs<=1) (r0:0<r) (hg:∀j,Sm b (r*g j)) (i:Nat):Sm (b+16) (r*Y i):=by
 have h:=ps 1 ((2^b)/r.natAbs) (qAg _) hA hd (fun j=>by
  have z:(r*g j).natAbs<2^b:=hg j;rw[qDs] at z;exact(Nat.le_div_iff_mul_le (by lia)).mpr (by rw[qMc];exact qAq z)) i
 have f:=(Np ⟨m,by lia⟩).2;show(r*Y i).natAbs<2^(b+16);rw[qDs];have z1:r.natAbs*(2^b/r.natAbs)<=2^b:=Nat.mul_div_le _ _;have z2:r.natAbs*(Y i).natAbs<=r.natAbs*(m*(2^b/r.natAbs*(Wg.pV m*1^m))):=Nat.mul_le_mul_left _ h;have z3:r.natAbs*(m*(2^b/r.natAbs*(Wg.pV m*1^m)))=r.natAbs*(2^b/r.natAbs)*(m*(Wg.pV m*1^m)):=by
  generalize 2^b/r.natAbs=q;generalize Wg.pV m*1^m=u;generalize r.natAbs=a;simp only[qNq,qPe]
 rw[z3] at z2;have z4:r.natAbs*(2^b/r.natAbs)*(m*(Wg.pV m*1^m))<=2^b*(m*(Wg.pV m*1^m)):=qMl _ z1;have z5:2^b*(m*(Wg.pV m*1^m))<2^b*2^16:=Nat.mul_lt_mul_of_pos_left f (qGx b);rw[qPq];exact qBp z2 (qBp z4 z5)
theorem KP (k:Nat) (g:Nat->Int):bG k g++[.int (g k),.int (g (k+1))]=bG (k+2) g:=by
 unfold bG;rw[qBk,qBk,qAr,qAr,qHr];rfl
theorem yC (m:Nat) (f:Nat->Int):bG m f++[.int (f m)]=bG (m+1) f:=by
 unfold bG;rw[qBk,qAr];rfl
def eU (fr:List Nat) (lam:Nat->Int) (k:Nat):List Nat:=((qAn k).filter fun c=>decide (lam c≠0)).map (gN fr)
theorem rH (fr:List Nat) (lam:Nat->Int) (k:Nat):eU fr lam (k+1)=if lam k≠0 then eU fr lam k++[gN fr k] else eU fr lam k:=by
 unfold eU;rw[qBk,qHg,qAr,qDf,qGu];by_cases h:lam k≠0
 ·rw[if_pos (decide_eq_true h),if_pos h];rfl
 ·rw[if_neg (by rw[decide_eq_false h];exact qAp),if_neg h,qEp,qDm]
theorem gW {fr:List Nat}{lam:Nat->Int}{k g:Nat}:g∈eU fr lam k↔∃c,c<k/\lam c≠0/\gN fr c=g:=by
 unfold eU;rw[qGj];constructor
 ·rintro⟨c,hc,e⟩;obtain⟨a,b⟩:=List.mem_filter.mp hc;exact⟨c,List.mem_range.mp a,of_decide_eq_true b,e⟩
 ·rintro⟨c,a,b,e⟩;exact⟨c,List.mem_filter.mpr ⟨List.mem_range.mpr a,decide_eq_true b⟩,e⟩
def Ha:Sp:=fun vs H Q _=>∃(p q r:Addr) (m n c:Nat) (tb X:Nat->Int) (d:Int) (ks fr:List Nat) (ws:List Addr),vs=[.ref p,.int (m:Int),.ref q,.ref r]/\H p=some (.lst (bG n tb))/\Kp ks X d H q ws/\H r=some (.lst (aZ fr))/\1<=m/\m<=6/\n=2^m/\0<d/\c<=1000/\Sm c d/\(∀k,Sm (80000+c) (X k))/\(∀j,Sm 80000 (tb j))/\fr.length+2*ks.length<=70/\(∀g,g∈fr->g<n)/\(∀k,k∈ks->k<64)/\Cm.iI m (fS ks) /\
 (∀y:Nat->Int,(∀k,k∈ks->Cm.pt m bt y k=0)->∃g,g∈fr/\Cm.pt m bt y g<=0) /\
 ∀(R lp le lh:Addr) (H':Hp) (ps:List Addr) (dw:Int) (Z lam mu:Nat->Int),H lp=none->aH H H'->H' R=some (.tup [.ref lp,.ref le,.ref lh])->j4 m Z (dw*d) H' lp ps->H' le=some (eJ (Z m) (dw*d))->H' lh=some (.lst (aZ (eU fr lam fr.length)))->Sm 13 dw->(∀i,Sm (80000+c+16) (Z i))->Cm.Cert m bt fr ks (fun g=>tb g*(dw*d)-Cm.pt m bt Z g) dw (Z m) lam mu->(∀k,k∈ks->Cm.pt m bt Z k=dw*X k)->Q (.ref R) H'
theorem iW:aT ["table","many","kept","free","bottom","columns","gains","group","top","column","told","prices","holding"] ["table","many","kept","free"] (aI Jr):=by constructor<;>first|rfl|decide +kernel
theorem KQ {f1 f2 f3 f4 f5 f6:Addr}{fd1 fd2 fd3 fd4 fd5 fd6:qBo} (t:Tx K mg "least_lack" Jr ["table","many","kept","free"] f fd) (T:T K mg AL LN FR iF fCh fGM fCC fCA fPL SE NN NG NT NR) (D_common_bottom:Df P w K mg base b0 2 "common_bottom" ["fractions"] Dw f1 fd1) (D_marks_of:Df P w K mg base b0 1 "marks_of" ["group","many"] vQ f2 fd2) (D_tops_over:Df P w K mg base b0 1 "tops_over" ["bottom","fractions"] Dx f3 fd3) (D_below_nought:Df P w K mg base b0 1 "below_nought" ["column"] DF f4 fd4) (D_weigh:Df P w K mg base (j0 P w) 5 "weigh" ["columns","due","gains"] (vK K NR) f5 fd5) (D_fraction:Df P w K mg base (j0 P w) 2 "fraction" ["top","bottom"] (tG K NN) f6 fd6) :
  Df P w K mg base b0 6 "least_lack" ["table","many","kept","free"] Ha f fd:=by
 refine t.gY iW (fun vs H Q E h=>?_) (fun cdv _A outer s H vs Q E hr h=>?_)
 ·obtain⟨p,q,r,m,n,c,tbl,X,d,ks,fr,ws,rfl,_⟩:=h;rfl
 ·obtain⟨p,q,r,m,n,c,tbl,X,d,ks,fr,ws,rfl,hp,kp,hfr,m1,m6,hn,d0,c1,sd,sX,st,cnt,frn,Em,ind,no,k⟩:=h;refine⟨_,(aD (aU (i:=4) iW.nd rfl (by first|exact .inl rfl|exact .inr rfl) (aX D_common_bottom hr (by decide) (by rfl) (aA (hV (by rfl) T.cV rfl (pv 2)) aB)))
   (aD (eD (NB:=["group","many"]) (pick:=[none,some 1]) (i:=5) iW.nd rfl bT (by rfl) (bJ (by with_unfolding_all rfl) (by exact(And.intro rfl trivial)) rfl (by decide +kernel) (by decide +kernel) (by rfl) (by rfl)) rfl
     (bN (pv 3)) (fun _ _ _=>aL (i:=0) (show(["group","many"]:List Str).Nodup from by decide +kernel) rfl bT)
     (fun _ _ _=>bK) (fun _ _ _=>(aS (Cv K) (aX D_marks_of hr (by decide) (by rfl) (aA (pv 0) (aA (pv 1) aB))) (bH (aA aE aB)))))
   (aD (eD (NB:=["group","bottom","table"]) (pick:=[none,some 4,some 0]) (i:=6) iW.nd rfl bT (by rfl) (bJ (by with_unfolding_all rfl) (by exact(And.intro rfl (And.intro rfl trivial))) rfl (by decide +kernel) (by decide +kernel) (by rfl) (by rfl)) rfl
     (bN (pv 3)) (fun _ _ _=>aL (i:=0) (show(["group","bottom","table"]:List Str).Nodup from by decide +kernel) rfl bT)
     (fun _ _ _=>bK) (fun _ _ _=>(aS bL (aP (bV K) (pv 2) (pv 0) (fun _ _=>rfl)) (pv 1))))
   (aD (cO PassesOwn.never rfl (gI (by rfl) T.gO (aA (gE (f9 rfl) (by rfl) T.cV dA (aA (pv 2) aB)) (aA (aX D_tops_over hr (by decide) (by rfl) (aA (pv 4) (aA (hV (by rfl) T.cV rfl (pv 2)) aB))) aB))) (eW rfl (bI (aL (i:=7) iW.nd rfl (by first|exact .inl rfl|exact .inr rfl)) (bI (aL (i:=8) iW.nd rfl bT) dG)))
    (aD (aU (i:=9) iW.nd rfl bT (aS fA (aX D_marks_of hr (by decide) (by rfl) (aA (pv 7) (aA (pv 1) aB))) (bH (aA aE aB))))
    (aD (rQ (i:=5) iW.nd rfl bT (bH (aA (pv 9) (aA (aX D_below_nought hr (by decide) (by rfl) (aA (pv 9) aB)) aB))) nT)
    (aG (rQ (i:=6) iW.nd rfl bT (bH (aA (pv 8) (aA (iU fT (pv 8)) aB))) nT)))))
   (aD (aU (i:=10) iW.nd rfl (by first|exact .inl rfl|exact .inr rfl) (fW cK D_weigh hr (by decide) (by rfl) (aA (pv 5) (aA (aS fA (aS hU (bH (aA aE aB)) (pv 1)) (bH (aA aE aB))) (aA (pv 6) aB)))))
   (aD (eD (NB:=["price","bottom"]) (pick:=[none,some 4]) (i:=11) iW.nd rfl bT (by rfl) (bJ (by with_unfolding_all rfl) (by exact(And.intro rfl trivial)) rfl (by decide +kernel) (by decide +kernel) (by rfl) (by rfl)) rfl
     (bN (aP a9 (pv 10) aE (fun _ _=>rfl))) (fun _ _ _=>aL (i:=0) (show(["price","bottom"]:List Str).Nodup from by decide +kernel) rfl bT)
     (fun _ _ _=>bK) (fun _ _ _=>(fW cK D_fraction hr (by decide) (by rfl) (aA (aP (eE K) (pv 0) aE (fun _ _=>rfl)) (aA (aS bL (aP (eE K) (pv 0) aE (fun _ _=>rfl)) (pv 1)) aB)))))
   (aD (eD (NB:=["group","weight"]) (pick:=[none,none]) (i:=12) iW.nd rfl bT (by rfl) (bJ (by with_unfolding_all rfl) (by exact trivial) rfl (by decide +kernel) (by decide +kernel) (by rfl) (by rfl)) rfl
     (gI (by rfl) T.gO (aA (pv 3) (aA (aP a9 (pv 10) aE (fun _ _=>rfl)) aB))) (fun _ _ _=>(show PG _ _ (rP K 2 (fO (aY 0) (fO (aY 1) rO))) from eW rfl (bI (aL (i:=0) (show(["group","weight"]:List Str).Nodup from by decide +kernel) rfl bT) (bI (aL (i:=1) (show(["group","weight"]:List Str).Nodup from by decide +kernel) rfl bT) dG))))
     (fun _ _ _=>eZ (aV (uM K hr.units) (pv 1) (cE (aA aE (aA aE aB))) (aW _))) (fun _ _ _=>(pv 0)))
   (aG (aQ (cE (aA (jA rX (pv 11) nN (jO (pv 1))) (aA (aP bC (pv 11) (pv 1) (fun _ _=>rfl)) (aA (pv 12) aB))))))))))))),?_⟩
  have hn64:n<=64:=by rw[hn];exact qBr (n:=2) (by decide) m6
  have f64:∀g,g∈fr->g<64:=fun g hg=>qBd (frn g hg) hn64;refine⟨_,rfl,q,_,rfl,.inl kp.hd,fun l1 hl1=>?_⟩;rw[Kp.vals kp.len];have u1:=aH.aF (o:=.lst (ws.map V.ref)) hl1;have e1:upd H l1 (.lst (ws.map V.ref)) l1=_:=aC;generalize upd H l1 (.lst (ws.map V.ref))=H1 at u1 e1|-;refine⟨l1,ks.length,fun j=>X (gN ks j),d,ws,rfl,⟨e1,kp.len,fun j w e=>u1 _ _ (kp.at_ j w e)⟩,d0,sd.mono (by lia),fun L lo=>?_⟩;have L0:=lo.pos;obtain⟨rr,hrr⟩:=lo.dvd;have r0:0<rr:=by
   refine Int.not_le.mp fun z=>?_;have:=qCo z (qCe L0);rw[<- hrr,qBu] at this;lia
  have sL:Sm c L:=sd.le (by have:=qDt d0 lo.dvd;lia);dsimp only[aY];refine⟨_,rfl,r,rfl,⟨_,aR.of (u1 _ _ hfr)⟩,?_⟩;refine mH (xs:=aZ fr) (fun j=>bG (m+1) (sA m fr ks j)) (aR.of (u1 _ _ hfr)) (by rw[bF];exact qAq (aO (by lia))) (fun j y H4 kk kk0 s4 hy g1=>?_) fun lc cs H2 hlc s2 hcs ncs hD=>?_
  ·obtain⟨g,hg,rfl⟩:=eM hy;have hj:j<fr.length:=(List.getElem?_eq_some_iff.mp hg).1;refine⟨_,rfl,_,rfl,g,m,rfl,f64 g (qAy hg),m6,fun D H5 hD5 s5 h5=>?_⟩;refine⟨jX,fun l6 h6=>?_⟩;have u6:=aH.aF (o:=.lst [.int 1]) h6;have e6:upd H5 l6 (.lst [.int 1]) l6=_:=aC;generalize upd H5 l6 (.lst [.int 1])=H6 at u6 e6|-;refine⟨D,l6,_,_,rfl,rfl,aR.of (u6 _ _ h5),aR.of e6,by rw[aK,qCa];simp;lia,fun l7 h7=>?_⟩;have u7:=aH.aF (o:=.lst (bG m (bt g)++[.int 1])) h7;refine g1 l7 _ (s5.trans (u6.trans u7)) ((s5.trans u6).free h7) ?_;rw[aC];have z:=yC m (sA m fr ks j);rw[((gU m fr ks).f0 j hj).2] at z;rw[<- z];congr 3;refine dI fun i hi=>?_;rw[((gU m fr ks).f0 j hj).1 i hi];show bt g i=bt (gN fr j) i;rw[fH hg]
  rw[bF] at hcs;dsimp only[aY];have s02:=u1.trans s2;refine⟨_,rfl,r,rfl,⟨_,aR.of (s02 _ _ hfr)⟩,?_⟩;refine cP (xs:=aZ fr) (fun j _=>some (.int (tbl (gN fr j)*L))) (aR.of (s02 _ _ hfr)) (by rw[bF];exact qAq (aO (by lia))) (fun j y H4 kk kk0 s4 hy g1 g2=>?_) fun lg H3 hlg s3 hdg=>?_
  ·obtain⟨g,hg,rfl⟩:=eM hy;have hgn:=frn g (qAy hg);refine⟨_,rfl,_,rfl,p,_,_,_,rfl,rfl,aR.of (s4 _ _ (s02 _ _ hp)),bS hgn,_,rfl,_,_,rfl,rfl,(st _).mb sL (by decide) (by lia),?_⟩;exact g1 _ (by rw[fH hg]) _ (.refl _)
  rw[bF,lK _ (bF _)] at hdg;have s03:=s02.trans s3;dsimp only[aY];have kp3:=kp.same s03;refine⟨_,rfl,q,_,rfl,.inl kp3.hd,fun la hla=>?_⟩;rw[Kp.keys kp.len];have u4:=aH.aF (o:=.lst (aZ ks)) hla;have e4:upd H3 la (.lst (aZ ks)) la=_:=aC;generalize upd H3 la (.lst (aZ ks))=H4 at u4 e4|-;have kp4:=kp3.same u4;refine⟨_,rfl,_,rfl,q,_,rfl,.inl kp4.hd,fun lb hlb=>?_⟩;rw[Kp.vals kp.len];have u5:=aH.aF (o:=.lst (ws.map V.ref)) hlb;have e5:upd H4 lb (.lst (ws.map V.ref)) lb=_:=aC;generalize upd H4 lb (.lst (ws.map V.ref))=H5 at u5 e5|-;have kp5:=kp4.same u5;have kl:ks.length<=35:=by lia
  refine⟨lb,ks.length,fun j=>X (gN ks j),d,L,ws,rfl,⟨e5,kp.len,kp5.at_⟩,by lia,d0,sd.mono (by lia),fun j=>(sX _).mono (by lia),lo,fun lt H6 tt hlt s6 hd6 htt _=>?_⟩;have sg:∀j,j<ks.length->rr*tt j=X (gN ks j):=fun j hj=>by
   have z:=htt j hj;rw[hrr] at z;have:L*(rr*tt j)=L*X (gN ks j):=by grind
   exact qFl (by lia) this
  let tp:Nat->Int:=fun j=>if j<ks.length then tt j else 0
  have ett:bG ks.length tt=bG ks.length tp:=dI fun j hj=>by show tt j=if j<ks.length then tt j else 0;rw[if_pos hj]
  rw[ett] at hd6;have sG':∀c',Sm (80000+c) (rr*sG tbl L fr tp c'):=fun c'=>by
   unfold sG;have stp:∀j,Sm (80000+c) (rr*tp j):=fun j=>by
    show Sm (80000+c) (rr*if j<ks.length then tt j else 0);split
    ·rename_i hj;rw[sg j hj];exact sX _
    ·rw[qBu];exact Sm.zero
   split
   ·rw[show rr*(tbl (gN fr c')*L)=tbl (gN fr c')*d by rw[hrr];grind];exact(st _).mul sd
   ·split
    ·exact stp _
    ·rw[qNb];exact(stp _).le (by rw[qLc];exact qAg _)
  have sgn:∀c',Sm 90000 (sG tbl L fr tp c'):=fun c'=>Sm.mono (Sm.le (sG' c') (by rw[qDs];exact qLs _ (by lia))) (by lia);have hdg3:H3 lg=some (.lst (bG fr.length (sG tbl L fr tp))):=by
   rw[hdg];exact congrArg (fun l=>some (HO.lst l)) (dI (f:=fun j=>tbl (gN fr j)*L) fun j hj=>by unfold sG;rw[if_pos hj])
  have s36:=u4.trans (u5.trans s6);have lglc:lg≠lc:=fun z=>by rw[z,hD] at hlg;cases hlg
  have lalc:la≠lc:=fun z=>by rw[z,s3 _ _ hD] at hla;cases hla
  have lalg:la≠lg:=fun z=>by rw[z,hdg3] at hla;cases hla
  have ltlc:lt≠lc:=fun z=>by rw[z,u5 _ _ (u4 _ _ (s3 _ _ hD))] at hlt;cases hlt
  have ltlg:lt≠lg:=fun z=>by rw[z,u5 _ _ (u4 _ _ hdg3)] at hlt;cases hlt
  have h0c:H lc=none:=u1.free hlc;have h0g:H lg=none:=s02.free hlg;refine⟨la,lt,rfl,⟨_,aR.of (s6 _ _ (u5 _ _ e4))⟩,⟨_,aR.of hd6⟩,?_⟩;refine nQ (xs:=aZ ks) (ys:=bG ks.length tp) (fun j σ' H'=>aH H H'/\H' la=some (.lst (aZ ks))/\H' lt=some (.lst (bG ks.length tp))/\∃(cs':List Addr) (o7 o8 o9:Option V),vU (m+1) (fr.length+2*j) (sA m fr ks) H' lc cs'/\(∀a,a∈cs'->a≠lg)/\H' lg=some (.lst (bG (fr.length+2*j) (sG tbl L fr tp)))/\σ'=[some (.ref p),some (.int (m:Int)),some (.ref q),some (.ref r),some (.int L),some (.ref lc),some (.ref lg),o7,o8,o9,none,none,none])
   ⟨s03.trans s36,s6 _ _ (u5 _ _ e4),hd6,cs,_,_,_,⟨s36 _ _ (s3 _ _ hD),by rw[hcs];rfl,fun c' a e=>s36 _ _ (s3 _ _ (ncs.at_ c' a e).2.2)⟩,fun a ha z=>?_,s36 _ _ hdg3,rfl⟩ (fun j σ' H' _ ⟨_,ha,hb,_⟩=>⟨aR.of ha,aR.of hb⟩) (by rw[bF,aK]) (fun j x y tq σ' H' hx hy ht ⟨s',ha,hb,cs',o7,o8,o9,kc,nlg,hg',eσ⟩=>?_) (fun σ' H' ⟨s',ha,hb,cs',o7,o8,o9,kc,nlg,hg',eσ⟩=>?_)
  ·obtain⟨i,hi,e⟩:=qCq ha;have e:=ncs.at_ i a (by rw[qAd hi,e]);rw[z,hlg] at e;cases e.2.2
  ·subst eσ;obtain⟨g,hg,rfl⟩:=eM hx;obtain⟨hj,rfl⟩:=fF hy;have eg:gN ks j=g:=fH hg;have u7:=aH.aF (o:=.tup [.int (g:Int),.int (tp j)]) ht;have e7:upd H' tq (.tup [.int (g:Int),.int (tp j)]) tq=_:=aC;generalize upd H' tq (.tup [.int (g:Int),.int (tp j)])=H7 at u7 e7|-;refine⟨tq,_,rfl,cA.of e7,rfl,_,_,rfl,_,_,rfl,rfl,?_⟩;dsimp only[aY];refine⟨_,rfl,_,rfl,g,m,rfl,Em g (qAy hg),m6,fun D H8 hD8 s8 h8=>?_⟩;refine⟨jX,fun l9 h9=>?_⟩;have u9:=aH.aF (o:=.lst [.int 0]) h9;have e9:upd H8 l9 (.lst [.int 0]) l9=_:=aC;generalize upd H8 l9 (.lst [.int 0])=H9 at u9 e9|-;refine⟨D,l9,_,_,rfl,rfl,aR.of (u9 _ _ h8),aR.of e9,by rw[aK,qCa];simp;lia,fun l10 h10=>?_⟩;have u10:=aH.aF (o:=.lst (bG m (bt g)++[.int 0])) h10;have e10:upd H9 l10 (.lst (bG m (bt g)++[.int 0])) l10=some (.lst (bG (m+1) (sA m fr ks (fr.length+2*j)))):=by
    rw[aC];have z:=yC m (sA m fr ks (fr.length+2*j));rw[((gU m fr ks).k0 j hj).2] at z;rw[<- z];congr 3;refine dI fun i hi=>?_;rw[((gU m fr ks).k0 j hj).1 i hi];show bt g i=bt (gN ks j) i;rw[eg]
   generalize upd H9 l10 (.lst (bG m (bt g)++[.int 0]))=H10 at u10 e10|-;dsimp only[aY];refine⟨_,rfl,_,rfl,_,rfl,l10,m+1,_,rfl,e10,by lia,fun D2 H11 hD2 s11 hd11=>?_⟩;have e11:H11 D2=some (.lst (bG (m+1) (sA m fr ks (fr.length+(2*j+1))))):=by
    rw[hd11];refine congrArg (fun l=>some (HO.lst l)) (dI fun i hi=>?_);rcases qAl i m with z | z
    ·rw[((gU m fr ks).k0 j hj).1 i z,((gU m fr ks).k1 j hj).1 i z]
    ·rw[show i=m by lia,((gU m fr ks).k0 j hj).2,((gU m fr ks).k1 j hj).2];rfl
   refine⟨iY,fun l12 h12=>?_⟩;have u12:=aH.aF (o:=.lst [.ref l10,.ref D2]) h12;have e12:upd H11 l12 (.lst [.ref l10,.ref D2]) l12=_:=aC;generalize upd H11 l12 (.lst [.ref l10,.ref D2])=H12 at u12 e12|-;have s711:=s8.trans (u9.trans (u10.trans s11));have s12:=u7.trans (s711.trans u12);have kc12:=kc.same s12;have n10:l10≠lg:=fun z=>by rw[z,u9 _ _ (s8 _ _ (u7 _ _ hg'))] at h10;cases h10
   have n11:D2≠lg:=fun z=>by rw[z,u10 _ _ (u9 _ _ (s8 _ _ (u7 _ _ hg')))] at hD2;cases hD2
   refine⟨lc,l12,_,_,rfl,rfl,kc12.hq,e12,by rw[qAb,kc12.len,qCa];simp;lia,?_⟩;have kc13:=kc12.add (by lia) (u12 _ _ (s11 _ _ e10)) (u12 _ _ e11);have s13:aH H (upd H12 lc (.lst (cs'.map V.ref++[V.ref l10,V.ref D2]))):=(s'.trans s12).upd_ne' h0c;have ha13:upd H12 lc (.lst (cs'.map V.ref++[V.ref l10,V.ref D2])) la=some (.lst (aZ ks)):=by rw[aM lalc];exact s12 _ _ ha
   have hb13:upd H12 lc (.lst (cs'.map V.ref++[V.ref l10,V.ref D2])) lt=some (.lst (bG ks.length tp)):=by rw[aM ltlc];exact s12 _ _ hb
   have hg13:upd H12 lc (.lst (cs'.map V.ref++[V.ref l10,V.ref D2])) lg=some (.lst (bG (fr.length+2*j) (sG tbl L fr tp))):=by rw[aM lglc];exact s12 _ _ hg'
   generalize upd H12 lc (.lst (cs'.map V.ref++[V.ref l10,V.ref D2]))=H13 at kc13 s13 ha13 hb13 hg13|-;refine⟨_,rfl,_,rfl,_,rfl,_,rfl,iY,fun l14 h14=>?_⟩;have u14:=aH.aF (o:=.lst [.int (tp j),.int (-tp j)]) h14;have e14:upd H13 l14 (.lst [.int (tp j),.int (-tp j)]) l14=_:=aC;generalize upd H13 l14 (.lst [.int (tp j),.int (-tp j)])=H14 at u14 e14|-;refine⟨lg,l14,_,_,rfl,rfl,u14 _ _ hg13,e14,by rw[aK,qCa];simp;lia,?_⟩;have kc14:=kc13.same u14;have nlg':∀a,a∈cs'++[l10,D2]->a≠lg:=fun a ha z=>by
    rcases List.mem_append.mp ha with q | q
    ·exact nlg a q z
    ·rcases List.mem_cons.mp q with q | q
     ·exact n10 (q.symm.trans z)
     ·exact n11 ((List.mem_singleton.mp q).symm.trans z)
   refine⟨(s13.trans u14).upd_ne' h0g,by rw[aM lalg];exact u14 _ _ ha13,by rw[aM ltlg];exact u14 _ _ hb13,cs'++[l10,D2],_,_,_,⟨by rw[aM (Ne.symm lglc)];exact kc14.hq,kc14.len,fun c' a e=>by rw[aM (nlg' a (qAy e))];exact kc14.at_ c' a e⟩,nlg',?_,rfl⟩;rw[aC];have z:=KP (fr.length+2*j) (sG tbl L fr tp);rw[(z7 tbl L fr ks tp).k0 j hj,show fr.length+2*j+1=fr.length+(2*j+1) by lia,(z7 tbl L fr ks tp).k1 j hj] at z;rw[z];rfl
  ·subst eσ;rw[bF] at kc hg';refine⟨_,rfl,jX,fun b2 hb2=>?_⟩;have u8:=aH.aF (o:=.lst [.int 0]) hb2;have e8:upd H' b2 (.lst [.int 0]) b2=_:=aC;generalize upd H' b2 (.lst [.int 0])=H8 at u8 e8|-;refine⟨_,rfl,b2,_,_,rfl,rfl,e8,by lia,by lia,?_,fun b3 hb3=>?_⟩
   ·show 1*((m:Nat):Int).toNat<=qAh;exact qAq (aO (by lia))
   rw[qBb,gR];have u9:=aH.aF (o:=.lst (bG m fun _=>0)) hb3;have e9:upd H8 b3 (.lst (bG m fun _=>0)) b3=_:=aC;generalize upd H8 b3 (.lst (bG m fun _=>0))=H9 at u9 e9|-;refine⟨jX,fun b4 hb4=>?_⟩;have u10:=aH.aF (o:=.lst [.int 1]) hb4;have e10:upd H9 b4 (.lst [.int 1]) b4=_:=aC;generalize upd H9 b4 (.lst [.int 1])=H10 at u10 e10|-;refine⟨b3,b4,_,_,rfl,rfl,aR.of (u10 _ _ e9),aR.of e10,by rw[aK,qCa];simp;lia,fun pd hpd=>?_⟩;have u11:=aH.aF (o:=.lst ((bG m fun _=>0)++[.int 1])) hpd;have e11:upd H10 pd (.lst ((bG m fun _=>0)++[.int 1])) pd=some (.lst (bG (m+1) (sD m))):=by
    rw[aC];have z:=yC m (sD m);rw[show sD m m=1 by unfold sD;rw[if_neg (qDh _),if_pos rfl]] at z;rw[<- z];congr 3;exact dI fun i hi=>by unfold sD;rw[if_pos hi]
   generalize upd H10 pd (.lst ((bG m fun _=>0)++[.int 1]))=H11 at u11 e11|-;have s811:=u8.trans (u9.trans (u10.trans u11));have kc11:=kc.same s811;refine⟨_,rfl,?_⟩;dsimp only[iC,qCl,qCm];refine xW (m:=m+1) (n:=fr.length+2*ks.length) (A:=sA m fr ks) (due:=sD m) (g:=sG tbl L fr tp) (FI m6 cnt) (cs:=cs') ⟨kc11.hq,kc11.len,kc11.at_,e11⟩ (s811 _ _ hg') sgn fun R H12 s12 told=>?_;have sd0:∀i,i<m->sD m i=0:=fun i hi=>by unfold sD;rw[if_pos hi]
   have sd1:sD m m=1:=by unfold sD;rw[if_neg (qDh _),if_pos rfl]
   have s812:=s811.trans s12;rcases told with ⟨lw,lp,wts,ps,dw,XX,Y,to⟩ | ⟨lp,ps,dw,Y,to⟩ | ⟨lw,lp,wts,ps,dw,XX,ZZ,to⟩
   ·obtain⟨ce,hk⟩:=Cm.Fi (gU m fr ks) (z7 tbl L fr ks tp) r0 to.d0 sd0 sd1 to.x0 to.meets to.cols to.same;have zI:=to.d0;have sdw:Sm 13 dw:=DV (n:=0) (by lia) to.dm (yA m fr ks) (yB m);have sZ:∀i,Sm (80000+c+16) (rr*Y i):=fun i=>DW (by lia) to.ym (yA m fr ks) (yB m) r0 sG' i;have a1:fK [V.str "best",V.ref lw,V.ref lp] 1=some (.ref lw):=rfl;have a2:fK [V.str "best",V.ref lw,V.ref lp] 2=some (.ref lp):=rfl;have dd0:0<dw*d:=qGy zI d0;dsimp only[aY];refine⟨_,rfl,R,_,_,_,rfl,rfl,cA.of to.tup,a2,lp,rfl,⟨_,aR.of to.fp.hr⟩,?_⟩;refine qL (xs:=ps.map V.ref) (fun i ys H'=>∃fs:List Addr,ys=fs.map V.ref/\fs.length=i/\∀(j:Nat) (w:Addr),fs[j]?=some w->H' w=some (eJ (rr*Y j) (dw*d))) ?_ ⟨[],rfl,rfl,fun j w e=>by cases e⟩ (aR.of to.fp.hr) (by rw[qAb,to.fp.len];exact qAq (aO (by lia))) (fun i y H13 kk kk0 ys s13 hy iv g1 g2=>?_) fun lq ys H13 hlq s13 iv hd13=>?_
    ·rintro i ys H1 H2 st ⟨fs,e1,e2,e3⟩;exact⟨fs,e1,e2,fun j w e=>st _ _ (e3 j w e)⟩
    ·obtain⟨fs,rfl,fl,fa⟩:=iv;obtain⟨wq,hw',rfl⟩:=c9 hy;have hf:=s13 _ _ (to.fp.at_ i wq hw');obtain⟨t1,t2,_,t3⟩:=cW (X:=Y i) zI;have stb:Sm 13 (tb (Y i) dw):=kC (X:=Y i) zI sdw;refine⟨_,rfl,wq,_,_,_,rfl,rfl,cA.of hf,rfl,_,rfl,wq,_,_,_,rfl,rfl,cA.of hf,rfl,_,rfl,_,_,rfl,rfl,stb.mb sL (by decide) (by lia),?_⟩;dsimp only[iC,qCl,qCm];have tb0:0<tb (Y i) dw*L:=qGy (by lia) L0;refine pC (Int.ne_of_gt tb0) ((stb.mul sL).mono (by lia)) fun pf hpf=>?_;have u14:=aH.aF (o:=eJ (ta (Y i) dw) (tb (Y i) dw*L)) hpf;refine g1 _ _ u14 ⟨fs++[pf],by rw[qAr];rfl,by rw[qAm,fl];rfl,fun j w e=>?_⟩;rcases qAl j fs.length with z | z
     ·rw[qAz z] at e;exact u14 _ _ (fa j w e)
     ·rw[qAv z] at e;have hj:j-fs.length=0:=by
       have:=(List.getElem?_eq_some_iff.mp e).1;rw[qBc] at this;lia
      rw[hj] at e;obtain rfl:=Option.some.inj e;rw[show j=i by lia,aC];refine congrArg some (fV tb0 dd0 ?_);rw[hrr];exact FH t1
    ·obtain⟨fs,rfl,fl,fa⟩:=iv;rw[qAb,to.fp.len] at fl;have hfr13:=s13 _ _ (s812 _ _ (s' _ _ hfr));have hw13:=s13 _ _ to.fw.hr;have wl:wts.length=fr.length+2*ks.length:=to.fw.len;refine⟨_,rfl,_,rfl,R,_,_,_,rfl,rfl,cA.of (s13 _ _ to.tup),a1,r,lw,rfl,⟨_,aR.of hfr13⟩,⟨_,aR.of hw13⟩,?_⟩;refine AZ (xs:=aZ fr) (xs':=wts.map V.ref) (fun σ'=>∃o0 o1:Option V,σ'=[o0,o1]) (fun i ys H'=>ys=aZ (eU fr XX i)) (fun i ys H1 H2 st h=>h) ⟨_,_,rfl⟩ rfl (aR.of hfr13) (aR.of hw13) (by rw[bF,qAb];lia) (by rw[bF];exact qAq (aO (by lia))) (fun i x y tt' σ1 H14 kk kk0 ys hσ s14 hx hy ht iv g1 g2=>?_) fun lh ys H14 hlh s14 iv hd14=>?_
     ·obtain⟨o0,o1,rfl⟩:=hσ;obtain⟨g,hg,rfl⟩:=eM hx;obtain⟨w',hw',rfl⟩:=c9 hy;have hfw:=s14 _ _ (s13 _ _ (to.fw.at_ i w' hw'));refine⟨tt',_,rfl,cA.of ht,rfl,?_⟩;refine⟨_,_,rfl,_,_,rfl,rfl,_,rfl,iY,fun z1 hz1=>?_⟩;have u15:=aH.aF (o:=.tup [.int 0,.int 1]) hz1;have x15:upd H14 z1 (.tup [.int 0,.int 1]) z1=_:=aC;generalize upd H14 z1 (.tup [.int 0,.int 1])=H15 at u15 x15|-;refine⟨_,_,jJ (u15 _ _ hfw),.tup (cA.of x15) (.cons (.int _) (.cons (.int _) .nil)),lO _ _,lO _ _,_,rfl,?_⟩;rw[pG zI];by_cases e:XX i≠0
      ·refine cY (fun _=>?_) (fun no=>absurd (decide_eq_true e) no);refine⟨_,rfl,g1 _ _ _ ⟨_,_,rfl⟩ u15 ?_⟩;rw[rH,if_pos e,fH hg,iv];unfold aZ;rw[qAr];rfl
      ·refine cY (fun y=>absurd (of_decide_eq_true y) e) (fun _=>g2 _ _ ⟨_,_,rfl⟩ u15 ?_);rw[rH,if_neg e];exact iv
     ·rw[bF] at iv;subst iv;have hq14:=s14 _ _ hd13;refine⟨_,rfl,_,rfl,_,rfl,lq,_,rfl,aR.of hq14,fun lz hlz=>?_⟩;have u15:=aH.aF (o:=.lst (fY (fs.map V.ref) none (some (m:Int)))) hlz;have e15:upd H14 lz (.lst (fY (fs.map V.ref) none (some (m:Int)))) lz=some (.lst ((fs.take m).map V.ref)):=by
       rw[aC,Dd,qOt]
      generalize upd H14 lz (.lst (fY (fs.map V.ref) none (some (m:Int))))=H15 at u15 e15|-;have efm:fs[m]?=some fs[m]:=qAd (by lia);have am:fK (fs.map V.ref) (m:Int)=some (.ref fs[m]):=eY (by rw[qAo,efm];rfl);refine⟨_,rfl,_,rfl,lq,_,_,_,rfl,rfl,aR.of (u15 _ _ hq14),am,_,rfl,LH,fun R2 hR2=>?_⟩;have u16:=aH.aF (o:=.tup [.ref lz,.ref fs[m],.ref lh]) hR2;have s1316:=s14.trans (u15.trans u16);have sAll:=s'.trans (s812.trans (s13.trans s1316));refine k R2 lz fs[m] lh _ (fs.take m) dw (fun i=>rr*Y i) XX (fun j=>XX (fr.length+2*j)-XX (fr.length+(2*j+1))) ((s'.trans (s812.trans (s13.trans s14))).free hlz) sAll aC ⟨u16 _ _ e15,by rw[qEn];lia,fun j w e=>?_⟩ (s1316 _ _ (fa m _ efm)) (u16 _ _ (u15 _ _ hd14)) sdw sZ ?_ fun q' hq'=>?_
      ·have hj:j<m:=by
        have:=(List.getElem?_eq_some_iff.mp e).1;rw[qEn] at this;lia
       rw[qHo hj] at e;exact s1316 _ _ (fa j w e)
      ·rw[hrr];exact ce
      ·obtain⟨j,hj,ej⟩:=qCq hq';have eg:gN ks j=q':=fH (by rw[qAd hj,ej]);have z:=hk j hj;have e2:ks.getD j 0=q':=eg;rw[e2] at z;rw[z,<- eg,<- sg j hj,show tp j=tt j from if_pos hj,qCp (tt j)]
   ·exact(Cm.Fj (gU m fr ks) sd0 sd1 no to.cols to.neg).elim
   ·exact(Cm.IP (gU m fr ks) (z7 tbl L fr ks tp) ind to.z0 to.away to.more).elim
theorem DX (m:Nat) (y:Nat->Int) (g:Nat):Cm.pt m bt y g=Cm.dot m y (bt g):=Wg.bB fun i _=>qCp _ _
theorem lR {m:Nat}{ks:List Nat}{g:Nat} (ind:Cm.iI m (fS ks)) (h:g4 m ks g=true):Cm.Tl m bt ks g:=fun y hy=>by
 rw[DX];refine Cm.Told.dot ind (gD.mp h) fun v hv=>?_;obtain⟨k,hk,rfl⟩:=List.mem_map.mp hv;rw[<- DX];exact hy k hk
theorem z8:∀(m:_root_.Fin 7) (g:_root_.Fin 64) (i:_root_.Fin 6),g.1<2^m.1->i.1<m.1->bt g.1 i.1=1*bt (2^m.1-1) i.1 + -1*bt (2^m.1-1-g.1) i.1:=by decide +kernel
theorem iL {m:Nat} (m6:m<=6):2^m<=64:=qBr (n:=2) (by decide) m6
theorem pN {m:Nat}{ks:List Nat}{g:Nat} (m6:m<=6) (hg:g<2^m) (ind:Cm.iI m (fS ks)) (hN:2^m-1∈ks) (h:g4 m ks (2^m-1-g)=true):g4 m ks g=true:=by
 rw[gD] at h|-;have t:=Cm.Told.PC 1 (-1) (Cm.Told.self ind (v:=bt (2^m-1)) (List.mem_map.mpr ⟨_,hN,rfl⟩)) h;intro i hi;have:=iL m6;rw[Cm.tF ind (f:=bt g) (g:=fun i=>1*bt (2^m-1) i + -1*bt (2^m-1-g) i) (fun i hi=>z8 ⟨m,by lia⟩ ⟨g,by lia⟩ ⟨i,by lia⟩ hg hi) i hi];exact t i hi
def Pr (m g:Nat):Prop:=1<=g/\g<2^m-1
def jM (m:Nat):List Nat:=(qAn (2^m-2)).map (· + 1)
theorem jN {m g:Nat}:g∈jM m↔Pr m g:=by
 unfold jM Pr;rw[qGj];constructor
 ·rintro⟨j,hj,rfl⟩;have:=List.mem_range.mp hj;lia
 ·rintro⟨a,b⟩;exact⟨g-1,List.mem_range.mpr (by lia),by lia⟩
theorem FJ (m:Nat):(jM m).Nodup:=List.pairwise_map.mpr (List.nodup_range.imp fun h e=>h (by lia))
theorem pO {m:Nat} (m6:m<=6):(jM m).length<=62:=by
 unfold jM;rw[qAb,qAu];have:=iL m6;lia
def cX (m:Nat) (ks:List Nat):List Nat:=(jM m).filter fun g=>!g4 m ks g
theorem dJ {m g:Nat}{ks:List Nat}:g∈cX m ks↔Pr m g/\g4 m ks g=false:=by
 unfold cX;rw[qKm,jN];cases g4 m ks g <;> simp
theorem FK {l:List Nat} (nd:l.Nodup){p q:Nat->Bool}{a b:Nat} (ab:a≠b) (ha:a∈l) (hb:b∈l) (pa:p a=true) (pb:p b=true) (qa:q a=false) (qb:q b=false) (sub:∀x,q x=true->p x=true):(l.filter q).length+2<=(l.filter p).length:=by
 have h:=Cm.sub_len (l:=a::b::l.filter q) (l':=l.filter p) ?_ ?_
 ·simpa using h
 ·refine List.nodup_cons.mpr ⟨fun z=>?_,List.nodup_cons.mpr ⟨fun z=>?_,nd.filter _⟩⟩
  ·rcases List.mem_cons.mp z with z | z
   ·exact ab z
   ·rw[(List.mem_filter.mp z).2] at qa;cases qa
  ·rw[(List.mem_filter.mp z).2] at qb;cases qb
 ·intro x hx;rcases List.mem_cons.mp hx with rfl | hx
  ·exact List.mem_filter.mpr ⟨ha,pa⟩
  ·rcases List.mem_cons.mp hx with rfl | hx
   ·exact List.mem_filter.mpr ⟨hb,pb⟩
   ·obtain⟨a,b⟩:=List.mem_filter.mp hx;exact List.mem_filter.mpr ⟨a,sub x b⟩
def dZ (m:Nat) (ks hl:List Nat):List Nat:=hl.foldl (fun acc g=>if g4 m acc g=true then acc else acc++[g]) ks
theorem gF (m:Nat) (ks hl:List Nat) (g:Nat):dZ m ks (hl++[g])=if g4 m (dZ m ks hl) g=true then dZ m ks hl else dZ m ks hl++[g]:=by
 unfold dZ;rw[qHq];rfl
theorem z9 (ks:List Nat) (k:Nat):fS (ks++[k])=fS ks++[bt k]:=by unfold fS;rw[qAr];rfl
theorem lS {m:Nat}{ks:List Nat}{g:Nat} (ind:Cm.iI m (fS ks)) (h:¬g4 m ks g=true):Cm.iI m (fS (ks++[g])):=by
 rw[z9];exact ind.snoc (Cm.qX fun z=>h (gD.mpr z))
theorem pP {m:Nat}{ks:List Nat}{g k:Nat} (h:g4 m ks g=true):g4 m (ks++[k]) g=true:=by
 rw[gD] at h|-;rw[z9];exact h.snoc
theorem pQ {m:Nat}{ks:List Nat}{g:Nat} (ind:Cm.iI m (fS ks)) (h:g∈ks):g4 m ks g=true:=gD.mpr (Cm.Told.self ind (List.mem_map.mpr ⟨g,h,rfl⟩))
theorem lT (m:Nat) (ks hl:List Nat):∃t,dZ m ks hl=ks++t/\∀k,k∈t->k∈hl:=by
 induction hl using Cm.snocInd with
 | nil=>exact⟨[],(qDm _).symm,fun k hk=>by cases hk⟩
 | append_singleton hl g ih =>
  obtain⟨t,e,h⟩:=ih;rw[gF];split
  ·exact⟨t,e,fun k hk=>qCc _ (h k hk)⟩
  ·refine⟨t++[g],by rw[e,qHr],fun k hk=>?_⟩;rcases List.mem_append.mp hk with z | z
   ·exact qCc _ (h k z)
   ·exact qAx _ z
theorem lU {m:Nat}{ks:List Nat} (ind:Cm.iI m (fS ks)) (hl:List Nat):Cm.iI m (fS (dZ m ks hl)):=by
 induction hl using Cm.snocInd with
 | nil=>exact ind
 | append_singleton hl g ih =>
  rw[gF];split
  ·exact ih
  ·rename_i h;exact lS ih h
theorem rJ {m:Nat}{ks:List Nat}{g:Nat} (h:g4 m ks g=true) (hl:List Nat):g4 m (dZ m ks hl) g=true:=by
 induction hl using Cm.snocInd with
 | nil=>exact h
 | append_singleton hl g ih =>
  rw[gF];split
  ·exact ih
  ·exact pP ih
theorem mQ {m:Nat}{ks:List Nat} (ind:Cm.iI m (fS ks)){hl:List Nat}:∀g,g∈hl->g4 m (dZ m ks hl) g=true:=by
 induction hl using Cm.snocInd with
 | nil=>intro g hg;cases hg
 | append_singleton hl q ih =>
  intro g hg;have i2:=lU ind (hl++[q]);rw[gF] at i2|-;rcases List.mem_append.mp hg with z | z
  ·split
   ·exact ih g z
   ·exact pP (ih g z)
  ·obtain rfl:=List.mem_singleton.mp z;split
   ·assumption
   ·rename_i h;rw[if_neg h] at i2;exact pQ i2 (qAx _ (List.mem_singleton.mpr rfl))
theorem DY {m:Nat}{ks:List Nat} (m6:m<=6) (ind:Cm.iI m (fS ks)) (hN:2^m-1∈ks) (c:(cX m ks).length+2*ks.length<=64){hl:List Nat} (hp:∀g,g∈hl->Pr m g):(cX m (dZ m ks hl)).length+2*(dZ m ks hl).length<=64:=by
 induction hl using Cm.snocInd with
 | nil=>exact c
 | append_singleton hl g ih =>
  have ih:=ih fun q hq=>hp q (qCc _ hq);have i1:=lU ind hl;obtain⟨t,e,_⟩:=lT m ks hl;have hN1:2^m-1∈dZ m ks hl:=by rw[e];exact qCc _ hN
  rw[gF];split
  ·exact ih
  ·rename_i no;have pg:Pr m g:=hp g (qAx _ (List.mem_singleton.mpr rfl));have i2:=lS i1 no;have g2:g<2^m:=by have:=pg.2;lia
   have hN2:2^m-1∈dZ m ks hl++[g]:=qCc _ hN1;have self:g4 m (dZ m ks hl++[g]) g=true:=pQ i2 (qAx _ (List.mem_singleton.mpr rfl));have pc:Pr m (2^m-1-g):=⟨by have:=pg.2;lia,by have:=pg.1;have:=pg.2;lia⟩;have nc:¬g4 m (dZ m ks hl) (2^m-1-g)=true:=fun z=>no (pN m6 g2 i1 hN1 z);have sc:g4 m (dZ m ks hl++[g]) (2^m-1-g)=true:=by
    refine pN m6 (by have:=pc.2;lia) i2 hN2 ?_;rw[show 2^m-1-(2^m-1-g)=g by have:=pg.2;lia];exact self
   have ne:g≠2^m-1-g:=fun z=>by
    have m1:1<=m:=by
     refine qNj fun z=>?_;rw[z] at pg;have:=pg.1;have:=pg.2;lia
    have:=pg.2;obtain⟨u,rfl⟩:∃u,m=u+1:=⟨m-1,by lia⟩;rw[qIh] at z this;lia
   have z:=FK (FJ m) (p:=fun x=>!g4 m (dZ m ks hl) x) (q:=fun x=>!g4 m (dZ m ks hl++[g]) x) ne (jN.mpr pg) (jN.mpr pc) (by rw[qJz] at no;rw[no];rfl) (by rw[qJz] at nc;rw[nc];rfl) (by rw[self];rfl) (by rw[sc];rfl) fun x hx=>by
    cases q:g4 m (dZ m ks hl) x with
    | false=>rfl
    | true=>rw[pP q] at hx;cases hx
   have z:(cX m (dZ m ks hl++[g])).length+2<=(cX m (dZ m ks hl)).length:=z;rw[qAm,qBc];lia
theorem Aa {m:Nat}{ks hl:List Nat}:(cX m ks).filter (fun g=>!g4 m (dZ m ks hl) g)=cX m (dZ m ks hl):=by
 unfold cX;rw[List.filter_filter];refine qNm fun g _=>?_;cases q:g4 m ks g with
 | false=>simp
 | true=>rw[rJ q];rfl
theorem Bs:∀(m:_root_.Fin 7) (g:_root_.Fin 64),1<=g.1->g.1<2^m.1-1->Cm.pt m.1 bt (fun i=>bt g.1 i*m.1-Cm.pt m.1 bt (fun _=>1) g.1) (2^m.1-1)=0/\Cm.pt m.1 bt (fun i=>bt g.1 i*m.1-Cm.pt m.1 bt (fun _=>1) g.1) g.1≠0:=by decide +kernel
theorem rK {m g:Nat} (m6:m<=6) (pg:Pr m g):¬Cm.Tl m bt [2^m-1] g:=fun z=>by
 have:=iL m6;obtain⟨a,b⟩:=Bs ⟨m,by lia⟩ ⟨g,by have:=pg.2;lia⟩ pg.1 pg.2;exact b (z _ fun k hk=>by rw[List.mem_singleton.mp hk];exact a)
theorem DZ:∀(m:_root_.Fin 7) (g:_root_.Fin 64),1<=g.1->g.1<2^m.1->1<=Cm.pt m.1 bt (fun _=>1) g.1:=by decide +kernel
structure nY (m:Nat) (tb:Nat->Int) (ks:List Nat) (Z:Nat->Int) (d ev:Int):Prop where
 ind:Cm.iI m (fS ks)
 hN:2^m-1∈ks
 kP:∀k,k∈ks->k=2^m-1\/Pr m k
 cnt:(cX m ks).length+2*ks.length<=64
 d0:0<d
 sd:Sm (24*ks.length) d
 sZ:∀i,Sm (80000+24*ks.length-8) (Z i)
 whole:Cm.pt m bt Z (2^m-1)=tb (2^m-1)*d
 OS:Cm.Oz m bt (2^m-1) (Pr m) ks fun g=>tb g*d-Cm.pt m bt Z g
 low:∀g,g∈cX m ks->tb g*d-Cm.pt m bt Z g<=ev
 old:∀k,k∈ks->k≠2^m-1->ev<=tb k*d-Cm.pt m bt Z k
theorem tQ (m:Nat) (y z:Nat->Int) (c:Int) (g:Nat):Cm.pt m bt (fun i=>z i-c*y i) g=Cm.pt m bt z g-c*Cm.pt m bt y g:=by
 have e:Cm.pt m bt (fun i=>z i-c*y i) g=Wg.sm m (fun i=>bt g i*z i + -c*(bt g i*y i)):=Wg.bB fun i _=>by grind
 rw[e,Wg.fL,Wg.bO];unfold Cm.pt;grind
theorem nY.OT {m:Nat}{tb:Nat->Int}{ks:List Nat}{Z:Nat->Int}{d ev:Int} (h:nY m tb ks Z d ev):1<=ks.length:=qGd h.hN
theorem nY.Em {m:Nat}{tb:Nat->Int}{ks:List Nat}{Z:Nat->Int}{d ev:Int} (m6:m<=6) (h:nY m tb ks Z d ev):∀k,k∈ks->k<64:=fun k hk=>by
 have:=iL m6;have:=qGx m;rcases h.kP k hk with z | z
 ·lia
 ·have:=z.2;lia
theorem nY.sP {m:Nat}{tb:Nat->Int}{ks:List Nat}{Z:Nat->Int}{d ev:Int} (m6:m<=6) (h:nY m tb ks Z d ev) (g:Nat):Sm (80000+24*ks.length) (Cm.pt m bt Z g):=by
 have l1:=h.OT;refine(rD (a:=2+(80000+24*ks.length-8)) m fun i _=>(rF g i).mul (h.sZ i)).mono (by lia)
theorem nY.no {m:Nat}{tb:Nat->Int}{ks:List Nat}{Z:Nat->Int}{d ev:Int} (m6:m<=6) (h:nY m tb ks Z d ev) (fn:cX m ks≠[]) (y:Nat->Int) (hy:∀k,k∈ks->Cm.pt m bt y k=0):∃g,g∈cX m ks/\Cm.pt m bt y g<=0:=by
 obtain⟨g,hg⟩:=List.exists_mem_of_ne_nil _ fn;obtain⟨pg,tg⟩:=dJ.mp hg;have:=iL m6;have g2:g<2^m:=by have:=pg.2;lia
 have pc:Pr m (2^m-1-g):=⟨by have:=pg.2;lia,by have:=pg.1;have:=pg.2;lia⟩;by_cases z:Cm.pt m bt y g<=0
 ·exact⟨g,hg,z⟩
 ·refine⟨2^m-1-g,dJ.mpr ⟨pc,?_⟩,?_⟩
  ·cases q:g4 m ks (2^m-1-g) with
   | false=>rfl
   | true=>rw[pN m6 g2 h.ind h.hN q] at tg;cases tg
  ·have e:Cm.pt m bt y g=Cm.pt m bt y (2^m-1) + -1*Cm.pt m bt y (2^m-1-g):=by
    unfold Cm.pt;rw[<- Wg.bO,<- Wg.fL];exact Wg.bB fun i hi=>by rw[z8 ⟨m,by lia⟩ ⟨g,by lia⟩ ⟨i,by lia⟩ g2 hi];grind
   rw[hy _ h.hN] at e;lia
theorem kN {gs:List Nat}{j:Nat} (h:j<gs.length):gN gs j∈gs:=Cm.mem_getD h
theorem nY.grow {m:Nat}{tb:Nat->Int}{ks:List Nat}{Z:Nat->Int}{d ev:Int} (h:nY m tb ks Z d ev){lk lam mu:Nat->Int}{dw e2:Int} (ce:Cm.Cert m bt (cX m ks) ks lk dw e2 lam mu):ks.length<(dZ m ks (eU (cX m ks) lam (cX m ks).length)).length:=by
 obtain⟨c,hc,ne⟩:=ce.some;have hm:gN (cX m ks) c∈eU (cX m ks) lam (cX m ks).length:=gW.mpr ⟨c,hc,ne,rfl⟩;have t:=mQ h.ind _ hm;obtain⟨t',e,_⟩:=lT m ks (eU (cX m ks) lam (cX m ks).length);cases t' with
 | nil =>
  rw[e,qDm,(dJ.mp (kN hc)).2] at t;cases t
 | cons x xs=>rw[e,qAm,qCh];lia
theorem nY.step {m:Nat}{tb:Nat->Int}{ks:List Nat}{Z Z':Nat->Int}{d ev dw:Int}{lam mu:Nat->Int} (m1:1<=m) (m6:m<=6) (h:nY m tb ks Z d ev) (ce:Cm.Cert m bt (cX m ks) ks (fun g=>tb g*(dw*d)-Cm.pt m bt Z' g) dw (Z' m) lam mu)
  (same:∀k,k∈ks->Cm.pt m bt Z' k=dw*Cm.pt m bt Z k) (sw:Sm 13 dw) (sZ':∀i,Sm (80000+24*ks.length+16) (Z' i)) :
  nY m tb (dZ m ks (eU (cX m ks) lam (cX m ks).length)) Z' (dw*d) (Z' m):=by
 have hlP:∀g,g∈eU (cX m ks) lam (cX m ks).length->Pr m g:=fun g hg=>by
  obtain⟨c,hc,_,rfl⟩:=gW.mp hg;exact(dJ.mp (kN hc)).1
 have gr:=h.grow ce;have told:∀g,g∈eU (cX m ks) lam (cX m ks).length->g4 m (dZ m ks (eU (cX m ks) lam (cX m ks).length)) g=true:=mQ h.ind;have hmem:∀c,c<(cX m ks).length->lam c≠0->(cX m ks).getD c 0∈eU (cX m ks) lam (cX m ks).length:=fun c hc ne=>gW.mpr ⟨c,hc,ne,rfl⟩;have idx:∀g,g∈eU (cX m ks) lam (cX m ks).length->∃c,c<(cX m ks).length/\lam c≠0/\(cX m ks).getD c 0=g:=fun g hg=>gW.mp hg;have hold:∀g,g∈eU (cX m ks) lam (cX m ks).length->tb g*(dw*d)-Cm.pt m bt Z' g=Z' m:=fun g hg=>by
  obtain⟨c,hc,ne,rfl⟩:=gW.mp hg;exact ce.hold c hc ne
 obtain⟨t,e,ht⟩:=lT m ks (eU (cX m ks) lam (cX m ks).length);have ind':=lU h.ind (eU (cX m ks) lam (cX m ks).length);have cnt':=DY m6 h.ind h.hN h.cnt hlP;have more:=fun g (z:g4 m ks g=true)=>rJ z (eU (cX m ks) lam (cX m ks).length);generalize dZ m ks (eU (cX m ks) lam (cX m ks).length)=ks' at *;generalize eU (cX m ks) lam (cX m ks).length=hl at *;have sub:∀k,k∈ks->k∈ks':=fun k hk=>by rw[e];exact qCc _ hk
 have new:∀k,k∈ks'->k∈ks\/k∈hl:=fun k hk=>by
  rw[e] at hk;rcases List.mem_append.mp hk with z | z
  ·exact .inl z
  ·exact .inr (ht k z)
 have IL:Z' m<=dw*ev:=by
  refine ce.IL (y:=fun i=>Z' i-dw*Z i) (fun k hk=>?_) fun g hg=>?_
  ·rw[tQ,same k hk];lia
  ·rw[tQ];have:=qCo (h.low g hg) (qCe ce.zI);rw[Int.mul_sub] at this;have e1:tb g*(dw*d)=dw*(tb g*d):=by grind
   show Cm.pt m bt Z' g-dw*Cm.pt m bt Z g+(tb g*(dw*d)-Cm.pt m bt Z' g)<=dw*ev;lia
 have teq:∀g,Cm.Tl m bt ks g->Cm.pt m bt Z' g=dw*Cm.pt m bt Z g:=fun g hg=>by
  have:=hg (fun i=>Z' i-dw*Z i) fun k hk=>by rw[tQ,same k hk];lia
  rw[tQ] at this;lia
 have lks:∀g,Cm.Tl m bt ks g->tb g*(dw*d)-Cm.pt m bt Z' g=dw*(tb g*d-Cm.pt m bt Z g):=fun g hg=>by rw[teq g hg];grind
 have old1:∀k,k∈ks->k≠2^m-1->Z' m<=tb k*(dw*d)-Cm.pt m bt Z' k:=fun k hk ne=>by
  rw[lks k (Cm.Tl.self hk)];exact qJx IL (qCo (h.old k hk ne) (qCe ce.zI))
 have p64:=iL m6;refine⟨ind',sub _ h.hN,fun k hk=>?_,cnt',qGy ce.zI h.d0,?_,fun i=>(sZ' i).mono (by lia),?_,?_,fun g hg=>?_,fun k hk ne=>?_⟩
 ·rcases new k hk with z | z
  ·exact h.kP k z
  ·exact .inr (hlP k z)
 ·exact(sw.mul h.sd).mono (by lia)
 ·rw[teq _ (Cm.Tl.self h.hN),h.whole];grind
 ·refine ce.step h.OS sub (fun k hk=>?_) (fun c hc ne=>lR ind' (told _ (hmem c hc ne))) (fun g hg=>(dJ.mp hg).1) (fun g pg nt=>?_) (fun g _ tg=>lks g tg) h.kP h.hN old1 (fun g pg=>?_) ?_
  ·rcases new k hk with z | z
   ·exact .inl z
   ·exact .inr (idx k z)
  ·refine dJ.mpr ⟨pg,?_⟩;cases q:g4 m ks g with
   | false=>rfl
   | true=>exact absurd (lR h.ind q) nt
  ·exact DZ ⟨m,by lia⟩ ⟨g,by have:=pg.2;lia⟩ pg.1 (by show g<2^m;have:=pg.2;lia)
  ·have:2<=2^m:=qBr (n:=2) (i:=1) (by decide) m1;have:=DZ ⟨m,by lia⟩ ⟨2^m-1,by lia⟩ (by show 1<=2^m-1;lia) (by show 2^m-1<2^m;lia);show 0<Cm.pt m bt (fun _=>1) (2^m-1);exact Int.lt_of_lt_of_le (by decide) this
 ·obtain⟨pg,tg⟩:=dJ.mp hg;refine ce.low g (dJ.mpr ⟨pg,?_⟩);cases q:g4 m ks g with
  | false=>rfl
  | true=>rw[more g q] at tg;cases tg
 ·rcases new k hk with z | z
  ·exact old1 k z ne
  ·rw[hold k z];exact qDq _
theorem FL (m:Nat):fZ 1 (2^m-2)=aZ (jM m):=by
 unfold fZ aZ jM;rw[qCz];refine qMm fun j _=>?_;show V.int (1+(j:Int))=V.int ((j+1:Nat):Int);congr 1;lia
theorem Kp.add {ks:List Nat}{X:Nat->Int}{d:Int}{H:Hp}{q w:Addr}{ws:List Addr}{k:Nat} (h:Kp ks X d H q ws) (nk:k∉ks) (hw:H w=some (eJ (X k) d)):Kp (ks++[k]) X d (upd H q (.dK (putK ((ks.zip ws).map fun kw=>((Sum.inl (kw.1:Int):Key),V.ref kw.2)) (Sum.inl (k:Int)) (.ref w)))) q (ws++[w]):=by
 have no:¬(((ks.zip ws).map fun kw=>((Sum.inl (kw.1:Int):Key),V.ref kw.2)).any fun kv=>decide (kv.1=Sum.inl (k:Int)))=true:=fun z=>by
  obtain⟨kv,hkv,e⟩:=List.any_eq_true.mp z;obtain⟨kw,hkw,rfl⟩:=List.mem_map.mp hkv;have e:(kw.1:Int)=(k:Int):=Sum.inl.inj (of_decide_eq_true e);have e:kw.1=k:=by lia
  exact nk (e▸(qGs (a:=kw.1) (b:=kw.2) hkw).1)
 have ne:∀(a:Addr) (y:Int),H a=some (eJ y d)->a≠q:=fun a y e z=>by rw[z,h.hd] at e;cases e
 refine⟨?_,by rw[qAm,qAm,h.len];rfl,fun j a e=>?_⟩
 ·rw[aC];unfold putK;rw[if_neg no,qKl h.len.symm,qAr];rfl
 ·rcases qAl j ws.length with z | z
  ·rw[qAz z] at e;have w':=h.at_ j a e;rw[aM (ne _ _ w'),w'];unfold gN;rw[qAk,qAk,qAz (by rw[<- h.len];exact z)]
  ·rw[qAv z] at e;have hj:j-ws.length=0:=by
    have:=(List.getElem?_eq_some_iff.mp e).1;rw[qBc] at this;lia
   rw[hj] at e;obtain rfl:=Option.some.inj e;rw[aM (ne _ _ hw),hw];unfold gN;rw[qAk,qAv (by rw[<- h.len];exact z),<- h.len,hj];rfl
def z0 (x:Int) (i:Nat):Int:=if i=0 then x else 0
theorem Hb {m:Nat} (m1:1<=m) (m6:m<=6) (x:Int):Cm.pt m bt (z0 x) (2^m-1)=x:=by
 unfold Cm.pt;rw[Wg.fU (k:=0) (by lia) fun i _ ne=>by show bt _ i*(if i=0 then x else 0)=0;rw[if_neg ne,qBu],lP ⟨m,by lia⟩ ⟨0,by lia⟩ (by show 0<m;lia)];show 1*(if 0=0 then x else 0)=x;rw[if_pos rfl,qCx]
theorem OU {m:Nat}{tb:Nat->Int} (m1:1<=m) (m6:m<=6) (st:∀j,Sm 80000 (tb j)):∃ev,nY m tb [2^m-1] (z0 (tb (2^m-1))) 1 ev:=by
 obtain⟨ev,hev⟩:∃ev,∀g,g∈cX m [2^m-1]->tb g*1-Cm.pt m bt (z0 (tb (2^m-1))) g<=ev:=by
  by_cases e:cX m [2^m-1]=[]
  ·exact⟨0,fun g hg=>by rw[e] at hg;cases hg⟩
  ·obtain⟨g,_,mx⟩:=Cm.sU (fun g=>tb g*1-Cm.pt m bt (z0 (tb (2^m-1))) g) e;exact⟨_,mx⟩
 have ind:Cm.iI m (fS [2^m-1]):=lS (ks:=[]) (fun r hr=>by cases hr) fun z=>by
  have z:=gD.mp z 0 (by lia);have z:bt (2^m-1) 0=0:=z;rw[lP ⟨m,by lia⟩ ⟨0,by lia⟩ (by show 0<m;lia)] at z;cases z
 refine⟨ev,ind,List.mem_singleton.mpr rfl,fun k hk=>.inl (List.mem_singleton.mp hk),?_,by decide,Sm.of 2 (by decide) (by show 2<=24*1;decide),fun i=>?_,by rw[Hb m1 m6,qFe],?_,hev,fun k hk ne=>absurd (List.mem_singleton.mp hk) ne⟩
 ·have:=qEq (fun g=>!g4 m [2^m-1] g) (jM m);have:=pO m6;show(List.filter (fun g=>!g4 m [2^m-1] g) (jM m)).length+2*1<=64;lia
 ·show Sm _ (if i=0 then tb (2^m-1) else 0);split
  ·exact(st _).mono (by show 80000<=80000+24*1-8;decide)
  ·exact Sm.zero
 ·intro S _ y _ _ g pg tg _;exact absurd tg (rK m6 pg)
theorem FN {m:Nat} (m1:1<=m) (m6:m<=6) (ind:Cm.iI m (fS [2^m-1])) (e:cX m [2^m-1]=[]):m=1:=by
 rcases qAl 1 m with z | z
 ·have h2:2^2<=2^m:=qBr (by decide) z;have p1:Pr m 1:=⟨by decide,by lia⟩;have:1∈cX m [2^m-1]:=dJ.mpr ⟨p1,by
   cases q:g4 m [2^m-1] 1 with
   | false=>rfl
   | true=>exact absurd (lR ind q) (rK m6 p1)⟩
  rw[e] at this;cases this
 ·lia
def Hc:Sp:=fun vs H Q _=>∃(p:Addr) (m n:Nat) (tb:Nat->Int),vs=[.ref p,.int (m:Int)]/\H p=some (.lst (bG n tb))/\1<=m/\m<=6/\n=2^m/\(∀j,Sm 80000 (tb j)) /\
 ∀(l:Addr) (H':Hp) (ps:List Addr) (ks:List Nat) (Z:Nat->Int) (d ev:Int),H l=none->aH H H'->j4 m Z d H' l ps->nY m tb ks Z d ev->cX m ks=[]->Q (.ref l) H'
theorem lV:aT ["table","many","whole","kept","shares","free","found","group"] ["table","many"] (aI Js):=by constructor<;>first|rfl|decide +kernel
theorem KR {f1 f2 f3 f4:Addr}{fd1 fd2 fd3 fd4:qBo} (t:Tx K mg "calm_shares" Js ["table","many"] f fd) (T:T K mg AL LN FR iF fCh fGM fCC fCA fPL SE NN NG NT NR) (D_whole_company:Df P w K mg base b0 1 "whole_company" ["many"] Fu f1 fd1) (D_untold:Df P w K mg base b0 2 "untold" ["groups","kept","many"] DK f2 fd2) (D_least_lack:Df P w K mg base b0 6 "least_lack" ["table","many","kept","free"] Ha f3 fd3) (D_minus:Df P w K mg base b0 3 "minus" ["one","other"] DE f4 fd4) :
  Df P w K mg base b0 7 "calm_shares" ["table","many"] Hc f fd:=by
 refine t.gY lV (fun vs H Q E h=>?_) (fun cdv _A outer s H vs Q E hr h=>?_)
 ·obtain⟨p,m,n,tbl,rfl,_⟩:=h;rfl
 ·obtain⟨p,m,n,tbl,rfl,hp,m1,m6,hn,st,k⟩:=h;refine⟨_,(aD (aU (i:=2) lV.nd rfl bT (aX D_whole_company hr (by decide) (by rfl) (aA (pv 1) aB)))
   (aD (aU (i:=3) lV.nd rfl bT (CH (pv 2) (cE (aA (aP bC (pv 0) (pv 2) (fun _ _=>rfl)) (aA aE aB)))))
   (aD (aU (i:=4) lV.nd rfl bT (bH (aA (cE (aA (aP bC (pv 0) (pv 2) (fun _ _=>rfl)) (aA aE aB))) aB)))
   (aD (aU (i:=5) lV.nd rfl bT (aX D_untold hr (by decide) (by rfl) (aA (p6 (by rfl) T.cV (by rfl) T.cD rfl (aA aE (aA (pv 2) aB))) (aA (gE (f9 rfl) (by rfl) T.cV dA (aA (pv 3) aB)) (aA (pv 1) aB)))))
   (aD (kT PassesOwn.never (aV t7 (aJ aN (by rfl) T.bW bM (aA (pv 5) aB)) aE (aW _))
    (aD (aU (i:=6) lV.nd rfl bT (aX D_least_lack hr (by decide) (by rfl) (aA (pv 0) (aA (pv 1) (aA (pv 3) (aA (pv 5) aB))))))
    (aD (aU (i:=4) lV.nd rfl bT (aP a9 (pv 6) aE (fun _ _=>rfl)))
    (aD (cO PassesOwn.never rfl (bN (aP a9 (pv 6) aE (fun _ _=>rfl))) (aL (i:=7) lV.nd rfl bT)
     (aG (bR (aV t7 (aJ aN (by rfl) T.bW bM (aA (aX D_untold hr (by decide) (by rfl) (aA (bH (aA (pv 7) aB)) (aA (gE (f9 rfl) (by rfl) T.cV dA (aA (pv 3) aB)) (aA (pv 1) aB)))) aB)) aE (aW _)) (aG (yZ (BU hr) (pv 3) (pv 7) (aX D_minus hr (by decide) (by rfl) (aA (cE (aA (aP bC (pv 0) (pv 7) (fun _ _=>rfl)) (aA aE aB))) (aA (aP a9 (pv 6) aE (fun _ _=>rfl)) aB))) rfl)) a8)))
    (aG (aU (i:=5) lV.nd rfl bT (aX D_untold hr (by decide) (by rfl) (aA (pv 5) (aA (gE (f9 rfl) (by rfl) T.cV dA (aA (pv 3) aB)) (aA (pv 1) aB))))))))))
   (aG (aQ (pv 4)))))))),?_⟩
  have n2:2<=n:=by rw[hn];exact qBr (n:=2) (i:=1) (by decide) m1
  have eN:((2^m:Int)-1)=((n-1:Nat):Int):=by
   have:((2^m:Nat):Int)=2^m:=by exact_mod_cast rfl
   rw[<- this,<- hn];lia
  refine⟨_,rfl,m,rfl,m6,fun H1 s1=>?_⟩;rw[eN];dsimp only[aY];have hp1:=s1 _ _ hp;refine fun q hq=>?_;have u1:=aH.aF (o:=.dK []) hq;have e1:upd H1 q (.dK []) q=_:=aC;generalize upd H1 q (.dK [])=H1' at u1 e1|-;refine⟨_,rfl,_,rfl,_,rfl,p,_,_,_,rfl,rfl,aR.of (u1 _ _ hp1),bS (by lia),iY,fun l2 hl2=>?_⟩;have u2:=aH.aF (o:=.tup [.int (tbl (n-1)),.int 1]) hl2;have e2:upd H1' l2 (.tup [.int (tbl (n-1)),.int 1]) l2=_:=aC;generalize upd H1' l2 (.tup [.int (tbl (n-1)),.int 1])=H2 at u2 e2|-;refine⟨u2 _ _ e1,_,rfl,?_⟩;dsimp only[aY];have h0q:H q=none:=s1.free hq;have s02:aH H H2:=s1.trans (u1.trans u2);have s3:aH H (upd H2 q (.dK [(Sum.inl ((n-1:Nat):Int),.ref l2)])):=s02.upd_ne' h0q;have l2q:l2≠q:=fun z=>by rw[z,e1] at hl2;cases hl2
  have e3:upd H2 q (.dK [(Sum.inl ((n-1:Nat):Int),.ref l2)]) q=_:=aC;have e32:upd H2 q (.dK [(Sum.inl ((n-1:Nat):Int),.ref l2)]) l2=_:=(aM l2q).trans e2;generalize upd H2 q (.dK [(Sum.inl ((n-1:Nat):Int),.ref l2)])=H3 at s3 e3 e32|-;refine⟨_,rfl,_,rfl,p,_,_,_,rfl,rfl,aR.of (s3 _ _ hp),bS (by lia),iY,fun l4 hl4=>?_⟩;have u4:=aH.aF (o:=.tup [.int (tbl (n-1)),.int 1]) hl4;have e4:upd H3 l4 (.tup [.int (tbl (n-1)),.int 1]) l4=_:=aC;generalize upd H3 l4 (.tup [.int (tbl (n-1)),.int 1])=H4 at u4 e4|-;refine⟨jX,fun l5 hl5=>?_⟩;have u5:=aH.aF (o:=.lst [.ref l4]) hl5;have e5:upd H4 l5 (.lst [.ref l4]) l5=_:=aC;generalize upd H4 l5 (.lst [.ref l4])=H5 at u5 e5|-;dsimp only[aY];have s5:aH H H5:=s3.trans (u4.trans u5);have n64:n<=64:=by rw[hn];exact iL m6
  refine⟨_,rfl,1,_,n-2,rfl,by lia,by lia,by decide,by decide,fun l6 hl6=>?_⟩;rw[show n-2=2^m-2 by rw[hn],FL];have u6:=aH.aF (o:=.lst (aZ (jM m))) hl6;have e6:upd H5 l6 (.lst (aZ (jM m))) l6=_:=aC;generalize upd H5 l6 (.lst (aZ (jM m)))=H6 at u6 e6|-;have hq6:=u6 _ _ (u5 _ _ (u4 _ _ e3));refine⟨_,rfl,q,_,rfl,.inl hq6,fun l7 hl7=>?_⟩;have u7:=aH.aF (o:=.lst (aZ [n-1])) hl7;have e7:upd H6 l7 (.lst (aZ [n-1])) l7=_:=aC;show BL _ _ _ (upd H6 l7 (.lst (aZ [n-1]))) _;generalize upd H6 l7 (.lst (aZ [n-1]))=H7 at u7 e7|-;obtain⟨ev,cs0⟩:=OU m1 m6 st;rw[hn] at e7;refine⟨_,rfl,l6,l7,m,jM m,[2^m-1],rfl,u7 _ _ e6,e7,by lia,m6,by have:=pO m6;lia,fun g hg=>by have:=(jN.mp hg).2;lia,cs0.Em m6,cs0.ind,fun l8 H8 hl8 s8 e8=>?_⟩;dsimp only[aY];have s38:=u4.trans (u5.trans (u6.trans (u7.trans s8)));refine⟨fun μ σ' H'=>∃(ks:List Nat) (Z:Nat->Int) (d ev:Int) (ws:List Addr) (lsh lfr:Addr) (o6 o7:Option V),μ=(cX m ks).length/\aH H H'/\nY m tbl ks Z d ev/\Kp ks (Cm.pt m bt Z) d H' q ws/\H' lfr=some (.lst (aZ (cX m ks)))/\H lsh=none/\(cX m ks=[]->∃ps,j4 m Z d H' lsh ps)/\σ'=[some (.ref p),some (.int (m:Int)),some (.int ((n-1:Nat):Int)),some (.ref q),some (.ref lsh),some (.ref lfr),o6,o7],
   ⟨_,[2^m-1],_,_,_,[l2],l5,l8,_,_,rfl,s3.trans s38,cs0,⟨?_,rfl,fun j w e=>?_⟩,e8,(s3.trans u4).free hl5,fun fe=>⟨[l4],?_,?_,fun j w e=>?_⟩,rfl⟩,?_⟩
  ·rw[s38 _ _ e3,<- hn];rfl
  ·have hj:j=0:=by have:=(List.getElem?_eq_some_iff.mp e).1;rw[qBc] at this;lia
   subst hj;obtain rfl:=Option.some.inj e;rw[s38 _ _ e32];show _=some (eJ (Cm.pt m bt (z0 (tbl (2^m-1))) (2^m-1)) 1);rw[Hb m1 m6,jL,hn]
  ·exact s8 _ _ (u7 _ _ (u6 _ _ e5))
  ·rw[FN m1 m6 cs0.ind fe];rfl
  ·have hj:j=0:=by have:=(List.getElem?_eq_some_iff.mp e).1;rw[qBc] at this;lia
   subst hj;obtain rfl:=Option.some.inj e;rw[s8 _ _ (u7 _ _ (u6 _ _ (u5 _ _ e4)))];show _=some (eJ (tbl (2^m-1)) 1);rw[jL,hn]
  rintro μ σ' H' ⟨ks,Z,d,ev,ws,lsh,lfr,o6,o7,rfl,s',cst,kp,hfr,hsh,fin,rfl⟩;refine⟨_,rfl,lfr,_,rfl,.inl (aR.of hfr),_,_,rfl,rfl,_,rfl,?_⟩;rw[bF];refine cY (fun h1=>?_) (fun h1=>?_)
  ·have fn:cX m ks≠[]:=fun z=>by rw[z] at h1;exact absurd h1 (by decide)
   refine⟨fun σ' H'=>∃(ks':List Nat) (Z:Nat->Int) (d ev:Int) (ws:List Addr) (lsh lfr:Addr) (o6 o7:Option V),(cX m ks').length<(cX m ks).length/\aH H H'/\nY m tbl ks' Z d ev/\Kp ks' (Cm.pt m bt Z) d H' q ws/\H' lfr=some (.lst (aZ (cX m ks')))/\H lsh=none/\(cX m ks'=[]->∃ps,j4 m Z d H' lsh ps)/\σ'=[some (.ref p),some (.int (m:Int)),some (.int ((n-1:Nat):Int)),some (.ref q),some (.ref lsh),some (.ref lfr),o6,o7],
    fun σ' H' ⟨ks',Z,d,ev,ws,lsh,lfr,o6,o7,lt,r⟩=>⟨_,lt,ks',Z,d,ev,ws,lsh,lfr,o6,o7,rfl,r⟩,?_⟩
   have kl:ks.length<=32:=by have:=cst.cnt;lia
   have hp':=s' _ _ hp;refine⟨_,rfl,_,rfl,_,rfl,_,rfl,?_⟩;dsimp only[iC,qCl,qCm];refine⟨p,q,lfr,m,n,24*ks.length,tbl,Cm.pt m bt Z,d,ks,cX m ks,ws,rfl,hp',kp,hfr,m1,m6,hn,cst.d0,by lia,cst.sd,cst.sP m6,st,by have:=cst.cnt;lia,fun g hg=>by have:=(dJ.mp hg).1.2;lia,cst.Em m6,cst.ind,cst.no m6 fn,fun R lp le lh H9 ps dw Z' lam mu hlp s9 hR fl he hh sdw sZ' ce same=>?_⟩;have cst':=cst.step m1 m6 ce same sdw sZ';have dd0:=cst'.d0;have a0:fK [V.ref lp,V.ref le,V.ref lh] 0=some (.ref lp):=rfl;have a1:fK [V.ref lp,V.ref le,V.ref lh] 1=some (.ref le):=rfl;have a2:fK [V.ref lp,V.ref le,V.ref lh] 2=some (.ref lh):=rfl;dsimp only[aY];refine⟨_,rfl,R,_,_,_,rfl,rfl,cA.of hR,a0,?_⟩;dsimp only[aY];refine⟨_,rfl,R,_,_,_,rfl,rfl,cA.of hR,a2,lh,rfl,⟨_,aR.of hh⟩,?_⟩;have kp9:Kp ks (Cm.pt m bt Z') (dw*d) H9 q ws:=⟨s9 _ _ kp.hd,kp.len,fun j w e=>by
    rw[s9 _ _ (kp.at_ j w e)];have hj:j<ks.length:=by rw[<- kp.len];exact(List.getElem?_eq_some_iff.mp e).1
    refine congrArg some (fV cst.d0 dd0 ?_);rw[same _ (kN hj)];grind⟩
   have hlP:∀g,g∈eU (cX m ks) lam (cX m ks).length->Pr m g/\tbl g*(dw*d)-Cm.pt m bt Z' g=Z' m:=fun g hg=>by
    obtain⟨c,hc,ne,rfl⟩:=gW.mp hg;exact⟨(dJ.mp (kN hc)).1,ce.hold c hc ne⟩
   have grow:=cst.grow ce;have ind0:=cst.ind;have s09:=s'.trans s9;have nR:R≠q:=fun z=>by rw[z,kp9.hd] at hR;cases hR
   have nlh:lh≠q:=fun z=>by rw[z,kp9.hd] at hh;cases hh
   have nle:le≠q:=fun z=>by rw[z,kp9.hd] at he;cases he
   have nlf:lfr≠q:=fun z=>by rw[z,kp.hd] at hfr;cases hfr
   have np:p≠q:=fun z=>by rw[z,kp.hd] at hp';cases hp'
   have told:=mQ (m:=m) cst.ind (hl:=eU (cX m ks) lam (cX m ks).length);have sdd:Sm 3000 (dw*d):=(sdw.mul cst.sd).mono (by lia);generalize hhl:eU (cX m ks) lam (cX m ks).length=hl at *;refine dN (xs:=aZ hl) (fun j σ' H'=>SameBut q H9 H'/\aH H H'/\∃(ws':List Addr) (o7:Option V),Kp (dZ m ks (hl.take j)) (Cm.pt m bt Z') (dw*d) H' q ws'/\σ'=[some (.ref p),some (.int (m:Int)),some (.int ((n-1:Nat):Int)),some (.ref q),some (.ref lp),some (.ref lfr),some (.ref R),o7]) ⟨(aH.refl _).but q,s09,ws,_,kp9,rfl⟩ ?_ ?_ ?_
   ·rintro j σ' H' _ ⟨sb,_⟩;exact aR.of (sb _ _ nlh hh)
   ·rintro j x σ' H10 hx ⟨sb,s10,ws',o7,kp10,rfl⟩;obtain⟨g,hg,rfl⟩:=eM hx;obtain⟨pg,hold⟩:=hlP g (qAy hg);have et:hl.take (j+1)=hl.take j++[g]:=by rw[qEs,hg];rfl
    have i10:=lU ind0 (hl.take j);rw[et,gF];dsimp only[aY];generalize hks:dZ m ks (hl.take j)=kj at *;have kjl:kj.length<=6:=by
     have z:=i10.len;unfold fS at z;rw[qAb] at z;lia
    have Em:∀k,k∈kj->k<64:=fun k hk=>by
     obtain⟨t',e',ht'⟩:=lT m ks (hl.take j);rw[hks] at e';rw[e'] at hk;rcases List.mem_append.mp hk with z | z
     ·exact cst.Em m6 k z
     ·have:=(hlP k (qMd (ht' k z))).1.2;lia
    refine⟨_,rfl,jX,fun l11 h11=>?_⟩;have u11:=aH.aF (o:=.lst (aZ [g])) h11;have e11:upd H10 l11 (.lst (aZ [g])) l11=_:=aC;show BL _ _ _ (upd H10 l11 (.lst (aZ [g]))) _;generalize upd H10 l11 (.lst (aZ [g]))=H11 at u11 e11|-;have kp11:=kp10.same u11;refine⟨_,rfl,q,_,rfl,.inl kp11.hd,fun l12 h12=>?_⟩;rw[Kp.keys kp11.len];have u12:=aH.aF (o:=.lst (aZ kj)) h12;have e12:upd H11 l12 (.lst (aZ kj)) l12=_:=aC;generalize upd H11 l12 (.lst (aZ kj))=H12 at u12 e12|-;refine⟨_,rfl,l11,l12,m,[g],kj,rfl,u12 _ _ e11,e12,by lia,m6,by show 1<=64;decide,fun k hk=>by rw[List.mem_singleton.mp hk];have:=pg.2;lia,Em,i10,fun l13 H13 h13 s13 e13=>?_⟩;have s1013:=u11.trans (u12.trans s13);have kp13:=kp10.same s1013;refine⟨l13,_,rfl,.inl (aR.of e13),_,_,rfl,rfl,_,rfl,?_⟩;rw[bF];by_cases tg:g4 m kj g=true
    ·rw[if_pos tg];refine cY (fun z=>?_) fun _=>⟨sb.then s1013,s10.trans s1013,ws',_,kp13,rfl⟩;rw[qDf,tg] at z;simp at z
    ·rw[if_neg tg];refine cY (fun _=>?_) fun z=>?_
     ·have sb13:=sb.then s1013;have hgn:g<n:=by have:=pg.2;lia
      have hp13:=(s10.trans s1013) _ _ hp;refine⟨_,rfl,_,rfl,p,_,_,_,rfl,rfl,aR.of hp13,bS hgn,iY,fun l14 h14=>?_⟩;have u14:=aH.aF (o:=.tup [.int (tbl g),.int 1]) h14;have e14:upd H13 l14 (.tup [.int (tbl g),.int 1]) l14=_:=aC;generalize upd H13 l14 (.tup [.int (tbl g),.int 1])=H14 at u14 e14|-;have f14:H14 l14=some (eJ (tbl g*(dw*d)) (dw*d)):=by
       rw[e14,<- jL];exact congrArg some (fV (by decide) dd0 (by rw[qFe]))
      refine⟨_,rfl,R,_,_,_,rfl,rfl,cA.of (u14 _ _ (sb13 _ _ nR hR)),a1,?_⟩;dsimp only[iC,qCl,qCm];refine⟨l14,le,_,_,dw*d,rfl,f14,u14 _ _ (sb13 _ _ nle he),dd0,sdd,((st g).mul sdd).mono (by decide),(sZ' m).mono (by lia),fun l15 H15 s15 e15=>?_⟩;rw[show tbl g*(dw*d)-Z' m=Cm.pt m bt Z' g by lia] at e15;have kp15:=kp13.same (u14.trans s15);have nk:g∉kj:=fun z=>tg (pQ i10 z);refine⟨_,rfl,_,rfl,q,_,rfl,.inl ⟨_,.inl (g:Int),kp15.hd,rfl,?_,rfl⟩,(sb13.then (u14.trans s15)).nE _,((s10.trans s1013).trans (u14.trans s15)).upd_ne' h0q,ws'++[l15],_,kp15.add nk e15,rfl⟩;rw[qAb,List.length_zip,kp15.len,qCa];lia
     ·rw[qDf] at z;rw[qJz] at tg;rw[tg] at z;exact absurd (by simp) z
   ·rintro σ' H10 ⟨sb,s10,ws',o7,kp10,rfl⟩;rw[bF,qEd] at kp10;rw[<- hhl] at kp10;have hfr10:=sb _ _ nlf (s9 _ _ hfr);refine⟨_,rfl,_,rfl,q,_,rfl,.inl kp10.hd,fun l12 h12=>?_⟩;rw[Kp.keys kp10.len];have u12:=aH.aF (o:=.lst (aZ (dZ m ks (eU (cX m ks) lam (cX m ks).length)))) h12;have e12:upd H10 l12 (.lst (aZ (dZ m ks (eU (cX m ks) lam (cX m ks).length)))) l12=_:=aC;generalize upd H10 l12 (.lst (aZ (dZ m ks (eU (cX m ks) lam (cX m ks).length))))=H12 at u12 e12|-;rw[<- hhl] at cst' grow told;refine⟨_,rfl,lfr,l12,m,cX m ks,_,rfl,u12 _ _ hfr10,e12,by lia,m6,by have:=cst.cnt;lia,fun g hg=>by have:=(dJ.mp hg).1.2;lia,cst'.Em m6,cst'.ind,fun l13 H13 h13 s13 e13=>?_⟩;rw[Aa] at e13;have s1013:=u12.trans s13;refine⟨_,Z',dw*d,Z' m,ws',lp,l13,_,_,?_,s10.trans s1013,cst',kp10.same s1013,e13,s'.free hlp,fun _=>⟨ps,?_⟩,rfl⟩
    ·obtain⟨c,hc,ne⟩:=ce.some;have hm:gN (cX m ks) c∈eU (cX m ks) lam (cX m ks).length:=gW.mpr ⟨c,hc,ne,rfl⟩;have z:=told _ hm;rw[<- Aa];refine List.length_filter_lt_length_iff_exists.mpr ⟨_,kN hc,?_⟩;rw[z];decide
    ·have nlp:lp≠q:=fun z=>by rw[z,kp.hd] at hlp;cases hlp
     refine⟨s1013 _ _ (sb _ _ nlp fl.hr),fl.len,fun j w e=>?_⟩;have hw:=fl.at_ j w e;have nw:w≠q:=fun z=>by rw[z,kp9.hd] at hw;cases hw
     exact s1013 _ _ (sb _ _ nw hw)
  ·have fe:cX m ks=[]:=by
    cases e:cX m ks with
    | nil=>rfl
    | cons a b=>rw[e] at h1;exact absurd (by simp) h1
   obtain⟨ps,fl⟩:=fin fe;exact⟨_,rfl,k lsh H' ps ks Z d ev hsh s' fl cst fe⟩
def gX (m:Nat) (lk:Nat->Int) (l:Int):List Nat:=(jM m).filter fun g=>decide (l<=lk g)
theorem g9 {m g:Nat}{lk:Nat->Int}{l:Int}:g∈gX m lk l↔Pr m g/\l<=lk g:=by
 unfold gX;rw[qKm,jN,decide_eq_true_iff]
theorem KS {m:Nat}{tb:Nat->Int}{ks:List Nat}{Z:Nat->Int}{d ev:Int} (m6:m<=6) (h:nY m tb ks Z d ev) (fr:cX m ks=[]){l:Int}{g0:Nat} (hg0:Pr m g0) (hl0:l<=tb g0*d-Cm.pt m bt Z g0):Pg m (gX m (fun g=>tb g*d-Cm.pt m bt Z g) l):=by
 intro y y0 yN;have tl:∀g,Pr m g->Cm.Tl m bt ks g:=fun g pg=>by
  cases q:g4 m ks g with
  | true=>exact lR h.ind q
  | false =>
   have:=dJ.mpr ⟨pg,q⟩;rw[fr] at this;cases this
 have wh:=DD m6 y;have st:=h.OS (fun g=>l<=tb g*d-Cm.pt m bt Z g) (fun g h _ _ _ _ a b=>qJx a b) y (by unfold Cm.pt;rw[wh];exact yN) fun g pg _ sg=>y0 g (g9.mpr ⟨pg,sg⟩);refine⟨?_,fun g hg=>?_⟩
 ·have:=(st g0 hg0 (tl g0 hg0) hl0).1;unfold Cm.pt at this;rw[wh] at this;exact this
 ·obtain⟨pg,sg⟩:=g9.mp hg;exact(st g pg (tl g pg) sg).2
theorem tR (m:Nat) (gs:List Nat):(pK m gs).Sublist gs:=by
 induction gs using Cm.snocInd with
 | nil=>exact List.Sublist.refl _
 | append_singleton gs g ih =>
  rw[jK];exact ih.append List.filter_sublist
theorem Ea:∀(p i:_root_.Fin 6),bt (2^p.1) i.1=Cm.e1 p.1 i.1:=by decide +kernel
theorem Eb {m:Nat}{gs:List Nat} (m6:m<=6) (h:∀p,p<m->2^p∈gs):(pK m gs).length=m:=by
 have z:=Cm.Bh (jV m gs) fun p hp i hi=>by
  have t:=DL (m:=m) (2^p) (h p hp);rw[Cm.tF (jV m gs) (f:=Cm.e1 p) (g:=bt (2^p)) (fun i hi=>(Ea ⟨p,by lia⟩ ⟨i,by lia⟩).symm) i hi];exact t i hi
 unfold fS at z;rw[qAb] at z;exact z
theorem FO (m:Nat):(jM m).Pairwise (· < ·):=List.pairwise_map.mpr (List.pairwise_lt_range.imp fun h=>by lia)
theorem Ec (m:Nat) (lk:Nat->Int) (l:Int):(gX m lk l).Pairwise (· < ·):=(FO m).filter _
theorem up_eq:∀{a b:List Int},a.Pairwise (· < ·)->b.Pairwise (· < ·)->(∀k,k∈a↔k∈b)->a=b
 | [],[],_,_,_=>rfl
 | [],y::b,_,_,h=>absurd ((h y).mpr (qCi ..)) (by simp)
 | x::a,[],_,_,h=>absurd ((h x).mp (qCi ..)) (by simp)
 | x::a,y::b,.cons ha pa,.cons hb pb,h=>by
  have e:x=y:=by
   rcases List.mem_cons.mp ((h x).mp (qCi ..)) with z | z
   ·exact z
   ·rcases List.mem_cons.mp ((h y).mpr (qCi ..)) with z' | z'
    ·exact z'.symm
    ·have:=hb x z;have:=ha y z';lia
  subst e;congr 1;refine up_eq pa pb fun k=>⟨fun hk=>?_,fun hk=>?_⟩
  ·rcases List.mem_cons.mp ((h k).mp (qBx _ hk)) with z | z
   ·have:=ha k hk;lia
   ·exact z
  ·rcases List.mem_cons.mp ((h k).mpr (qBx _ hk)) with z | z
   ·have:=hb k hk;lia
   ·exact z
theorem vW {m:Nat}{tb tt Z:Nat->Int}{d L:Int} (e:∀j,j<m->tt j*d=Z j*L) (g:Nat):nX m tb tt L g*d=(tb g*d-Cm.pt m bt Z g)*L:=by
 have z:=pD (n:=m) (a:=bt g) (t:=tt) (X:=Z) (d:=d) (L:=L) e;unfold nX;rw[qPs,z,qPs];unfold Cm.pt;grind
def Bw (m:Nat) (lk:Nat->Int) (ds:List Int):Prop:=ds.Pairwise (· < ·)/\∀k,k∈ds↔∃g,Pr m g/\lk g=k
theorem Bw.scale {m:Nat}{lk lk':Nat->Int}{d L:Int}{ss ds:List Int} (d0:0<d) (L0:0<L) (h:Bw m lk' ss) (h2:Bw m lk ds) (e:∀g,lk' g*d=lk g*L):ss.map (· * d)=ds.map (· * L):=by
 refine up_eq (List.pairwise_map.mpr (h.1.imp fun z=>qEk z d0)) (List.pairwise_map.mpr (h2.1.imp fun z=>qEk z L0)) fun k=>?_;rw[qGj,qGj];constructor
 ·rintro⟨a,ha,rfl⟩;obtain⟨g,pg,rfl⟩:=(h.2 a).mp ha;exact⟨lk g,(h2.2 _).mpr ⟨g,pg,rfl⟩,(e g).symm⟩
 ·rintro⟨a,ha,rfl⟩;obtain⟨g,pg,rfl⟩:=(h2.2 a).mp ha;exact⟨lk' g,(h.2 _).mpr ⟨g,pg,rfl⟩,e g⟩
theorem Bw.back {m:Nat}{lk lk':Nat->Int}{d L:Int}{ss:List Int} (d0:0<d) (L0:0<L) (h:Bw m lk' ss) (e:∀g,lk' g*d=lk g*L):Bw m lk (ss.map fun s=>s*d/L):=by
 have key:∀g,lk' g*d/L=lk g:=fun g=>by rw[e g];exact qNc _ (by lia)
 refine⟨List.pairwise_map.mpr ?_,fun k=>?_⟩
 ·have:∀{l:List Int},l.Pairwise (· < ·)->(∀a,a∈l->∃g,lk' g=a)->l.Pairwise fun a b=>a*d/L<b*d/L:=by
   intro l hl hm;induction hl with
   | nil=>exact .nil
   | cons ha _ ih =>
    refine .cons (fun b hb=>?_) (ih fun a h=>hm a (qBx _ h));obtain⟨g1,rfl⟩:=hm _ (qCi ..);obtain⟨g2,rfl⟩:=hm b (qBx _ hb);rw[key,key];have z:=qEk (ha _ hb) d0;rw[e,e] at z;exact Int.lt_of_mul_lt_mul_right z (qCe L0)
  exact this h.1 fun a ha=>by
   obtain⟨g,_,e⟩:=(h.2 a).mp ha;exact⟨g,e⟩
 ·rw[qGj];constructor
  ·rintro⟨a,ha,rfl⟩;obtain⟨g,pg,rfl⟩:=(h.2 a).mp ha;exact⟨g,pg,(key g).symm⟩
  ·rintro⟨g,pg,rfl⟩;exact⟨lk' g,(h.2 _).mpr ⟨g,pg,rfl⟩,key g⟩
theorem rL {m:Nat}{lk lk':Nat->Int}{d L s l:Int} (d0:0<d) (L0:0<L) (e:∀g,lk' g*d=lk g*L) (h:s*d=l*L):gX m lk' s=gX m lk l:=by
 unfold gX;refine qNm fun g _=>decide_eq_decide.mpr ?_;constructor
 ·intro z;have z:=qDa z (qCe d0);rw[e,h] at z;exact qKy z L0
 ·intro z;have z:=qDa z (qCe L0);rw[<- e,<- h] at z;exact qKy z d0
theorem tS {m:Nat} (m6:m<=6) (lk:Nat->Int) (l:Int):(gX m lk l).length<=62:=qCu (qEq _ _) (pO m6)
theorem yD {m p:Nat} (m2:2<=m) (hp:p<m):Pr m (2^p):=by
 have h0:=qGx p;have h1:2^p<=2^(m-1):=qBr (by decide) (by lia);have h2:2^1<=2^(m-1):=qBr (by decide) (by lia);have h3:2^m=2^(m-1)*2:=by rw[<- qIh,show(m-1).succ=m by lia]
 exact⟨h0,by lia⟩
def FP (m:Nat) (lk:Nat->Int) (d:Int) (H:Hp) (D:Addr) (l:Int) (e:Addr):Prop:=∃(fa wa:Addr) (ys:List V) (dx:Int) (X:Nat->Int),H e=some (.tup [.ref fa,.ref wa])/\H fa=some (eJ l d)/\H wa=some (.lst ys)/\wa≠D/\dQ H dx ys (xZ (gX m lk l) X (gX m lk l).length)/\0<dx/\Sm 6000 dx/\(∀j,Sm 300000 (X j))/\0<X 0/\(∀j,0<=X j)/\∀i,i<m->(Wg.sm (gX m lk l).length fun j=>bt (gN (gX m lk l) j) i*(X 0+X (j+1)))=dx
theorem FP.same {m:Nat}{lk:Nat->Int}{d:Int}{H H':Hp}{D:Addr}{l:Int}{e:Addr} (h:FP m lk d H D l e) (s:aH H H'):FP m lk d H' D l e:=by
 obtain⟨fa,wa,ys,dx,X,a,b,c,n,r,q⟩:=h;exact⟨fa,wa,ys,dx,X,s _ _ a,s _ _ b,s _ _ c,n,r.t s.t,q⟩
theorem FP.upd {m:Nat}{lk:Nat->Int}{d:Int}{H:Hp}{D:Addr}{l:Int}{e:Addr}{xs ys:List V} (h:FP m lk d H D l e) (hD:H D=some (.lst xs)):FP m lk d (upd H D (.lst ys)) D l e:=by
 obtain⟨fa,wa,zs,dx,X,a,b,c,n,r,q⟩:=h;refine⟨fa,wa,zs,dx,X,?_,?_,?_,n,r.t (.lst hD),q⟩
 ·rw[aM fun z=>by rw[z,hD] at a;cases a];exact a
 ·rw[aM fun z=>by rw[z,hD] at b;cases b];exact b
 ·rw[aM n];exact c
structure Bx (m:Nat) (lk:Nat->Int) (d:Int) (ds:List Int) (H:Hp) (D:Addr) (es:List Addr) (tl:List Nat):Prop where
 hl:H D=some (.lst (es.map V.ref))
 le:es.length<=ds.length
 at_:∀(i:Nat) (e:Addr),es[i]?=some e->∃l,ds[ds.length-1-i]?=some l/\FP m lk d H D l e
 t0:es=[]->tl=[2^m-1]
 t1:∀l,es≠[]->ds[ds.length-es.length]?=some l->tl=pK m (gX m lk l)
theorem Bx.same {m:Nat}{lk:Nat->Int}{d:Int}{ds:List Int}{H H':Hp}{D:Addr}{es:List Addr}{tl:List Nat} (h:Bx m lk d ds H D es tl) (s:aH H H'):Bx m lk d ds H' D es tl :=
 ⟨s _ _ h.hl,h.le,fun i e z=>by obtain⟨l,a,b⟩:=h.at_ i e z;exact⟨l,a,b.same s⟩,h.t0,h.t1⟩
theorem Bx.more {m:Nat}{lk:Nat->Int}{d:Int}{ds:List Int}{H:Hp}{D:Addr}{es:List Addr}{tl:List Nat} (h:Bx m lk d ds H D es tl){l:Int}{e:Addr} (hl:ds[ds.length-1-es.length]?=some l) (lt:es.length<ds.length) (he:FP m lk d H D l e) :
  Bx m lk d ds (upd H D (.lst (es.map V.ref++[.ref e]))) D (es++[e]) (pK m (gX m lk l)):=by
 refine⟨by rw[aC,qAr];rfl,by rw[qAm,qBc];lia,fun i x z=>?_,fun z=>by simp at z,fun l' _ z=>?_⟩
 ·rcases qAl i es.length with q | q
  ·rw[qAz q] at z;obtain⟨l,a,b⟩:=h.at_ i x z;exact⟨l,a,b.upd h.hl⟩
  ·rw[qAv q] at z;have hi:i-es.length=0:=by
    have:=(List.getElem?_eq_some_iff.mp z).1;rw[qBc] at this;lia
   rw[hi] at z;obtain rfl:e=x:=Option.some.inj z;rw[show i=es.length by lia];exact⟨l,hl,he.upd h.hl⟩
 ·rw[qAm,qBc,show ds.length-(es.length+1)=ds.length-1-es.length by lia,hl] at z;rw[Option.some.inj z]
theorem Bt (m:Nat) (tb Y:Nat->Int) (b:Int) (k:Nat):((kM m tb Y b k).map fun kv=>kv.2)=((qAn k).map fun j=>nX m tb Y b (j+1)).map V.int:=by
 unfold kM;rw[qCz,qCz];rfl
theorem vX:∀{l l':List Int},l.Nodup->(∀x,x∈l->x∈l')->l.length<=l'.length
 | [],_,_,_=>qBq _
 | x::l,l',hn,h=>by
  obtain⟨n1,n2⟩:=List.nodup_cons.mp hn;have hx:=h x (.head _);have z:=vX (l:=l) (l':=l'.erase x) n2 fun y hy=>(qMe (fun e=>by subst e;exact n1 hy)).mpr (h y (.tail _ hy));rw[qLb hx] at z;have:=qGd hx;rw[qCh];lia
theorem Ed {m:Nat}{tb Y:Nat->Int}{b:Int}{k j:Nat} (hj:j<k):nF (kM m tb Y b k) (Sum.inl ((j+1:Nat):Int):Key)=some (V.int (nX m tb Y b (j+1))):=by
 unfold nF kM;have e:((qAn k).map fun(j:Nat)=>((Sum.inl ((j+1:Nat):Int):Key),V.int (nX m tb Y b (j+1)))).find? (fun kv=>decide (kv.1=(Sum.inl ((j+1:Nat):Int):Key)))=some (Sum.inl ((j+1:Nat):Int),V.int (nX m tb Y b (j+1))):=by
  induction k with
  | zero=>lia
  | succ k ih =>
   rw[qBk,qAr,List.find?_append];rcases qAl j k with z | z
   ·rw[ih z];rfl
   ·obtain rfl:j=k:=by lia
    rw[List.find?_eq_none.mpr]
    ·rw[qDb,qEp,qFb];simp
    ·intro kv hkv;obtain⟨i,hi,rfl⟩:=List.mem_map.mp hkv;have hi:=List.mem_range.mp hi;intro z;have z:=Sum.inl.inj (of_decide_eq_true z);lia
 rw[e];rfl
theorem FQ {m:Nat}{tb Y:Nat->Int}{b:Int}{k i:Nat}{kv:Key×V} (h:(kM m tb Y b k)[i]?=some kv):i<k/\kv=(Sum.inl ((i+1:Nat):Int),V.int (nX m tb Y b (i+1))):=by
 unfold kM at h;rw[qAo] at h;rcases qAl i k with z | z
 ·rw[qCr z] at h;exact⟨z,(Option.some.inj h).symm⟩
 ·rw[qBa (by rw[qAu];exact z)] at h;cases h
def En (lk:Nat->Int) (l:Int) (k:Nat):List Nat:=((qAn k).map (· + 1)).filter fun g=>decide (l<=lk g)
theorem pR (lk:Nat->Int) (l:Int) (k:Nat):En lk l (k+1)=if l<=lk (k+1) then En lk l k++[k+1] else En lk l k:=by
 unfold En;rw[qBk,qAr,qHg];by_cases z:l<=lk (k+1)
 ·rw[if_pos z,qDb,qEp,qDf,if_pos (decide_eq_true z)];rfl
 ·rw[if_neg z,qDb,qEp,qDf,if_neg (by rw[decide_eq_false z];exact qAp),qGu,qDm]
def Hd (K:qAc):Sp:=fun vs H Q _=>∃(p q:Addr) (m n:Nat) (tb Z:Nat->Int) (d ev:Int) (ks:List Nat) (ps:List Addr),vs=[.ref p,.int (m:Int),.ref q]/\H p=some (.lst (bG n tb))/\n=2^m/\1<=m/\m<=6/\(∀j,Sm 80000 (tb j))/\nY m tb ks Z d ev/\cX m ks=[]/\j4 m Z d H q ps /\
 ∀(R lv lt:Addr) (H':Hp) (es:List Addr) (ds:List Int) (tl:List Nat),aH H H'->H lv=none->H' R=some (.tup [.ref lv,.ref lt])->Bw m (fun g=>tb g*d-Cm.pt m bt Z g) ds->Bx m (fun g=>tb g*d-Cm.pt m bt Z g) d ds H' lv es tl->H' lt=some (.lst (aZ tl))->tl.length=m->Q (.ref R) H'
theorem m9:aT ["table","many","shares","bottom","lacks","levels","telling","lack","groups"] ["table","many","shares"] (aI Jv):=by constructor<;>first|rfl|decide +kernel
theorem KU {f1 f2 f3 f4 f5 f6 f7:Addr}{fd1 fd2 fd3 fd4 fd5 fd6 fd7:qBo} (t:Tx K mg "levels_of" Jv ["table","many","shares"] f fd) (T:T K mg AL LN FR iF fCh fGM fCC fCA fPL SE NN NG NT NR) (D_common_bottom:Df P w K mg base b0 2 "common_bottom" ["fractions"] Dw f1 fd1) (D_tops_over:Df P w K mg base b0 1 "tops_over" ["bottom","fractions"] Dx f2 fd2) (D_lacks_of:Df P w K mg base b0 5 "lacks_of" ["table","tops","bottom"] (GZ K) f3 fd3) (D_whole_company:Df P w K mg base b0 1 "whole_company" ["many"] Fu f4 fd4) (D_fraction:Df P w K mg base (j0 P w) 2 "fraction" ["top","bottom"] (tG K NN) f5 fd5) (D_weighing_of:Df P w K mg base b0 6 "weighing_of" ["groups","many"] GX f6 fd6) (D_sifted:Df P w K mg base b0 3 "sifted" ["groups","many"] GV f7 fd7) :
  Df P w K mg base b0 7 "levels_of" ["table","many","shares"] (Hd K) f fd:=by
 refine t.gY m9 (fun vs H Q E h=>?_) (fun cdv _A outer s H vs Q E hr h=>?_)
 ·obtain⟨p,q,m,n,tbl,Z,d,ev,ks,ps,rfl,_⟩:=h;rfl
 ·obtain⟨p,q,m,n,tbl,Z,d,ev,ks,ps,rfl,hp,hn,m1,m6,st,cst,fe,fl,k⟩:=h;refine⟨_,(aD (aU (i:=3) m9.nd rfl bT (aX D_common_bottom hr (by decide) (by rfl) (aA (pv 2) aB)))
   (aD (aU (i:=4) m9.nd rfl (by first|exact .inl rfl|exact .inr rfl) (aX D_lacks_of hr (by decide) (by rfl) (aA (pv 0) (aA (aX D_tops_over hr (by decide) (by rfl) (aA (pv 3) (aA (pv 2) aB))) (aA (pv 3) aB)))))
   (aD (aU (i:=5) m9.nd rfl bT (bH aB))
   (aD (aU (i:=6) m9.nd rfl bT (bH (aA (aX D_whole_company hr (by decide) (by rfl) (aA (pv 1) aB)) aB)))
   (aD (cO PassesOwn.never rfl (IB (by rfl) T.gQ (aA (lD (by rfl) T.iK (by rfl) T.rA rfl (aA (hV (by rfl) T.cV rfl (pv 4)) aB)) aB)) (aL (i:=7) m9.nd rfl (by first|exact .inl rfl|exact .inr rfl))
    (aD (bR (aV g6 (aJ aN (by rfl) T.bW bM (aA (pv 6) aB)) (pv 1) (aW _)) (aG BB) a8)
    (aD (eD (NB:=["group","lack","lacks"]) (pick:=[none,some 7,some 4]) (i:=8) m9.nd rfl bT (by rfl) (bJ (by with_unfolding_all rfl) (by exact(And.intro rfl (And.intro rfl trivial))) rfl (by decide +kernel) (by decide +kernel) (by rfl) (by rfl)) rfl
     (CF (pv 4)) (fun _ _ _=>aL (i:=0) (show(["group","lack","lacks"]:List Str).Nodup from by decide +kernel) rfl bT)
     (fun _ _ _=>eZ (aV BF (EO (BU hr) (pv 2) (pv 0) (fun _ _=>rfl)) (pv 1) (aW _))) (fun _ _ _=>(pv 0)))
    (aD (fN (qF qEg qFk qFj iQ (pv 5) (aA (cE (aA (fW cK D_fraction hr (by decide) (by rfl) (aA (pv 7) (aA (pv 3) aB))) (aA (aX D_weighing_of hr (by decide) (by rfl) (aA (pv 8) (aA (pv 1) aB))) aB))) aB)))
    (aG (aU (i:=6) m9.nd rfl bT (aX D_sifted hr (by decide) (by rfl) (aA (pv 8) (aA (pv 1) aB)))))))))
   (aG (aQ (cE (aA (pv 5) (aA (pv 6) aB)))))))))),?_⟩
  have d0:=cst.d0;have kl:ks.length<=32:=by have:=cst.cnt;lia
  have sd:Sm 6000 d:=cst.sd.mono (by lia);have sZ:∀i,Sm 300000 (Z i):=fun i=>(cst.sZ i).mono (by lia);have n64:n<=64:=by rw[hn];exact iL m6
  have n2:2<=n:=by rw[hn];exact qBr (n:=2) (i:=1) (by decide) m1
  refine⟨_,rfl,q,m,Z,d,ps,rfl,fl,d0,sd,fun L lo=>?_⟩;have L0:=lo.pos;have sL:Sm 6000 L:=sd.le (by have:=qDt d0 lo.dvd;lia);dsimp only[aY];refine⟨_,rfl,_,rfl,_,rfl,q,m,Z,d,L,ps,rfl,fl,by lia,d0,sd,sZ,lo,fun lt H1 tt hlt s1 hd1 htt stt=>?_⟩;obtain⟨tp,etp⟩:∃tp:Nat->Int,∀j,tp j=if j<m then tt j else 0:=⟨_,fun _=>rfl⟩;have stt':∀j,Sm 300000 (tp j):=fun j=>by
   rw[etp];split
   ·rename_i hj;refine(sZ j).le ?_;have z:=htt j hj;obtain⟨rr,hrr⟩:=lo.dvd;have r0:rr≠0:=fun z=>by rw[z,qBu] at hrr;lia
    have:rr*tt j=Z j:=by
     have:L*(rr*tt j)=L*Z j:=by rw[hrr] at z;grind
     exact qFl (by lia) this
    rw[<- this,qDs];exact qLs _ (by lia)
   ·exact Sm.zero
  refine⟨_,rfl,p,lt,m,n,tbl,tp,L,rfl,s1 _ _ hp,?_,m1,m6,hn,sL,stt',st,fun ld H2 ob hld s2 hd2=>?_⟩
  ·rw[hd1];exact congrArg (fun l=>some (HO.lst l)) (dI fun j hj=>by rw[etp,if_pos hj])
  have htt':∀j,j<m->tp j*d=Z j*L:=fun j hj=>by rw[etp,if_pos hj];exact htt j hj
  have sc:=vW (tb:=tbl) htt';have s02:=s1.trans s2;dsimp only[aY];refine⟨by simp[qCa],fun lv hlv=>?_⟩;have u3:=aH.aF (o:=.lst []) hlv;have e3:upd H2 lv (.lst []) lv=_:=aC;generalize upd H2 lv (.lst [])=H3 at u3 e3|-;dsimp only[aY];refine⟨_,rfl,m,rfl,m6,fun H4 s4=>?_⟩;have eN:((2^m:Int)-1)=((n-1:Nat):Int):=by
   have:((2^m:Nat):Int)=2^m:=by exact_mod_cast rfl
   rw[<- this,<- hn];lia
  rw[eN];refine⟨jX,fun l5 hl5=>?_⟩;have u5:=aH.aF (o:=.lst (aZ [n-1])) hl5;have e5:upd H4 l5 (.lst (aZ [n-1])) l5=_:=aC;show aY _ _ _ (upd H4 l5 (.lst (aZ [n-1]))) _;generalize upd H4 l5 (.lst (aZ [n-1]))=H5 at u5 e5|-;dsimp only[aY];have s25:=u3.trans (s4.trans u5);have hd5:=s25 _ _ hd2;refine⟨_,rfl,ld,_,rfl,.inr ⟨ob,hd5⟩,fun l6 hl6=>?_⟩;rw[Bt];have u6:=aH.aF (o:=.lst (((qAn (n-2)).map fun j=>nX m tbl tp L (j+1)).map V.int)) hl6;have e6:upd H5 l6 (.lst (((qAn (n-2)).map fun j=>nX m tbl tp L (j+1)).map V.int)) l6=_:=aC;generalize upd H5 l6 (.lst (((qAn (n-2)).map fun j=>nX m tbl tp L (j+1)).map V.int))=H6 at u6 e6|-;refine⟨l6,_,rfl,aR.of e6,by rw[qAb,qAu];lia,fun l7 ss hl7 ms up=>?_⟩;have u7:=aH.aF (o:=.lst (ss.map V.int)) hl7;have e7:upd H6 l7 (.lst (ss.map V.int)) l7=_:=aC;generalize upd H6 l7 (.lst (ss.map V.int))=H7 at u7 e7|-;have ls:Bw m (nX m tbl tp L) ss:=⟨up,fun kk=>by
   rw[ms,qGj];constructor
   ·rintro⟨j,hj,rfl⟩;have hj:=List.mem_range.mp hj;exact⟨j+1,⟨by lia,by lia⟩,rfl⟩
   ·rintro⟨g,pg,rfl⟩;refine⟨g-1,List.mem_range.mpr (by have:=pg.1;have:=pg.2;lia),?_⟩;rw[show g-1+1=g by have:=pg.1;lia]⟩
  have ldd:=ls.back d0 L0 sc;have ssl:ss.length<=62:=by
   have z:=vX (up.imp fun h=>Int.ne_of_lt h) fun a ha=>(ms a).mp ha;rw[qAb,qAu] at z;lia
  refine⟨l7,_,rfl,aR.of e7,?_⟩;have s27:=s25.trans (u6.trans u7);have h0v:H lv=none:=s02.free hlv;have n5:l5≠lv:=fun z=>by rw[z,s4 _ _ e3] at hl5;cases hl5
  have nd:ld≠lv:=fun z=>by rw[z] at hd2;rw[hd2] at hlv;cases hlv
  have n7:l7≠lv:=fun z=>by rw[z,u6 _ _ (u5 _ _ (s4 _ _ e3))] at hl7;cases hl7
  refine Fb (xs:=ss.map V.int) (fun j σ' H'=>SameBut lv H7 H'/\aH H H'/\∃(es:List Addr) (tl:List Nat) (lt':Addr) (o7 o8:Option V),es.length=j/\Bx m (fun g=>tbl g*d-Cm.pt m bt Z g) d (ss.map fun s=>s*d/L) H' lv es tl/\H' lt'=some (.lst (aZ tl))/\σ'=[some (.ref p),some (.int (m:Int)),some (.ref q),some (.int L),some (.ref ld),some (.ref lv),some (.ref lt'),o7,o8]) ⟨(aH.refl _).but lv,s02.trans s27,[],[2^m-1],l5,_,_,rfl,⟨(u7 _ _ (u6 _ _ (u5 _ _ (s4 _ _ e3)))),qBq _,(fun i e z=>by cases z),fun _=>rfl,fun l z=>absurd rfl z⟩,by rw[u7 _ _ (u6 _ _ e5),hn],rfl⟩ (fun j σ' H' _ ⟨sb,_⟩=>aR.of (sb _ _ n7 e7)) (fun j x σ' H8 hx hj ⟨sb,s8,es,tl,lt',o7,o8,el,mR,ht,eσ⟩=>?_) (fun σ' H8 ⟨sb,s8,es,tl,lt',o7,o8,el,mR,ht,eσ⟩=>?_)
  ·subst eσ;rw[qAb] at hx hj;obtain⟨sv,hsv,rfl⟩:∃sv,ss[ss.length-1-j]?=some sv/\x = .int sv:=by
    rw[qAo] at hx;cases e:ss[ss.length-1-j]? with
    | none=>rw[e] at hx;cases hx
    | some sv=>rw[e] at hx;exact⟨sv,rfl,(Option.some.inj hx).symm⟩
   dsimp only[aY];refine⟨_,rfl,lt',_,rfl,.inl (aR.of ht),_,rfl,rfl,_,rfl,?_⟩;rw[bF];refine cY (fun h1=>?_) (fun h1=>?_)
   ·have full:tl.length=m:=by
     have z:=V.int.inj (of_decide_eq_true h1);lia
    refine⟨_,rfl,_,rfl,iY,fun R hR=>?_⟩;have u9:=aH.aF (o:=.tup [.ref lv,.ref lt']) hR;exact k R lv lt' _ es _ tl (s8.trans u9) h0v aC ldd (mR.same u9) (u9 _ _ ht) full
   ·have hd8:=sb _ _ nd (u7 _ _ (u6 _ _ hd5));refine⟨_,rfl,ld,ob,_,rfl,hd8,?_⟩;refine xK (fun i ys H'=>ys=aZ (En (nX m tbl tp L) sv i)) (fun i ys H1 H2 st h=>h) rfl hd8 (by unfold kM;rw[qAb,qAu,qCa];lia) (fun i kv H9 kk kk0 ys s9 hkv iv g1 g2=>?_) fun lg ys H9 hlg s9 iv hd9=>?_
    ·obtain⟨hi,rfl⟩:=FQ hkv;refine⟨_,rfl,_,rfl,ld,_,rfl,.inl ⟨_,_,.inr ⟨ob,s9 _ _ hd8⟩,rfl,(Ed hi).symm⟩,_,rfl,_,_,rfl,rfl,_,rfl,?_⟩;refine cY (fun z=>?_) (fun z=>?_)
     ·refine⟨_,rfl,g1 _ _ (.refl _) ?_⟩;rw[pR,if_pos (of_decide_eq_true z),iv];unfold aZ;rw[qAr];rfl
     ·refine g2 _ (.refl _) ?_;rw[pR,if_neg fun y=>z (decide_eq_true y)];exact iv
    ·obtain⟨g0,pg0,eg0⟩:=(ls.2 sv).mp (qAy hsv);have hbal:=KS m6 cst fe pg0 (qDq _);have hsd:sv*d=(tbl g0*d-Cm.pt m bt Z g0)*L:=by rw[<- eg0];exact sc g0
     have eG:En (nX m tbl tp L) sv (n-2)=gX m (fun g=>tbl g*d-Cm.pt m bt Z g) (tbl g0*d-Cm.pt m bt Z g0):=by
      have z:En (nX m tbl tp L) sv (n-2)=gX m (nX m tbl tp L) sv:=by rw[hn];rfl
      rw[z];exact rL d0 L0 sc hsd
     have eK:(kM m tbl tp L (n-2)).length=n-2:=by unfold kM;rw[qAb,qAu]
     rw[eK,eG] at iv;subst iv;have hat:(ss.map fun s=>s*d/L)[(ss.map fun s=>s*d/L).length-1-es.length]?=some (tbl g0*d-Cm.pt m bt Z g0):=by
      rw[qAb,qAo,el,hsv];show some (sv*d/L)=_;rw[hsd,qNc _ (by lia)]
     have efr:eJ sv L=eJ (tbl g0*d-Cm.pt m bt Z g0) d:=fV L0 d0 hsd;have gm:g0∈gX m (fun g=>tbl g*d-Cm.pt m bt Z g) (tbl g0*d-Cm.pt m bt Z g0):=g9.mpr ⟨pg0,qDq _⟩;have gl:=tS m6 (fun g=>tbl g*d-Cm.pt m bt Z g) (tbl g0*d-Cm.pt m bt Z g0);have gP:∀g,g∈gX m (fun g=>tbl g*d-Cm.pt m bt Z g) (tbl g0*d-Cm.pt m bt Z g0)->Pr m g:=fun g hg=>(g9.mp hg).1;have lvs9:=mR.same s9;generalize hGs:gX m (fun g=>tbl g*d-Cm.pt m bt Z g) (tbl g0*d-Cm.pt m bt Z g0)=gs at *;refine⟨_,rfl,.inl ⟨rfl,_,aR.of lvs9.hl⟩,_,rfl,_,rfl,?_⟩;dsimp only[iC,qCl,qCm];refine pC (by lia) (sL.mono (by decide)) fun fa hfa=>?_;have u10:=aH.aF (o:=eJ sv L) hfa;have e10:upd H9 fa (eJ sv L) fa=some (eJ (tbl g0*d-Cm.pt m bt Z g0) d):=by rw[aC,efr]
     generalize upd H9 fa (eJ sv L)=H10 at u10 e10|-;refine⟨_,rfl,_,rfl,lg,m,gs,rfl,u10 _ _ hd9,by lia,m6,by lia,qGd gm,fun g hg=>⟨(gP g hg).1,by have:=(gP g hg).2;lia⟩,hbal,fun wa H11 ys dx X hwa s11 hd11 rw11 dx0 sdx sX x0 xn hsum=>?_⟩;refine⟨iY,fun te hte=>?_⟩;have u12:=aH.aF (o:=.tup [.ref fa,.ref wa]) hte;have e12:upd H11 te (.tup [.ref fa,.ref wa]) te=_:=aC;generalize upd H11 te (.tup [.ref fa,.ref wa])=H12 at u12 e12|-;have s912:=u10.trans (s11.trans u12);have lvs12:=lvs9.same s912;have nwa:wa≠lv:=fun z=>by rw[z,u10 _ _ lvs9.hl] at hwa;cases hwa
     have ele:es.length<(ss.map fun s=>s*d/L).length:=by rw[qAb];lia
     have lve:FP m (fun g=>tbl g*d-Cm.pt m bt Z g) d H12 lv (tbl g0*d-Cm.pt m bt Z g0) te:=⟨fa,wa,ys,dx,X,e12,u12 _ _ (s11 _ _ e10),u12 _ _ hd11,nwa,by rw[hGs];exact rw11.t u12.t,dx0,sdx,sX,x0,xn,by rw[hGs];exact hsum⟩;refine⟨lv,_,_,rfl,rfl,lvs12.hl,by rw[qAb];exact qBd ele (by rw[qAb,qCa];lia),?_⟩;have lvs13:=lvs12.more hat ele lve;rw[hGs] at lvs13;have nlg:lg≠lv:=fun z=>by rw[z,mR.hl] at hlg;cases hlg
     refine⟨_,rfl,_,rfl,lg,m,gs,rfl,?_,by lia,m6,by lia,fun g hg=>by have:=(gP g hg).2;lia,fun lt2 H14 hlt2 s14 hd14=>?_⟩
     ·show upd _ _ _ lg=_;rw[aM nlg];exact s912 _ _ hd9
     refine⟨(((sb.then s9).then s912).nE _).then s14,((s8.trans (s9.trans s912)).upd_ne' h0v).trans s14,es++[te],pK m gs,lt2,_,_,by rw[qAm,el];rfl,lvs13.same s14,hd14,rfl⟩
  ·subst eσ;rw[qAb] at el;have full:tl.length=m:=by
    rcases qAl 1 m with z | z
    ·have ne:ss≠[]:=fun e=>by
      have:=(ls.2 (nX m tbl tp L (2^0))).mpr ⟨2^0,yD z (by lia),rfl⟩;rw[e] at this;cases this
     have sl:0<ss.length:=List.length_pos_iff.mpr ne;obtain⟨l0,hl0⟩:∃l0,(ss.map fun s=>s*d/L)[0]?=some l0:=⟨_,qAd (by rw[qAb];exact sl)⟩;have tle:=mR.t1 l0 (fun e=>by rw[e] at el;simp at el;lia) (by rw[qAb,el,qMb];exact hl0);rw[tle];refine Eb m6 fun p' hp'=>g9.mpr ⟨yD z hp',?_⟩;have hmem:=(ldd.2 _).mpr ⟨2^p',yD z hp',rfl⟩;obtain⟨i,hi,ei⟩:=qCq hmem;refine qJx ?_ (qFr ei);have hl0':=(List.getElem?_eq_some_iff.mp hl0);obtain⟨h0,e0⟩:=hl0';rw[<- e0];rcases qEr i with y | y
     ·subst y;exact qDq _
     ·exact qCe (List.pairwise_iff_getElem.mp ldd.1 0 i h0 hi y)
    ·have e1:ss=[]:=by
      cases e:ss with
      | nil=>rfl
      | cons a b =>
       obtain⟨g,pg,_⟩:=(ls.2 a).mp (by rw[e];exact qCi ..);have:=pg.1;have:=pg.2;rw[show m=1 by lia] at this;lia
     have ee:es=[]:=qEv (by rw[el,e1];rfl);rw[mR.t0 ee];show 1=m;lia
   refine⟨_,rfl,_,rfl,iY,fun R hR=>?_⟩;have u9:=aH.aF (o:=.tup [.ref lv,.ref lt']) hR;exact k R lv lt' _ es _ tl (s8.trans u9) h0v aC ldd (mR.same u9) (u9 _ _ ht) full
section
variable {lo:Int}{n:Nat}{σ0:St}{H1:Hp}{i0:Nat}{c:TT}{te:TE}{Q:Addr->Hp->Prop}
theorem Bu (Iv:Addr->Nat->List V->Hp->Prop) (mono:∀D i ys xs H o,H D=some (.lst xs)->Iv D i ys H->Iv D i ys (upd H D (.lst o))) (h0:∀D H,Iv D 0 [] H) (hn:n<=qAh)
  (step:∀(D:Addr) (i:Nat) (H2:Hp) (k:VK) (k0:Hp->Prop) (ys:List V),aH H1 H2->i<n->H2 D=some (.lst ys)->Iv D i ys H2->(∀y H3,aH H2 H3->Iv D (i+1) (ys++[y]) H3->k y H3)->(∀H3,aH H2 H3->Iv D (i+1) ys H3->k0 H3) ->
   c (σ0.set i0 (some (.int (lo+(i:Int))))) H2 fun b H4=>if b=true then te (σ0.set i0 (some (.int (lo+(i:Int))))) H4 k else k0 H4)
  (h:∀D ys H2,H1 D=none->aH H1 H2->Iv D n ys H2->H2 D=some (.lst ys)->Q D H2) :
  ∀D,H1 D=none->∃W:Nat->Nat->St->Hp->Prop,(∃m,W 0 m σ0 (upd H1 D (.lst [])))/\∀i m σ1 H2,W i m σ1 H2 ->
   ((pU lo n).stop i H2/\Q D H2)\/((pU lo n).go i H2/\∃N:St->Hp->Prop,(∀σ' H',N σ' H'->∃m',m'<m/\W (i+1) m' σ' H') /\
    ∀x H',(pU lo n).pX i H2 x H'->aY i0 x σ1 H' fun σ2 H3=>c σ2 H3 fun b H4=>if b=true then te σ2 H4 fun y H5=>∃xs,H5 D=some (.lst xs)/\xs.length<qAh/\N σ2 (upd H5 D (.lst (xs++[y]))) else N σ2 H4):=by
 intro D hD;refine⟨fun i m σ1 H2=>σ1.set i0 none=σ0.set i0 none/\aH H1 H2/\(∃ys,ys.length<=i/\Iv D i ys H2/\H2 D=some (.lst ys))/\i<=n/\m=n-i,⟨n,rfl,.aF hD,⟨[],qAg _,h0 _ _,aC⟩,qBq _,rfl⟩,?_⟩;rintro i m σ1 H2 ⟨hσ,hs,⟨ys,hy,hR,hd⟩,hi,rfl⟩;have hset:∀v:Option V,σ1.set i0 v=σ0.set i0 v:=fun v=>by
  have z:=congrArg (fun l=>qHu l i0 v) hσ;simpa using z
 rcases qAl i n with hlt | hge
 ·right
  refine⟨hlt,fun σ' H'=>σ'.set i0 none=σ0.set i0 none/\aH H1 H'/\∃ys,ys.length<=i+1/\Iv D (i+1) ys H'/\H' D=some (.lst ys),fun σ' H' ⟨a,b,c⟩=>⟨n-(i+1),by lia,a,b,c,hlt,rfl⟩,?_⟩;rintro x H' ⟨rfl,rfl⟩;show c (σ1.set i0 (some (.int (lo+(i:Int))))) _ _;rw[hset];refine step D i _ _ _ ys hs hlt hd hR (fun y H3 hs3 hR3=>⟨_,hs3 _ _ hd,by lia,?_,(hs.trans hs3).upd_ne' hD,ys++[y],by rw[qAm];show _+1<=_;lia,mono _ _ _ _ _ _ (hs3 _ _ hd) hR3,aC⟩) fun H3 hs3 hR3=>⟨?_,hs.trans hs3,ys,by lia,hR3,hs3 _ _ hd⟩
  ·simp
  ·simp
 ·left
  obtain rfl:i=n:=qCw hi hge;exact⟨qAg _,h D ys _ hD hs hR hd⟩
end
def KW (m:Nat) (tl:List Nat) (H:Hp) (D:Addr) (h:Nat) (e:Addr):Prop:=∃(ys:List V) (d:Int) (F:Nat->Int),H e=some (.lst ys)/\e≠D/\dQ H d ys (iX tl F tl.length)/\0<d/\Sm 6000 d/\(∀j,Sm 310000 (F j))/\∀i,i<m->(Wg.sm tl.length fun j=>bt (gN tl j) i*F j)=bt (2^h) i*d
theorem KW.same {m:Nat}{tl:List Nat}{H H':Hp}{D:Addr}{h:Nat}{e:Addr} (k:KW m tl H D h e) (s:aH H H'):KW m tl H' D h e:=by
 obtain⟨ys,d,F,a,b,c,r⟩:=k;exact⟨ys,d,F,s _ _ a,b,c.t s.t,r⟩
theorem KW.upd {m:Nat}{tl:List Nat}{H:Hp}{D:Addr}{h:Nat}{e:Addr}{xs o:List V} (k:KW m tl H D h e) (hD:H D=some (.lst xs)):KW m tl (upd H D (.lst o)) D h e:=by
 obtain⟨ys,d,F,a,b,c,r⟩:=k;exact⟨ys,d,F,by rw[aM b];exact a,b,c.t (.lst hD),r⟩
structure OV (m k:Nat) (tl:List Nat) (H:Hp) (D:Addr) (es:List Addr):Prop where
 len:es.length=k
 at_:∀(j:Nat) (e:Addr),es[j]?=some e->KW m tl H D j e
structure kD (m:Nat) (tb:Nat->Int) (H H':Hp) (R lp lv lk:Addr) (ps es kes:List Addr) (Z:Nat->Int) (d ev:Int) (ks:List Nat) (ds:List Int) (tl:List Nat):Prop where
 tup:H' R=some (.tup [.ref lp,.ref lv,.ref lk])
 np:H lp=none
 nv:H lv=none
 nk:H lk=none
 fl:j4 m Z d H' lp ps
 cst:nY m tb ks Z d ev
 fe:cX m ks=[]
 By:Bw m (fun g=>tb g*d-Cm.pt m bt Z g) ds
 mR:Bx m (fun g=>tb g*d-Cm.pt m bt Z g) d ds H' lv es tl
 LG:tl.length=m
 hk:H' lk=some (.lst (kes.map V.ref))
 Nq:OV m m tl H' lk kes
theorem kD.same {m:Nat}{tb:Nat->Int}{H0 H H':Hp}{R lp lv lk:Addr}{ps es kes:List Addr}{Z:Nat->Int}{d ev:Int}{ks:List Nat}{ds:List Int}{tl:List Nat} (h:kD m tb H0 H R lp lv lk ps es kes Z d ev ks ds tl) (s:aH H H'):kD m tb H0 H' R lp lv lk ps es kes Z d ev ks ds tl :=
 ⟨s _ _ h.tup,h.np,h.nv,h.nk,h.fl.same s,h.cst,h.fe,h.By,h.mR.same s,h.LG,s _ _ h.hk,⟨h.Nq.len,fun j e z=>(h.Nq.at_ j e z).same s⟩⟩
theorem Bx.KY {m:Nat}{tb:Nat->Int}{Z:Nat->Int}{d:Int}{ds:List Int}{H:Hp}{D:Addr}{es:List Addr}{tl:List Nat} (m1:1<=m) (m6:m<=6) (By:Bw m (fun g=>tb g*d-Cm.pt m bt Z g) ds) (h:Bx m (fun g=>tb g*d-Cm.pt m bt Z g) d ds H D es tl):Cm.iI m (fS tl)/\∀g,g∈tl->g<64:=by
 have p64:=iL m6;have:=qGx m;by_cases e:es=[]
 ·rw[h.t0 e];refine⟨?_,fun g hg=>by rw[List.mem_singleton.mp hg];lia⟩;refine lS (ks:=[]) (fun r hr=>by cases hr) fun z=>?_;have z:=gD.mp z 0 (by lia);have z:bt (2^m-1) 0=0:=z;rw[lP ⟨m,by lia⟩ ⟨0,by lia⟩ (by show 0<m;lia)] at z;cases z
 ·have hl:=List.length_pos_iff.mpr e;have le:=h.le;obtain⟨l,hl⟩:∃l,ds[ds.length-es.length]?=some l:=⟨_,qAd (by lia)⟩;rw[h.t1 l e hl];refine⟨jV m _,fun g hg=>?_⟩;have:=(g9.mp ((tR m _).subset hg)).1.2;lia
def Ee (K:qAc) (NT:Addr):Sp:=fun vs H Q E=>∃(p:Addr) (xs:List V),vs=[.ref p]/\H p=some (.lst xs)/\(∀v∈xs,Pl K H v)/\xs.length<=1000/\(jI xs=false->∀H',aH H H'->E (.ref NT) none H') /\
 (jI xs=true->∃(m n:Nat) (tb:Nat->Int),1<=m/\m<=6/\n=2^m/\xs=bG n tb/\(∀j,Sm 80000 (tb j))/\∀(R lp lv lk:Addr) (H':Hp) (ps es kes:List Addr) (Z:Nat->Int) (d ev:Int) (ks:List Nat) (ds:List Int) (tl:List Nat),aH H H'->kD m tb H H' R lp lv lk ps es kes Z d ev ks ds tl->Q (.ref R) H')
theorem Ab:aT ["table","many","shares","told"] ["table"] (aI Jx):=by constructor<;>first|rfl|decide +kernel
theorem KZ {f1 f2 f3 f4:Addr}{fd1 fd2 fd3 fd4:qBo} (t:Tx K mg "calm" Jx ["table"] f fd) (T:T K mg AL LN FR iF fCh fGM fCC fCA fPL SE NN NG NT NR) (D_hands_in:Df P w K mg base (j0 P w) 3 "hands_in" ["table"] (GP K NT) f1 fd1) (D_calm_shares:Df P w K mg base b0 7 "calm_shares" ["table","many"] Hc f2 fd2) (D_levels_of:Df P w K mg base b0 7 "levels_of" ["table","many","shares"] (Hd K) f3 fd3) (D_key_of:Df P w K mg base b0 6 "key_of" ["hand","groups","many"] GY f4 fd4) :
  Df P w K mg base (j0 P w) 8 "calm" ["table"] (Ee K NT) f fd:=by
 refine t.Ih Ab (fun vs H Q E h=>?_) (fun cdv _A outer s H vs Q E hr h=>?_)
 ·obtain⟨p,xs,rfl,_⟩:=h;rfl
 ·obtain⟨p,xs,rfl,hp,pl,hl,k0,k⟩:=h;refine⟨_,(aD (aU (i:=1) Ab.nd rfl (by first|exact .inl rfl|exact .inr rfl) (fW dB.toPass D_hands_in hr (by decide) (by rfl) (aA (pv 0) aB)))
   (aD (aU (i:=2) Ab.nd rfl bT (aX D_calm_shares hr (by decide) (by rfl) (aA (pv 0) (aA (pv 1) aB))))
   (aD (aU (i:=3) Ab.nd rfl (by first|exact .inl rfl|exact .inr rfl) (aX D_levels_of hr (by decide) (by rfl) (aA (pv 0) (aA (pv 1) (aA (pv 2) aB)))))
   (aG (aQ (cE (aA (pv 2) (aA (aP a9 (pv 3) aE (fun _ _=>rfl)) (aA (bQ (NB:=["hand","many","told"]) (pick:=[none,some 1,some 3]) (bJ (by with_unfolding_all rfl) (by exact(And.intro rfl (And.intro rfl trivial))) rfl (by decide +kernel) (by decide +kernel) (by rfl) (by rfl)) rfl
     (cB (by rfl) T.cD (aA (pv 1) aB)) (fun _ _ _=>aL (i:=0) (show(["hand","many","told"]:List Str).Nodup from by decide +kernel) rfl bT)
     (fun _ _ _=>bK) (fun _ _ _=>(aX D_key_of hr (by decide) (by rfl) (aA (pv 0) (aA (aP (eE K) (pv 2) aE (fun _ _=>rfl)) (aA (pv 1) aB)))))) aB))))))))),?_⟩
  refine⟨_,rfl,p,xs,rfl,hp,pl,hl,k0,fun m' m1' m6' hm' yes H1 s1=>?_⟩;obtain⟨m,n,tbl,m1,m6,hn,rfl,st,k⟩:=k yes;rw[aK,hn] at hm';obtain rfl:m=m':=Fz ⟨m,by lia⟩ ⟨m',by lia⟩ hm';dsimp only[aY];have hp1:=s1 _ _ hp;refine⟨_,rfl,_,rfl,p,m,n,tbl,rfl,hp1,m1,m6,hn,st,fun lp H2 ps ks Z d ev hlp s2 fl cst fe=>?_⟩;dsimp only[aY];refine⟨_,rfl,_,rfl,_,rfl,p,lp,m,n,tbl,Z,d,ev,ks,ps,rfl,s2 _ _ hp1,hn,m1,m6,st,cst,fe,fl,fun R lv lt H3 es ds tl s3 hlv hR By mR ht LG=>?_⟩;dsimp only[aY];obtain⟨ind,t64⟩:=mR.KY m1 m6 By;have a0:fK [V.ref lv,V.ref lt] 0=some (.ref lv):=rfl;have a1:fK [V.ref lv,V.ref lt] 1=some (.ref lt):=rfl;refine⟨_,rfl,_,rfl,R,_,_,_,rfl,rfl,cA.of hR,a0,_,rfl,m,rfl,by lia,by lia,?_⟩;refine Bu (n:=m) (fun D i ys H'=>∃kes:List Addr,ys=kes.map V.ref/\OV m i tl H' D kes) ?_ (fun D H=>⟨[],rfl,rfl,fun j e z=>by cases z⟩) (qAq (aO (by lia))) (fun D i H4 kk kk0 ys s4 hi hD iv g1 g2=>?_) fun lk ys H4 hlk s4 iv hd4=>?_
  ·rintro D i ys xs H o hD ⟨kes,e,ky⟩;exact⟨kes,e,ky.len,fun j e z=>(ky.at_ j e z).upd hD⟩
  ·obtain⟨kes,rfl,ky⟩:=iv;refine⟨_,rfl,_,rfl,R,_,_,_,rfl,rfl,cA.of (s4 _ _ hR),a1,_,rfl,lt,i,m,tl,by rw[qCk];rfl,s4 _ _ ht,hi,m6,LG,t64,ind,fun D2 H5 ys2 d2 F hD2 s5 hd5 rw5 d20 sd2 sF hs=>?_⟩;have ne:D2≠D:=fun z=>by rw[z,hD] at hD2;cases hD2
   refine g1 _ _ s5 ⟨kes++[D2],by rw[qAr];rfl,by rw[qAm,ky.len];rfl,fun j e z=>?_⟩;rcases qAl j kes.length with q | q
   ·rw[qAz q] at z;exact(ky.at_ j e z).same s5
   ·rw[qAv q] at z;have hj:j-kes.length=0:=by
     have:=(List.getElem?_eq_some_iff.mp z).1;rw[qBc] at this;lia
    rw[hj] at z;obtain rfl:=Option.some.inj z;rw[show j=i by have:=ky.len;lia];exact⟨ys2,d2,F,hd5,ne,rw5,d20,sd2,sF,hs⟩
  ·obtain⟨kes,rfl,ky⟩:=iv;refine⟨LH,fun R2 hR2=>?_⟩;have u5:=aH.aF (o:=.tup [.ref lp,.ref lv,.ref lk]) hR2;have s45:=s4.trans u5;exact k R2 lp lv lk _ ps es kes Z d ev ks ds tl (s1.trans (s2.trans (s3.trans s45))) ⟨aC,s1.free hlp,(s1.trans s2).free hlv,(s1.trans (s2.trans s3)).free hlk,fl.same (s3.trans s45),cst,fe,By,mR.same s45,LG,u5 _ _ hd4,ky.len,fun j e z=>(ky.at_ j e z).same u5⟩
theorem nY.tl {m:Nat}{tb:Nat->Int}{ks:List Nat}{Z:Nat->Int}{d ev:Int} (h:nY m tb ks Z d ev) (fr:cX m ks=[]):∀g,Pr m g->Cm.Tl m bt ks g:=fun g pg=>by
 cases q:g4 m ks g with
 | true=>exact lR h.ind q
 | false =>
  have:=dJ.mpr ⟨pg,q⟩;rw[fr] at this;cases this
theorem nY.word {m:Nat}{tb:Nat->Int}{ks:List Nat}{Z:Nat->Int}{d ev:Int} (h:nY m tb ks Z d ev) (fr:cX m ks=[]){c l:Int} (c0:0<c){y:Nat->Int} (yN:Cm.pt m bt y (2^m-1)<=0) (y0:∀g,Pr m g->l<=(tb g*d-Cm.pt m bt Z g)*c->0<=Cm.pt m bt y g){g:Nat} (pg:Pr m g) (lg:l<=(tb g*d-Cm.pt m bt Z g)*c):Cm.pt m bt y g=0 :=
 (h.OS (fun g=>l<=(tb g*d-Cm.pt m bt Z g)*c) (fun g h _ _ _ _ a b=>qJx a (qDa b (qCe c0))) y yN (fun g pg _ sg=>y0 g pg sg) g pg (h.tl fr g pg) lg).2
theorem Nr:aT ["_law_found"] ["_law_found"] (aI Jz):=by constructor<;>first|rfl|decide +kernel
theorem La (t:Tx K mg "_law_whole" Jz ["_law_found"] f fd) (T:T K mg AL LN FR iF fCh fGM fCC fCA fPL SE NN NG NT NR):Df P w K mg base b0 1 "_law_whole" ["_law_found"] (lI K) f fd:=by
 refine t.gY Nr (fun vs H Q E h=>?_) (fun cdv A outer s H vs Q E hr h=>?_)
 ·obtain⟨v,rfl,_⟩:=h;rfl
 ·obtain⟨v,rfl,pl,k⟩:=h;obtain⟨Ty,ty,kd⟩:=pl.ex;refine⟨_,aG (aQ (lZ (aJ cI (by rfl) T.dY dO (aA (pv 0) (aA (cT (v:=.ty "int") (by rfl) T.oW wW rfl) aB)))
   (kF (BA (aJ cI (by rfl) T.dY dO (aA (pv 0) (aA (cT (v:=.ty "bool") (by rfl) T.mO yV rfl) aB))))))),?_⟩
  refine⟨_,rfl,v,.ty "int",_,_,_,rfl,rfl,.of ty,kd.Mo K,_,rfl,?_⟩;refine cY (fun h1=>?_) (fun h1=>?_)
  ·refine⟨_,rfl,v,.ty "bool",_,_,_,rfl,rfl,.of ty,kd.Gm K,_,rfl,?_⟩;have e:(!(Ty == "bool"))=kG v:=by
    rw[Pl.kG ty];cases kd <;> first | rfl | (exact absurd h1 (by decide))
   rw[e];exact k
  ·have e:false=kG v:=by
    rw[Pl.kG ty];cases kd <;> first | rfl | (exact absurd rfl h1)
   rw[e];exact k
theorem He:aT ["_law_one","_law_other"] ["_law_one","_law_other"] (aI JA):=by constructor<;>first|rfl|decide +kernel
theorem FT (a:Int){b:Int}:qBs b (a%b)=qBs a b:=by
 have z:=Int.gcd_mul_right_add_left b (a%b) (a/b);rw[qCp,Int.mul_ediv_add_emod] at z;rw[qMi b,z]
def Ef:Sp:=fun vs H Q _=>∃(a:Int) (b:Int),vs=[.int a,.int b]/\0<=b/\Q (.int (qBs a b:Int)) H
theorem Lb (t:Tx K mg "_law_divisor" JA ["_law_one","_law_other"] f fd) (T:T K mg AL LN FR iF fCh fGM fCC fCA fPL SE NN NG NT NR):Df P w K mg base b0 1 "_law_divisor" ["_law_one","_law_other"] Ef f fd:=by
 refine t.gY He (fun vs H Q E h=>?_) (fun cdv A outer s H vs Q E hr h=>?_)
 ·obtain⟨a,b,rfl,_⟩:=h;rfl
 ·obtain⟨a,b,rfl,hb,k⟩:=h;refine⟨_,(aD (kT PassesOwn.never (aV eO (pv 1) aE (aW _))
    (aG (HH (i:=0) (j:=1) rfl He.nd rfl rfl (by decide) rfl rfl (aA (pv 1) (aA (aS iO (pv 0) (pv 1)) aB)) (by rfl))))
   (aG (aQ (aJ oE (by rfl) T.oY wX (aA (pv 0) aB))))),?_⟩
  refine⟨fun m σ H2=>H2=H/\∃(x:Int) (r:Nat),m=r/\σ=[some (.int x),some (.int (r:Int))]/\qBs x r=qBs a b,⟨b.toNat,rfl,a,b.toNat,rfl,by rw[qDp hb];rfl,by rw[qDp hb]⟩,?_⟩;rintro m σ H2 ⟨rfl,x,r,rfl,rfl,hg⟩;refine⟨_,rfl,rfl,_,rfl,?_⟩;refine cY (fun h1=>?_) (fun h1=>?_)
  ·have hr0:=oZ h1;refine⟨fun σ' H'=>H'=H2/\∃(x':Int) (r':Nat),r'<m/\σ'=[some (.int x'),some (.int (r':Int))]/\qBs x' r'=qBs a b,fun σ' H' ⟨e,x',r',h1,h2,h3⟩=>⟨r',h1,e,x',r',rfl,h2,h3⟩,?_⟩;refine⟨_,rfl,_,rfl,_,rfl,_,_,rfl,rfl,(by show(0:Int)<(m:Int);lia),_,_,rfl,rfl,(m:Int),(x%(m:Int)).toNat,?_,?_,?_⟩
   ·have:=qHj x (show(0:Int)<m by lia);lia
   ·rw[qDp (qHa _ (by lia))];rfl
   ·rw[qDp (qHa _ (by lia)),FT x];exact hg
  ·have hr0:=zM h1;subst hr0;refine⟨_,rfl,x,rfl,?_⟩;have e:qBs x ((0:Nat):Int)=x.natAbs:=by show qBs x 0=_;rw[Int.gcd_zero_right]
   rw[e] at hg;rw[abs_eq,hg];exact k
def vY:Sp:=fun vs H Q _=>∃(p:Addr) (X d:Int),vs=[.ref p]/\H p=some (eJ X d)/\0<d/\Q (.bl true) H
theorem Nt:aT ["_law_found"] ["_law_found"] (aI JB):=by constructor<;>first|rfl|decide +kernel
theorem Lc {f1 f2:Addr}{fd1 fd2:qBo} (t:Tx K mg "_law_fraction" JB ["_law_found"] f fd) (T:T K mg AL LN FR iF fCh fGM fCC fCA fPL SE NN NG NT NR) (D_law_whole:Df P w K mg base b0 1 "_law_whole" ["_law_found"] (lI K) f1 fd1) (D_law_divisor:Df P w K mg base b0 1 "_law_divisor" ["_law_one","_law_other"] Ef f2 fd2) :
  Df P w K mg base b0 2 "_law_fraction" ["_law_found"] vY f fd:=by
 refine t.gY Nt (fun vs H Q E h=>?_) (fun cdv A outer s H vs Q E hr h=>?_)
 ·obtain⟨p,X,d,rfl,_⟩:=h;rfl
 ·obtain⟨p,X,d,rfl,hp,d0,k⟩:=h;refine⟨_,(aD (bR (PW.pt (pw_or (bX (bU (aJ cI (by rfl) T.dY dO (aA (pv 0) (aA (cT (v:=.ty "tuple") (by rfl) T.gA jB rfl) aB))))) (pw_or1 (aV eO (aJ aN (by rfl) T.bW bM (aA (pv 0) aB)) aE (aW _))))) (aG (aQ eV)) a8)
   (aD (bR (PW.pt (pw_or (bX (bU (aX D_law_whole hr (by decide) (by rfl) (aA (aP a9 (pv 0) aE (fun _ _=>rfl)) aB)))) (pw_or (bX (bU (aX D_law_whole hr (by decide) (by rfl) (aA (aP a9 (pv 0) aE (fun _ _=>rfl)) aB)))) (pw_or1 (aV i8 (aP a9 (pv 0) aE (fun _ _=>rfl)) aE (aW _)))))) (aG (aQ eV)) a8)
   (aG (aQ (eB g6 (aX D_law_divisor hr (by decide) (by rfl) (aA (aP a9 (pv 0) aE (fun _ _=>rfl)) (aA (aP a9 (pv 0) aE (fun _ _=>rfl)) aB))) aE (aW _)))))),?_⟩
  obtain⟨_,y1,g1,_⟩:=cW (X:=X) d0;refine⟨_,rfl,.ref p,.ty "tuple",_,_,_,rfl,rfl,.of (.tup hp),Kd.tup.oK K,_,rfl,?_⟩;refine cL ⟨_,rfl,p,_,rfl,.inr (cA.of hp),rfl,_,rfl,?_⟩;refine iE rfl ?_;refine⟨_,rfl,p,_,_,_,rfl,rfl,cA.of hp,rfl,_,rfl,.int _,_,rfl,?_⟩;refine cL ⟨_,rfl,p,_,_,_,rfl,rfl,cA.of hp,rfl,_,rfl,.int _,_,rfl,?_⟩;refine cL ⟨_,rfl,p,_,_,_,rfl,rfl,cA.of hp,rfl,_,_,rfl,rfl,_,rfl,?_⟩;rw[decide_eq_false (show ¬(tb X d<1) by lia)];refine cL ?_;refine⟨_,rfl,p,_,_,_,rfl,rfl,cA.of hp,rfl,_,rfl,p,_,_,_,rfl,rfl,cA.of hp,rfl,_,_,rfl,(show 0<=tb X d by lia),rfl,?_⟩;show Q (V.bl (decide (V.int ((qBs (ta X d) (tb X d):Nat):Int)=V.int 1))) H;rw[g1,show decide (V.int ((1:Nat):Int)=V.int 1)=true from by decide];exact k
def Hf:Sp:=fun vs H Q _=>∃(l:Addr) (n:Nat) (X:Nat->Int) (d:Int) (ws:List Addr),vs=[.ref l,.int (n:Int)]/\j4 n X d H l ws/\0<d/\Q (.bl true) H
theorem Hg:aT ["_law_found","_law_many","_law_one"] ["_law_found","_law_many"] (aI JC):=by constructor<;>first|rfl|decide +kernel
theorem Ld {f1:Addr}{fd1:qBo} (t:Tx K mg "_law_fractions" JC ["_law_found","_law_many"] f fd) (T:T K mg AL LN FR iF fCh fGM fCC fCA fPL SE NN NG NT NR) (D_law_fraction:Df P w K mg base b0 2 "_law_fraction" ["_law_found"] vY f1 fd1) :
  Df P w K mg base b0 3 "_law_fractions" ["_law_found","_law_many"] Hf f fd:=by
 refine t.gY Hg (fun vs H Q E h=>?_) (fun cdv A outer s H vs Q E hr h=>?_)
 ·obtain⟨l,n,X,d,ws,rfl,_⟩:=h;rfl
 ·obtain⟨l,n,X,d,ws,rfl,fl,d0,k⟩:=h;refine⟨_,(aD (bR (PW.pt (pw_or (bX (bU (aJ cI (by rfl) T.dY dO (aA (pv 0) (aA (cT (v:=.ty "list") (by rfl) T.cV dA rfl) aB))))) (pw_or1 (aV eO (aJ aN (by rfl) T.bW bM (aA (pv 0) aB)) (pv 1) (aW _))))) (aG (aQ eV)) a8)
   (aD (cO PassesOwn.never rfl (bN (pv 0)) (aL (i:=2) Hg.nd rfl bT)
    (aG (bR (bX (bU (aX D_law_fraction hr (by decide) (by rfl) (aA (pv 2) aB)))) (aG (aQ eV)) a8)))
   (aG (aQ eV)))),?_⟩
  refine⟨_,rfl,.ref l,.ty "list",_,_,_,rfl,rfl,.of (.lst fl.hr),Kd.lst.mW K,_,rfl,?_⟩;refine cL ⟨_,rfl,l,_,rfl,.inl (aR.of fl.hr),_,rfl,rfl,_,rfl,?_⟩;refine iE (by rw[qAb,fl.len]) ?_;refine⟨_,rfl,l,rfl,⟨_,aR.of fl.hr⟩,?_⟩;refine dN (xs:=ws.map V.ref) (fun i σ H2=>H2=H/\∃o:Option V,σ=[some (.ref l),some (.int (n:Int)),o]) ⟨rfl,_,rfl⟩ (fun i σ H2 _ ⟨e,_⟩=>by rw[e];exact aR.of fl.hr) (fun i y σ H2 hy ⟨eH,o,eσ⟩=>?_) (fun σ H2 ⟨eH,o,eσ⟩=>?_)
  ·subst eH eσ;obtain⟨p,hp,rfl⟩:=c9 hy;exact⟨_,rfl,p,_,d,rfl,fl.at_ i p hp,d0,_,rfl,cL ⟨rfl,_,rfl⟩⟩
  ·subst eH;exact k
def Ac:Sp:=fun vs H Q _=>∃(l:Addr) (n:Nat) (X:Nat->Int) (d:Int) (ws:List Addr),vs=[.ref l]/\j4 n X d H l ws/\0<d/\Sm 6000 d/\∀L,Fs n X d L->Q (.int L) H
theorem Ad:aT ["_law_numbers","_law_low_here","_law_number_here"] ["_law_numbers"] (aI JD):=by constructor<;>first|rfl|decide +kernel
theorem Le {f1:Addr}{fd1:qBo} (t:Tx K mg "_law_low" JD ["_law_numbers"] f fd) (T:T K mg AL LN FR iF fCh fGM fCC fCA fPL SE NN NG NT NR) (D_law_divisor:Df P w K mg base b0 1 "_law_divisor" ["_law_one","_law_other"] Ef f1 fd1) :
  Df P w K mg base b0 2 "_law_low" ["_law_numbers"] Ac f fd:=by
 refine t.gY Ad (fun vs H Q E h=>?_) (fun cdv A outer s H vs Q E hr h=>?_)
 ·obtain⟨l,n,X,d,ws,rfl,_⟩:=h;rfl
 ·obtain⟨l,n,X,d,ws,rfl,fl,d0,sd,k⟩:=h;refine⟨_,(aD (aU (i:=1) Ad.nd rfl bT aE)
   (aD (cO PassesOwn.never rfl (bN (pv 0)) (aL (i:=2) Ad.nd rfl bT)
    (aG (aU (i:=1) Ad.nd rfl bT (aS bL (aS gH (pv 1) (aX D_law_divisor hr (by decide) (by rfl) (aA (pv 1) (aA (aP a9 (pv 2) aE (fun _ _=>rfl)) aB)))) (aP a9 (pv 2) aE (fun _ _=>rfl))))))
   (aG (aQ (pv 1))))),?_⟩
  refine⟨_,rfl,l,rfl,⟨_,aR.of fl.hr⟩,?_⟩;refine dN (xs:=ws.map V.ref) (fun i σ H2=>H2=H/\∃(L:Int) (o:Option V),σ=[some (.ref l),some (.int L),o]/\Fs i X d L) ⟨rfl,1,_,rfl,by decide,qPt _,fun j hj=>by lia⟩ (fun i σ H2 _ ⟨e,_⟩=>by rw[e];exact aR.of fl.hr) (fun i y σ H2 hy ⟨eH,L,o,eσ,lo⟩=>?_) (fun σ H2 ⟨eH,L,o,eσ,lo⟩=>?_)
  ·subst eH eσ;obtain⟨p,hp,rfl⟩:=c9 hy;have hpt:=fl.at_ i p hp;obtain⟨_,y1,_,yd⟩:=cW (X:=X i) d0;have sL:Sm 6000 L:=sd.le (by have:=qDt d0 lo.dvd;have:=lo.pos;lia);have sb:=kC (X:=X i) d0 sd;have g0:(qBs L (tb (X i) d):Int)≠0:=by
    have:=qGz (tb (X i) d) (show L≠0 by have:=lo.pos;lia);lia
   have sg:Sm 6000 ((qBs L (tb (X i) d):Nat):Int):=sL.le (by
    rw[qNn];exact qJi (by have:=lo.pos;lia) (qKb _ _))
   refine⟨_,rfl,_,rfl,_,rfl,p,_,_,_,rfl,rfl,cA.of hpt,rfl,_,_,rfl,(show 0<=tb (X i) d by lia),?_⟩;refine⟨_,_,rfl,rfl,sg.db g0,_,rfl,p,_,_,_,rfl,rfl,cA.of hpt,rfl,_,_,rfl,rfl,sL.fdiv.mb sb,rfl,_,_,rfl,vO d0 lo⟩
  ·subst eH eσ;rw[qAb,fl.len] at lo;exact⟨_,rfl,k L lo⟩
def Ae:Sp:=fun vs H Q _=>∃(l:Addr) (n:Nat) (X:Nat->Int) (d L:Int) (ws:List Addr),vs=[.ref l,.int L]/\j4 n X d H l ws/\n<=100/\0<d/\Sm 6000 d/\(∀j,Sm 310000 (X j))/\Fs n X d L /\
 ∀(D:Addr) (H':Hp) (tt:Nat->Int),H D=none->aH H H'->H' D=some (.lst (bG n tt))->(∀j,j<n->tt j*d=X j*L)->(∀j,Sm 320000 (tt j))->Q (.ref D) H'
theorem Nu:aT ["_law_numbers","_law_low_here"] ["_law_numbers","_law_low_here"] (aI JE):=by constructor<;>first|rfl|decide +kernel
theorem Lf (t:Tx K mg "_law_tops" JE ["_law_numbers","_law_low_here"] f fd) (T:T K mg AL LN FR iF fCh fGM fCC fCA fPL SE NN NG NT NR):Df P w K mg base b0 1 "_law_tops" ["_law_numbers","_law_low_here"] Ae f fd:=by
 refine t.gY Nu (fun vs H Q E h=>?_) (fun cdv A outer s H vs Q E hr h=>?_)
 ·obtain⟨l,n,X,d,L,ws,rfl,_⟩:=h;rfl
 ·obtain⟨l,n,X,d,L,ws,rfl,fl,n1,d0,sd,sX,lo,k⟩:=h;refine⟨_,(aG (aQ (bQ (NB:=["_law_number_here","_law_low_here"]) (pick:=[none,some 1]) (bJ (by with_unfolding_all rfl) (by exact(And.intro rfl trivial)) rfl (by decide +kernel) (by decide +kernel) (by rfl) (by rfl)) rfl
     (bN (pv 0)) (fun _ _ _=>aL (i:=0) (show(["_law_number_here","_law_low_here"]:List Str).Nodup from by decide +kernel) rfl bT)
     (fun _ _ _=>bK) (fun _ _ _=>(aS bL (aP (eE K) (pv 0) aE (fun _ _=>rfl)) (aS gH (pv 1) (aP (eE K) (pv 0) aE (fun _ _=>rfl)))))))),?_⟩
  have sL:Sm 6000 L:=sd.le (by have:=qDt d0 lo.dvd;have:=lo.pos;lia);refine⟨_,rfl,l,rfl,⟨_,aR.of fl.hr⟩,?_⟩;refine cP (xs:=ws.map V.ref) (fun j _=>some (.int (ta (X j) d*L.fdiv (tb (X j) d)))) (aR.of fl.hr) (by rw[qAb,fl.len];exact qAq (aO (by lia))) (fun j y H2 kk kk0 s2 hy g1 g2=>?_) fun D H2 hD s2 hd=>?_
  ·obtain⟨p,hp,rfl⟩:=c9 hy;have hpt:=s2 _ _ (fl.at_ j p hp);obtain⟨_,y1,_,yd⟩:=cW (X:=X j) d0;exact⟨_,rfl,p,_,_,_,rfl,rfl,cA.of hpt,rfl,_,rfl,_,rfl,p,_,_,_,rfl,rfl,cA.of hpt,rfl,_,_,rfl,rfl,(kC (X:=X j) d0 sd).db (show tb (X j) d≠0 by lia),_,_,rfl,rfl,(lN (sX j)).mb sL.fdiv,g1 _ rfl _ (.refl _)⟩
  ·refine k D H2 (fun j=>ta (X j) d*L.fdiv (tb (X j) d)) hD s2 ?_ (fun j hj=>?_) fun j=>((lN (sX j)).mul sL.fdiv).mono (by decide)
   ·rw[hd,qAb,fl.len,lK _ (by rw[qAb,fl.len])];rfl
   ·obtain⟨e,y1,_,yd⟩:=cW (X:=X j) d0;obtain⟨c,hc⟩:=lo.all j hj;have e2:L.fdiv (tb (X j) d)=c:=by
     rw[hc];exact qCn _ (by lia)
    rw[e2,hc];generalize ta (X j) d=a at e;generalize tb (X j) d=b at e;grind
theorem yE (g i:Nat):qDi ((g:Int)/2^i) 1=((g/2^i%2:Nat):Int):=by
 have e:(g:Int)/2^i=((g/2^i:Nat):Int):=by push_cast;rfl
 rw[e];show((g/2^i &&& 1:Nat):Int)=_;rw[Nat.and_one_is_mod]
def NK (n g:Nat) (w:Nat->Int):List Int:=(qAn n).filterMap fun i=>if g/2^i%2=1 then some (w i) else none
theorem Lg (n g:Nat) (w:Nat->Int):((qAn n).filterMap fun i=>if g/2^i%2=1 then some (V.int (w i)) else none)=(NK n g w).map V.int:=by
 unfold NK;rw[qJd];refine dE fun i _=>?_;split <;> rfl
theorem Af (g:Nat) (w:Nat->Int):∀n,(NK n g w).sum=Wg.sm n fun i=>bt g i*w i
 | 0=>rfl
 | n+1=>by
  have ih:=Af g w n;unfold NK at ih|-;rw[qBk,qBy,qFa,ih];show _=(Wg.sm n fun i=>bt g i*w i)+bt g n*w n;congr 1;rw[qCg,qJe];unfold bt;by_cases z:g/2^n%2=1
  ·rw[if_pos z,z];simp
  ·have z0:g/2^n%2=0:=by lia
   rw[if_neg z,z0];simp
def Hh (K:qAc):Sp:=fun vs H Q _=>∃(q:Addr) (n g:Nat) (w:Nat->Int),vs=[.ref q,.int (g:Int)]/\H q=some (.lst (bG n w))/\n<=60/\∀H',aH H H'->Q (.int (Wg.sm n fun i=>bt g i*w i)) H'
theorem Nv:aT ["_law_tops_here","_law_group"] ["_law_tops_here","_law_group"] (aI JG):=by constructor<;>first|rfl|decide +kernel
theorem Lh (t:Tx K mg "_law_share" JG ["_law_tops_here","_law_group"] f fd) (T:T K mg AL LN FR iF fCh fGM fCC fCA fPL SE NN NG NT NR):Df P w K mg base b0 1 "_law_share" ["_law_tops_here","_law_group"] (Hh K) f fd:=by
 refine t.gY Nv (fun vs H Q E h=>?_) (fun cdv A outer s H vs Q E hr h=>?_)
 ·obtain⟨q,n,g,w',rfl,_⟩:=h;rfl
 ·obtain⟨q,n,g,w',rfl,hq,hn,k⟩:=h;refine⟨_,(aG (aQ (aJ (fQ rfl) (by rfl) T.iV jC (aA (bQ (NB:=["_law_hand","_law_group","_law_tops_here"]) (pick:=[none,some 1,some 0]) (bJ (by with_unfolding_all rfl) (by exact(And.intro rfl (And.intro rfl trivial))) rfl (by decide +kernel) (by decide +kernel) (by rfl) (by rfl)) rfl
     (cB (by rfl) T.cD (aA (aJ aN (by rfl) T.bW bM (aA (pv 0) aB)) aB)) (fun _ _ _=>aL (i:=0) (show(["_law_hand","_law_group","_law_tops_here"]:List Str).Nodup from by decide +kernel) rfl bT)
     (fun _ _ _=>eZ (aV g6 (aS oC (aS wF (pv 1) (pv 0)) aE) aE (aW _))) (fun _ _ _=>(aP (bV K) (pv 2) (pv 0) (fun _ _=>rfl)))) aB)))),?_⟩
  refine⟨_,rfl,q,_,rfl,.inl (aR.of hq),?_⟩;rw[aK];refine⟨n,rfl,by lia,by lia,?_⟩;refine fC (n:=n) (fun i=>if g/2^i%2=1 then some (V.int (w' i)) else none) (qAq (aO (by lia))) (fun i H2 kk kk0 s2 hi h1 h2=>?_) fun D H2 hD s2 hd=>?_
  ·rw[qCk (i:Int)];have eb:qDi ((g:Int)/2^(i:Int).toNat) 1=((g/2^i%2:Nat):Int):=by rw[qBb,yE]
   refine⟨_,rfl,_,rfl,_,_,rfl,rfl,(by show 0<=(i:Int);lia),_,_,rfl,rfl,rfl,_,rfl,cY (fun h3=>?_) (fun h3=>h2 ?_ _ (.refl _))⟩
   ·have z:=V.int.inj (of_decide_eq_true h3);rw[eb] at z;exact⟨_,rfl,_,rfl,q,_,_,_,rfl,rfl,aR.of (s2 _ _ hq),bS hi,h1 _ (if_pos (by lia)) _ (.refl _)⟩
   ·refine if_neg fun z=>h3 ?_;show decide (V.int (qDi ((g:Int)/2^(i:Int).toNat) 1)=V.int 1)=true;rw[eb,z];rfl
  ·rw[Lg] at hd;refine⟨D,_,rfl,.inl (aR.of hd),?_⟩;rw[Af];exact k H2 s2
structure Ph (m n:Nat) (tb:Nat->Int) (d:Int) (ps:List (Int×Int)):Prop where
 len:ps.length<=64
 mem:∀p∈ps,1<=p.1/\p.1<(n:Int)/\1<=p.2/\Sm 310000 p.2
 inc:ps.Pairwise fun a b=>a.1<b.1
 iJ:∀i,i<m->(ps.map fun p=>bt p.1.toNat i*p.2).sum=d
 more:tb (n-1)*d<(ps.map fun p=>tb p.1.toNat*p.2).sum
theorem Ai (ps:List (Int×Int)) (F:Int×Int->Int):(Wg.sm ps.length fun j=>F (ps.getD j (0,0)))=(ps.map F).sum:=by
 rw[<- mP];congr 1;refine qNu (by rw[qAb,qAb,qAu]) fun i a b=>?_;rw[qAb] at b;rw[qJu,qJu,qMz,qAk,qAd b];rfl
def Hi (K:qAc):Sp:=fun vs H Q _=>∃(l lg:Addr) (m n:Nat) (tb:Nat->Int) (d:Int) (ys:List V) (ps:List (Int×Int)),vs=[.ref l,.int (m:Int),.ref lg]/\H l=some (.lst ys)/\dQ H d ys ps/\H lg=some (.lst (ps.map fun p=>V.int p.1))/\m<=6/\n<=64/\0<d/\Sm 6000 d/\Ph m n tb d ps /\
 ∀(D DT:Addr) (H':Hp) (L:Int) (tt:Nat->Int),aH H H'->H' D=some (.lst [.ref DT,.int L])->H' DT=some (.lst (bG ps.length tt))->0<L->Sm 6000 L->(∀j,j<ps.length->tt j*d=(ps.getD j (0,0)).2*L)->(∀j,Sm 320000 (tt j))->Q (.ref D) H'
theorem pS:aT ["_law_found","_law_many","_law_groups","_law_weights","_law_row","_law_group","_law_low_here","_law_tops_here","_law_hand"] ["_law_found","_law_many","_law_groups"] (aI JH):=by constructor<;>first|rfl|decide +kernel
theorem Li {f1 f2 f3 f4:Addr}{fd1 fd2 fd3 fd4:qBo} (t:Tx K mg "_law_weighing" JH ["_law_found","_law_many","_law_groups"] f fd) (T:T K mg AL LN FR iF fCh fGM fCC fCA fPL SE NN NG NT NR) (D_law_whole:Df P w K mg base b0 1 "_law_whole" ["_law_found"] (lI K) f1 fd1) (D_law_fraction:Df P w K mg base b0 2 "_law_fraction" ["_law_found"] vY f2 fd2) (D_law_low:Df P w K mg base b0 2 "_law_low" ["_law_numbers"] Ac f3 fd3) (D_law_tops:Df P w K mg base b0 1 "_law_tops" ["_law_numbers","_law_low_here"] Ae f4 fd4) :
  Df P w K mg base b0 3 "_law_weighing" ["_law_found","_law_many","_law_groups"] (Hi K) f fd:=by
 refine t.gY pS (fun vs H Q E h=>?_) (fun cdv A outer s H vs Q E hr h=>?_)
 ·obtain⟨l,lg,m,n,tb',d,ys,ps,rfl,_⟩:=h;rfl
 ·obtain⟨l,lg,m,n,tb',d,ys,ps,rfl,hl,ra,hg,m6,n64,d0,sd,wp,k⟩:=h;have hlen:=ra.len;refine⟨_,(aD (bR (PW.pt (pw_or (bX (bU (aJ cI (by rfl) T.dY dO (aA (pv 0) (aA (cT (v:=.ty "list") (by rfl) T.cV dA rfl) aB))))) (pw_or1 (aV eO (aJ aN (by rfl) T.bW bM (aA (pv 0) aB)) (aJ aN (by rfl) T.bW bM (aA (pv 2) aB)) (aW _))))) (aG (aQ dM)) a8)
   (aD (aU (i:=3) pS.nd rfl bT (bH aB))
   (aD (cO PassesOwn.never rfl (gI (by rfl) T.gO (aA (pv 0) (aA (pv 2) aB))) (eW rfl (bI (aL (i:=4) pS.nd rfl bT) (bI (aL (i:=5) pS.nd rfl bT) dG)))
    (aD (bR (PW.pt (pw_or (bX (bU (aJ cI (by rfl) T.dY dO (aA (pv 4) (aA (cT (v:=.ty "tuple") (by rfl) T.gA jB rfl) aB))))) (pw_or (aV eO (aJ aN (by rfl) T.bW bM (aA (pv 4) aB)) aE (aW _)) (pw_or (bX (bU (aX D_law_whole hr (by decide) (by rfl) (aA (aP a9 (pv 4) aE (fun _ _=>rfl)) aB)))) (pw_or1 (aV eO (aP a9 (pv 4) aE (fun _ _=>rfl)) (pv 5) (aW _))))))) (aG (aQ dM)) a8)
    (aD (bR (PW.pt (pw_or (bX (bU (aX D_law_fraction hr (by decide) (by rfl) (aA (aP a9 (pv 4) aE (fun _ _=>rfl)) aB)))) (pw_or1 (aV i8 (aP a9 (aP a9 (pv 4) aE (fun _ _=>rfl)) aE (fun _ _=>rfl)) aE (aW _))))) (aG (aQ dM)) a8)
    (aG (fN (qF qEg qFk qFj iQ (pv 3) (aA (aP a9 (pv 4) aE (fun _ _=>rfl)) aB)))))))
   (aD (aU (i:=6) pS.nd rfl bT (aX D_law_low hr (by decide) (by rfl) (aA (pv 3) aB)))
   (aD (aU (i:=7) pS.nd rfl (by first|exact .inl rfl|exact .inr rfl) (aX D_law_tops hr (by decide) (by rfl) (aA (pv 3) (aA (pv 6) aB))))
   (aD (cO PassesOwn.never rfl (cB (by rfl) T.cD (aA (pv 1) aB)) (aL (i:=8) pS.nd rfl (by first|exact .inl rfl|exact .inr rfl))
    (aG (bR (aV eO (aJ (fQ rfl) (by rfl) T.iV jC (aA (bQ (NB:=["_law_k","_law_groups","_law_hand","_law_tops_here"]) (pick:=[none,some 2,some 8,some 7]) (bJ (by with_unfolding_all rfl) (by exact(And.intro rfl (And.intro rfl (And.intro rfl trivial)))) rfl (by decide +kernel) (by decide +kernel) (by rfl) (by rfl)) rfl
     (cB (by rfl) T.cD (aA (aJ aN (by rfl) T.bW bM (aA (pv 2) aB)) aB)) (fun _ _ _=>aL (i:=0) (show(["_law_k","_law_groups","_law_hand","_law_tops_here"]:List Str).Nodup from by decide +kernel) rfl bT)
     (fun _ _ _=>eZ (aV g6 (aS oC (aS wF (aP (bV K) (pv 1) (pv 0) (fun _ _=>rfl)) (pv 2)) aE) aE (aW _))) (fun _ _ _=>(aP (bV K) (pv 3) (pv 0) (fun _ _=>rfl)))) aB)) (pv 6) (aW _)) (aG (aQ dM)) a8)))
   (aG (aQ (bH (aA (pv 7) (aA (pv 6) aB))))))))))),?_⟩
  refine⟨_,rfl,.ref l,.ty "list",_,_,_,rfl,rfl,.of (.lst hl),Kd.lst.mW K,_,rfl,cL ?_⟩;refine⟨_,rfl,l,_,rfl,.inl (aR.of hl),_,rfl,lg,_,rfl,.inl (aR.of hg),rfl,_,rfl,iE (by rw[qAb,hlen]) ?_⟩;refine⟨by show 0<=qAh;decide,fun D hD=>?_⟩;have u1:=aH.aF (o:=.lst []) hD;have x1:upd H D (.lst []) D=some (.lst (([]:List Addr).map V.ref)):=aC;generalize upd H D (.lst [])=H1 at u1 x1|-;refine⟨_,rfl,_,rfl,l,lg,rfl,⟨_,aR.of (u1 _ _ hl)⟩,⟨_,aR.of (u1 _ _ hg)⟩,?_⟩;refine nQ (xs:=ys) (ys:=ps.map fun p=>V.int p.1) (fun j σ H'=>aH H H'/\∃(ws:List Addr) (o4 o5:Option V),H' D=some (.lst (ws.map V.ref))/\ws.length=j/\(∀i w,ws[i]?=some w->H' w=some (eJ (ps.getD i (0,0)).2 d))/\σ=[some (.ref l),some (.int (m:Int)),some (.ref lg),some (.ref D),o4,o5,none,none,none]) ⟨u1,[],_,_,x1,rfl,(fun i w e=>by cases e),rfl⟩ (fun j σ H' _ ⟨s',_⟩=>⟨aR.of (s' _ _ hl),aR.of (s' _ _ hg)⟩) (by rw[qAb,hlen]) (fun j x y tt σ H' hx hy ht ⟨s',ws,o4,o5,hd,hwl,hw,eσ⟩=>?_) (fun σ H' ⟨s',ws,o4,o5,hd,hwl,hw,eσ⟩=>?_)
  ·subst eσ;obtain⟨rb,w',p,hp,rfl,hra,hfr⟩:=ra.get hx;have hpj:ps.getD j (0,0)=p:=by rw[qAk,hp];rfl
   obtain rfl:y = .int p.1:=by
    rw[qAo,hp] at hy;exact(Option.some.inj hy).symm
   obtain⟨p1,pn,p2,_⟩:=wp.mem p (qAy hp);have u2:=aH.aF (o:=.tup [.ref rb,.int p.1]) ht;have x2:upd H' tt (.tup [.ref rb,.int p.1]) tt=_:=aC;have hd2:=u2 _ _ hd;generalize upd H' tt (.tup [.ref rb,.int p.1])=H2 at u2 x2 hd2|-;have s2:=s'.trans u2;have hra2:=s2 _ _ hra;have hfr2:=s2 _ _ hfr;have g1:fK [V.int p.1,V.ref w'] 1=some (.ref w'):=rfl;refine⟨tt,_,rfl,cA.of x2,rfl,?_⟩;refine⟨_,_,rfl,_,_,rfl,rfl,?_⟩;refine⟨_,rfl,.ref rb,.ty "tuple",_,_,_,rfl,rfl,.of (.tup hra2),Kd.tup.oK K,_,rfl,cL ⟨_,rfl,rb,_,rfl,.inr (cA.of hra2),rfl,_,rfl,iE rfl ?_⟩⟩;refine⟨_,rfl,rb,_,_,_,rfl,rfl,cA.of hra2,rfl,_,rfl,.int _,_,rfl,cL ⟨_,rfl,rb,_,_,_,rfl,rfl,cA.of hra2,rfl,_,rfl,rfl,_,rfl,iE rfl ?_⟩⟩;refine⟨_,rfl,rb,_,_,_,rfl,rfl,cA.of hra2,g1,w',_,d,rfl,hfr2,d0,_,rfl,cL ⟨_,rfl,rb,_,_,_,rfl,rfl,cA.of hra2,g1,w',_,_,_,rfl,rfl,cA.of hfr2,rfl,_,_,rfl,rfl,_,rfl,?_⟩⟩;have ta1:¬(ta p.2 d<1):=by
    obtain⟨e,y1,_,_⟩:=cW (X:=p.2) d0;have:0<ta p.2 d*d:=by rw[e];exact qGy (by lia) (by lia)
    have:=Int.pos_of_mul_pos_left this d0;lia
   show if decide (ta p.2 d<1)=true then _ else _;rw[decide_eq_false ta1];refine cL ⟨_,rfl,.inl ⟨rfl,_,aR.of hd2⟩,_,rfl,rb,_,_,_,rfl,rfl,cA.of hra2,g1,D,_,_,rfl,rfl,hd2,by rw[qAb,hwl];exact aO (by have:=wp.len;have:=(List.getElem?_eq_some_iff.mp hp).1;lia),?_⟩;have nD:∀{b o},H b=some o->b≠D:=fun {b o} e z=>by rw[z,hD] at e;cases e
   refine⟨s2.upd_ne' hD,ws++[w'],_,_,?_,by rw[qAm,hwl];rfl,fun i w'' e=>?_,rfl⟩
   ·rw[aC,qAr];rfl
   ·rcases qAl i ws.length with z | z
    ·rw[qAz z] at e;have q:=u2 _ _ (hw i w'' e);rw[aM (fun zz=>by rw[zz,hd2] at q;cases q)];exact q
    ·rw[qAv z] at e;rcases qEr (i-ws.length) with q | q
     ·rw[q] at e;obtain rfl:w'=w'':=Option.some.inj e;obtain rfl:i=j:=by lia
      rw[hpj,aM (nD hfr)];exact hfr2
     ·rw[qBa (by show 1<=_;lia)] at e;cases e
  ·subst eσ;rw[hlen] at hwl;have fl:j4 ps.length (fun j=>(ps.getD j (0,0)).2) d H' D ws:=⟨hd,hwl,hw⟩;have plen:=wp.len;have sZ:∀j,Sm 310000 (ps.getD j (0,0)).2:=fun j=>by
    rcases qAl j ps.length with z | z
    ·rw[qAk,qAd z];exact(wp.mem _ (qDu z)).2.2.2
    ·rw[qAk,qBa z];exact Sm.zero
   refine⟨_,rfl,D,ps.length,_,d,ws,rfl,fl,d0,sd,fun L lo=>?_⟩;have sL:Sm 6000 L:=sd.le (by have:=qDt d0 lo.dvd;have:=lo.pos;lia);refine⟨_,rfl,_,rfl,D,ps.length,_,d,L,ws,rfl,fl,by lia,d0,sd,sZ,lo,fun DT H2 tt hDT s2 hdt et st=>?_⟩;have s2':=s'.trans s2;refine⟨_,rfl,m,rfl,by lia,by lia,?_⟩;refine iB (n:=m) (fun h σ H3=>aH H2 H3/\∃o:Option V,σ=[some (.ref l),some (.int (m:Int)),some (.ref lg),some (.ref D),o4,o5,some (.int L),some (.ref DT),o]) ⟨.refl _,_,rfl⟩ (fun h σ H3 hh ⟨s3,o,eσ⟩=>?_) (fun σ H3 ⟨s3,o,eσ⟩=>?_)
   ·subst eσ;have hg3:=s3 _ _ (s2' _ _ hg);have hdt3:=s3 _ _ hdt;refine⟨_,rfl,lg,_,rfl,.inl (aR.of hg3),?_⟩;rw[qAb];refine⟨ps.length,rfl,by lia,by lia,?_⟩;have hat:∀i,i<ps.length->fK (ps.map fun p=>V.int p.1) ((0:Int)+(i:Int))=some (.int (((ps.getD i (0,0)).1.toNat:Nat):Int)):=fun i hi=>by
     rw[qCk];refine eY ?_;have p1:=(wp.mem _ (qDu hi)).1;rw[qAo,qAk,qAd hi];show some (V.int ps[i].1)=some (V.int ((ps[i].1.toNat:Nat):Int));rw[qDp (by lia)]
    refine fC (n:=ps.length) (fun i=>if (ps.getD i (0,0)).1.toNat/2^h%2=1 then some (V.int (tt i)) else none) (qAq (aO (by lia))) (fun i H4 kk kk0 s4 hi h1 h2=>?_) fun Ds H4 hDs s4 hds=>?_
    ·have e0h:(0:Int)+(h:Int)=(h:Int):=qCk _;have eb:qDi ((((ps.getD i (0,0)).1.toNat:Nat):Int)/2^((0:Int)+(h:Int)).toNat) 1=(((ps.getD i (0,0)).1.toNat/2^h%2:Nat):Int):=by rw[e0h,qBb,yE]
     refine⟨_,rfl,_,rfl,lg,_,_,_,rfl,rfl,aR.of (s4 _ _ hg3),hat i hi,_,rfl,_,_,rfl,rfl,(by show 0<=(0:Int)+(h:Int);lia),_,_,rfl,rfl,rfl,_,rfl,cY (fun h3=>?_) (fun h3=>h2 ?_ _ (.refl _))⟩
     ·have z:=V.int.inj (of_decide_eq_true h3);rw[eb] at z;exact⟨_,rfl,_,rfl,DT,_,_,_,rfl,rfl,aR.of (s4 _ _ hdt3),(by rw[qCk];exact bS hi),h1 _ (if_pos (by lia)) _ (.refl _)⟩
     ·refine if_neg fun z=>h3 ?_;show decide (V.int (qDi ((((ps.getD i (0,0)).1.toNat:Nat):Int)/2^((0:Int)+(h:Int)).toNat) 1)=V.int 1)=true;rw[eb,z];rfl
    ·have hds':H4 Ds=some (.lst (((qAn ps.length).filterMap fun i=>if (ps.getD i (0,0)).1.toNat/2^h%2=1 then some (tt i) else none).map V.int)):=by
      rw[hds,qJd];congr 2;refine dE fun i _=>?_;split <;> rfl
     have esum:∀N,((qAn N).filterMap fun i=>if (ps.getD i (0,0)).1.toNat/2^h%2=1 then some (tt i) else none).sum=Wg.sm N fun i=>bt (ps.getD i (0,0)).1.toNat h*tt i:=by
      intro N;induction N with
      | zero=>rfl
      | succ N ih =>
       rw[qBk,qBy,qFa,ih];show _=(Wg.sm N fun i=>bt (ps.getD i (0,0)).1.toNat h*tt i)+bt (ps.getD N (0,0)).1.toNat h*tt N;congr 1;rw[qCg,qJe];unfold bt;by_cases z:(ps.getD N (0,0)).1.toNat/2^h%2=1
       ·rw[if_pos z,z];simp
       ·have z0:(ps.getD N (0,0)).1.toNat/2^h%2=0:=by lia
        rw[if_neg z,z0];simp
     have eL:(Wg.sm ps.length fun i=>bt (ps.getD i (0,0)).1.toNat h*tt i)=L:=by
      have z:=pD (a:=fun i=>bt (ps.getD i (0,0)).1.toNat h) et;have z2:=Ai ps fun p=>bt p.1.toNat h*p.2;rw[wp.iJ h hh] at z2;rw[z2,qCp d L] at z;exact qEo (by lia) z
     refine⟨Ds,_,rfl,.inl (aR.of hds'),_,rfl,rfl,_,rfl,?_⟩;rw[esum,eL];exact iE rfl ⟨s3.trans s4,_,rfl⟩
   ·subst eσ;refine⟨_,rfl,_,rfl,iY,fun DR hDR=>?_⟩;have u4:=aH.aF (o:=.lst [.ref DT,.int L]) hDR;exact k DR DT _ L tt (s2'.trans (s3.trans u4)) aC (u4 _ _ (s3 _ _ hdt)) lo.pos sL et st
theorem dQ.ws {H:Hp}{d:Int}:∀{vs:List V}{ps:List (Int×Int)},dQ H d vs ps->∃ws:List Addr,ws.length=ps.length/\∀(i:Nat) (v:V),vs[i]?=some v->∃a w p,ps[i]?=some p/\ws[i]?=some w/\v = .ref a/\H a=some (.tup [.int p.1,.ref w])/\H w=some (eJ p.2 d)
 | [],[],_=>⟨[],rfl,fun i v h=>by cases h⟩
 | [],_::_,h=>h.elim
 | _::_,[],h=>h.elim
 | v::vs,p::ps,h=>by
  obtain⟨⟨a,w,e1,e2,e3⟩,r⟩:=h;obtain⟨ws,hl,hw⟩:=dQ.ws r;refine⟨w::ws,by rw[qCh,qCh,hl],fun i u hu=>?_⟩;cases i with
  | zero =>
   obtain rfl:v=u:=Option.some.inj hu;exact⟨a,w,p,rfl,rfl,e1,e2,e3⟩
  | succ i=>exact hw i u hu
def pY (ps:List (Int×Int)) (j:Nat):Int:=(ps.getD j (0,0)).2
theorem Aj {ps:List (Int×Int)}{j:Nat}{p:Int×Int} (h:ps[j]?=some p):pY ps j=p.2:=by unfold pY;rw[qAk,h];rfl
theorem Nw (ps:List (Int×Int)):Wg.sm ps.length (pY ps)=(ps.map Prod.snd).sum:=Ai ps Prod.snd
theorem vZ (gs:List Nat) (F c:Nat->Int):∀k,((iX gs F k).map fun p=>c p.1.toNat*p.2).sum=Wg.sm k fun j=>c (gN gs j)*F j
 | 0=>rfl
 | k+1=>by
  have ih:=vZ gs F c k;show _=(Wg.sm k fun j=>c (gN gs j)*F j)+c (gN gs k)*F k;rw[jW];by_cases h:F k≠0
  ·rw[if_pos h,qAr,qFa,ih,qDb,qEp,qHt,qLt,qDk];show _+c ((gN gs k:Nat):Int).toNat*F k=_;rw[qBb]
  ·rw[if_neg h,ih,show F k=0 from qBj h,qBu,qDk]
theorem Ak (i:Nat):∀ps:List (Int×Int),(∀p,p∈ps->0<=p.1)->((ps.filter fun p=>decide (p.1.toNat/2^i%2=1)).map Prod.snd).sum=(ps.map fun p=>bt p.1.toNat i*p.2).sum
 | [],_=>rfl
 | p::ps,h=>by
  have ih:=Ak i ps fun q hq=>h q (qBx _ hq);rw[qDf,qDb,qHt,<- ih];unfold bt;by_cases z:p.1.toNat/2^i%2=1
  ·rw[if_pos (decide_eq_true z),z,qDb,qHt];simp
  ·have z0:p.1.toNat/2^i%2=0:=by lia
   rw[if_neg (by rw[decide_eq_false z];exact qAp),z0];simp
theorem Eg {gs:List Nat}{F:Nat->Int}{k:Nat}{p:Int×Int} (hk:k<=gs.length) (h:p∈iX gs F k):∃j,j<k/\p=((gN gs j:Int),F j)/\F j≠0/\gN gs j∈gs:=by
 unfold iX at h;obtain⟨j,hj,rfl⟩:=List.mem_map.mp h;obtain⟨a,b⟩:=List.mem_filter.mp hj;have a:=List.mem_range.mp a;exact⟨j,a,rfl,of_decide_eq_true b,kN (by lia)⟩
theorem FU {gs:List Nat}{F:Nat->Int} (up:gs.Pairwise (· < ·)){k:Nat} (hk:k<=gs.length):(iX gs F k).Pairwise fun a b=>a.1<b.1:=by
 unfold iX;rw[qNk];refine List.Pairwise.imp_of_mem (fun {a b} ha hb h=>?_) ((qHz (n:=k)).filter _);have ha:=List.mem_range.mp (List.mem_filter.mp ha).1;have hb:=List.mem_range.mp (List.mem_filter.mp hb).1;have z:=List.pairwise_iff_getElem.mp up a b (by lia) (by lia) h;have e1:gN gs a=gs[a]:=fH (qAd (by lia));have e2:gN gs b=gs[b]:=fH (qAd (by lia));show((gN gs a:Nat):Int)<((gN gs b:Nat):Int);rw[e1,e2];lia
theorem Lj {gs:List Nat}{i:Int} (h:i.toNat∈gs) (h0:0<=i):Gj (V.int i) (aZ gs)=true:=by
 unfold Gj aZ;rw[List.any_eq_true];refine⟨_,List.mem_map.mpr ⟨_,h,rfl⟩,?_⟩;show decide (((i.toNat:Nat):Int)=i)=true;rw[qDp h0];exact decide_eq_true rfl
theorem Eh (gs:List Nat):(aZ gs).all kW=true:=by
 rw[qJv];intro v hv;obtain⟨g,_,rfl⟩:=List.mem_map.mp hv;rfl
def fB (h:Nat) (ps:List (Int×Int)):List (Int×Int):=ps.filter fun p=>decide (p.1.toNat/2^h%2=1)
theorem nZ (h:Nat) (ps:List (Int×Int)) (p:Int×Int):fB h (ps++[p])=if p.1.toNat/2^h%2=1 then fB h ps++[p] else fB h ps:=by
 unfold fB;rw[qHg,qDf,qGu];by_cases z:p.1.toNat/2^h%2=1
 ·rw[if_pos z,if_pos (decide_eq_true z)]
 ·rw[if_neg z,if_neg (by rw[decide_eq_false z];exact qAp),qDm]
theorem Hj {ps:List (Int×Int)}{j:Nat} (h:j<ps.length):∃p,p∈ps/\pY ps j=p.2:=⟨ps[j],qDu h,Aj (qAd h)⟩
theorem FV {i:Int}{h:Nat} (h0:0<=i):qDi (i/2^((0:Int)+(h:Int)).toNat) 1=((i.toNat/2^h%2:Nat):Int):=by
 obtain⟨n,rfl⟩:=qFz h0;rw[qCk,qBb,qBb,yE]
def Hk (K:qAc):Sp:=fun vs H Q _=>∃(l lg D:Addr) (m:Nat) (kes:List Addr) (tl gs:List Nat),vs=[.ref l,.int (m:Int),.ref lg]/\H l=some (.lst (kes.map V.ref))/\OV m m tl H D kes/\H lg=some (.lst (aZ gs))/\(∀g,g∈tl->g∈gs/\1<=g/\g<64)/\tl.Pairwise (· < ·)/\gs.length<=64/\m<=6/\tl.length<=6/\∀H',aH H H'->Q (.bl true) H'
theorem nA:aT ["_law_found","_law_many","_law_groups","_law_hand","_law_before","_law_row","_law_low_here","_law_other","_law_tops_here"] ["_law_found","_law_many","_law_groups"] (aI JI):=by constructor<;>first|rfl|decide +kernel
theorem Lk {f1 f2 f3 f4:Addr}{fd1 fd2 fd3 fd4:qBo} (t:Tx K mg "_law_keys" JI ["_law_found","_law_many","_law_groups"] f fd) (T:T K mg AL LN FR iF fCh fGM fCC fCA fPL SE NN NG NT NR) (D_law_whole:Df P w K mg base b0 1 "_law_whole" ["_law_found"] (lI K) f1 fd1) (D_law_fraction:Df P w K mg base b0 2 "_law_fraction" ["_law_found"] vY f2 fd2) (D_law_low:Df P w K mg base b0 2 "_law_low" ["_law_numbers"] Ac f3 fd3) (D_law_tops:Df P w K mg base b0 1 "_law_tops" ["_law_numbers","_law_low_here"] Ae f4 fd4) :
  Df P w K mg base b0 3 "_law_keys" ["_law_found","_law_many","_law_groups"] (Hk K) f fd:=by
 refine t.gY nA (fun vs H Q E h=>?_) (fun cdv A outer s H vs Q E hr h=>?_)
 ·obtain⟨l,lg,D,m,kes,tl,gs,rfl,_⟩:=h;rfl
 ·obtain⟨l,lg,D,m,kes,tl,gs,rfl,hl,ky,hg,tm,up,gl,m6,tl6,k⟩:=h;refine⟨_,(aD (bR (PW.pt (pw_or (bX (bU (aJ cI (by rfl) T.dY dO (aA (pv 0) (aA (cT (v:=.ty "list") (by rfl) T.cV dA rfl) aB))))) (pw_or1 (aV eO (aJ aN (by rfl) T.bW bM (aA (pv 0) aB)) (pv 1) (aW _))))) (aG (aQ eV)) a8)
   (aD (cO PassesOwn.never rfl (cB (by rfl) T.cD (aA (pv 1) aB)) (aL (i:=3) nA.nd rfl (by first|exact .inl rfl|exact .inr rfl))
    (aD (bR (bX (bU (aJ cI (by rfl) T.dY dO (aA (aP bC (pv 0) (pv 3) (fun _ _=>rfl)) (aA (cT (v:=.ty "list") (by rfl) T.cV dA rfl) aB))))) (aG (aQ eV)) a8)
    (aD (aU (i:=4) nA.nd rfl bT aE)
    (aD (cO PassesOwn.never rfl (bN (aP bC (pv 0) (pv 3) (fun _ _=>rfl))) (aL (i:=5) nA.nd rfl (by first|exact .inl rfl|exact .inr rfl))
     (aD (bR (PW.pt (pw_or (bX (bU (aJ cI (by rfl) T.dY dO (aA (pv 5) (aA (cT (v:=.ty "tuple") (by rfl) T.gA jB rfl) aB))))) (pw_or (aV eO (aJ aN (by rfl) T.bW bM (aA (pv 5) aB)) aE (aW _)) (pw_or (bX (bU (aX D_law_whole hr (by decide) (by rfl) (aA (aP a9 (pv 5) aE (fun _ _=>rfl)) aB)))) (pw_or1 (aV t6 (aP a9 (pv 5) aE (fun _ _=>rfl)) (pv 4) (aW _))))))) (aG (aQ eV)) a8)
     (aD (bR (PW.pt (pw_or (aV kX (aP a9 (pv 5) aE (fun _ _=>rfl)) (pv 2) (by rfl)) (pw_or (bX (bU (aX D_law_fraction hr (by decide) (by rfl) (aA (aP a9 (pv 5) aE (fun _ _=>rfl)) aB)))) (pw_or1 (aV g6 (aP a9 (aP a9 (pv 5) aE (fun _ _=>rfl)) aE (fun _ _=>rfl)) aE (aW _)))))) (aG (aQ eV)) a8)
     (aG (aU (i:=4) nA.nd rfl bT (aP a9 (pv 5) aE (fun _ _=>rfl)))))))
    (aD (aU (i:=6) nA.nd rfl bT (aX D_law_low hr (by decide) (by rfl) (aA (bQ (NB:=["_law_row"]) (pick:=[none]) (bJ (by with_unfolding_all rfl) (by exact trivial) rfl (by decide +kernel) (by decide +kernel) (by rfl) (by rfl)) rfl
     (bN (aP bC (pv 0) (pv 3) (fun _ _=>rfl))) (fun _ _ _=>aL (i:=0) (show(["_law_row"]:List Str).Nodup from by decide +kernel) rfl bT)
     (fun _ _ _=>bK) (fun _ _ _=>(aP (eE K) (pv 0) aE (fun _ _=>rfl)))) aB)))
    (aG (cO PassesOwn.never rfl (cB (by rfl) T.cD (aA (pv 1) aB)) (aL (i:=7) nA.nd rfl (by first|exact .inl rfl|exact .inr rfl))
     (aD (aU (i:=8) nA.nd rfl bT (aX D_law_tops hr (by decide) (by rfl) (aA (bQ (NB:=["_law_row","_law_other"]) (pick:=[none,some 7]) (bJ (by with_unfolding_all rfl) (by exact(And.intro rfl trivial)) rfl (by decide +kernel) (by decide +kernel) (by rfl) (by rfl)) rfl
     (bN (aP bC (pv 0) (pv 3) (fun _ _=>rfl))) (fun _ _ _=>aL (i:=0) (show(["_law_row","_law_other"]:List Str).Nodup from by decide +kernel) rfl bT)
     (fun _ _ _=>eZ (aV g6 (aS oC (aS wF (aP (eE K) (pv 0) aE (fun _ _=>rfl)) (pv 1)) aE) aE (aW _))) (fun _ _ _=>(aP (eE K) (pv 0) aE (fun _ _=>rfl)))) (aA (pv 6) aB))))
     (aG (bR (aV eO (aJ (fQ rfl) (by rfl) T.iV jC (aA (pv 8) aB)) (aS bL (pv 6) (gE Aw (by rfl) T.oW wW (aA (eB g6 (pv 7) (pv 3) (aW _)) aB))) (aW _)) (aG (aQ eV)) a8))))))))))
   (aG (aQ eV)))),?_⟩
  have kl:=ky.len;refine⟨_,rfl,.ref l,.ty "list",_,_,_,rfl,rfl,.of (.lst hl),Kd.lst.mW K,_,rfl,cL ?_⟩;refine⟨_,rfl,l,_,rfl,.inl (aR.of hl),_,rfl,rfl,_,rfl,iE (by rw[qAb,kl]) ?_⟩;refine⟨_,rfl,m,rfl,by lia,by lia,?_⟩;refine iB (n:=m) (fun h σ' H'=>aH H H'/\∃o3 o4 o5 o6 o7 o8:Option V,σ'=[some (.ref l),some (.int (m:Int)),some (.ref lg),o3,o4,o5,o6,o7,o8]) ⟨.refl _,_,_,_,_,_,_,rfl⟩ (fun h σ' H1 hh ⟨s1,o3,o4,o5,o6,o7,o8,eσ⟩=>?_) (fun σ' H1 ⟨s1,o3,o4,o5,o6,o7,o8,eσ⟩=>?_)
  ·subst eσ;have eh:=qAd (l:=kes) (i:=h) (by lia);obtain⟨ys,d,F,he,_,rw0,d0,sd,sF,hs⟩:=ky.at_ h _ eh;generalize kes[h]=ke at eh he;have hl1:=s1 _ _ hl;have he1:=s1 _ _ he;have rw1:=rw0.t s1.t;have hat:fK (kes.map V.ref) ((0:Int)+(h:Int))=some (.ref ke):=by rw[qCk];exact eY (by rw[qAo,eh];rfl)
   refine⟨_,rfl,_,rfl,l,_,_,_,rfl,rfl,aR.of hl1,hat,.ref ke,.ty "list",_,_,_,rfl,rfl,.of (.lst he1),Kd.lst.mW K,_,rfl,cL ?_⟩;dsimp only[aY];refine⟨_,rfl,_,rfl,l,_,_,_,rfl,rfl,aR.of hl1,hat,ke,rfl,⟨_,aR.of he1⟩,?_⟩;have ylen:=rw0.len;have psm:∀p,p∈iX tl F tl.length->p.2≠0/\1<=p.1/\p.1<64/\p.1.toNat∈gs/\Sm 310000 p.2:=fun p hp=>by
    obtain⟨j,hj,rfl,ne,mem⟩:=Eg (qAg _) hp;obtain⟨a,b,c⟩:=tm _ mem;exact⟨ne,by show(1:Int)<=((gN tl j:Nat):Int);lia,by show((gN tl j:Nat):Int)<64;lia,by show((gN tl j:Nat):Int).toNat∈gs;rw[qBb];exact a,sF j⟩
   have pup:=FU (F:=F) up (qAg tl.length);have psl:(iX tl F tl.length).length<=6:=by
    unfold iX;rw[qAb];have:=qEq (fun j=>decide (F j≠0)) (qAn tl.length);rw[qAu] at this;lia
   have ksum:∀i,i<m->((iX tl F tl.length).map fun p=>bt p.1.toNat i*p.2).sum=bt (2^h) i*d:=fun i hi=>by
    rw[vZ tl F (fun g=>bt g i)];exact hs i hi
   generalize iX tl F tl.length=ps at rw0 rw1 ylen psm pup psl ksum;refine dN (xs:=ys) (fun j σ' H'=>aH H1 H'/\∃(b:Int) (o5:Option V),(∀p,ps[j]?=some p->b<p.1)/\σ'=[some (.ref l),some (.int (m:Int)),some (.ref lg),some (.int (0+(h:Int))),some (.int b),o5,o6,o7,o8]) ⟨.refl _,0,_,fun p hp=>by have:=(psm p (qAy hp)).2.1;lia,rfl⟩ ?_ ?_ ?_
   ·rintro j σ' H' _ ⟨s',_⟩;exact aR.of (s' _ _ he1)
   ·rintro j x σ' H2 hx ⟨s2,b,o5,hb,rfl⟩;obtain⟨a,w',p,hp,rfl,ha,hw⟩:=(rw1.t s2.t).get hx;obtain⟨ne,p1,p64,pg,sp⟩:=psm p (qAy hp);have g1:fK [V.int p.1,V.ref w'] 1=some (.ref w'):=rfl;dsimp only[aY];refine⟨_,rfl,.ref a,.ty "tuple",_,_,_,rfl,rfl,.of (.tup ha),Kd.tup.oK K,_,rfl,cL ⟨_,rfl,a,_,rfl,.inr (cA.of ha),rfl,_,rfl,iE rfl ?_⟩⟩;refine⟨_,rfl,a,_,_,_,rfl,rfl,cA.of ha,rfl,_,rfl,.int _,_,rfl,cL ⟨_,rfl,a,_,_,_,rfl,rfl,cA.of ha,rfl,_,rfl,_,_,rfl,rfl,_,rfl,?_⟩⟩;have nb:¬p.1<=b:=by have:=hb p hp;lia
    show if decide (p.1<=b)=true then _ else _;rw[decide_eq_false nb];refine cL ?_;have inn:Gj (V.int p.1) (aZ gs)=true:=Lj pg (by lia);refine⟨_,rfl,a,_,_,_,rfl,rfl,cA.of ha,rfl,_,rfl,lg,_,rfl,.inl (aR.of (s2 _ _ (s1 _ _ hg))),rfl,Eh gs,_,rfl,?_⟩;rw[if_pos rfl,inn];refine cL ⟨_,rfl,a,_,_,_,rfl,rfl,cA.of ha,g1,w',_,d,rfl,hw,d0,_,rfl,cL ⟨_,rfl,a,_,_,_,rfl,rfl,cA.of ha,g1,w',_,_,_,rfl,rfl,cA.of hw,rfl,rfl,_,rfl,?_⟩⟩;have tne:ta p.2 d≠0:=fun z=>by
     obtain⟨e,y1,_,_⟩:=cW (X:=p.2) d0;rw[z,qBi] at e;rcases Int.mul_eq_zero.mp e.symm with q | q
     ·exact ne q
     ·lia
    show if decide (V.int (ta p.2 d)=V.int 0)=true then _ else _;rw[decide_eq_false fun z=>tne (V.int.inj z)];refine cL ⟨_,rfl,a,_,_,_,rfl,rfl,cA.of ha,rfl,s2,p.1,_,fun q hq=>?_,rfl⟩;obtain⟨h1,e1⟩:=List.getElem?_eq_some_iff.mp hp;obtain⟨h2,e2⟩:=List.getElem?_eq_some_iff.mp hq;have z:=List.pairwise_iff_getElem.mp pup j (j+1) h1 h2 (by lia);rw[e1,e2] at z;exact z
   ·rintro σ' H2 ⟨s2,b,o5,_,rfl⟩;have rw2:=rw1.t s2.t;obtain⟨ws,wl,hws⟩:=rw2.ws;have hl2:=s2 _ _ hl1;have he2:=s2 _ _ he1;have ys6:ys.length<=6:=by rw[ylen];exact psl
    refine⟨_,rfl,_,rfl,l,_,_,_,rfl,rfl,aR.of hl2,hat,ke,rfl,⟨_,aR.of he2⟩,?_⟩;refine cP (xs:=ys) (fun j _=>(ws[j]?).map V.ref) (aR.of he2) (qAq (aO (by lia))) (fun j x H4 kk kk0 s4 hx g1 g2=>?_) fun lw H3 hlw s3 hd3=>?_
    ·obtain⟨a,w',p,hp,hw',rfl,ha,hw⟩:=hws j x hx;have g1':fK [V.int p.1,V.ref w'] 1=some (.ref w'):=rfl;refine⟨_,rfl,a,_,_,_,rfl,rfl,cA.of (s4 _ _ ha),g1',?_⟩;exact g1 _ (by rw[hw'];rfl) _ (.refl _)
    have e3:H3 lw=some (.lst (ws.map V.ref)):=by
     rw[hd3];refine congrArg (fun l=>some (HO.lst l)) ?_;have e:((qAn ys.length).filterMap fun i=>(ys[i]?).bind fun _=>(ws[i]?).map V.ref)=(qAn ws.length).filterMap fun i=>(ws[i]?).bind fun w=>some (V.ref w):=by
      rw[ylen,<- wl];refine dE fun i hi=>?_;have hi:=List.mem_range.mp hi;rw[qAd (l:=ys) (by lia),qAd hi];rfl
     rw[e,pJ,qDl]
    have fl:j4 ps.length (pY ps) d H3 lw ws:=⟨e3,wl,fun j w' hw'=>by
     have hj:j<ys.length:=by rw[ylen,<- wl];exact(List.getElem?_eq_some_iff.mp hw').1
     obtain⟨a,w2,p,hp,hw2,_,_,hw⟩:=hws j _ (qAd hj);rw[hw'] at hw2;obtain rfl:=Option.some.inj hw2;rw[s3 _ _ hw,Aj hp]⟩
    refine⟨lw,ps.length,_,d,ws,rfl,fl,d0,sd,fun L lo=>?_⟩;have L0:=lo.pos;have sL:Sm 6000 L:=sd.le (by have:=qDt d0 lo.dvd;lia);dsimp only[aY];refine⟨_,rfl,m,rfl,by lia,by lia,?_⟩;refine iB (n:=m) (fun h' σ' H'=>aH H3 H'/\∃o7 o8:Option V,σ'=[some (.ref l),some (.int (m:Int)),some (.ref lg),some (.int (0+(h:Int))),some (.int b),o5,some (.int L),o7,o8]) ⟨.refl _,_,_,rfl⟩ (fun h' σ' H4 hh' ⟨s4,o7,o8,eσ⟩=>?_) (fun σ' H4 ⟨s4,o7,o8,eσ⟩=>?_)
    ·subst eσ;dsimp only[aY];have hl4:=s4 _ _ (s3 _ _ hl2);have he4:=s4 _ _ (s3 _ _ he2);have rw4:=(rw2.t s3.t).t s4.t;refine⟨_,rfl,_,rfl,l,_,_,_,rfl,rfl,aR.of hl4,hat,ke,rfl,⟨_,aR.of he4⟩,?_⟩;refine qL (xs:=ys) (fun i zs H'=>∃ws':List Addr,zs=ws'.map V.ref/\ws'.length=(fB h' (ps.take i)).length/\∀(j:Nat) (w:Addr),ws'[j]?=some w->H' w=some (eJ (pY (fB h' (ps.take i)) j) d)) ?_ ⟨[],rfl,rfl,fun j w e=>by cases e⟩ (aR.of he4) (qAq (aO (by lia))) (fun i x H5 kk kk0 zs s5 hx iv g1 g2=>?_) fun lz zs H5 hlz s5 iv hd5=>?_
     ·rintro i zs H1 H2 st ⟨ws',e1,e2,e3⟩;exact⟨ws',e1,e2,fun j w e=>st _ _ (e3 j w e)⟩
     ·obtain⟨ws',rfl,wl',hw'⟩:=iv;obtain⟨a,w',p,hp,rfl,ha,hw⟩:=(rw4.t s5.t).get hx;have p1:=(psm p (qAy hp)).2.1;have g1':fK [V.int p.1,V.ref w'] 1=some (.ref w'):=rfl;have et:ps.take (i+1)=ps.take i++[p]:=by rw[qEs,hp];rfl
      have eb:=FV (i:=p.1) (h:=h') (by lia);refine⟨_,rfl,a,_,_,_,rfl,rfl,cA.of ha,rfl,_,rfl,_,_,rfl,rfl,(by show 0<=(0:Int)+(h':Int);lia),_,_,rfl,rfl,rfl,_,rfl,cY (fun h3=>?_) (fun h3=>?_)⟩
      ·have z:=V.int.inj (of_decide_eq_true h3);rw[eb] at z;have z:p.1.toNat/2^h'%2=1:=by lia
       refine⟨_,rfl,a,_,_,_,rfl,rfl,cA.of ha,g1',g1 _ _ (.refl _) ⟨ws'++[w'],by rw[qAr];rfl,?_,fun j u e=>?_⟩⟩
       ·rw[et,nZ,if_pos z,qAm,qAm,wl'];rfl
       ·rw[et,nZ,if_pos z];rcases qAl j ws'.length with q | q
        ·rw[qAz q] at e;rw[hw' j u e];unfold pY;rw[qAk,qAk,qAz (by rw[<- wl'];exact q)]
        ·rw[qAv q] at e;have hj:j-ws'.length=0:=by
          have:=(List.getElem?_eq_some_iff.mp e).1;rw[qBc] at this;lia
         rw[hj] at e;obtain rfl:=Option.some.inj e;rw[hw,Aj (p:=p)];rw[qAv (by rw[<- wl'];exact q),<- wl',hj];rfl
      ·have z:¬p.1.toNat/2^h'%2=1:=fun z=>h3 (decide_eq_true (by show V.int (qDi _ 1)=V.int 1;rw[eb,z];rfl));refine g2 _ (.refl _) ⟨ws',rfl,?_,?_⟩
       ·rw[et,nZ,if_neg z];exact wl'
       ·rw[et,nZ,if_neg z];exact hw'
     ·obtain⟨ws',rfl,wl',hw'⟩:=iv;rw[ylen,qEd] at wl' hw';have fsub:∀p,p∈fB h' ps->p∈ps:=fun p hp=>(List.mem_filter.mp hp).1;have fl6:(fB h' ps).length<=6:=qCu (qEq _ _) psl;have lo':Fs (fB h' ps).length (pY (fB h' ps)) d L:=⟨L0,lo.dvd,fun j hj=>by
       obtain⟨p,hp,e⟩:=Hj hj;obtain⟨i,hi,ei⟩:=qCq (fsub p hp);have z:=lo.all i hi;rw[Aj (qAd hi),ei] at z;rw[e];exact z⟩
      have sY:∀j,Sm 310000 (pY (fB h' ps) j):=fun j=>by
       rcases qAl j (fB h' ps).length with q | q
       ·obtain⟨p,hp,e⟩:=Hj q;rw[e];exact(psm p (fsub p hp)).2.2.2.2
       ·unfold pY;rw[qAk,qBa q];exact Sm.zero
      refine⟨_,rfl,lz,(fB h' ps).length,pY (fB h' ps),d,L,ws',rfl,⟨hd5,wl',hw'⟩,by lia,d0,sd,sY,lo',fun DT H6 tt hDT s6 hdt et st=>?_⟩;dsimp only[aY];refine⟨_,rfl,DT,(qAn (fB h' ps).length).map tt,rfl,.inl (aR.of (by rw[hdt,gB])),?_⟩;have eS:((qAn (fB h' ps).length).map tt).sum=L*(if decide (V.int (0+(h':Int))=V.int (0+(h:Int)))=true then 1 else 0):=by
       rw[z6];have z:=pD (n:=(fB h' ps).length) (a:=fun _=>1) (t:=tt) (X:=pY (fB h' ps)) (d:=d) (L:=L) et;have o1:∀G:Nat->Int,(Wg.sm (fB h' ps).length fun j=>1*G j)=Wg.sm (fB h' ps).length G:=fun G=>Wg.bB fun j _=>qCx _;rw[o1,o1,Nw] at z;have b1:=Ak h' ps fun p hp=>by have:=(psm p hp).2.1;lia
       have b1:((fB h' ps).map Prod.snd).sum=bt (2^h) h'*d:=b1.trans (ksum h' hh');rw[b1,Ea ⟨h,by lia⟩ ⟨h',by lia⟩] at z;have eI:(if decide (V.int (0+(h':Int))=V.int (0+(h:Int)))=true then (1:Int) else 0)=Cm.e1 h h':=by
        show _=if h'=h then (1:Int) else 0;by_cases q:h'=h
        ·rw[if_pos q,q,if_pos (decide_eq_true rfl)]
        ·rw[if_neg q,if_neg fun y=>q (by have:=V.int.inj (of_decide_eq_true y);lia)]
       rw[eI];refine qEo (show d≠0 by lia) ?_;rw[z];show Cm.e1 h h'*d*L=L*Cm.e1 h h'*d;generalize Cm.e1 h h'=e;rw[qCp L e,qEi,qEi,qCp d L]
      have mbb:uH L (if decide (V.int (0+(h':Int))=V.int (0+(h:Int)))=true then (1:Int) else 0):=sL.mb (n:=2) (by split <;> exact Sm.of 2 (by decide) (by decide))
      refine⟨_,rfl,_,rfl,_,rfl,rfl,.inr ⟨_,rfl,_,_,rfl,rfl,mbb,rfl,_,rfl,iE (congrArg V.int eS) ?_⟩⟩;exact⟨s4.trans (s5.trans s6),_,_,rfl⟩
    ·subst eσ;exact⟨s1.trans (s2.trans (s3.trans s4)),_,_,_,_,_,_,rfl⟩
  ·subst eσ;exact k H1 s1
theorem Ll {n:Nat}{g:Nat->Int} (h:2<=n):fY (bG n g) (some 1) (some (-1))=bG (n-2) fun j=>g (j+1):=by
 unfold fY;have e1:HT.dU (bG n g).length 0 (some 1)=1:=by
  rw[show(1:Int)=((1:Nat):Int) from rfl,HT.rV,aK];lia
 have e2:HT.dU (bG n g).length (bG n g).length (some (-1))=n-1:=by
  rw[aK];unfold HT.dU;simp;lia
 rw[e1,e2];refine qEu fun i=>?_;rcases qAl i (n-2) with h | h
 ·rw[qHo (by lia),qNa,dH (by lia),dH h,qJs]
 ·rw[qBa (by rw[qEn,qGm,aK];lia),qBa (by rw[aK];lia)]
theorem Hl (lf:Nat->Int) (s:Int):∀k,((qAn k).filterMap fun i=>if s<=lf (i+1) then some (V.int (1+(i:Int))) else none)=aZ (En lf s k)
 | 0=>rfl
 | k+1=>by
  rw[qBk,qBy,Hl lf s k,pR,qCg,qJe];by_cases z:s<=lf (k+1)
  ·rw[if_pos z,if_pos z];unfold aZ;rw[qAr];show _++[V.int (1+(k:Int))]=_++[V.int ((k+1:Nat):Int)];rw[show(1+(k:Int))=((k+1:Nat):Int) by lia]
  ·rw[if_neg z,if_neg z,qDm]
theorem FW (gs:List Nat) (X:Nat->Int):((xZ gs X gs.length).map fun p=>V.int p.1)=aZ gs:=by
 unfold xZ aZ;rw[qCz];refine qEu fun i=>?_;rw[qAo,qAo];rcases qAl i gs.length with h | h
 ·rw[qCr h,qAd h];show some (V.int ((gN gs i:Nat):Int))=some (V.int ((gs[i]:Nat):Int));rw[fH (qAd h)]
 ·rw[qBa (by rw[qAu];exact h),qBa h];rfl
theorem tT (gs:List Nat) (X c:Nat->Int):∀k,((xZ gs X k).map fun p=>c p.1.toNat*p.2).sum=Wg.sm k fun j=>c (gN gs j)*(X 0+X (j+1))
 | 0=>rfl
 | k+1=>by
  have ih:=tT gs X c k;show _=(Wg.sm k fun j=>c (gN gs j)*(X 0+X (j+1)))+c (gN gs k)*(X 0+X (k+1));rw[vS,qAr,qFa,ih,qDb,qEp,qHt,qLt,qDk];show _+c ((gN gs k:Nat):Int).toNat*(X 0+X (k+1))=_;rw[qBb]
theorem Lm {m n:Nat}{lk:Nat->Int}{l dx:Int}{X:Nat->Int} (m1:1<=m) (m6:m<=6) (hn:n=2^m) (sX:∀j,Sm 300000 (X j)) (x0:0<X 0) (xn:∀j,0<=X j) (dx0:0<dx) (hs:∀i,i<m->(Wg.sm (gX m lk l).length fun j=>bt (gN (gX m lk l) j) i*(X 0+X (j+1)))=dx) :
  Ph m n (fun g=>if g=n-1 then -1 else 0) dx (xZ (gX m lk l) X (gX m lk l).length):=by
 have p64:=iL m6;have gl:=tS m6 lk l;have mem:∀p,p∈xZ (gX m lk l) X (gX m lk l).length->∃j,j<(gX m lk l).length/\p=((gN (gX m lk l) j:Int),X 0+X (j+1)):=fun p hp=>by
  unfold xZ at hp;obtain⟨j,hj,e⟩:=List.mem_map.mp hp;exact⟨j,List.mem_range.mp hj,e.symm⟩
 have gp:∀j,j<(gX m lk l).length->Pr m (gN (gX m lk l) j):=fun j hj=>(g9.mp (kN hj)).1;refine⟨by unfold xZ;rw[qAb,qAu];lia,fun p hp=>?_,?_,fun i hi=>?_,?_⟩
 ·obtain⟨j,hj,rfl⟩:=mem p hp;have pg:=gp j hj;have:=xn (j+1);refine⟨by show(1:Int)<=((gN (gX m lk l) j:Nat):Int);have:=pg.1;lia,by show((gN (gX m lk l) j:Nat):Int)<(n:Int);have:=pg.2;lia,by show 1<=X 0+X (j+1);lia,((sX 0).add (sX (j+1))).mono (by decide)⟩
 ·unfold xZ;rw[qNk];refine List.Pairwise.imp_of_mem (fun {a b} ha hb h=>?_) (qHz (n:=(gX m lk l).length));have ha:=List.mem_range.mp ha;have hb:=List.mem_range.mp hb;have z:=List.pairwise_iff_getElem.mp (Ec m lk l) a b ha hb h;have e1:gN (gX m lk l) a=(gX m lk l)[a]:=fH (qAd ha);have e2:gN (gX m lk l) b=(gX m lk l)[b]:=fH (qAd hb);show((gN (gX m lk l) a:Nat):Int)<((gN (gX m lk l) b:Nat):Int);rw[e1,e2];lia
 ·rw[tT _ X (fun g=>bt g i)];exact hs i hi
 ·rw[tT _ X (fun g=>if g=n-1 then -1 else 0),if_pos rfl,Wg.cH fun j hj=>by
   have:=(gp j hj).2;rw[if_neg (by lia),qBi]]
  lia
theorem FX {l d L s:Int} (d0:0<d) (e:s*d=l*L):ta l d*L=s*tb l d:=by
 obtain⟨t1,_,_,_⟩:=cW (X:=l) d0;refine qEo (show d≠0 by lia) ?_;generalize ta l d=a at t1;generalize tb l d=b at t1;have e1:a*L*d=a*d*L:=by rw[qEi,qCp L d,<- qEi]
 have e2:s*b*d=s*d*b:=by rw[qEi,qCp b d,<- qEi]
 rw[e1,e2,t1,e,qEi,qCp b L,<- qEi]
def Hm (K:qAc):Sp:=fun vs H Q _=>∃(l ll:Addr) (m n:Nat) (lk lf:Nat->Int) (d L:Int) (ds:List Int) (es:List Addr) (tl:List Nat),vs=[.ref l,.ref ll,.int L,.int (m:Int)]/\H ll=some (.lst (bG n lf))/\n=2^m/\1<=m/\m<=6/\0<d/\Sm 6000 d/\0<L/\Sm 6000 L/\(∀g,lf g*d=lk g*L)/\(∀g,Sm 400000 (lf g))/\(∀g,Sm 400000 (lk g))/\Bw m lk ds/\Bx m lk d ds H l es tl /\
 ∀(lg:Addr) (H':Hp) (gs:List Nat),aH H H'->H' lg=some (.lst (aZ gs))->(es=[]->gs=[])->(∀x,es≠[]->ds[ds.length-es.length]?=some x->gs=gX m lk x)->Q (.ref lg) H'
theorem rM:aT ["_law_found","_law_lacks","_law_low_here","_law_many","_law_due","_law_groups","_law_row","_law_lack"] ["_law_found","_law_lacks","_law_low_here","_law_many"] (aI JJ):=by constructor<;>first|rfl|decide +kernel
theorem Ln {f1 f2:Addr}{fd1 fd2:qBo} (t:Tx K mg "_law_levels" JJ ["_law_found","_law_lacks","_law_low_here","_law_many"] f fd) (T:T K mg AL LN FR iF fCh fGM fCC fCA fPL SE NN NG NT NR) (D_law_fraction:Df P w K mg base b0 2 "_law_fraction" ["_law_found"] vY f1 fd1) (D_law_weighing:Df P w K mg base b0 3 "_law_weighing" ["_law_found","_law_many","_law_groups"] (Hi K) f2 fd2) :
  Df P w K mg base b0 4 "_law_levels" ["_law_found","_law_lacks","_law_low_here","_law_many"] (Hm K) f fd:=by
 refine t.gY rM (fun vs H Q E h=>?_) (fun cdv A outer s H vs Q E hr h=>?_)
 ·obtain⟨l,ll,m,n,lk,lf,d,L,ds,es,tl,rfl,_⟩:=h;rfl
 ·obtain⟨l,ll,m,n,lk,lf,d,L,ds,es,tl,rfl,hll,hn,m1,m6,d0,sd,L0,sL,sc,slf,slk,By,mR,k⟩:=h;refine⟨_,(aD (bR (bX (bU (aJ cI (by rfl) T.dY dO (aA (pv 0) (aA (cT (v:=.ty "list") (by rfl) T.cV dA rfl) aB))))) (aG (aQ dM)) a8)
   (aD (aU (i:=4) rM.nd rfl bT (lD (by rfl) T.iK (by rfl) T.rA rfl (aA (jA rX (pv 1) (jO aE) (jO (iU fT aE))) aB)))
   (aD (aU (i:=5) rM.nd rfl bT (bH aB))
   (aD (cO PassesOwn.never rfl (bN (pv 0)) (aL (i:=6) rM.nd rfl bT)
    (aD (bR (PW.pt (pw_or (aV (Ie hr.units) (pv 4) (bH aB) (aW _)) (pw_or (bX (bU (aJ cI (by rfl) T.dY dO (aA (pv 6) (aA (cT (v:=.ty "tuple") (by rfl) T.gA jB rfl) aB))))) (pw_or (aV eO (aJ aN (by rfl) T.bW bM (aA (pv 6) aB)) aE (aW _)) (pw_or1 (bX (bU (aX D_law_fraction hr (by decide) (by rfl) (aA (aP a9 (pv 6) aE (fun _ _=>rfl)) aB))))))))) (aG (aQ dM)) a8)
    (aD (aU (i:=7) rM.nd rfl (by first|exact .inl rfl|exact .inr rfl) (HV qEg PySem.F.slot_list_pop PySem.F.type_list_pop ER (pv 4)))
    (aD (bR (aV eO (aS bL (aP a9 (aP a9 (pv 6) aE (fun _ _=>rfl)) aE (fun _ _=>rfl)) (pv 2)) (aS bL (pv 7) (aP a9 (aP a9 (pv 6) aE (fun _ _=>rfl)) aE (fun _ _=>rfl))) (aW _)) (aG (aQ dM)) a8)
    (aD (eD (NB:=["_law_group","_law_lack","_law_lacks"]) (pick:=[none,some 7,some 1]) (i:=5) rM.nd rfl bT (by rfl) (bJ (by with_unfolding_all rfl) (by exact(And.intro rfl (And.intro rfl trivial))) rfl (by decide +kernel) (by decide +kernel) (by rfl) (by rfl)) rfl
     (qA (by rfl) T.cD (aA aE (aA (aS eX (aJ aN (by rfl) T.bW bM (aA (pv 1) aB)) aE) aB))) (fun _ _ _=>aL (i:=0) (show(["_law_group","_law_lack","_law_lacks"]:List Str).Nodup from by decide +kernel) rfl bT)
     (fun _ _ _=>eZ (aV BF (aP (bV K) (pv 2) (pv 0) (fun _ _=>rfl)) (pv 1) (aW _))) (fun _ _ _=>(pv 0)))
    (aG (bR (aV rS (aX D_law_weighing hr (by decide) (by rfl) (aA (aP a9 (pv 6) aE (fun _ _=>rfl)) (aA (pv 3) (aA (pv 5) aB)))) dM (aW _)) (aG (aQ dM)) a8)))))))
   (aG (aQ (pv 5))))))),?_⟩
  have hl:=mR.hl;have n64:n<=64:=by rw[hn];exact iL m6
  have n2:2<=n:=by rw[hn];exact qBr (n:=2) (i:=1) (by decide) m1
  refine⟨_,rfl,.ref l,.ty "list",_,_,_,rfl,rfl,.of (.lst hl),Kd.lst.mW K,_,rfl,cL ?_⟩;refine⟨_,rfl,_,rfl,_,rfl,_,rfl,ll,_,rfl,aR.of hll,fun l1 hl1=>?_⟩;show iC _ (upd H l1 (.lst (fY (bG n lf) (some 1) (some (-1))))) _;rw[Ll n2,gB];have u1:=aH.aF (o:=.lst (((qAn (n-2)).map fun j=>lf (j+1)).map V.int)) hl1;have e1:upd H l1 (.lst (((qAn (n-2)).map fun j=>lf (j+1)).map V.int)) l1=_:=aC;generalize upd H l1 (.lst (((qAn (n-2)).map fun j=>lf (j+1)).map V.int))=H1 at u1 e1|-;refine⟨l1,_,rfl,aR.of e1,by rw[qAb,qAu];lia,fun ld ms hld mm up=>?_⟩;have u2:=aH.aF (o:=.lst (ms.map V.int)) hld;have e2:upd H1 ld (.lst (ms.map V.int)) ld=_:=aC;generalize upd H1 ld (.lst (ms.map V.int))=H2 at u2 e2|-;have ls:Bw m lf ms:=⟨up,fun kk=>by
   rw[mm,qGj];constructor
   ·rintro⟨j,hj,rfl⟩;have hj:=List.mem_range.mp hj;exact⟨j+1,⟨by lia,by lia⟩,rfl⟩
   ·rintro⟨g,pg,rfl⟩;refine⟨g-1,List.mem_range.mpr (by have:=pg.1;have:=pg.2;lia),?_⟩;rw[show g-1+1=g by have:=pg.1;lia]⟩
  have eqs:=ls.scale d0 L0 By sc;have lenE:ms.length=ds.length:=by
   have:=congrArg qMn eqs;rwa [qAb,qAb] at this
  have atE:∀(i:Nat) (s l:Int),ms[i]?=some s->ds[i]?=some l->s*d=l*L:=fun i s l h1 h2=>by
   have z:=congrArg (fun(q:List Int)=>q[i]?) eqs;rw[qAo,qAo,h1,h2] at z;exact Option.some.inj z
  dsimp only[aY];refine⟨by simp[qCa],fun l3 hl3=>?_⟩;have u3:=aH.aF (o:=.lst (aZ [])) hl3;have e3:upd H2 l3 (.lst (aZ [])) l3=_:=aC;show aY _ _ _ (upd H2 l3 (.lst (aZ []))) _;generalize upd H2 l3 (.lst (aZ []))=H3 at u3 e3|-;dsimp only[aY];have s03:=u1.trans (u2.trans u3);have h0d:H ld=none:=u1.free hld;refine⟨_,rfl,l,rfl,⟨_,aR.of (s03 _ _ hl)⟩,?_⟩;refine dN (xs:=es.map V.ref) (fun j σ' H'=>aH H H'/\∃(lg:Addr) (gs:List Nat) (o6 o7:Option V),H' ld=some (.lst ((ms.take (ms.length-j)).map V.int))/\H' lg=some (.lst (aZ gs))/\lg≠ld/\(j=0->gs=[])/\(∀x,j≠0->ds[ds.length-j]?=some x->gs=gX m lk x)/\σ'=[some (.ref l),some (.ref ll),some (.int L),some (.int (m:Int)),some (.ref ld),some (.ref lg),o6,o7]) ⟨s03,l3,[],_,_,by rw[qMa,qEd];exact u3 _ _ e2,e3,(fun z=>by rw[z,e2] at hl3;cases hl3),fun _=>rfl,fun _ z=>absurd rfl z,rfl⟩ ?_ ?_ ?_
  ·rintro j σ' H' _ ⟨s',_⟩;exact aR.of (s' _ _ hl)
  ·rintro j x σ' H4 hx ⟨s4,lg,gs,o6,o7,hd4,hg4,ne4,g0,g1,rfl⟩;obtain⟨e,he,rfl⟩:=c9 hx;have hj:j<es.length:=(List.getElem?_eq_some_iff.mp he).1;have hle:=mR.le;obtain⟨lv,hlv,lve⟩:=mR.at_ j e he;obtain⟨fa,wa,ys,dx,X,le1,le2,le3,_,rw0,dx0,sdx,sX,x0,xn,hs⟩:=lve.same s4;obtain⟨sv,hsv⟩:∃sv,ms[ms.length-1-j]?=some sv:=⟨_,qAd (by lia)⟩;have hsd:sv*d=lv*L:=atE _ sv lv hsv (by rw[lenE];exact hlv);dsimp only[aY];refine⟨_,rfl,by simp[qCa],fun l5 hl5=>?_⟩;have u5:=aH.aF (o:=.lst (([]:List Int).map V.int)) hl5;have e5:upd H4 l5 (.lst (([]:List Int).map V.int)) l5=_:=aC;show EJ _ _ _ _ (upd H4 l5 (.lst (([]:List Int).map V.int))) _;generalize upd H4 l5 (.lst (([]:List Int).map V.int))=H5 at u5 e5|-;refine⟨ld,l5,_,_,rfl,rfl,aR.of (u5 _ _ hd4),aR.of e5,_,rfl,?_⟩;have ndue:ms.take (ms.length-j)≠[]:=fun z=>by
    have:=congrArg qMn z;rw[qEn] at this;simp at this;lia
   show if decide (ms.take (ms.length-j)=[])=true then _ else _;rw[decide_eq_false ndue];refine cL ?_;have le1':=u5 _ _ le1;have le2':=u5 _ _ le2;have a0:fK [V.ref fa,V.ref wa] 0=some (.ref fa):=rfl;have a1:fK [V.ref fa,V.ref wa] 1=some (.ref wa):=rfl;refine⟨_,rfl,.ref e,.ty "tuple",_,_,_,rfl,rfl,.of (.tup le1'),Kd.tup.oK K,_,rfl,cL ⟨_,rfl,e,_,rfl,.inr (cA.of le1'),rfl,_,rfl,iE rfl ?_⟩⟩;refine⟨_,rfl,e,_,_,_,rfl,rfl,cA.of le1',a0,fa,_,d,rfl,le2',d0,_,rfl,cL ?_⟩;have hd5:=u5 _ _ hd4;have tk:ms.take (ms.length-j)=ms.take (ms.length-(j+1))++[sv]:=by
    have:ms.length-j=ms.length-(j+1)+1:=by lia
    rw[this,qEs,show ms.length-(j+1)=ms.length-1-j by lia,hsv];rfl
   have hy:((ms.take (ms.length-j)).map V.int)[((ms.take (ms.length-j)).map V.int).length-1]?=some (V.int sv):=by
    rw[tk,qAr,qAm];simp
   have hdl:((ms.take (ms.length-j)).map V.int).dropLast=(ms.take (ms.length-(j+1))).map V.int:=by
    rw[tk,qAr];simp
   refine⟨_,rfl,.inl ⟨rfl,_,aR.of hd5⟩,ld,_,_,rfl,rfl,hd5,hy,?_⟩;rw[hdl];have nD:∀{b o},H b=some o->b≠ld:=fun {b o} e z=>by rw[z,h0d] at e;cases e
   have s5:=s4.trans u5;have s6:aH H (upd H5 ld (.lst ((ms.take (ms.length-(j+1))).map V.int))):=s5.upd_ne' h0d;have e6:upd H5 ld (.lst ((ms.take (ms.length-(j+1))).map V.int)) ld=_:=aC;generalize upd H5 ld (.lst ((ms.take (ms.length-(j+1))).map V.int))=H6 at s6 e6|-;obtain⟨fa',wa',ys',dx',X',m1',m2',m3',_,rw6,dx6,sdx6,sX6,x06,xn6,hs6⟩:=lve.same s6;dsimp only[aY];have a0':fK [V.ref fa',V.ref wa'] 0=some (.ref fa'):=rfl;have a1':fK [V.ref fa',V.ref wa'] 1=some (.ref wa'):=rfl;obtain⟨gv,_,egv⟩:=(ls.2 sv).mp (qAy hsv);have ssv:Sm 400000 sv:=by rw[<- egv];exact slf gv
   obtain⟨gl,_,egl⟩:=(By.2 lv).mp (qAy hlv);have slv:Sm 400000 lv:=by rw[<- egl];exact slk gl
   refine⟨_,rfl,e,_,_,_,rfl,rfl,cA.of m1',a0',fa',_,_,_,rfl,rfl,cA.of m2',rfl,_,rfl,_,_,rfl,rfl,(lN slv).mb sL,_,rfl,_,rfl,e,_,_,_,rfl,rfl,cA.of m1',a0',fa',_,_,_,rfl,rfl,cA.of m2',rfl,_,_,rfl,rfl,ssv.mb (kC d0 sd),rfl,_,rfl,iE (congrArg V.int (FX d0 hsd)) ?_⟩;have hll6:=s6 _ _ hll;refine⟨_,rfl,ll,_,rfl,.inl (aR.of hll6),_,_,rfl,rfl,1,_,rfl,?_,?_⟩
   ·rw[aK];lia
   rw[aK,show(((n:Nat):Int)-1-1).toNat=n-2 by lia];refine fC (lo:=1) (n:=n-2) (fun i=>if sv<=lf (i+1) then some (V.int (1+(i:Int))) else none) (qAq (aO (by lia))) (fun i H7 kk kk0 s7 hi h1 h2=>?_) fun lgN H7 hlgN s7 hd7=>?_
   ·have hat:fK (bG n lf) (1+(i:Int))=some (.int (lf (i+1))):=by
     have z:=bS (f:=lf) (n:=n) (j:=i+1) (by lia);rw[show((i+1:Nat):Int)=1+(i:Int) by lia] at z;exact z
    refine⟨_,rfl,_,rfl,ll,_,_,_,rfl,rfl,aR.of (s7 _ _ hll6),hat,_,rfl,_,_,rfl,rfl,_,rfl,cY (fun h3=>?_) (fun h3=>?_)⟩
    ·exact⟨_,rfl,h1 _ (by rw[if_pos (of_decide_eq_true h3)]) _ (.refl _)⟩
    ·exact h2 (by rw[if_neg fun y=>h3 (decide_eq_true y)]) _ (.refl _)
   rw[Hl] at hd7;have eG:En lf sv (n-2)=gX m lk lv:=by
    have z:En lf sv (n-2)=gX m lf sv:=by rw[hn];rfl
    rw[z];exact rL d0 L0 sc hsd
   rw[eG] at hd7;refine⟨_,rfl,e,_,_,_,rfl,rfl,cA.of (s7 _ _ m1'),a1',_,rfl,_,rfl,wa',lgN,m,n,_,dx',ys',_,rfl,s7 _ _ m3',rw6.t s7.t,by rw[FW];exact hd7,m6,n64,dx6,sdx6,Lm m1 m6 hn sX6 x06 xn6 dx6 hs6,fun D DT H8 L' tt s8 hD8 _ _ _ _ _=>?_⟩;refine⟨rfl,_,rfl,?_⟩;show if decide (V.ref D=V.non)=true then _ else _;rw[decide_eq_false fun z=>by cases z];have s68:=s7.trans s8;refine cL ⟨s6.trans s68,lgN,gX m lk lv,_,_,s68 _ _ e6,s8 _ _ hd7,(fun z=>by rw[z,e6] at hlgN;cases hlgN),(fun z=>by lia),fun x _ hx=>?_,rfl⟩;rw[show ds.length-(j+1)=ds.length-1-j by lia,hlv] at hx;rw[Option.some.inj hx]
  ·rintro σ' H4 ⟨s4,lg,gs,o6,o7,hd4,hg4,_,g0,g1,rfl⟩;rw[qAb] at g0 g1;exact⟨_,rfl,k lg H4 gs s4 hg4 (fun z=>g0 (by rw[z];rfl)) fun x ne hx=>g1 x (fun z=>ne (qEv z)) hx⟩
theorem kD.tl {m:Nat}{tb:Nat->Int}{H H':Hp}{R lp lv lk:Addr}{ps es kes:List Addr}{Z:Nat->Int}{d ev:Int}{ks:List Nat}{ds:List Int}{tl gs:List Nat} (m1:1<=m) (m6:m<=6) (c:kD m tb H H' R lp lv lk ps es kes Z d ev ks ds tl) (g0:es=[]->gs=[]) (g1:∀x,es≠[]->ds[ds.length-es.length]?=some x->gs=gX m (fun g=>tb g*d-Cm.pt m bt Z g) x) :
  (∀g,g∈tl->g∈gs++[2^m-1]/\1<=g/\g<64)/\tl.Pairwise (· < ·)/\gs.length<=62:=by
 have p64:=iL m6;have p2:2<=2^m:=qBr (n:=2) (i:=1) (by decide) m1;by_cases e:es=[]
 ·rw[c.mR.t0 e,g0 e];exact⟨fun g hg=>⟨hg,by rw[List.mem_singleton.mp hg];lia⟩,qLf _ _,by decide⟩
 ·have hl:=List.length_pos_iff.mpr e;have le:=c.mR.le;obtain⟨x,hx⟩:∃x,ds[ds.length-es.length]?=some x:=⟨_,qAd (by lia)⟩;rw[c.mR.t1 x e hx,g1 x e hx];refine⟨fun g hg=>?_,(Ec m _ x).sublist (tR m _),tS m6 _ _⟩;have hm:=(tR m _).subset hg;have pg:=(g9.mp hm).1;exact⟨qCc _ hm,pg.1,by have:=pg.2;lia⟩
def Hn (K:qAc):Sp:=fun vs H Q _=>∃(R lt:Addr) (m n:Nat) (tb:Nat->Int) (H0:Hp) (lp lv lk:Addr) (ps es kes:List Addr) (Z:Nat->Int) (d ev:Int) (ks:List Nat) (ds:List Int) (tl:List Nat),vs=[.ref R,.ref lt,.int (m:Int)]/\H lt=some (.lst (bG n tb))/\n=2^m/\1<=m/\m<=6/\(∀j,Sm 80000 (tb j))/\kD m tb H0 H R lp lv lk ps es kes Z d ev ks ds tl/\∀H',aH H H'->Q (.bl true) H'
theorem v8:aT ["_law_found","_law_table","_law_many","_law_low_here","_law_tops_here","_law_lacks","_law_groups"] ["_law_found","_law_table","_law_many"] (aI JK):=by constructor<;>first|rfl|decide +kernel
theorem Lo {f1 f2 f3 f4 f5 f6:Addr}{fd1 fd2 fd3 fd4 fd5 fd6:qBo} (t:Tx K mg "_law_calm" JK ["_law_found","_law_table","_law_many"] f fd) (T:T K mg AL LN FR iF fCh fGM fCC fCA fPL SE NN NG NT NR) (D_law_fractions:Df P w K mg base b0 3 "_law_fractions" ["_law_found","_law_many"] Hf f1 fd1) (D_law_low:Df P w K mg base b0 2 "_law_low" ["_law_numbers"] Ac f2 fd2) (D_law_tops:Df P w K mg base b0 1 "_law_tops" ["_law_numbers","_law_low_here"] Ae f3 fd3) (D_law_share:Df P w K mg base b0 1 "_law_share" ["_law_tops_here","_law_group"] (Hh K) f4 fd4) (D_law_levels:Df P w K mg base b0 4 "_law_levels" ["_law_found","_law_lacks","_law_low_here","_law_many"] (Hm K) f5 fd5) (D_law_keys:Df P w K mg base b0 3 "_law_keys" ["_law_found","_law_many","_law_groups"] (Hk K) f6 fd6) :
  Df P w K mg base b0 5 "_law_calm" ["_law_found","_law_table","_law_many"] (Hn K) f fd:=by
 refine t.gY v8 (fun vs H Q E h=>?_) (fun cdv A outer s H vs Q E hr h=>?_)
 ·obtain⟨R,lt,m,n,tbl,H0,lp,lv,lk,ps,es,kes,Z,d,ev,ks,ds,tl,rfl,_⟩:=h;rfl
 ·obtain⟨R,lt,m,n,tbl,H0,lp,lv,lk,ps,es,kes,Z,d,ev,ks,ds,tl,rfl,hlt,hn,m1,m6,st,c,k⟩:=h;refine⟨_,(aD (bR (PW.pt (pw_or (bX (bU (aJ cI (by rfl) T.dY dO (aA (pv 0) (aA (cT (v:=.ty "tuple") (by rfl) T.gA jB rfl) aB))))) (pw_or (aV eO (aJ aN (by rfl) T.bW bM (aA (pv 0) aB)) aE (aW _)) (pw_or1 (bX (bU (aX D_law_fractions hr (by decide) (by rfl) (aA (aP a9 (pv 0) aE (fun _ _=>rfl)) (aA (pv 2) aB))))))))) (aG (aQ eV)) a8)
   (aD (aU (i:=3) v8.nd rfl (by first|exact .inl rfl|exact .inr rfl) (aX D_law_low hr (by decide) (by rfl) (aA (aP a9 (pv 0) aE (fun _ _=>rfl)) aB)))
   (aD (aU (i:=4) v8.nd rfl (by first|exact .inl rfl|exact .inr rfl) (aX D_law_tops hr (by decide) (by rfl) (aA (aP a9 (pv 0) aE (fun _ _=>rfl)) (aA (pv 3) aB))))
   (aD (eD (NB:=["_law_group","_law_low_here","_law_table","_law_tops_here"]) (pick:=[none,some 3,some 1,some 4]) (i:=5) v8.nd rfl bT (by rfl) (bJ (by with_unfolding_all rfl) (by exact(And.intro rfl (And.intro rfl (And.intro rfl trivial)))) rfl (by decide +kernel) (by decide +kernel) (by rfl) (by rfl)) rfl
     (cB (by rfl) T.cD (aA (aJ aN (by rfl) T.bW bM (aA (pv 1) aB)) aB)) (fun _ _ _=>aL (i:=0) (show(["_law_group","_law_low_here","_law_table","_law_tops_here"]:List Str).Nodup from by decide +kernel) rfl bT)
     (fun _ _ _=>bK) (fun _ _ _=>(aS eX (aS bL (aP (bV K) (pv 2) (pv 0) (fun _ _=>rfl)) (pv 1)) (aX D_law_share hr (by decide) (by rfl) (aA (pv 3) (aA (pv 0) aB))))))
   (aD (bR (aV eO (aP bC (pv 5) (iU fT aE) (fun _ _=>rfl)) aE (aW _)) (aG (aQ eV)) a8)
   (aD (aU (i:=6) v8.nd rfl bT (aX D_law_levels hr (by decide) (by rfl) (aA (aP a9 (pv 0) aE (fun _ _=>rfl)) (aA (pv 5) (aA (pv 3) (aA (pv 2) aB))))))
   (aG (aQ (lZ (eB yL (pv 6) dM (aW _)) (kF (aX D_law_keys hr (by decide) (by rfl) (aA (aP a9 (pv 0) aE (fun _ _=>rfl)) (aA (pv 2) (aA (aS fA (pv 6) (bH (aA (aS eX (aJ aN (by rfl) T.bW bM (aA (pv 1) aB)) aE) aB))) aB)))))))))))))),?_⟩
  have n64:n<=64:=by rw[hn];exact iL m6
  have n2:2<=n:=by rw[hn];exact qBr (n:=2) (i:=1) (by decide) m1
  have cst:=c.cst;have d0:=cst.d0;have kl:ks.length<=32:=by have:=cst.cnt;lia
  have sd:Sm 6000 d:=cst.sd.mono (by lia);have sZ:∀i,Sm 310000 (Z i):=fun i=>(cst.sZ i).mono (by lia);have htup:=c.tup;have a0:fK [V.ref lp,V.ref lv,V.ref lk] 0=some (.ref lp):=rfl;have a1:fK [V.ref lp,V.ref lv,V.ref lk] 1=some (.ref lv):=rfl;have a2:fK [V.ref lp,V.ref lv,V.ref lk] 2=some (.ref lk):=rfl;refine⟨_,rfl,.ref R,.ty "tuple",_,_,_,rfl,rfl,.of (.tup htup),Kd.tup.oK K,_,rfl,cL ⟨_,rfl,R,_,rfl,.inr (cA.of htup),rfl,_,rfl,iE rfl ?_⟩⟩;refine⟨_,rfl,R,_,_,_,rfl,rfl,cA.of htup,a0,_,rfl,lp,m,Z,d,ps,rfl,c.fl,d0,_,rfl,cL ?_⟩;refine⟨_,rfl,R,_,_,_,rfl,rfl,cA.of htup,a0,lp,m,Z,d,ps,rfl,c.fl,d0,sd,fun L lo=>?_⟩;have L0:=lo.pos;have sL:Sm 6000 L:=sd.le (by have:=qDt d0 lo.dvd;lia);dsimp only[aY];refine⟨_,rfl,R,_,_,_,rfl,rfl,cA.of htup,a0,_,rfl,lp,m,Z,d,L,ps,rfl,c.fl,by lia,d0,sd,sZ,lo,fun DT H1 tt hDT s1 hdt htt stt=>?_⟩;dsimp only[aY];have hlt1:=s1 _ _ hlt;have sc:=vW (tb:=tbl) htt;refine⟨_,rfl,lt,_,rfl,.inl (aR.of hlt1),?_⟩;rw[aK];refine⟨n,rfl,by lia,by lia,?_⟩;refine fC (n:=n) (fun i=>some (.int (nX m tbl tt L i))) (qAq (aO (by lia))) (fun i H2 kk kk0 s2 hi g1 g2=>?_) fun ll H2 hll s2 hd2=>?_
  ·have hat:fK (bG n tbl) ((0:Int)+(i:Int))=some (.int (tbl i)):=by rw[qCk];exact bS hi
   refine⟨_,rfl,_,rfl,lt,_,_,_,rfl,rfl,aR.of (s2 _ _ hlt1),hat,_,rfl,_,_,rfl,rfl,(st i).mb sL,_,rfl,_,rfl,DT,m,i,tt,by rw[qCk];rfl,s2 _ _ hdt,by lia,fun H3 s3=>?_⟩;exact⟨_,_,rfl,rfl,g1 _ rfl _ s3⟩
  rw[qDl] at hd2;have hd2:H2 ll=some (.lst (bG n (nX m tbl tt L))):=hd2;dsimp only[aY];have lz:nX m tbl tt L (n-1)=0:=by
   have z:=sc (n-1);rw[hn,cst.whole,Int.sub_self,qBi] at z;rw[hn];exact(Int.mul_eq_zero.mp z).resolve_right (by lia)
  have hlast:fK (bG n (nX m tbl tt L)) (-1)=some (.int (nX m tbl tt L (n-1))):=by
   obtain⟨n',rfl⟩:∃n',n=n'+1:=⟨n-1,by lia⟩;exact jF n' _
  refine⟨_,rfl,_,rfl,ll,_,_,_,rfl,rfl,aR.of hd2,hlast,rfl,_,rfl,iE (by rw[lz]) ?_⟩;have s02:=s1.trans s2;have slf:∀g,Sm 400000 (nX m tbl tt L g):=fun g=>by
   unfold nX;have z1:Sm 86000 (tbl g*L):=((st g).mul sL).mono (by decide);have z2:Sm 330000 (Wg.sm m fun i=>bt g i*tt i):=(rD (a:=320002) m fun i _=>((rF g i).mul (stt i)).mono (by decide)).mono (by lia);exact((z1.mono (by decide)).sub z2).mono (by decide)
  have slk:∀g,Sm 400000 (tbl g*d-Cm.pt m bt Z g):=fun g=>by
   have z1:Sm 86000 (tbl g*d):=((st g).mul sd).mono (by decide);exact((z1.mono (by decide)).sub ((cst.sP m6 g).mono (show 80000+24*ks.length<=90000 by lia))).mono (by decide)
  have c2:=c.same s02;refine⟨_,rfl,R,_,_,_,rfl,rfl,cA.of c2.tup,a1,_,rfl,_,rfl,_,rfl,lv,ll,m,n,fun g=>tbl g*d-Cm.pt m bt Z g,_,d,L,ds,es,tl,rfl,hd2,hn,m1,m6,d0,sd,L0,sL,sc,slf,slk,c2.By,c2.mR,fun lg H3 gs s3 hg g0 g1=>?_⟩;dsimp only[aY];obtain⟨t1,t2,t3⟩:=c.tl m1 m6 g0 g1;have c3:=c2.same s3;have hlt3:=s3 _ _ (s2 _ _ hlt1);refine⟨_,rfl,rfl,?_⟩;refine⟨_,rfl,?_⟩;rw[if_pos (show(!decide (V.ref lg=V.non))=true by rw[decide_eq_false fun z=>by cases z];rfl)];refine⟨_,rfl,R,_,_,_,rfl,rfl,cA.of c3.tup,a2,_,rfl,_,rfl,_,rfl,lt,_,rfl,.inl (aR.of hlt3),_,_,rfl,rfl,jX,fun l4 hl4=>?_⟩;rw[aK];show yT _ _ _ (upd H3 l4 (.lst [V.int (((n:Nat):Int)-1)])) _;rw[show((n:Nat):Int)-1=((n-1:Nat):Int) by lia];have u4:=aH.aF (o:=.lst (aZ [n-1])) hl4;have e4:upd H3 l4 (.lst (aZ [n-1])) l4=_:=aC;show yT _ _ _ (upd H3 l4 (.lst (aZ [n-1]))) _;generalize upd H3 l4 (.lst (aZ [n-1]))=H4 at u4 e4|-;refine⟨lg,l4,_,_,rfl,rfl,aR.of (u4 _ _ hg),aR.of e4,by rw[bF,bF,qCa];simp;lia,fun l5 hl5=>?_⟩;have u5:=aH.aF (o:=.lst (aZ gs++aZ [n-1])) hl5;have e5:upd H4 l5 (.lst (aZ gs++aZ [n-1])) l5=some (.lst (aZ (gs++[2^m-1]))):=by
   rw[aC,hn];unfold aZ;rw[qAr]
  generalize upd H4 l5 (.lst (aZ gs++aZ [n-1]))=H5 at u5 e5|-;have c5:=c3.same (u4.trans u5);dsimp only[iC,qCl,qCm];exact⟨lk,l5,lk,m,kes,tl,gs++[2^m-1],rfl,c5.hk,c5.Nq,e5,t1,t2,by rw[qAm];simp;lia,m6,by have:=c.LG;lia,fun H6 s6=>k H6 (s02.trans (s3.trans ((u4.trans u5).trans s6)))⟩
theorem Ei {C:List Int}{j:Nat} (h:j<C.length):fK (C.map V.int) (j:Int)=some (.int (C.getD j 0)):=eY (by rw[qAo,qAk,qAd h];rfl)
def Ho (K:qAc):Sp:=fun vs H Q _=>∃(a:Addr) (ns:List Int) (k:Nat),vs=[.ref a,.int (k:Int)]/\aR K H a (ns.map V.int)/\∀c:Int,Q (.int c) H
theorem Nx:aT ["_law_script","_law_k"] ["_law_script","_law_k"] (aI Jy):=by constructor<;>first|rfl|decide +kernel
theorem Lp (t:Tx K mg "_law_cell" Jy ["_law_script","_law_k"] f fd) (T:T K mg AL LN FR iF fCh fGM fCC fCA fPL SE NN NG NT NR):Df P w K mg base b0 1 "_law_cell" ["_law_script","_law_k"] (Ho K) f fd:=by
 refine t.gY Nx (fun vs H Q E h=>?_) (fun cdv A outer s H vs Q E hr h=>?_)
 ·obtain⟨a,ns,k,rfl,_⟩:=h;rfl
 ·obtain⟨a,ns,j,rfl,hq,k⟩:=h;refine⟨_,(aD (bR (aV i8 (pv 1) (aJ aN (by rfl) T.bW bM (aA (pv 0) aB)) (aW _)) (aG (aQ (aP bC (pv 0) (pv 1) (fun _ _=>rfl)))) a8)
   (aG (aQ aE))),?_⟩
  refine⟨_,rfl,_,rfl,a,_,rfl,.inl hq,_,_,rfl,rfl,_,rfl,cY (fun h=>?_) (fun _=>k 0)⟩;have hlt:j<ns.length:=by
   have z:=of_decide_eq_true h;rw[qAb] at z;lia
  exact⟨_,rfl,_,rfl,a,_,_,_,rfl,rfl,hq,Ei hlt,k _⟩
def Hq:Sp:=fun vs H Q _=>∃c:Int,vs=[.int c]/\∀n:Int,Sm 64 n->Q (.int n) H
theorem Ny:aT ["_law_cell_here"] ["_law_cell_here"] (aI JF):=by constructor<;>first|rfl|decide +kernel
theorem Lq (t:Tx K mg "_law_number" JF ["_law_cell_here"] f fd) (T:T K mg AL LN FR iF fCh fGM fCC fCA fPL SE NN NG NT NR):Df P w K mg base b0 1 "_law_number" ["_law_cell_here"] Hq f fd:=by
 refine t.gY Ny (fun vs H Q E h=>?_) (fun cdv A outer s H vs Q E hr h=>?_)
 ·obtain⟨c,rfl,_⟩:=h;rfl
 ·obtain⟨c,rfl,k⟩:=h;refine⟨_,(aD (bR (aV i8 (aS iO (pv 0) aE) aE (aW _)) (aG (aQ (aS eX (aS iO (aS nL (pv 0) aE) aE) aE))) a8)
   (aD (bR (aV g6 (aS iO (pv 0) aE) aE (aW _)) (aG (aQ (aS eX (aS iO (aS nL (pv 0) aE) aE) aE))) a8)
   (aG (aQ (aS eX (aS iO (aS rR (aS nL (pv 0) aE) aE) (aS i7 (aS rR aE (aS BD aE aE)) aE)) (aS BD aE aE)))))),?_⟩
  refine⟨_,rfl,_,_,rfl,rfl,(by show(0:Int)<4;decide),_,_,rfl,rfl,_,rfl,cY (fun _=>?_) (fun _=>?_)⟩
  ·refine⟨_,rfl,_,_,rfl,rfl,⟨by decide,by decide⟩,_,_,rfl,rfl,(by show(0:Int)<7;decide),_,_,rfl,rfl,k _ ?_⟩;have h0:=qHa (c/4) (b:=7) (by decide);have h1:=qHj (c/4) (b:=7) (by decide);exact Sm.of 10 (by lia) (by decide)
  ·refine⟨_,rfl,_,_,rfl,rfl,(by show(0:Int)<4;decide),rfl,_,rfl,cY (fun _=>?_) (fun _=>?_)⟩
   ·refine⟨_,rfl,_,_,rfl,rfl,⟨by decide,by decide⟩,_,_,rfl,rfl,(by show(0:Int)<2001;decide),_,_,rfl,rfl,k _ ?_⟩;have h0:=qHa (c/4) (b:=2001) (by decide);have h1:=qHj (c/4) (b:=2001) (by decide);exact Sm.of 11 (by lia) (by decide)
   ·refine⟨_,rfl,_,_,rfl,rfl,⟨by decide,by decide⟩,_,_,rfl,rfl,.inr ⟨by decide,by decide⟩,?_⟩;refine⟨_,_,rfl,rfl,⟨by decide,by decide,by decide⟩,_,_,rfl,rfl,.inl ⟨by decide,by decide⟩,_,_,rfl,rfl,_,_,rfl,rfl,(by show(0:Int)<2*10^18+1;decide),_,_,rfl,rfl,⟨by decide,by decide,by decide⟩,_,_,rfl,rfl,k _ ?_⟩;have h0:=qHa (c/4*48271) (b:=2*10^18+1) (by decide);have h1:=qHj (c/4*48271) (b:=2*10^18+1) (by decide);show Sm 64 (c/4*48271%(2*10^18+1)-10^18);exact Sm.of 64 (by lia) (by decide)
theorem FY {x:Int} (h:x%2≠0):eJ x 2 = .tup [.int x,.int 2]:=by
 obtain⟨e,y1,_,dv⟩:=cW (X:=x) (d:=2) (by decide);have hb:tb x 2<=2:=qDt (by decide) dv;have h2:tb x 2=2:=by
  rcases(show tb x 2=1\/tb x 2=2 by lia) with z | z
  ·rw[z] at e;lia
  ·exact z
 have h1:ta x 2=x:=by rw[h2] at e;lia
 show HO.tup [.int (ta x 2),.int (tb x 2)]=_;rw[h1,h2]
def Hr:Sp:=fun vs H Q _=>∃x:Int,vs=[.int x]/\∀p H',aH H H'->H' p=some (eJ x 2)->Q (.ref p) H'
theorem Nz:aT ["_law_number_here"] ["_law_number_here"] (aI JL):=by constructor<;>first|rfl|decide +kernel
theorem Lr (t:Tx K mg "_law_half" JL ["_law_number_here"] f fd) (T:T K mg AL LN FR iF fCh fGM fCC fCA fPL SE NN NG NT NR):Df P w K mg base b0 1 "_law_half" ["_law_number_here"] Hr f fd:=by
 refine t.gY Nz (fun vs H Q E h=>?_) (fun cdv A outer s H vs Q E hr h=>?_)
 ·obtain⟨x,rfl,_⟩:=h;rfl
 ·obtain⟨x,rfl,k⟩:=h;refine⟨_,(aD (bR (aV g6 (aS iO (pv 0) aE) aE (aW _)) (aG (aQ (cE (aA (aS nL (pv 0) aE) (aA aE aB))))) a8)
   (aG (aQ (cE (aA (pv 0) (aA aE aB)))))),?_⟩
  refine⟨_,rfl,_,_,rfl,rfl,(by show(0:Int)<2;decide),rfl,_,rfl,cY (fun h=>?_) (fun h=>?_)⟩
  ·have h:x%2=0:=V.int.inj (of_decide_eq_true h);refine⟨_,rfl,_,_,rfl,rfl,⟨by decide,by decide⟩,iY,fun p hp=>k p _ (.aF hp) ?_⟩;rw[aC];show some (HO.tup [.int (x/2),.int 1])=_;rw[<- jL];exact congrArg some (fV (by decide) (by decide) (by lia))
  ·have h:x%2≠0:=fun z=>h (decide_eq_true (congrArg V.int z));refine⟨_,rfl,iY,fun p hp=>k p _ (.aF hp) ?_⟩;rw[aC,FY h]
theorem FZ {m n:Nat}{tb:Nat->Int} (m1:1<=m) (m6:m<=6) (hn:n=2^m) (h0:tb 0=0):jI (bG n tb)=true:=by
 rw[gB];have n0:0<n:=by rw[hn];exact Nat.pow_pos (by decide)
 exact Fy (m:=m) ⟨m1,m6,by rw[qAb,qAu,hn],by rw[qAo,qCr n0];exact congrArg some h0⟩
theorem Ej {m n:Nat}{tb:Nat->Int}{H:Hp}{p:Addr}{R:VK}{E:XK} (m1:1<=m) (m6:m<=6) (hn:n=2^m) (h0:tb 0=0) (st:∀j,Sm 80000 (tb j)) (hp:H p=some (.lst (bG n tb))) (k:∀(R' lp lv lk:Addr) (H':Hp) (ps es kes:List Addr) (Z:Nat->Int) (d ev:Int) (ks:List Nat) (ds:List Int) (tl:List Nat),aH H H'->kD m tb H H' R' lp lv lk ps es kes Z d ev ks ds tl->R (.ref R') H'):Ee K NT [.ref p] H R E:=by
 have n64:n<=64:=by rw[hn];exact MF m6
 refine⟨p,_,rfl,hp,zV,by rw[aK];lia,fun no=>?_,fun _=>⟨m,n,tb,m1,m6,hn,rfl,st,k⟩⟩;rw[FZ m1 m6 hn h0] at no;cases no
theorem Ga {K:qAc}{tb:Nat->Int}{H H':Hp}{R lp lv lk:Addr}{ps es kes:List Addr}{Z:Nat->Int}{d ev:Int}{ks:List Nat}{ds:List Int}{tl:List Nat} (c:kD 1 tb H H' R lp lv lk ps es kes Z d ev ks ds tl) :
  fR K H' (.ref R) (.tuple [.list [.tuple [.int (tb 1),.int 1]],.list [],.list [.list [.tuple [.int 1,.tuple [.int 1,.int 1]]]]]):=by
 have d0:=c.cst.d0;have dsn:ds=[]:=by
  cases e:ds with
  | nil=>rfl
  | cons a b =>
   obtain⟨g,pg,_⟩:=(c.By.2 a).mp (by rw[e];exact qCi ..);have:=pg.1;have:=pg.2;lia
 have esn:es=[]:=qEv (by have:=c.mR.le;rw[dsn] at this;exact Nat.le_zero.mp this);have tln:tl=[1]:=c.mR.t0 esn;have z0:Z 0=tb 1*d:=by
  have z:0+1*Z 0=tb 1*d:=c.cst.whole;lia
 obtain⟨w1,rfl⟩:∃w1,ps=[w1]:=List.length_eq_one_iff.mp c.fl.len;have hw1:H' w1=some (.tup [.int (tb 1),.int 1]):=by
  rw[c.fl.at_ 0 w1 rfl,z0,<- jL];exact congrArg some (fV d0 (by decide) (by rw[qFe]))
 obtain⟨k1,rfl⟩:∃k1,kes=[k1]:=List.length_eq_one_iff.mp c.Nq.len;obtain⟨ys,dk,F,hk1,_,rw1,dk0,_,_,hs⟩:=c.Nq.at_ 0 k1 rfl;subst tln;have f0:F 0=dk:=by
  have z:0+1*F 0=1*dk:=hs 0 (by decide);lia
 have ek:iX [1] F [1].length=[(1,dk)]:=by
  have e:=jW [1] F 0;rw[if_pos (by lia),f0] at e;exact e
 rw[ek] at rw1;obtain⟨a,w',p,hp,hv,ha,hw⟩:∃a w' p,[((1:Int),dk)][0]?=some p/\ys=[V.ref a]/\H' a=some (.tup [.int p.1,.ref w'])/\H' w'=some (eJ p.2 dk):=by
  have hl:=rw1.len;obtain⟨v,rfl⟩:=List.length_eq_one_iff.mp hl;obtain⟨a,w',p,hp,e,ha,hw⟩:=rw1.get (i:=0) (v:=v) rfl;exact⟨a,w',p,hp,by rw[e],ha,hw⟩
 obtain rfl:((1:Int),dk)=p:=Option.some.inj hp;rw[tM dk0] at hw;subst hv esn;exact .tup (cA.of c.tup) (.cons (.lst (aR.of c.fl.hr) (.cons (.tup (cA.of hw1) (.cons (.int _) (.cons (.int _) .nil))) .nil)) (.cons (.lst (aR.of c.mR.hl) .nil) (.cons (.lst (aR.of c.hk) (.cons (.lst (aR.of hk1) (.cons (.tup (cA.of ha) (.cons (.int _) (.cons (.tup (cA.of hw) (.cons (.int _) (.cons (.int _) .nil))) .nil))) .nil)) .nil)) .nil)))
theorem Al {α:Type}{l:List α} (h:l.length=2):∃a b,l=[a,b]:=by
 match l,h with
 | [a,b],_=>exact⟨a,b,rfl⟩
theorem iS {g:Nat}:Pr 2 g↔g=1\/g=2:=by
 unfold Pr;constructor
 ·rintro⟨a,b⟩;lia
 ·rintro(rfl | rfl) <;> decide
theorem Am {K:qAc}{tbl:Nat->Int}{H H':Hp}{R lp lv lk:Addr}{ps es kes:List Addr}{Z:Nat->Int}{d ev:Int}{ks:List Nat}{ds:List Int}{tl:List Nat} (c:kD 2 tbl H H' R lp lv lk ps es kes Z d ev ks ds tl) :
  (∃w1 w2,ps=[w1,w2]/\H' w1=some (eJ (2*tbl 1+(tbl 3-tbl 1-tbl 2)) 2)/\H' w2=some (eJ (2*tbl 2+(tbl 3-tbl 1-tbl 2)) 2)) /\
  fR K H' (.ref lv) (.list [.tuple [.tuple [.int (ta (0-(tbl 3-tbl 1-tbl 2)) 2),.int (tb (0-(tbl 3-tbl 1-tbl 2)) 2)],.list [.tuple [.int 1,.tuple [.int 1,.int 1]],.tuple [.int 2,.tuple [.int 1,.int 1]]]]]):=by
 have d0:=c.cst.d0;have zN:0+1*Z 0+1*Z 1=tbl 3*d:=c.cst.whole;have p1:Cm.pt 2 bt Z 1=0+1*Z 0+0*Z 1:=rfl;have p2:Cm.pt 2 bt Z 2=0+0*Z 0+1*Z 1:=rfl;have key:∀(y:Nat->Int) (g:Nat),Pr 2 g->(0+1*y 0+1*y 1<=0)->(∀q,Pr 2 q->tbl g*d-Cm.pt 2 bt Z g<=tbl q*d-Cm.pt 2 bt Z q->0<=Cm.pt 2 bt y q)->Cm.pt 2 bt y g=0:=fun y g pg yN h =>
  c.cst.word c.fe (c:=1) (l:=tbl g*d-Cm.pt 2 bt Z g) (by decide) yN (fun q pq z=>h q pq (by rw[qFe] at z;exact z)) pg (by rw[qFe];exact qDq _)
 have eq:tbl 1*d-Z 0=tbl 2*d-Z 1:=by
  rcases qJp (tbl 1*d-Z 0) (tbl 2*d-Z 1) with z | z | z
  ·exfalso;have w:=key (fun i=>if i=0 then -1 else 1) 2 (iS.mpr (.inr rfl)) (by decide) fun q pq hq=>by
    rcases iS.mp pq with rfl | rfl
    ·rw[p1,p2] at hq;lia
    ·decide
   exact absurd w (by decide)
  ·exact z
  ·exfalso;have w:=key (fun i=>if i=0 then 1 else -1) 1 (iS.mpr (.inl rfl)) (by decide) fun q pq hq=>by
    rcases iS.mp pq with rfl | rfl
    ·decide
    ·rw[p1,p2] at hq;lia
   exact absurd w (by decide)
 have lkE:∀g,Pr 2 g->tbl g*d-Cm.pt 2 bt Z g=tbl 1*d-Z 0:=fun g pg=>by
  rcases iS.mp pg with rfl | rfl
  ·rw[p1];lia
  ·rw[p2];lia
 have dse:ds=[tbl 1*d-Z 0]:=up_eq c.By.1 (qLf _ _) fun k=>by
  rw[c.By.2,qHf];constructor
  ·rintro⟨g,pg,rfl⟩;exact lkE g pg
  ·rintro rfl;exact⟨1,iS.mpr (.inl rfl),lkE 1 (iS.mpr (.inl rfl))⟩
 subst dse;have esne:es≠[]:=fun e=>by
  have:=c.mR.t0 e;have h2:=c.LG;rw[this] at h2;exact absurd h2 (by decide)
 obtain⟨e,rfl⟩:∃e,es=[e]:=List.length_eq_one_iff.mp (by
  have:=c.mR.le;have:=List.length_pos_iff.mpr esne;simp only[qBc] at *;lia)
 obtain⟨l,hl,fa,wa,ys,dx,X,le1,le2,le3,_,rw1,dx0,_,_,x0,xn,hs⟩:=c.mR.at_ 0 e rfl;obtain rfl:tbl 1*d-Z 0=l:=Option.some.inj hl;have eG:gX 2 (fun g=>tbl g*d-Cm.pt 2 bt Z g) (tbl 1*d-Z 0)=[1,2]:=by
  have ea:jM 2=[1,2]:=rfl;unfold gX;rw[ea,qDf,if_pos (decide_eq_true (qFr (lkE 1 (iS.mpr (.inl rfl))).symm)),qDf,if_pos (decide_eq_true (qFr (lkE 2 (iS.mpr (.inr rfl))).symm)),qGu]
 rw[eG] at rw1 hs;have s0:0+1*(X 0+X 1)+0*(X 0+X 2)=dx:=hs 0 (by decide);have s1:0+0*(X 0+X 1)+1*(X 0+X 2)=dx:=hs 1 (by decide);have ew:xZ [1,2] X [1,2].length=[(1,X 0+X 1),(2,X 0+X 2)]:=rfl;rw[ew,show X 0+X 1=dx by lia,show X 0+X 2=dx by lia] at rw1;have hly:=rw1.len;obtain⟨v1,v2,rfl⟩:∃v1 v2,ys=[v1,v2]:=Al hly;obtain⟨a1,w1,q1,hq1,rfl,ha1,hw1⟩:=rw1.get (i:=0) (v:=v1) rfl;obtain⟨a2,w2,q2,hq2,rfl,ha2,hw2⟩:=rw1.get (i:=1) (v:=v2) rfl;obtain rfl:((1:Int),dx)=q1:=Option.some.inj hq1;obtain rfl:((2:Int),dx)=q2:=Option.some.inj hq2;rw[tM dx0] at hw1 hw2;obtain⟨u1,u2,rfl⟩:∃u1 u2,ps=[u1,u2]:=Al c.fl.len;have f1:eJ (Z 0) d=eJ (2*tbl 1+(tbl 3-tbl 1-tbl 2)) 2:=fV d0 (by decide) (by
  have:(2*tbl 1+(tbl 3-tbl 1-tbl 2))*d=2*(tbl 1*d)+(tbl 3*d-tbl 1*d-tbl 2*d):=by grind
  lia)
 have f2:eJ (Z 1) d=eJ (2*tbl 2+(tbl 3-tbl 1-tbl 2)) 2:=fV d0 (by decide) (by
  have:(2*tbl 2+(tbl 3-tbl 1-tbl 2))*d=2*(tbl 2*d)+(tbl 3*d-tbl 1*d-tbl 2*d):=by grind
  lia)
 have f3:eJ (tbl 1*d-Z 0) d=eJ (0-(tbl 3-tbl 1-tbl 2)) 2:=fV d0 (by decide) (by
  have:(0-(tbl 3-tbl 1-tbl 2))*d=0-(tbl 3*d-tbl 1*d-tbl 2*d):=by grind
  lia)
 rw[f3] at le2;refine⟨⟨u1,u2,rfl,by rw[<- f1];exact c.fl.at_ 0 u1 rfl,by rw[<- f2];exact c.fl.at_ 1 u2 rfl⟩,?_⟩;have one:∀{w:Addr},H' w=some (.tup [.int 1,.int 1])->fR K H' (.ref w) (.tuple [.int 1,.int 1]):=fun h=>.tup (cA.of h) (.cons (.int _) (.cons (.int _) .nil));exact .lst (aR.of c.mR.hl) (.cons (.tup (cA.of le1) (.cons (jJ le2) (.cons (.lst (aR.of le3) (.cons (.tup (cA.of ha1) (.cons (.int _) (.cons (one hw1) .nil))) (.cons (.tup (cA.of ha2) (.cons (.int _) (.cons (one hw2) .nil))) .nil))) .nil))) .nil)
theorem Gb (x:Int):PyData.eqv (.tuple [.list [.tuple [.int x,.int 1]],.list [],.list [.list [.tuple [.int 1,.tuple [.int 1,.int 1]]]]]) (.tuple [.list [.tuple [.int x,.int 1]],.list [],.list [.list [.tuple [.int 1,.tuple [.int 1,.int 1]]]]])=true:=by
 simp[PyData.eqv,PyData.eqvAll]
theorem Gd (a b c e:Int):PyData.eqv (.list [.tuple [.int a,.int b],.tuple [.int c,.int e]]) (.list [.tuple [.int a,.int b],.tuple [.int c,.int e]])=true:=by
 simp[PyData.eqv,PyData.eqvAll]
theorem Ls (a b:Int):PyData.eqv (.list [.tuple [.tuple [.int a,.int b],.list [.tuple [.int 1,.tuple [.int 1,.int 1]],.tuple [.int 2,.tuple [.int 1,.int 1]]]]]) (.list [.tuple [.tuple [.int a,.int b],.list [.tuple [.int 1,.tuple [.int 1,.int 1]],.tuple [.int 2,.tuple [.int 1,.int 1]]]]])=true:=by
 simp[PyData.eqv,PyData.eqvAll]
def An (K:qAc):Sp:=fun vs H Q _=>∃(a:Addr) (ns:List Int),vs=[.ref a]/\aR K H a (ns.map V.int)/\ns.length<=63/\∀H',Q (.bl true) H'
theorem pT:aT ["_law_script","_law_number_here","_law_found","_law_table","_law_handed","_law_more"] ["_law_script"] (aI JM):=by constructor<;>first|rfl|decide +kernel
theorem Lu {f1 f2 f3 f4 f5:Addr}{fd1 fd2 fd3 fd4 fd5:qBo} (t:Tx K mg "law" JM ["_law_script"] f fd) (T:T K mg AL LN FR iF fCh fGM fCC fCA fPL SE NN NG NT NR) (D_law_cell:Df P w K mg base b0 1 "_law_cell" ["_law_script","_law_k"] (Ho K) f1 fd1) (D_law_number:Df P w K mg base b0 1 "_law_number" ["_law_cell_here"] Hq f2 fd2) (D_calm:Df P w K mg base (j0 P w) 8 "calm" ["table"] (Ee K NT) f3 fd3) (D_law_calm:Df P w K mg base b0 5 "_law_calm" ["_law_found","_law_table","_law_many"] (Hn K) f4 fd4) (D_law_half:Df P w K mg base b0 1 "_law_half" ["_law_number_here"] Hr f5 fd5) :
  Df P w K mg base b0 10 "law" ["_law_script"] (An K) f fd:=by
 refine t.gY pT (fun vs H Q E h=>?_) (fun cdv _A outer s H vs Q E hr h=>?_)
 ·obtain⟨a,ns,rfl,_⟩:=h;rfl
 ·obtain⟨a,ns,rfl,hq,hns,k⟩:=h;refine⟨_,(aD (bR (aV g6 (aS iO (aX D_law_cell hr (by decide) (by rfl) (aA (pv 0) (aA aE aB))) aE) aE (aW _)) (aD (aU (i:=1) pT.nd rfl bT (aX D_law_number hr (by decide) (by rfl) (aA (aX D_law_cell hr (by decide) (by rfl) (aA (pv 0) (aA aE aB))) aB)))
    (aD (aU (i:=2) pT.nd rfl bT (fW cK D_calm hr (by decide) (by rfl) (aA (bH (aA aE (aA (pv 1) aB))) aB)))
    (aD (bR (bX (bU (aX D_law_calm hr (by decide) (by rfl) (aA (pv 2) (aA (bH (aA aE (aA (pv 1) aB))) (aA aE aB)))))) (aG (aQ eV)) a8)
    (aG (aQ (eB (y4 hr.units) (pv 2) (cE (aA (bH (aA (cE (aA (pv 1) (aA aE aB))) aB)) (aA (bH aB) (aA (bH (aA (bH (aA (cE (aA aE (aA (cE (aA aE (aA aE aB))) aB))) aB)) aB)) aB)))) (aW _))))))) a8)
   (aD (aU (i:=3) pT.nd rfl bT (aS fA (bH (aA aE aB)) (bQ (NB:=["_law_k","_law_script"]) (pick:=[none,some 0]) (bJ (by with_unfolding_all rfl) (by exact(And.intro rfl trivial)) rfl (by decide +kernel) (by decide +kernel) (by rfl) (by rfl)) rfl
     (cB (by rfl) T.cD (aA aE aB)) (fun _ _ _=>aL (i:=0) (show(["_law_k","_law_script"]:List Str).Nodup from by decide +kernel) rfl bT)
     (fun _ _ _=>bK) (fun _ _ _=>(aX D_law_number hr (by decide) (by rfl) (aA (aX D_law_cell hr (by decide) (by rfl) (aA (pv 1) (aA (aS i7 aE (pv 0)) aB))) aB))))))
   (aD (aU (i:=4) pT.nd rfl bT (gE rZ (by rfl) T.cV dA (aA (pv 3) aB)))
   (aD (aU (i:=2) pT.nd rfl bT (fW cK D_calm hr (by decide) (by rfl) (aA (pv 4) aB)))
   (aD (bR (PW.pt (pw_or (aV (Cb hr.units) (pv 4) (pv 3) (aW _)) (pw_or1 (bX (bU (aX D_law_calm hr (by decide) (by rfl) (aA (pv 2) (aA (pv 3) (aA aE aB))))))))) (aG (aQ eV)) a8)
   (aD (aU (i:=5) pT.nd rfl bT (aS eX (aS eX (aP bC (pv 3) aE (fun _ _=>rfl)) (aP bC (pv 3) aE (fun _ _=>rfl))) (aP bC (pv 3) aE (fun _ _=>rfl))))
   (aD (bR (aV (y3 hr.units) (aP a9 (pv 2) aE (fun _ _=>rfl)) (bH (aA (aX D_law_half hr (by decide) (by rfl) (aA (aS i7 (aS rR aE (aP bC (pv 3) aE (fun _ _=>rfl))) (pv 5)) aB)) (aA (aX D_law_half hr (by decide) (by rfl) (aA (aS i7 (aS rR aE (aP bC (pv 3) aE (fun _ _=>rfl))) (pv 5)) aB)) aB))) (aW _)) (aG (aQ eV)) a8)
   (aG (aQ (eB (y4 hr.units) (aP a9 (pv 2) aE (fun _ _=>rfl)) (bH (aA (cE (aA (aX D_law_half hr (by decide) (by rfl) (aA (aS eX aE (pv 5)) aB)) (aA (bH (aA (cE (aA aE (aA (cE (aA aE (aA aE aB))) aB))) (aA (cE (aA aE (aA (cE (aA aE (aA aE aB))) aB))) aB))) aB))) aB)) (aW _))))))))))),?_⟩
  refine⟨_,rfl,a,ns,0,rfl,hq,fun c0=>⟨_,_,rfl,rfl,(by show(0:Int)<5;decide),rfl,_,rfl,cY (fun _=>?_) (fun _=>?_)⟩⟩
  ·refine⟨_,rfl,a,ns,1,rfl,hq,fun c1=>⟨c1,rfl,fun x sx=>?_⟩⟩;dsimp only[aY];refine⟨_,rfl,iY,fun l1 hl1=>?_⟩;have u1:=aH.aF (o:=.lst [.int 0,.int x]) hl1;have e1:upd H l1 (.lst [.int 0,.int x]) l1=some (.lst (bG 2 fun j=>if j=1 then x else 0)):=aC;generalize upd H l1 (.lst [.int 0,.int x])=H1 at u1 e1|-;have stx:∀j,Sm 80000 (if j=1 then x else 0):=fun j=>by
    split
    ·exact sx.mono (by decide)
    ·exact Sm.zero
   dsimp only[iC,qCl,qCm];refine Ej (m:=1) (n:=2) (tb:=fun j=>if j=1 then x else 0) (by decide) (by decide) rfl rfl stx e1 fun R lp lv lk H2 ps es kes Z d ev ks ds tl s2 c=>?_;dsimp only[aY];refine⟨_,rfl,_,rfl,iY,fun l3 hl3=>?_⟩;have u3:=aH.aF (o:=.lst [.int 0,.int x]) hl3;have e3:upd H2 l3 (.lst [.int 0,.int x]) l3=some (.lst (bG 2 fun j=>if j=1 then x else 0)):=aC;generalize upd H2 l3 (.lst [.int 0,.int x])=H3 at u3 e3|-;dsimp only[iC,qCl,qCm];refine⟨R,l3,1,2,fun j=>if j=1 then x else 0,_,lp,lv,lk,ps,es,kes,Z,d,ev,ks,ds,tl,rfl,e3,rfl,by decide,by decide,stx,c.same u3,fun H4 s4=>⟨_,rfl,cL ?_⟩⟩;have c4:=(c.same u3).same s4;refine⟨_,rfl,_,rfl,iY,fun l5 hl5=>?_⟩;have u5:=aH.aF (o:=.tup [.int x,.int 1]) hl5;have e5:upd H4 l5 (.tup [.int x,.int 1]) l5=_:=aC;generalize upd H4 l5 (.tup [.int x,.int 1])=H5 at u5 e5|-;refine⟨jX,fun l6 hl6=>?_⟩;have u6:=aH.aF (o:=.lst [.ref l5]) hl6;have e6:upd H5 l6 (.lst [.ref l5]) l6=_:=aC;generalize upd H5 l6 (.lst [.ref l5])=H6 at u6 e6|-;refine⟨by show 0<=qAh;decide,fun l7 hl7=>?_⟩;have u7:=aH.aF (o:=.lst []) hl7;have e7:upd H6 l7 (.lst []) l7=_:=aC;generalize upd H6 l7 (.lst [])=H7 at u7 e7|-;refine⟨iY,fun l8 hl8=>?_⟩;have u8:=aH.aF (o:=.tup [.int 1,.int 1]) hl8;have e8:upd H7 l8 (.tup [.int 1,.int 1]) l8=_:=aC;generalize upd H7 l8 (.tup [.int 1,.int 1])=H8 at u8 e8|-;refine⟨iY,fun l9 hl9=>?_⟩;have u9:=aH.aF (o:=.tup [.int 1,.ref l8]) hl9;have e9:upd H8 l9 (.tup [.int 1,.ref l8]) l9=_:=aC;generalize upd H8 l9 (.tup [.int 1,.ref l8])=H9 at u9 e9|-;refine⟨jX,fun l10 hl10=>?_⟩;have u10:=aH.aF (o:=.lst [.ref l9]) hl10;have e10:upd H9 l10 (.lst [.ref l9]) l10=_:=aC;generalize upd H9 l10 (.lst [.ref l9])=H10 at u10 e10|-;refine⟨jX,fun l11 hl11=>?_⟩;have u11:=aH.aF (o:=.lst [.ref l10]) hl11;have e11:upd H10 l11 (.lst [.ref l10]) l11=_:=aC;generalize upd H10 l11 (.lst [.ref l10])=H11 at u11 e11|-;refine⟨LH,fun l12 hl12=>?_⟩;have u12:=aH.aF (o:=.tup [.ref l6,.ref l7,.ref l11]) hl12;have e12:upd H11 l12 (.tup [.ref l6,.ref l7,.ref l11]) l12=_:=aC;generalize upd H11 l12 (.tup [.ref l6,.ref l7,.ref l11])=H12 at u12 e12|-;have c12:=c4.same (u5.trans (u6.trans (u7.trans (u8.trans (u9.trans (u10.trans (u11.trans u12)))))));refine⟨_,_,Ga c12,.tup (cA.of e12) (.cons (.lst (aR.of (u12 _ _ (u11 _ _ (u10 _ _ (u9 _ _ (u8 _ _ (u7 _ _ e6))))))) (.cons (.tup (cA.of (u12 _ _ (u11 _ _ (u10 _ _ (u9 _ _ (u8 _ _ (u7 _ _ (u6 _ _ e5)))))))) (.cons (.int _) (.cons (.int _) .nil))) .nil)) (.cons (.lst (aR.of (u12 _ _ (u11 _ _ (u10 _ _ (u9 _ _ (u8 _ _ e7)))))) .nil) (.cons (.lst (aR.of (u12 _ _ e11)) (.cons (.lst (aR.of (u12 _ _ (u11 _ _ e10))) (.cons (.tup (cA.of (u12 _ _ (u11 _ _ (u10 _ _ e9)))) (.cons (.int _) (.cons (.tup (cA.of (u12 _ _ (u11 _ _ (u10 _ _ (u9 _ _ e8))))) (.cons (.int _) (.cons (.int _) .nil))) .nil))) .nil)) .nil)) .nil))),by simp[PyData.depth,PyData.depthAll],by simp[PyData.depth,PyData.depthAll],?_⟩;have z:∀b,b=true->Q (.bl b) H12:=fun b e=>by rw[e];exact k _
   exact z _ (Gb x)
  ·refine⟨jX,fun l0 hl0=>?_⟩;have u0:=aH.aF (o:=.lst [.int 0]) hl0;have e0:upd H l0 (.lst [.int 0]) l0=_:=aC;generalize upd H l0 (.lst [.int 0])=H0 at u0 e0|-;have hq0:=u0.seq hq;refine⟨3,rfl,by decide,by decide,?_⟩;refine qN (n:=3) (fun i ys H'=>∃vs:List Int,ys=vs.map V.int/\vs.length=i/\∀v,v∈vs->Sm 64 v) (fun i ys H1 H2 st h=>h) ⟨[],rfl,rfl,fun v hv=>by cases hv⟩ (by rw[qCa];decide) (fun i H1 kk kk0 ys s1 hi iv g1 g2=>?_) fun l1 ys H1 hl1 s1 iv hd1=>?_
   ·obtain⟨vs,rfl,vl,sv⟩:=iv;refine⟨_,rfl,_,rfl,_,_,rfl,rfl,a,ns,1+i,?_,s1.seq hq0,fun c=>⟨c,rfl,fun v hv=>g1 _ _ (.refl _) ⟨vs++[v],by rw[qAr];rfl,by rw[qAm,vl];rfl,fun y hy=>?_⟩⟩⟩
    ·show [V.ref a,V.int (1+(0+(i:Int)))]=_;rw[show(1+(0+(i:Int)))=((1+i:Nat):Int) by lia]
    ·rcases List.mem_append.mp hy with z | z
     ·exact sv y z
     ·rw[List.mem_singleton.mp z];exact hv
   obtain⟨vs,rfl,vl,sv⟩:=iv;obtain⟨v1,v2,v3,rfl⟩:∃v1 v2 v3,vs=[v1,v2,v3]:=by
    match vs,vl with
    | [a,b,c],_=>exact⟨a,b,c,rfl⟩
   have sv1:=sv v1 (by simp);have sv2:=sv v2 (by simp);have sv3:=sv v3 (by simp);refine⟨l0,l1,_,_,rfl,rfl,aR.of (s1 _ _ e0),aR.of hd1,by show 1+3<=qAh;decide,fun l2 hl2=>?_⟩;obtain⟨tbl,etb⟩:∃tbl:Nat->Int,tbl=fun j=>if j=1 then v1 else if j=2 then v2 else if j=3 then v3 else 0:=⟨_,rfl⟩;have els:[V.int 0,.int v1,.int v2,.int v3]=bG 4 tbl:=by rw[etb];rfl
   have t1:tbl 1=v1:=by rw[etb];rfl
   have t2:tbl 2=v2:=by rw[etb];rfl
   have t3:tbl 3=v3:=by rw[etb];rfl
   have t0:tbl 0=0:=by rw[etb];rfl
   have stb:∀j,Sm 80000 (tbl j):=fun j=>by
    rw[etb];dsimp only;split
    ·exact sv1.mono (by decide)
    ·split
     ·exact sv2.mono (by decide)
     ·split
      ·exact sv3.mono (by decide)
      ·exact Sm.zero
   have u2:=aH.aF (o:=.lst [V.int 0,.int v1,.int v2,.int v3]) hl2;have e2:upd H1 l2 (.lst [V.int 0,.int v1,.int v2,.int v3]) l2=some (.lst (bG 4 tbl)):=by rw[aC,els]
   show aY _ _ _ (upd H1 l2 (.lst [V.int 0,.int v1,.int v2,.int v3])) _;generalize upd H1 l2 (.lst [V.int 0,.int v1,.int v2,.int v3])=H2 at u2 e2|-;dsimp only[aY];refine⟨_,rfl,l2,_,rfl,.inl (aR.of e2),fun l3 hl3=>?_⟩;have u3:=aH.aF (o:=.lst (bG 4 tbl)) hl3;have e3:upd H2 l3 (.lst (bG 4 tbl)) l3=_:=aC;generalize upd H2 l3 (.lst (bG 4 tbl))=H3 at u3 e3|-;dsimp only[aY];refine⟨_,rfl,?_⟩;dsimp only[iC,qCl,qCm];refine Ej (m:=2) (n:=4) (tb:=tbl) (by decide) (by decide) rfl t0 stb e3 fun R lp lv lk H4 ps es kes Z d ev ks ds tl s4 c=>?_;dsimp only[aY];have h2:=s4 _ _ (u3 _ _ e2);refine⟨_,rfl,_,rfl,l3,l2,(qAn 4).map tbl,(qAn 4).map tbl,rfl,rfl,aR.of (by rw[<- gB];exact s4 _ _ e3),aR.of (by rw[<- gB];exact h2),_,rfl,?_⟩;rw[decide_eq_true (rfl:(qAn 4).map tbl=_)];refine cL ⟨_,rfl,_,rfl,R,l2,2,4,tbl,_,lp,lv,lk,ps,es,kes,Z,d,ev,ks,ds,tl,rfl,h2,rfl,by decide,by decide,stb,c,fun H5 s5=>⟨_,rfl,cL ?_⟩⟩;have c5:=c.same s5;have h5:=s5 _ _ h2;have at1:fK (bG 4 tbl) 1=some (.int (tbl 1)):=bS (j:=1) (by decide);have at2:fK (bG 4 tbl) 2=some (.int (tbl 2)):=bS (j:=2) (by decide);have at3:fK (bG 4 tbl) 3=some (.int (tbl 3)):=bS (j:=3) (by decide);refine⟨_,rfl,l2,_,_,_,rfl,rfl,aR.of h5,at3,_,rfl,l2,_,_,_,rfl,rfl,aR.of h5,at1,_,_,rfl,rfl,_,rfl,l2,_,_,_,rfl,rfl,aR.of h5,at2,_,_,rfl,rfl,?_⟩;dsimp only[aY];have a0:fK [V.ref lp,V.ref lv,V.ref lk] 0=some (.ref lp):=rfl;have a1:fK [V.ref lp,V.ref lv,V.ref lk] 1=some (.ref lv):=rfl;refine⟨_,rfl,R,_,_,_,rfl,rfl,cA.of c5.tup,a0,?_⟩;have cm:∀v:Int,BC 2 v:=fun v=>.inl ⟨by decide,by decide⟩;obtain⟨⟨w1,w2,eps,hw1,hw2⟩,dlv⟩:=Am (K:=K) c5;refine⟨_,rfl,l2,_,_,_,rfl,rfl,aR.of h5,at1,_,_,rfl,rfl,cm _,_,rfl,_,_,rfl,rfl,_,rfl,fun p1 H6 s6 hp1=>?_⟩;have h6:=s6 _ _ h5;refine⟨_,rfl,l2,_,_,_,rfl,rfl,aR.of h6,at2,_,_,rfl,rfl,cm _,_,rfl,_,_,rfl,rfl,_,rfl,fun p2 H7 s7 hp2=>?_⟩;refine⟨iY,fun l8 hl8=>?_⟩;have u8:=aH.aF (o:=.lst [.ref p1,.ref p2]) hl8;have e8:upd H7 l8 (.lst [.ref p1,.ref p2]) l8=_:=aC;generalize upd H7 l8 (.lst [.ref p1,.ref p2])=H8 at u8 e8|-;have s58:=s6.trans (s7.trans u8);have c8:=c5.same s58;have flr:=c8.fl.hr;rw[eps] at flr;refine⟨_,_,.lst (aR.of flr) (.cons (jJ (s58 _ _ hw1)) (.cons (jJ (s58 _ _ hw2)) .nil)),.lst (aR.of e8) (.cons (jJ (u8 _ _ (s7 _ _ hp1))) (.cons (jJ (u8 _ _ hp2)) .nil)),by simp[PyData.depth,PyData.depthAll],by simp[PyData.depth,PyData.depthAll],_,rfl,?_⟩;have z1:∀b,b=true->(!b)=false:=fun b e=>by rw[e];rfl
   rw[z1 _ (Gd _ _ _ _)];refine cL ?_;refine⟨_,rfl,R,_,_,_,rfl,rfl,cA.of c8.tup,a1,_,rfl,_,_,rfl,rfl,_,rfl,fun p3 H9 s9 hp3=>?_⟩;refine⟨iY,fun l10 hl10=>?_⟩;have u10:=aH.aF (o:=.tup [.int 1,.int 1]) hl10;have e10:upd H9 l10 (.tup [.int 1,.int 1]) l10=_:=aC;generalize upd H9 l10 (.tup [.int 1,.int 1])=H10 at u10 e10|-;refine⟨iY,fun l11 hl11=>?_⟩;have u11:=aH.aF (o:=.tup [.int 1,.ref l10]) hl11;have e11:upd H10 l11 (.tup [.int 1,.ref l10]) l11=_:=aC;generalize upd H10 l11 (.tup [.int 1,.ref l10])=H11 at u11 e11|-;refine⟨iY,fun l12 hl12=>?_⟩;have u12:=aH.aF (o:=.tup [.int 1,.int 1]) hl12;have e12:upd H11 l12 (.tup [.int 1,.int 1]) l12=_:=aC;generalize upd H11 l12 (.tup [.int 1,.int 1])=H12 at u12 e12|-;refine⟨iY,fun l13 hl13=>?_⟩;have u13:=aH.aF (o:=.tup [.int 2,.ref l12]) hl13;have e13:upd H12 l13 (.tup [.int 2,.ref l12]) l13=_:=aC;generalize upd H12 l13 (.tup [.int 2,.ref l12])=H13 at u13 e13|-;refine⟨iY,fun l14 hl14=>?_⟩;have u14:=aH.aF (o:=.lst [.ref l11,.ref l13]) hl14;have e14:upd H13 l14 (.lst [.ref l11,.ref l13]) l14=_:=aC;generalize upd H13 l14 (.lst [.ref l11,.ref l13])=H14 at u14 e14|-;refine⟨iY,fun l15 hl15=>?_⟩;have u15:=aH.aF (o:=.tup [.ref p3,.ref l14]) hl15;have e15:upd H14 l15 (.tup [.ref p3,.ref l14]) l15=_:=aC;generalize upd H14 l15 (.tup [.ref p3,.ref l14])=H15 at u15 e15|-;refine⟨jX,fun l16 hl16=>?_⟩;have u16:=aH.aF (o:=.lst [.ref l15]) hl16;have e16:upd H15 l16 (.lst [.ref l15]) l16=_:=aC;generalize upd H15 l16 (.lst [.ref l15])=H16 at u16 e16|-;have s916:=u10.trans (u11.trans (u12.trans (u13.trans (u14.trans (u15.trans u16)))));have c16:=c8.same (s9.trans s916);obtain⟨_,dlv'⟩:=Am (K:=K) c16;have e14':=u16 _ _ (u15 _ _ e14);have s1316:=u14.trans (u15.trans u16);have e13':=s1316 _ _ e13;have e12':=s1316 _ _ (u13 _ _ e12);have e11':=s1316 _ _ (u13 _ _ (u12 _ _ e11));have e10':=s1316 _ _ (u13 _ _ (u12 _ _ (u11 _ _ e10)));have one:∀{w:Addr},H16 w=some (.tup [.int 1,.int 1])->fR K H16 (.ref w) (.tuple [.int 1,.int 1]):=fun h=>.tup (cA.of h) (.cons (.int _) (.cons (.int _) .nil));refine⟨_,_,dlv',.lst (aR.of e16) (.cons (.tup (cA.of (u16 _ _ e15)) (.cons (jJ (s916 _ _ hp3)) (.cons (.lst (aR.of e14') (.cons (.tup (cA.of e11') (.cons (.int _) (.cons (one e10') .nil))) (.cons (.tup (cA.of e13') (.cons (.int _) (.cons (one e12') .nil))) .nil))) .nil))) .nil),by simp[PyData.depth,PyData.depthAll],by simp[PyData.depth,PyData.depthAll],?_⟩;have z:∀b,b=true->Q (.bl b) H16:=fun b e=>by rw[e];exact k _
   exact z _ (Ls _ _)
end
end K44
namespace PySem.W.Fast
def tw1899097058472224634:Unit:=()
def tw14997081080361678811:Unit:=()
def tw7817598436074688180:Unit:=()
def tw11464438492189757043:Unit:=()
def tw1723417610065259169:Unit:=()
def tw6139549893083968978:Unit:=()
def tw2138835075906219474:Unit:=()
def tw508087468366787273:Unit:=()
def tw2153998421124393219:Unit:=()
def tw4461595911957334374:Unit:=()
def tw10310902503044190292:Unit:=()
def tw14201739907151624346:Unit:=()
def tw15005022853677686592:Unit:=()
def tw7559378402473450305:Unit:=()
def tw11760184119635446802:Unit:=()
def tw3279018086528391459:Unit:=()
def tw3167196283260442809:Unit:=()
def tw1064500211508989066:Unit:=()
def tw8372677167000560868:Unit:=()
def tw11455514389179392146:Unit:=()
def tw18337340474055836580:Unit:=()
def tw10352827867281383375:Unit:=()
def tw17716056404834602766:Unit:=()
def tw16715701844758071398:Unit:=()
def tw13001510300527191674:Unit:=()
def tw16050203846914206662:Unit:=()
def tw7223013126150187725:Unit:=()
def tw10178754729381052786:Unit:=()
def tw18234014677193782760:Unit:=()
def tw5508614933979916390:Unit:=()
def tw1614305488059981689:Unit:=()
def tw1104526011413585844:Unit:=()
def tw12933380311597130832:Unit:=()
def tw11998472470089338762:Unit:=()
def tw8613287336310674536:Unit:=()
def tw12238301702737986570:Unit:=()
def tw4173050514457927796:Unit:=()
def tw5503270497264377555:Unit:=()
def tw9217564672819389864:Unit:=()
def tw572059362247956196:Unit:=()
def tw4636695505861473799:Unit:=()
def tw16449748068611374138:Unit:=()
def tw15689207973590118072:Unit:=()
def tw10922334323286211303:Unit:=()
def tw11868179482888058574:Unit:=()
def tw8431637166096249107:Unit:=()
def tw3138580724511225759:Unit:=()
def tw13794795286036053494:Unit:=()
def tw4758600956004385119:Unit:=()
def tw9355297524683866659:Unit:=()
def tw17385320721190015668:Unit:=()
def tw2033835155375756445:Unit:=()
def tw16572845581967679538:Unit:=()
def tw12544706580250059651:Unit:=()
def tw3588400984759590743:Unit:=()
def tw15033517522441958971:Unit:=()
def tw9884618409860299877:Unit:=()
def tw3856813069620520426:Unit:=()
def tw4232585294312873359:Unit:=()
def tw10768439728701258544:Unit:=()
def tw3129897571578779795:Unit:=()
def tw14689006206399352123:Unit:=()
def tw8350462198188658916:Unit:=()
def tw12329135706893709580:Unit:=()
def tw12695426297764613766:Unit:=()
def tw12770999872113558249:Unit:=()
def tw6306264229280258475:Unit:=()
def tw12885874921028042915:Unit:=()
def tw10709022286298335148:Unit:=()
def tw7214481821730542753:Unit:=()
def tw17319847231869213580:Unit:=()
def tw9409392982028182164:Unit:=()
def tw15014630839839997299:Unit:=()
def tw14962489188228192771:Unit:=()
def tw2486186632525928453:Unit:=()
def tw4563234310720590588:Unit:=()
def tw7232640323613313167:Unit:=()
def tw3692217730907092138:Unit:=()
def tw8312402938517220563:Unit:=()
def tw5386690825138857242:Unit:=()
def tw10815087233981462445:Unit:=()
def tw8838478516907683454:Unit:=()
def tw6300351957591347787:Unit:=()
def tw17461416774886447728:Unit:=()
def tw201183101120464197:Unit:=()
def tw2418556593756388920:Unit:=()
def tw1648984677859179136:Unit:=()
def tw2455136633785450007:Unit:=()
def tw17154049787157358184:Unit:=()
def tw1401080891688426741:Unit:=()
def tw2520777288958398352:Unit:=()
def tw5124639587158302887:Unit:=()
def tw282159728990096478:Unit:=()
def tw7836523176821161941:Unit:=()
def tw2926253290090262094:Unit:=()
def tw9601904941805065729:Unit:=()
def tw13896990843994674210:Unit:=()
def tw10112041053543368012:Unit:=()
def tw18182439805930367527:Unit:=()
def tw3778514991607955365:Unit:=()
def tw6656787038131373271:Unit:=()
def tw1761020419417879052:Unit:=()
def tw6740808021079762354:Unit:=()
def tw3413975221159065647:Unit:=()
def tw13559026208740994194:Unit:=()
def tw2978380845878254605:Unit:=()
def tw14543055144341446058:Unit:=()
def tw485201176269903032:Unit:=()
def tw3120773470529165843:Unit:=()
def tw4711413008245602137:Unit:=()
def tw4531031037542399832:Unit:=()
def tw17929950665037412823:Unit:=()
def tw14594873996585383858:Unit:=()
def tw9972984868092356146:Unit:=()
def tw4652434418247009536:Unit:=()
def tw4511292930312475762:Unit:=()
def tw4391686796529835442:Unit:=()
def tw15435274224436875559:Unit:=()
def tw12107759026361096806:Unit:=()
def tw14258321540469721557:Unit:=()
def tw15779009689301223811:Unit:=()
def tw5317571676993019350:Unit:=()
def tw9438993379733070739:Unit:=()
def tw14342644544914462073:Unit:=()
def tw3335415989201647611:Unit:=()
def tw12921711018570232789:Unit:=()
def tw2868788597299991505:Unit:=()
def tw12368439055120876465:Unit:=()
def tw4816335145649361917:Unit:=()
def tw8380277323817655519:Unit:=()
def tw2483512490508038885:Unit:=()
def tw11437190407138057870:Unit:=()
def tw7531863112205678411:Unit:=()
def tw5568425735826421556:Unit:=()
def tw11707962549043382900:Unit:=()
def tw1703397145527178897:Unit:=()
def tw4861573238077815179:Unit:=()
def tw9674430736302660214:Unit:=()
def tw16236848739686054842:Unit:=()
def tw9121212432143433703:Unit:=()
def tw6191498711446326839:Unit:=()
def tw13835030633811325348:Unit:=()
def tw17931724784709747589:Unit:=()
def tw8019381682163664267:Unit:=()
def tw2357805544101820672:Unit:=()
def tw7275796594554276300:Unit:=()
def tw99659865323454279:Unit:=()
def tw725409765667808011:Unit:=()
def tw6678422947239836999:Unit:=()
def tw8316273134493859486:Unit:=()
def tw3516439413272904589:Unit:=()
def tw17425380866047407497:Unit:=()
def tw7628345698690493394:Unit:=()
def tw18109552282636760189:Unit:=()
def tw8598652513493724200:Unit:=()
def tw15209076549229384012:Unit:=()
def tw3053223548125770834:Unit:=()
def tw11654451893259340228:Unit:=()
def tw7972544701719730264:Unit:=()
def tw647072452655509274:Unit:=()
def tw6622435492440829483:Unit:=()
def tw4665807592225197237:Unit:=()
def tw13770723472624150235:Unit:=()
def tw2619924906906739047:Unit:=()
def tw1134535404696196786:Unit:=()
def tw18121579143273972154:Unit:=()
def tw17555319664575309822:Unit:=()
def tw9106951834952609392:Unit:=()
def tw18080270978782183731:Unit:=()
def tw403646075812757794:Unit:=()
def tw18381843921296788364:Unit:=()
def tw15563883123585428209:Unit:=()
def tw9438012580848927117:Unit:=()
def tw6438251247159079460:Unit:=()
def tw8473359700131159846:Unit:=()
def tw8746724389844433234:Unit:=()
def tw1530351271826366652:Unit:=()
def tw16762776044287719628:Unit:=()
def tw17680975961269317006:Unit:=()
def tw13869529836186118594:Unit:=()
def tw9299319473920217794:Unit:=()
def tw13464214510644204175:Unit:=()
def tw7058970754531808191:Unit:=()
def tw12228948648131447904:Unit:=()
def tw3732208820243353983:Unit:=()
def tw7835093726523122316:Unit:=()
def tw4707641921314124620:Unit:=()
def tw4843880368430791114:Unit:=()
def tw14453212341935283651:Unit:=()
def tw11770673159832276746:Unit:=()
def tw5953159401604232580:Unit:=()
def tw15060645322544369404:Unit:=()
def tw7363436285094115165:Unit:=()
def tw15413464700345783761:Unit:=()
def tw4744558323405697789:Unit:=()
def tw13646240354822607780:Unit:=()
def tw3802901008308443360:Unit:=()
def tw12847112785165958363:Unit:=()
def tw740838364065762472:Unit:=()
def tw425246679237627492:Unit:=()
def tw14592343230289717030:Unit:=()
def tw13641458707678413628:Unit:=()
def tw12477919215994819159:Unit:=()
def tw12009263624971666571:Unit:=()
def tw7138169690065840721:Unit:=()
def tw8139441294225536194:Unit:=()
def tw4655276287198823582:Unit:=()
def tw4993211564354746834:Unit:=()
def tw6658315374460967650:Unit:=()
def tw1498944848701327372:Unit:=()
def tw81528619163074165:Unit:=()
def tw9231306536332207513:Unit:=()
def tw6614158554802665675:Unit:=()
def tw16872945099420237619:Unit:=()
def tw12528582416988144280:Unit:=()
def tw3347884257426138998:Unit:=()
def tw10040236629283841327:Unit:=()
def tw1826960947692947711:Unit:=()
def tw7524374614872356679:Unit:=()
def tw13182234288903528343:Unit:=()
def tw6454532495066036454:Unit:=()
def tw4649747571836897425:Unit:=()
def tw12347117449266755708:Unit:=()
def tw10753847185378106186:Unit:=()
def tw2113759802014556789:Unit:=()
def tw1062513638145144794:Unit:=()
def tw5806666347698014304:Unit:=()
def tw15600358023980824258:Unit:=()
def tw16298146320254377926:Unit:=()
def tw3697219693770850192:Unit:=()
def tw2425296982239470287:Unit:=()
def tw10238740718305048393:Unit:=()
def tw2019993609356569170:Unit:=()
def tw15297912461473049049:Unit:=()
def tw10352489761735306632:Unit:=()
def tw113612827493536901:Unit:=()
def tw1653235601615973091:Unit:=()
def tw4386967882154983828:Unit:=()
def tw16718663238939490346:Unit:=()
def tw15505548920923905556:Unit:=()
def tw13956905437897448322:Unit:=()
def tw7551219280726063155:Unit:=()
def tw13381212137985351725:Unit:=()
def tw14515454880743729927:Unit:=()
def tw14483945588808135794:Unit:=()
def tw5426486175616644778:Unit:=()
def tw17024732058996784366:Unit:=()
def tw15688571116388068433:Unit:=()
def tw8832999490165558502:Unit:=()
def tw17104840134395352815:Unit:=()
def tw16670230652615999031:Unit:=()
def tw17919760869313307494:Unit:=()
def tw17874120358022758:Unit:=()
def tw3790756469620368369:Unit:=()
def tw4451536368387170247:Unit:=()
def tw10175507061202503913:Unit:=()
def tw4412932802320635980:Unit:=()
def tw14392314979098336628:Unit:=()
def tw12743719129804390716:Unit:=()
def tw13998995505333058239:Unit:=()
def tw4048148376789595886:Unit:=()
def tw3201611889693030493:Unit:=()
def tw17179045375072565427:Unit:=()
def tw1636845146631993031:Unit:=()
def tw9116076716108519271:Unit:=()
def tw9575544999685531983:Unit:=()
def tw13223835241572458950:Unit:=()
def tw4254259693579573089:Unit:=()
def tw7483833640910849679:Unit:=()
def tw14706287465098838016:Unit:=()
def tw534262661474036357:Unit:=()
def tw1600676824527988779:Unit:=()
def tw6186222727587294572:Unit:=()
def tw7953840743817063811:Unit:=()
def tw9308702968941080819:Unit:=()
def tw145753977840569028:Unit:=()
def tw1530534023154859803:Unit:=()
end PySem.W.Fast
set_option maxHeartbeats 8000000
namespace K44
open PySem L2
theorem OW {K:qAc}{mg:Str->Option qAf}{h:Heap}{AL LN FR iF fCh fGM fCC fCA fPL SE NN NG NT NR:Addr}  {n_AL:Nat}{osl_AL:Array (Option qAf)}{t_AL0 t_AL1 t_AL2 t_AL3 t_AL4 t_AL5:Tok}  {n_LN:Nat}{osl_LN:Array (Option qAf)}{t_LN0 t_LN1 t_LN2 t_LN3 t_LN4 t_LN5 t_LN6:Tok}  {tk_mp:Tok}{tk_mc:Tok}    {oc_FI kV_FI doc_FI pm_FI cdv_FI ct_FI:qAf}{od_FI an_FI:Option Addr}{osl_FI:Array (Option qAf)}{oc_Cho kV_Cho doc_Cho pm_Cho cdv_Cho ct_Cho:qAf}{od_Cho an_Cho:Option Addr}{osl_Cho:Array (Option qAf)}{oc_GMo kV_GMo doc_GMo pm_GMo cdv_GMo ct_GMo:qAf}{od_GMo an_GMo:Option Addr}{osl_GMo:Array (Option qAf)}{oc_CTC kV_CTC doc_CTC pm_CTC cdv_CTC ct_CTC:qAf}{od_CTC an_CTC:Option Addr}{osl_CTC:Array (Option qAf)}{oc_CAh kV_CAh doc_CAh pm_CAh cdv_CAh ct_CAh:qAf}{od_CAh an_CAh:Option Addr}{osl_CAh:Array (Option qAf)}{oc_PTL kV_PTL doc_PTL pm_PTL cdv_PTL ct_PTL:qAf}{od_PTL an_PTL:Option Addr}{osl_PTL:Array (Option qAf)} (X:K.In h) (G:h.Ns qBh mg)
  (dY:qBw K qBh "isinstance"=some none)
  (oW:qBw K qBh "int"=some none)
  (mO:qBw K qBh "bool"=some none)
  (cD:qBw K qBh "range"=some none)
  (bW:qBw K qBh "len"=some none)
  (cV:qBw K qBh "list"=some none)
  (iV:qBw K qBh "sum"=some none)
  (oX:qBw K qBh "all"=some none)
  (vG:qBw K qBh "any"=some none)
  (gA:qBw K qBh "tuple"=some none)
  (gO:qBw K qBh "zip"=some none)
  (oY:qBw K qBh "abs"=some none)
  (kL:qBw K qBh "enumerate"=some none)
  (zK:qBw K qBh "max"=some none)
  (zL:qBw K qBh "str"=some none)
  (iK:qBw K qBh "sorted"=some none)
  (rA:qBw K qBh "set"=some none)
  (gQ:qBw K qBh "reversed"=some none)
  (El:qBw K qBh "ALONE"=some (some (.ref AL)))
  (lkAL:K.lookup AL=some ⟨.type "tuple",none,.seq #[.int 1 t_AL0,.int 2 t_AL1,.int 4 t_AL2,.int 8 t_AL3,.int 16 t_AL4,.int 32 t_AL5] n_AL,osl_AL⟩)
  (LC:qBw K qBh "LENGTHS"=some (some (.ref LN)))
  (lkLN:K.lookup LN=some ⟨.type "tuple",none,.seq #[.int 1 t_LN0,.int 2 t_LN1,.int 4 t_LN2,.int 8 t_LN3,.int 16 t_LN4,.int 32 t_LN5,.int 64 t_LN6] n_LN,osl_LN⟩)
  (mp:qBw K qBh "MOST_PLACES"=some (some (.int 8 tk_mp)))
  (mc:qBw K qBh "MOST_COLUMNS"=some (some (.int 70 tk_mc)))
  (MG:qBw K qBh "Frame"=some (some (.ref FR)))
  (pgFR:qGe K FR Str.empty=true)
  (hdFR:qHe K FR=true)
  (poFR:qIu K FR=true)
  (saFR:qBe K (.ref FR) "__setattr__"=some (some (.builtin "object.__setattr__")))
  (caFR:qBe K (.ref FR) "__class__"=some (some (.builtin "object.__class__")))
  (moFR:qDy K FR (.type "object")=some true)
  (nmFR:qBe K (.ref FR) "many"=some none)
  (nbFR:qBe K (.ref FR) "bottom"=some none)
  (nrFR:qBe K (.ref FR) "rows"=some none)
  (ncFR:qBe K (.ref FR) "chosen"=some none)
  (f1FR:qBe K (.ref FR) "choose"=some (some (.ref fCh)))
  (f2FR:qBe K (.ref FR) "gains_more"=some (some (.ref fGM)))
  (f3FR:qBe K (.ref FR) "column_to_choose"=some (some (.ref fCC)))
  (f4FR:qBe K (.ref FR) "comes_ahead"=some (some (.ref fCA)))
  (f5FR:qBe K (.ref FR) "place_to_leave"=some (some (.ref fPL)))
  (mkFR:qJn K FR=true)
  (fiFR:qBe K (.ref FR) "__init__"=some (some (.ref iF)))
  (kkFR:qCv K (.ref FR)=true)
  (lFI:K.lookup iF=some ⟨oc_FI,od_FI,.func (qDn "__init__" "Frame.__init__" (dR LB) (cQ LB) (aI LB) .none kV_FI doc_FI pm_FI an_FI cdv_FI ct_FI),osl_FI⟩)
  (cdFI:qDz K cdv_FI "Frame.__init__"=true)
  (kpFI:qCv K (.ref iF)=true)
  (fnFI:qEx K (.ref iF)=true)
  (lCho:K.lookup fCh=some ⟨oc_Cho,od_Cho,.func (qDn "choose" "Frame.choose" (dR Bi) (cQ Bi) (aI Bi) .none kV_Cho doc_Cho pm_Cho an_Cho cdv_Cho ct_Cho),osl_Cho⟩)
  (cdCho:qDz K cdv_Cho "Frame.choose"=true)
  (kpCho:qCv K (.ref fCh)=true)
  (fnCho:qEx K (.ref fCh)=true)
  (lGMo:K.lookup fGM=some ⟨oc_GMo,od_GMo,.func (qDn "gains_more" "Frame.gains_more" (dR Bj) (cQ Bj) (aI Bj) .none kV_GMo doc_GMo pm_GMo an_GMo cdv_GMo ct_GMo),osl_GMo⟩)
  (cdGMo:qDz K cdv_GMo "Frame.gains_more"=true)
  (kpGMo:qCv K (.ref fGM)=true)
  (fnGMo:qEx K (.ref fGM)=true)
  (lCTC:K.lookup fCC=some ⟨oc_CTC,od_CTC,.func (qDn "column_to_choose" "Frame.column_to_choose" (dR Bk) (cQ Bk) (aI Bk) .none kV_CTC doc_CTC pm_CTC an_CTC cdv_CTC ct_CTC),osl_CTC⟩)
  (cdCTC:qDz K cdv_CTC "Frame.column_to_choose"=true)
  (kpCTC:qCv K (.ref fCC)=true)
  (fnCTC:qEx K (.ref fCC)=true)
  (lCAh:K.lookup fCA=some ⟨oc_CAh,od_CAh,.func (qDn "comes_ahead" "Frame.comes_ahead" (dR Bl) (cQ Bl) (aI Bl) .none kV_CAh doc_CAh pm_CAh an_CAh cdv_CAh ct_CAh),osl_CAh⟩)
  (cdCAh:qDz K cdv_CAh "Frame.comes_ahead"=true)
  (kpCAh:qCv K (.ref fCA)=true)
  (fnCAh:qEx K (.ref fCA)=true)
  (lPTL:K.lookup fPL=some ⟨oc_PTL,od_PTL,.func (qDn "place_to_leave" "Frame.place_to_leave" (dR Bm) (cQ Bm) (aI Bm) .none kV_PTL doc_PTL pm_PTL an_PTL cdv_PTL ct_PTL),osl_PTL⟩)
  (cdPTL:qDz K cdv_PTL "Frame.place_to_leave"=true)
  (kpPTL:qCv K (.ref fPL)=true)
  (fnPTL:qEx K (.ref fPL)=true)
  (NJ:qBw K qBh "ShareError"=some (some (.ref SE)))
  (LD:qBw K qBh "NoNumber"=some (some (.ref NN)))
  (MH:qBw K qBh "NoGroup"=some (some (.ref NG)))
  (MI:qBw K qBh "NoTable"=some (some (.ref NT)))
  (Gu:qBw K qBh "NoRows"=some (some (.ref NR)))
  (c6:qEy K (.builtin "object.__class__") "__get__"=some (some (.builtin "getset_descriptor.__get__")))
  (c7:qFp K (.builtin "object.__class__")=some true)
  (SE2:qIc K (.ref SE)=some (.type "type"))
  (SE3:qBe K (.ref SE) "__getattribute__"=some (some (.builtin "BaseException.__getattribute__")))
  (SE4:qBe K (.ref SE) "__getattr__"=some none)
  (SE5:qBe K (.ref SE) "__class__"=some (some (.builtin "object.__class__")))
  (SE8:qDy K SE (.type "object")=some true)
  (SE9:qDy K SE (.type "BaseException")=some true)
  (LF:qEf K NN EH "ValueError.__new__"=true)
  (Gv:qEf K NR EH "ValueError.__new__"=true)
  (MJ:qEf K NG EH "ValueError.__new__"=true)
  (MK:qEf K NT EH "ValueError.__new__"=true) :
  ∃AL LN FR iF fCh fGM fCC fCA fPL SE NN NG NT NR,T K mg AL LN FR iF fCh fGM fCC fCA fPL SE NN NG NT NR :=
 ⟨AL,LN,FR,iF,fCh,fGM,fCC,fCA,fPL,SE,NN,NG,NT,NR,qBv X G dY,qBv X G oW,qBv X G mO,qBv X G cD,qBv X G bW,qBv X G cV,qBv X G iV,qBv X G oX,qBv X G vG,qBv X G gA,qBv X G gO,qBv X G oY,qBv X G kL,qBv X G zK,qBv X G zL,qBv X G iK,qBv X G rA,qBv X G gQ,qEe X G El,fun _=>.inr ⟨_,_,_,lkAL,rfl,rfl,by show 6<=qAh;decide,.cons ⟨_,rfl⟩ (.cons ⟨_,rfl⟩ (.cons ⟨_,rfl⟩ (.cons ⟨_,rfl⟩ (.cons ⟨_,rfl⟩ (.cons ⟨_,rfl⟩ .nil)))))⟩,qEe X G LC,fun _=>.inr ⟨_,_,_,lkLN,rfl,rfl,by show 7<=qAh;decide,.cons ⟨_,rfl⟩ (.cons ⟨_,rfl⟩ (.cons ⟨_,rfl⟩ (.cons ⟨_,rfl⟩ (.cons ⟨_,rfl⟩ (.cons ⟨_,rfl⟩ (.cons ⟨_,rfl⟩ .nil))))))⟩,⟨_,lkLN,rfl,rfl⟩,⟨tk_mp,qEe X G mp⟩,⟨tk_mc,qEe X G mc⟩,qEe X G MG,⟨⟨⟨pgFR,hdFR,poFR,saFR⟩,caFR,c6,c7,moFR⟩,nmFR,nbFR,nrFR,ncFR,⟨f1FR,fnCho,kpCho⟩,⟨f2FR,fnGMo,kpGMo⟩,⟨f3FR,fnCTC,kpCTC⟩,⟨f4FR,fnCAh,kpCAh⟩,⟨f5FR,fnPTL,kpPTL⟩⟩,⟨mkFR,fiFR,fnFI,kkFR⟩,qI lFI cdFI kpFI (fun _ _ _ _ _ _ us hl=>match us,hl with | [_,_,_],_=>rfl),qI lCho cdCho kpCho (fun _ _ _ _ _ _ us hl=>match us,hl with | [_,_,_],_=>rfl),qI lGMo cdGMo kpGMo (fun _ _ _ _ _ _ us hl=>match us,hl with | [_,_,_],_=>rfl),qI lCTC cdCTC kpCTC (fun _ _ _ _ _ _ us hl=>match us,hl with | [_,_],_=>rfl),qI lCAh cdCAh kpCAh (fun _ _ _ _ _ _ us hl=>match us,hl with | [_,_,_,_],_=>rfl),qI lPTL cdPTL kpPTL (fun _ _ _ _ _ _ us hl=>match us,hl with | [_,_],_=>rfl),qEe X G NJ,qEe X G LD,qEe X G MH,qEe X G MI,qEe X G Gu,Ii SE2 SE3 SE4 SE5 c6 c7 SE8 SE9,LF,Gv,MJ,MK⟩
theorem walk {l:qMu}{q:qBm}{loose:List Str}{XP:(Str->Option qAf)->Heap->Prop}{YP:qCy->Heap->Prop}{d:DefRec}{K:Params->qAc} (hn:l.most=some 63) (hdf:d.params.defaults=[])
  (hY:∀(w:qCy) (h:Heap),YP w h->(K w.params).In h)
  (F:∀(w:qCy) (mg:Str->Option qAf) (fa:Addr) (h:Heap),(K w.params).In h->h.Ns qBh mg->mg d.name=some (.ref fa) ->
   ∃fd:qBo,(∀(s:qAi) (u:qAf),qNi s fd ⟨[u],[]⟩ [("_law_script",u)])/\∀base:Heap,(K w.params).In base->base.Ns qBh mg->i9 l.prog w (K w.params) mg base b0 10 fa fd ["_law_script"] (An (K w.params))) :
  qNp q loose XP YP l.row.toRowW d [] (fun f vs=>PySem.call f vs) :=
 L2.EF (n:=63) (k:=10) (x:="_law_script") (CX:=fun _=>b0) (sp:=fun w=>An (K w.params)) hn (by decide) hdf ⟨rfl,by decide,by decide⟩ hY F (fun _ _ a ns hl _ hS=>⟨a,ns,rfl,hS,hl,fun _=>rfl⟩) fun _ _ _ _ _ z=>z
theorem Lv {P:qBm}{w:qCy}{K:qAc}{mg:Str->Option qAf}{fa:Addr} (hfa:mg "law"=some (.ref fa)) (hT:∃AL LN FR iF fCh fGM fCC fCA fPL SE NN NG NT NR,T K mg AL LN FR iF fCh fGM fCC fCA fPL SE NN NG NT NR)
  (t_sNum:∃f fd,Tx K mg "is_number" IQ ["thing"] f fd)
  (t_sGcd:∃f fd,Tx K mg "greatest_divisor" IS ["one","other"] f fd)
  (t_sFr:∃f fd,Tx K mg "fraction" OB ["top","bottom"] f fd)
  (t_sAreN:∃f fd,Tx K mg "are_numbers" CU ["thing","least","most"] f fd)
  (t_sCkR:∃f fd,Tx K mg "check_rows" IT ["columns","due","gains"] f fd)
  (t_sSgn:∃f fd,Tx K mg "sign_of" IU ["number"] f fd)
  (t_sFRw:∃f fd,Tx K mg "first_row" IV ["columns","due","place"] f fd)
  (t_sClr:∃f fd,Tx K mg "cleared" IW ["row","lead","column","bottom"] f fd)
  (t_sClb:∃f fd,Tx K mg "climb" IX ["frame","gains"] f fd)
  (t_sSpP:∃f fd,Tx K mg "spare_places" IY ["frame"] f fd)
  (t_sLvS:∃f fd,Tx K mg "leave_spares" IZ ["frame"] f fd)
  (t_sWtO:∃f fd,Tx K mg "weights_of" Ja ["frame"] f fd)
  (t_sPrO:∃f fd,Tx K mg "prices_of" Jb ["frame","gains","due"] f fd)
  (t_sWyO:∃f fd,Tx K mg "way_of" Jc ["frame","growing"] f fd)
  (t_sWgh:∃f fd,Tx K mg "weigh" Jd ["columns","due","gains"] f fd)
  (t_sWith:∃f fd,Tx K mg "is_number_within" CV ["thing","least","most"] f fd)
  (t_sPlu:∃f fd,Tx K mg "plus" Je ["one","other"] f fd)
  (t_sMin:∃f fd,Tx K mg "minus" Jf ["one","other"] f fd)
  (t_sCBt:∃f fd,Tx K mg "common_bottom" Jg ["fractions"] f fd)
  (t_sTpO:∃f fd,Tx K mg "tops_over" Jh ["bottom","fractions"] f fd)
  (t_sWC:∃f fd,Tx K mg "whole_company" OC ["many"] f fd)
  (t_sChk:∃f fd,Tx K mg "check_group" Ji ["group","many"] f fd)
  (t_sHnd:∃f fd,Tx K mg "hands_of" Jj ["group"] f fd)
  (t_sMrk:∃f fd,Tx K mg "marks_of" Jk ["group","many"] f fd)
  (t_sIsT:∃f fd,Tx K mg "is_table" Jl ["thing"] f fd)
  (t_sHin:∃f fd,Tx K mg "hands_in" Jm ["table"] f fd)
  (t_sBel:∃f fd,Tx K mg "below_nought" Jn ["column"] f fd)
  (t_sRst:∃f fd,Tx K mg "rest_of" Jo ["row","rows"] f fd)
  (t_sUnt:∃f fd,Tx K mg "untold" Jp ["groups","kept","many"] f fd)
  (t_sSif:∃f fd,Tx K mg "sifted" Jq ["groups","many"] f fd)
  (t_sLLa:∃f fd,Tx K mg "least_lack" Jr ["table","many","kept","free"] f fd)
  (t_sCaS:∃f fd,Tx K mg "calm_shares" Js ["table","many"] f fd)
  (t_sWgO:∃f fd,Tx K mg "weighing_of" Jt ["groups","many"] f fd)
  (t_sLac:∃f fd,Tx K mg "lacks_of" Ju ["table","tops","bottom"] f fd)
  (t_sLvl:∃f fd,Tx K mg "levels_of" Jv ["table","many","shares"] f fd)
  (t_sKey:∃f fd,Tx K mg "key_of" Jw ["hand","groups","many"] f fd)
  (t_sCal:∃f fd,Tx K mg "calm" Jx ["table"] f fd)
  (t_sCel:∃f fd,Tx K mg "_law_cell" Jy ["_law_script","_law_k"] f fd)
  (t_sWho:∃f fd,Tx K mg "_law_whole" Jz ["_law_found"] f fd)
  (t_sDiv:∃f fd,Tx K mg "_law_divisor" JA ["_law_one","_law_other"] f fd)
  (t_sLFr:∃f fd,Tx K mg "_law_fraction" JB ["_law_found"] f fd)
  (t_sLFs:∃f fd,Tx K mg "_law_fractions" JC ["_law_found","_law_many"] f fd)
  (t_sLow:∃f fd,Tx K mg "_law_low" JD ["_law_numbers"] f fd)
  (t_sTop:∃f fd,Tx K mg "_law_tops" JE ["_law_numbers","_law_low_here"] f fd)
  (t_sNmb:∃f fd,Tx K mg "_law_number" JF ["_law_cell_here"] f fd)
  (t_sShr:∃f fd,Tx K mg "_law_share" JG ["_law_tops_here","_law_group"] f fd)
  (t_sWgi:∃f fd,Tx K mg "_law_weighing" JH ["_law_found","_law_many","_law_groups"] f fd)
  (t_sLKy:∃f fd,Tx K mg "_law_keys" JI ["_law_found","_law_many","_law_groups"] f fd)
  (t_sLLv:∃f fd,Tx K mg "_law_levels" JJ ["_law_found","_law_lacks","_law_low_here","_law_many"] f fd)
  (t_sLCa:∃f fd,Tx K mg "_law_calm" JK ["_law_found","_law_table","_law_many"] f fd)
  (t_sHlf:∃f fd,Tx K mg "_law_half" JL ["_law_number_here"] f fd)
  (t_sLaw:∃f fd,Tx K mg "law" JM ["_law_script"] f fd)
  : ∃fd:qBo,(∀(s:qAi) (u:qAf),qNi s fd ⟨[u],[]⟩ [("_law_script",u)])/\∀base:Heap,K.In base->base.Ns qBh mg->i9 P w K mg base b0 10 fa fd ["_law_script"] (An K):=by
 obtain⟨AL,LN,FR,iF,fCh,fGM,fCC,fCA,fPL,SE,NN,NG,NT,NR,T⟩:=hT;obtain⟨f_sNum,fd_sNum,t_sNum⟩:=t_sNum;obtain⟨f_sGcd,fd_sGcd,t_sGcd⟩:=t_sGcd;obtain⟨f_sFr,fd_sFr,t_sFr⟩:=t_sFr;obtain⟨f_sAreN,fd_sAreN,t_sAreN⟩:=t_sAreN;obtain⟨f_sCkR,fd_sCkR,t_sCkR⟩:=t_sCkR;obtain⟨f_sSgn,fd_sSgn,t_sSgn⟩:=t_sSgn;obtain⟨f_sFRw,fd_sFRw,t_sFRw⟩:=t_sFRw;obtain⟨f_sClr,fd_sClr,t_sClr⟩:=t_sClr;obtain⟨f_sClb,fd_sClb,t_sClb⟩:=t_sClb;obtain⟨f_sSpP,fd_sSpP,t_sSpP⟩:=t_sSpP;obtain⟨f_sLvS,fd_sLvS,t_sLvS⟩:=t_sLvS;obtain⟨f_sWtO,fd_sWtO,t_sWtO⟩:=t_sWtO;obtain⟨f_sPrO,fd_sPrO,t_sPrO⟩:=t_sPrO;obtain⟨f_sWyO,fd_sWyO,t_sWyO⟩:=t_sWyO;obtain⟨f_sWgh,fd_sWgh,t_sWgh⟩:=t_sWgh;obtain⟨f_sWith,fd_sWith,t_sWith⟩:=t_sWith;obtain⟨f_sPlu,fd_sPlu,t_sPlu⟩:=t_sPlu;obtain⟨f_sMin,fd_sMin,t_sMin⟩:=t_sMin;obtain⟨f_sCBt,fd_sCBt,t_sCBt⟩:=t_sCBt;obtain⟨f_sTpO,fd_sTpO,t_sTpO⟩:=t_sTpO;obtain⟨f_sWC,fd_sWC,t_sWC⟩:=t_sWC;obtain⟨f_sChk,fd_sChk,t_sChk⟩:=t_sChk;obtain⟨f_sHnd,fd_sHnd,t_sHnd⟩:=t_sHnd;obtain⟨f_sMrk,fd_sMrk,t_sMrk⟩:=t_sMrk;obtain⟨f_sIsT,fd_sIsT,t_sIsT⟩:=t_sIsT;obtain⟨f_sHin,fd_sHin,t_sHin⟩:=t_sHin;obtain⟨f_sBel,fd_sBel,t_sBel⟩:=t_sBel;obtain⟨f_sRst,fd_sRst,t_sRst⟩:=t_sRst;obtain⟨f_sUnt,fd_sUnt,t_sUnt⟩:=t_sUnt;obtain⟨f_sSif,fd_sSif,t_sSif⟩:=t_sSif;obtain⟨f_sLLa,fd_sLLa,t_sLLa⟩:=t_sLLa;obtain⟨f_sCaS,fd_sCaS,t_sCaS⟩:=t_sCaS;obtain⟨f_sWgO,fd_sWgO,t_sWgO⟩:=t_sWgO;obtain⟨f_sLac,fd_sLac,t_sLac⟩:=t_sLac;obtain⟨f_sLvl,fd_sLvl,t_sLvl⟩:=t_sLvl;obtain⟨f_sKey,fd_sKey,t_sKey⟩:=t_sKey;obtain⟨f_sCal,fd_sCal,t_sCal⟩:=t_sCal;obtain⟨f_sCel,fd_sCel,t_sCel⟩:=t_sCel;obtain⟨f_sWho,fd_sWho,t_sWho⟩:=t_sWho;obtain⟨f_sDiv,fd_sDiv,t_sDiv⟩:=t_sDiv;obtain⟨f_sLFr,fd_sLFr,t_sLFr⟩:=t_sLFr;obtain⟨f_sLFs,fd_sLFs,t_sLFs⟩:=t_sLFs;obtain⟨f_sLow,fd_sLow,t_sLow⟩:=t_sLow;obtain⟨f_sTop,fd_sTop,t_sTop⟩:=t_sTop;obtain⟨f_sNmb,fd_sNmb,t_sNmb⟩:=t_sNmb;obtain⟨f_sShr,fd_sShr,t_sShr⟩:=t_sShr;obtain⟨f_sWgi,fd_sWgi,t_sWgi⟩:=t_sWgi;obtain⟨f_sLKy,fd_sLKy,t_sLKy⟩:=t_sLKy;obtain⟨f_sLLv,fd_sLLv,t_sLLv⟩:=t_sLLv;obtain⟨f_sLCa,fd_sLCa,t_sLCa⟩:=t_sLCa;obtain⟨f_sHlf,fd_sHlf,t_sHlf⟩:=t_sHlf;obtain⟨f_sLaw,fd_sLaw,t_sLaw⟩:=t_sLaw;have e:=hfa.symm.trans t_sLaw.at_;cases e;refine⟨fd_sLaw,fun s u=>.of_eq (t_sLaw.bd [u] rfl),fun base _ _=>?_⟩;obtain⟨m1,x1⟩:=T.PL;obtain⟨m2,x2⟩:=T.OD;obtain⟨m3,x3⟩:=T.OE;obtain⟨m4,x4⟩:=T.OF;obtain⟨m5,x5⟩:=T.OG;obtain⟨m6,x6⟩:=T.OH;have d0:=JO (P:=P) (w:=w) (base:=base) t_sNum T;have d1:=JP (P:=P) (w:=w) (base:=base) t_sGcd T;have d2:=MM t_sFr T d0 d1;have d3:=Fp t_sAreN T d0;have d4:=Kl t_sCkR T d3;have d5:=JS (mg:=mg) (P:=P) (w:=w) (base:=base) t_sSgn;have d6:=JT t_sFRw T d5;have d7:=JU (P:=P) (w:=w) (base:=base) t_sClr T;have eI:=MR x1 T d6;have eC:=JW x2 T d5 d7;have eG:=JX (P:=P) (w:=w) (base:=base) x3 T;have eT:=JY x4 T eG;have eA:=JZ (P:=P) (w:=w) (base:=base) x5 T;have eP:=Ka x6 T eA;have d8:=Kb t_sClb T eT eP eC;have d9:=Kc (P:=P) (w:=w) (base:=base) t_sSpP T;have d10:=Kf t_sLvS T d9 eC;have d11:=Kh t_sWtO T d2;have d12:=Kj t_sPrO T d2 d5;have d13:=Ki t_sWyO T d2;have dW:=Km t_sWgh T d4 eI d8 d9 d10 d11 d12 d13;have v0:=Ft (P:=P) (w:=w) (base:=base) t_sWith d0;have v1:=Ks t_sIsT T d0;have v2:=Kt t_sHin T v1;have v3:=Ku (P:=P) (w:=w) (base:=base) t_sMrk T;have v4:=MY (P:=P) (w:=w) (base:=base) t_sWC T;have v5:=Kq t_sChk T v0 v4;have v6:=Kr t_sHnd T v5;have v7:=Kx t_sPlu T d2;have v9:=Ky t_sMin T d2;have v10:=Kv t_sCBt T d1;have v11:=Kw (P:=P) (w:=w) (base:=base) t_sTpO T;have b1:=Kz (P:=P) (w:=w) (base:=base) t_sBel T;have b2:=KA (P:=P) (w:=w) (base:=base) t_sRst T;have b3:=KH t_sUnt T v3 b2;have b4:=KI t_sSif T b3;have b5:=KL t_sWgO T v3 dW v7;have b6:=KN t_sKey T v3 b1 dW v9;have b7:=KO t_sLac T v6;have b8:=KQ t_sLLa T v10 v3 v11 b1 dW d2;have b9:=KR t_sCaS T v4 b3 b8 v9;have b10:=KU t_sLvl T v10 v11 b7 v4 d2 b5 b4;have dC:=KZ t_sCal T v2 b9 b10 b6;have l1:=La (P:=P) (w:=w) (base:=base) t_sWho T;have l2:=Lb (P:=P) (w:=w) (base:=base) t_sDiv T;have l3:=Lc t_sLFr T l1 l2;have l4:=Ld t_sLFs T l3;have l5:=Le t_sLow T l2;have l6:=Lf (P:=P) (w:=w) (base:=base) t_sTop T;have c4:=Lh (P:=P) (w:=w) (base:=base) t_sShr T;have c5:=Li t_sWgi T l1 l3 l5 l6;have c6:=Lk t_sLKy T l1 l3 l5 l6;have c7:=Ln t_sLLv T l3 c5;have c8:=Lo t_sLCa T l4 l5 l6 c4 c7 c6;exact(Lu t_sLaw T (Lp (P:=P) (w:=w) (base:=base) t_sCel T) (Lq (P:=P) (w:=w) (base:=base) t_sNmb T) dC c8 (Lr (P:=P) (w:=w) (base:=base) t_sHlf T)).ok
end K44
open PySem PySem.W PyProof.Rows
theorem L2.uu1{α}{P:List α->Prop}(h:∀ a,P [a]):∀us,us.length=1->P us
|[a],_=>h a
theorem L2.uu2{α}{P:List α->Prop}(h:∀ a b,P [a,b]):∀us,us.length=2->P us
|[a,b],_=>h a b
theorem L2.uu3{α}{P:List α->Prop}(h:∀ a b c,P [a,b,c]):∀us,us.length=3->P us
|[a,b,c],_=>h a b c
theorem L2.uu4{α}{P:List α->Prop}(h:∀ a b c d,P [a,b,c,d]):∀us,us.length=4->P us
|[a,b,c,d],_=>h a b c d
set_option maxRecDepth 100000 in
set_option maxHeartbeats 0 in
theorem PySem.Challenge.cw_shareparley_k44_calm_of_two_holds : PySem.Challenge.rw_shareparley_k44_calm_of_two.Holds := by
 w_on;o_law;k_head;(case hw=>w_witness2)
 k_fill
 refine K44.walk (l:=PySem.Challenge.rw_shareparley_k44_calm_of_two) rfl rfl (fun w h Y=>PySem.W.kIn_of Y) ?F
 case F =>
  intro w mg fa h KX G hmg;refine K44.Lv hmg ?T ?t_sNum ?t_sGcd ?t_sFr ?t_sAreN ?t_sCkR ?t_sSgn ?t_sFRw ?t_sClr ?t_sClb ?t_sSpP ?t_sLvS ?t_sWtO ?t_sPrO ?t_sWyO ?t_sWgh ?t_sWith ?t_sPlu ?t_sMin ?t_sCBt ?t_sTpO ?t_sWC ?t_sChk ?t_sHnd ?t_sMrk ?t_sIsT ?t_sHin ?t_sBel ?t_sRst ?t_sUnt ?t_sSif ?t_sLLa ?t_sCaS ?t_sWgO ?t_sLac ?t_sLvl ?t_sKey ?t_sCal ?t_sCel ?t_sWho ?t_sDiv ?t_sLFr ?t_sLFs ?t_sLow ?t_sTop ?t_sNmb ?t_sShr ?t_sWgi ?t_sLKy ?t_sLLv ?t_sLCa ?t_sHlf ?t_sLaw
  case T=>
   refine' K44.OW KX G ?dY ?oW ?mO ?cD ?bW ?cV ?iV ?oX ?vG ?gA ?gO ?oY ?kL ?zK ?zL ?iK ?rA ?gQ ?El ?lkAL ?LC ?lkLN ?mp ?mc ?MG ?pgFR ?hdFR ?poFR ?saFR ?caFR ?moFR ?nmFR ?nbFR ?nrFR ?ncFR ?f1FR ?f2FR ?f3FR ?f4FR ?f5FR ?mkFR ?fiFR ?kkFR ?lFI ?cdFI ?kpFI ?fnFI ?lCho ?cdCho ?kpCho ?fnCho ?lGMo ?cdGMo ?kpGMo ?fnGMo ?lCTC ?cdCTC ?kpCTC ?fnCTC ?lCAh ?cdCAh ?kpCAh ?fnCAh ?lPTL ?cdPTL ?kpPTL ?fnPTL ?NJ ?LD ?MH ?MI ?Gu ?c6 ?c7 ?SE2 ?SE3 ?SE4 ?SE5 ?SE8 ?SE9 ?LF ?Gv ?MJ ?MK
   case dY|oW|mO|cD|bW|cV|iV|oX|vG|gA|gO|oY|kL|zK|zL|iK|rA|gQ|El|lkAL|LC|lkLN|mp|mc|MG|pgFR|hdFR|poFR|saFR|caFR|moFR|nmFR|nbFR|nrFR|ncFR|f1FR|f2FR|f3FR|f4FR|f5FR|mkFR|fiFR|kkFR|lFI|cdFI|kpFI|fnFI|lCho|cdCho|kpCho|fnCho|lGMo|cdGMo|kpGMo|fnGMo|lCTC|cdCTC|kpCTC|fnCTC|lCAh|cdCAh|kpCAh|fnCAh|lPTL|cdPTL|kpPTL|fnPTL|NJ|LD|MH|MI|Gu|c6|c7|SE2|SE3|SE4|SE5|SE8|SE9=>k_is
   case LF|Gv|MJ|MK=>k_exc
  case t_sNum|t_sSgn|t_sSpP|t_sLvS|t_sWtO|t_sCBt|t_sWC|t_sHnd|t_sIsT|t_sHin|t_sBel|t_sCal|t_sWho|t_sLFr|t_sLow|t_sNmb|t_sHlf|t_sLaw=>
   refine' L2.bP KX G ?a ?l ?c ?k (fun _ _ _ _ _ _=>L2.uu1 fun _=>rfl)
   case a|l|c|k=>k_is
  case t_sGcd|t_sFr|t_sClb|t_sWyO|t_sPlu|t_sMin|t_sTpO|t_sChk|t_sMrk|t_sRst|t_sSif|t_sCaS|t_sWgO|t_sCel|t_sDiv|t_sLFs|t_sTop|t_sShr=>
   refine' L2.bP KX G ?a ?l ?c ?k (fun _ _ _ _ _ _=>L2.uu2 fun _ _=>rfl)
   case a|l|c|k=>k_is
  case t_sAreN|t_sCkR|t_sFRw|t_sPrO|t_sWgh|t_sWith|t_sUnt|t_sLac|t_sLvl|t_sKey|t_sWgi|t_sLKy|t_sLCa=>
   refine' L2.bP KX G ?a ?l ?c ?k (fun _ _ _ _ _ _=>L2.uu3 fun _ _ _=>rfl)
   case a|l|c|k=>k_is
  case t_sClr|t_sLLa|t_sLLv=>
   refine' L2.bP KX G ?a ?l ?c ?k (fun _ _ _ _ _ _=>L2.uu4 fun _ _ _ _=>rfl)
   case a|l|c|k=>k_is
