import PyProof.Rows.All
import Wide.All
import OpenK.AllK
import Wide.FinOn
import Lean
import PyProof.EqAt
import PyProof.EqKinds
import PyProof.TupleCall
import PySem.Challenge.RW_shareparley_k46_calm_and_stable
import KE.IntBitsLaws
import OpenK.KEqL
import KE.LcSums
import KE.KTupSum
import PyProof.Rows.EqDataRows
import PyProof.EnumMake
import PyProof.Rows.Range3
import PyProof.Rows.SortShell
import PyProof.Rows.SortWalk
import PyProof.ListRange
import KE.KSortTup
import KE.KDictOf
import KE.KMinKey
import KE.KDictList
import PyProof.Rows.SetFrom
import PyProof.SetScanFacts
import KE.KRevIter
noncomputable section
open PySem renaming wpAny_bind->qAa,wpAny_pure->qAe,Value->qAf,Shared->qAh,sizeLine->qAj,wpAny->qBg,mainGlobals->qBh,FuncData->qBk,Program->qBl,starEach->qBt,model->qBz,sizeLine_eq->qCf,wpAny_newObj_type->qCh,bootBuiltins->qCo,Around->qCq,World->qCw,wpAny_holding->qDi,wpAny_truthy_bool->qDo,compareOp->qDt,wpAny_call_entry->qEa,wpAny_callSpecial?_slot->qEf,wpAny_typeNameOfWhole_keyiter->qEw,wpAny_passesOwn->qFf,codeAny_builtin->qFg,wpAny_setState_of->qFj,sysModules->qFk,foldedSetIterable->qFl,binaryOp->qFm,wpAny_setField->qFr,scanBound->qFs,wpAny_askSetting->qFu,SetTable->qFv,intKind->qFx,wpAny_typeNameOf_keyiter->qFy,codeAny_mono->qFz,wpAny_Call_Name_kw->qGc,wpAny_rule->qGj,wpAny_of_eq->qGk,backTo->qGu,PyData->qGv,wpAny_attempt->qHc,attributeBase->qHd,wpAny_mono->qHf,sliceBounds->qHh,codeAny->qHi,wpAny_typeOf->qHp,wpAny_pyIter_list->qHv,wpAny_standAt->qIg,plainId_quiet->qIh,getItem->qIi,Scope->qIj,NameKind->qIk,wpAny_execs_nil->qIt,relabel->qIu,pyNext->qIv,letOwnedTupleGo->qIw,wpAny_call->qJb,call_meets->qJc,assignEach->qJd,wpAny_fieldsOf->qJf,rawInt->qJg,firstArgMember->qJh,swapsWith->qJz,relayAll->qKa,pickOrder->qKb,comprehension->qKc,cellsFrom->qKd,behindInMarks->qKe,assign->qKf,IsPart->qKw,valueAt->qLl,tupleKind->qLm,subscripted->qLn,holding->qLo,callerA->qLp,cLine->qLq,typeLookup->qMn,setsByText->qMo,pyIter->qMp,closureFor->qMq,setNext->qNc,bindArgs->qNd,again->qNe,ElemsOf->qNf,BindsTo->qNg,inplaceOp->qNw,Model->qNx,spliced->qOk,newList->qOl,atKey->qOm,Keyword->qOn,compPost->qOu,bindName->qOv,Result->qOw,GenState->qOx,bindL->qPf,bindC->qPg,typeOf->qPu,newExc->qPv,isTrue->qPw
open List renaming length_map->qAb,getElem?_eq_getElem->qAd,range->qAl,length_append->qAo,getElem?_map->qAp,getD_eq_getElem?_getD->qAq,map_append->qAt,mem_append_right->qAu,size_toArray->qAv,length_range->qAw,getElem?_append_right->qAy,getElem?_append_left->qBb,mem_of_getElem?->qBe,length_singleton->qBf,replicate->qBj,range_succ->qBm,getElem?_eq_none->qBn,mem_append_left->qCc,filterMap_append->qCd,filterMap_cons->qCg,mem_cons_of_mem->qCi,length_cons->qCk,cons_append->qCl,nil_append->qCm,getElem_of_mem->qCy,getElem?_range->qCz,not_mem_nil->qDa,map_map->qDb,map_cons->qDf,mem_cons_self->qDh,append_nil->qDp,filterMap_eq_map'->qDu,replicate_succ->qDz,mem_cons->qEb,filter_cons->qEd,take_length->qEh,length_take->qEi,map_nil->qEl,length_filterMap_le->qEp,getElem_mem->qEs,take_of_length_le->qEt,find?_cons->qEx,take_add_one->qFb,flatten_cons->qFc,ext_getElem?->qFd,length_pos_of_mem->qGa,length_replicate->qGe,length_filter_le->qGf,filterMap_eq_map->qGg,dropLast_concat_getLast->qGl,sum_append->qGn,of_mem_zip->qGo,lookup->qGp,map_filterMap->qGz,filter_append->qHa,filterMap_map->qHb,getElem?_set->qHj,foldl_append->qHk,append_assoc->qHl,set->qHn,any_cons->qHo,length_drop->qHq,range_succ_eq_map->qHu,filter_nil->qHy,nodup_nil->qIo,mem_singleton->qIz,mem_map->qJl,lookup_cons->qJo,getElem_map->qJp,eq_nil_of_length_eq_zero->qJq,all_eq_true->qJr,zip_append->qKh,mem_filter->qKi,length_set->qKj,length_nil->qKk,length_eraseIdx_of_lt->qKp,length_erase_of_mem->qKy,getElem?_take_of_lt->qKz,sum_cons->qLd,getElem?_replicate->qLe,getElem?_set_self->qLj,getElem?_toArray->qLt,filterMap_filter->qLu,mem_of_mem_take->qMc,mem_erase_of_ne->qMd,getElem?_set_ne->qMe,map_congr_left->qMk,getElem_range->qMw,getElem?_drop->qMx,foldl->qNi,filter_congr->qNj,range'_succ->qNq,ext_getElem->qNr,drop_length->qNs,drop_zero->qOh,map_take->qOq,all_cons->qOr,sum_nil->qPb,map_set->qPc,all_map->qPd
open PySem.W renaming Frag->qAc,findIn->qBa,nsIn->qBu,mg_none_of->qBw,keepIn->qCs,fnOf->qDk,emptyDict->qDl,excIn->qDn,mroIn->qDw,mg_of->qDx,codeIn->qDy,instObj->qEe,isFn->qEu,specialIn->qEv,takesIn->qFn,Looks->qFo,plainGet->qGb,looks_findIn->qGd,callWith_K->qGm,kitOne->qGr,hasDictIn->qGw,typeIn->qHw,lookIn->qHx,plainGet_of->qHz,plainOver->qIq,methodObj->qIr,takerIn->qJi,makesIn->qJj,hideAll->qJk,clsIn->qKo,cellsFrom_some->qKt,looks_mroIn->qLh,hideAll_get->qLi,of_hideAll->qLr,kitx_list->qLw,kitx_dict->qLx,kdl_call->qMh,handedIn->qMi,OpenLaw->qMr,WalkO->qNm,KitX->qNz
open Nat renaming le_refl->qAg,lt_or_ge->qAk,le_of_lt->qAn,lt_of_lt_of_le->qAx,ne_of_lt->qBd,lt_of_le_of_lt->qBq,zero_le->qBr,pow_le_pow_right->qBx,le_antisymm->qCt,le_trans->qCx,lt_irrefl->qDg,eq_zero_or_pos->qEm,two_pow_pos->qEq,le_succ->qEz,not_lt_zero->qFw,ne_of_gt->qGh,lt_succ_self->qGi,lt_succ_of_lt->qHm,pow_succ->qIb,le_of_eq->qIc,gcd->qId,add_comm->qIe,one_mul->qIs,le_of_dvd->qJe,le_add_right->qJw,gcd_dvd_left->qJx,eq_of_mul_eq_mul_left->qKx,le_mul_of_pos_left->qLs,zero_div->qLz,sub_self->qMa,mul_comm->qMb,mul_le_mul_right->qMj,sub_lt_sub_left->qMu,add_mul->qMv,pos_of_ne_zero->qNh,mul_left_comm->qNn,mod_lt->qNo,gcd_dvd_right->qNp,succ_ne_self->qOa,mod_eq_of_lt->qOb,min_eq_right->qOc,div_eq_of_lt->qOd,min_eq_left->qOg,mul_le_mul->qOp,mul_assoc->qPa,succ_pos->qPi,sub_zero->qPj,lt_trans->qPk,le_total->qPl,gcd_comm->qPm,pow_add->qPo,mul_one->qPp
open PySem.Heap renaming get?_push_of_some->qAi,lt_size->qAr,get?_push_size->qAs,get?_update_self->qDc,size_push->qDe,get?_update_other->qDv,SameBut->qEy,get?_none_of_le->qIm,ExtBut->qKm,MadeExcOf->qOj
open Bool renaming false_ne_true->qAm,and_eq_true->qCa,false_and->qFh,false_eq_true->qFt,eq_iff_iff->qGq,and_false->qIp,true_and->qJa,not_eq_true->qJu,not_true->qOt
open Classical renaming byContradiction->qAz
open Int renaming zero_mul->qBc,toNat_natCast->qBi,gcd->qBo,mul_zero->qBv,le_of_lt->qBy,mul_le_mul_of_nonneg_right->qCe,one_mul->qCj,mul_fdiv_cancel_left->qCn,mul_le_mul_of_nonneg_left->qCp,mul_comm->qCr,mul_lt_mul_of_pos_right->qCu,le_refl->qCv,toNat_of_nonneg->qDd,zero_add->qDj,natAbs_mul->qDq,add_zero->qDr,mul_nonneg->qEc,lt_of_mul_lt_mul_right->qEj,le_of_dvd->qEn,emod_lt_of_pos->qEo,emod_nonneg->qEr,mul_one->qFa,fdiv_eq_ediv_of_nonneg->qFe,eq_of_mul_eq_mul_left->qFi,le_of_eq->qFq,gcd_pos_of_ne_zero_left->qGs,lt_or_le->qHe,mul_pos->qHr,eq_ofNat_of_zero_le->qHs,le_trans->qIf,gcd_dvd_right->qJm,nonneg_of_mul_nonneg_right->qJs,fdiv_one->qJt,gcd_dvd_left->qJy,gcd_pos_of_ne_zero_right->qKl,neg_mul_neg->qKq,mul_ne_zero->qKr,le_of_mul_le_mul_right->qKu,eq_of_mul_eq_mul_right->qKv,natAbs_neg->qLa,natAbs_fdiv_le_natAbs->qLb,lt_of_mul_lt_mul_left->qLc,mul_assoc->qLk,natAbs_dvd_natAbs->qMf,gcd_comm->qMg,sub_mul->qMy,mul_neg->qMz,mul_ediv_cancel->qNa,natAbs_natCast->qNk,lt_or_eq_of_le->qNl,natAbs_add_le->qNt,mul_left_comm->qNu,lt_trichotomy->qNv,gcd_mul_left->qOe,dvd_mul_left->qOf,natCast_add->qOi,mul_le_mul->qOs,fdiv_self->qPe,sub_zero->qPn,one_dvd->qPq,neg_mul->qPr,mul_add->qPs,gcd_one->qPt
open Array renaming getElem?_eq_getElem->qBp,length_toList->qBs,getElem?_toList->qDm,getElem?_eq_none->qDs,getElem?_extract->qLg,size_extract->qMl,append_assoc->qMm,toList_push->qNb
open PyProof.Rows renaming callWith_type1->qCb,slot_tuple_getitem->qEg,callWith_builtin1->qIa,firstMet->qJn,IntsAre->qPh
open PySem.Builtin renaming bitAnd->qEk
open PySem.F renaming plainAttrs_list->qFp,type_list_append->qGx,slot_list_append->qGy,plain_extend_loop->qJv,slot_dict_values->qKg
open PySem.Calls renaming spliced_cons->qGt,spliced_nil->qHg,Name_function_global->qKn,callWith_builtin->qLf,evalArgs_plain->qLv
open PyProof.Rows renaming IntsAre->qHt,firstMet->qIl,kindOf->qIn,envOfC->qIx,AllBare->qIy,step_dedup->qKs,Call_->qNy,seqObj->qOy
open Option renaming isSome_some->qLy,getD_some->qMs,getD_none->qMt,none->qOo,map->qOz
theorem bR {α:Sort _}{a:α}{b:Prop}:a=a\/b:=.inl rfl
set_option Elab.async false
set_option linter.all false
set_option maxRecDepth 100000
namespace L2
open PySem PySem.Spec PyProof.Rows
theorem j6:1<=qAj:=by decide
theorem lS:2<=qAj:=by decide
theorem Nw:3<=qAj:=by decide
abbrev Key:=Sum Int Str
def nX:Key->qAf->Bool
 | .inl k,v=>Value.isInt k v
 | .inr x,v=>Value.isStrOf x v
def NJ (w:qCw):Key->Int
 | .inl k=>hashInt k
 | .inr x=>hashStr w x
theorem cJ:∀{k:Key}{v:qAf},nX k v=true->(∃i t,k=Sum.inl i/\v=Value.int i t)\/(∃x t,k=Sum.inr x/\v=Value.str x t)
 | .inl i,v,h=>by
  obtain⟨t,e⟩:=Value.isInt_shape (k:=i) (v:=v) h;exact .inl ⟨i,t,rfl,e⟩
 | .inr x,v,h=>by
  obtain⟨t,e⟩:=Value.isStrOf_shape (x:=x) (v:=v) h;exact .inr ⟨x,t,rfl,e⟩
theorem z8 (i:Int) (t:Tok):nX (.inl i) (.int i t)=true:=by simp[nX,Value.isInt]
theorem z9 (x:Str) (t:Tok):nX (.inr x) (.str x t)=true:=by simp[nX,Value.isStrOf]
theorem He (a b:Int):decide ((Sum.inl a:Key)=Sum.inl b)=(a == b):=by
 by_cases e:a=b
 ·subst e;simp
 ·have h:¬(Sum.inl a:Key)=Sum.inl b:=fun q=>e (Sum.inl.inj q);rw[decide_eq_false h];exact(beq_eq_false_iff_ne.mpr e).symm
theorem Hf (a b:Str):decide ((Sum.inr a:Key)=Sum.inr b)=decide (a=b):=by
 by_cases e:a=b
 ·subst e;simp
 ·have h:¬(Sum.inr a:Key)=Sum.inr b:=fun q=>e (Sum.inr.inj q);rw[decide_eq_false h,decide_eq_false e]
theorem Hg (a:Int) (b:Str):decide ((Sum.inl a:Key)=Sum.inr b)=false:=decide_eq_false (fun q=>nomatch q)
theorem Hh (a:Str) (b:Int):decide ((Sum.inr a:Key)=Sum.inl b)=false:=decide_eq_false (fun q=>nomatch q)
def bW (prog:qBl) (w:qCw):PySem.KeyKind prog w Key where
 is:=nX
 hash:=NJ w
 inj:=fun v a b ha hb=>by
  rcases cJ ha with ⟨i,t,rfl,rfl⟩ | ⟨x,t,rfl,rfl⟩
  ·rcases cJ hb with ⟨j,u,rfl,e⟩ | ⟨y,u,rfl,e⟩
   ·injection e with e1 _;rw[e1]
   ·exact nomatch e
  ·rcases cJ hb with ⟨j,u,rfl,e⟩ | ⟨y,u,rfl,e⟩
   ·exact nomatch e
   ·injection e with e1 _;rw[e1]
 byValue:=fun k v h=>by
  rcases cJ h with ⟨i,t,rfl,rfl⟩ | ⟨x,t,rfl,rfl⟩ <;> rfl
 pyHash:=fun hv h=>by
  rcases cJ hv with ⟨i,t,rfl,rfl⟩ | ⟨x,t,rfl,rfl⟩
  ·exact wpAny_pyHash_int h
  ·exact wpAny_pyHash_str h
 eqBool:=fun hu hv h=>by
  rcases cJ hu with ⟨i,t,rfl,rfl⟩ | ⟨x,t,rfl,rfl⟩
  ·rcases cJ hv with ⟨j,u,rfl,rfl⟩ | ⟨y,u,rfl,rfl⟩
   ·rw[He] at h;exact wpAny_eqBool_int h
   ·rw[Hg] at h;exact SeqAt.EqAt.int_str i t y u _ _ _ _ h
  ·rcases cJ hv with ⟨j,u,rfl,rfl⟩ | ⟨y,u,rfl,rfl⟩
   ·rw[Hh] at h;exact SeqAt.EqAt.str_int x t j u _ _ _ _ h
   ·rw[Hf] at h;exact wpAny_eqBool_str h
 «strs»:=fun k x t v h=>by
  rcases cJ h with ⟨i,u,rfl,e⟩ | ⟨y,u,rfl,e⟩
  ·exact nomatch e
  ·injection e with e1 _
   subst e1;cases v <;> rfl
theorem tT (prog:qBl) (w:qCw) (i:Int) (t:Tok):(bW prog w).is (.inl i) (.int i t)=true:=z8 i t
theorem tU (prog:qBl) (w:qCw) (x:Str) (t:Tok):(bW prog w).is (.inr x) (.str x t)=true:=z9 x t
inductive V where
 | non | bl (b:Bool) | int (i:Int) | str (x:Str) | byt (b:Array UInt8) | flt (b:UInt64) | ref (a:Addr) | ty (n:String)
 deriving DecidableEq
def RelV:V->qAf->Prop
 | .non,u=>u=Value.none
 | .bl b,u=>u=Value.bool b
 | .int i,u=>∃t,u=Value.int i t
 | .str x,u=>∃t,u=Value.str x t
 | .byt b,u=>∃t,u=Value.bytes b t
 | .flt b,u=>∃t,u=Value.float b t
 | .ref a,u=>u=Value.ref a
 | .ty n,u=>u=Value.type n
abbrev Vals:List V->List qAf->Prop:=Paired RelV
theorem Vals.length {xs:List V}{us:List qAf} (r:Vals xs us):xs.length=us.length:=Paired.length r
theorem Vals.get:∀{xs:List V}{us:List qAf}{i:Nat}{x:V},Vals xs us->xs[i]?=some x->∃u,us[i]?=some u/\RelV x u
 | _,_,_,_,.nil,e=>by simp at e
 | _,_,0,_,.cons r _,e=>by simp at e;subst e;exact⟨_,rfl,r⟩
 | _,_,i+1,x,.cons _ t,e=>by
  obtain⟨u,h1,h2⟩:=Vals.get (i:=i) (x:=x) t (by simpa using e);exact⟨u,by simpa using h1,h2⟩
theorem Vals.set {x:V}{u:qAf} (r:RelV x u):∀{xs:List V}{us:List qAf} (i:Nat),Vals xs us->Vals (xs.set i x) (us.set i u)
 | _,_,_,.nil=>.nil
 | _,_,0,.cons _ t=>.cons r t
 | _,_,i+1,.cons q t=>.cons q (Vals.set r i t)
theorem Vals.append:∀{xs ys:List V}{us ws:List qAf},Vals xs us->Vals ys ws->Vals (xs++ys) (us++ws)
 | _,_,_,_,.nil,s=>s
 | _,_,_,_,.cons r t,s=>.cons r (Vals.append t s)
theorem Vals.take:∀{xs:List V}{us:List qAf} (n:Nat),Vals xs us->Vals (xs.take n) (us.take n)
 | _,_,0,_=>.nil
 | _,_,_+1,.nil=>.nil
 | _,_,n+1,.cons r t=>.cons r (Vals.take n t)
theorem Vals.drop:∀{xs:List V}{us:List qAf} (n:Nat),Vals xs us->Vals (xs.drop n) (us.drop n)
 | _,_,0,r=>r
 | _,_,_+1,.nil=>.nil
 | _,_,n+1,.cons _ t=>Vals.drop n t
def jP:Option V->Option qAf->Prop
 | some v,some u=>RelV v u
 | none,none=>True
 | _,_=>False
def KV {κ:Type}:List (κ×V)->List (κ×qAf)->Prop:=Paired fun(p:κ×V) (q:κ×qAf)=>p.1=q.1/\RelV p.2 q.2
def kV:Key->V
 | .inl i=>.int i
 | .inr x=>.str x
inductive HO where
 | lst (xs:List V)
 | tup (xs:List V)
 | dK (kvs:List (Key×V)) | dT (kvs:List (List Key×V))
 | set (S:Int->Bool) (n:Nat)
 | ins (C dx:Addr) (fs:List (Str×V))
 | own (x:Addr)
 | xd (fs:List (Str×V))
 | met (f x:Addr)
 | rng (lo hi:Int)
 | frz (o:Obj) (u:HO)
 | tbl (ps:Array qAf)
 | ext (φ:Heap->Prop)
abbrev Hp:=Addr->Option HO
def upd (H:Hp) (a:Addr) (o:HO):Hp:=fun b=>if b=a then some o else H b
theorem aC {H:Hp}{a:Addr}{o:HO}:upd H a o a=some o:=by unfold upd;rw[if_pos rfl]
theorem aM {H:Hp}{a b:Addr}{o:HO} (h:b≠a):upd H a o b=H b:=by unfold upd;rw[if_neg h]
theorem Ef {H:Hp}{a:Addr}{o u:HO}:upd (upd H a o) a u=upd H a u:=by
 funext b;unfold upd;split <;> rfl
theorem jU {H:Hp}{a b:Addr}{o u:HO} (h:H a=some o) (h':H b=some u) (d:o≠u):a≠b:=by
 intro e;subst e;rw[h] at h';exact d (Option.some.inj h')
theorem a9 {H:Hp}{a b:Addr}{o:HO} (h:H a=some o) (h':H b=none):a≠b:=by
 intro e;subst e;rw[h] at h';cases h'
section
variable (P:qBl) (w:qCw)
def cS (H:Hp) (h:Heap) (a:Addr):HO->Prop
 | .lst xs=>xs.length<=qAj/\∃(its:List qAf) (n:Nat),Vals xs its/\h.get? a=some { cls:=.type "list",data:=.seq its.toArray n }
 | .tup xs=>xs.length<=qAj/\∃its:List qAf,Vals xs its/\IsTup h a its.toArray
 | .dK kvs=>kvs.length<=qAj/\(a == qFk)=false/\∃vs,KV kvs vs/\h.DictOf (bW P w) a vs
 | .dT kvs=>kvs.length<=qAj/\(a == qFk)=false/\∃xs:List (List Key×Addr×qAf),
   Paired (fun(p:List Key×V) (q:List Key×Addr×qAf)=>p.1=q.1/\H q.2.1=some (.tup (p.1.map kV))/\RelV p.2 q.2.2) kvs xs /\
   ∃o es ep,h.get? a=some o/\o.ExactDict/\o.data = .dict es ep/\es.toList=xs.map (entryOfKey (qLm (bW P w)))/\(xs.map (·.1)).Nodup
 | .set S n=>h.SetOf (qFx P w) a S n
 | .ins C dx fs=>H dx=some (.own a)/\fs.length<=1000/\dx≠a/\h.get? a=some (qEe C dx) /\
   ∃mA,h.Ns1 dx mA/\(∀f,jP (fs.lookup f) (mA f))/\PySem.Within mA (fs.map (·.1))
 | .own _=>∃o,h.get? a=some o
 | .xd fs=>∃mA,h.Ns1 a mA/\∀f,jP (fs.lookup f) (mA f)
 | .rng lo hi=>∃t u v,h.get? a=some { cls:=.type "range",data:=.fields #[.int lo t,.int hi u,.int 1 v] }
 | .frz o u=>h.get? a=some o/\cS H h a u
 | .tbl ps=>h.get? a=some { cls:=.none,data:=.fields ps }
 | .met f x=>h.get? a=some (qIr (.ref f) (.ref x))
 | .ext φ=>φ h/\(∃o,h.get? a=some o)/\∀h1 h2:Heap,φ h1->(∀o,h1.get? a=some o->h2.get? a=some o)->φ h2
def jV (H:Hp) (h:Heap):Prop:=∀a o,H a=some o->cS P w H h a o
end
section
variable {P:qBl}{w:qCw}{H H':Hp}{h h':Heap}{a:Addr}{o:HO}
theorem cS.lt (x:cS P w H h a o):a<h.objs.size:=by
 cases o with
 | lst xs=>obtain⟨_,_,_,_,e⟩:=x;exact qAr e
 | tup xs=>obtain⟨_,_,_,p⟩:=x;exact p.lt
 | dK kvs=>obtain⟨_,_,_,_,o,_,_,e,_⟩:=x;exact qAr e
 | dT kvs=>obtain⟨_,_,_,_,o,_,_,e,_⟩:=x;exact qAr e
 | set S n=>obtain⟨o,_,_,_,e,_⟩:=x;exact qAr e
 | ins C dx fs=>obtain⟨_,_,_,e,_⟩:=x;exact qAr e
 | own y=>obtain⟨_,e⟩:=x;exact qAr e
 | xd fs=>obtain⟨_,⟨_,_,_,e,_⟩,_⟩:=x;exact qAr e
 | rng lo hi=>obtain⟨_,_,_,e⟩:=x;exact qAr e
 | frz ob u=>obtain⟨e,_⟩:=x;exact qAr e
 | tbl ps=>exact qAr (show h.get? a=some _ from x)
 | met f y=>exact qAr (show h.get? a=some _ from x)
 | ext φ=>obtain⟨_,⟨_,e⟩,_⟩:=x;exact qAr e
theorem Paired.Hi {α β:Type}{F G:α->β->Prop}:∀{l₁:List α}{l₂:List β},Paired F l₁ l₂->(∀a b,F a b->G a b)->Paired G l₁ l₂
 | _,_,.nil,_=>.nil
 | _,_,.cons r t,f=>.cons (f _ _ r) (Paired.Hi t f)
theorem cS.tV (x:cS P w H h a o) (k:∀b u,(b=a\/H b=some (.own a))->h.get? b=some u->h'.get? b=some u)
  (ho:∀b,H b=some (.own a)->H' b=some (.own a)) (ht:∀b xs,H b=some (.tup xs)->H' b=some (.tup xs)):cS P w H' h' a o:=by
 induction o with
 | lst xs=>obtain⟨z,its,n,r,e⟩:=x;exact⟨z,its,n,r,k _ _ (.inl rfl) e⟩
 | tup xs=>obtain⟨z,its,r,ob,e,c⟩:=x;exact⟨z,its,r,ob,k _ _ (.inl rfl) e,c⟩
 | dK kvs=>obtain⟨z,y,vs,r,ob,es,ep,e,c⟩:=x;exact⟨z,y,vs,r,ob,es,ep,k _ _ (.inl rfl) e,c⟩
 | dT kvs =>
  obtain⟨z,y,xs,r,ob,es,ep,e,c⟩:=x;exact⟨z,y,xs,Paired.Hi r fun p q z=>⟨z.1,ht _ _ z.2.1,z.2.2⟩,ob,es,ep,k _ _ (.inl rfl) e,c⟩
 | set S n=>obtain⟨ob,es,ep,t,e,c⟩:=x;exact⟨ob,es,ep,t,k _ _ (.inl rfl) e,c⟩
 | ins C dx fs =>
  obtain⟨d,z,ne,e,mA,⟨od,es,ep,e2,c⟩,r⟩:=x;exact⟨ho _ d,z,ne,k _ _ (.inl rfl) e,mA,⟨od,es,ep,k _ _ (.inr d) e2,c⟩,r⟩
 | own y=>obtain⟨ob,e⟩:=x;exact⟨ob,k _ _ (.inl rfl) e⟩
 | xd fs=>obtain⟨mA,⟨od,es,ep,e,c⟩,r⟩:=x;exact⟨mA,⟨od,es,ep,k _ _ (.inl rfl) e,c⟩,r⟩
 | rng lo hi=>obtain⟨t,u,v,e⟩:=x;exact⟨t,u,v,k _ _ (.inl rfl) e⟩
 | frz ob u ih=>obtain⟨e,q⟩:=x;exact⟨k _ _ (.inl rfl) e,ih q⟩
 | tbl ps =>
  have e:h.get? a=some { cls:=.none,data:=.fields ps }:=x;show h'.get? a=some { cls:=.none,data:=.fields ps };exact k a _ (.inl rfl) e
 | met f y =>
  have e:h.get? a=some (qIr (.ref f) (.ref y)):=x;show h'.get? a=some (qIr (.ref f) (.ref y));exact k a _ (.inl rfl) e
 | ext φ=>obtain⟨p,⟨o,e⟩,st⟩:=x;exact⟨st _ _ p fun o q=>k _ _ (.inl rfl) q,⟨o,k _ _ (.inl rfl) e⟩,st⟩
theorem jV.lt (x:jV P w H h) (e:H a=some o):a<h.objs.size:=(x a o e).lt
theorem jV.fresh (x:jV P w H h) (e:h.objs.size<=a):H a=none:=by
 cases q:H a with
 | none=>rfl
 | some u=>exact absurd (qAx (x.lt q) e) (qDg _)
theorem jV.kept (x:jV P w H h) (k:∀b u,h.get? b=some u->h'.get? b=some u):jV P w H h':=fun a o e =>
 (x a o e).tV (fun b u _ q=>k b u q) (fun _ q=>q) fun _ _ q=>q
theorem jV.laid (x:jV P w H h) (k:∀b u,h.get? b=some u->h'.get? b=some u) (hp:h.objs.size<=a) (new:cS P w (upd H a o) h' a o):jV P w (upd H a o) h':=fun b u e=>by
 have hn:=x.fresh hp;by_cases hb:b=a
 ·subst hb;rw[aC] at e;cases e;exact new
 ·rw[aM hb] at e;exact(x b u e).tV (fun c v _ q=>k c v q) (fun c q=>by rw[aM (a9 q hn)];exact q) fun c xs q=>by rw[aM (a9 q hn)];exact q
end
def Rd (H:Hp) (a:Addr) (u:HO):Prop:=H a=some u\/∃o,H a=some (.frz o u)
theorem Rd.ok {P:qBl}{w:qCw}{H:Hp}{h:Heap}{a:Addr}{u:HO} (r:Rd H a u) (x:jV P w H h):cS P w H h a u:=by
 rcases r with r | ⟨o,r⟩
 ·exact x a u r
 ·obtain⟨_,q⟩:=x a _ r;exact q
def LB:Option HO->Prop
 | some (.lst _)=>True
 | some (.dK _)=>True
 | some (.dT _)=>True
 | some (.set _ _)=>True
 | some (.ins _ _ _)=>True
 | some (.ext _)=>True
 | _=>False
section
variable {P:qBl}{w:qCw}{H:Hp}{h h':Heap}{x e:Addr}{o':HO}
theorem jV.write (ok:jV P w H h) (mu:LB (H x)) (he:e=x\/H e=some (.own x)) (k:∀b u,b≠e->h.get? b=some u->h'.get? b=some u) (heo:∃u,h'.get? e=some u)
  (new:cS P w (upd H x o') h' x o'):jV P w (upd H x o') h':=fun b u q=>by
 have nown:∀c y,H c=some (.own y)->c≠x:=fun c y r z=>by subst z;rw[r] at mu;exact mu
 have ntup:∀c xs,H c=some (.tup xs)->c≠x:=fun c xs r z=>by subst z;rw[r] at mu;exact mu
 by_cases hb:b=x
 ·subst hb;rw[aC] at q;cases q;exact new
 ·rw[aM hb] at q;by_cases hbe:b=e
  ·have q':H b=some (.own x):=by
    rcases he with z | z
    ·exact absurd (hbe.trans z) hb
    ·rw[hbe];exact z
   rw[q] at q';cases q';obtain⟨v,hv⟩:=heo;exact⟨v,by rw[hbe];exact hv⟩
  ·refine(ok b u q).tV (fun c v hc r=>k c v ?_ r) (fun c r=>by rw[aM (nown c b r)];exact r) fun c xs r=>by rw[aM (ntup c xs r)];exact r
   rcases hc with rfl | hc
   ·exact hbe
   ·rintro rfl;rcases he with z | z
    ·exact nown c b hc z
    ·rw[hc] at z;cases z;exact hb rfl
end
structure Un (fs ex:List Addr) (H H':Hp) (h h':Heap):Prop where
 keep:∀b o,h.get? b=some o->H b=none->b∉fs->b∉ex->h'.get? b=some o
 slot:∀b o,h.get? b=some o->H b=none->b∈fs->b∉ex->∃sl,h'.get? b=some { o with slots:=sl }
 free:∀b o,h.get? b=some o->H b=none->b∉ex->H' b=none
 there:∀b o,h.get? b=some o->b∉ex->∃o',h'.get? b=some o'
 lT:∀b xs,H b=some (.tup xs)->H' b=some (.tup xs)
 kI:∀b o u,H b=some (.frz o u)->H' b=some (.frz o u)
 lU:∀b ps,H b=some (.tbl ps)->∃more,H' b=some (.tbl (ps++more))
section
variable {fs fs' ex ex':List Addr}{H H1 H2:Hp}{h h1 h2 h':Heap}{a x e:Addr}{o:HO}
theorem Un.any (u:Un fs ex H H1 h h1){b:Addr}{ob:Obj} (q:h.get? b=some ob) (n:H b=none) (hx:b∉ex):∃sl,h1.get? b=some { ob with slots:=sl }:=by
 by_cases hb:b∈fs
 ·exact u.slot b ob q n hb hx
 ·exact⟨ob.slots,u.keep b ob q n hb hx⟩
theorem Un.kept (k:∀b u,h.get? b=some u->h'.get? b=some u):Un fs ex H H h h' :=
 ⟨fun b ob q _ _ _=>k b ob q,fun b ob q _ _ _=>⟨ob.slots,k b ob q⟩,fun _ _ _ n _=>n,fun b ob q _=>⟨ob,k b ob q⟩,fun _ _ q=>q,fun _ _ _ q=>q,fun _ ps q=>⟨#[],by rw[q];simp⟩⟩
theorem Un.refl:Un fs ex H H h h:=Un.kept fun _ _ q=>q
theorem Un.laid (k:∀b u,h.get? b=some u->h'.get? b=some u) (hp:h.objs.size<=a) (hn:H a=none):Un fs ex H (upd H a o) h h' where
 keep:=fun b u q _ _ _=>k b u q
 slot:=fun b u q _ _ _=>⟨u.slots,k b u q⟩
 free:=fun b u q n _=>by rw[aM (qBd (qAx (qAr q) hp))];exact n
 there:=fun b u q _=>⟨u,k b u q⟩
 lT:=fun b xs q=>by rw[aM (a9 q hn)];exact q
 kI:=fun b u xs q=>by rw[aM (a9 q hn)];exact q
 lU:=fun b ps q=>⟨#[],by rw[aM (a9 q hn),q];simp⟩
theorem Un.write (mu:LB (H x)) (he:e=x\/H e=some (.own x)) (k:∀b u,b≠e->h.get? b=some u->h'.get? b=some u) (heo:∃u,h'.get? e=some u):Un fs ex H (upd H x o) h h':=by
 have hx:∀b,H b=none->b≠x:=fun b n z=>by subst z;rw[n] at mu;exact mu
 have hb:∀b,H b=none->b≠e:=fun b n z=>by
  subst z;rcases he with r | r
  ·exact hx b n r
  ·rw[n] at r;cases r
 have hm:∀b u,H b=some u->¬LB (some u)->b≠x:=fun b u q nm z=>by subst z;rw[q] at mu;exact nm mu
 refine⟨fun b u q n _ _=>k b u (hb b n) q,fun b u q n _ _=>⟨u.slots,k b u (hb b n) q⟩,fun b u q n _=>by rw[aM (hx b n)];exact n,fun b u q _=>?_,
  fun b xs q=>by rw[aM (hm b _ q fun z=>z)];exact q,fun b u xs q=>by rw[aM (hm b _ q fun z=>z)];exact q,fun b ps q=>⟨#[],by rw[aM (hm b _ q fun z=>z),q];simp⟩⟩
 by_cases hbe:b=e
 ·subst hbe;exact heo
 ·exact⟨u,k b u hbe q⟩
end
def Nx (h:Heap) (H:Hp):List Addr:=(qAl h.objs.size).filter fun a=>(H a).isSome
def rJ (h:Heap) (H:Hp):Heap:=qJk h (Nx h H)
theorem Aa (h:Heap) (H:Hp):(rJ h H).objs.size=h.objs.size:=PySem.W.hideAll_size _ _
theorem Bl {h:Heap}{H:Hp}{b:Addr}{o:Obj} (e:h.get? b=some o) (n:H b=none):(rJ h H).get? b=some o :=
 qLi _ e fun hm=>by
  have q:(H b).isSome=true:=(List.mem_filter.mp hm).2;rw[n] at q;simp at q
theorem Eg {h:Heap}{H:Hp}{b:Addr}{o:Obj} (e:(rJ h H).get? b=some o):h.get? b=some o/\H b=none:=by
 have e':h.get? b=some o:=qLr (Nx h H) e;refine⟨e',?_⟩;cases q:H b with
 | none=>rfl
 | some x =>
  have hm:b∈Nx h H:=List.mem_filter.mpr ⟨List.mem_range.mpr (qAr e'),by simp[q]⟩;have z:(rJ h H).get? b=none:=PySem.W.hideAll_none (Nx h H) hm;rw[z] at e;cases e
def Eh (g h:Heap) (L:Addr):List (Addr×Obj):=(qAl h.objs.size).filterMap fun a=>if a=L\/(g.get? a).isSome=true then none else (h.get? a).map fun o=>(a,o)
def rest (g h:Heap) (L d:Addr):List (Addr×Obj):=(Eh g h L).filter fun p=>decide (p.1≠d)
structure Mod (K:qAc) (mg:Str->Option qAf) (base:Heap):Prop where
 Hj:K.In base
 glob:base.Ns qBh mg
 blt:∃mb,base.Ns builtinsNs mb/\∀x:Str,x≠"__name__"->mb x=qCo x
 nolimit:base.NoLimit
structure Cx where
 prog:qBl
 w:qCw
 K:qAc
 mg:Str->Option qAf
 base:Heap
 A:qCq
 N:List Str
 s₀:qAh
 H₀:Hp
 env:Env
 outer:List Env
 stack:List Env
 ex:List Addr
 fn:Str->Bool
 calm:Bool
 pn:List (Addr×Obj)
 xe:qAf->qAh->Prop
def nY (l:List Env):List Addr:=l.filterMap (·.frame)
abbrev Cx.fs (X:Cx):List Addr:=nY X.outer
def Ny (sc:qIj) (x:Str):Prop:=sc.names.lookup x=some .local\/sc.names.lookup x=some .cell\/sc.names.lookup x=some .free
def Loc (sc:qIj) (x:Str):Prop:=sc.names.lookup x=some .local\/sc.names.lookup x=some .cell
def Look (env:Env) (h:Heap) (m:Str->Option qAf) (x:Str) (u:qAf):Prop :=
 (env.kindOf x=some .local/\m x=some u)\/((env.kindOf x=some .cell\/env.kindOf x=some .free)/\∃c,env.cells.lookup x=some c/\h.IsCell c (some u))
structure Cx.Ok (X:Cx):Prop where
 mod:Mod X.K X.mg X.base
 kind:X.env.scope.kind = .function
 glob:X.env.globals=qBh
 blt:X.env.builtins=builtinsNs
 above:X.s₀.heap.objs.size<=X.env.locals
 inj:∀x y c,X.env.cells.lookup x=some c->X.env.cells.lookup y=some c->x=y
 has:∀x,(X.env.kindOf x=some .cell\/X.env.kindOf x=some .free)->∃c,X.env.cells.lookup x=some c
 LC:∀x c,X.fn x=true->X.env.cells.lookup x=some c->X.s₀.heap.objs.size<=c
 hd:X.calm=true->X.A.handled=none
 frames:X.A.frames=some X.stack
 Nz:X.stack=X.outer\/(X.stack=X.env::X.outer/\X.env.frame=some X.env.locals)
 OU:∀b∈X.ex,b≠X.env.locals/\∀x c,X.env.cells.lookup x=some c->c≠b
 bs:∀b o,X.base.get? b=some o->X.s₀.heap.get? b=some o/\X.H₀ b=none
 Ei:X.base.objs.size<=X.s₀.heap.objs.size
 Ab:∀b o,X.base.get? b=some o->b∉X.ex
 Ej:∀b∈X.ex,b∉X.fs
 kJ:X.s₀.heap.FunFrames X.base X.outer
 Hk:∀b∈X.fs,X.H₀ b=none
structure Inv (X:Cx) (pins:List (Addr×Obj)) (σ:List (Option V)) (H:Hp) (s:qAh):Prop where
 ok:X.Ok
 os:s.os=X.s₀.os
 bare:qIy s.gens
 base:Un X.fs X.ex X.H₀ H X.s₀.heap s.heap
 loc:∃m,s.heap.Ns X.env.locals m/\∀(i:Nat) (x:Str) (v:V),X.N[i]?=some x->σ[i]?=some (some v)->Ny X.env.scope x->∃u,RelV v u/\Look X.env s.heap m x u
 cell:∀x c,X.env.cells.lookup x=some c->∃v,s.heap.IsCell c v
 free:H X.env.locals=none
 iP:∀x c,X.env.cells.lookup x=some c->H c=none
 pin:∀p∈X.pn++pins,s.heap.get? p.1=some p.2/\H p.1=none/\p.1≠X.env.locals/\p.1∉X.fs/\∀v,p.2.data≠.cell v
 cH:jV X.prog X.w H s.heap
 len:σ.length=X.N.length
section
variable {X:Cx}{pins:List (Addr×Obj)}{σ:List (Option V)}{H H':Hp}{s:qAh}{h':Heap}
theorem Cx.Ok.NK (ok:X.Ok){b:Addr}{o:Obj} (e:X.base.get? b=some o):b∉X.fs:=fun hb=>by
 have:=(ok.kJ.mem hb).1;rw[e] at this;cases this
theorem Inv.bs (I:Inv X pins σ H s):∀b o,X.base.get? b=some o->s.heap.get? b=some o/\H b=none:=fun b o e =>
 ⟨I.base.keep b o (I.ok.bs b o e).1 (I.ok.bs b o e).2 (I.ok.NK e) (I.ok.Ab b o e),I.base.free b o (I.ok.bs b o e).1 (I.ok.bs b o e).2 (I.ok.Ab b o e)⟩
theorem Inv.bk (I:Inv X pins σ H s):∀b o,X.base.get? b=some o->s.heap.get? b=some o:=fun b o e=>(I.bs b o e).1
theorem Inv.mod (I:Inv X pins σ H s):Mod X.K X.mg X.base:=I.ok.mod
theorem Inv.vX (I:Inv X pins σ H s):X.K.In s.heap:=I.ok.mod.Hj.keeps I.bk
theorem Inv.lt (I:Inv X pins σ H s):X.env.locals<s.heap.objs.size:=let ⟨_,hn,_⟩:=I.loc;hn.lt
theorem Inv.sz (I:Inv X pins σ H s):X.s₀.heap.objs.size<=s.heap.objs.size:=qCx I.ok.above (qAn I.lt)
theorem Inv.Hl (I:Inv X pins σ H s){a:Addr} (h:s.heap.objs.size<=a):a∉X.fs:=fun hb=>by
 obtain⟨_,o,ho,_⟩:=I.ok.kJ.mem hb;exact absurd (qAx (qAr ho) (qCx I.sz h)) (qDg _)
theorem Inv.Hm (I:Inv X pins σ H s):∀x c,X.env.cells.lookup x=some c->c≠X.env.locals:=fun x c e z=>by
 obtain⟨v,o,ho,hd⟩:=I.cell x c e;obtain⟨m,⟨o',es,ep,ho',hd',_⟩,_⟩:=I.loc;rw[z,ho'] at ho;cases ho;rw[hd'] at hd;cases hd
theorem Inv.kJ (I:Inv X pins σ H s):s.heap.FunFrames X.base X.outer:=by
 have all:∀(l:List Env),(∀b∈nY l,b∈X.fs)->X.s₀.heap.FunFrames X.base l->s.heap.FunFrames X.base l:=by
  intro l;induction l with
  | nil=>intro _ _;trivial
  | cons env r ih =>
   intro hs hl;obtain⟨hk,⟨L,o,hf,hn,ho,hd⟩,hr⟩:=hl;have hL:L∈X.fs:=hs L (by unfold nY;rw[qCg,hf];exact qDh);obtain⟨sl,e⟩:=I.base.slot L o ho (I.ok.Hk L hL) hL fun z=>I.ok.Ej L z hL;exact⟨hk,⟨L,_,hf,hn,e,hd⟩,ih (fun b hb=>hs b (by unfold nY;rw[qCg,hf];exact qCi _ hb)) hr⟩
 exact all X.outer (fun _ hb=>hb) I.ok.kJ
theorem Inv.stack (I:Inv X pins σ H s):s.heap.FunFrames X.base X.stack:=by
 rcases I.ok.Nz with e | ⟨e,hf⟩
 ·rw[e];exact I.kJ
 ·rw[e];obtain⟨m,hn,_⟩:=I.loc;refine .cons (by rw[I.ok.kind];decide) hf hn ?_ I.kJ;exact qIm (qCx I.ok.Ei I.ok.above)
theorem Inv.j7 (I:Inv X pins σ H s):∀b∈nY X.stack,b∈X.env.locals::X.fs:=fun b hb=>by
 rcases I.ok.Nz with e | ⟨e,hf⟩
 ·rw[e] at hb;exact qCi _ hb
 ·rw[e] at hb;unfold nY at hb;rw[qCg,hf] at hb;exact hb
theorem Inv.nM (I:Inv X pins σ H s):∀b∈nY X.stack,H b=none:=fun b hb=>by
 rcases List.mem_cons.mp (I.j7 b hb) with e | hb
 ·rw[e];exact I.free
 ·obtain⟨_,o,ho,_⟩:=I.ok.kJ.mem hb;exact I.base.free b o ho (I.ok.Hk b hb) fun z=>I.ok.Ej b z hb
theorem Inv.step {g':Array qOx}{t':Nat}{d':Drawn}{ch:List Addr} (I:Inv X pins σ H s)
  (hch:∀b∈ch,(b∈X.ex\/X.s₀.heap.objs.size<=b)/\b≠X.env.locals/\(∀x c,X.env.cells.lookup x=some c->c≠b)/\∀p∈X.pn++pins,p.1≠b)
  (keep:∀b o,b≠X.env.locals->b∉X.fs->b∉ch->s.heap.get? b=some o->H b=none->h'.get? b=some o)
  (slot:∀b o,b≠X.env.locals->b∈X.fs->b∉ch->s.heap.get? b=some o->H b=none->∃sl,h'.get? b=some { o with slots:=sl }) (free:∀b o,b∉ch->s.heap.get? b=some o->H b=none->H' b=none)
  (there:∀b o,b∉ch->s.heap.get? b=some o->∃o',h'.get? b=some o')
  (lT:∀b xs,H b=some (.tup xs)->H' b=some (.tup xs)) (kI:∀b o u,H b=some (.frz o u)->H' b=some (.frz o u)) (lU:∀b ps,H b=some (.tbl ps)->∃more,H' b=some (.tbl (ps++more)))
  (ns:∀m,s.heap.Ns X.env.locals m->h'.Ns X.env.locals m) (cH:jV X.prog X.w H' h') (hg:qIy g') :
  Inv X pins σ H' { s with heap:=h',gens:=g',drawn:=d',toks:=t' }:=by
 have neL:∀b o,X.s₀.heap.get? b=some o->b≠X.env.locals:=fun b o e=>qBd (qAx (qAr e) I.ok.above);have neC:∀b o,X.s₀.heap.get? b=some o->b∉X.ex->b∉ch:=fun b o e hx hb=>by
  rcases(hch b hb).1 with z | z
  ·exact hx z
  ·exact absurd (qAx (qAr e) z) (qDg _)
 have cellK:∀x c,X.env.cells.lookup x=some c->∀v,s.heap.IsCell c v->h'.IsCell c v:=fun x c e v ⟨o,ho,hd⟩=>by
  have nch:c∉ch:=fun z=>(hch c z).2.2.1 x c e rfl;by_cases hc:c∈X.fs
  ·obtain⟨sl,q⟩:=slot c o (I.Hm x c e) hc nch ho (I.iP x c e);exact⟨_,q,hd⟩
  ·exact⟨o,keep c o (I.Hm x c e) hc nch ho (I.iP x c e),hd⟩
 refine⟨I.ok,I.os,hg,⟨fun b o e n hb hx=>?_,fun b o e n hb hx=>?_,fun b o e n hx=>?_,fun b o e hx=>?_,fun b xs e=>lT b xs (I.base.lT b xs e),fun b o xs e=>kI b o xs (I.base.kI b o xs e),fun b ps e=>?_⟩,?_,fun x c e=>?_,?_,fun x c e=>?_,fun p hp=>?_,cH,I.len⟩
 ·exact keep b o (neL b o e) hb (neC b o e hx) (I.base.keep b o e n hb hx) (I.base.free b o e n hx)
 ·obtain⟨sl,e1⟩:=I.base.slot b o e n hb hx;obtain⟨sl',e2⟩:=slot b _ (neL b o e) hb (neC b o e hx) e1 (I.base.free b o e n hx);exact⟨sl',e2⟩
 ·obtain⟨o',e1⟩:=I.base.there b o e hx;exact free b o' (neC b o e hx) e1 (I.base.free b o e n hx)
 ·obtain⟨o',e1⟩:=I.base.there b o e hx;exact there b o' (neC b o e hx) e1
 ·obtain⟨m1,e1⟩:=I.base.lU b ps e;obtain⟨m2,e2⟩:=lU b _ e1;exact⟨m1++m2,by rw[e2,qMm]⟩
 ·obtain⟨m,hn,hl⟩:=I.loc;refine⟨m,ns m hn,fun i x v e1 e2 e3=>?_⟩;obtain⟨u,r,l⟩:=hl i x v e1 e2 e3;refine⟨u,r,?_⟩;rcases l with l | ⟨k,c,e,z⟩
  ·exact .inl l
  ·exact .inr ⟨k,c,e,cellK x c e _ z⟩
 ·obtain⟨v,z⟩:=I.cell x c e;exact⟨v,cellK x c e v z⟩
 ·obtain⟨m,⟨o,_,_,ho,_⟩,_⟩:=I.loc;exact free _ o (fun z=>(hch _ z).2.1 rfl) ho I.free
 ·obtain⟨v,o,ho,hd⟩:=I.cell x c e;exact free c o (fun z=>(hch c z).2.2.1 x c e rfl) ho (I.iP x c e)
 ·obtain⟨e,n,ne,nf,d⟩:=I.pin p hp;have nch:p.1∉ch:=fun z=>(hch p.1 z).2.2.2 p hp rfl;exact⟨keep p.1 p.2 ne nf nch e n,free p.1 p.2 nch e n,ne,nf,d⟩
theorem Inv.un {t':Nat} (I:Inv X pins σ H s) (u:Un X.fs [] H H' s.heap h') (cH:jV X.prog X.w H' h'):Inv X pins σ H' { s with heap:=h',toks:=t' }:=by
 obtain⟨m,⟨o,es,ep,ho,r⟩,_⟩:=id I.loc;obtain⟨sl,hL⟩:=u.any ho I.free (by simp);exact I.step (g':=s.gens) (d':=s.drawn) (ch:=[]) (fun _ z=>nomatch z) (fun b o _ hb _ e n=>u.keep b o e n hb (by simp)) (fun b o _ hb _ e n=>u.slot b o e n hb (by simp)) (fun b o _ e n=>u.free b o e n (by simp)) (fun b o _ e=>u.there b o e (by simp)) u.lT u.kI u.lU (fun m' hm=>by
  obtain⟨o',es',ep',ho',r'⟩:=hm;rw[ho] at ho';cases ho';exact⟨_,es',ep',hL,r'⟩) cH I.bare
theorem Inv.call {g':Array qOx}{t':Nat}{d':Drawn}{ch:List Addr} (I:Inv X pins σ H s) (u:Un (nY X.stack) ch H H' s.heap h') (cH:jV X.prog X.w H' h') (hg:qIy g')
  (hch:∀b∈ch,(b∈X.ex\/X.s₀.heap.objs.size<=b)/\b≠X.env.locals/\(∀x c,X.env.cells.lookup x=some c->c≠b)/\∀p∈X.pn++pins,p.1≠b) :
  Inv X pins σ H' { s with heap:=h',gens:=g',drawn:=d',toks:=t' }:=by
 obtain⟨m,⟨o,es,ep,ho,r⟩,_⟩:=id I.loc;obtain⟨sl,hL⟩:=u.any ho I.free fun z=>(hch _ z).2.1 rfl;exact I.step (ch:=ch) hch (fun b o hL hb hc e n=>u.keep b o e n (fun z=>(List.mem_cons.mp (I.j7 b z)).elim hL hb) hc) (fun b o _ _ hc e n=>u.any e n hc) (fun b o hc e n=>u.free b o e n hc) (fun b o hc e=>u.there b o e hc) u.lT u.kI u.lU (fun m' hm=>by
  obtain⟨o',es',ep',ho',r'⟩:=hm;rw[ho] at ho';cases ho';exact⟨_,es',ep',hL,r'⟩) cH hg
theorem Inv.turned {t':Nat}{it:Addr} (I:Inv X pins σ H s) (k:∀b o,b≠it->s.heap.get? b=some o->h'.get? b=some o) (hn:H it=none) (hL:it≠X.env.locals)
  (h1:it∈X.ex\/X.s₀.heap.objs.size<=it) (h2:∀x c,X.env.cells.lookup x=some c->c≠it) (h3:∀p∈X.pn++pins,p.1≠it):Inv X pins σ H { s with heap:=h',toks:=t' }:=by
 have nit:∀b u,H b=some u->b≠it:=fun b u e z=>by rw[z,hn] at e;cases e
 refine I.step (g':=s.gens) (d':=s.drawn) (ch:=[it]) (fun b hb=>?_) (fun b o _ _ hc e _=>k b o (fun z=>hc (by simp[z])) e) (fun b o _ _ hc e _=>⟨o.slots,k b o (fun z=>hc (by simp[z])) e⟩) (fun _ _ _ _ n=>n)
  (fun b o hc e=>⟨o,k b o (fun z=>hc (by simp[z])) e⟩) (fun _ _ e=>e) (fun _ _ _ e=>e) (fun b ps e=>⟨#[],by rw[e];simp⟩) (fun m hm=>?_) (fun b u e=>?_) I.bare
 ·have e:b=it:=by simpa using hb
  subst e;exact⟨h1,hL,h2,h3⟩
 ·obtain⟨o,es,ep,ho,r⟩:=hm;exact⟨o,es,ep,k _ o (Ne.symm hL) ho,r⟩
 ·refine(I.cH b u e).tV (fun c v hc q=>k c v ?_ q) (fun _ q=>q) fun _ _ q=>q;rcases hc with z | z
  ·rw[z];exact nit b u e
  ·exact nit c _ z
theorem Inv.tok (I:Inv X pins σ H s) (t:Nat):Inv X pins σ H { s with toks:=t }:=I.un (h':=s.heap) (t':=t) Un.refl I.cH
theorem Inv.kept {t':Nat} (I:Inv X pins σ H s) (k:∀b u,s.heap.get? b=some u->h'.get? b=some u):Inv X pins σ H { s with heap:=h',toks:=t' }:=I.un (Un.kept k) (I.cH.kept k)
theorem Inv.laid {a:Addr}{o:HO}{t':Nat} (I:Inv X pins σ H s) (k:∀b u,s.heap.get? b=some u->h'.get? b=some u) (hp:s.heap.objs.size<=a) (new:cS X.prog X.w (upd H a o) h' a o) :
  Inv X pins σ (upd H a o) { s with heap:=h',toks:=t' }:=I.un (Un.laid k hp (I.cH.fresh hp)) (I.cH.laid k hp new)
theorem Inv.write {x e:Addr}{o:HO}{t':Nat} (I:Inv X pins σ H s) (mu:LB (H x)) (he:e=x\/H e=some (.own x)) (k:∀b u,b≠e->s.heap.get? b=some u->h'.get? b=some u) (heo:∃u,h'.get? e=some u)
  (new:cS X.prog X.w (upd H x o) h' x o):Inv X pins σ (upd H x o) { s with heap:=h',toks:=t' }:=I.un (Un.write mu he k heo) (I.cH.write mu he k heo new)
theorem Inv.x8 {pins':List (Addr×Obj)} (I:Inv X pins σ H s) (h:∀p∈pins',s.heap.get? p.1=some p.2/\H p.1=none/\p.1≠X.env.locals/\p.1∉X.fs/\∀v,p.2.data≠.cell v):Inv X pins' σ H s :=
 ⟨I.ok,I.os,I.bare,I.base,I.loc,I.cell,I.free,I.iP,fun p hp=>(List.mem_append.mp hp).elim (fun z=>I.pin p (qCc _ z)) (h p),I.cH,I.len⟩
theorem tW {N:List Str} (hN:N.Nodup){i j:Nat}{x:Str} (a:N[i]?=some x) (b:N[j]?=some x):i=j:=by
 obtain⟨h1,e1⟩:=List.getElem?_eq_some_iff.mp a;obtain⟨h2,e2⟩:=List.getElem?_eq_some_iff.mp b;exact(List.getElem_inj hN).mp (e1.trans e2.symm)
theorem lV {M:qNx}{A:qCq}{E:qAf->qAh->Prop}{i:Nat}{x:Str}{v:V}{u:qAf}{Q:Unit->qAh->Prop} (I:Inv X pins σ H s) (hN:X.N.Nodup) (hi:X.N[i]?=some x) (hx:Loc X.env.scope x) (r:RelV v u)
  (h:∀s',Inv X pins (σ.set i (some v)) H s'->(∃a,qEy a s.heap s'.heap/\(a=X.env.locals\/X.env.cells.lookup x=some a))->Q () s') (hf:X.fn x=true\/X.env.scope.names.lookup x=some .local:=by first|exact .inl rfl | exact .inr rfl | assumption):qBg M A (storeName X.env x u) Q E s:=by
 obtain⟨m,hn,hl⟩:=id I.loc;have hcls:(X.env.scope.kind == .class||(X.env.scope.kind == .module&&X.env.locals != X.env.globals))=false:=by rw[I.ok.kind];rfl
 have hiσ:i<σ.length:=by rw[I.len];exact(List.getElem?_eq_some_iff.mp hi).1
 have Hm:=I.Hm;have tracked:∀{a:Addr}{h':Heap},(∃o,s.heap.get? a=some o/\H a=none)->qEy a s.heap h'->jV X.prog X.w H h':=fun {a h'} ha hs b ob e=>by
  obtain⟨_,_,hfree⟩:=ha;refine(I.cH b ob e).tV (fun c w' hc q=>(hs.2 c ?_).trans q) (fun _ q=>q) fun _ _ q=>q;rintro rfl;rcases hc with rfl | hc
  ·rw[hfree] at e;cases e
  ·rw[hfree] at hc;cases hc
 rcases hx with hk | hk
 ·refine wpAny_storeName_local hk hn (fun h' hn' hs=>?_) hcls;obtain⟨oL,_,_,hoL,_⟩:=id hn;refine h _ ⟨I.ok,I.os,I.bare,⟨fun b o e n hb hx=>?_,fun b o e n hb hx=>?_,I.base.free,fun b o e hx=>?_,I.base.lT,I.base.kI,I.base.lU⟩,⟨_,hn',fun j y v' e1 e2 e3=>?_⟩,fun y c e=>?_,I.free,I.iP,fun p hp=>?_,tracked ⟨oL,hoL,I.free⟩ hs,by simpa using I.len⟩ ⟨_,hs,.inl rfl⟩
  ·exact(hs.2 b (qBd (qAx (qAr e) I.ok.above))).trans (I.base.keep b o e n hb hx)
  ·obtain⟨sl,e1⟩:=I.base.slot b o e n hb hx;exact⟨sl,(hs.2 b (qBd (qAx (qAr e) I.ok.above))).trans e1⟩
  ·obtain⟨o',e1⟩:=I.base.there b o e hx;exact⟨o',(hs.2 b (qBd (qAx (qAr e) I.ok.above))).trans e1⟩
  ·by_cases hj:j=i
   ·subst hj;rw[hi] at e1;cases e1;rw[qLj hiσ] at e2;cases e2;exact⟨u,r,.inl ⟨hk,by simp⟩⟩
   ·rw[qMe (Ne.symm hj)] at e2;obtain⟨u',r',q⟩:=hl j y v' e1 e2 e3;refine⟨u',r',?_⟩;rcases q with ⟨k,e⟩ | ⟨k,c,e,z⟩
    ·refine .inl ⟨k,?_⟩;have:y≠x:=fun e=>hj (tW hN e1 (e▸hi));simp[this,e]
    ·exact .inr ⟨k,c,e,z.sameBut hs (Hm y c e)⟩
  ·obtain⟨w',z⟩:=I.cell y c e;exact⟨w',z.sameBut hs (Hm y c e)⟩
  ·obtain⟨e,n,ne,nf,d⟩:=I.pin p hp;exact⟨(hs.2 p.1 ne).trans e,n,ne,nf,d⟩
 ·have hfn:X.fn x=true:=by
   rcases hf with z | z
   ·exact z
   ·rw[z] at hk;cases hk
  obtain⟨c,hc⟩:=I.ok.has x (.inl hk);obtain⟨w',z⟩:=I.cell x c hc;refine wpAny_storeName_cell I.ok.kind hk hc z (fun h' hc' hs=>?_);obtain⟨oc,hoc,hocd⟩:=id z;refine h { s with heap:=h' } ⟨I.ok,I.os,I.bare,⟨fun b o e n hb hx=>?_,fun b o e n hb hx=>?_,I.base.free,fun b o e hx=>?_,I.base.lT,I.base.kI,I.base.lU⟩,⟨m,hn.sameBut hs (Ne.symm (Hm x c hc)),fun j y v' e1 e2 e3=>?_⟩,fun y c' e=>?_,I.free,I.iP,fun p hp=>?_,tracked ⟨oc,hoc,I.iP x c hc⟩ hs,by simpa using I.len⟩ ⟨c,hs,.inr hc⟩
  ·exact(hs.2 b (qBd (qAx (qAr e) (I.ok.LC x c hfn hc)))).trans (I.base.keep b o e n hb hx)
  ·obtain⟨sl,e1⟩:=I.base.slot b o e n hb hx;exact⟨sl,(hs.2 b (qBd (qAx (qAr e) (I.ok.LC x c hfn hc)))).trans e1⟩
  ·obtain⟨o',e1⟩:=I.base.there b o e hx;exact⟨o',(hs.2 b (qBd (qAx (qAr e) (I.ok.LC x c hfn hc)))).trans e1⟩
  ·by_cases hj:j=i
   ·subst hj;rw[hi] at e1;cases e1;rw[qLj hiσ] at e2;cases e2;exact⟨u,r,.inr ⟨.inl hk,c,hc,hc'⟩⟩
   ·rw[qMe (Ne.symm hj)] at e2;obtain⟨u',r',q⟩:=hl j y v' e1 e2 e3;refine⟨u',r',?_⟩;rcases q with q | ⟨k,c',e,z'⟩
    ·exact .inl q
    ·refine .inr ⟨k,c',e,z'.sameBut hs ?_⟩;rintro rfl;exact hj (tW hN e1 (I.ok.inj _ _ _ e hc▸hi))
  ·by_cases hcc:c'=c
   ·subst hcc;exact⟨_,hc'⟩
   ·obtain⟨w2,z2⟩:=I.cell y c' e;exact⟨w2,z2.sameBut hs hcc⟩
  ·obtain⟨e,n,ne,nf,d⟩:=I.pin p hp;refine⟨(hs.2 p.1 ?_).trans e,n,ne,nf,d⟩;intro q;rw[q,hoc] at e;have q':oc=p.2:=Option.some.inj e;exact d w' (by rw[<- q'];exact hocd)
theorem iR {M:qNx}{A:qCq}{E:qAf->qAh->Prop}{i:Nat}{x:Str}{v:V}{u:qAf}{Q:Unit->qAh->Prop} (I:Inv X pins σ H s) (hN:X.N.Nodup) (hi:X.N[i]?=some x) (hx:Loc X.env.scope x) (r:RelV v u)
  (h:∀s',Inv X pins (σ.set i (some v)) H s'->Q () s') (hf:X.fn x=true\/X.env.scope.names.lookup x=some .local:=by first|exact .inl rfl | exact .inr rfl | assumption):qBg M A (storeName X.env x u) Q E s :=
 lV I hN hi hx r (fun s' I' _=>h s' I') hf
theorem Inv.call' {s':qAh}{ch:List Addr} (I:Inv X pins σ H s) (ho:s'.os=s.os) (u:Un (nY X.stack) ch H H' s.heap s'.heap) (cH:jV X.prog X.w H' s'.heap) (hg:qIy s'.gens)
  (hch:∀b∈ch,(b∈X.ex\/X.s₀.heap.objs.size<=b)/\b≠X.env.locals/\(∀x c,X.env.cells.lookup x=some c->c≠b)/\∀p∈X.pn++pins,p.1≠b):Inv X pins σ H' s':=by
 obtain⟨h',g',d',t',o'⟩:=s';have e:o'=s.os:=ho;subst e;exact I.call (g':=g') (t':=t') (d':=d') u cH hg hch
end
abbrev XK:=qAf->Option Addr->Hp->Prop
abbrev St:=List (Option V)
abbrev VK:=V->Hp->Prop
abbrev TE:=St->Hp->VK->Prop
abbrev TT:=St->Hp->(Bool->Hp->Prop)->Prop
abbrev TA:=St->Hp->(List V->Hp->Prop)->Prop
structure Ends where
 nx:St->Hp->Prop
 rt:VK
 bk:St->Hp->Prop:=fun _ _=>False
 ct:St->Hp->Prop:=fun _ _=>False
abbrev TS:=Ends->St->Hp->Prop
def EP (X:Cx) (pins:List (Addr×Obj)) (σ:St) (Q:VK) (u:qAf) (s':qAh):Prop:=∃v H',Inv X pins σ H' s'/\RelV v u/\Q v H'
def TP (X:Cx) (pins:List (Addr×Obj)) (σ:St) (Q:Bool->Hp->Prop) (b:Bool) (s':qAh):Prop:=∃H',Inv X pins σ H' s'/\Q b H'
def AP (X:Cx) (pins:List (Addr×Obj)) (σ:St) (Q:List V->Hp->Prop) (us:List qAf) (s':qAh):Prop:=∃vs H',Inv X pins σ H' s'/\Vals vs us/\Q vs H'
def SP (X:Cx) (pins:List (Addr×Obj)) (D:Ends) (f:Flow) (s':qAh):Prop :=
 match f with
 | .next=>∃σ' H',Inv X pins σ' H' s'/\D.nx σ' H'
 | .brk=>∃σ' H',Inv X pins σ' H' s'/\D.bk σ' H'
 | .cont=>∃σ' H',Inv X pins σ' H' s'/\D.ct σ' H'
 | .ret u=>∃v σ' H',Inv X pins σ' H' s'/\RelV v u/\D.rt v H'
def PE (X:Cx) (e:Expr) (t:TE):Prop :=
 ∀(pins:List (Addr×Obj)) (s:qAh) (σ:St) (H:Hp) (Q:VK),Inv X pins σ H s->t σ H Q->qBg (qBz X.prog X.w) X.A (eval e X.env) (EP X pins σ Q) X.xe s
def PT (X:Cx) (e:Expr) (t:TT):Prop :=
 ∀(pins:List (Addr×Obj)) (s:qAh) (σ:St) (H:Hp) (Q:Bool->Hp->Prop),Inv X pins σ H s->t σ H Q->qBg (qBz X.prog X.w) X.A (qPw e X.env (eval e X.env)) (TP X pins σ Q) X.xe s
def PW (X:Cx) (e:Expr) (t:TT):Prop :=
 ∀(whole:Sem qAf) (pins:List (Addr×Obj)) (s:qAh) (σ:St) (H:Hp) (Q:Bool->Hp->Prop),Inv X pins σ H s->t σ H Q->qBg (qBz X.prog X.w) X.A (qPw e X.env whole) (TP X pins σ Q) X.xe s
theorem PW.pt {X:Cx}{e:Expr}{t:TT} (h:PW X e t):PT X e t:=h _
def PA (X:Cx) (es:List Expr) (t:TA):Prop :=
 ∀(pos:Pos) (pins:List (Addr×Obj)) (s:qAh) (σ:St) (H:Hp) (Q:List V->Hp->Prop),Inv X pins σ H s->t σ H Q->qBg (qBz X.prog X.w) X.A (qOk (qGu pos (qBt es X.env))) (AP X pins σ Q) X.xe s
def PS (X:Cx) (st:Stmt) (t:TS):Prop :=
 ∀(pins:List (Addr×Obj)) (s:qAh) (σ:St) (H:Hp) (D:Ends),Inv X pins σ H s->t D σ H->qBg (qBz X.prog X.w) X.A (exec st X.env) (SP X pins D) X.xe s
def tP (X:Cx) (st:List Stmt) (t:TS):Prop :=
 ∀(pins:List (Addr×Obj)) (s:qAh) (σ:St) (H:Hp) (D:Ends),Inv X pins σ H s->t D σ H->qBg (qBz X.prog X.w) X.A (execs st X.env) (SP X pins D) X.xe s
theorem cB {α:Type}{t:Sem α}{Q Q':α->qAh->Prop}{M:qNx}{A:qCq}{E:qAf->qAh->Prop}{s:qAh} (h:qBg M A t Q E s) (hQ:∀a s,Q a s->Q' a s):qBg M A t Q' E s:=qHf h hQ fun _ _ x=>x
section
variable {X:Cx}
def LD (i:Nat):TE:=fun σ H Q=>∃v,σ[i]?=some (some v)/\Q v H
def tC (v:V):TE:=fun _ H Q=>Q v H
theorem Hn {i:Nat}{x:Str}{pos:Pos} (hN:X.N[i]?=some x) (hv:Ny X.env.scope x) (hd:(x == ("__debug__":Str))=false:=by decide) (hcd:(x == ("__classdict__":Str))=false:=by decide):PE X (.Name x pos) (LD i):=by
 intro pins s σ H Q I h;obtain⟨v,e,h⟩:=h;obtain⟨m,hn,hl⟩:=I.loc;obtain⟨u,r,l⟩:=hl i x v hN e hv;have fin:EP X pins σ Q u s:=⟨v,H,I,r,h⟩;rcases l with ⟨hk,hm⟩ | ⟨hk,c,hc,hcell⟩
 ·exact wpAny_Name (wpAny_loadName_local I.ok.kind hk hn hm fin) hd
 ·rcases hk with hk | hk
  ·exact wpAny_Name (wpAny_loadName_cell I.ok.kind hk hc hcell fin) hd
  ·exact wpAny_Name (wpAny_loadName_free I.ok.kind hk hc hcell fin hcd) hd
theorem aE {i j pos}:PE X (.Constant (.int i) j pos) (tC (.int i)):=fun _ _ _ H _ I h=>wpAny_Constant_int ⟨.int i,H,I.tok _,⟨_,rfl⟩,h⟩
theorem iS {b j pos}:PE X (.Constant (.bool b) j pos) (tC (.bl b)):=fun _ _ _ H _ I h=>Constant_bool ⟨.bl b,H,I,rfl,h⟩
theorem j8 {j pos}:PE X (.Constant .none j pos) (tC .non):=fun _ _ _ H _ I h=>Constant_none ⟨.non,H,I,rfl,h⟩
theorem eJ {x j pos}:PE X (.Constant (.str x) j pos) (tC (.str x)):=fun _ _ _ H _ I h=>Calls.Constant_str ⟨.str x,H,I.tok _,⟨_,rfl⟩,h⟩
def Gl (X:Cx) (x:Str):Prop:=X.env.kindOf x=some .globalImplicit
theorem kK {E:qAf->qAh->Prop}{pins:List (Addr×Obj)}{s:qAh}{σ:St}{H:Hp}{x:Str}{u:qAf}{pos:Pos}{Q:qAf->qAh->Prop} (I:Inv X pins σ H s) (hg:Gl X x) (hm:X.mg x=some u) (h:Q u s)
  (hd:(x == ("__debug__":Str))=false:=by decide):qBg (qBz X.prog X.w) X.A (eval (.Name x pos) X.env) Q E s :=
 qKn I.ok.kind hg (Calls.loadGlobal_global (by rw[I.ok.glob];exact I.mod.glob.keeps I.bk) hm h) hd
theorem fE {E:qAf->qAh->Prop}{pins:List (Addr×Obj)}{s:qAh}{σ:St}{H:Hp}{x:Str}{u:qAf}{pos:Pos}{Q:qAf->qAh->Prop} (I:Inv X pins σ H s) (hg:Gl X x) (hm:X.mg x=none) (hv:qCo x=some u) (h:Q u s)
  (hn:x≠"__name__":=by decide) (hd:(x == ("__debug__":Str))=false:=by decide):qBg (qBz X.prog X.w) X.A (eval (.Name x pos) X.env) Q E s:=by
 obtain⟨mb,h1,h2⟩:=I.mod.blt;exact qKn I.ok.kind hg (Calls.loadGlobal_builtin (by rw[I.ok.glob];exact I.mod.glob.keeps I.bk) hm (by rw[I.ok.blt];exact h1.keeps I.bk) ((h2 x hn).trans hv) h) hd
theorem fH {x:Str}{v:V}{u:qAf}{pos:Pos} (hg:Gl X x) (hm:X.mg x=some u) (r:RelV v u) (hd:(x == ("__debug__":Str))=false:=by decide):PE X (.Name x pos) (tC v) :=
 fun _ _ _ H _ I h=>kK I hg hm ⟨v,H,I,r,h⟩ hd
theorem dO {x:Str}{v:V}{u:qAf}{pos:Pos} (hg:Gl X x) (hm:X.mg x=none) (hv:qCo x=some u) (r:RelV v u) (hn:x≠"__name__":=by decide) (hd:(x == ("__debug__":Str))=false:=by decide):PE X (.Name x pos) (tC v) :=
 fun _ _ _ H _ I h=>fE I hg hm hv ⟨v,H,I,r,h⟩ hn hd
variable {a b:Expr}{ta tb:TE}{pos:Pos}
def tB (t:TE):TT:=fun σ H Q=>t σ H fun x H1=>∃c,x = .bl c/\Q c H1
theorem cE {e:Expr}{t:TE} (h:PE X e t) (he:∀whole,qPw e X.env whole=(do let v <- whole;standAt e.pos;qLo [v] (truthy v)):=by intro _;rfl):PT X e (tB t):=by
 intro pins s σ H Q I hw;refine isTrue_plain (cB (h pins s σ H _ I hw) fun v s1 ⟨x,H1,I1,r1,q1⟩=>?_) (he _);obtain⟨d,rfl,q⟩:=q1;cases r1;exact qDo ⟨H1,I1,q⟩
variable {tA tB':TT}{rest:List Expr}
def NL (t u:TT):TT:=fun σ H Q=>t σ H fun c H1=>if c=true then u σ H1 Q else Q false H1
def Ph (t u:TT):TT:=fun σ H Q=>t σ H fun c H1=>if c=true then Q true H1 else u σ H1 Q
def NM (t:TT):TT:=fun σ H Q=>t σ H fun c H1=>Q (!c) H1
theorem pw_and1 (ha:PT X a tA):PW X (.BoolOp .And [a] pos) tA:=by
 intro wh pins s σ H Q I h;refine isTrue_and (cB (ha pins s σ H Q I h) fun c s1 e=>?_);cases c with
 | true=>exact isTrue_and_nil e
 | false=>exact e
theorem pw_or1 (ha:PT X a tA):PW X (.BoolOp .Or [a] pos) tA:=by
 intro wh pins s σ H Q I h;refine isTrue_or (cB (ha pins s σ H Q I h) fun c s1 e=>?_);cases c with
 | false=>exact isTrue_or_nil e
 | true=>exact e
theorem pw_and (ha:PT X a tA) (hb:PW X (.BoolOp .And (b::rest) pos) tB'):PW X (.BoolOp .And (a::b::rest) pos) (NL tA tB'):=by
 intro wh pins s σ H Q I h;refine isTrue_and (cB (ha pins s σ H _ I h) fun c s1 ⟨H1,I1,q1⟩=>?_);cases c with
 | true=>exact hb wh pins s1 σ H1 Q I1 q1
 | false=>exact⟨H1,I1,q1⟩
theorem pw_or (ha:PT X a tA) (hb:PW X (.BoolOp .Or (b::rest) pos) tB'):PW X (.BoolOp .Or (a::b::rest) pos) (Ph tA tB'):=by
 intro wh pins s σ H Q I h;refine isTrue_or (cB (ha pins s σ H _ I h) fun c s1 ⟨H1,I1,q1⟩=>?_);cases c with
 | true=>exact⟨H1,I1,q1⟩
 | false=>exact hb wh pins s1 σ H1 Q I1 q1
theorem cL (ha:PT X a tA):PT X (.UnaryOp .Not a pos) (NM tA):=by
 intro pins s σ H Q I h;exact isTrue_not (ha pins s σ H (fun c H1=>Q (!c) H1) I h)
def LF (ta tb:TE):TE:=fun σ H Q=>ta σ H fun x H1=>∃c,x = .bl c/\if c=true then tb σ H1 Q else Q (.bl false) H1
def NO (ta tb:TE):TE:=fun σ H Q=>ta σ H fun x H1=>∃c,x = .bl c/\if c=true then Q (.bl true) H1 else tb σ H1 Q
def LG (ta:TE):TE:=fun σ H Q=>ta σ H fun x H1=>∃c,x = .bl c/\Q (.bl (!c)) H1
theorem iT {op}{t:TE} (h:PE X a t):PE X (.BoolOp op [a] pos) t:=fun pins s σ H Q I hw=>BoolOp_one (h pins s σ H Q I hw)
theorem iU (ha:PE X a ta) (hb:PE X (.BoolOp .And (b::rest) pos) tb):PE X (.BoolOp .And (a::b::rest) pos) (LF ta tb):=by
 intro pins s σ H Q I h;refine BoolOp_and (cB (ha pins s σ H _ I h) fun v s1 ⟨x,H1,I1,r1,q1⟩=>?_);obtain⟨c,rfl,q1⟩:=q1;cases r1;refine qDo ?_;cases c with
 | true=>exact hb pins s1 σ H1 Q I1 q1
 | false=>exact⟨.bl false,H1,I1,rfl,q1⟩
theorem LH (ha:PE X a ta) (hb:PE X (.BoolOp .Or (b::rest) pos) tb):PE X (.BoolOp .Or (a::b::rest) pos) (NO ta tb):=by
 intro pins s σ H Q I h;refine BoolOp_or (cB (ha pins s σ H _ I h) fun v s1 ⟨x,H1,I1,r1,q1⟩=>?_);obtain⟨c,rfl,q1⟩:=q1;cases r1;refine qDo ?_;cases c with
 | false=>exact hb pins s1 σ H1 Q I1 q1
 | true=>exact⟨.bl true,H1,I1,rfl,q1⟩
theorem Bm (ha:PE X a ta):PE X (.UnaryOp .Not a pos) (LG ta):=by
 intro pins s σ H Q I h;refine UnaryOp_ (cB (ha pins s σ H _ I h) fun v s1 ⟨x,H1,I1,r1,q1⟩=>?_);obtain⟨c,rfl,q1⟩:=q1;cases r1;exact not_of (qDo ⟨.bl (!c),H1,I1,rfl,q1⟩)
def Pj (t:TT) (ta tb:TE):TE:=fun σ H Q=>t σ H fun c H1=>if c=true then ta σ H1 Q else tb σ H1 Q
theorem nZ {c:Expr} (hc:PT X c tA) (ha:PE X a ta) (hb:PE X b tb):PE X (.IfExp c a b pos) (Pj tA ta tb):=by
 intro pins s σ H Q I h;refine wpAny_IfExp (cB (hc pins s σ H _ I h) fun d s1 ⟨H1,I1,q1⟩=>?_);cases d with
 | true=>exact ha pins s1 σ H1 Q I1 q1
 | false=>exact hb pins s1 σ H1 Q I1 q1
end
def aT (K:qAc) (H:Hp) (a:Addr) (xs:List V):Prop :=
 Rd H a (.lst xs) \/
  ∃(o:Obj) (its:Array qAf) (n:Nat),K.lookup a=some o/\o.cls = .type "list"/\o.dict=none/\o.data = .seq its n/\its.size<=qAj/\Vals xs its.toList
def cQ (K:qAc) (H:Hp) (a:Addr) (xs:List V):Prop :=
 Rd H a (.tup xs) \/
  ∃(o:Obj) (its:Array qAf) (n:Nat),K.lookup a=some o/\o.cls = .type "tuple"/\o.data = .seq its n/\its.size<=qAj/\Vals xs its.toList
def NP:qAf->Option V
 | .none=>some .non
 | .bool b=>some (.bl b)
 | .int i _=>some (.int i)
 | .str x _=>some (.str x)
 | .bytes b _=>some (.byt b)
 | .float b _=>some (.flt b)
 | .ref a=>some (.ref a)
 | .type n=>some (.ty n)
 | _=>none
theorem RelV.abs {x:V}{u:qAf} (r:RelV x u):NP u=some x:=by
 cases x with
 | non=>cases r;rfl
 | bl _=>cases r;rfl
 | int _=>obtain⟨t,rfl⟩:=r;rfl
 | str _=>obtain⟨t,rfl⟩:=r;rfl
 | byt _=>obtain⟨t,rfl⟩:=r;rfl
 | flt _=>obtain⟨t,rfl⟩:=r;rfl
 | ref _=>cases r;rfl
 | ty _=>cases r;rfl
theorem RelV.inj {x y:V}{u:qAf} (r:RelV x u) (q:RelV y u):x=y:=Option.some.inj (r.abs.symm.trans q.abs)
theorem Vals.inj:∀{xs ys:List V}{us:List qAf},Vals xs us->Vals ys us->xs=ys
 | _,_,_,.nil,.nil=>rfl
 | _,_,_,.cons r t,.cons r' t'=>by rw[r.inj r',Vals.inj t t']
section
variable {X:Cx}{pins:List (Addr×Obj)}{σ:St}{H:Hp}{s:qAh}{a:Addr}{xs ys:List V}
theorem aT.of {K:qAc} (h:H a=some (.lst xs)):aT K H a xs:=.inl (.inl h)
theorem cQ.of {K:qAc} (h:H a=some (.tup xs)):cQ K H a xs:=.inl (.inl h)
theorem Inv.list (I:Inv X pins σ H s) (h:aT X.K H a xs):∃its:List qAf,Vals xs its/\PlainL s.heap a its.toArray/\xs.length<=qAj:=by
 rcases h with h | ⟨o,its,n,hk,hc,hd,hs,hz,r⟩
 ·obtain⟨z,its,n,r,e⟩:=h.ok I.cH;exact⟨its,r,⟨_,n,e,rfl,rfl,rfl⟩,z⟩
 ·refine⟨its.toList,r,⟨o,n,I.vX a o hk,hc,hd,by simpa using hs⟩,?_⟩;have e:=r.length;simp only[qBs] at e;omega
theorem Inv.tuple (I:Inv X pins σ H s) (h:cQ X.K H a xs):∃its:List qAf,Vals xs its/\IsTup s.heap a its.toArray/\xs.length<=qAj:=by
 rcases h with h | ⟨o,its,n,hk,hc,hs,hz,r⟩
 ·obtain⟨z,its,r,p⟩:=h.ok I.cH;exact⟨its,r,p,z⟩
 ·refine⟨its.toList,r,⟨o,I.vX a o hk,hc,n,by simpa using hs⟩,?_⟩;have e:=r.length;simp only[qBs] at e;omega
theorem Inv.iV (I:Inv X pins σ H s) (h:aT X.K H a xs) (h':aT X.K H a ys):xs=ys:=by
 obtain⟨its,r,⟨o,n,e,_,_,d⟩,_⟩:=I.list h;obtain⟨its',r',⟨o',n',e',_,_,d'⟩,_⟩:=I.list h';rw[e] at e';cases e';rw[d] at d';injection d' with d1 _;have:its=its':=by simpa using congrArg Array.toList d1
 subst this;exact r.inj r'
end
abbrev Cx.pQ (X:Cx) (E:qAf->qAh->Prop):Cx:={ X with xe:=E }
abbrev Cx.Lo (X:Cx):Cx:=X.pQ fun _ _=>False
theorem Cx.Ok.pQ {X:Cx} (ok:X.Ok) (E:qAf->qAh->Prop):(X.pQ E).Ok :=
 ⟨ok.mod,ok.kind,ok.glob,ok.blt,ok.above,ok.inj,ok.has,ok.LC,ok.hd,ok.frames,ok.Nz,ok.OU,ok.bs,ok.Ei,ok.Ab,ok.Ej,ok.kJ,ok.Hk⟩
theorem Cx.Ok.iW {X:Cx}{E:qAf->qAh->Prop} (ok:(X.pQ E).Ok):X.Ok :=
 ⟨ok.mod,ok.kind,ok.glob,ok.blt,ok.above,ok.inj,ok.has,ok.LC,ok.hd,ok.frames,ok.Nz,ok.OU,ok.bs,ok.Ei,ok.Ab,ok.Ej,ok.kJ,ok.Hk⟩
section
variable {X:Cx}{pins:List (Addr×Obj)}{σ:St}{H:Hp}{s:qAh}{E:qAf->qAh->Prop}
theorem Inv.pQ (I:Inv X pins σ H s) (E:qAf->qAh->Prop):Inv (X.pQ E) pins σ H s:=⟨I.ok.pQ E,I.os,I.bare,I.base,I.loc,I.cell,I.free,I.iP,I.pin,I.cH,I.len⟩
theorem Inv.iW (I:Inv (X.pQ E) pins σ H s):Inv X pins σ H s:=⟨I.ok.iW,I.os,I.bare,I.base,I.loc,I.cell,I.free,I.iP,I.pin,I.cH,I.len⟩
theorem SP.iW {D:Ends}{f:Flow}{s':qAh} (h:SP (X.pQ E) pins D f s'):SP X pins D f s':=by
 cases f with
 | next=>obtain⟨σ',H',I,q⟩:=h;exact⟨σ',H',I.iW,q⟩
 | brk=>obtain⟨σ',H',I,q⟩:=h;exact⟨σ',H',I.iW,q⟩
 | cont=>obtain⟨σ',H',I,q⟩:=h;exact⟨σ',H',I.iW,q⟩
 | ret u=>obtain⟨v,σ',H',I,r,q⟩:=h;exact⟨v,σ',H',I.iW,r,q⟩
theorem tP.Lo {st:List Stmt}{t:TS} (h:tP X.Lo st t):tP X st t:=fun pins s σ H D I hw =>
 qHf (h pins s σ H D (I.pQ _) hw) (fun _ _ q=>q.iW) fun _ _ z=>False.elim z
end
section
variable {X:Cx}{st:Stmt}{rest:List Stmt}{t u:TS}{e:Expr}{te:TE}{pos:Pos}
def FL:TS:=fun D σ H=>D.nx σ H
def Ho (t u:TS):TS:=fun D σ H=>t { D with nx:=u D } σ H
theorem bH:tP X [] FL:=fun _ _ σ H _ I h=>qIt ⟨σ,H,I,h⟩
theorem aD (h1:PS X st t) (h2:tP X rest u):tP X (st::rest) (Ho t u):=by
 intro pins s σ H D I h;refine wpAny_execs_cons (cB (h1 pins s σ H { D with nx:=u D } I h) fun f s1 q=>?_);cases f with
 | next =>
  obtain⟨σ',H',I',q⟩:=q;exact h2 pins s1 σ' H' D I' q
 | ret v=>exact q
 | brk=>exact q
 | cont=>exact q
theorem aH (h1:PS X st t):tP X [st] t:=by
 intro pins s σ H D I h;refine wpAny_execs_cons (cB (h1 pins s σ H D I h) fun f s1 q=>?_);cases f with
 | next=>exact qIt q
 | ret v=>exact q
 | brk=>exact q
 | cont=>exact q
def Hq:TS:=fun D σ H=>D.bk σ H
theorem Bn:PS X (.Break pos) Hq:=fun _ _ σ H _ I h=>wpAny_Break ⟨σ,H,I,h⟩
theorem Inv.quiet {pins:List (Addr×Obj)}{σ:St}{H:Hp}{s:qAh} (I:Inv X pins σ H s):interactive X.env=false:=by simp[interactive,I.ok.kind]
def LI (te:TE):TS:=fun D σ H=>te σ H fun _ H1=>D.nx σ H1
theorem fI (he:PE X e te) (hs:qJz e none pos.line X.env=pure false:=by rfl):PS X (.Expr e pos) (LI te):=by
 intro pins s σ H D I h;exact wpAny_Expr_any (cB (he pins s σ H _ I h) fun v s1 ⟨x,H1,I1,r1,q1⟩=>⟨σ,H1,I1,q1⟩) I.quiet hs
def NQ (te:TE):TS:=fun D σ H=>te σ H D.rt
theorem aU (he:PE X e te):PS X (.Return (some e) pos) (NQ te):=by
 intro pins s σ H D I h;exact wpAny_Return_some (cB (he pins s σ H _ I h) fun v s1 ⟨x,H1,I1,r1,q1⟩=>⟨x,σ,H1,I1,r1,q1⟩)
def Hr (c:TT) (t u:TS):TS:=fun D σ H=>c σ H fun b H1=>if b=true then t D σ H1 else u D σ H1
theorem cF {c:Expr}{a b:List Stmt}{tc:TT} (hc:PT X c tc) (ha:tP X a t) (hb:tP X b u):PS X (.If c a b pos) (Hr tc t u):=by
 intro pins s σ H D I h;refine wpAny_If (cB (hc pins s σ H _ I h) fun d s1 ⟨H1,I1,q1⟩=>?_);cases d with
 | true=>exact ha pins s1 σ H1 D I1 q1
 | false=>exact hb pins s1 σ H1 D I1 q1
end
abbrev TG:=V->St->Hp->(St->Hp->Prop)->Prop
abbrev Hs:=List V->St->Hp->(St->Hp->Prop)->Prop
def PG (X:Cx) (target:Expr) (t:TG):Prop :=
 ∀(pins:List (Addr×Obj)) (s:qAh) (σ:St) (H:Hp) (v:V) (u:qAf) (Q:St->Hp->Prop),Inv X pins σ H s->RelV v u->t v σ H Q ->
  qBg (qBz X.prog X.w) X.A (qKf target X.env u) (fun _ s'=>∃σ' H',Inv X pins σ' H' s'/\Q σ' H') X.xe s
def LJ (X:Cx) (ts:List Expr) (t:Hs):Prop :=
 ∀(pins:List (Addr×Obj)) (s:qAh) (σ:St) (H:Hp) (vs:List V) (us:List qAf) (Q:St->Hp->Prop),Inv X pins σ H s->Vals vs us->t vs σ H Q ->
  qBg (qBz X.prog X.w) X.A (assignInOrder ((qJd ts X.env).map (·.2)) us) (fun _ s'=>∃σ' H',Inv X pins σ' H' s'/\Q σ' H') X.xe s
abbrev Ht:=V->V->V->Hp->(Hp->Prop)->Prop
def Hu (X:Cx) (t:Ht):Prop :=
 ∀(pins:List (Addr×Obj)) (s:qAh) (σ:St) (H:Hp) (o i v:V) (ov iv u:qAf) (Q:Hp->Prop),Inv X pins σ H s->RelV o ov->RelV i iv->RelV v u->t o i v H Q ->
  qBg (qBz X.prog X.w) X.A (setItem ov iv u) (fun _ s'=>∃H',Inv X pins σ H' s'/\Q H') X.xe s
abbrev NA:=V->V->Hp->VK->Prop
def NU (X:Cx) (op:Operator) (t:NA):Prop :=
 ∀(pins:List (Addr×Obj)) (s:qAh) (σ:St) (H:Hp) (x y:V) (v u:qAf) (Q:VK),Inv X pins σ H s->RelV x v->RelV y u->t x y H Q ->
  qBg (qBz X.prog X.w) X.A (qNw op v u) (EP X pins σ Q) X.xe s
section
variable {X:Cx}{pos:Pos}
def aX (i:Nat):TG:=fun v σ H Q=>Q (σ.set i (some v)) H
theorem aN {i:Nat}{x:Str} (hN:X.N.Nodup) (hi:X.N[i]?=some x) (hx:Loc X.env.scope x) (hf:X.fn x=true\/X.env.scope.names.lookup x=some .local:=by first|exact .inl rfl | exact .inr rfl | assumption):PG X (.Name x pos) (aX i):=by
 intro pins s σ H v u Q I r h;exact wpAny_assign_Name (iR I hN hi hx r (fun s' I'=>⟨_,H,I',h⟩) hf)
def n4:Hs:=fun vs σ H Q=>vs=[]/\Q σ H
def dU (t:TG) (u:Hs):Hs:=fun vs σ H Q=>∃v r,vs=v::r/\t v σ H fun σ' H'=>u r σ' H' Q
theorem c8:LJ X [] n4:=by
 intro pins s σ H vs us Q I r h;obtain⟨e,h⟩:=h;subst e;cases r;exact assignInOrder_nil ⟨σ,H,I,h⟩
theorem bF {e:Expr}{es:List Expr}{t:TG}{u:Hs} (h1:PG X e t) (h2:LJ X es u)
  (hs:(qJd (e::es) X.env).map (·.2)=qKf e X.env::(qJd es X.env).map (·.2):=by rfl):LJ X (e::es) (dU t u):=by
 intro pins s σ H vs us Q I r h;obtain⟨v,vr,e1,h⟩:=h;subst e1;cases r with
 | cons r rr =>
  rw[hs];refine assignInOrder_cons (cB (h1 pins s σ H _ _ _ I r h) fun _ s1 ⟨σ1,H1,I1,q1⟩=>?_);exact h2 pins s1 σ1 H1 _ _ Q I1 rr q1
def n6 (K:qAc) (n:Nat) (t:Hs):TG:=fun v σ H Q=>∃a xs,v = .ref a/\cQ K H a xs/\xs.length=n/\t xs σ H Q
theorem eL {es:List Expr}{k:Nat}{t:Hs}{n:Nat} (hc:X.calm=true) (h:LJ X es t)
  (hn:(qJd es X.env).length=n:=by rfl) (hst:(qJd es X.env).findIdx? (·.1)=none:=by rfl):PG X (.Tuple es k pos) (n6 X.K n t):=by
 intro pins s σ H v u Q I r hw;obtain⟨a,xs,e1,hq,hl,hw⟩:=hw;subst e1;cases r;obtain⟨its,rv,ht,hz⟩:=I.tuple hq;refine assign_Tuple_tuple (I.ok.hd hc) ht (by simp[hn,<- hl,rv.length]) hst fun h' hx=>?_;have I1:Inv X pins σ H { s with heap:=h' }:=I.kept (t':=s.toks) fun b o e=>hx b o (qBd (qAr e)) e;exact h pins _ σ H xs _ Q I1 (by simpa using rv) hw
def NV (to ti:TE) (t:Ht):TG:=fun v σ H Q=>to σ H fun o H1=>ti σ H1 fun i H2=>t o i v H2 fun H3=>Q σ H3
theorem iI {o i:Expr}{to ti:TE}{t:Ht} (ho:PE X o to) (hi:PE X i ti) (hs:Hu X t)
  (ha:∀v,qKf (.Subscript o i pos) X.env v=(do
   let ov <- qLo [v] (eval o X.env)
   let iv <- qLo [v,ov] (eval i X.env)
   standAt pos
   qLo [v,ov,iv] (setItem ov iv v)
   release [v,ov,iv] []):=by intro _;rfl):PG X (.Subscript o i pos) (NV to ti t):=by
 intro pins s σ H v u Q I r h;rw[ha];refine qAa (qDi (cB (ho pins s σ H _ I h) fun ov s1 ⟨x,H1,I1,r1,q1⟩=>?_));refine qAa (qDi (cB (hi pins s1 σ H1 _ I1 q1) fun iv s2 ⟨y,H2,I2,r2,q2⟩=>?_));refine qAa (qIg (qAa (qDi (cB (hs pins s2 σ H2 x y v ov iv u _ I2 r1 r2 r q2) fun _ s3 ⟨H3,I3,q3⟩=>?_))));exact wpAny_release ⟨σ,H3,I3,q3⟩
def LK (te:TE) (g:TG):TS:=fun D σ H=>te σ H fun x H1=>g x σ H1 D.nx
theorem iJ {tg e:Expr}{te:TE}{g:TG} (he:PE X e te) (hg:PG X tg g) (hs:swapsWithSole [tg] e pos.line X.env=pure false:=by rfl) (hw:swappedStores [tg] e X.env=pure none:=by rfl)
  (h1:(qJd [tg] X.env).map (·.2)=[qKf tg X.env]:=by rfl):PS X (.Assign [tg] e pos) (LK te g):=by
 intro pins s σ H D I h;refine wpAny_Assign_stores (cB (he pins s σ H _ I h) fun v s1 ⟨x,H1,I1,r1,q1⟩=>?_) hs hw;rw[h1];exact cB (hg pins s1 σ H1 x v _ I1 r1 q1) fun _ s2 q=>q
theorem aP {i:Nat}{x:Str}{e:Expr}{te:TE}{pos':Pos} (hN:X.N.Nodup) (hi:X.N[i]?=some x) (hx:Loc X.env.scope x) (he:PE X e te) (hs:qJz e (some (.Name x pos')) pos.line X.env=pure false:=by rfl) (hf:X.fn x=true\/X.env.scope.names.lookup x=some .local:=by first|exact .inl rfl | exact .inr rfl | assumption) :
  PS X (.Assign [.Name x pos'] e pos) (LK te (aX i)):=by
 intro pins s σ H D I h;refine wpAny_Assign_Name (cB (he pins s σ H _ I h) fun v s1 ⟨y,H1,I1,r1,q1⟩=>?_) hs;exact iR I1 hN hi hx r1 (fun s2 I2=>⟨_,H1,I2,q1⟩) hf
def NW (i j:Nat) (ta:TA):TS:=fun D σ H=>ta σ H fun vs H1=>∃v w,vs=[v,w]/\D.nx ((σ.set i (some v)).set j (some w)) H1
theorem Hv {i j:Nat}{x y:Str}{a b:Expr}{ta:TA}{px py pt:Pos} {kt k2 pt2} (hc:X.calm=true) (hN:X.N.Nodup) (hi:X.N[i]?=some x) (hj:X.N[j]?=some y) (hij:i≠j)
  (hx:X.env.scope.names.lookup x=some .local) (hy:X.env.scope.names.lookup y=some .local) (ha:PA X [a,b] ta)
  (hw:swappedStores [.Tuple [.Name x px,.Name y py] kt pt] (.Tuple [a,b] k2 pt2) X.env=pure (some [x,y]))
  (hs:swapsWithSole [.Tuple [.Name x px,.Name y py] kt pt] (.Tuple [a,b] k2 pt2) pos.line X.env=pure false:=by rfl) :
  PS X (.Assign [.Tuple [.Name x px,.Name y py] kt pt] (.Tuple [a,b] k2 pt2) pos) (NW i j ta):=by
 intro pins s σ H D I h;rw[exec_Assign_arm];refine qAa (qIg ?_);rw[hs];refine qAa (qAe ?_);rw[if_neg (by decide)];refine qAa (Tuple_ (cB (ha _ pins s σ H _ I h) fun us s1 ⟨vs,H1,I1,r1,q1⟩=>?_));obtain⟨v,w,e1,q1⟩:=q1;subst e1;obtain⟨u1,u2,rfl,rv,rw'⟩:∃u1 u2,us=[u1,u2]/\RelV v u1/\RelV w u2:=by
  cases r1 with
  | cons p q =>
   cases q with
   | cons p' q' =>
    cases q'
    exact⟨_,_,rfl,p,p'⟩
 refine qCh ?_ (lS);have I2:Inv X pins σ H1 { s1 with heap:=s1.heap.push { cls:=.type "tuple",data:=.seq [u1,u2].toArray } }:=I1.kept (t':=s1.toks) fun b o e=>qAi _ e;rw[hw];refine qAa (qAe ?_);show qBg (qBz X.prog X.w) X.A (do rule "assign.swapped-stores";let items <- unpackItems (.ref s1.heap.objs.size) 2 none;assignInOrder [fun v=>qOv X.env y v,fun v=>qOv X.env x v] items.reverse;pure Flow.next) _ _ _;refine qAa (qGj (qAa (unpackItems_tuple (items:=#[u1,u2]) (I.ok.hd hc) (IsTup.new s1.heap _) fun h' hx'=>?_)));have I3:=I2.kept (h':=h') (t':=s1.toks) fun b o e=>hx' b o (qBd (qAr e)) e;show qBg _ _ (assignInOrder [fun v=>qOv X.env y v,fun v=>qOv X.env x v] [u2,u1] >>= fun _=>pure Flow.next) _ _ _;refine qAa (assignInOrder_cons (wpAny_bindName (iR I3 hN hj (.inl hy) rw' (fun s2 I4=>?_) (.inr hy))));refine assignInOrder_cons (wpAny_bindName (iR I4 hN hi (.inl hx) rv (fun s3 I5=>assignInOrder_nil (qAe ?_)) (.inr hx)));rw[List.set_comm _ _ (Ne.symm hij)] at I5;exact⟨_,H1,I5,q1⟩
def NX (i:Nat) (te:TE) (ti:NA):TS:=fun D σ H=>∃x,σ[i]?=some (some x)/\te σ H fun y H1=>ti x y H1 fun z H2=>D.nx (σ.set i (some z)) H2
theorem rK {i:Nat}{x:Str}{e:Expr}{te:TE}{op:Operator}{ti:NA}{pos':Pos} (hN:X.N.Nodup) (hi:X.N[i]?=some x) (hx:Loc X.env.scope x) (he:PE X e te) (ho:NU X op ti) (hf:X.fn x=true\/X.env.scope.names.lookup x=some .local:=by first|exact .inl rfl | exact .inr rfl | assumption) :
  PS X (.AugAssign (.Name x pos') op e pos) (NX i te ti):=by
 intro pins s σ H D I h;obtain⟨v,e1,h⟩:=h;obtain⟨m,hn,hl⟩:=I.loc;have vis:Ny X.env.scope x:=by rcases hx with k | k;exact .inl k;exact .inr (.inl k)
 obtain⟨u,r,l⟩:=hl i x v hi e1 vis;refine wpAny_AugAssign_Name ?_;have go:qBg (qBz X.prog X.w) X.A (eval e X.env) (fun w s₂=>qBg (qBz X.prog X.w) X.A (qNw op u w) (fun r s₃=>qBg (qBz X.prog X.w) X.A (storeName X.env x r) (fun _=>SP X pins D .next) X.xe s₃) X.xe s₂) X.xe s:=by
  refine cB (he pins s σ H _ I h) fun w s1 ⟨y,H1,I1,r1,q1⟩=>?_;refine cB (ho pins s1 σ H1 v y u w _ I1 r r1 q1) fun z s2 ⟨zv,H2,I2,r2,q2⟩=>?_;exact iR I2 hN hi hx r2 (fun s3 I3=>⟨_,H2,I3,q2⟩) hf
 rcases l with ⟨hk,hm⟩ | ⟨hk,c,hc,hcell⟩
 ·exact wpAny_loadName_local I.ok.kind hk hn hm go
 ·rcases hk with hk | hk
  ·exact wpAny_loadName_cell I.ok.kind hk hc hcell go
  ·rcases hx with k | k
   ·have:X.env.scope.names.lookup x=some .free:=hk;rw[k] at this;cases this
   ·have:X.env.scope.names.lookup x=some .free:=hk;rw[k] at this;cases this
def NY (X:Cx) (t:V->V->Hp->VK->Prop):Prop :=
 ∀(pins:List (Addr×Obj)) (s:qAh) (σ:St) (H:Hp) (o i:V) (ov iv:qAf) (Q:VK),Inv X pins σ H s->RelV o ov->RelV i iv->t o i H Q ->
  qBg (qBz X.prog X.w) X.A (qIi ov iv) (EP X pins σ Q) X.xe s
end
section
variable {X:Cx}{pos:Pos}
def Hw (c:TT) (tb:TS):TS:=fun D σ H=>∃W:Nat->St->Hp->Prop,(∃m,W m σ H)/\∀m σ H,W m σ H ->
 c σ H fun b H1=>if b=true then ∃N:St->Hp->Prop,(∀σ' H',N σ' H'->∃m',m'<m/\W m' σ' H')/\tb { D with nx:=N,ct:=N,bk:=D.nx } σ H1 else D.nx σ H1
theorem kL {c:Expr}{body:List Stmt}{tc:TT}{tb:TS} (hp:PassesOwn (qBz X.prog X.w) X.A X.env X.xe) (hc:PT X c tc) (hb:tP X body tb):PS X (.While c body [] pos) (Hw tc tb):=by
 intro pins s σ H D I h;obtain⟨W,⟨m0,w0⟩,turn⟩:=h;refine wpAny_While (codeAny_whileLoop (fun n s'=>∃σ' H',Inv X pins σ' H' s'/\W n σ' H') ?_ m0 ⟨σ,H,I,w0⟩);rintro n s1 ⟨σ1,H1,I1,w1⟩;refine qFf hp (cB (hc pins s1 σ1 H1 _ I1 (turn n σ1 H1 w1)) fun b s2 ⟨H2,I2,q2⟩=>?_);cases b with
 | true =>
  obtain⟨N,hN,q2⟩:=q2;rw[if_pos rfl];refine qFf hp (cB (hb pins s2 σ1 H2 _ I2 q2) fun f s3 q3=>?_);cases f with
  | next =>
   obtain⟨σ3,H3,I3,n3⟩:=q3;obtain⟨m',hm,w3⟩:=hN σ3 H3 n3;exact⟨m',hm,σ3,H3,I3,w3⟩
  | cont =>
   obtain⟨σ3,H3,I3,n3⟩:=q3;obtain⟨m',hm,w3⟩:=hN σ3 H3 n3;exact⟨m',hm,σ3,H3,I3,w3⟩
  | brk=>exact q3
  | ret v=>exact q3
 | false =>
  rw[if_neg qAm];exact qIt ⟨σ1,H2,I2,q2⟩
end
structure It where
 go:Nat->Hp->Prop
 pR:Nat->Hp->V->Hp->Prop
 stop:Nat->Hp->Prop
def iX (X:Cx) (pins:List (Addr×Obj)) (H:Hp) (b:Addr):Prop :=
 H b=none/\b≠X.env.locals/\b∉X.fs/\(b∈X.ex\/X.s₀.heap.objs.size<=b)/\(∀x c,X.env.cells.lookup x=some c->c≠b)/\∀p∈X.pn++pins,p.1≠b
theorem Inv.Ac {X:Cx}{pins:List (Addr×Obj)}{σ:St}{H H':Hp}{s:qAh}{b:Addr} (I:Inv X pins σ H s) (hb:s.heap.objs.size<=b) (hn:H' b=none):iX X pins H' b:=by
 refine⟨hn,qGh (qAx I.lt hb),I.Hl hb,.inr (qCx I.sz hb),fun x c e z=>?_,fun p hp z=>?_⟩
 ·obtain⟨v,q⟩:=I.cell x c e;exact absurd (qAx q.lt (by rw[z];exact hb)) (qDg _)
 ·exact absurd (qAx (qAr (I.pin p hp).1) (by rw[z];exact hb)) (qDg _)
structure Turn (P:qBl) (w:qCw) (K:qAc) (tg:Expr) (J:It) (fp:List Addr) (it:Addr) (tn:Nat->Heap->Prop):Prop where
 mem:it∈fp
 obj:∀i h,tn i h->∀b∈fp,∃o,h.get? b=some o/\∀v,o.data≠.cell v
 keep:∀i h h',tn i h->(∀b∈fp,∀o,h.get? b=some o->h'.get? b=some o)->tn i h'
 item:∀(X:Cx),X.prog=P->X.w=w->X.K=K->X.calm=true->∀(i:Nat) (pins:List (Addr×Obj)) (s:qAh) (σ:St) (H:Hp) (E:qAf->qAh->Prop),Inv X pins σ H s->(∀b∈fp,iX X pins H b)->tn i s.heap->J.go i H ->
  qBg (qBz P w) X.A (qIv (.ref it)) (fun r s1=>∃u,r=some u /\
   qBg (qBz P w) X.A (qIw tg (.ref it) u) (fun _ s2=>∃x H',Inv X pins σ H' s2/\RelV x u/\J.pR i H x H'/\tn (i+1) s2.heap/\∀b∈fp,H' b=none) E s1) E s
 done:∀(X:Cx),X.prog=P->X.w=w->X.K=K->X.calm=true->∀(i:Nat) (pins:List (Addr×Obj)) (s:qAh) (σ:St) (H:Hp) (E:qAf->qAh->Prop),Inv X pins σ H s->(∀b∈fp,iX X pins H b)->tn i s.heap->J.stop i H ->
  qBg (qBz P w) X.A (qIv (.ref it)) (fun r s1=>r=none/\Inv X pins σ H s1) E s
 self:∀(A:qCq) (i:Nat) (s:qAh) (Q:qAf->qAh->Prop) (E:qAf->qAh->Prop),tn i s.heap->Q (.ref it) s->qBg (qBz P w) A (qMp (.ref it)) Q E s
abbrev TI:=St->Hp->(It->Hp->Prop)->Prop
def OV (X:Cx) (pins:List (Addr×Obj)) (σ:St) (tg:Expr) (R:It->Hp->Prop) (itv:qAf) (s2:qAh):Prop :=
 ∃(it:Addr) (fp:List Addr) (tn:Nat->Heap->Prop) (J:It) (H':Hp),itv = .ref it/\Inv X pins σ H' s2/\Turn X.prog X.w X.K tg J fp it tn/\tn 0 s2.heap/\(∀b∈fp,iX X pins H' b)/\R J H'
def PI (X:Cx) (tg iter:Expr) (wi:TI):Prop :=
 ∀(pins:List (Addr×Obj)) (s:qAh) (σ:St) (H:Hp) (R:It->Hp->Prop),Inv X pins σ H s->wi σ H R ->
  qBg (qBz X.prog X.w) X.A (eval iter X.env) (fun v s1=>qBg (qBz X.prog X.w) X.A (qMp v) (OV X pins σ tg R) X.xe s1) X.xe s
theorem x9 {M:qNx}{A:qCq}{E:qAf->qAh->Prop}{s:qAh}{tg:Expr}{it:Addr}{u:qAf}{o:Obj}{n:String}{vs:Array qAf}{Q:Unit->qAh->Prop} (ho:s.heap.get? it=some o) (hc:o.cls = .type n) (hd:o.data = .fields vs)
    (hn:["enumerate","zip","dict_itemiterator","dict_reverseitemiterator","odict_iterator","itertools.zip_longest","itertools.pairwise"].contains n=false) (hQ:Q () s):qBg M A (qIw tg (.ref it) u) Q E s:=by
  unfold qIw
  cases tg <;> first
    | exact qAe hQ
    | (cases u <;> first
        | exact qAe hQ
        | (refine qAa (wpAny_load ho ?_)
           rw[hc,hd]
           show qBg M A (if (["enumerate","zip","dict_itemiterator","dict_reverseitemiterator","odict_iterator","itertools.zip_longest","itertools.pairwise"].contains n&&vs[0]? == some (qJg _))=true then _ else _) Q E s
           rw[if_neg (by intro h;rw[hn,qFh] at h;cases h)]
           exact qAe hQ))
def yA (K:qAc) (a:Addr):It :=
 ⟨fun i H=>∃xs x,aT K H a xs/\xs[i]?=some x,fun i H x H'=>H'=H/\∀xs,aT K H a xs->xs[i]?=some x,fun i H=>∃xs,aT K H a xs/\xs.length<=i⟩
def pO (lo:Int) (n:Nat):It:=⟨fun i _=>i<n,fun i H x H'=>H'=H/\x = .int (lo+i),fun i _=>n<=i⟩
theorem Ad {P:qBl}{w:qCw}{K:qAc}{tg:Expr} (a it:Addr):Turn P w K tg (yA K a) [it] it (fun i h=>h.IsListIter it a i) where
 mem:=by simp
 obj:=fun i h st b hb=>by
  have e:b=it:=by simpa using hb
  subst e;obtain⟨o,e,c,d⟩:=st;exact⟨o,e,fun v z=>by rw[d] at z;cases z⟩
 keep:=fun i h h' st k=>st.at fun o e=>k it (by simp) o e
 item:=by
  intro X hP hw hK hc i pins s σ H E I hf st hg;subst hP hw hK;obtain⟨xs,x,hq,hx⟩:=hg;obtain⟨its,rv,p,hz⟩:=I.list hq;obtain⟨u,hu,ru⟩:=rv.get hx;obtain⟨f0,f1,f2,f3,f4,f5⟩:=hf it (by simp);refine wpAny_pyNext_list_item st p.isList (x:=u) (by simpa using hu) fun h' st' sb=>?_;have I1:Inv X pins σ H { s with heap:=h' }:=I.turned (t':=s.toks) (fun b o hb e=>(sb.2 b hb).trans e) f0 f1 f3 f4 f5;obtain⟨o,e,c,d⟩:=id st';exact⟨u,rfl,x9 (s:={ s with heap:=h' }) e c d (by decide) ⟨x,H,I1,ru,⟨rfl,fun ys hy=>by rw[I.iV hy hq];exact hx⟩,st',fun b hb=>(hf b hb).1⟩⟩
 done:=by
  intro X hP hw hK hc i pins s σ H E I hf st hg;subst hP hw hK;obtain⟨xs,hq,hx⟩:=hg;obtain⟨its,rv,p,hz⟩:=I.list hq;obtain⟨f0,f1,f2,f3,f4,f5⟩:=hf it (by simp);have hl:=rv.length;exact wpAny_pyNext_list_end (I.ok.hd hc) st p.isList (by simp;omega) fun h' eb=>⟨rfl,I.turned (t':=s.toks) (fun b o hb e=>eb b o hb e) f0 f1 f3 f4 f5⟩
 self:=fun _ _ _ _ _ st h=>wpAny_pyIter_listiter st h
theorem vY {P:qBl}{w:qCw}{K:qAc}{tg:Expr} (it:Addr) (lo:Int) (n:Nat):Turn P w K tg (pO lo n) [it] it (fun i h=>IsRangeIter h it (lo+(i:Nat)*1) ((n:Int)-(i:Nat)) 1) where
 mem:=by simp
 obj:=fun i h st b hb=>by
  have e:b=it:=by simpa using hb
  subst e;exact⟨_,st,fun v z=>by
   have z':Data.fields _=Data.cell v:=z;cases z'⟩
 keep:=fun i h h' st k=>k it (by simp) _ st
 item:=by
  intro X hP hw hK hc i pins s σ H E I hf st hg;subst hP hw hK;obtain⟨f0,f1,f2,f3,f4,f5⟩:=hf it (by simp);have W:=Walks.range (prog:=X.prog) (w:=X.w) (I.ok.hd hc) it lo 1 n;refine W.item i s _ _ hg st fun v h' tk hv st' kk=>?_;obtain⟨t,rfl⟩:=hv;have I1:Inv X pins σ H { s with heap:=h',toks:=tk }:=I.turned (fun b o hb e=>kk b o (by simpa using hb) e) f0 f1 f3 f4 f5;refine⟨_,rfl,x9 (s:={ s with heap:=h',toks:=tk }) (n:="range_iterator") st' rfl rfl (by decide) ⟨.int (lo+i),H,I1,⟨t,?_⟩,⟨rfl,rfl⟩,st',fun b hb=>(hf b hb).1⟩⟩;rw[qFa]
 done:=by
  intro X hP hw hK hc i pins s σ H E I hf st hg;subst hP hw hK;obtain⟨f0,f1,f2,f3,f4,f5⟩:=hf it (by simp);exact wpAny_pyNext_range_end (I.ok.hd hc) st (by have:n<=i:=hg;omega) fun h' eb=>⟨rfl,I.turned (t':=s.toks) (fun b o hb e=>eb b o hb e) f0 f1 f3 f4 f5⟩
 self:=fun _ _ _ _ _ st h=>wpAny_pyIter_rangeiter st h
section
variable {X:Cx}{tg:Expr}
def FN (K:qAc) (tl:TE):TI:=fun σ H R=>tl σ H fun x H1=>∃a,x = .ref a/\(∃xs,aT K H1 a xs)/\R (yA K a) H1
theorem bO {l:Expr}{tl:TE} (hl:PE X l tl):PI X tg l (FN X.K tl):=by
 intro pins s σ H R I h;refine cB (hl pins s σ H _ I h) fun v s1 ⟨x,H1,I1,r1,q1⟩=>?_;obtain⟨a,e,⟨xs,hq⟩,q⟩:=q1;subst e;cases r1;obtain⟨its,rv,p,hz⟩:=I1.list hq;refine qHv p.isList ?_;refine⟨s1.heap.objs.size,[s1.heap.objs.size],_,_,H1,rfl,I1.kept (t':=s1.toks) fun b o e=>qAi _ e,Ad a _,⟨_,qAs _ rfl,rfl,rfl⟩,fun b hb=>?_,q⟩;have e:b=s1.heap.objs.size:=by simpa using hb
 subst e;exact I1.Ac (qAg _) (I1.cH.fresh (qAg _))
theorem tX {pins:List (Addr×Obj)}{σ:St}{H:Hp}{s:qAh}{R:It->Hp->Prop}{E:qAf->qAh->Prop}{lo hi:Int}{t u v:Tok}{tk:Nat} (I:Inv X pins σ H s) (h1:-(2^62)<=lo) (h2:lo<2^62) (h3:-(2^62)<=hi) (h4:hi<2^62)
  (q:R (pO lo (hi-lo).toNat) H):qBg (qBz X.prog X.w) X.A (qMp (.ref s.heap.objs.size)) (OV X pins σ tg R) E { s with heap:=s.heap.push { cls:=.type "range",data:=.fields #[.int lo t,.int hi u,.int 1 v] },toks:=tk }:=by
 refine wpAny_pyIter_range (IsRange.new ..) (small_one h1 h2 h3 h4) ?_;have I1:Inv X pins σ H { s with heap:=s.heap.push { cls:=.type "range",data:=.fields #[.int lo t,.int hi u,.int 1 v] },toks:=tk }:=I.kept fun b o e=>qAi _ e;refine⟨(s.heap.push { cls:=.type "range",data:=.fields #[.int lo t,.int hi u,.int 1 v] }).objs.size,[(s.heap.push { cls:=.type "range",data:=.fields #[.int lo t,.int hi u,.int 1 v] }).objs.size],_,_,H,rfl,
  I1.kept (t':=tk) fun b o e=>qAi _ e,vY _ lo (hi-lo).toNat,?_,fun b hb=>?_,q⟩
 ·have e1:lo+((0:Nat):Int)*1=lo:=by simp
  have e2:(((hi-lo).toNat:Nat):Int)-((0:Nat):Int)=Builtin.Range.rangeSize lo hi 1:=by rw[rangeSize_one];split <;> omega
  show IsRangeIter _ _ (lo+((0:Nat):Int)*1) ((((hi-lo).toNat:Nat):Int)-((0:Nat):Int)) 1;rw[e1,e2];exact qAs _ rfl
 ·have e:b=(s.heap.push { cls:=.type "range",data:=.fields #[.int lo t,.int hi u,.int 1 v] }).objs.size:=by simpa using hb
  subst e;exact I1.Ac (qAg _) (I1.cH.fresh (qAg _))
def LL (ta:TA):TI:=fun σ H R=>ta σ H fun vs H1=>∃j:Int,vs=[.int j]/\-(2^62)<=j/\j<2^62/\R (pO 0 j.toNat) H1
def LM (ta:TA):TI:=fun σ H R=>ta σ H fun vs H1=>∃i j:Int,vs=[.int i,.int j]/\(-(2^62)<=i/\i<2^62/\-(2^62)<=j/\j<2^62)/\R (pO i (j-i).toNat) H1
theorem cY {a:Expr}{ta:TA}{p pos:Pos} (hg:Gl X "range") (hm:X.mg "range"=none) (ha:PA X [a] ta) (hs:qBt [a] X.env=[(false,eval a X.env)]:=by rfl):PI X tg (.Call (.Name "range" p) [a] [] pos) (LL ta):=by
 intro pins s σ H R I h;refine qNy (fE I hg hm boot_range (qCb (cB (ha pos pins s σ H _ I h) fun us s1 ⟨vs,H1,I1,r1,q1⟩=>?_) hs rfl));obtain⟨j,e,q1,q2,q⟩:=q1;subst e;cases r1 with
 | cons r rr =>
  cases rr
  obtain⟨t,rfl⟩:=r;exact call_range_1 (tX I1 (by omega) (by omega) q1 q2 (by simpa using q))
theorem jE {a b:Expr}{ta:TA}{p pos:Pos} (hg:Gl X "range") (hm:X.mg "range"=none) (ha:PA X [a,b] ta) (hs:qBt [a,b] X.env=[(false,eval a X.env),(false,eval b X.env)]:=by rfl) (hs2:qBt [b] X.env=[(false,eval b X.env)]:=by rfl) :
  PI X tg (.Call (.Name "range" p) [a,b] [] pos) (LM ta):=by
 intro pins s σ H R I h;refine qNy (fE I hg hm boot_range (qCb (cB (ha pos pins s σ H _ I h) fun us s1 ⟨vs,H1,I1,r1,q1⟩=>?_) (by rw[hs,hs2]) (by rw[hs2];rfl)));obtain⟨i,j,e,⟨q1,q2,q3,q4⟩,q⟩:=q1;subst e;cases r1 with
 | cons r rr =>
  cases rr with
  | cons r' rr =>
   cases rr
   obtain⟨t,rfl⟩:=r;obtain⟨t',rfl⟩:=r';exact call_range_2 (tX I1 q1 q2 q3 q4 q)
def NZ (wi:TI) (g:TG) (tb:TS):TS:=fun D σ H=>wi σ H fun J H1=>∃W:Nat->Nat->St->Hp->Prop,(∃m,W 0 m σ H1)/\∀i m σ H,W i m σ H ->
 (J.stop i H/\D.nx σ H)\/(J.go i H/\∃N:St->Hp->Prop,(∀σ' H',N σ' H'->∃m',m'<m/\W (i+1) m' σ' H')/\∀x H',J.pR i H x H'->g x σ H' fun σ2 H2=>tb { D with nx:=N,ct:=N,bk:=D.nx } σ2 H2)
def lW (fp:List Addr) (h:Heap):List (Addr×Obj):=fp.filterMap fun b=>(h.get? b).map fun o=>(b,o)
theorem fF {fp:List Addr}{h:Heap}{b:Addr}{o:Obj} (hb:b∈fp) (e:h.get? b=some o):(b,o)∈lW fp h:=List.mem_filterMap.mpr ⟨b,hb,by rw[e];rfl⟩
theorem Ae {fp:List Addr}{h:Heap}{p:Addr×Obj} (hp:p∈lW fp h):p.1∈fp/\h.get? p.1=some p.2:=by
 obtain⟨b,hb,e⟩:=List.mem_filterMap.mp hp;cases q:h.get? b with
 | none=>rw[q] at e;cases e
 | some o =>
  rw[q] at e;have e':(b,o)=p:=Option.some.inj e;subst e';exact⟨hb,q⟩
theorem Inv.pinned {pins:List (Addr×Obj)}{σ:St}{H:Hp}{s:qAh}{fp:List Addr} (I:Inv X pins σ H s) (hf:∀b∈fp,iX X pins H b) (ho:∀b∈fp,∃o,s.heap.get? b=some o/\∀v,o.data≠.cell v):Inv X (pins++lW fp s.heap) σ H s :=
 I.x8 fun p hp=>(List.mem_append.mp hp).elim (fun z=>I.pin p (qAu _ z)) fun z=>by
  obtain⟨hb,e⟩:=Ae z;obtain⟨f0,f1,f2,_⟩:=hf p.1 hb;obtain⟨o,e',d⟩:=ho p.1 hb;rw[e] at e';cases e';exact⟨e,f0,f1,f2,d⟩
theorem Inv.iY {pins pl:List (Addr×Obj)}{σ:St}{H:Hp}{s:qAh} (I:Inv X (pins++pl) σ H s):Inv X pins σ H s:=I.x8 fun p hp=>I.pin p (qAu _ (qCc _ hp))
theorem c9 {iter:Expr}{body:List Stmt}{wi:TI}{g:TG}{tb:TS}{pos:Pos} (hp:PassesOwn (qBz X.prog X.w) X.A X.env X.xe) (hc:X.calm=true) (hi:PI X tg iter wi) (hg:PG X tg g) (hb:tP X body tb)
  (hs:∀x,qFl iter X.env x=pure x:=by intro _;rfl):PS X (.For tg iter body [] pos) (NZ wi g tb):=by
 intro pins s σ H D I h;refine wpAny_For (cB (hi pins s σ H _ I h) fun v s1 h1=>cB h1 fun itv s2 h2=>?_) hs;obtain⟨it,fp,tn,J,H2,e,I2,T,st2,f2,W,⟨m0,w0⟩,turn⟩:=h2;subst e;have stat:∀{H':Hp},(∀b∈fp,H' b=none)->∀b∈fp,iX X pins H' b:=fun hn b hb=>⟨hn b hb,(f2 b hb).2⟩;refine codeAny_forLoop_any (fun n s'=>∃i σ' H',Inv X pins σ' H' s'/\tn i s'.heap/\(∀b∈fp,H' b=none)/\W i n σ' H') ?_ m0 ⟨0,σ,H2,I2,st2,fun b hb=>(f2 b hb).1,w0⟩;rintro n s3 ⟨i,σ3,H3,I3,st3,fr3,w3⟩;rcases turn i n σ3 H3 w3 with ⟨stop,qn⟩ | ⟨go,N,hN,step⟩
 ·refine qFf hp (cB (T.done X rfl rfl rfl hc i pins s3 σ3 H3 X.xe I3 (stat fr3) st3 stop) fun r s4 ⟨hr,I4⟩=>?_);subst hr;exact qIt ⟨σ3,H3,I4,qn⟩
 ·refine qFf hp (cB (T.item X rfl rfl rfl hc i pins s3 σ3 H3 X.xe I3 (stat fr3) st3 go) fun r s4 ⟨u,hr,h4⟩=>?_);subst hr;refine qFf hp (cB h4 fun _ s5 ⟨x,H5,I5,r5,y5,st5,fr5⟩=>?_);have I5':=I5.pinned (stat fr5) (T.obj _ _ st5);refine qFf hp (cB (hg _ s5 σ3 H5 x u _ I5' r5 (step x H5 y5)) fun _ s6 ⟨σ6,H6,I6,q6⟩=>?_);refine qFf hp (cB (hb _ s6 σ6 H6 _ I6 q6) fun f s7 q7=>?_);have qNe:∀{σ7:St}{H7:Hp},Inv X (pins++lW fp s5.heap) σ7 H7 s7->N σ7 H7->∃m,m<n/\∃i σ' H',Inv X pins σ' H' s7/\tn i s7.heap/\(∀b∈fp,H' b=none)/\W i m σ' H':=fun {σ7 H7} I7 n7=>by
   obtain⟨m',hm,w7⟩:=hN σ7 H7 n7;refine⟨m',hm,i+1,σ7,H7,I7.iY,T.keep _ _ _ st5 fun b hb o e=>(I7.pin (b,o) (qAu _ (qAu _ (fF hb e)))).1,fun b hb=>?_,w7⟩;obtain⟨o,e,d⟩:=T.obj _ _ st5 b hb;exact(I7.pin (b,o) (qAu _ (qAu _ (fF hb e)))).2.1
  cases f with
  | next=>obtain⟨σ7,H7,I7,n7⟩:=q7;exact qNe I7 n7
  | cont=>obtain⟨σ7,H7,I7,n7⟩:=q7;exact qNe I7 n7
  | brk=>obtain⟨σ7,H7,I7,q7⟩:=q7;exact⟨σ7,H7,I7.iY,q7⟩
  | ret v=>obtain⟨x7,σ7,H7,I7,r7,q7⟩:=q7;exact⟨x7,σ7,H7,I7.iY,r7,q7⟩
end
theorem dX {K:qAc}{a:Addr}{xs:List V}{g:TG}{tb:TS}{D:Ends}{σ:St}{H:Hp} (Pv:Nat->St->Hp->Prop) (h0:Pv 0 σ H) (hl:∀i σ H,i<=xs.length->Pv i σ H->aT K H a xs)
  (hs:∀i x σ H,xs[i]?=some x->Pv i σ H->g x σ H fun σ2 H2=>tb { D with nx:=Pv (i+1),ct:=Pv (i+1),bk:=D.nx } σ2 H2) (hd:∀σ H,Pv xs.length σ H->D.nx σ H) :
  ∃W:Nat->Nat->St->Hp->Prop,(∃m,W 0 m σ H)/\∀i m σ H,W i m σ H ->
   ((yA K a).stop i H/\D.nx σ H)\/((yA K a).go i H/\∃N:St->Hp->Prop,(∀σ' H',N σ' H'->∃m',m'<m/\W (i+1) m' σ' H')/\∀x H',(yA K a).pR i H x H'->g x σ H' fun σ2 H2=>tb { D with nx:=N,ct:=N,bk:=D.nx } σ2 H2):=by
 refine⟨fun i m σ H=>m=xs.length-i/\i<=xs.length/\Pv i σ H,⟨xs.length,by simp,qBr _,h0⟩,?_⟩;rintro i m σ H ⟨rfl,hi,p⟩;have q:=hl i σ H hi p;by_cases hlt:i<xs.length
 ·refine .inr ⟨⟨xs,xs[i],q,by simp[hlt]⟩,Pv (i+1),fun σ' H' p'=>⟨xs.length-(i+1),by omega,rfl,hlt,p'⟩,fun x H' y=>?_⟩;obtain⟨e,y⟩:=y;subst e;exact hs i x σ _ (y xs q) p
 ·have e:i=xs.length:=by omega
  subst e;exact .inl ⟨⟨xs,q,qAg _⟩,hd σ H p⟩
theorem lX {lo:Int}{n:Nat}{g:TG}{tb:TS}{D:Ends}{σ:St}{H:Hp} (Pv:Nat->St->Hp->Prop) (h0:Pv 0 σ H)
  (hs:∀i σ H,i<n->Pv i σ H->g (.int (lo+i)) σ H fun σ2 H2=>tb { D with nx:=Pv (i+1),ct:=Pv (i+1),bk:=D.nx } σ2 H2) (hd:∀σ H,Pv n σ H->D.nx σ H) :
  ∃W:Nat->Nat->St->Hp->Prop,(∃m,W 0 m σ H)/\∀i m σ H,W i m σ H ->
   ((pO lo n).stop i H/\D.nx σ H)\/((pO lo n).go i H/\∃N:St->Hp->Prop,(∀σ' H',N σ' H'->∃m',m'<m/\W (i+1) m' σ' H')/\∀x H',(pO lo n).pR i H x H'->g x σ H' fun σ2 H2=>tb { D with nx:=N,ct:=N,bk:=D.nx } σ2 H2):=by
 refine⟨fun i m σ H=>m=n-i/\i<=n/\Pv i σ H,⟨n,by simp,qBr _,h0⟩,?_⟩;rintro i m σ H ⟨rfl,hi,p⟩;by_cases hlt:i<n
 ·refine .inr ⟨hlt,Pv (i+1),fun σ' H' p'=>⟨n-(i+1),by omega,rfl,hlt,p'⟩,fun x H' y=>?_⟩;obtain⟨e,y⟩:=y;subst e y;exact hs i σ _ hlt p
 ·have e:i=n:=by omega
  subst e;exact .inl ⟨qAg _,hd σ H p⟩
abbrev R2:=V->V->Hp->VK->Prop
def iG (X:Cx) (f:qAf->qAf->Sem qAf) (r:R2):Prop :=
 ∀(pins:List (Addr×Obj)) (s:qAh) (σ:St) (H:Hp) (x y:V) (v u:qAf) (Q:VK),Inv X pins σ H s->RelV x v->RelV y u->r x y H Q ->
  qBg (qBz X.prog X.w) X.A (f v u) (EP X pins σ Q) X.xe s
def NC (X:Cx) (f:qAf->Sem qAf) (r:V->Hp->VK->Prop):Prop :=
 ∀(pins:List (Addr×Obj)) (s:qAh) (σ:St) (H:Hp) (x:V) (v:qAf) (Q:VK),Inv X pins σ H s->RelV x v->r x H Q ->
  qBg (qBz X.prog X.w) X.A (f v) (EP X pins σ Q) X.xe s
def gA (X:Cx) (f:qAf) (r:List V->Hp->VK->Prop):Prop :=
 ∀(pins:List (Addr×Obj)) (s:qAh) (σ:St) (H:Hp) (xs:List V) (us:List qAf) (Q:VK),Inv X pins σ H s->Vals xs us->r xs H Q ->
  qBg (qBz X.prog X.w) X.A (call f us) (EP X pins σ Q) X.xe s
def ND (r:R2) (ta tb:TE):TE:=fun σ H Q=>ta σ H fun x H1=>tb σ H1 fun y H2=>r x y H2 Q
def Pk (r:V->Hp->VK->Prop) (ta:TE):TE:=fun σ H Q=>ta σ H fun x H1=>r x H1 Q
def rI (C:Int->Int->Prop) (g:Int->Int->V):R2:=fun x y H Q=>∃i j,x = .int i/\y = .int j/\C i j/\Q (g i j) H
def Ek (g:Int->Int->V):R2:=fun x y H Q=>∃i j,x = .int i/\y = .int j/\Q (g i j) H
def rU (g:Int->V):V->Hp->VK->Prop:=fun x H Q=>∃i,x = .int i/\Q (g i) H
section
variable {X:Cx}{a b c:Expr}{ta tb tc:TE}{pos:Pos}
theorem Hx (ha:PE X a ta) (hb:PE X b tb){pins:List (Addr×Obj)}{s:qAh}{σ:St}{H:Hp}{R:V->V->Hp->Prop} (I:Inv X pins σ H s)
  (h:ta σ H fun x H1=>tb σ H1 fun y H2=>R x y H2){Q:qAf->qAh->Prop}{f:qAf->qAf->Sem qAf}
  (hf:∀v u s2 x y H2,Inv X pins σ H2 s2->RelV x v->RelV y u->R x y H2->qBg (qBz X.prog X.w) X.A (f v u) Q X.xe s2) :
  qBg (qBz X.prog X.w) X.A (eval a X.env) (fun v s₁=>qBg (qBz X.prog X.w) X.A (eval b X.env) (fun u s₂=>qBg (qBz X.prog X.w) X.A (f v u) Q X.xe s₂) X.xe s₁) X.xe s:=by
 refine cB (ha pins s σ H _ I h) fun v s1 ⟨x,H1,I1,r1,q1⟩=>?_;refine cB (hb pins s1 σ H1 _ I1 q1) fun u s2 ⟨y,H2,I2,r2,q2⟩=>?_;exact hf v u s2 x y H2 I2 r1 r2 q2
theorem aR {op:Operator}{r:R2} (ho:iG X (qFm op) r) (ha:PE X a ta) (hb:PE X b tb):PE X (.BinOp a op b pos) (ND r ta tb):=by
 intro pins s σ H Q I h;exact wpAny_BinOp (Hx ha hb I h fun v u s2 x y H2 I2 rx ry q=>ho pins s2 σ H2 x y v u Q I2 rx ry q)
theorem jW {op:UnaryOp}{r:V->Hp->VK->Prop} (ho:NC X (unaryOp op) r) (ha:PE X a ta):PE X (.UnaryOp op a pos) (Pk r ta):=by
 intro pins s σ H Q I h;exact UnaryOp_ (cB (ha pins s σ H _ I h) fun v s1 ⟨x,H1,I1,r1,q1⟩=>ho pins s1 σ H1 x v Q I1 r1 q1)
theorem FO {f:qAf->qAf->Sem qAf}{C:Int->Int->Prop}{g:Int->Int->Int}
  (rule:∀(i j:Int) (t u:Tok) (s:qAh) (Q:qAf->qAh->Prop) (E:qAf->qAh->Prop),C i j->Q (.int (g i j) s.toks) { s with toks:=s.toks+1 }->qBg (qBz X.prog X.w) X.A (f (.int i t) (.int j u)) Q E s) :
  iG X f (rI C fun i j=>.int (g i j)):=by
 intro pins s σ H x y v u Q I rx ry h;obtain⟨i,j,rfl,rfl,hc,q⟩:=h;obtain⟨t,rfl⟩:=rx;obtain⟨t',rfl⟩:=ry;exact rule i j t t' s _ _ hc ⟨.int (g i j),H,I.tok _,⟨_,rfl⟩,q⟩
theorem Hy {f:qAf->qAf->Sem qAf}{g:Int->Int->Int}
  (rule:∀(i j:Int) (t u:Tok) (s:qAh) (Q:qAf->qAh->Prop) (E:qAf->qAh->Prop),Q (.int (g i j) s.toks) { s with toks:=s.toks+1 }->qBg (qBz X.prog X.w) X.A (f (.int i t) (.int j u)) Q E s) :
  iG X f (Ek fun i j=>.int (g i j)):=by
 intro pins s σ H x y v u Q I rx ry h;obtain⟨i,j,rfl,rfl,q⟩:=h;obtain⟨t,rfl⟩:=rx;obtain⟨t',rfl⟩:=ry;exact rule i j t t' s _ _ ⟨.int (g i j),H,I.tok _,⟨_,rfl⟩,q⟩
theorem El {f:qAf->qAf->Sem qAf}{g:Int->Int->Bool}
  (rule:∀(i j:Int) (t u:Tok) (s:qAh) (Q:qAf->qAh->Prop) (E:qAf->qAh->Prop),Q (.bool (g i j)) s->qBg (qBz X.prog X.w) X.A (f (.int i t) (.int j u)) Q E s) :
  iG X f (Ek fun i j=>.bl (g i j)):=by
 intro pins s σ H x y v u Q I rx ry h;obtain⟨i,j,rfl,rfl,q⟩:=h;obtain⟨t,rfl⟩:=rx;obtain⟨t',rfl⟩:=ry;exact rule i j t t' s _ _ ⟨.bl (g i j),H,I,rfl,q⟩
def Oa (i j:Int):Prop:=0<j/\j<1073741824
def LO (i j:Int):Prop:=0<=j/\j<=1000000/\i.natAbs<2^64
def Em (i j:Int):Prop:=(-(2^64)<i/\i<2^64)\/(-(2^64)<j/\j<2^64)
theorem Em.ok {i j:Int} (h:Em i j):IntMulOk i j:=by
 rcases h with ⟨h1,h2⟩ | ⟨h1,h2⟩
 ·exact .of_left (intBits_le_64 h1 h2)
 ·exact .of_right (intBits_le_64 h1 h2)
theorem vZ (k:Nat):(0:Int)<=2^k:=by
 rw[two_pow_cast];exact Int.natCast_nonneg _
theorem fP:iG X (qFm .Add) (Ek fun i j=>.int (i+j)):=Hy fun _ _ _ _ _ _ _ q=>add_int q
theorem eU:iG X (qFm .Sub) (Ek fun i j=>.int (i-j)):=Hy fun _ _ _ _ _ _ _ q=>sub_int q
theorem Bo:iG X (qFm .Mult) (rI Em fun i j=>.int (i*j)):=FO fun _ _ _ _ _ _ _ hc q=>mul_int q hc.ok
theorem jF:iG X (qFm .FloorDiv) (rI Oa fun i j=>.int (i/j)):=FO fun i j _ _ _ _ _ hc q=>by
 have h1:(0:Int)<j:=hc.1;have h2:j<1073741824:=hc.2;exact floordiv_int (by omega) (by rw[qFe i (by omega)];exact q) (.inl (PyProof.noPylong_small (by omega)))
theorem gB:iG X (qFm .Mod) (rI (fun _ j=>0<j) fun i j=>.int (i%j)):=FO fun i j _ _ _ _ _ hc q=>by
 have h1:(0:Int)<j:=hc;exact mod_int' (by omega) (by rw[Int.fmod_eq_emod_of_nonneg i (by omega)];exact q)
theorem Bp:iG X (qFm .Pow) (rI LO fun i j=>.int (i^j.toNat)):=FO fun _ _ _ _ _ _ _ hc q=>pow_int_small hc.1 hc.2.1 hc.2.2 q
theorem Hz:iG X (qFm .LShift) (rI LO fun i j=>.int (i*2^j.toNat)):=FO fun _ _ _ _ _ _ _ hc q=>lshift_int_small hc.1 hc.2.1 hc.2.2 q
theorem HA:iG X (qFm .RShift) (rI (fun _ j=>0<=j) fun i j=>.int (i/2^j.toNat)):=FO fun i j _ _ _ _ _ hc q =>
 rshift_int hc (by rw[qFe i (vZ _)];exact q)
theorem wB:iG X (qFm .BitAnd) (Ek fun i j=>.int (qEk i j)):=Hy fun _ _ _ _ _ _ _ q=>and_int q
theorem Pm {f:qAf->Sem qAf}{g:Int->Int}
  (rule:∀(i:Int) (t:Tok) (s:qAh) (Q:qAf->qAh->Prop) (E:qAf->qAh->Prop),Q (.int (g i) s.toks) { s with toks:=s.toks+1 }->qBg (qBz X.prog X.w) X.A (f (.int i t)) Q E s) :
  NC X f (rU fun i=>.int (g i)):=by
 intro pins s σ H x v Q I rx h;obtain⟨i,rfl,q⟩:=h;obtain⟨t,rfl⟩:=rx;exact rule i t s _ _ ⟨.int (g i),H,I.tok _,⟨_,rfl⟩,q⟩
theorem g4:NC X (unaryOp .USub) (rU fun i=>.int (-i)):=Pm fun _ _ _ _ _ q=>neg_int q
end
def LP:V->V->Bool
 | .non,.non=>true | .non,.int _=>true | .int _,.non=>true | .non,.bl _=>true | .bl _,.non=>true | .non,.str _=>true | .str _,.non=>true
 | .int _,.int _=>true | .bl _,.bl _=>true | .str _,.str _=>true | .byt _,.byt _=>true
 | .int _,.str _=>true | .str _,.int _=>true | .bl _,.str _=>true | .str _,.bl _=>true
 | _,_=>false
def Pn:R2:=fun x y H Q=>LP x y=true/\Q (.bl (decide (x=y))) H
def Po:R2:=fun x y H Q=>LP x y=true/\Q (.bl (!decide (x=y))) H
theorem yB {i j:Int}:decide (V.int i=V.int j)=(i == j):=by
 rw[qGq];simp
theorem Bq {i j:Bool}:decide (V.bl i=V.bl j)=(i == j):=by
 rw[qGq];simp
theorem yC {i j:Str}:decide (V.str i=V.str j)=(i == j):=by
 rw[qGq];simp
theorem yD {i j:Array UInt8}:decide (V.byt i=V.byt j)=(i.toList == j.toList):=by
 rw[qGq];cases i;cases j;simp
section
variable {X:Cx}{a b c:Expr}{ta tb tc:TE}{pos:Pos}
theorem bS {pins:List (Addr×Obj)}{σ:St}{H:Hp}{s:qAh}{Q:VK}{k k':Bool} (I:Inv X pins σ H s) (q:Q (.bl k) H) (e:k=k'):EP X pins σ Q (.bool k') s:=by
 subst e;exact⟨.bl k,H,I,rfl,q⟩
theorem hJ:iG X (qDt .Eq) Pn:=by
 intro pins s σ H x y v u Q I rx ry h;obtain⟨hs,q⟩:=h;cases x with
 | non =>
  cases rx
  cases y with
  | non=>cases ry;exact PySem.EqNone.eq_none_none (bS I q (by simp))
  | bl j=>cases ry;exact PySem.EqNone.eq_none_bool (bS I q (by simp))
  | int j=>obtain⟨t',rfl⟩:=ry;exact PySem.EqNone.eq_none_int (bS I q (by simp))
  | str j=>obtain⟨t',rfl⟩:=ry;exact PySem.EqNone.eq_none_str (bS I q (by simp))
  | _=>exact absurd (show false=true from hs) qAm
 | bl i =>
  cases rx
  cases y with
  | non=>cases ry;exact PySem.EqNone.eq_bool_none (bS I q (by simp))
  | bl j=>cases ry;exact eq_bool (bS I q Bq)
  | str j=>obtain⟨t',rfl⟩:=ry;exact PySem.EqMixed.eq_bool_str (bS I q (by simp))
  | _=>exact absurd (show false=true from hs) qAm
 | int i =>
  obtain⟨t,rfl⟩:=rx;cases y with
  | non=>cases ry;exact PySem.EqNone.eq_int_none (bS I q (by simp))
  | int j=>obtain⟨t',rfl⟩:=ry;exact eq_int (bS I q yB)
  | str j=>obtain⟨t',rfl⟩:=ry;exact PySem.EqMixed.eq_int_str (bS I q (by simp))
  | _=>exact absurd (show false=true from hs) qAm
 | str i =>
  obtain⟨t,rfl⟩:=rx;cases y with
  | non=>cases ry;exact PySem.EqNone.eq_str_none (bS I q (by simp))
  | bl j=>cases ry;exact PySem.EqMixed.eq_str_bool (bS I q (by simp))
  | int j=>obtain⟨t',rfl⟩:=ry;exact PySem.EqMixed.eq_str_int (bS I q (by simp))
  | str j=>obtain⟨t',rfl⟩:=ry;exact eq_str (bS I q yC)
  | _=>exact absurd (show false=true from hs) qAm
 | byt i =>
  obtain⟨t,rfl⟩:=rx;cases y with
  | byt j=>obtain⟨t',rfl⟩:=ry;exact PySem.W.eq_bytes (bS I q yD)
  | _=>exact absurd (show false=true from hs) qAm
 | _=>cases y <;> exact absurd (show false=true from hs) qAm
theorem iZ:iG X (qDt .NotEq) Po:=by
 intro pins s σ H x y v u Q I rx ry h;obtain⟨hs,q⟩:=h;cases x with
 | non =>
  cases rx
  cases y with
  | non=>cases ry;exact PySem.EqNone.ne_none_none (bS I q (by simp))
  | bl j=>cases ry;exact PySem.EqNone.ne_none_bool (bS I q (by simp))
  | int j=>obtain⟨t',rfl⟩:=ry;exact PySem.EqNone.ne_none_int (bS I q (by simp))
  | str j=>obtain⟨t',rfl⟩:=ry;exact PySem.EqNone.ne_none_str (bS I q (by simp))
  | _=>exact absurd (show false=true from hs) qAm
 | bl i =>
  cases rx
  cases y with
  | non=>cases ry;exact PySem.EqNone.ne_bool_none (bS I q (by simp))
  | bl j=>cases ry;exact ne_bool (bS I q (congrArg not Bq))
  | str j=>obtain⟨t',rfl⟩:=ry;exact PySem.EqMixed.ne_bool_str (bS I q (by simp))
  | _=>exact absurd (show false=true from hs) qAm
 | int i =>
  obtain⟨t,rfl⟩:=rx;cases y with
  | non=>cases ry;exact PySem.EqNone.ne_int_none (bS I q (by simp))
  | int j=>obtain⟨t',rfl⟩:=ry;exact ne_int (bS I q (congrArg not yB))
  | str j=>obtain⟨t',rfl⟩:=ry;exact PySem.EqMixed.ne_int_str (bS I q (by simp))
  | _=>exact absurd (show false=true from hs) qAm
 | str i =>
  obtain⟨t,rfl⟩:=rx;cases y with
  | non=>cases ry;exact PySem.EqNone.ne_str_none (bS I q (by simp))
  | bl j=>cases ry;exact PySem.EqMixed.ne_str_bool (bS I q (by simp))
  | int j=>obtain⟨t',rfl⟩:=ry;exact PySem.EqMixed.ne_str_int (bS I q (by simp))
  | str j=>obtain⟨t',rfl⟩:=ry;exact ne_str (bS I q (congrArg not yC))
  | _=>exact absurd (show false=true from hs) qAm
 | byt i =>
  obtain⟨t,rfl⟩:=rx;cases y with
  | byt j=>obtain⟨t',rfl⟩:=ry;exact PySem.W.ne_bytes (bS I q (congrArg not yD))
  | _=>exact absurd (show false=true from hs) qAm
 | _=>cases y <;> exact absurd (show false=true from hs) qAm
theorem hU:iG X (qDt .Lt) (Ek fun i j=>.bl (decide (i<j))):=El fun _ _ _ _ _ _ _ q=>lt_int q
theorem yE:iG X (qDt .LtE) (Ek fun i j=>.bl (decide (i<=j))):=El fun _ _ _ _ _ _ _ q=>le_int q
theorem tY:iG X (qDt .Gt) (Ek fun i j=>.bl (decide (j<i))):=El fun _ _ _ _ _ _ _ q=>gt_int q
theorem Br:iG X (qDt .GtE) (Ek fun i j=>.bl (decide (j<=i))):=El fun _ _ _ _ _ _ _ q=>ge_int q
theorem wC:iG X (qDt .Is) (fun x y H Q=>y = .non/\Q (.bl (decide (x = .non))) H):=by
 intro pins s σ H x y v u Q I rx ry h;obtain⟨rfl,q⟩:=h;cases ry;refine is_none_gen (bS I q ?_);cases x <;> first
  | (cases rx;rfl)
  | (obtain⟨t,rfl⟩:=rx;rfl)
theorem En:iG X (qDt .IsNot) (fun x y H Q=>y = .non/\Q (.bl (!decide (x = .non))) H):=by
 intro pins s σ H x y v u Q I rx ry h;obtain⟨rfl,q⟩:=h;cases ry;refine isnot_none_gen (bS I q ?_);cases x <;> first
  | (cases rx;rfl)
  | (obtain⟨t,rfl⟩:=rx;rfl)
theorem aY (b:Expr){op:CmpOp} (h:op≠.In:=by decide) (h2:op≠.NotIn:=by decide):qKe op b=false:=by
 have e1:(op == CmpOp.In)=false:=by cases op <;> first | rfl | exact absurd rfl h
 have e2:(op == CmpOp.NotIn)=false:=by cases op <;> first | rfl | exact absurd rfl h2
 cases b <;> simp[qKe,e1,e2]
theorem dA {op:CmpOp}{r:R2} (ho:iG X (qDt op) r) (ha:PE X a ta) (hb:PE X b tb) (hm:qKe op b=false):PE X (.Compare a [op] [b] pos) (ND r ta tb):=by
 intro pins s σ H Q I h;exact wpAny_Compare1 (Hx ha hb I h fun v u s2 x y H2 I2 rx ry q=>ho pins s2 σ H2 x y v u Q I2 rx ry q) hm
def FP (t:TE):TT:=fun σ H Q=>t σ H fun x H'=>∃k,x = .bl k/\Q k H'
theorem aZ {op:CmpOp}{r:R2} (ho:iG X (qDt op) r) (ha:PE X a ta) (hb:PE X b tb) (hm:qKe op b=false):PT X (.Compare a [op] [b] pos) (FP (ND r ta tb)):=by
 intro pins s σ H Q I h;refine wpAny_isTrue_Compare1 (cB (ha pins s σ H _ I h) fun v s1 ⟨x,H1,I1,r1,q1⟩=>cB (hb pins s1 σ H1 _ I1 q1) fun u s2 ⟨y,H2,I2,r2,q2⟩ =>
  cB (ho pins s2 σ H2 x y v u _ I2 r1 r2 q2) fun c s3 ⟨z,H3,I3,r3,k,e,q3⟩=>?_) hm
 subst e;cases r3;exact qDo ⟨H3,I3,q3⟩
def Bs (r r':R2) (ta tb tc:TE):TE:=fun σ H Q=>ta σ H fun x H1=>tb σ H1 fun y H2=>r x y H2 fun z H3=>∃k,z = .bl k /\
 (if k=true then tc σ H3 fun w' H4=>r' y w' H4 Q else Q (.bl false) H3)
theorem Bt {op op':CmpOp}{r r':R2} (ho:iG X (qDt op) r) (ho':iG X (qDt op') r') (ha:PE X a ta) (hb:PE X b tb) (hc:PE X c tc)
  (hm:lastMarks [op,op'] [b,c]=false:=by with_unfolding_all rfl):PE X (.Compare a [op,op'] [b,c] pos) (Bs r r' ta tb tc):=by
 intro pins s σ H Q I h;refine Compare_chain (cB (ha pins s σ H _ I h) fun v s1 ⟨x,H1,I1,r1,q1⟩=>chain_link (cB (hb pins s1 σ H1 _ I1 q1) fun u s2 ⟨y,H2,I2,r2,q2⟩ =>
  cB (ho pins s2 σ H2 x y v u _ I2 r1 r2 q2) fun d s3 ⟨z,H3,I3,r3,k,e,q3⟩=>?_)) hm
 subst e;cases r3;refine qDo ?_;cases k with
 | false=>exact ite_ff ⟨.bl false,H3,I3,rfl,q3⟩
 | true=>exact ite_tt (chain_last (cB (hc pins s3 σ H3 _ I3 q3) fun w' s4 ⟨z',H4,I4,r4,q4⟩=>ho' pins s4 σ H4 y z' u w' Q I4 r2 r4 q4))
theorem Bu {op op':CmpOp}{r r':R2} (ho:iG X (qDt op) r) (ho':iG X (qDt op') r') (ha:PE X a ta) (hb:PE X b tb) (hc:PE X c tc)
  (hm:lastMarks [op,op'] [b,c]=false:=by with_unfolding_all rfl):PT X (.Compare a [op,op'] [b,c] pos) (FP (Bs r r' ta tb tc)):=by
 intro pins s σ H Q I h;refine isTrue_chain (cB (ha pins s σ H _ I h) fun v s1 ⟨x,H1,I1,r1,q1⟩=>test_link (cB (hb pins s1 σ H1 _ I1 q1) fun u s2 ⟨y,H2,I2,r2,q2⟩ =>
  cB (ho pins s2 σ H2 x y v u _ I2 r1 r2 q2) fun d s3 ⟨z,H3,I3,r3,k,e,q3⟩=>?_)) hm
 subst e;cases r3;refine qDo ?_;cases k with
 | false =>
  obtain⟨k',e',q'⟩:=q3;cases e';exact ite_ff ⟨H3,I3,q'⟩
 | true =>
  refine ite_tt (test_last (cB (hc pins s3 σ H3 _ I3 q3) fun w' s4 ⟨z',H4,I4,r4,q4⟩=>cB (ho' pins s4 σ H4 y z' u w' _ I4 r2 r4 q4) fun d' s5 ⟨z2,H5,I5,r5,k2,e2,q5⟩=>?_));subst e2;cases r5;exact qDo ⟨H5,I5,q5⟩
theorem rL:(qAj:Nat)<2^63:=by rw[qCf];decide
theorem vals1 {x:V}{us:List qAf} (r:Vals [x] us):∃u,us=[u]/\RelV x u:=by
 cases r with
 | cons r1 r2=>cases r2;exact⟨_,rfl,r1⟩
theorem vals2 {x y:V}{us:List qAf} (r:Vals [x,y] us):∃u w',us=[u,w']/\RelV x u/\RelV y w':=by
 cases r with
 | cons r1 r2 =>
  cases r2 with
  | cons r3 r4=>cases r4;exact⟨_,_,rfl,r1,r3⟩
theorem n8:gA X (.builtin "abs") (fun xs H Q=>∃i,xs=[.int i]/\Q (.int (if i<0 then -i else i)) H):=by
 intro pins s σ H xs us Q I r h;obtain⟨i,rfl,q⟩:=h;obtain⟨u,rfl,t,rfl⟩:=vals1 r;exact call_abs_int fun u tk=>⟨.int (if i<0 then -i else i),H,I.tok _,⟨_,rfl⟩,q⟩
theorem Af (hc:X.calm=true):gA X (.builtin "max") (fun xs H Q=>∃i j,xs=[.int i,.int j]/\Q (.int (if j>i then j else i)) H):=by
 intro pins s σ H xs us Q I r h;obtain⟨i,j,rfl,q⟩:=h;obtain⟨u,w',rfl,⟨t,rfl⟩,⟨t',rfl⟩⟩:=vals2 r;refine max_two_ints (I.ok.hd hc) fun h' tk k=>⟨_,H,I.kept k,?_,q⟩;by_cases hj:j>i
 ·rw[if_pos hj,if_pos hj];exact⟨_,rfl⟩
 ·rw[if_neg hj,if_neg hj];exact⟨_,rfl⟩
end
structure wD (h:Heap) (x dx C:Addr) (mA:Str->Option qAf):Prop where
 obj:h.get? x=some (qEe C dx)
 ns:h.Ns1 dx mA
 ne:dx≠x
theorem Ai {h:Heap}{dx:Addr}{mA:Str->Option qAf} (n:h.Ns1 dx mA):∃od,h.get? dx=some od/\∀name,qHx name od=some (mA name):=by
 obtain⟨o,es,ep,ho,hd,hk,_,hm⟩:=n;refine⟨o,ho,fun name=>?_⟩;have e:=hm name;unfold nsFind findBy at e;rw[<- Array.find?_toList] at e;unfold qHx;rw[hd];dsimp only;split
 ·rename_i y q;rw[q] at e;exact congrArg some e
 ·rename_i q;rw[q] at e;have a:es.toList.any (·.refKey)=false:=by
   rw[List.any_eq_false];intro y hy;obtain⟨z,t,hkey⟩:=hk y (Array.mem_toList_iff.mp hy);simp[DictEntry.refKey,hkey]
  have a':¬es.toList.any (·.refKey)=true:=by rw[a];exact qAm
  rw[if_neg a'];exact congrArg some e
theorem wD.look {h:Heap}{x dx C:Addr}{mA:Str->Option qAf} (I:wD h x dx C mA):∃od,PySem.W.InstAt h x (qEe C dx) C (some od)/\∀name,qHx name od=some (mA name) :=
 let ⟨od,ho,hl⟩:=Ai I.ns
 ⟨od,⟨I.obj,rfl,rfl,ho⟩,hl⟩
section
variable {prog:qBl}{w:qCw}{A:qCq}{E:qAf->qAh->Prop}{s:qAh}{K:qAc}{x dx C f:Addr}{mA:Str->Option qAf}{name:Str}{v:qAf}
theorem get_map {expr:Bool}{Q:qAf->qAh->Prop} (X:K.In s.heap) (I:wD s.heap x dx C mA) (hg:qGb K C name=true) (hh:qGw K C=true)
  (ha:qBa K (.ref C) name=some none) (hv:mA name=some v) (hv':qMi v=true) (h:Q v { s with toks:=s.toks+1 }) :
  qBg (qBz prog w) A (getAttr (.ref x) name expr) Q E s:=by
 obtain⟨od,J,hl⟩:=I.look;exact PySem.W.get_value X J (qHz hg).1 (PySem.W.findObj_own hh ha rfl (by rw[hl,hv])) hv' h
theorem Bv {pl:Sem Bool}{Q:qAf×List qAf->qAh->Prop} (X:K.In s.heap) (I:wD s.heap x dx C mA) (hg:qGb K C name=true)
  (hf:qBa K (.ref C) name=some (some (.ref f))) (ht:qEu K (.ref f)=true) (hv:mA name=none) (h:Q (.ref f,[.ref x]) s) :
  qBg (qBz prog w) A (getMethod (.ref x) name pl) Q E s:=by
 obtain⟨od,J,hl⟩:=I.look;exact PySem.W.method_fn X J (qHz hg).1 (qHz hg).2 hf (beq_iff_eq.mp ht) (by show(qHx name od).map (·.isSome)=some false;rw[hl,hv];rfl) h
theorem Eo {ns:List Str}{Q:Unit->qAh->Prop} (X:K.In s.heap) (I:wD s.heap x dx C mA)
  (hs:qBa K (.ref C) "__setattr__"=some (some (.builtin "object.__setattr__"))) (hp:qIq K C=true) (ht:qJi K C name=some none) (hh:qGw K C=true)
  (hw:PySem.Within mA ns) (hsz:ns.length<=qAj)
  (h:∀h',wD h' x dx C (fun y=>if y=name then some v else mA y)->qEy dx s.heap h'->Q () { s with heap:=h',toks:=s.toks+2 }) :
  qBg (qBz prog w) A (setAttr (.ref x) name v) Q E s:=by
 obtain⟨od,J,hl⟩:=I.look;refine PySem.W.set_plain X J hs (PySem.W.osa_open (s:={ s with toks:=s.toks+1 }) (r:=none) X J hp ht fun b=>?_);obtain⟨cd,hc,hd'⟩:=PySem.W.any_some hh;have hx:s.heap.get? x=some ⟨.ref C,some dx,.plain,#[]⟩:=I.obj;refine qAa (qAe (qAa (qAa (wpAny_loadPart hx (qAa (PySem.W.Looks.here (s:={ s with toks:=s.toks+1 }) (PySem.W.looks_clsIn X hc) ?_))))));rw[hd'];refine qAe (a:=some dx) (qAa (qAe (qAa ?_)));refine wpAny_nsSet1 (s:={ s with toks:=s.toks+1 }) I.ns fun h' hn2 hs2=>?_;obtain⟨oD,esD,epD,hoD,hdD,hcD⟩:=hn2.count (PySem.Within.cons name v hw);refine qAa (wpAny_lookBehind hoD (by rw[hdD];exact pastItsLine_dict (qCx hcD (by rw[qCk];omega))) ?_);exact qAe (h _ ⟨(hs2.2 _ (Ne.symm I.ne)).trans I.obj,hn2,I.ne⟩ hs2)
theorem Bw {R:qOw->qAh->Prop}{vs:List qAf}{kw:List (Str×qAf)} (X:K.In s.heap) (hm:qJj K C=true)
  (hi:qBa K (.ref C) "__init__"=some (some (.ref f))) (hf:qHw K (.ref f)=some (.type "function"))
  (h:qHi (qBz prog w) (A.under (.builtin "type.__call__" ⟨.ref C::vs,kw⟩)) (.call (.ref f) ⟨.ref (s.heap.objs.size+1)::vs,kw⟩) (PySem.W.InitBack (s.heap.objs.size+1) R)
   { s with heap:=(s.heap.push qDl).push (qEe C s.heap.objs.size) }) :
  qHi (qBz prog w) A (.call (.ref C) ⟨vs,kw⟩) R s:=by
 obtain⟨hh,g,d,t,os⟩:=s;exact PySem.W.make_core (PySem.W.makes_of X hm) (qGd X hi) (fun self=>PySem.W.bind_fn X self hf) (.inl rfl) h
end
def dF (f:Str) (v:V):List (Str×V)->List (Str×V)
 | []=>[(f,v)]
 | (g,x)::r=>if g=f then (g,v)::r else (g,x)::dF f v r
theorem mR (f g:Str) (v:V):∀fs:List (Str×V),(dF f v fs).lookup g=if g=f then some v else fs.lookup g
 | []=>by
  show qGp g [(f,v)]=_;by_cases h:g=f
  ·have hb:(g == f)=true:=beq_iff_eq.mpr h;simp only[qGp,hb,if_pos h]
  ·have hb:(g == f)=false:=beq_eq_false_iff_ne.mpr h;simp only[qGp,hb,if_neg h]
 | (k,x)::r=>by
  have ih:=mR f g v r;rw[show dF f v ((k,x)::r)=(if k=f then (k,v)::r else (k,x)::dF f v r) from rfl];by_cases hk:k=f
  ·rw[if_pos hk];by_cases h:g=k
   ·have hb:(g == k)=true:=beq_iff_eq.mpr h;simp only[qGp,hb,if_pos (h.trans hk)]
   ·have hb:(g == k)=false:=beq_eq_false_iff_ne.mpr h;simp only[qGp,hb,if_neg (fun e:g=f=>h (e.trans hk.symm))]
  ·rw[if_neg hk];by_cases h:g=k
   ·have hb:(g == k)=true:=beq_iff_eq.mpr h;simp only[qGp,hb,if_neg (fun e:g=f=>hk (h.symm.trans e))]
   ·have hb:(g == k)=false:=beq_eq_false_iff_ne.mpr h;simp only[qGp,hb];exact ih
theorem lY (f:Str) (v:V):∀fs:List (Str×V),f∈(dF f v fs).map (·.1)/\∀g,g∈fs.map (·.1)->g∈(dF f v fs).map (·.1)
 | []=>⟨by simp[dF],fun g h=>by simp at h⟩
 | (k,x)::r=>by
  obtain⟨i1,i2⟩:=lY f v r;rw[show dF f v ((k,x)::r)=(if k=f then (k,v)::r else (k,x)::dF f v r) from rfl];by_cases hk:k=f
  ·rw[if_pos hk];subst hk;exact⟨by simp,fun g h=>by simpa using h⟩
  ·rw[if_neg hk];refine⟨?_,fun g h=>?_⟩
   ·rw[qDf];exact qCi _ i1
   ·rw[qDf] at h|-;rcases List.mem_cons.mp h with e | e
    ·exact List.mem_cons.mpr (.inl e)
    ·exact qCi _ (i2 g e)
theorem mS (f:Str) (v:V):∀fs:List (Str×V),(dF f v fs).length<=fs.length+1
 | []=>by simp[dF]
 | (k,x)::r=>by
  have ih:=mS f v r;rw[show dF f v ((k,x)::r)=(if k=f then (k,v)::r else (k,x)::dF f v r) from rfl];by_cases hk:k=f
  ·rw[if_pos hk,qCk,qCk];omega
  ·rw[if_neg hk,qCk,qCk];omega
theorem jP.some_of {v:V}{o:Option qAf} (r:jP (some v) o):∃u,o=some u/\RelV v u:=by
 cases o with
 | none=>exact(show False from r).elim
 | some u=>exact⟨u,rfl,r⟩
theorem jP.none_of {o:Option qAf} (r:jP none o):o=none:=by
 cases o with
 | none=>rfl
 | some u=>exact(show False from r).elim
theorem Aj {v:V}{u:qAf} (r:RelV v u):qMi u=true:=by
 cases v with
 | non=>cases (show u=Value.none from r);rfl
 | bl b=>cases (show u=Value.bool b from r);rfl
 | int i=>obtain⟨t,e⟩:=(show ∃t,u=Value.int i t from r);cases e;rfl
 | str x=>obtain⟨t,e⟩:=(show ∃t,u=Value.str x t from r);cases e;rfl
 | byt b=>obtain⟨t,e⟩:=(show ∃t,u=Value.bytes b t from r);cases e;rfl
 | flt b=>obtain⟨t,e⟩:=(show ∃t,u=Value.float b t from r);cases e;rfl
 | ref a=>cases (show u=Value.ref a from r);rfl
 | ty n=>cases (show u=Value.type n from r);rfl
section
variable {P:qBl}{w:qCw}{H H':Hp}{h h':Heap}{a C dx:Addr}{fs fs':List (Str×V)}
theorem nN (cH:jV P w H h) (e:H a=some (.ins C dx fs)):∃mA,wD h a dx C mA/\(∀f,jP (fs.lookup f) (mA f))/\PySem.Within mA (fs.map (·.1))/\fs.length<=1000/\H dx=some (.own a):=by
 obtain⟨d,z,ne,ob,mA,n,r,q⟩:=(show cS P w H h a (.ins C dx fs) from cH a _ e);exact⟨mA,⟨ob,n,ne⟩,r,q,z,d⟩
end
structure Eb (K:qAc) (C:Addr):Prop where
 pg:qGb K C Str.empty=true
 hd:qGw K C=true
 po:qIq K C=true
 sa:qBa K (.ref C) "__setattr__"=some (some (.builtin "object.__setattr__"))
theorem Eb.get {K:qAc}{C:Addr} (c:Eb K C) (f:Str):qGb K C f=true:=c.pg
def g5 (K:qAc) (C:Addr) (f:Str):Prop:=qBa K (.ref C) f=some none
theorem g5.LQ {K:qAc}{C:Addr}{f:Str} (n:g5 K C f):qJi K C f=some none:=by
 unfold qJi;rw[show qBa K (.ref C) f=some none from n];rfl
structure Meth (K:qAc) (C:Addr) (m:Str) (f:Addr):Prop where
 at_:qBa K (.ref C) m=some (some (.ref f))
 fn:qEu K (.ref f)=true
 kp:qCs K (.ref f)=true
section
variable {X:Cx}{pins:List (Addr×Obj)}{σ:St}{H:Hp}{s:qAh}{a C dx:Addr}{fs:List (Str×V)}{f:Str}{v:V}{A:qCq}{E:qAf->qAh->Prop}
theorem wF {b:Bool}{Q:qAf->qAh->Prop} (I:Inv X pins σ H s) (e:H a=some (.ins C dx fs)) (c:Eb X.K C) (n:g5 X.K C f) (l:fs.lookup f=some v)
  (h:∀u s',Inv X pins σ H s'->RelV v u->Q u s'):qBg (qBz X.prog X.w) A (getAttr (.ref a) f b) Q E s:=by
 obtain⟨mA,O,r,_,_,_⟩:=nN I.cH e;obtain⟨u,hu,ru⟩:=jP.some_of (v:=v) (o:=mA f) (by rw[<- l];exact r f);exact get_map I.vX O (c.get f) c.hd n hu (Aj ru) (h u _ (I.tok _) ru)
theorem wG {m:Str}{g:Addr}{pl:Sem Bool}{Q:qAf×List qAf->qAh->Prop} (I:Inv X pins σ H s) (e:H a=some (.ins C dx fs)) (c:Eb X.K C) (k:Meth X.K C m g) (l:fs.lookup m=none)
  (h:Q (.ref g,[.ref a]) s):qBg (qBz X.prog X.w) A (getMethod (.ref a) m pl) Q E s:=by
 obtain⟨mA,O,r,_,_,_⟩:=nN I.cH e;have hn:mA m=none:=jP.none_of (by rw[<- l];exact r m);exact Bv I.vX O (c.get m) k.at_ k.fn hn h
theorem wH {y:V}{u:qAf}{Q:Unit->qAh->Prop} (I:Inv X pins σ H s) (e:H a=some (.ins C dx fs)) (c:Eb X.K C) (n:g5 X.K C f) (hl:fs.length<1000) (ry:RelV y u)
  (h:∀s',Inv X pins σ (upd H a (.ins C dx (dF f y fs))) s'->Q () s'):qBg (qBz X.prog X.w) A (setAttr (.ref a) f u) Q E s:=by
 obtain⟨mA,O,r,wi,_,ho⟩:=nN I.cH e;have hz:(fs.map (·.1)).length<=qAj:=by rw[qAb,qCf];omega
 refine Eo I.vX O c.sa c.po n.LQ c.hd wi hz fun h' O' sb=>h _ ?_;have hd:∃o,h'.get? dx=some o:=let ⟨o,_,_,e',_⟩:=O'.ns;⟨o,e'⟩;refine I.write (x:=a) (e:=dx) (by rw[e];exact True.intro) (.inr ho) (fun b q hb z=>(sb.2 b hb).trans z) hd ?_;refine⟨by rw[aM O.ne];exact ho,?_,O.ne,O'.obj,_,O'.ns,fun g=>?_,fun g hg=>?_⟩
 ·have:=mS f y fs;omega
 ·show jP ((dF f y fs).lookup g) (if g=f then some u else mA g);rw[mR];by_cases q:g=f
  ·rw[if_pos q,if_pos q];exact ry
  ·rw[if_neg q,if_neg q];exact r g
 ·by_cases q:g=f
  ·rw[q];exact(lY f y fs).1
  ·refine(lY f y fs).2 g (wi g fun z=>hg ?_);show(if g=f then some u else mA g)=none;rw[if_neg q];exact z
theorem Inv.made (I:Inv X pins σ H s):Inv X pins σ (upd (upd H s.heap.objs.size (.own (s.heap.objs.size+1))) (s.heap.objs.size+1) (.ins C s.heap.objs.size []))
  { s with heap:=(s.heap.push qDl).push (qEe C s.heap.objs.size) }:=by
 have e1:(s.heap.push qDl).get? s.heap.objs.size=some qDl:=qAs s.heap rfl;have e2:((s.heap.push qDl).push (qEe C s.heap.objs.size)).get? (s.heap.objs.size+1)=some (qEe C s.heap.objs.size):=by
  have:=qAs (s.heap.push qDl) (o:=qEe C s.heap.objs.size) rfl;rwa [qDe] at this
 have e3:(s.heap.push qDl).Ns s.heap.objs.size (fun _=>none):=⟨qDl,#[],_,e1,rfl,(fun e he=>absurd he (by simp)),fun _=>rfl⟩;have I1:=I.laid (a:=s.heap.objs.size) (o:=.own (s.heap.objs.size+1)) (h':=s.heap.push qDl) (t':=s.toks) (fun b u q=>qAi _ q) (qAg _) ⟨_,e1⟩;refine I1.laid (a:=s.heap.objs.size+1) (o:=.ins C s.heap.objs.size []) (t':=s.toks) (fun b u q=>qAi _ q) (qIc (qDe _ _)) ?_;have ne:s.heap.objs.size≠s.heap.objs.size+1:=qBd (qGi _);refine⟨by rw[aM ne,aC],qBr _,ne,e2,fun _=>none,(Heap.Ns1.of_empty e3).at fun o q=>qAi _ q,fun _=>True.intro,fun y hy=>absurd rfl hy⟩
theorem Ep {prog:qBl}{w:qCw}{env:Env}{e:Expr}{f:Str}{pos:Pos}{s:qAh}{Q:qAf->qAh->Prop} (hb:qHd e f env (eval e env)=eval e env)
  (h:qBg (qBz prog w) A (eval e env) (fun o s₁=>qBg (qBz prog w) A (getAttr o f true) Q E s₁) E s):qBg (qBz prog w) A (eval (.Attribute e f pos) env) Q E s :=
 Attribute_any_ h (by rw[arm_eval_Attribute,hb])
end
def LR (K:qAc) (ta:TE) (f:Str):TE:=fun σ H Q=>ta σ H fun x H1=>∃a C dx fs v,x = .ref a/\H1 a=some (.ins C dx fs)/\Eb K C/\g5 K C f/\fs.lookup f=some v/\Q v H1
def Ob (K:qAc) (ta tv:TE) (f:Str):TS:=fun D σ H=>tv σ H fun y H1=>ta σ H1 fun x H2=>∃a C dx fs,x = .ref a/\H2 a=some (.ins C dx fs)/\Eb K C/\g5 K C f/\fs.length<1000 /\
 D.nx σ (upd H2 a (.ins C dx (dF f y fs)))
section
variable {X:Cx}{o e value:Expr}{f:Str}{pos pos' tpos:Pos}{ta tv:TE}
theorem bT (he:PE X e ta) (hb:qHd e f X.env (eval e X.env)=eval e X.env):PE X (.Attribute e f pos) (LR X.K ta f):=by
 intro pins s σ H Q I h;refine Ep hb (cB (he pins s σ H _ I h) fun u s1 ⟨x,H1,I1,rx,a,C,dx,fs,v,ex,ea,c,n,l,q⟩=>?_);subst ex;obtain rfl:u=Value.ref a:=rx;exact wF I1 ea c n l fun u' s2 I2 ru=>⟨v,H1,I2,ru,q⟩
theorem lZ (ha:PE X o ta) (hv:PE X value tv) (hs:qJz value (some (.Attribute o f pos')) pos.line X.env=pure false):PS X (.Assign [.Attribute o f pos'] value pos) (Ob X.K ta tv f):=by
 intro pins s σ H D I h;refine plainObj_wpAny_Assign_Attribute (cB (hv pins s σ H _ I h) fun u s1 ⟨y,H1,I1,ry,q⟩=>cB (ha pins s1 σ H1 _ I1 q) fun ov s2 ⟨x,H2,I2,rx,a,C,dx,fs,ex,ea,c,n,l,q2⟩=>?_) hs;subst ex;obtain rfl:ov=Value.ref a:=rx;exact wH I2 ea c n l ry fun s3 I3=>⟨σ,_,I3,q2⟩
end
section
variable {X:Cx}{pins:List (Addr×Obj)}{σ:St}{H:Hp}{s:qAh}{A:qCq}{E:qAf->qAh->Prop}{Q:qAf->qAh->Prop}{c:qAf}{b:Bool}
inductive i3 (K:qAc) (H:Hp):V->qAf->Prop where
 | non:i3 K H .non (.type "NoneType")
 | bl (x:Bool):i3 K H (.bl x) (.type "bool")
 | int (i:Int):i3 K H (.int i) (.type "int")
 | str (x:Str):i3 K H (.str x) (.type "str")
 | flt (x:UInt64):i3 K H (.flt x) (.type "float")
 | lst {a:Addr}{xs:List V} (e:H a=some (.lst xs)):i3 K H (.ref a) (.type "list")
 | frz {a:Addr}{o:Obj}{xs:List V} (e:H a=some (.frz o (.lst xs))):i3 K H (.ref a) (.type "list")
 | tup {a:Addr}{xs:List V} (e:H a=some (.tup xs)):i3 K H (.ref a) (.type "tuple")
 | dK {a:Addr}{kvs:List (Key×V)} (e:H a=some (.dK kvs)):i3 K H (.ref a) (.type "dict")
 | dT {a:Addr}{kvs:List (List Key×V)} (e:H a=some (.dT kvs)):i3 K H (.ref a) (.type "dict")
 | ins {a C dx:Addr}{fs:List (Str×V)} (e:H a=some (.ins C dx fs)) (cl:Eb K C) (ha:qBa K (.ref C) "__class__"=some (some (.builtin "object.__class__")))
   (hn:qEv K (.builtin "object.__class__") "__get__"=some (some (.builtin "getset_descriptor.__get__"))) (htk:qFn K (.builtin "object.__class__")=some true)
   (hm:qDw K C (.type "object")=some true):i3 K H (.ref a) (.ref C)
end
structure dY (k:Nat) (A:qCq):Prop where
 hd:A.handled=none
 dp:A.depth+3*k+5<recursionLimit
 un:A.units+16*k+200<qLq
theorem dY.mono {j k:Nat}{A:qCq} (r:dY k A) (h:j<=k):dY j A:=⟨r.hd,by have:=r.dp;omega,by have:=r.un;omega⟩
theorem dY.deeper {k:Nat}{A:qCq} (r:dY (k+1) A) (env:Env):dY k (A.deeper env) :=
 ⟨r.hd,by have:=r.dp;show A.depth+1+3*k+5<_;omega,by have:=r.un;show A.units+3+16*k+200<_;omega⟩
theorem wI {A:qCq}{C:Addr}{us:List qAf}{kw:List (Str×qAf)}:(A.under (.builtin "type.__call__" ⟨.ref C::us,kw⟩)).depth=A.depth+1:=by
 first | rfl | simp[Around.under,Code.weight,Code.isCreation,Code.isGuard,Code.isCaller,Code.frames,Code.isFrame,guardIds]
theorem wJ {A:qCq}{C:Addr}{us:List qAf}{kw:List (Str×qAf)}:(A.under (.builtin "type.__call__" ⟨.ref C::us,kw⟩)).units=A.units+1:=by
 first | rfl | simp[Around.under,Code.cUnits,Code.frames,Code.isFrame]
theorem dY.make {k:Nat}{A:qCq} (r:dY (k+1) A) (C:Addr) (us:List qAf) (kw:List (Str×qAf)):dY k (A.under (.builtin "type.__call__" ⟨.ref C::us,kw⟩)) :=
 ⟨r.hd,by have:=r.dp;rw[wI];omega,by have:=r.un;rw[wJ];omega⟩
theorem dY.depth {k:Nat}{A:qCq} (r:dY k A):A.depth<recursionLimit:=by have:=r.dp;omega
theorem dY.units {k:Nat}{A:qCq} (r:dY k A):A.units+64<qLq:=by have:=r.un;omega
def iK:TA:=fun _ H Q=>Q [] H
def Bx (ta:TE) (tr:TA):TA:=fun σ H Q=>ta σ H fun x H1=>tr σ H1 fun xs H2=>Q (x::xs) H2
section
variable {X:Cx}{e:Expr}{es:List Expr}{te:TE}{t:TA}{pos:Pos}
theorem aB:PA X [] iK:=fun _ _ _ _ H Q I h=>qHg ⟨[],H,I,.nil,h⟩
theorem aA (ha:PE X e te) (hr:PA X es t) (hs:qBt (e::es) X.env=(false,eval e X.env)::qBt es X.env:=by rfl):PA X (e::es) (Bx te t):=by
 intro pos pins s σ H Q I h;rw[hs];show qBg _ _ (qOk ((false,eval e X.env)::qGu pos (qBt es X.env))) _ _ s;refine qGt (cB (ha pins s σ H _ I h) fun u s1 ⟨x,H1,I1,r1,q1⟩=>?_);exact cB (hr pos pins s1 σ H1 _ I1 q1) fun us s2 ⟨xs,H2,I2,r2,q2⟩=>⟨x::xs,H2,I2,.cons r1 r2,q2⟩
def Oc (t:TA):TE:=fun σ H Q=>t σ H fun xs H1=>xs.length<=qAj/\∀p,H1 p=none->Q (.ref p) (upd H1 p (.tup xs))
def Od (t:TA):TE:=fun σ H Q=>t σ H fun xs H1=>xs.length<=qAj/\∀p,H1 p=none->Q (.ref p) (upd H1 p (.lst xs))
theorem cI {x1} (h:PA X es t):PE X (.Tuple es x1 pos) (Oc t):=by
 intro pins s σ H Q I hq;refine wpAny_Tuple_spliced (cB (h pos pins s σ H _ I hq) fun us s1 ⟨xs,H1,I1,r,z,q⟩=>⟨by rw[<- r.length];exact z,?_⟩);have hf:H1 s1.heap.objs.size=none:=I1.cH.fresh (qAg _);refine⟨.ref s1.heap.objs.size,upd H1 s1.heap.objs.size (.tup xs),I1.laid (t':=s1.toks) (fun b u e=>qAi _ e) (qAg _) ?_,rfl,q _ hf⟩;exact⟨z,us,r,⟨_,qAs _ rfl,rfl,_,rfl⟩⟩
theorem bU (h:PA X es t):PE X (.List es pos) (Od t):=by
 intro pins s σ H Q I hq;refine wpAny_List_spliced (cB (h pos pins s σ H _ I hq) fun us s1 ⟨xs,H1,I1,r,z,q⟩=>⟨by rw[<- r.length];exact z,?_⟩);have hf:H1 s1.heap.objs.size=none:=I1.cH.fresh (qAg _);refine⟨.ref s1.heap.objs.size,upd H1 s1.heap.objs.size (.lst xs),I1.laid (t':=s1.toks) (fun b u e=>qAi _ e) (qAg _) ?_,rfl,q _ hf⟩;exact⟨z,us,0,r,qAs _ rfl⟩
end
abbrev Sp:=List V->Hp->VK->XK->Prop
abbrev Ak:=List Env->Hp->qAh->XK->qAf->qAh->Prop
structure wK (P:qBl) (w:qCw) (K:qAc) (mg:Str->Option qAf) (base:Heap) (A:qCq) (outer:List Env) (s:qAh) (H:Hp):Prop where
 frames:A.frames=some outer
 mod:Mod K mg base
 bs:∀b o,base.get? b=some o->s.heap.get? b=some o/\H b=none
 Ei:base.objs.size<=s.heap.objs.size
 kJ:s.heap.FunFrames base outer
 Hk:∀b∈nY outer,H b=none
 cH:jV P w H s.heap
 bare:qIy s.gens
def CE (outer:List Env) (P:qBl) (w:qCw) (H:Hp) (s:qAh) (Q:VK) (u:qAf) (s':qAh):Prop :=
 ∃v H',s'.os=s.os/\qIy s'.gens/\Un (nY outer) [] H H' s.heap s'.heap/\jV P w H' s'.heap/\RelV v u/\Q v H'
def CR (CX:Ak) (outer:List Env) (P:qBl) (w:qCw) (H:Hp) (s:qAh) (Q:VK) (E:XK) (r:qOw) (s':qAh):Prop :=
 match r with
 | .ok (.ret u)=>CE outer P w H s Q u s'
 | .ok _=>False
 | .error e=>CX outer H s E e s'
structure i4 (P:qBl) (w:qCw) (K:qAc) (mg:Str->Option qAf) (base:Heap) (CX:Ak) (k:Nat) (f:Addr) (fd:qBk) (ps:List Str) (sp:Sp):Prop where
 len:∀vs H Q E,sp vs H Q E->vs.length=ps.length
 run:∀(A:qCq) (outer:List Env) (s:qAh) (H:Hp) (args:Args) (us:List qAf) (vs:List V) (Q:VK) (E:XK),dY k A->wK P w K mg base A outer s H->qNg s fd args (ps.zip us)->Vals vs us->sp vs H Q E ->
  qHi (qBz P w) A (.call (.ref f) args) (CR CX outer P w H s Q E) s
theorem wK.make {P:qBl}{w:qCw}{K:qAc}{mg:Str->Option qAf}{base:Heap}{A:qCq}{outer:List Env}{s:qAh}{H:Hp} (e:wK P w K mg base A outer s H) (C:Addr) (us:List qAf) (kw:List (Str×qAf)) :
  wK P w K mg base (A.under (.builtin "type.__call__" ⟨.ref C::us,kw⟩)) outer s H:=⟨by first|exact e.frames | (simpa [Around.under,Code.envs,Code.isFrame,pushEnvs] using e.frames),e.mod,e.bs,e.Ei,e.kJ,e.Hk,e.cH,e.bare⟩
section
variable {X:Cx}{pins:List (Addr×Obj)}{σ:St}{H:Hp}{s s':qAh}
theorem Inv.HB (I:Inv X pins σ H s):wK X.prog X.w X.K X.mg X.base X.A X.stack s H :=
 ⟨I.ok.frames,I.ok.mod,I.bs,qCx I.ok.Ei I.sz,I.stack,I.nM,I.cH,I.bare⟩
theorem Inv.after {Q:VK}{u:qAf} (I:Inv X pins σ H s) (h:CE X.stack X.prog X.w H s Q u s'):EP X pins σ Q u s':=by
 obtain⟨v,H',os,bare,un,cH,r,q⟩:=h;obtain⟨hh,g,d,t,os'⟩:=s';obtain rfl:os'=s.os:=os;exact⟨v,H',I.call (h':=hh) (g':=g) (d':=d) (t':=t) (ch:=[]) un cH bare (fun b z=>absurd z (by simp)),r,q⟩
end
def FQ (sp:Sp) (dvs:List V) (E:XK) (t:TA):TE:=fun σ H Q=>t σ H fun vs H1=>sp (vs++dvs) H1 Q E
def Binds (K:qAc) (fd:qBk) (ps:List Str) (ds:List qAf):Prop :=
 ∀(s:qAh) (us:List qAf),K.In s.heap->(us++ds).length=ps.length->qNg s fd ⟨us,[]⟩ (ps.zip (us++ds))
theorem Binds.all {K:qAc}{fd:qBk}{ps:List Str} (h:∀us:List qAf,us.length=ps.length->qNd fd ⟨us,[]⟩=pure (ps.zip us)):Binds K fd ps []:=fun s us _ hl=>by
 rw[qDp] at hl|-;exact .of_eq (h us hl)
def Passes (CX:Ak) (X:Cx) (E:XK):Prop:=∀(pins:List (Addr×Obj)) (σ:St) (H:Hp) (s:qAh) (e:qAf) (s':qAh),Inv X pins σ H s->CX X.stack H s E e s'->X.xe e s'
section
variable {X:Cx}{CX:Ak}{k:Nat}{f C:Addr}{fd:qBk}{ps:List Str}{sp:Sp}{dvs:List V}{ds:List qAf}{E:XK}{x m:Str}{p pos apos:Pos}{e o:Expr}{es:List Expr}{ta:TE}{t:TA}
theorem HC {pins:List (Addr×Obj)}{σ:St}{H:Hp}{s:qAh}{Q:VK}{us:List qAf}{vs:List V} (F:i4 X.prog X.w X.K X.mg X.base CX k f fd ps sp) (hr:dY k X.A) (hb:Binds X.K fd ps ds) (hd:Vals dvs ds) (hx:Passes CX X E)
  (I:Inv X pins σ H s) (r:Vals vs us) (h:sp (vs++dvs) H Q E):qBg (qBz X.prog X.w) X.A (call (.ref f) us) (EP X pins σ Q) X.xe s:=by
 have r2:Vals (vs++dvs) (us++ds):=r.append hd;have hl:(us++ds).length=ps.length:=by rw[<- r2.length];exact F.len _ _ _ _ h
 refine qJb (qFz (F.run X.A X.stack s H ⟨us,[]⟩ (us++ds) (vs++dvs) Q E hr I.HB (hb s us I.vX hl) r2 h) fun r s' hq=>?_);cases r with
 | error e=>exact hx pins σ H s e s' I hq
 | ok fl =>
  cases fl with
  | ret u=>exact I.after hq
  | next=>exact False.elim hq
  | brk=>exact False.elim hq
  | cont=>exact False.elim hq
theorem Er (F:i4 X.prog X.w X.K X.mg X.base CX k f fd ps sp) (hr:dY k X.A) (hg:Gl X x) (hm:X.mg x=some (.ref f)) (hk:qCs X.K (.ref f)=true) (hb:Binds X.K fd ps ds) (hd:Vals dvs ds) (hx:Passes CX X E)
  (ha:PA X (e::es) t) (hdb:(x == ("__debug__":Str))=false:=by decide) (he:qBt (e::es) X.env=(false,eval e X.env)::qBt es X.env:=by rfl) (hpl:(qGu pos (qBt es X.env)).any (·.1)=false:=by rfl) :
  PE X (.Call (.Name x p) (e::es) [] pos) (FQ sp dvs E t):=by
 intro pins s σ H Q I h;refine qGc (kK I hg hm ?_ hdb);refine qGm (h₀:=X.base) I.ok.mod.Hj hk (cB (ha pos pins s σ H _ I h) fun us s1 ⟨vs,H1,I1,r,q⟩=>⟨I1.vX,?_⟩) he hpl;exact HC F hr hb hd hx I1 r q
structure Mk (K:qAc) (C f:Addr):Prop where
 makes:qJj K C=true
 init:qBa K (.ref C) "__init__"=some (some (.ref f))
 fn:qEu K (.ref f)=true
 kp:qCs K (.ref C)=true
end
section
variable {X:Cx}{CX:Ak}{k:Nat}{f C:Addr}{fd:qBk}{ps ks:List Str}{sp:Sp}{E:XK}{x m:Str}{p pos apos kpos:Pos}{e o:Expr}{es:List Expr}{kws:List qOn}{te ta:TE}{t tk:TA}{nm:Option Str}
variable {g:List qAf->List qAf->List qAf}{gV:List V->List V->List V}
end
structure aQ (N P:List Str) (sc:qIj):Prop where
 kind:sc.kind = .function
 co:sc.isCoroutine=false
 gen:sc.isGenerator=false
 nd:N.Nodup
 pre:N.take P.length=P
 par:∀x∈P,sc.names.lookup x=some .local\/sc.names.lookup x=some .cell
 HD:∀y∈sc.names,y.2≠.free
theorem pY {qIn:Str->Option qIk}{x:Str}:∀{binds:List (Str×qAf)}{m:Str->Option qAf},(∀v,(x,v)∉binds)->qPf qIn binds m x=m x
 | [],_,_=>rfl
 | (n,v)::r,m,h=>by
  unfold qPf;rw[pY fun w hw=>h w (qCi _ hw)];split
  ·have:x≠n:=by rintro rfl;exact h v qDh
   simp[this]
  ·rfl
theorem pZ {qIn:Str->Option qIk}{x:Str}:∀{binds:List (Str×qAf)}{m:Str->Option qAf},(∀v,(x,v)∉binds)->qPg qIn binds m x=m x
 | [],_,_=>rfl
 | (n,v)::r,m,h=>by
  unfold qPg;rw[pZ fun w hw=>h w (qCi _ hw)];split
  ·rfl
  ·have:x≠n:=by rintro rfl;exact h v qDh
   simp[this]
theorem p4 {qIn:Str->Option qIk}{x:Str}{v:qAf}:∀{P:List Str}{vs:List qAf}{i:Nat}{m:Str->Option qAf},P.Nodup->P[i]?=some x->vs[i]?=some v->qIn x=some .local ->
  qPf qIn (P.zip vs) m x=some v
 | [],_,_,_,_,h,_,_=>by simp at h
 | _::_,[],_,_,_,_,h,_=>by simp at h
 | p::P,w::vs,0,m,nd,h1,h2,hk=>by
  simp at h1 h2;subst h1;subst h2;show qPf qIn ((p,w)::P.zip vs) m p=_;unfold qPf;rw[pY fun v hv=>(List.nodup_cons.mp nd).1 (qGo hv).1,if_pos hk];simp
 | p::P,w::vs,i+1,m,nd,h1,h2,hk=>by
  show qPf qIn ((p,w)::P.zip vs) m x=_;unfold qPf;exact p4 (i:=i) (List.nodup_cons.mp nd).2 (by simpa using h1) (by simpa using h2) hk
theorem p5 {qIn:Str->Option qIk}{x:Str}{v:qAf}:∀{P:List Str}{vs:List qAf}{i:Nat}{m:Str->Option qAf},P.Nodup->P[i]?=some x->vs[i]?=some v->qIn x≠some .local ->
  qPg qIn (P.zip vs) m x=some v
 | [],_,_,_,_,h,_,_=>by simp at h
 | _::_,[],_,_,_,_,h,_=>by simp at h
 | p::P,w::vs,0,m,nd,h1,h2,hk=>by
  simp at h1 h2;subst h1;subst h2;show qPg qIn ((p,w)::P.zip vs) m p=_;unfold qPg;rw[pZ fun v hv=>(List.nodup_cons.mp nd).1 (qGo hv).1,if_neg hk];simp
 | p::P,w::vs,i+1,m,nd,h1,h2,hk=>by
  show qPg qIn ((p,w)::P.zip vs) m x=_;unfold qPg;exact p5 (i:=i) (List.nodup_cons.mp nd).2 (by simpa using h1) (by simpa using h2) hk
def start (N:List Str) (vs:List V):St:=vs.map some++qBj (N.length-vs.length) none
def oA (CX:Ak) (P:qBl) (w:qCw) (K:qAc) (mg:Str->Option qAf) (base:Heap) (N:List Str) (qual:Str) (scope:qIj) (f:Addr) (cd:qAf) (A:qCq) (outer:List Env) (s:qAh) (H:Hp) (E:XK):Cx where
 prog:=P
 w:=w
 K:=K
 mg:=mg
 base:=base
 A:=A.deeper (qIx qual scope s.heap.objs.size f cd)
 N:=N
 s₀:=s
 H₀:=H
 env:=qIx qual scope s.heap.objs.size f cd
 outer:=outer
 stack:=qIx qual scope s.heap.objs.size f cd::outer
 ex:=[]
 calm:=true
 fn:=fun _=>true
 pn:=[]
 xe:=fun e s'=>qBg (qBz P w) (A.deeper (qIx qual scope s.heap.objs.size f cd)) (leaving (qIx qual scope s.heap.objs.size f cd) e) (fun _ s''=>CX outer H s E e s'') (fun e' s''=>CX outer H s E e' s'') s'
theorem tZ {sc:qIj}{n:Nat}{x:Str} (h:sc.names.lookup x=some .cell):∃c,(qKd n sc.names []).lookup x=some c:=by
 have q:=qKt sc.names n [] (.inl h);exact Option.isSome_iff_exists.mp q
theorem Al {CX:Ak}{P:qBl}{w:qCw}{K:qAc}{mg:Str->Option qAf}{base:Heap}{N ps:List Str}{qual:Str}{scope:qIj}{f:Addr}{cd:qAf}{A:qCq}{outer:List Env}{s s1:qAh}{H:Hp}{E:XK}{us:List qAf}{vs:List V}
  (S:aQ N ps scope) (hd:A.handled=none) (e0:wK P w K mg base A outer s H) (hl:vs.length=ps.length) (r:Vals vs us)
  (x:InCallC s s.heap.objs.size (qPf (qIx qual scope s.heap.objs.size f cd).kindOf (ps.zip us) fun _=>none) (qKd (s.heap.objs.size+1) scope.names []) (qPg (qIx qual scope s.heap.objs.size f cd).kindOf (ps.zip us) fun _=>none) s1) :
  Inv (oA CX P w K mg base N qual scope f cd A outer s H E) [] (start N vs) H s1:=by
 have hpl:ps.length<=N.length:=by have:=congrArg List.length S.pre;rw[qEi] at this;omega
 obtain⟨h1,tk,rfl,hk⟩:=x.done;have noA:∀b:Addr,b∉(oA CX P w K mg base N qual scope f cd A outer s H E).ex:=fun b z=>absurd (show b∈([]:List Addr) from z) (by simp);refine⟨⟨e0.mod,S.kind,rfl,rfl,qAg _,fun y z c h1 h2=>?_,fun y hy=>?_,fun y c _ h=>?_,fun _=>hd,Around.frames_deeper e0.frames,.inr ⟨rfl,rfl⟩,fun b z=>absurd z (noA b),e0.bs,e0.Ei,fun b _ _=>noA b,fun b z=>absurd z (noA b),e0.kJ,e0.Hk⟩,
  rfl,e0.bare,Un.kept hk,⟨_,x.toInCall.ns,fun i y v h1 h2 h3=>?_⟩,fun y c h=>⟨_,x.cell y c h⟩,e0.cH.fresh (qAg _),fun y c h=>?_,fun p hp=>absurd (show p∈([]:List (Addr×Obj)) from hp) (by simp),e0.cH.kept hk,?_⟩
 ·exact name_of_addr x.apart (PySem.mem_of_lookup h1) (PySem.mem_of_lookup h2)
 ·have hy:scope.names.lookup y=some .cell\/scope.names.lookup y=some .free:=hy;rcases hy with hy | hy
  ·exact tZ hy
  ·exact absurd rfl (S.HD _ (PySem.mem_of_lookup hy))
 ·exact qAn (x.above y c (PySem.mem_of_lookup h))
 ·have hi:i<vs.length:=by
   unfold start at h2;by_cases hi:i<vs.length
   ·exact hi
   ·rw[qAy (by simpa using hi)] at h2;rw[qLe] at h2;split at h2 <;> cases h2
  have ha:vs[i]?=some v:=by
   unfold start at h2;rw[qBb (by simpa using hi),qAp] at h2;cases e:vs[i]? with
   | none=>rw[e] at h2;cases h2
   | some a=>rw[e] at h2;cases h2;rfl
  obtain⟨u,hu,rv⟩:=r.get ha;have hp:ps[i]?=some y:=by
   rw[<- S.pre,qKz (by omega)];exact h1
  have ndP:ps.Nodup:=by rw[<- S.pre];exact S.nd.sublist (List.take_sublist _ _)
  refine⟨u,rv,?_⟩;rcases S.par y (qBe hp) with k | k
  ·exact .inl ⟨k,p4 ndP hp hu k⟩
  ·obtain⟨c,e⟩:=tZ (n:=s.heap.objs.size+1) k;refine .inr ⟨.inl k,c,e,?_⟩;have q:=x.cell y c e;rw[p5 ndP hp hu (by show scope.names.lookup y≠_;rw[k];decide)] at q;exact q
 ·exact e0.cH.fresh (qAn (x.above y c (PySem.mem_of_lookup h)))
 ·unfold start;show _=N.length;rw[qAo,qAb,qGe];omega
theorem FT {CX:Ak}{P:qBl}{w:qCw}{K:qAc}{mg:Str->Option qAf}{base:Heap}{k:Nat}{f:Addr}{name qual:Str}{params:Arguments}{body:List Stmt}{scope:qIj}{dV kV doc pm cdv ct oc:qAf}{an od:Option Addr}
  {osl:Array (Option qAf)}{N ps:List Str}{sp:Sp} (lk:K.lookup f=some ⟨oc,od,.func (qDk name qual params body scope dV kV doc pm an cdv ct),osl⟩) (hcd:qDy K cdv qual=true) (S:aQ N ps scope)
  (len:∀vs H Q E,sp vs H Q E->vs.length=ps.length)
  (hbody:∀(A:qCq) (outer:List Env) (s:qAh) (H:Hp) (vs:List V) (Q:VK) (E:XK),dY k (A.deeper (qIx qual scope s.heap.objs.size f cdv))->sp vs H Q E ->
   ∃t,tP (oA CX P w K mg base N qual scope f cdv A outer s H E) body t/\t { nx:=fun _ H'=>Q .non H',rt:=Q } (start N vs) H) :
  i4 P w K mg base CX (k+1) f (qDk name qual params body scope dV kV doc pm an cdv ct) ps sp:=by
 refine⟨len,fun A outer s H args us vs Q E hr e0 hb r hsp=>?_⟩;have hl:=len _ _ _ _ hsp;have KX:K.In s.heap:=e0.mod.Hj.keeps fun b o e=>(e0.bs b o e).1;have lim:s.heap.NoLimit:=e0.mod.nolimit.keeps fun b o e=>(e0.bs b o e).1;have hkind:∀y∈ps.zip us,scope.names.lookup y.1=some .local\/(scope.names.lookup y.1=some .cell/\((qKd (s.heap.objs.size+1) scope.names []).lookup y.1).isSome=true):=fun⟨n,v⟩ hy=>by
  rcases S.par n (qGo hy).1 with q | q
  ·exact .inl q
  ·exact .inr ⟨q,qKt _ _ _ (.inl q)⟩
 refine codeAny_call_function hr.depth (KX _ _ lk) rfl S.co S.gen rfl (PySem.W.codeRec_of KX hcd) (hb _ _ _ _ ?_);refine wpAny_newFunctionEnv_cells S.kind hkind fun env he s1 x=>?_;subst he;refine⟨lim.keeps x.toInCall.keep,codeAny_func ?_⟩;obtain⟨t,ht,hq⟩:=hbody A outer s H vs Q E (hr.deeper _) hsp;have I:Inv (oA CX P w K mg base N qual scope f cdv A outer s H E) [] (start N vs) H s1:=Al S hr.hd e0 hl r x;refine qHf (ht [] s1 (start N vs) H _ I hq) (fun fl s' hs=>?_) fun e s' hs=>hs;have fin:∀{σ':St}{H':Hp}{v:V}{u:qAf},Inv (oA CX P w K mg base N qual scope f cdv A outer s H E) [] σ' H' s'->RelV v u->Q v H'->CE outer P w H s Q u s' :=
  fun {σ' H' v u} J rv q=>⟨v,H',J.os,J.bare,J.base,J.cH,rv,q⟩
 cases fl with
 | ret u =>
  obtain⟨v,σ',H',J,rv,q⟩:=hs;exact fin J rv q
 | next =>
  obtain⟨σ',H',J,q⟩:=hs;exact fin (v:=V.non) (u:=Value.none) J rfl q
 | brk =>
  obtain⟨_,_,_,q⟩:=hs;exact False.elim q
 | cont =>
  obtain⟨_,_,_,q⟩:=hs;exact False.elim q
section
variable {X:Cx}{x:Str}{p pos:Pos}{e:Expr}{es:List Expr}{t:TA}{id T:String}{r:List V->Hp->VK->Prop}
def OW (r:List V->Hp->VK->Prop) (t:TA):TE:=fun σ H Q=>t σ H fun vs H1=>r vs H1 Q
theorem aL (hc:gA X (.builtin id) r) (hg:Gl X x) (hm:X.mg x=none) (hv:qCo x=some (.builtin id)) (ha:PA X (e::es) t) (hn:x≠"__name__":=by decide) (hdb:(x == ("__debug__":Str))=false:=by decide)
  (he:qBt (e::es) X.env=(false,eval e X.env)::qBt es X.env:=by rfl) (hpl:(qGu pos (qBt es X.env)).any (·.1)=false:=by rfl):PE X (.Call (.Name x p) (e::es) [] pos) (OW r t):=by
 intro pins s σ H Q I h;refine qGc (fE I hg hm hv ?_ hn hdb);exact qIa (cB (ha pos pins s σ H _ I h) fun us s1 ⟨vs,H1,I1,r1,q1⟩=>hc pins s1 σ H1 vs us Q I1 r1 q1) he hpl
theorem eO (hc:gA X (.type T) r) (hg:Gl X x) (hm:X.mg x=none) (hv:qCo x=some (.type T)) (ha:PA X (e::es) t) (hn:x≠"__name__":=by decide) (hdb:(x == ("__debug__":Str))=false:=by decide)
  (he:qBt (e::es) X.env=(false,eval e X.env)::qBt es X.env:=by rfl) (hpl:(qGu pos (qBt es X.env)).any (·.1)=false:=by rfl):PE X (.Call (.Name x p) (e::es) [] pos) (OW r t):=by
 intro pins s σ H Q I h;refine qGc (fE I hg hm hv ?_ hn hdb);exact qCb (cB (ha pos pins s σ H _ I h) fun us s1 ⟨vs,H1,I1,r1,q1⟩=>hc pins s1 σ H1 vs us Q I1 r1 q1) he hpl
end
end L2
namespace HT
open PySem PyProof.Rows
section
open PySem.SeqAt
open PySem.AutoSeq1 (wpAny_loadPart')
open PySem.MeetsSeq PySem.MeetsSeq2 PySem.MeetsSeq3
end
section
variable {prog:qBl}{w:qCw}{A:qCq}{E:qAf->qAh->Prop}{s:qAh}
def eM (n d:Nat):Option Int->Nat
 | none=>d
 | some v=>if v<0 then (v+(n:Int)).toNat else min v.toNat n
theorem t4 (n d:Nat):eM n d none=d:=rfl
theorem yF (n d k:Nat):eM n d (some (k:Int))=min k n:=by
 show(if (k:Int)<0 then ((k:Int)+(n:Int)).toNat else min (k:Int).toNat n)=min k n;rw[if_neg (by omega),qBi]
theorem HE (n d:Nat) (hd:d<=n) (o:Option Int):eM n d o<=n:=by
 cases o with
 | none=>exact hd
 | some v =>
  show(if v<0 then (v+(n:Int)).toNat else min v.toNat n)<=n;by_cases hv:v<0
  ·rw[if_pos hv];omega
  ·rw[if_neg hv];exact Nat.min_le_right _ _
theorem yG (v:Int) (n d:Nat):(if v<0 then max (v+(n:Int)) 0 else min v (n:Int))=((eM n d (some v):Nat):Int):=by
 show(if v<0 then max (v+(n:Int)) 0 else min v (n:Int))=(((if v<0 then (v+(n:Int)).toNat else min v.toNat n):Nat):Int);by_cases hv:v<0
 ·simp only[if_pos hv];omega
 ·simp only[if_neg hv];omega
theorem wL (lo hi:Option Int) (n:Nat):Builtin.Slice.sliceAdjust lo hi 1 (n:Int)=(((eM n 0 lo:Nat):Int),((eM n n hi:Nat):Int)):=by
 have h1:¬((1:Int)<0):=by omega
 unfold Builtin.Slice.sliceAdjust;simp only[h1,if_false];refine Prod.ext ?_ ?_
 ·cases lo with
  | none=>rfl
  | some v=>exact yG v n 0
 ·cases hi with
  | none=>rfl
  | some v=>exact yG v n n
theorem wM (i j:Nat):Builtin.Slice.slicePlaces (i:Int) (j:Int) 1=j-i:=by
 unfold Builtin.Slice.slicePlaces;have h1:(1:Int)>0:=by omega
 simp only[h1,if_true,Int.ediv_one];split <;> omega
theorem oB {v:qAf}{o:Option Int}{Q:Option Int->qAh->Prop} (p:qKw v o) (h:Q o s):qBg (qBz prog w) A (Builtin.Slice.slicePartIndex v) Q E s:=by
 cases p with
 | none=>exact slicePart_none h
 | int i t=>exact slicePart_int h
theorem hV {sl:Addr}{vl vu:qAf}{lo hi:Option Int}{n:Nat}{Q:Int×Int×Nat->qAh->Prop} (hs:s.heap.IsSliceOf sl vl vu .none) (pl:qKw vl lo) (pu:qKw vu hi)
  (h:Q (((eM n 0 lo:Nat):Int),1,eM n n hi-eM n 0 lo) s):qBg (qBz prog w) A (Builtin.Slice.sliceApplied (.ref sl) (pure (n:Int))) Q E s:=by
 obtain⟨os,hos,hcs,hds⟩:=id hs;unfold Builtin.Slice.sliceApplied Builtin.Slice.sliceFields;refine qAa (qAa (wpAny_field hos hds (x:=vl) rfl (qAa (wpAny_field hos hds (x:=vu) rfl (qAa (wpAny_field hos hds (x:=.none) rfl (qAe ?_)))))));refine qAa (slicePart_none ?_);show qBg _ _ (if ((1:Int) == 0)=true then _ else _) _ _ s;rw[if_neg (by decide)];refine qAa (oB pl (qAa (oB pu (qAa (qAe ?_)))));show qBg _ _ (match Builtin.Slice.sliceAdjust lo hi 1 (n:Int) with | (lo,hi)=>pure (lo,(1:Int),Builtin.Slice.slicePlaces lo hi 1)) _ _ s
 rw[wL lo hi n];show qBg _ _ (pure (((eM n 0 lo:Nat):Int),(1:Int),Builtin.Slice.slicePlaces ((eM n 0 lo:Nat):Int) ((eM n n hi:Nat):Int) 1)) _ _ s;rw[wM];exact qAe h
theorem By (xs:Array qAf) (i k:Nat):((qAl k).filterMap fun(m:Nat)=>xs[((i:Int)+(m:Int)*1).toNat]?).toArray=((xs.toList.drop i).take k).toArray:=by
 have e:(fun(m:Nat)=>xs[((i:Int)+(m:Int)*1).toNat]?)=fun m=>xs[i+m]?:=by
  funext m
  have:((i:Int)+(m:Int)*1).toNat=i+m:=by omega
  rw[this]
 rw[e];have:=pick_run xs i k;rw[qHb] at this;have e2:((fun x=>xs[x]?)∘fun x=>i+x)=fun m=>xs[i+m]?:=rfl;rw[e2] at this;rw[this]
theorem kM {t sl:Addr}{items:Array qAf}{vl vu:qAf}{lo hi:Option Int}{Q:qAf->qAh->Prop} (ht:IsTup s.heap t items) (hs:s.heap.IsSliceOf sl vl vu .none) (pl:qKw vl lo) (pu:qKw vu hi)
  (hw:¬(eM items.size 0 lo=0/\eM items.size items.size hi=items.size))
  (h:Q (.ref s.heap.objs.size) { s with heap:=s.heap.push { cls:=.type "tuple",data:=.seq ((items.toList.drop (eM items.size 0 lo)).take (eM items.size items.size hi-eM items.size 0 lo)).toArray } })
  (hsz:items.size<=qAj):qBg (qBz prog w) A (qIi (.ref t) (.ref sl)) Q E s:=by
 have htake:sizeOk (.seq ((items.toList.drop (eM items.size 0 lo)).take (eM items.size items.size hi-eM items.size 0 lo)).toArray):=by
  show((items.toList.drop (eM items.size 0 lo)).take (eM items.size items.size hi-eM items.size 0 lo)).toArray.size<=qAj;rw[qAv,qEi,qHq,qBs];omega
 have hj:eM items.size items.size hi<=items.size:=HE _ _ (qAg _) hi;obtain⟨os,hos,hcs,hds⟩:=id hs;have hTs:s.TypeIs (.ref sl) "slice":=⟨os,hos,hcs⟩;unfold qIi;try with_reducible refine qDi ?_
 first | refine qAa (qAe ?_) | skip
 refine qAa (wpAny_sequenceKey ht.typeIs (by decide) ?_);refine qAa (qEf (name:=Str.ofString "__getitem__") ht.typeIs qEg
  (qEa qEg ht.typeIs entry_tuple_getitem ?_ (args_tuple_getitem _ _)))
 show qBg _ _ (Builtin.Tuple.tupleItemsOf (.ref t) >>= _) _ _ s;refine qAa (tupleItemsOf_ ht ?_);refine qAa (qHp hTs ?_);rw[if_pos (by decide)];refine qAa (hV hs pl pu ?_);have hno:¬((((eM items.size 0 lo:Nat):Int) == 0&&(1:Int) == 1&&(eM items.size items.size hi-eM items.size 0 lo) == items.size)=true):=by
  intro q;rw[qCa,qCa] at q;have q1:((eM items.size 0 lo:Nat):Int)=0:=eq_of_beq q.1.1;have q2:eM items.size items.size hi-eM items.size 0 lo=items.size:=eq_of_beq q.2;exact hw ⟨by omega,by omega⟩
 show qBg _ _ (if (((eM items.size 0 lo:Nat):Int) == 0&&(1:Int) == 1&&(eM items.size items.size hi-eM items.size 0 lo) == items.size)=true then _ else _) _ _ s;rw[if_neg hno,By];first
  | exact qAa (m:=Builtin.Tuple.tupleExact _) (qCh (qAe ⟨_,rfl,qAe h⟩) htake)
  | exact qAa (m:=Builtin.Tuple.tupleExact _) (qCh (qAa (qAe (qAe ⟨_,rfl,qAe h⟩))) htake)
  | exact qAa (qAa (m:=Builtin.Tuple.tupleExact _) (qCh (qAe (qAe ⟨_,rfl,qAe h⟩)) htake))
  | exact qAa (qAa (m:=Builtin.Tuple.tupleExact _) (qCh (qAe ⟨_,rfl,qAe h⟩) htake))
end
end HT
namespace L2
open PySem PySem.Spec PyProof.Rows
abbrev TO:=St->Hp->(Option Int->Hp->Prop)->Prop
def PO (X:Cx) (e:Option Expr) (t:TO):Prop :=
 ∀(pins:List (Addr×Obj)) (s:qAh) (σ:St) (H:Hp) (Q:Option Int->Hp->Prop),Inv X pins σ H s->t σ H Q ->
  qBg (qBz X.prog X.w) X.A (evalPart e X.env) (fun u s'=>∃o H',Inv X pins σ H' s'/\qKw u o/\Q o H') X.xe s
def Es:TO:=fun _ H Q=>Q none H
def LS (t:TE):TO:=fun σ H Q=>t σ H fun x H1=>∃i,x = .int i/\Q (some i) H1
theorem intsAre_of {ns:List Int}:∀{us:List qAf},Vals (ns.map V.int) us->qHt us ns:=by
 induction ns with
 | nil=>intro us r;rw[qEl] at r;cases r;exact .nil
 | cons n ns ih =>
  intro us r;rw[qDf] at r;cases r with
  | cons r1 r2 =>
   obtain⟨t,e⟩:=r1;subst e;exact .cons n t (ih r2)
section
variable {X:Cx}{e:Expr}{te:TE}{lo hi:Option Expr}{tl th:TO}{pos p2:Pos}
theorem kN:PO X none Es:=by
 intro pins s σ H Q I h;rw[evalPart_none];exact qAe ⟨none,H,I,.none,h⟩
theorem kO (h:PE X e te):PO X (some e) (LS te):=by
 intro pins s σ H Q I hw;rw[evalPart_some];refine cB (h pins s σ H _ I hw) fun u s1 ⟨x,H1,I1,r1,q1⟩=>?_;obtain⟨i,rfl,q⟩:=q1;obtain⟨t,rfl⟩:=r1;exact⟨some i,H1,I1,.int i t,q⟩
def LU (X:Cx) (r:V->Option Int->Option Int->Hp->VK->Prop):Prop :=
 ∀(pins:List (Addr×Obj)) (s:qAh) (σ:St) (H:Hp) (x:V) (v vl vu:qAf) (lo hi:Option Int) (sl:Addr) (Q:VK),Inv X pins σ H s->RelV x v->s.heap.IsSliceOf sl vl vu .none->qKw vl lo->qKw vu hi->r x lo hi H Q ->
  ∃T id,qMn (.type T) "__getitem__"=pure (some (.builtin id))/\s.TypeIs v T/\qBg (qBz X.prog X.w) X.A (qIi v (.ref sl)) (EP X pins σ Q) X.xe s
def Pp (r:V->Option Int->Option Int->Hp->VK->Prop) (te:TE) (tl th:TO):TE:=fun σ H Q=>te σ H fun x H1=>tl σ H1 fun l H2=>th σ H2 fun u H3=>r x l u H3 Q
theorem i5 {r:V->Option Int->Option Int->Hp->VK->Prop} (hr:LU X r) (he:PE X e te) (hl:PO X lo tl) (hu:PO X hi th):PE X (.Subscript e (.Slice lo hi none p2) pos) (Pp r te tl th):=by
 intro pins s σ H Q I h;refine Subscript_ (cB (he pins s σ H _ I h) fun v s1 ⟨x,H1,I1,r1,q1⟩=>?_);refine wpAny_Slice (cB (hl pins s1 σ H1 _ I1 q1) fun vl s2 ⟨l,H2,I2,pl,q2⟩=>cB (hu pins s2 σ H2 _ I2 q2) fun vu s3 ⟨u,H3,I3,pu,q3⟩=>?_);rw[evalPart_none];refine qAe ?_;have I4:Inv X pins σ H3 { s3 with heap:=s3.heap.push { cls:=.type "slice",data:=.fields #[vl,vu,.none] } }:=I3.kept (t':=s3.toks) fun b ob q=>qAi _ q;obtain⟨T,id,hT,ht,hg⟩:=hr pins { s3 with heap:=s3.heap.push { cls:=.type "slice",data:=.fields #[vl,vu,.none] } } σ H3 x v vl vu l u s3.heap.objs.size Q I4 r1 (Heap.IsSliceOf.new ..) pl pu q3;show qBg (qBz X.prog X.w) X.A (subscriptTail e (.Slice lo hi none p2) v (.ref s3.heap.objs.size)) (EP X pins σ Q) X.xe { s3 with heap:=s3.heap.push { cls:=.type "slice",data:=.fields #[vl,vu,.none] } };exact tail_any (ops:=[.ref s3.heap.objs.size,v]) ht hT hg (by with_unfolding_all rfl)
def gQ (xs:List V) (lo hi:Option Int):List V:=(xs.drop (HT.eM xs.length 0 lo)).take (HT.eM xs.length xs.length hi-HT.eM xs.length 0 lo)
theorem mT (xs:List V) (lo hi:Option Int):(gQ xs lo hi).length<=xs.length:=by
 unfold gQ;rw[qEi,qHq];omega
def Oe (K:qAc):V->Option Int->Option Int->Hp->VK->Prop:=fun x lo hi H Q=>∃a xs,x = .ref a/\cQ K H a xs /\
 ¬(HT.eM xs.length 0 lo=0/\HT.eM xs.length xs.length hi=xs.length)/\∀p,H p=none->Q (.ref p) (upd H p (.tup (gQ xs lo hi)))
theorem HF:LU X (Oe X.K):=by
 intro pins s σ H x v vl vu lo hi sl Q I rx hs pl pu h;obtain⟨a,xs,rfl,hx,hw,q⟩:=h;cases rx;obtain⟨its,r,ht,hz⟩:=I.tuple hx;have hlen:its.toArray.size=xs.length:=by rw[qAv];exact r.length.symm
 refine⟨"tuple",_,PyProof.Rows.slot_tuple_getitem.lookup,ht.typeIs,?_⟩;refine HT.kM ht hs pl pu (by rw[hlen];exact hw) ?_ (by rw[hlen];exact hz);rw[hlen];refine⟨.ref s.heap.objs.size,_,I.laid (t':=s.toks) (o:=.tup (gQ xs lo hi)) (fun b ob q=>qAi _ q) (qAg _) ?_,rfl,q _ (I.cH.fresh (qAg _))⟩;exact⟨qCx (mT xs lo hi) hz,_,(r.drop (HT.eM xs.length 0 lo)).take (HT.eM xs.length xs.length hi-HT.eM xs.length 0 lo),IsTup.new _ _⟩
end
def Bj (n:Nat) (i:Int):Option Nat:=if 0<=i then (if i<n then some i.toNat else none) else if -(n:Int)<=i then some (i+n).toNat else none
def gC {α:Type} (xs:List α) (i:Int):Option α:=(Bj xs.length i).bind fun j=>xs[j]?
theorem yH {n:Nat}{i:Int}{j:Nat} (h:Bj n i=some j):seqIndex? i n=some j/\j<n/\-(n:Int)<=i/\i<n:=by
 unfold Bj at h;by_cases h0:0<=i
 ·rw[if_pos h0] at h;by_cases h1:i<n
  ·rw[if_pos h1] at h;have e:i.toNat=j:=Option.some.inj h;exact⟨by rw[seqIndex_of h0 h1,e],by omega,by omega,h1⟩
  ·rw[if_neg h1] at h;cases h
 ·rw[if_neg h0] at h;by_cases h1:-(n:Int)<=i
  ·rw[if_pos h1] at h;have e:(i+n).toNat=j:=Option.some.inj h;exact⟨by rw[seqIndex_neg (by omega) h1,e],by omega,h1,by omega⟩
  ·rw[if_neg h1] at h;cases h
theorem yI {α:Type}{xs:List α}{i:Int}{v:α} (h:gC xs i=some v):∃j,seqIndex? i xs.length=some j/\xs[j]?=some v/\j<xs.length/\-(xs.length:Int)<=i/\i<xs.length:=by
 unfold gC at h;cases e:Bj xs.length i with
 | none=>rw[e] at h;cases h
 | some j =>
  rw[e] at h;obtain⟨h1,h2,h3,h4⟩:=yH e;exact⟨j,h1,h,h2,h3,h4⟩
theorem fJ {α:Type}{xs:List α}{j:Nat}{v:α} (h:xs[j]?=some v):gC xs (j:Int)=some v:=by
 have hj:j<xs.length:=(List.getElem?_eq_some_iff.mp h).1;have e:Bj xs.length (j:Int)=some j:=by
  unfold Bj;rw[if_pos (by omega),if_pos (by omega)];simp
 unfold gC;rw[e];exact h
def Et (b:Expr):Prop:=∀o i,qLn b false o i=operate [o,i] (qIi o i)
def Lp (X:Cx) (r:R2):Prop :=
 ∀(value slice:Expr) (pins:List (Addr×Obj)) (s:qAh) (σ:St) (H:Hp) (x y:V) (v u:qAf) (Q:VK),Inv X pins σ H s->RelV x v->RelV y u->r x y H Q ->
  qLn slice false v u=operate [v,u] (qIi v u)->qBg (qBz X.prog X.w) X.A (subscriptTail value slice v u) (EP X pins σ Q) X.xe s
def Lq (X:Cx) (id:String) (r:V->List V->Hp->VK->Prop):Prop :=
 ∀(pins:List (Addr×Obj)) (s:qAh) (σ:St) (H:Hp) (x:V) (xs:List V) (v:qAf) (us:List qAf) (Q:VK),Inv X pins σ H s->RelV x v->Vals xs us->r x xs H Q ->
  qBg (qBz X.prog X.w) X.A (call (.builtin id) (v::us)) (EP X pins σ Q) X.xe s
section
variable {X:Cx}{a b:Expr}{ta tb:TE}{pos:Pos}
theorem aS {r:R2} (hr:Lp X r) (ha:PE X a ta) (hb:PE X b tb) (hs:Et b):PE X (.Subscript a b pos) (ND r ta tb):=by
 intro pins s σ H Q I h;exact Subscript_ (Hx ha hb I h fun v u s2 x y H2 I2 rx ry q=>hr a b pins s2 σ H2 x y v u Q I2 rx ry q (hs _ _))
def LV (K:qAc):R2:=fun x y H Q=>∃p xs i v,x = .ref p/\y = .int i/\aT K H p xs/\gC xs i=some v/\Q v H
def LW (K:qAc):R2:=fun x y H Q=>∃p xs i v,x = .ref p/\y = .int i/\cQ K H p xs/\gC xs i=some v/\Q v H
theorem a8:Lp X (LV X.K):=by
 intro value slice pins s σ H x y v u Q I rx ry h hs;obtain⟨p,xs,i,z,rfl,rfl,hq,he,q⟩:=h;cases rx;obtain⟨t,rfl⟩:=ry;obtain⟨its,r,pl,hz⟩:=I.list hq;obtain⟨j,h1,h2,h3,h4,h5⟩:=yI he;obtain⟨w,ew,rw'⟩:=r.get h2;have hl:=r.length;have hn:=rL;have fin:EP X pins σ Q w s:=⟨z,H,I,rw',q⟩;by_cases h0:0<=i
 ·have hj:i.toNat=j:=by
   rw[seqIndex_of h0 h5] at h1;exact Option.some.inj h1
  exact item_listR pl.isList h0 (by omega) (by rw[hj];simpa using ew) fin hs
 ·have hj:(i+(its.toArray.size:Int)).toNat=j:=by
   rw[seqIndex_neg (by omega) h4] at h1;rw[qAv,<- hl];exact Option.some.inj h1
  exact subscriptTail_builtinR (x:=w) pl.isList.typeIs slot_list_getitem.lookup
   (wpAny_getItem_list_neg (Q:=fun r s'=>r=w/\EP X pins σ Q r s') pl.isList (by omega) (by rw[qAv] <;> omega) (by omega) (by rw[hj];simpa using ew) ⟨rfl,fin⟩) hs
theorem bI:Lp X (LW X.K):=by
 intro value slice pins s σ H x y v u Q I rx ry h hs;obtain⟨p,xs,i,z,rfl,rfl,hq,he,q⟩:=h;cases rx;obtain⟨t,rfl⟩:=ry;obtain⟨its,r,pl,hz⟩:=I.tuple hq;obtain⟨j,h1,h2,h3,h4,h5⟩:=yI he;obtain⟨w,ew,rw'⟩:=r.get h2;have hl:=r.length;have hn:=rL;have fin:EP X pins σ Q w s:=⟨z,H,I,rw',q⟩;exact subscriptTail_builtinR (x:=w) pl.typeIs slot_tuple_getitem.lookup
  (getItem_tuple (j:=j) (Q:=fun r s'=>r=w/\EP X pins σ Q r s') pl (by omega) (by omega) (by rw[qAv,<- hl];exact h1) (by simpa using ew) ⟨rfl,fin⟩) hs
theorem wN (its:List qAf) (n j:Nat) (u:qAf):Obj.mapSeq (·.setIfInBounds j u) { cls:=.type "list",data:=.seq its.toArray n }={ cls:=.type "list",data:=.seq (its.set j u).toArray n }:=by
 simp[Obj.mapSeq]
theorem Inv.lst {pins:List (Addr×Obj)}{σ:St}{H:Hp}{s:qAh}{p:Addr}{xs:List V} (I:Inv X pins σ H s) (h:H p=some (.lst xs)) :
  ∃(its:List qAf) (n:Nat),Vals xs its/\s.heap.get? p=some { cls:=.type "list",data:=.seq its.toArray n }/\xs.length<=qAj:=by
 obtain⟨z,its,n,r,e⟩:=I.cH p _ h;exact⟨its,n,r,e,z⟩
theorem Inv.HG {pins:List (Addr×Obj)}{σ:St}{H:Hp}{s:qAh}{p:Addr}{xs ys:List V}{its its':List qAf}{n n':Nat}{f:Obj->Obj} (I:Inv X pins σ H s) (h:H p=some (.lst xs))
  (ho:s.heap.get? p=some { cls:=.type "list",data:=.seq its.toArray n }) (hf:f { cls:=.type "list",data:=.seq its.toArray n }={ cls:=.type "list",data:=.seq its'.toArray n' }) (r:Vals ys its') (hz:ys.length<=qAj) (t:Nat) :
  Inv X pins σ (upd H p (.lst ys)) { s with heap:=s.heap.update p f,toks:=t }:=by
 have e:(s.heap.update p f).get? p=some { cls:=.type "list",data:=.seq its'.toArray n' }:=by
  rw[qDc f ho (by rw[hf] <;> rfl),hf]
 refine I.write (x:=p) (e:=p) (by rw[h];trivial) (.inl rfl) (fun b u hb q=>(qDv _ _ (Ne.symm hb)).trans q) ⟨_,e⟩ ?_;exact⟨hz,its',n',r,e⟩
def LX:V->V->V->Hp->(Hp->Prop)->Prop:=fun o i v H Q=>∃p xs k j,o = .ref p/\i = .int k/\H p=some (.lst xs)/\Bj xs.length k=some j/\Q (upd H p (.lst (xs.set j v)))
theorem set_list:Hu X LX:=by
 intro pins s σ H o i v ov iv u Q I ro ri rv h;obtain⟨p,xs,k,j,rfl,rfl,hp,hj,q⟩:=h;cases ro;obtain⟨t,rfl⟩:=ri;obtain⟨its,n,r,ho,hz⟩:=I.lst hp;obtain⟨h1,h2,h3,h4⟩:=yH hj;have hl:=r.length;have hn:=rL;have I':Inv X pins σ (upd H p (.lst (xs.set j v))) { s with heap:=s.heap.update p (Obj.mapSeq (·.setIfInBounds j u)) } :=
  I.HG hp ho (wN its n j u) (r.set rv j) (by rw[qKj];exact hz) s.toks
 by_cases h0:0<=k
 ·have hk:k.toNat=j:=by
   rw[seqIndex_of h0 h4] at h1;exact Option.some.inj h1
  exact PySem.W.ki_setAt ho h0 (by omega) (by rw[qAv,<- hl];exact h4) (by rw[hk];exact⟨_,I',q⟩)
 ·have hk:(k+(its.toArray.size:Int)).toNat=j:=by
   rw[seqIndex_neg (by omega) h3] at h1;rw[qAv,<- hl];exact Option.some.inj h1
  exact PySem.W.ki_setBack ho (by omega) (by rw[qAv,<- hl];exact h3) (by omega) (by rw[hk];exact⟨_,I',q⟩)
theorem rM (lo hi:Option Int) (n:Nat):(qHh lo hi none n).1=((HT.eM n 0 lo:Nat):Int)/\(qHh lo hi none n).2.1=((HT.eM n n hi:Nat):Int)/\(qHh lo hi none n).2.2=1:=by
 refine⟨?_,?_,rfl⟩
 ·cases lo with
  | none=>simp[qHh,HT.eM]
  | some i =>
   simp only[qHh,HT.eM,qMt,show(1:Int)>0 by decide,if_true];by_cases h:i<0
   ·simp only[h,if_true] <;> omega
   ·simp only[h,if_false] <;> omega
 ·cases hi with
  | none=>simp[qHh,HT.eM]
  | some i =>
   simp only[qHh,HT.eM,qMt,show(1:Int)>0 by decide,if_true];by_cases h:i<0
   ·simp only[h,if_true] <;> omega
   ·simp only[h,if_false] <;> omega
theorem pS (its:List qAf) (lo hi:Option Int):slicePick its.toArray lo hi none=((its.drop (HT.eM its.length 0 lo)).take (HT.eM its.length its.length hi-HT.eM its.length 0 lo)).toArray:=by
 obtain⟨h1,h2,h3⟩:=rM lo hi its.toArray.size;unfold slicePick;rw[h1,h2,h3];simp only[sliceRange_one,pick_run,qAv] <;> rfl
def Of (K:qAc):V->Option Int->Option Int->Hp->VK->Prop:=fun x lo hi H Q=>∃a xs,x = .ref a/\aT K H a xs/\∀p,H p=none->Q (.ref p) (upd H p (.lst (gQ xs lo hi)))
theorem rN:LU X (Of X.K):=by
 intro pins s σ H x v vl vu lo hi sl Q I rx hs pl pu h;obtain⟨a,xs,rfl,hx,q⟩:=h;cases rx;obtain⟨its,r,ht,hz⟩:=I.list hx;have hlen:=r.length;refine⟨"list",_,slot_list_getitem.lookup,ht.isList.typeIs,?_⟩;refine wpAny_getItem_list_slice ht.isList hs pl pu .none (by simp) ?_ (by rw[qAv] <;> omega);rw[pS,<- hlen];refine⟨.ref s.heap.objs.size,_,I.laid (t':=s.toks) (o:=.lst (gQ xs lo hi)) (fun b ob q=>qAi _ q) (qAg _) ?_,rfl,q _ (I.cH.fresh (qAg _))⟩;exact⟨qCx (mT xs lo hi) hz,_,0,(r.drop (HT.eM xs.length 0 lo)).take (HT.eM xs.length xs.length hi-HT.eM xs.length 0 lo),qAs _ rfl⟩
def mU:V->Bool
 | .non=>true
 | .bl _=>true
 | .int _=>true
 | .str _=>true
 | _=>false
def Eu:V->V->Bool
 | .non,.non=>true
 | .bl a,.bl b=>a == b
 | .bl a,.int b=>(if a then 1 else 0) == b
 | .int a,.bl b=>a == (if b then 1 else 0)
 | .int a,.int b=>a == b
 | .str a,.str b=>a == b
 | _,_=>false
theorem HH {A:qCq}{s:qAh}{y x:V}{u v:qAf} (ry:RelV y u) (rx:RelV x v) (fy:mU y=true) (fx:mU x=true):SeqAt.EqAt A s u v (Eu y x):=by
 cases y with
 | non =>
  cases ry
  cases x with
  | non=>cases rx;exact SeqAt.EqAt.same _
  | bl b=>cases rx;exact SeqAt.EqAt.none_bool b
  | int b=>obtain⟨t,rfl⟩:=rx;exact SeqAt.EqAt.none_int b t
  | str b=>obtain⟨t,rfl⟩:=rx;exact SeqAt.EqAt.none_str b t
  | _=>exact absurd (show false=true from fx) qAm
 | bl a =>
  cases ry
  cases x with
  | non=>cases rx;exact SeqAt.EqAt.bool_none a
  | bl b=>cases rx;exact SeqAt.EqAt.bool_bool a b
  | int b=>obtain⟨t,rfl⟩:=rx;exact SeqAt.EqAt.bool_int a b t
  | str b=>obtain⟨t,rfl⟩:=rx;exact SeqAt.EqAt.bool_str a b t
  | _=>exact absurd (show false=true from fx) qAm
 | int a =>
  obtain⟨t',rfl⟩:=ry;cases x with
  | non=>cases rx;exact SeqAt.EqAt.int_none a t'
  | bl b=>cases rx;exact SeqAt.EqAt.int_bool a t' b
  | int b=>obtain⟨t,rfl⟩:=rx;exact SeqAt.EqAt.int_int a t' b t
  | str b=>obtain⟨t,rfl⟩:=rx;exact SeqAt.EqAt.int_str a t' b t
  | _=>exact absurd (show false=true from fx) qAm
 | str a =>
  obtain⟨t',rfl⟩:=ry;cases x with
  | non=>cases rx;exact SeqAt.EqAt.str_none a t'
  | bl b=>cases rx;exact SeqAt.EqAt.str_bool a t' b
  | int b=>obtain⟨t,rfl⟩:=rx;exact SeqAt.EqAt.str_int a t' b t
  | str b=>obtain⟨t,rfl⟩:=rx;exact SeqAt.EqAt.str_str a t' b t
  | _=>exact absurd (show false=true from fx) qAm
 | _=>exact absurd (show false=true from fy) qAm
def Ew (x:V) (u:qAf):Bool:=match u with
 | .none=>Eu .non x
 | .bool b=>Eu (.bl b) x
 | .int i _=>Eu (.int i) x
 | .str z _=>Eu (.str z) x
 | _=>false
theorem Bz {x y:V}{u:qAf} (r:RelV y u) (f:mU y=true):Ew x u=Eu y x:=by
 cases y with
 | non=>cases r;rfl
 | bl b=>cases r;rfl
 | int i=>obtain⟨t,rfl⟩:=r;rfl
 | str z=>obtain⟨t,rfl⟩:=r;rfl
 | _=>exact absurd (show false=true from f) qAm
theorem rO {x:V}:∀{xs:List V}{us:List qAf},Vals xs us->xs.all mU=true->us.any (Ew x)=xs.any fun y=>Eu y x
 | _,_,.nil,_=>rfl
 | y::xs,u::us,.cons r t,f=>by
  rw[qOr,qCa] at f;rw[qHo,qHo,Bz r f.1,rO t f.2]
theorem oC {A:qCq}{s:qAh}{x:V}{v:qAf} (rx:RelV x v) (fx:mU x=true):∀{xs:List V}{us:List qAf},Vals xs us->xs.all mU=true->∀u∈us,SeqAt.EqAt A s u v (Ew x u)
 | _,_,.nil,_=>fun u hu=>by cases hu
 | y::xs,u::us,.cons r t,f=>fun u' hu=>by
  rw[qOr,qCa] at f;rcases List.mem_cons.mp hu with rfl | hu
  ·rw[Bz r f.1];exact HH r rx f.1 fx
  ·exact oC rx fx t f.2 u' hu
def LY (x:V) (xs:List V):Bool:=xs.any fun y=>Eu y x
def Pq (K:qAc) (neg:Bool):R2:=fun x y H Q=>∃p xs,y = .ref p/\(aT K H p xs\/cQ K H p xs)/\mU x=true/\xs.all mU=true/\Q (.bl (if neg then !LY x xs else LY x xs)) H
theorem rP:iG X (qDt .NotIn) (Pq X.K true):=by
 intro pins s σ H x y v u Q I rx ry h;obtain⟨p,xs,rfl,hq,fx,fs,q⟩:=h;cases ry;rcases hq with hq | hq
 ·obtain⟨its,r,pl,hz⟩:=I.list hq;refine SeqAt.notIn_listAt (Ew x) pl.isList (fun w hw=>oC rx fx r fs w (by simpa using hw)) ⟨.bl _,H,I,rfl,?_⟩;rw[show its.toArray.any (Ew x)=its.any (Ew x) by simp,rO r fs];exact q
 ·obtain⟨its,r,pl,hz⟩:=I.tuple hq;refine SeqAt.notIn_tupleAt (Ew x) pl (fun w hw=>oC rx fx r fs w (by simpa using hw)) ⟨.bl _,H,I,rfl,?_⟩;rw[show its.toArray.any (Ew x)=its.any (Ew x) by simp,rO r fs];exact q
theorem aO:gA X (.builtin "len") (fun xs H Q=>∃p ys,xs=[.ref p]/\(aT X.K H p ys\/cQ X.K H p ys)/\Q (.int ys.length) H):=by
 intro pins s σ H xs us Q I r h;obtain⟨p,ys,rfl,hq,q⟩:=h;obtain⟨u,rfl,rx⟩:=vals1 r;cases rx;have hn:=rL;rcases hq with hq | hq
 ·obtain⟨its,r',pl,hz⟩:=I.list hq;have hlen:=r'.length;exact Calls.call_len_list pl.isList (by simp only[qAv] <;> omega) ⟨.int ys.length,H,I.tok _,⟨s.toks+1,by rw[qAv,hlen]⟩,q⟩
 ·obtain⟨its,r',pl,hz⟩:=I.tuple hq;have hlen:=r'.length;exact len_tuple pl (by simp only[qAv] <;> omega) ⟨.int ys.length,H,I.tok _,⟨s.toks+1,by rw[qAv,hlen]⟩,q⟩
theorem fT:gA X (.type "list") (fun xs H Q=>∃p ys,xs=[.ref p]/\(aT X.K H p ys\/cQ X.K H p ys)/\∀l,H l=none->Q (.ref l) (upd H l (.lst ys))):=by
 intro pins s σ H xs us Q I r h;obtain⟨p,ys,rfl,hq,q⟩:=h;obtain⟨u,rfl,rx⟩:=vals1 r;cases rx;have fin:∀(its:List qAf),Vals ys its->ys.length<=qAj->∀(h':Heap) (c':Nat),(∀b o',s.heap.get? b=some o'->h'.get? b=some o') ->
   h'.get? s.heap.objs.size=some { cls:=.type "list",dict:=none,data:=.seq its.toArray c',slots:=#[] }->EP X pins σ Q (.ref s.heap.objs.size) { s with heap:=h' }:=fun its r' hz h' c' kp e =>
  ⟨.ref s.heap.objs.size,_,I.laid (t':=s.toks) kp (qAg _) (show cS X.prog X.w _ h' _ (.lst ys) from⟨hz,its,c',r',e⟩),rfl,q _ (I.cH.fresh (qAg _))⟩
 rcases hq with hq | hq
 ·obtain⟨its,r',pl,hz⟩:=I.list hq;have hlen:=r'.length;obtain⟨o,ho,hc,n,hd⟩:=pl.isList;exact call_list_seq p (.inl rfl) ho hc hd (fun h' c' kp e=>fin its r' hz h' c' kp e) (by simp only[qAv] <;> omega)
 ·obtain⟨its,r',pl,hz⟩:=I.tuple hq;have hlen:=r'.length;obtain⟨o,ho,hc,n,hd⟩:=pl;exact call_list_seq p (.inr rfl) ho hc hd (fun h' c' kp e=>fin its r' hz h' c' kp e) (by simp only[qAv] <;> omega)
def OX (K:qAc) (T:String) (x:V) (H:Hp):Prop:=match x with
 | .str _=>T="str"
 | .int _=>T="int"
 | .ref p=>(T="list"/\∃xs,aT K H p xs)\/(T="tuple"/\∃o,K.lookup p=some o/\o.cls = .type "tuple"/\o.dict=none) \/
   (T="dict"/\((∃kvs,H p=some (.dK kvs))\/∃kvs,H p=some (.dT kvs)))\/(T="set"/\∃S n,H p=some (.set S n))
 | _=>False
theorem HI {pins:List (Addr×Obj)}{σ:St}{H:Hp}{s:qAh}{T:String}{x:V}{v:qAf} (I:Inv X pins σ H s) (r:RelV x v) (ty:OX X.K T x H) :
  s.TypeIs v T/\∀a,v = .ref a->∃ob,s.heap.get? a=some ob/\ob.dict=none:=by
 cases x with
 | str z =>
  obtain⟨t,rfl⟩:=r;cases (show T="str" from ty);exact⟨typeIs_str s z t,fun _ e=>nomatch e⟩
 | int i =>
  obtain⟨t,rfl⟩:=r;cases (show T="int" from ty);exact⟨typeIs_int s i t,fun _ e=>nomatch e⟩
 | ref p =>
  cases r
  rcases ty with ⟨rfl,xs,hq⟩ | ⟨rfl,o,hk,hc,hd⟩ | ⟨rfl,hk⟩ | ⟨rfl,S,n,hk⟩
  ·obtain⟨its,_,pl,_⟩:=I.list hq;refine⟨pl.isList.typeIs,fun a e=>?_⟩;cases e;obtain⟨o,n,e,c,hd,_⟩:=pl;exact⟨o,e,hd⟩
  ·refine⟨⟨o,I.vX p o hk,hc⟩,fun a e=>?_⟩;cases e;exact⟨o,I.vX _ o hk,hd⟩
  ·have z:∃o,s.heap.get? p=some o/\o.ExactDict:=by
    rcases hk with ⟨kvs,hk⟩ | ⟨kvs,hk⟩
    ·obtain⟨_,_,_,_,o,_,_,e,ex,_⟩:=I.cH p _ hk;exact⟨o,e,ex⟩
    ·obtain⟨_,_,_,_,o,_,_,e,ex,_⟩:=I.cH p _ hk;exact⟨o,e,ex⟩
   obtain⟨o,e,ex⟩:=z;refine⟨⟨o,e,ex.1⟩,fun a e2=>?_⟩;cases e2;exact⟨o,e,ex.2.1⟩
  ·obtain⟨o,_,_,_,e,ex,_⟩:=I.cH p _ hk;refine⟨⟨o,e,ex.1⟩,fun a e2=>?_⟩;cases e2;exact⟨o,e,ex.2.1⟩
 | _=>exact False.elim ty
def OY (K:qAc) (T:String) (r:V->List V->Hp->VK->Prop) (to:TE) (t:TA):TE:=fun σ H Q=>to σ H fun x H1=>OX K T x H1/\t σ H1 fun xs H2=>r x xs H2 Q
variable {o e:Expr}{es:List Expr}{to:TE}{t:TA}{name:Str}{apos cpos:Pos}{T id:String}{r:V->List V->Hp->VK->Prop}
theorem t5 (pa:PlainAttrs T) (slot:Slot T name id) (hty:qPu (.builtin id)=pure (.type "method_descriptor")) (hm:Lq X id r) (ho:PE X o to) (ha:PA X (e::es) t)
  (hbase:qHd o name X.env (eval o X.env)=eval o X.env:=by rfl)
  (hfew:((qGu cpos (qBt (e::es) X.env)).all (fun x=>!x.1)&&(backToKw cpos (keywordEach [] X.env)).all (fun x=>x.1.isSome)
   && decide ((e::es).length+([]:List qOn).length+(if ([]:List qOn).isEmpty then 0 else 1)<30))=true:=by rfl)
  (hline:(apos.endLine == cpos.line)=true:=by rfl) (hs:qBt (e::es) X.env=(false,eval e X.env)::qBt es X.env:=by rfl) (hplain:(qGu cpos (qBt es X.env)).any (·.1)=false:=by rfl) :
  PE X (.Call (.Attribute o name apos) (e::es) [] cpos) (OY X.K T r to t):=by
 intro pins s σ H Q I h;refine wpAny_Call_method_late hbase hfew hline rfl (cB (ho pins s σ H _ I h) fun v s1 ⟨x,H1,I1,r1,ty,q1⟩=>?_);obtain⟨h1,h2⟩:=HI I1 r1 ty;refine⟨T,id,pa,slot,hty,h1,h2,?_⟩;have hA:=ha cpos pins s1 σ H1 _ I1 q1;rw[hs] at hA|-;refine qLf (by show(false||(qGu cpos (qBt es X.env)).any (·.1))=false;rw[hplain] <;> rfl) (qLv ?_)
 exact cB hA fun us s2 ⟨vs,H2,I2,r2,q2⟩=>hm pins s2 σ H2 x vs v us Q I2 r1 r2 q2
end
def OZ (X:Cx) (id:String) (r:V->List V->Hp->VK->Prop):Prop :=
 ∀(pins:List (Addr×Obj)) (s:qAh) (σ:St) (H:Hp) (x:V) (xs:List V) (v:qAf) (us:List qAf) (Q:VK),Inv X pins σ H s->RelV x v->Vals xs us->r x xs H Q ->
  qBg (qBz X.prog X.w) X.A (call (.builtin id) (v::us)) (EP X pins σ Q) X.xe s
theorem Vals.one:∀{x:V}{us:List qAf},Vals [x] us->∃u,us=[u]/\RelV x u
 | _,_,.cons r .nil=>⟨_,rfl,r⟩
theorem Vals.rep {xs:List V}{us:List qAf} (h:Vals xs us):∀k:Nat,Vals (qBj k xs).flatten (qBj k us).flatten
 | 0=>.nil
 | k+1=>by
  rw[qDz,qDz,qFc,qFc];exact Vals.append h (Vals.rep h k)
theorem foldl_rep (its:List qAf):∀(k:Nat) (acc:List qAf),
  qNi (fun x1 x2=>x1++x2) acc.toArray (qBj k its.toArray)=(acc++(qBj k its).flatten).toArray
 | 0,acc=>by simp
 | k+1,acc=>by
  have e:acc.toArray++its.toArray=(acc++its).toArray:=by simp
  have e2:(acc++its)++(qBj k its).flatten=acc++(qBj (k+1) its).flatten:=by
   rw[qDz,qFc,qHl]
  rw[<- e2,<- foldl_rep its k (acc++its),<- e,qDz,List.foldl_cons]
section
variable {X:Cx}{pins:List (Addr×Obj)}{σ:St}{H:Hp}{s:qAh}{l b:Addr}{xs ys zs:List V}
theorem Inv.LZ {its its':List qAf}{n:Nat}{f:Array qAf->Array qAf}{t':Nat} (I:Inv X pins σ H s) (hH:H l=some (.lst xs))
  (e:s.heap.get? l=some { cls:=.type "list",data:=.seq its.toArray n }) (hf:f its.toArray=its'.toArray) (hv:Vals ys its') (hz:ys.length<=qAj) :
  Inv X pins σ (upd H l (.lst ys)) { s with heap:=s.heap.update l (Obj.mapSeq f),toks:=t' }:=by
 have q:=PySem.IsL.update e f;rw[hf] at q;refine I.write (x:=l) (e:=l) (by rw[hH];exact trivial) (.inl rfl) (fun b' u hb hu=>(qDv s.heap (Obj.mapSeq f) (Ne.symm hb)).trans hu) ⟨_,q⟩ ?_;exact⟨hz,its',_,hv,q⟩
theorem Inv.Ma {its:List qAf}{t':Nat} (I:Inv X pins σ H s) (hv:Vals ys its) (hz:ys.length<=qAj) :
  Inv X pins σ (upd H s.heap.objs.size (.lst ys)) { s with heap:=s.heap.push { cls:=.type "list",data:=.seq its.toArray },toks:=t' } :=
 I.laid (fun _ _ q=>qAi _ q) (qAg _) ⟨hz,its,0,hv,qAs _ rfl⟩
theorem Inv.fresh (I:Inv X pins σ H s):H s.heap.objs.size=none:=I.cH.fresh (qAg _)
theorem Inv.Ey (I:Inv X pins σ H s) (hH:H l=some (.lst xs)):xs.length<=qAj/\∃(its:List qAf) (n:Nat),Vals xs its/\xs.length=its.length/\s.heap.get? l=some { cls:=.type "list",data:=.seq its.toArray n }:=by
 obtain⟨z,its,n,r,e⟩:=I.cH l _ hH;exact⟨z,its,n,r,r.length,e⟩
theorem t6 {n:Nat} (h:n<=qAj):Builtin.List.listTooLong n=false:=by
 unfold Builtin.List.listTooLong;exact decide_eq_false (by omega)
end
section
variable {X:Cx}
def yJ:V->List V->Hp->VK->Prop:=fun x vs H Q=>∃l xs y,x = .ref l/\vs=[y]/\H l=some (.lst xs)/\xs.length<qAj/\Q .non (upd H l (.lst (xs++[y])))
theorem mB:OZ X "list.append" yJ:=by
 intro pins s σ H x vs v us Q I rx rv h;obtain⟨l,xs,y,rfl,rfl,hH,hz,q⟩:=h;cases rx;obtain⟨u,rfl,ru⟩:=rv.one;obtain⟨z,its,n,r,hl,e⟩:=I.Ey hH;refine qJc F.slot_list_append ⟨_,e,rfl⟩ F.entry_list_append (F.args_list_append_2 _ _) (PySem.list_append l its.toArray n u (by rw[qAv];omega)) ⟨e,?_⟩;refine⟨.non,_,I.LZ (its':=its++[u]) hH e (by simp) (r.append (.cons ru .nil)) ?_,rfl,q⟩;rw[qAo,qBf];omega
def Og:R2:=fun x y H Q=>∃l k xs,x = .ref l/\y = .int k/\H l=some (.lst xs)/\-(2^63)<=k/\k<2^63/\xs.length*k.toNat<=qAj /\
 ∀p,H p=none->Q (.ref p) (upd H p (.lst (qBj k.toNat xs).flatten))
theorem len_rep {α:Type} (xs:List α) (k:Nat):(qBj k xs).flatten.length=k*xs.length:=by
 induction k with
 | zero=>simp
 | succ k ih=>rw[qDz,qFc,qAo,ih,Nat.succ_mul,qIe]
theorem fQ:iG X (qFm .Mult) Og:=by
 intro pins s σ H x y v u Q I rx ry h;obtain⟨l,k,xs,rfl,rfl,hH,h1,h2,hz,q⟩:=h;cases rx;obtain⟨t,rfl⟩:=ry;obtain⟨z,its,n,r,hl,e⟩:=I.Ey hH;have hlen:its.toArray.size*k.toNat<=qAj:=by rw[qAv,<- hl];exact hz
 have hcap:¬its.toArray.size*k.toNat>(2^63-1)/8:=by
  have:(qAj:Nat)<=(2^63-1)/8:=by decide
  omega
 have hfit:¬(!Builtin.List.listFitsIndex k)=true:=by
  rw[fitsIndex_both h1 h2];exact qAm
 have hlong:¬Builtin.List.listTooLong (its.toArray.size*k.toNat)=true:=by
  rw[t6 hlen];exact qAm
 have hnew:qNi (fun x1 x2=>x1++x2) #[] (qBj (if its.toArray.isEmpty=true then 0 else k.toNat) its.toArray)=(qBj k.toNat its).flatten.toArray:=by
  have f0:∀m:Nat,qNi (fun x1 x2=>x1++x2) #[] (qBj m its.toArray)=(qBj m its).flatten.toArray:=fun m=>by
   have:=foldl_rep its m [];rw[qCm] at this;exact this
  rw[f0];cases its with
  | nil=>simp
  | cons a r'=>rw[if_neg (by simp)]
 refine wpAny_binaryOp_repeat_ref (T:="list") (U:="int") (by decide) ⟨_,e,rfl⟩ (fun s'=>typeIs_int s' k t) noFill_list_mul F.fills_int_mul F.slot_int_rmul repeat_list F.slot_int_index.lookup
  (qJc F.slot_int_rmul (typeIs_int s k t) F.entry_int_rmul (F.args_int_rmul_2 _ _) (int___rmul___int_list k t l its.toArray n)
   ⟨e,rfl,⟨_,e,rfl⟩,qJc F.slot_list_mul ⟨_,e,rfl⟩ F.entry_list_mul (F.args_list_mul_2 _ _) (AutoListH.list___mul___list_int_3 l its.toArray n k t hfit hcap hlong) ⟨e,?_⟩⟩)
 rw[hnew];exact⟨.ref _,_,I.Ma (t':=s.toks) (r.rep k.toNat) (by rw[len_rep,qMb];exact hz),rfl,q _ I.fresh⟩
end
section
variable {prog:qBl}{w:qCw}{A:qCq}{E:qAf->qAh->Prop}{s:qAh}
set_option maxRecDepth 100000 in
end
section
variable {X:Cx}
end
end L2
namespace Att
open PySem PySem.W PySem.Calls PyProof.Rows
theorem nE {P:Params}{h:Heap}:∀(ns:List Int) (vs:List qAf),WellAll P h vs (ns.map WData.int)->qHt vs ns:=by
 intro ns;induction ns with
 | nil =>
  intro vs w;rw[qEl] at w;cases w;exact .nil
 | cons n ns ih =>
  intro vs w;rw[qDf] at w;cases w with
  | cons a b =>
   cases a
   exact .cons _ _ (ih _ b)
theorem Am {l:OpenLaw}{n:Nat} (hn:l.most=some n){P:Params}{h:Heap}{args:List WData}{vals:List qAf}
  (hpre:l.row.toRowW.claim.pre args=true) (hwl:WellAll P h vals args) :
  ∃a vs ns,vals=[Value.ref a]/\args=[WData.list (ns.map WData.int)]/\h.get? a=some { cls:=.type "list",data:=.seq vs.toArray }/\qHt vs ns/\ns.length<=n:=by
 have hsh:WShape.hasAll [] args [.list .int]=true:=(pre_splitW hpre).1;have hc:l.pre.holds [] { args:=args }=true:=(pre_splitW hpre).2;obtain⟨d,r,rfl,h1,h2⟩:=hasAllW_cons hsh;obtain rfl:=hasAllW_nil h2;obtain⟨xs,rfl,h3⟩:=hasW_list h1;obtain⟨ns,rfl⟩:=items_int h3;have hlen:ns.length<=n:=by
  unfold OpenLaw.pre at hc;have h4:(WTm.not (.lt (.lit (.int (n:Int))) (.len (.arg 0)))).holds [] { args:=[.list (ns.map .int)] }=true:=by
   have h4:=(holds_andW hc).1;rw[hn] at h4;exact h4
  have h5:=condW_of h4 (w_not (w_lt w_lit (w_len_list (w_arg rfl))));rw[qAb] at h5;refine Nat.le_of_not_lt fun q=>?_;have q':(n:Int)<((ns.length:Nat):Int):=by omega
  first
   | (rw[decide_eq_true q'] at h5;exact absurd h5 (by decide))
   | (simp at h5;omega)
 cases hwl with
 | cons w1 w2 =>
  cases w2
  cases w1 with
  | list ho hall=>exact⟨_,_,ns,rfl,rfl,ho,nE ns _ hall,hlen⟩
theorem An (l:OpenLaw) (args:List WData):l.row.toRowW.claim.post args (.bool true) args=true :=
 postW_of (r:=l.row.toRowW) (X:=(true == true))
  (show WShape.has [] (.bool true) .bool=true by first | rfl | decide | simp[WShape.has,WShape.arms,WShape.armsAll])
  (show(WTm.eq .res (.lit (.bool true))).value [] { args:=args,res:=some (.bool true),after:=args }=some (.bool (true == true)) from w_eq_bool (w_res rfl) w_lit) rfl
theorem t7 {l:OpenLaw}{n:Nat}{q:qBl}{loose:List Str}{XP:(Str->Option qAf)->Heap->Prop}{YP:qCw->Heap->Prop}{d:DefRec}
  (hn:l.most=some n) (hdf:d.params.defaults=[])
  (call:∀(w:qCw) (s₀ s₁:qAh) (mg mb:Str->Option qAf) (fa:Addr) (o:Obj) (pm cd doc:qAf) (a:Addr) (vs:List qAf) (ns:List Int),
   Ground q loose [] XP w s₀ mg mb s₁.heap->YP w s₁.heap ->
   s₁.heap.get? fa=some o->o.data = .func (docDef d.name d.params d.body d.scope pm cd doc)->s₁.heap.CodeRec cd d.name->mg d.name=some (.ref fa) ->
   s₁.heap.get? a=some { cls:=.type "list",data:=.seq vs.toArray }->qHt vs ns->ns.length<=n->s₁.gens=#[] ->
   qHi (qBz l.prog w) qLp (.call (.ref fa) ⟨[.ref a],[]⟩) (fun r s'=>r = .ok (.ret (.bool true))/\OldK s₁.heap s'.heap/\s'.os=s₁.os/\qIy s'.gens) s₁) :
  WalkO q loose XP YP l.row.toRowW d [] (fun f vs=>PySem.call f vs):=by
 intro w s₀ s₁ mg mb G Y fa o pm cd doc dV kV ho hd hcd hD hmg hg args vals as hpre hlay hrd hwl hlo;obtain rfl:dV = .none:=Dflts.none hD hdf;obtain rfl:kV = .none:=Dflts.noKw hD;obtain⟨a,vs,ns,rfl,rfl,hobj,hints,hlen⟩:=Am hn hpre hwl;refine enter_call (qFz (call w s₀ s₁ mg mb fa o pm cd doc a vs ns G Y ho (fd_plain hd) hcd hmg hobj hints hlen hg) fun r s' hq=>?_);obtain⟨rfl,h2,h3,h4⟩:=hq;exact⟨.inl ⟨.bool true,.bool true,[],rfl,fun _=>rfl,.bool true,An l _,fun _=>⟨List.Pairwise.nil,fun _ hm=>(nomatch hm)⟩⟩,h2,h3,h4⟩
section
variable {prog:qBl}{w:qCw}{A:qCq}{E:qAf->qAh->Prop}{s:qAh}{K:Frag}
end
end Att
namespace L2
open PySem PySem.Spec PyProof.Rows
theorem p6:∀{vs:List qAf}{ns:List Int},qHt vs ns->Vals (ns.map V.int) vs
 | _,_,.nil=>.nil
 | _,_,.cons n t h=>.cons ⟨t,rfl⟩ (p6 h)
def HJ (H:Hp):Prop:=∀b,H b=none\/∃o xs,H b=some (.frz o (.lst xs))
theorem BA {P:qBl}{w:qCw}{K:qAc}{mg mb:Str->Option qAf}{CX:Ak}{k:Nat}{fa a:Addr}{fd:qBk}{x:Str}{sp:Sp}{s₁:qAh}{vs:List qAf}{ns:List Int}
  (KX:K.In s₁.heap) (hns:s₁.heap.Ns qBh mg) (hb:s₁.heap.Ns builtinsNs mb) (hbb:∀x:Str,x≠"__name__"->mb x=qCo x) (hlim:s₁.heap.NoLimit) (hg:s₁.gens=#[])
  (ha:s₁.heap.get? a=some { cls:=.type "list",data:=.seq vs.toArray }) (hi:qHt vs ns) (hl:ns.length<=qAj) (hr:dY k qLp)
  (F:∀base:Heap,K.In base->base.Ns qBh mg->i4 P w K mg base CX k fa fd [x] sp) (hbind:∀(s:qAh) (u:qAf),qNg s fd ⟨[u],[]⟩ [(x,u)])
  (hsp:∀H:Hp,HJ H->aT K H a (ns.map V.int)->sp [.ref a] H (fun v _=>v = .bl true) fun _ _ _=>False)
  (hCX:∀H e s',CX [] H s₁ (fun _ _ _=>False) e s'->False) :
  qHi (qBz P w) qLp (.call (.ref fa) ⟨[.ref a],[]⟩) (fun r s'=>r = .ok (.ret (.bool true))/\OldK s₁.heap s'.heap/\s'.os=s₁.os/\qIy s'.gens) s₁:=by
 have rv:=p6 hi;have lenV:=hi.length;have core:∀H:Hp,HJ H->aT K H a (ns.map V.int)->jV P w H s₁.heap->(∀b,H b≠none->b=a)->(H a≠none->K.lookup a=none) ->
   qHi (qBz P w) qLp (.call (.ref fa) ⟨[.ref a],[]⟩) (fun r s'=>r = .ok (.ret (.bool true))/\OldK s₁.heap s'.heap/\s'.os=s₁.os/\qIy s'.gens) s₁:=by
  intro H hO hS cH hA hK;have base_of:∀{b:Addr}{o:Obj},s₁.heap.get? b=some o->H b=none->(rJ s₁.heap H).get? b=some o:=fun e n=>Bl e n;have noA:∀{b:Addr}{o:Obj}{es:Array DictEntry}{ep:Nat},s₁.heap.get? b=some o->o.data = .dict es ep->H b=none:=fun {b o es ep} e d=>by
   cases q:H b with
   | none=>rfl
   | some u =>
    have e':b=a:=hA b (by rw[q];simp);subst e';rw[ha] at e;cases e;have d':Data.seq vs.toArray _=Data.dict es ep:=d;cases d'
  have nsK:∀{b:Addr}{m:Str->Option qAf},s₁.heap.Ns b m->(rJ s₁.heap H).Ns b m:=fun {b m} ⟨o,es,ep,e,d,r⟩=>⟨o,es,ep,base_of e (noA e d),d,r⟩;have hKb:K.In (rJ s₁.heap H):=fun b o e=>base_of (KX b o e) (by
   cases q:H b with
   | none=>rfl
   | some u =>
    have e':b=a:=hA b (by rw[q];simp);subst e';rw[hK (by rw[q];simp)] at e;cases e)
  have hM:Mod K mg (rJ s₁.heap H):=⟨hKb,nsK hns,⟨mb,nsK hb,hbb⟩,let ⟨mc,h1,h2⟩:=hlim;⟨mc,nsK h1,h2⟩⟩;have e0:wK P w K mg (rJ s₁.heap H) qLp [] s₁ H:=⟨rfl,hM,fun b o e=>Eg e,qIc (Aa _ _),trivial,fun b hb=>absurd (show b∈([]:List Addr) from hb) (by simp),cH,.of_eq hg⟩;refine qFz ((F _ hKb (nsK hns)).run qLp [] s₁ H ⟨[.ref a],[]⟩ [.ref a] [.ref a] _ _ hr e0 (hbind s₁ (.ref a)) (.cons rfl .nil) (hsp H hO hS)) fun r s' h=>?_;cases r with
  | error e=>exact(hCX H e s' h).elim
  | ok fl =>
   cases fl with
   | next=>exact False.elim h
   | brk=>exact False.elim h
   | cont=>exact False.elim h
   | ret u =>
    obtain⟨v,H',os,bare,un,hok',r',q⟩:=h;have q':v = .bl true:=q;subst q';obtain rfl:u=Value.bool true:=r';refine⟨rfl,OldK.of_keep fun b o e=>?_,os,bare⟩;cases q:H b with
    | none=>exact un.keep b o e q (by intro z;exact absurd (show b∈([]:List Addr) from z) (by simp)) (by simp)
    | some u =>
     rcases hO b with z | ⟨ob,xs,z⟩
     ·rw[q] at z;cases z
     ·have z2:=un.kI b ob _ z;obtain⟨e1,_⟩:=cH b _ z;obtain⟨e2,_⟩:=hok' b _ z2;rw[e] at e1;cases e1;exact e2
 cases hk:K.lookup a with
 | some o =>
  have e:=KX a o hk;rw[ha] at e;cases e;refine core (fun _=>none) (fun _=>.inl rfl) (.inr ⟨_,vs.toArray,_,hk,rfl,rfl,rfl,by rw[qAv,lenV];exact hl,by simpa using rv⟩) (fun b u z=>by have z':(none:Option HO)=some u:=z;cases z') (fun b z=>absurd rfl z) fun z=>absurd rfl z
 | none =>
  refine core (fun b=>if b=a then some (.frz { cls:=.type "list",data:=.seq vs.toArray } (.lst (ns.map V.int))) else none) (fun b=>?_) (.inl (.inr ⟨{ cls:=.type "list",data:=.seq vs.toArray },if_pos rfl⟩)) (fun b u z=>?_) (fun b z=>?_) fun _=>hk
  ·by_cases hb:b=a
   ·exact .inr ⟨_,_,if_pos hb⟩
   ·exact .inl (if_neg hb)
  ·by_cases hb:b=a
   ·have z':=(if_pos hb).symm.trans z;cases z';subst hb;exact⟨ha,by rw[qAb];exact hl,vs,_,rv,ha⟩
   ·have z':=(if_neg hb).symm.trans z;cases z'
  ·by_cases hb:b=a
   ·exact hb
   ·exact absurd (if_neg hb) z
theorem Ez {l:qMr}{n k:Nat}{q:qBl}{loose:List Str}{XP:(Str->Option qAf)->Heap->Prop}{YP:qCw->Heap->Prop}{d:DefRec}{K:Params->qAc}{CX:qCw->Ak}{sp:qCw->Sp}{x:Str}
  (hn:l.most=some n) (hn2:n<=qAj) (hdf:d.params.defaults=[]) (hr:dY k qLp)
  (hY:∀(w:qCw) (h:Heap),YP w h->(K w.params).In h)
  (F:∀(w:qCw) (mg:Str->Option qAf) (fa:Addr) (h:Heap),(K w.params).In h->h.Ns qBh mg->mg d.name=some (.ref fa) ->
   ∃fd:qBk,(∀(s:qAh) (u:qAf),qNg s fd ⟨[u],[]⟩ [(x,u)]) /\
    ∀base:Heap,(K w.params).In base->base.Ns qBh mg->i4 l.prog w (K w.params) mg base (CX w) k fa fd [x] (sp w))
  (hsp:∀(w:qCw) (H:Hp) (a:Addr) (ns:List Int),ns.length<=n->HJ H->aT (K w.params) H a (ns.map V.int)->sp w [.ref a] H (fun v _=>v = .bl true) fun _ _ _=>False)
  (hCX:∀(w:qCw) (H:Hp) (s:qAh) (e:qAf) (s':qAh),CX w [] H s (fun _ _ _=>False) e s'->False) :
  qNm q loose XP YP l.row.toRowW d [] (fun f vs=>PySem.call f vs):=by
 refine Att.t7 hn hdf fun w s₀ s₁ mg mb fa o pm cd doc a vs ns G Y ho hd hcd hmg hobj hints hlen hg=>?_;have KX:=hY w _ Y;obtain⟨fd,hb,hF⟩:=F w mg fa _ KX G.T.g hmg;exact BA KX G.T.g G.T.b G.T.builtins G.T.nolimit hg hobj hints (qCx hlen hn2) hr hF hb (fun H hO hS=>hsp w H a ns hlen hO hS) fun H e s'=>hCX w H s₁ e s'
def inClass (s:Stmt) (j:Nat):Stmt:=match s with
 | .ClassDef _ _ _ body _ _ _ _ _ _ _=>body.getD j (.Pass ⟨0,0,0,0⟩)
 | _=>.Pass ⟨0,0,0,0⟩
def dP (s:Stmt):Arguments:=match s with
 | .FunctionDef _ a _ _ _ _ _ _ _ _=>a
 | _=>{ posonlyargs:=[],args:=[],vararg:=none,kwonlyargs:=[],kw_defaults:=[],kwarg:=none,defaults:=[] }
def cO (s:Stmt):List Stmt:=match s with
 | .FunctionDef _ _ b _ _ _ _ _ _ _=>b
 | _=>[]
def aI (s:Stmt):qIj:=match s with
 | .FunctionDef _ _ _ _ _ _ sc _ _ _=>sc
 | _=>{ kind:=.function,names:=[],isGenerator:=false,isCoroutine:=false }
abbrev bY:Ak:=fun _ _ _ _ _ _=>False
abbrev E0:XK:=fun _ _ _=>False
theorem Mb {X:Cx}:Passes bY X E0:=fun _ _ _ _ _ _ _ h=>h.elim
structure HK (K:qAc) (x qual:Str) (st:Stmt) (f:Addr) (fd:qBk):Prop where
 ex:∃(oc:qAf) (od:Option Addr) (kV doc pm:qAf) (an:Option Addr) (cdv ct:qAf) (osl:Array (Option qAf)),
  fd=qDk x qual (dP st) (cO st) (aI st) .none kV doc pm an cdv ct/\K.lookup f=some ⟨oc,od,.func fd,osl⟩/\qDy K cdv qual=true
 kp:qCs K (.ref f)=true
section
variable {P:qBl}{w:qCw}{K:qAc}{mg:Str->Option qAf}{base:Heap}
theorem HK.ok {x qual:Str}{st:Stmt}{f:Addr}{fd:qBk}{N ps:List Str}{k:Nat}{sp:Sp} (F:HK K x qual st f fd) (S:aQ N ps (aI st)) (len:∀vs H Q E,sp vs H Q E->vs.length=ps.length)
  (hbody:∀(cdv:qAf) (A:qCq) (outer:List Env) (s:qAh) (H:Hp) (vs:List V) (Q:VK) (E:XK),dY k (A.deeper (qIx qual (aI st) s.heap.objs.size f cdv))->sp vs H Q E ->
   ∃t,tP (oA bY P w K mg base N qual (aI st) f cdv A outer s H E).Lo (cO st) t/\t { nx:=fun _ H'=>Q .non H',rt:=Q } (start N vs) H):i4 P w K mg base bY (k+1) f fd ps sp:=by
 obtain⟨oc,od,kV,doc,pm,an,cdv,ct,osl,rfl,lk,hcd⟩:=F.ex;refine FT lk hcd S len fun A outer s H vs Q E hr hsp=>?_;obtain⟨t,h,q⟩:=hbody cdv A outer s H vs Q E hr hsp;exact⟨t,h.Lo,q⟩
theorem BB {x qual:Str}{st:Stmt}{f:Addr}{oc:qAf}{od an:Option Addr}{osl:Array (Option qAf)}{kV doc pm cdv ct:qAf} (l:K.lookup f=some ⟨oc,od,.func (qDk x qual (dP st) (cO st) (aI st) .none kV doc pm an cdv ct),osl⟩)
  (c:qDy K cdv qual=true) (k:qCs K (.ref f)=true):HK K x qual st f (qDk x qual (dP st) (cO st) (aI st) .none kV doc pm an cdv ct):=⟨⟨oc,od,kV,doc,pm,an,cdv,ct,osl,rfl,l,c⟩,k⟩
end
theorem BC {A:qCq}{k:Nat} (hr:dY k A):A.units+1<qLq:=qBq (Nat.add_le_add_left (by decide:1<=64) _) hr.units
theorem aK {n:Nat} (h:n<=1000):n<qAj:=qBq h (by decide)
section
variable {X:Cx}
theorem pv (i:Nat){x:Str}{pos:Pos} (hN:X.N[i]?=some x:=by rfl) (hv:Ny X.env.scope x:=by first|exact Or.inl rfl | exact Or.inr bR | exact Or.inr (Or.inr rfl)) (hd:(x == ("__debug__":Str))=false:=by decide)
  (hcd:(x == ("__classdict__":Str))=false:=by decide):PE X (.Name x pos) (LD i):=Hn hN hv hd hcd
end
theorem dJ {A B:Prop} (h:B):if false=true then A else B:=by
 rw[if_neg qAm];exact h
theorem eV {A B:Prop} (h:A):if true=true then A else B:=by
 rw[if_pos rfl];exact h
theorem cP {c A B:Prop} [Decidable c] (h1:c->A) (h2:¬c->B):if c then A else B:=by
 by_cases h:c
 ·rw[if_pos h];exact h1 h
 ·rw[if_neg h];exact h2 h
theorem yK {c A B:Prop} [Decidable c] (hc:c) (h:B):if (!decide c)=true then A else B:=by
 rw[decide_eq_true hc];exact dJ h
def aG (H H':Hp):Prop:=∀b o,H b=some o->H' b=some o
theorem aG.refl (H:Hp):aG H H:=fun _ _ h=>h
theorem aG.trans {H H1 H2:Hp} (a:aG H H1) (b:aG H1 H2):aG H H2:=fun c o h=>b c o (a c o h)
theorem aG.free {H H':Hp} (e:aG H H'){l:Addr} (h:H' l=qOo):H l=qOo:=by
 cases q:H l with
 | none=>rfl
 | some o =>
  rw[e l o q] at h;cases h
theorem aG.seq {K:qAc}{H H':Hp}{a:Addr}{xs:List V} (e:aG H H') (h:aT K H a xs):aT K H' a xs:=by
 rcases h with (h | ⟨o,h⟩) | h
 ·exact .inl (.inl (e _ _ h))
 ·exact .inl (.inr ⟨o,e _ _ h⟩)
 ·exact .inr h
def mV (cells:List (Str×Addr)):List (Str×Addr)->Prop
 | []=>True
 | p::r=>cells.lookup p.1=some p.2/\mV cells r
theorem mV.of {cells:List (Str×Addr)}:∀{cl:List (Str×Addr)},mV cells cl->∀x c,cl.lookup x=some c->cells.lookup x=some c
 | [],_,x,c,h=>by cases h
 | (y,d)::r,hl,x,c,h=>by
  rw[qJo] at h;cases hx:x == y with
  | true =>
   rw[hx] at h;have e:x=y:=by simpa using hx
   subst e;cases h;exact hl.1
  | false =>
   rw[hx] at h;exact mV.of hl.2 x c h
def rQ (X:Cx) (NB:List Str) (sc:qIj) (cl:List (Str×Addr)) (s₃:qAh) (H₃:Hp) (fp:List Addr):Cx :=
 { X with N:=NB,s₀:=s₃,H₀:=H₃,env:=compEnvC sc cl s₃.heap.objs.size X.env,outer:=X.stack,stack:=X.stack,ex:=fp,fn:=fun _=>false,pn:=[],xe:=fun _ _=>False }
structure Lr (X:Cx) (NB:List Str) (pick:List (Option Nat)) (sc:qIj) (cl:List (Str×Addr)):Prop where
 wO:qMq sc X.env=pure cl
 kind:sc.kind = .function
 wQ:∀y∈sc.names,y.2≠.cell
 names:∀y∈sc.names,y.2 = .local->sc.names.lookup y.1=some .local
 sub:mV X.env.cells cl
 has:∀x,((qIu sc X.env).names.lookup x=some .cell\/(qIu sc X.env).names.lookup x=some .free)->∃c,cl.lookup x=some c
 len:pick.length=NB.length
 got:∀(j i:Nat) (x:Str),pick[j]?=some (some i)->NB[j]?=some x->X.N[i]?=some x/\(X.env.kindOf x=some .cell\/X.env.kindOf x=some .free)/\(qIu sc X.env).names.lookup x=some .cell
def hasB (cl:List (Str×Addr)) (L:List (Str×qIk)):Bool:=L.all fun p=>!(p.2 == .cell||p.2 == .free)||(cl.lookup p.1).isSome
theorem yL {cl:List (Str×Addr)}{L:List (Str×qIk)} (h:hasB cl L=true) (x:Str) (hx:L.lookup x=some .cell\/L.lookup x=some .free):∃c,cl.lookup x=some c:=by
 have get:∀k,L.lookup x=some k->(k == NameKind.cell||k == NameKind.free)=true->∃c,cl.lookup x=some c:=fun k hk hb=>by
  have z:=List.all_eq_true.mp h (x,k) (PySem.mem_of_lookup hk);dsimp only at z;rw[hb] at z;exact Option.isSome_iff_exists.mp z
 rcases hx with hx | hx
 ·exact get _ hx rfl
 ·exact get _ hx rfl
def t8 (N:List Str) (k1 k2:List (Str×qIk)):List (Option Nat)->List Str->Bool
 | some i::p,x::r=>decide (N[i]?=some x)&&(decide (k1.lookup x=some .cell)||decide (k1.lookup x=some .free))&&decide (k2.lookup x=some .cell)&&t8 N k1 k2 p r
 | none::p,_::r=>t8 N k1 k2 p r
 | [],[]=>true
 | _,_=>false
theorem kQ {N:List Str}{k1 k2:List (Str×qIk)}:∀{p:List (Option Nat)}{r:List Str},t8 N k1 k2 p r=true->p.length=r.length
 | [],[],_=>rfl
 | [],_::_,h=>by cases h
 | none::_,[],h=>by cases h
 | some _::_,[],h=>by cases h
 | none::p,_::r,h=>congrArg Nat.succ (kQ (p:=p) (r:=r) h)
 | some i::p,x::r,h=>by
  have h':(decide (N[i]?=some x)&&(decide (k1.lookup x=some .cell)||decide (k1.lookup x=some .free))&&decide (k2.lookup x=some .cell)&&t8 N k1 k2 p r)=true:=h
  rw[qCa] at h';exact congrArg Nat.succ (kQ h'.2)
theorem nO {N:List Str}{k1 k2:List (Str×qIk)}:∀{p:List (Option Nat)}{r:List Str},t8 N k1 k2 p r=true->∀(j i:Nat) (x:Str),p[j]?=some (some i)->r[j]?=some x ->
  N[i]?=some x/\(k1.lookup x=some .cell\/k1.lookup x=some .free)/\k2.lookup x=some .cell
 | [],_,_,j,i,x,h1,_=>by simp at h1
 | none::_,[],h,_,_,_,_,_=>by cases h
 | some _::_,[],h,_,_,_,_,_=>by cases h
 | none::p,_::r,h,j,i,x,h1,h2=>by
  cases j with
  | zero=>simp at h1
  | succ j=>exact nO (p:=p) (r:=r) h j i x (by simpa using h1) (by simpa using h2)
 | some i'::p,x'::r,h,j,i,x,h1,h2=>by
  have h':(decide (N[i']?=some x')&&(decide (k1.lookup x'=some .cell)||decide (k1.lookup x'=some .free))&&decide (k2.lookup x'=some .cell)&&t8 N k1 k2 p r)=true:=h
  rw[qCa,qCa,qCa,Bool.or_eq_true] at h';obtain⟨⟨⟨a,b⟩,c⟩,d⟩:=h';cases j with
  | zero =>
   simp at h1 h2;subst h1 h2;exact⟨of_decide_eq_true a,b.elim (fun z=>.inl (of_decide_eq_true z)) fun z=>.inr (of_decide_eq_true z),of_decide_eq_true c⟩
  | succ j=>exact nO d j i x (by simpa using h1) (by simpa using h2)
theorem bJ {X:Cx}{NB:List Str}{pick:List (Option Nat)}{sc:qIj}{cl:List (Str×Addr)} (wO:qMq sc X.env=pure cl) (sub:mV X.env.cells cl) (kind:sc.kind = .function) (wQ:∀y∈sc.names,y.2≠.cell)
  (names:∀y∈sc.names,y.2 = .local->sc.names.lookup y.1=some .local) (has:hasB cl (qIu sc X.env).names=true) (got:t8 X.N X.env.scope.names (qIu sc X.env).names pick NB=true):Lr X NB pick sc cl :=
 ⟨wO,kind,wQ,names,sub,yL has,kQ got,fun j i x h1 h2=>nO got j i x h1 h2⟩
def oE (pick:List (Option Nat)) (σ:St):St:=pick.map fun o=>o.bind fun i=>(σ[i]?).join
section
variable {X:Cx}{NB:List Str}{pick:List (Option Nat)}{sc:qIj}{cl:List (Str×Addr)}{pins:List (Addr×Obj)}{σ:St}{H:Hp}{s:qAh}{fp:List Addr}
theorem HL (I:Inv X pins σ H s) (B:Lr X NB pick sc cl) (hf:∀b∈fp,iX X pins H b) (hex:∀b∈fp,∃o,s.heap.get? b=some o):(rQ X NB sc cl s H fp).Ok:=by
 have nfs:∀b∈fp,b∉nY X.stack:=fun b hb z=>by
  rcases List.mem_cons.mp (I.j7 b z) with e | e
  ·exact(hf b hb).2.1 e
  ·exact(hf b hb).2.2.1 e
 refine⟨I.ok.mod,B.kind,I.ok.glob,I.ok.blt,qAg _,fun x y c h1 h2=>?_,fun x hx=>B.has x hx,fun x c h _=>(qAm h).elim,I.ok.hd,I.ok.frames,.inl rfl,fun b hb=>⟨?_,fun x c h e=>?_⟩,I.bs,qCx I.ok.Ei I.sz,fun b o e hb=>?_,nfs,I.stack,I.nM⟩
 ·exact I.ok.inj x y c (B.sub.of x c h1) (B.sub.of y c h2)
 ·obtain⟨o,ho⟩:=hex b hb;exact qBd (qAr ho)
 ·exact(hf b hb).2.2.2.2.1 x c (B.sub.of x c h) e
 ·rcases(hf b hb).2.2.2.1 with z | z
  ·exact I.ok.Ab b o e z
  ·exact absurd (qAx (qAr (I.ok.bs b o e).1) z) (qDg _)
theorem Ao {h':Heap} (I:Inv X pins σ H s) (B:Lr X NB pick sc cl) (hf:∀b∈fp,iX X pins H b) (hex:∀b∈fp,∃o,s.heap.get? b=some o)
  (hn:h'.Ns s.heap.objs.size (fun _=>none)) (hs:∀b o,s.heap.get? b=some o->h'.get? b=some o) (t:Nat):Inv (rQ X NB sc cl s H fp) [] (oE pick σ) H { s with heap:=h',toks:=t }:=by
 refine⟨HL I B hf hex,rfl,I.bare,Un.kept hs,⟨_,hn,fun j x v h1 h2 h3=>?_⟩,fun x c e=>?_,I.cH.fresh (qAg _),fun x c e=>I.iP x c (B.sub.of x c e),fun p hp=>absurd (show p∈([]:List (Addr×Obj)) from hp) (by simp),I.cH.kept hs,?_⟩
 ·have h2':(pick.map fun o=>o.bind fun i=>(σ[i]?).join)[j]?=some (some v):=h2;rw[qAp] at h2';cases hp:pick[j]? with
  | none=>rw[hp] at h2';cases h2'
  | some o =>
   rw[hp] at h2';cases o with
   | none=>cases h2'
   | some i =>
    have h2'':(σ[i]?).join=some v:=Option.some.inj h2';obtain⟨g1,g2,g3⟩:=B.got j i x hp h1;have hσ:σ[i]?=some (some v):=by
     cases hq:σ[i]? with
     | none=>rw[hq] at h2'';cases h2''
     | some z=>rw[hq] at h2'';have e:z=some v:=h2'';rw[e]
    obtain⟨m,_,hl⟩:=I.loc;obtain⟨u,r,L⟩:=hl i x v g1 hσ (.inr g2);refine⟨u,r,?_⟩;rcases L with ⟨k,_⟩ | ⟨_,c,hc,⟨o,ho,hd⟩⟩
    ·rcases g2 with g2 | g2 <;> rw[k] at g2 <;> cases g2
    ·obtain⟨c',hc'⟩:=B.has x (.inl g3);have e:c'=c:=Option.some.inj ((B.sub.of x c' hc').symm.trans hc);subst e;exact .inr ⟨.inl g3,c',hc',o,hs _ _ ho,hd⟩
 ·obtain⟨v,o,ho,hd⟩:=I.cell x c (B.sub.of x c e);exact⟨v,o,hs _ _ ho,hd⟩
 ·show(oE pick σ).length=NB.length;unfold oE;rw[qAb];exact B.len
theorem EA {σ':St}{H':Hp}{s':qAh} (I:Inv X pins σ H s) (hf:∀b∈fp,iX X pins H b) (J:Inv (rQ X NB sc cl s H fp) [] σ' H' s'):Inv X pins σ H' s':=by
 refine I.call' (ch:=fp) J.os J.base J.cH J.bare fun b hb=>?_;obtain⟨_,f1,_,f3,f4,f5⟩:=hf b hb;exact⟨f3,f1,f4,f5⟩
end
def t9 (wi:TI) (pick:List (Option Nat)) (g:TG) (c:TT) (te:TE):St->Hp->(Addr->Hp->Prop)->Prop:=fun σ H Q =>
 wi σ H fun J H1=>∀D,H1 D=none->∃W:Nat->Nat->St->Hp->Prop,(∃m,W 0 m (oE pick σ) (upd H1 D (.lst [])))/\∀i m σ1 H2,W i m σ1 H2 ->
  (J.stop i H2/\Q D H2)\/(J.go i H2/\∃N:St->Hp->Prop,(∀σ' H',N σ' H'->∃m',m'<m/\W (i+1) m' σ' H') /\
   ∀x H',J.pR i H2 x H'->g x σ1 H' fun σ2 H3=>c σ2 H3 fun b H4=>if b=true then te σ2 H4 fun y H5=>∃xs,H5 D=some (.lst xs)/\xs.length<qAj/\N σ2 (upd H5 D (.lst (xs++[y]))) else N σ2 H4)
section
variable {prog:qBl}{w:qCw}{A:qCq}{R:qOw->qAh->Prop}{s:qAh}
theorem kR {elt target iter:Expr}{ifs:List Expr}{scope:qIj}{pos:Pos}{it acc:qAf}{env:Env} (W:Nat->qAh->Prop)
  (turn:∀n s,W n s->qBg (qBz prog w) A (qIv it) (fun r s₁=>match r with
   | none=>R (.ok .next) s₁
   | some v=>qBg (qBz prog w) A (qIw target it v) (fun _ s₀=>qBg (qBz prog w) A (qKf target env v) (fun _ s₂ =>
     qBg (qBz prog w) A (forIn ifs true fun c r=>if r=true then do let ok <- qPw c env (eval c env);pure (ForInStep.yield ok) else pure (ForInStep.yield r)) (fun ok s₃ =>
      if ok=true then qBg (qBz prog w) A (eval elt env) (fun x s₄ =>
       qBg (qBz prog w) A (call (.builtin "list.append") [acc,x]) (fun _ s₅=>∃m,m<n/\W m s₅) (fun _ _=>False) s₄) (fun _ _=>False) s₃
      else ∃m,m<n/\W m s₃) (fun _ _=>False) s₂) (fun _ _=>False) s₀) (fun _ _=>False) s₁) (fun _ _=>False) s)
  (n:Nat) (h:W n s) :
  qHi (qBz prog w) A (.compLoop (.ListComp elt [⟨target,iter,ifs,0⟩] scope pos) 0 it acc env) R s:=by
 refine codeAny_loop rfl W (fun n s hI=>?_) n h;show qBg _ A ((compTurn (.ListComp elt [⟨target,iter,ifs,0⟩] scope pos) 0 it acc env).onRaise (fun x=>do noteFrame x env;theTreesLotGoes x)) _ _ s;refine wpAny_noted (wpAny_noRaise ?_);rw[compTurn_list];refine qAa (qIg (qAa (cB (turn n s hI) fun r s₁ h₁=>?_)));cases r with
 | none=>exact qAe h₁
 | some v =>
  refine qAa (cB h₁ fun _ s₀ h₀=>qAa (cB h₀ fun _ s₂ h₂=>qAa (cB h₂ fun ok s₃ h₃=>?_)));cases ok with
  | false=>exact qAe ⟨rfl,h₃⟩
  | true=>exact qAa (qAa (cB h₃ fun x s₄ h₄=>qAa (cB h₄ fun _ s₅ h₅=>qAe (qAe ⟨rfl,h₅⟩))))
end
def uA (X:Cx) (ifs:List Expr) (c:TT):Prop :=
 ∀(pins:List (Addr×Obj)) (s:qAh) (σ:St) (H:Hp) (Q:Bool->Hp->Prop),Inv X pins σ H s->c σ H Q ->
  qBg (qBz X.prog X.w) X.A (forIn ifs true fun c r=>if r=true then do let ok <- qPw c X.env (eval c X.env);pure (ForInStep.yield ok) else pure (ForInStep.yield r)) (TP X pins σ Q) X.xe s
def Oh:TT:=fun _ H Q=>Q true H
theorem bK {X:Cx}:uA X [] Oh:=fun pins s σ H Q I h=>qAe ⟨H,I,h⟩
theorem eW {X:Cx}{e:Expr}{c:TT} (hc:PT X e c):uA X [e] c:=fun pins s σ H Q I h=>wpAny_tests_one (hc pins s σ H Q I h)
section
variable {X:Cx}{NB:List Str}{pick:List (Option Nat)}{sc:qIj}{cl:List (Str×Addr)}{elt target iter:Expr}{ifs:List Expr}{pos:Pos}{wi:TI}{g:TG}{c:TT}{te:TE}
theorem uB {pins:List (Addr×Obj)}{s:qAh}{σ:St}{H:Hp}{use:Option (qAf->Sem Unit)}{Q:Addr->Hp->Prop}{QV:qAf->qAh->Prop} (B:Lr X NB pick sc cl) (hc:X.calm=true) (hi:PI X target iter wi)
  (hg:∀s₃ H₃ fp,PG (rQ X NB sc cl s₃ H₃ fp) target g) (ht:∀s₃ H₃ fp,uA (rQ X NB sc cl s₃ H₃ fp) ifs c) (he:∀s₃ H₃ fp,PE (rQ X NB sc cl s₃ H₃ fp) elt te)
  (hs:∀x,qFl iter X.env x=pure x) (I:Inv X pins σ H s) (h:t9 wi pick g c te σ H Q)
  (fin:∀(D C:Addr) (s':qAh) (H':Hp),Inv X pins σ H' s'->Q D H'->H' C=none->C≠X.env.locals->X.s₀.heap.objs.size<=C->(∀x a,X.env.cells.lookup x=some a->a≠C)->(∀p∈X.pn++pins,p.1≠C)->(∃m,s'.heap.Ns C m) ->
   qOu (qBz X.prog X.w) X.A X.xe use QV (.ref D) C (.ok .next) s') :
  qBg (qBz X.prog X.w) X.A (qKc (.ListComp elt [⟨target,iter,ifs,0⟩] sc pos) sc X.env (firstIterPos [⟨target,iter,ifs,0⟩] pos) (qOl []) false (eval iter X.env) use) QV X.xe s:=by
 refine wpAny_comprehension_free rfl hs B.wO B.kind B.names (cB (hi pins s σ H _ I h) fun v s1 h1=>cB h1 fun itv s2 h2=>?_);obtain⟨it,fp,tn,J,H2,e,I2,T,st2,f2,h2⟩:=h2;subst e;refine qCh ?_;have I3:Inv X pins σ (upd H2 s2.heap.objs.size (.lst [])) { s2 with heap:=s2.heap.push { cls:=.type "list",dict:=none,data:=.seq ([]:List qAf).toArray } } :=
  I2.laid (t':=s2.toks) (fun b u e=>qAi _ e) (qAg _) ⟨qBr _,[],0,.nil,qAs _ rfl⟩
 have hf:H2 s2.heap.objs.size=none:=I2.cH.fresh (qAg _);have lt:∀b∈fp,b≠s2.heap.objs.size:=fun b hb=>by
  obtain⟨o,ho,_⟩:=T.obj _ _ st2 b hb;exact qBd (qAr ho)
 have f3:∀b∈fp,iX X pins (upd H2 s2.heap.objs.size (.lst [])) b:=fun b hb=>⟨by rw[aM (lt b hb)];exact(f2 b hb).1,(f2 b hb).2⟩;generalize hs3:({ s2 with heap:=s2.heap.push { cls:=.type "list",dict:=none,data:=.seq ([]:List qAf).toArray } }:qAh)=s3 at I3|-;have kp3:∀b o,s2.heap.get? b=some o->s3.heap.get? b=some o:=fun b o e=>by
  rw[<- hs3];exact qAi _ e
 have hex:∀b∈fp,∃o,s3.heap.get? b=some o:=fun b hb=>by
  obtain⟨o,ho,_⟩:=T.obj _ _ st2 b hb;exact⟨o,kp3 b o ho⟩
 have st3:tn 0 s3.heap:=T.keep _ _ _ st2 fun b _ o e=>kp3 b o e;obtain⟨W,⟨m0,w0⟩,turn⟩:=h2 _ hf;refine wpAny_newFunctionEnv B.wQ (by intro y hy;simp at hy) (fun h₁ hns₁ hsb₁=>?_) B.kind;have kp4:∀b o,s3.heap.get? b=some o->h₁.get? b=some o:=fun b o e=>(hsb₁.2 b (qBd (qAr e))).trans (qAi _ e);have J4:=Ao I3 B f3 hex hns₁ kp4 (s3.toks+([]:List (Str×qAf)).length);have st4:tn 0 h₁:=T.keep _ _ _ st3 fun b _ o e=>kp4 b o e;have stat:∀{H':Hp},(∀b∈fp,H' b=none)->∀b∈fp,iX (rQ X NB sc cl s3 (upd H2 s2.heap.objs.size (.lst [])) fp) [] H' b:=fun {H'} hn b hb=>by
  obtain⟨o,ho⟩:=hex b hb;refine⟨hn b hb,qBd (qAr ho),fun z=>?_,.inl hb,fun x a e=>(f2 b hb).2.2.2.2.1 x a (B.sub.of x a e),fun p hp=>absurd (show p∈([]:List (Addr×Obj)) from hp) (by simp)⟩;rcases List.mem_cons.mp (I2.j7 b z) with e | e
  ·exact(f2 b hb).2.1 e
  ·exact(f2 b hb).2.2.1 e
 have loop:qHi (qBz X.prog X.w) X.A (.compLoop (.ListComp elt [⟨target,iter,ifs,0⟩] sc pos) 0 (.ref it) (.ref s2.heap.objs.size) (rQ X NB sc cl s3 (upd H2 s2.heap.objs.size (.lst [])) fp).env)
   (qOu (qBz X.prog X.w) X.A X.xe use QV (.ref s2.heap.objs.size) s3.heap.objs.size) { s3 with heap:=h₁,toks:=s3.toks+([]:List (Str×qAf)).length }:=by
  refine kR (fun n s'=>∃i σ' H',Inv (rQ X NB sc cl s3 (upd H2 s2.heap.objs.size (.lst [])) fp) [] σ' H' s'/\tn i s'.heap/\(∀b∈fp,H' b=none)/\W i n σ' H') ?_ m0 ⟨0,_,_,J4,st4,fun b hb=>(f3 b hb).1,w0⟩;rintro n s5 ⟨i,σ5,H5,I5,st5,fr5,w5⟩;rcases turn i n σ5 H5 w5 with ⟨stop,qn⟩ | ⟨go,N,hN,step⟩
  ·refine cB (T.done (rQ X NB sc cl s3 (upd H2 s2.heap.objs.size (.lst [])) fp) rfl rfl rfl hc i [] s5 σ5 H5 _ I5 (stat fr5) st5 stop) fun r s6 ⟨hr,I6⟩=>?_;subst hr;refine fin s2.heap.objs.size s3.heap.objs.size s6 H5 (EA I3 f3 I6) qn I6.free (qBd I3.lt).symm I3.sz (fun x a e=>?_) (fun p hp=>?_) ?_
   ·obtain⟨v,o,ho,_⟩:=I3.cell x a e;exact qBd (qAr ho)
   ·exact qBd (qAr (I3.pin p hp).1)
   ·obtain⟨m,hn,_⟩:=I6.loc;exact⟨m,hn⟩
  ·refine cB (T.item (rQ X NB sc cl s3 (upd H2 s2.heap.objs.size (.lst [])) fp) rfl rfl rfl hc i [] s5 σ5 H5 _ I5 (stat fr5) st5 go) fun r s6 ⟨u,hr,h6⟩=>?_;subst hr;refine cB h6 fun _ s7 ⟨x,H7,I7,r7,y7,st7,fr7⟩=>?_;have I7':=I7.pinned (stat fr7) (T.obj _ _ st7);have qNe:∀{s9:qAh}{σ9:St}{H9:Hp},Inv (rQ X NB sc cl s3 (upd H2 s2.heap.objs.size (.lst [])) fp) ([]++lW fp s7.heap) σ9 H9 s9->N σ9 H9 ->
     ∃m,m<n/\∃i σ' H',Inv (rQ X NB sc cl s3 (upd H2 s2.heap.objs.size (.lst [])) fp) [] σ' H' s9/\tn i s9.heap/\(∀b∈fp,H' b=none)/\W i m σ' H':=fun {s9 σ9 H9} I9 n9=>by
    obtain⟨m',hm,w9⟩:=hN σ9 H9 n9;refine⟨m',hm,i+1,σ9,H9,I9.iY,T.keep _ _ _ st7 fun b hb o e=>(I9.pin (b,o) (qAu _ (qAu _ (fF hb e)))).1,fun b hb=>?_,w9⟩;obtain⟨o,e,d⟩:=T.obj _ _ st7 b hb;exact(I9.pin (b,o) (qAu _ (qAu _ (fF hb e)))).2.1
   refine cB (hg _ _ _ _ s7 σ5 H7 x u _ I7' r7 (step x H7 y7)) fun _ s8 ⟨σ8,H8,I8,q8⟩=>?_;refine cB (ht _ _ _ _ s8 σ8 H8 _ I8 q8) fun b s9 ⟨H9,I9,q9⟩=>?_;cases b with
   | false =>
    rw[if_neg qAm];exact qNe I9 (by rw[if_neg qAm] at q9;exact q9)
   | true =>
    rw[if_pos rfl] at q9|-;refine cB (he _ _ _ _ s9 σ8 H9 _ I9 q9) fun y s10 ⟨vy,H10,I10,r10,xs,hD,hl,q10⟩=>?_;refine cB (mB _ s10 σ8 H10 (.ref s2.heap.objs.size) [vy] (.ref s2.heap.objs.size) [y] (fun _ H'=>N σ8 H') I10 rfl (.cons r10 .nil) ⟨_,xs,vy,rfl,rfl,hD,hl,q10⟩) fun _ s11 ⟨_,H11,I11,_,q11⟩=>?_;exact qNe I11 q11
 refine codeAny_compStart_list loop (T.self _ 0 _ _ _ st4 loop)
theorem bP (B:Lr X NB pick sc cl) (hc:X.calm=true) (hi:PI X target iter wi)
  (hg:∀s₃ H₃ fp,PG (rQ X NB sc cl s₃ H₃ fp) target g) (ht:∀s₃ H₃ fp,uA (rQ X NB sc cl s₃ H₃ fp) ifs c) (he:∀s₃ H₃ fp,PE (rQ X NB sc cl s₃ H₃ fp) elt te)
  (hs:∀x,qFl iter X.env x=pure x:=by intro _;rfl):PE X (.ListComp elt [⟨target,iter,ifs,0⟩] sc pos) (fun σ H Q=>t9 wi pick g c te σ H fun D H'=>Q (.ref D) H'):=by
 intro pins s σ H Q I h;rw[eval_ListComp];refine uB (use:=none) (QV:=EP X pins σ Q) B hc hi hg ht he hs I h fun D C s' H' I' q c0 c1 c2 c3 c4 hn=>?_;obtain⟨m,hm⟩:=hn;exact⟨m,hm,fun hh hsb=>⟨.ref D,H',I'.turned (t':=s'.toks) (fun b o hb e=>(hsb.2 b hb).trans e) c0 c1 (.inr c2) c3 c4,rfl,q⟩⟩
theorem eB {i:Nat}{x:Str}{pos' spos:Pos} (hN:X.N.Nodup) (hx1:X.N[i]?=some x) (hx2:Loc X.env.scope x)
  (hsw:qJz (.ListComp elt [⟨target,iter,ifs,0⟩] sc pos) (some (.Name x pos')) spos.line X.env=pure true) (B:Lr X NB pick sc cl) (hc:X.calm=true) (hi:PI X target iter wi)
  (hg:∀s₃ H₃ fp,PG (rQ X NB sc cl s₃ H₃ fp) target g) (ht:∀s₃ H₃ fp,uA (rQ X NB sc cl s₃ H₃ fp) ifs c) (he:∀s₃ H₃ fp,PE (rQ X NB sc cl s₃ H₃ fp) elt te)
  (hs:∀x,qFl iter X.env x=pure x:=by intro _;rfl) (hfn:X.fn x=true\/X.env.scope.names.lookup x=some .local:=by first|exact .inl rfl | exact .inr rfl | assumption) :
  PS X (.Assign [.Name x pos'] (.ListComp elt [⟨target,iter,ifs,0⟩] sc pos) spos) (fun D σ H=>t9 wi pick g c te σ H fun l H'=>D.nx (σ.set i (some (.ref l))) H'):=by
 intro pins s σ H D I h;rw[exec_Assign_Name_used _ _ _ _ hsw];refine qAa (qIg (qAa ?_));show qBg _ _ (do let _ <- qKc (.ListComp elt [⟨target,iter,ifs,0⟩] sc pos) sc X.env _ (qOl []) false (eval iter X.env) (some (qKf (.Name x pos') X.env))) _ _ s;refine qAa (cB (uB (use:=some (qKf (.Name x pos') X.env)) (QV:=fun _ s'=>SP X pins D .next s') B hc hi hg ht he hs I h fun l C s' H' I' q c0 c1 c2 c3 c4 hn=>?_) fun _ s' hq=>qAe (qAe hq));obtain⟨m,hm⟩:=hn;show qBg _ _ (qKf (.Name x pos') X.env (.ref l)) _ _ _;refine wpAny_assign_Name (lV (v:=.ref l) I' hN hx1 hx2 rfl (fun s'' I'' ⟨a,hsb,ha⟩=>?_) hfn);have ne:C≠a:=by
  rcases ha with e | e
  ·rw[e];exact c1
  ·exact(c3 x a e).symm
 refine⟨m,hm.sameBut hsb ne,fun hh hsb2=>?_⟩;exact⟨_,H',I''.turned (t':=s''.toks) (fun b o hb e=>(hsb2.2 b hb).trans e) c0 c1 (.inr c2) c3 c4,q⟩
end
structure Mc (P:qBl) (w:qCw) (outer:List Env) (H:Hp) (s:qAh) (e C:Addr) (H':Hp) (s':qAh):Prop where
 os:s'.os=s.os
 bare:qIy s'.gens
 ex:∃(a0:qAf) (B:Heap),Heap.FlyingW B outer e (.ref C) a0 s'.heap/\jV P w H' B/\(∀b o,s.heap.get? b=some o->b∉nY outer->∃o',B.get? b=some o') /\
  ∀b o,s.heap.get? b=some o->H b=none->b∉nY outer->B.get? b=some o
 slot:∀b o,s.heap.get? b=some o->H b=none->b∈nY outer->∃sl,s'.heap.get? b=some { o with slots:=sl }
 free:∀b o,s.heap.get? b=some o->H b=none->H' b=none
 lT:∀b xs,H b=some (.tup xs)->H' b=some (.tup xs)
 kI:∀b o u,H b=some (.frz o u)->H' b=some (.frz o u)
 lU:∀b ps,H b=some (.tbl ps)->∃more,H' b=some (.tbl (ps++more))
def g6 (P:qBl) (w:qCw):Ak:=fun outer H s E ev s'=>∃(e C:Addr) (H':Hp),ev = .ref e/\Mc P w outer H s e C H' s'/\E (.ref C) none H'
section
variable {X:Cx}{pins:List (Addr×Obj)}{σ:St}{H H':Hp}{s s':qAh}{e C:Addr}
end
structure Own (X:Cx):Prop where
 st:X.stack=X.env::X.outer
 fr:X.env.frame=some X.env.locals
 ex:X.ex=[]
section
variable {X:Cx}{pins:List (Addr×Obj)}{σ:St}{H H':Hp}{s s':qAh}{e C:Addr}{Q:Unit->qAh->Prop}{E:qAf->qAh->Prop}{M:qNx}
theorem Own.sub (O:Own X){b:Addr} (h:b∈X.fs):b∈nY X.stack:=by
 rw[O.st];unfold nY;rw[qCg,O.fr];exact qCi _ h
theorem Own.not (O:Own X) (I:Inv X pins σ H s){b:Addr}{o:Obj} (q:X.s₀.heap.get? b=some o) (h:b∉X.fs):b∉nY X.stack:=fun z=>by
 rcases List.mem_cons.mp (I.j7 b z) with r | r
 ·exact absurd (qAx (qAr q) I.ok.above) (by rw[r];exact qDg _)
 ·exact h r
theorem Own.BD (O:Own X) (b:Addr):b∉X.ex:=by
 rw[O.ex];simp
theorem uC {vs:List qAf}{h':Heap} (O:Own X) (I:Inv X pins σ H s) (hx:qOj s.heap h' e (.ref C) vs)
  (k:∀h'',Mc X.prog X.w X.outer X.H₀ X.s₀ e C H { s with heap:=h'' }->Q () { s with heap:=h'' }):qBg M X.A (leaving X.env (.ref e)) Q E { s with heap:=h' }:=by
 have hst:=I.stack;have hfr:=I.ok.frames;rw[O.st] at hst hfr;have hin:∀env∈(X.env::X.outer),∀b,env.frame=some b->b∈nY X.stack:=fun env he b hb=>by
  rw[O.st];exact List.mem_filterMap.mpr ⟨env,he,hb⟩
 have get:∀{b:Addr}{o:Obj},s.heap.get? b=some o->b∉nY X.stack->(qJk s.heap (nY X.stack)).get? b=some o:=fun q hb=>qLi _ q hb;refine wpAny_leaves_madeW (base:=qJk s.heap (nY X.stack)) (h:=s.heap) (s:={ s with heap:=h' }) hfr O.fr (fun b o q=>qLr _ q) (PySem.W.funFrames_hide hst hin) hx fun h'' t x1 _ _ x4=>k h'' ⟨I.os,I.bare,⟨_,_,x1,fun a o q=>?_,fun b o q hb=>?_,fun b o q n hb=>?_⟩,fun b o q n hb=>?_,fun b o q n=>I.base.free b o q n (O.BD b),I.base.lT,I.base.kI,I.base.lU⟩
 ·refine(I.cH a o q).tV (fun b u hb z=>get z fun hm=>?_) (fun _ z=>z) fun _ _ z=>z;have hn:=I.nM b hm;rcases hb with rfl | hb
  ·rw[hn] at q;cases q
  ·rw[hn] at hb;cases hb
 ·obtain⟨o',z⟩:=I.base.there b o q (O.BD b);exact⟨o',get z (O.not I q hb)⟩
 ·exact get (I.base.keep b o q n hb (O.BD b)) (O.not I q hb)
 ·obtain⟨sl,z⟩:=I.base.slot b o q n hb (O.BD b);obtain⟨_,o',ho',hnf⟩:=I.ok.kJ.mem hb;rw[q] at ho';cases ho';obtain⟨sl',z'⟩:=x4 b _ (hx.keeps b _ z) hnf;exact⟨sl',z'⟩
theorem Ap (O:Own X) (I:Inv X pins σ H s) (F:Mc X.prog X.w X.stack H s e C H' s')
  (k:∀h'',Mc X.prog X.w X.outer X.H₀ X.s₀ e C H' { s' with heap:=h'' }->Q () { s' with heap:=h'' }):qBg M X.A (leaving X.env (.ref e)) Q E s':=by
 obtain⟨a0,B,fl,cH,th,kp⟩:=F.ex;have hfr:=I.ok.frames;rw[O.st] at fl hfr;refine wpAny_leaves_onW hfr O.fr fl fun h'' x1 x2=>k h'' ⟨F.os.trans I.os,F.bare,⟨a0,B,x1,cH,fun b o q hb=>?_,fun b o q n hb=>?_⟩,fun b o q n hb=>?_,fun b o q n=>?_,fun b xs q=>F.lT b xs (I.base.lT b xs q),fun b o u q=>F.kI b o u (I.base.kI b o u q),fun b ps q=>?_⟩
 ·obtain⟨o',z⟩:=I.base.there b o q (O.BD b);exact th b o' z (O.not I q hb)
 ·exact kp b o (I.base.keep b o q n hb (O.BD b)) (I.base.free b o q n (O.BD b)) (O.not I q hb)
 ·obtain⟨sl,z⟩:=I.base.slot b o q n hb (O.BD b);obtain⟨sl',z'⟩:=F.slot b _ z (I.base.free b o q n (O.BD b)) (O.sub hb);obtain⟨_,o',ho',hnf⟩:=I.ok.kJ.mem hb;rw[q] at ho';cases ho';obtain⟨sl2,z2⟩:=x2 b _ z' hnf;exact⟨sl2,z2⟩
 ·obtain⟨o',z⟩:=I.base.there b o q (O.BD b);exact F.free b o' z (I.base.free b o q n (O.BD b))
 ·obtain⟨m1,e1⟩:=I.base.lU b ps q;obtain⟨m2,e2⟩:=F.lU b _ e1;exact⟨m1++m2,by rw[e2,qMm]⟩
end
abbrev XS:=qAf->St->Hp->Prop
structure Pass (X:Cx) (Ex:XS):Prop where
 on:∀(pins:List (Addr×Obj)) (σ:St) (H:Hp) (s:qAh) (e C:Addr) (H':Hp) (s':qAh),Inv X pins σ H s->Mc X.prog X.w X.stack H s e C H' s'->Ex (.ref C) σ H'->X.xe (.ref e) s'
structure Me (X:Cx) (Ex:XS):Prop extends Pass X Ex where
 nw:∀(pins:List (Addr×Obj)) (σ:St) (H:Hp) (s:qAh) (e C:Addr) (h':Heap) (vs:List qAf),Inv X pins σ H s->qOj s.heap h' e (.ref C) vs->Ex (.ref C) σ H->X.xe (.ref e) { s with heap:=h' }
 own:PassesOwn (qBz X.prog X.w) X.A X.env X.xe
theorem cG {P:qBl}{w:qCw}{K:qAc}{mg:Str->Option qAf}{base:Heap}{N:List Str}{qual:Str}{scope:qIj}{f:Addr}{cd:qAf}{A:qCq}{outer:List Env}{s:qAh}{H:Hp}{E:XK} :
  Me (oA (g6 P w) P w K mg base N qual scope f cd A outer s H E) (fun c _ H'=>E c none H') where
 on:=fun pins σ H1 s1 e C H' s' I F q=>Ap ⟨rfl,rfl,rfl⟩ I F fun h'' F'=>⟨e,C,H',rfl,F',q⟩
 nw:=fun pins σ H1 s1 e C h' vs I hx q=>uC ⟨rfl,rfl,rfl⟩ I hx fun h'' F'=>⟨e,C,H1,rfl,F',q⟩
 own:=PassesOwn.leaving
section
variable {P:qBl}{w:qCw}{K:qAc}{mg:Str->Option qAf}{base:Heap}
theorem HK.Ls {x qual:Str}{st:Stmt}{f:Addr}{fd:qBk}{N ps:List Str}{k:Nat}{sp:Sp} (F:HK K x qual st f fd) (S:aQ N ps (aI st)) (len:∀vs H Q E,sp vs H Q E->vs.length=ps.length)
  (hbody:∀(cdv:qAf) (A:qCq) (outer:List Env) (s:qAh) (H:Hp) (vs:List V) (Q:VK) (E:XK),dY k (A.deeper (qIx qual (aI st) s.heap.objs.size f cdv))->sp vs H Q E ->
   ∃t,tP (oA (g6 P w) P w K mg base N qual (aI st) f cdv A outer s H E) (cO st) t/\t { nx:=fun _ H'=>Q .non H',rt:=Q } (start N vs) H):i4 P w K mg base (g6 P w) (k+1) f fd ps sp:=by
 obtain⟨oc,od,kV,doc,pm,an,cdv,ct,osl,rfl,lk,hcd⟩:=F.ex;exact FT lk hcd S len fun A outer s H vs Q E hr hsp=>hbody cdv A outer s H vs Q E hr hsp
end
def BE (sp:Sp) (dvs:List V) (Ex:XS) (t:TA):TE:=fun σ H Q=>t σ H fun vs H1=>sp (vs++dvs) H1 Q fun c _ H'=>Ex c σ H'
section
variable {X:Cx}{Ex:XS}{k:Nat}{f C:Addr}{fd:qBk}{ps:List Str}{sp:Sp}{dvs:List V}{ds:List qAf}{x m:Str}{p pos apos:Pos}{e o:Expr}{es:List Expr}{ta:TE}{t:TA}
theorem yM {pins:List (Addr×Obj)}{σ:St}{H:Hp}{s:qAh}{Q:VK}{us:List qAf}{vs:List V} (R:Pass X Ex) (F:i4 X.prog X.w X.K X.mg X.base (g6 X.prog X.w) k f fd ps sp) (hr:dY k X.A) (hb:Binds X.K fd ps ds) (hd:Vals dvs ds)
  (I:Inv X pins σ H s) (r:Vals vs us) (h:sp (vs++dvs) H Q fun c _ H'=>Ex c σ H'):qBg (qBz X.prog X.w) X.A (call (.ref f) us) (EP X pins σ Q) X.xe s:=by
 have r2:Vals (vs++dvs) (us++ds):=r.append hd;have hl:(us++ds).length=ps.length:=by rw[<- r2.length];exact F.len _ _ _ _ h
 refine qJb (qFz (F.run X.A X.stack s H ⟨us,[]⟩ (us++ds) (vs++dvs) Q _ hr I.HB (hb s us I.vX hl) r2 h) fun r s' hq=>?_);cases r with
 | error ev =>
  obtain⟨e,C,H',rfl,Fl,q⟩:=hq;exact R.on pins σ H s e C H' s' I Fl q
 | ok fl =>
  cases fl with
  | ret u=>exact I.after hq
  | next=>exact False.elim hq
  | brk=>exact False.elim hq
  | cont=>exact False.elim hq
theorem BF (R:Pass X Ex) (F:i4 X.prog X.w X.K X.mg X.base (g6 X.prog X.w) k f fd ps sp) (hr:dY k X.A) (hg:Gl X x) (hm:X.mg x=some (.ref f)) (hk:qCs X.K (.ref f)=true) (hb:Binds X.K fd ps ds) (hd:Vals dvs ds)
  (ha:PA X (e::es) t) (hdb:(x == ("__debug__":Str))=false:=by decide) (he:qBt (e::es) X.env=(false,eval e X.env)::qBt es X.env:=by rfl) (hpl:(qGu pos (qBt es X.env)).any (·.1)=false:=by rfl) :
  PE X (.Call (.Name x p) (e::es) [] pos) (BE sp dvs Ex t):=by
 intro pins s σ H Q I h;refine qGc (kK I hg hm ?_ hdb);refine qGm (h₀:=X.base) I.ok.mod.Hj hk (cB (ha pos pins s σ H _ I h) fun us s1 ⟨vs,H1,I1,r,q⟩=>⟨I1.vX,?_⟩) he hpl;exact yM R F hr hb hd I1 r q
end
abbrev BG:List qAf:=[.type "ValueError",.type "Exception",.type "BaseException",.type "object"]
structure oF (K:qAc) (C:Addr):Prop where
 cls:(qKo K C).isSome=true
 ty:qHw K (.ref C)=some (.type "type")
 ga:qBa K (.ref C) "__getattribute__"=some (some (.builtin "BaseException.__getattribute__"))
 gx:qBa K (.ref C) "__getattr__"=some none
 ca:qBa K (.ref C) "__class__"=some (some (.builtin "object.__class__"))
 cg:qEv K (.builtin "object.__class__") "__get__"=some (some (.builtin "getset_descriptor.__get__"))
 ct:qFn K (.builtin "object.__class__")=some true
 mo:qDw K C (.type "object")=some true
 mb:qDw K C (.type "BaseException")=some true
theorem EB {K:qAc}{h:Heap}{C:Addr}{bmB:List qAf}{newId:String} (X:K.In h) (q:qDn K C bmB newId=true) :
  ∃bm N nm q bs hdct sn sub ab col dd k0 k1 k2 k3 k5 mN,h.get? C=some (excClassObj nm q C N bs bm hdct sn sub ab col dd k0 k1 k2 k3 k5 newId)/\h.Ns N mN/\mN "__init__"=none/\OwnTail h bmB bm:=by
 unfold qDn at q;split at q
 ·rename_i dd cd sl ho;split at q
  ·rename_i C' bm k0 k1 k2 k3 n k5 hm hs;rw[qCa,qCa,qCa,qCa,qCa] at q;obtain⟨⟨⟨⟨⟨q1,q2⟩,q3⟩,ht⟩,cH⟩,hni⟩:=q;obtain rfl:=beq_iff_eq.mp q1;obtain rfl:=beq_iff_eq.mp q2;have hdel:cd.hasDel=false:=by
    cases z:cd.hasDel with
    | false=>rfl
    | true=>rw[z] at q3;cases q3
   have hni':=beq_iff_eq.mp hni;obtain⟨nm,bs,mro,ns,qn,hd,sn,sub,ab,col,del⟩:=cd;dsimp only at hm hdel cH hni';subst hm hdel;obtain⟨l⟩:=sl;dsimp only at hs;subst hs;exact⟨bm,ns,nm,qn,bs,hd,sn,sub,ab,col,dd,k0,k1,k2,k3,k5,_,X _ _ ho,.of_isNs (PySem.W.isNs_of_in X cH),PySem.W.nsMap_none_of_in X cH hni',PySem.W.tail_of_in X ht⟩
  ·cases q
 ·cases q
def HM (C:Addr) (Ex:XS) (t:TA):TS:=fun _ σ H=>t σ H fun vs H1=>vs.length<=qAj/\Ex (.ref C) σ H1
section
variable {X:Cx}{Ex:XS}{x:Str}{C:Addr}{e₀:Expr}{rest:List Expr}{np cpos pos:Pos}{t:TA}
theorem eX (R:Me X Ex) (hc:X.calm=true) (hg:Gl X x) (hm:X.mg x=some (.ref C)) (q:qDn X.K C BG "ValueError.__new__"=true) (ha:PA X (e₀::rest) t)
  (he:qBt (e₀::rest) X.env=(false,eval e₀ X.env)::qBt rest X.env:=by rfl) (hplain:(qGu cpos (qBt rest X.env)).any (·.1)=false:=by rfl) (hd:(x == ("__debug__":Str))=false:=by decide) :
  PS X (.Raise (some (.Call (.Name x np) (e₀::rest) [] cpos)) none pos) (HM C Ex t):=by
 intro pins s σ H D I h;obtain⟨tl,N,nm,qn,bs,hdct,sn,sub,ab,col,dd,k0,k1,k2,k3,k5,mN,hC,hN,hni,T⟩:=EB I.mod.Hj q;have FB:=PySem.F.excBase_ValueError;refine wpAny_Raise_call_subT (C:=C) (nm:=nm) (q:=qn) (N:=N) (bs:=bs) (bm:=tl) (hdct:=hdct) (sn:=sn) (sub:=sub) (ab:=ab) (col:=col) (dd:=dd) (k0:=k0) (k1:=k1) (k2:=k2) (k3:=k3) (k5:=k5)
  FB (mN:=mN) (T.hasType FB.hasBase) (I.ok.hd hc) (by rw[he];show(false||(qGu cpos (qBt rest X.env)).any (·.1))=false;rw[hplain];rfl) hni (kK I hg hm ⟨rfl,?_⟩ hd)
 have hs:=ha cpos pins s σ H _ I h;rw[he] at hs|-;refine qLv (cB hs fun us s2 ⟨vs,H2,I2,r,z,q2⟩=>?_);have kb:∀b o,X.base.get? b=some o->s2.heap.get? b=some o:=I2.bk;exact⟨rfl,by show us.length<=qAj;rw[<- r.length];exact z,kb _ _ hC,hN.keeps kb,T.keeps kb,fun h' e hx=>R.nw pins σ H2 s2 e C h' us I2 hx q2⟩
end
def Oi (e C:Addr):HO:=.ext fun h=>∃oe,h.get? e=some oe/\oe.cls = .ref C
section
variable {X:Cx}{pins:List (Addr×Obj)}{σ:St}{H H':Hp}{s s':qAh}{e C:Addr}
theorem Inv.FU {o:HO} (I:Inv X pins σ H s) (hn:H e=none) (h0:X.s₀.heap.get? e=none) (hL:e≠X.env.locals) (hc:∀x c,X.env.cells.lookup x=some c->c≠e) (hp:∀p∈X.pn++pins,p.1≠e) (hfs:e∉X.fs)
  (new:cS X.prog X.w (upd H e o) s.heap e o):Inv X pins σ (upd H e o) s:=by
 have ne:∀b u,H b=some u->b≠e:=fun b u q=>a9 q hn;refine⟨I.ok,I.os,I.bare,⟨I.base.keep,I.base.slot,fun b ob q n hx=>?_,I.base.there,fun b xs q=>?_,fun b ob u q=>?_,fun b ps q=>?_⟩,I.loc,I.cell,?_,fun x c q=>?_,fun p q=>?_,fun b u q=>?_,I.len⟩
 ·rw[aM (fun z=>by rw[z,h0] at q;cases q)];exact I.base.free b ob q n hx
 ·have z:=I.base.lT b xs q;rw[aM (ne _ _ z)];exact z
 ·have z:=I.base.kI b ob u q;rw[aM (ne _ _ z)];exact z
 ·obtain⟨m,z⟩:=I.base.lU b ps q;exact⟨m,by rw[aM (ne _ _ z)];exact z⟩
 ·rw[aM hL.symm];exact I.free
 ·rw[aM (hc x c q)];exact I.iP x c q
 ·obtain⟨z1,z2,z3⟩:=I.pin p q;exact⟨z1,by rw[aM (hp p q)];exact z2,z3⟩
 ·by_cases hb:b=e
  ·subst hb;rw[aC] at q;cases q;exact new
  ·rw[aM hb] at q;exact(I.cH b u q).tV (fun c v _ z=>z) (fun c z=>by rw[aM (ne _ _ z)];exact z) fun c xs z=>by rw[aM (ne _ _ z)];exact z
end
section
variable {X:Cx}{pins:List (Addr×Obj)}{σ:St}{H H':Hp}{s s':qAh}{e C:Addr}{Ex:XS}
end
section
open Builtin Builtin.ObjectAttr Builtin.Getset_descriptor
theorem BH {K:qAc}{M:qNx}{h:Heap}{e C:Addr}{name:Str}{a g:qAf} (X:K.In h) (h1:qBa K (.ref C) name=some (some a)) (h2:qEv K a "__get__"=some (some g)) (h3:qFn K a=some true) :
  qFo M h (find (.ref e) (.ref C) name) (.bind g a):=by
 have L1:=qGd (M:=M) X h1;have L2:qFo M h (getOf (some a)) (some g):=PySem.W.looks_specialIn X h2;have L3:=PySem.W.looks_takesIn (M:=M) X h3;exact L1.andThen (L2.andThen ((show qFo M h (dataDescriptor? (some a) (some g)) (some (g,a)) from L3.andThen .now).andThen (PySem.W.Looks.tag .now)))
theorem pT {prog:qBl}{w:qCw}{A:qCq}{s:qAh}{K:qAc}{x C:Addr}{R:qOw->qAh->Prop}{tp:qAf} (X:K.In s.heap) (I:∀M,qFo M s.heap (qPu (.ref x)) (.ref C))
  (hm:qDw K C (.type "object")=some true) (h:R (.ok (.ret (.ref C))) s):qHi (qBz prog w) A (.call (.builtin "getset_descriptor.__get__") ⟨[.builtin "object.__class__",.ref x,tp],[]⟩) R s:=by
 obtain⟨hh,g,dr,t,os⟩:=s;have L0:=I (qBz prog w);have L1:=qLh (M:=qBz prog w) X hm;refine codeAny_call_builtin PySem.W.KF.slot_gs.plain PySem.W.KF.entry_gs (PySem.W.KF.slot_gs.check _ _ _ _ _ _ _ _ PySem.W.KF.type_class (PySem.W.KF.args_gs _ _ _) ?_);unfold Builtin.«getset_descriptor.__get__» descrGet;rw[PySem.W.dga_obj];refine qAa (qAe ?_);unfold descrGetter descrCheckInstance descrNameAndClass isInstance;simp only[PySem.W.KF.owner_class];repeat lk
 refine⟨Code.quiet_builtin _ (by decide +kernel),qFg PySem.W.KF.entry_class ?_⟩;unfold Builtin.«object.__class__» shownTypeOf;repeat lk
 exact h
end
theorem rR {M:qNx}{A:qCq}{E:qAf->qAh->Prop}{s:qAh}{K:qAc}{x C:Addr}{nameV:qAf}{Q:Unit->qAh->Prop} (X:K.In s.heap) (I:qFo M s.heap (qPu (.ref x)) (.ref C))
  (hm:qDw K C (.type "BaseException")=some true) (hq:Q () s):qBg M A (checkBuiltinCall "BaseException.__getattribute__" ⟨[.ref x,nameV],[]⟩) Q E s:=by
 have hk:builtinKind "BaseException.__getattribute__"=some .slot:=by decide +kernel
 have hsplit:splitId "BaseException.__getattribute__"=some ("BaseException","__getattribute__"):=by decide +kernel
 have L1:=qLh (M:=M) X hm;have L2:qFo M s.heap (isInstance (.ref x) (.type "BaseException")) true:=I.andThen L1;have ha:=F.args_bexc_ga (.ref x) nameV;obtain⟨hh,g,dr,t,os⟩:=s;simp only[checkBuiltinCall,hk,hsplit];refine qAa (L2.at ?_);repeat (first | assumption | wp_step)
section
open Builtin Builtin.ObjectAttr Builtin.Getset_descriptor
theorem HN {prog:qBl}{w:qCw}{A:qCq}{E:qAf->qAh->Prop}{s:qAh}{K:qAc}{x C:Addr}{Q:Option qAf->qAh->Prop} (X:K.In s.heap) (c:oF K C) (I:∀M,qFo M s.heap (qPu (.ref x)) (.ref C))
  (h:Q (some (.ref C)) { s with toks:=s.toks+1 }):qBg (qBz prog w) A (getAttr? (.ref x) "__class__") Q E s:=by
 obtain⟨hh,g,d,t,os⟩:=s;have L0:=I (qBz prog w);have L1:=qGd (M:=qBz prog w) X c.ga;have L2:=qGd (M:=qBz prog w) X c.gx;have L3:=BH (M:=qBz prog w) (e:=x) X c.ca c.cg c.ct;have hx2:(Value.builtin "BaseException.__getattribute__" == Value.builtin "object.__getattribute__")=false:=by decide +kernel
 have f3:=F.excAttr_ValueError.ga.bind (.ref x);unfold getAttr? getAttrBy? getAttrBy;refine qAa (wpAny_mkText (qAa (qHc (qDi (qAa (L0.at (qAa (L1.at ?_))))))));dsimp only;rw[if_neg (by rw[hx2,qIp];exact qAm)];unfold getAttrByItsOwn hookBefore;rw[if_pos (show onTheHeap (Value.ref C)=true from rfl)];refine qAa (L2.at ?_);refine qAa (qHc (qDi ?_));unfold callGetattribute;rw[if_neg (by decide)];unfold boundAndCalled;refine qAa (qGk f3 ?_);refine qJb (codeAny_call_builtin F.excAttr_ValueError.ga.plain F.entry_bexc_ga (rR X L0 c.mb ?_));show qBg _ _ (Builtin.«object.__getattribute__» ⟨[.ref x,.str "__class__" t],[]⟩) _ _ _;unfold Builtin.«object.__getattribute__»;refine qAa (qGk (a:=(Value.ref x,[Value.str "__class__" t])) rfl ?_);refine qAa (qGk (a:=("__class__":Str)) rfl ?_);refine qAa (L0.at (qAa (L3.at ?_)));show qBg _ _ (qLo [Value.builtin "object.__class__"] (call (.builtin "getset_descriptor.__get__") [.builtin "object.__class__",.ref x,.ref C]) >>= ret) _ _ _;refine qAa (qDi (qJb (pT (s:=⟨hh,g,d,t+1,os⟩) X I c.mo ?_)));show qBg _ _ (ret (Value.ref C)) _ _ _;refine qAe ?_;show qBg _ _ (handedOut (Value.ref C)) _ _ _;exact PySem.W.handed_on rfl (qAe h)
end
inductive Mf (K:qAc) (H:Hp):V->qAf->Prop where
 | of {v:V}{t:qAf} (h:i3 K H v t):Mf K H v t
 | exc {e C:Addr} (h:H e=some (Oi e C)) (c:oF K C):Mf K H (.ref e) (.ref C)
theorem BI {K:qAc}{e C:Addr} (c:oF K C):qNz K (.ref e) (.ref C) (fun h=>∃oe,h.get? e=some oe/\oe.cls = .ref C) where
 ty:=fun M h _ ⟨oe,h1,h2⟩=>h2▸(PySem.W.Looks.ld h1).andThen .now
 it:=fun _ _ X _=>by
  have z:=c.cls;unfold qKo at z;split at z
  ·rename_i c' d' cd' sl' ho;intro A' Q' E' s' k q;unfold isType loadHead;exact qAa (wpAny_loadPart (k _ _ (X _ _ ho)) (qAe q))
  ·cases z
 ne:=fun h tp dd its n sl X htp=>by
  refine Bool.eq_false_iff.mpr fun q=>?_;have e:C=tp:=Value.ref.inj (beq_iff_eq.mp q);subst e;have z:=c.cls;unfold qKo at z;split at z
  ·rename_i c' d' cd' sl' ho;have z:=(X _ _ ho).symm.trans htp;cases z
  ·cases z
 ca:=fun X ⟨oe,h1,h2⟩ k=>HN X c (fun M=>h2▸(PySem.W.Looks.ld h1).andThen .now) k
section
variable {X:Cx}{pins:List (Addr×Obj)}{σ:St}{H:Hp}{s:qAh}
theorem Mf.Pt {x:V}{u t:qAf} (I:Inv X pins σ H s) (rx:RelV x u) (ty:Mf X.K H x t):∃φ:Heap->Prop,qNz X.K u t φ/\φ s.heap/\u≠.builtin "__main__.__loader__#opaque":=by
 cases ty with
 | exc h c =>
  rename_i e C;cases (show u=Value.ref e from rx);obtain⟨z,_⟩:=I.cH e _ h;exact⟨_,BI c,z,fun z=>nomatch z⟩
 | of ty =>
  cases ty with
  | non=>cases (show u=Value.none from rx);exact⟨_,PySem.W.kitx_none,True.intro,fun z=>nomatch z⟩
  | bl y=>cases (show u=Value.bool y from rx);exact⟨_,PySem.W.kitx_bool,True.intro,fun z=>nomatch z⟩
  | int i=>obtain⟨t,q⟩:=(show ∃t,u=Value.int i t from rx);cases q;exact⟨_,PySem.W.kitx_int,True.intro,fun z=>nomatch z⟩
  | str y=>obtain⟨t,q⟩:=(show ∃t,u=Value.str y t from rx);cases q;exact⟨_,PySem.W.kitx_str,True.intro,fun z=>nomatch z⟩
  | flt y=>obtain⟨t,q⟩:=(show ∃t,u=Value.float y t from rx);cases q;exact⟨_,PySem.W.kitx_float,True.intro,fun z=>nomatch z⟩
  | @lst a xs ea =>
   cases (show u=Value.ref a from rx)
   obtain⟨_,_,n,_,h1⟩:=(show cS X.prog X.w H s.heap a (.lst xs) from I.cH a _ ea);exact⟨_,qLw,⟨_,h1,rfl⟩,fun z=>nomatch z⟩
  | @frz a ob xs ea =>
   cases (show u=Value.ref a from rx)
   obtain⟨_,_,_,n,_,h1⟩:=(show cS X.prog X.w H s.heap a (.frz ob (.lst xs)) from I.cH a _ ea);exact⟨_,qLw,⟨_,h1,rfl⟩,fun z=>nomatch z⟩
  | @tup a xs ea =>
   cases (show u=Value.ref a from rx)
   obtain⟨_,_,_,p⟩:=(show cS X.prog X.w H s.heap a (.tup xs) from I.cH a _ ea);obtain⟨o,h1,h2,_⟩:=p;exact⟨_,PySem.W.kitx_tuple,⟨o,h1,h2⟩,fun z=>nomatch z⟩
  | @dK a kvs ea =>
   cases (show u=Value.ref a from rx)
   obtain⟨_,_,vs,_,p⟩:=(show cS X.prog X.w H s.heap a (.dK kvs) from I.cH a _ ea);obtain⟨o,es,ep,h1,h2,_⟩:=p;exact⟨_,qLx,⟨o,h1,h2.1⟩,fun z=>nomatch z⟩
  | @dT a kvs ea =>
   cases (show u=Value.ref a from rx)
   obtain⟨_,_,xs,_,o,es,ep,h1,h2,_⟩:=(show cS X.prog X.w H s.heap a (.dT kvs) from I.cH a _ ea);exact⟨_,qLx,⟨o,h1,h2.1⟩,fun z=>nomatch z⟩
  | @ins a C dx fs ea cl ha hn htk hm =>
   cases (show u=Value.ref a from rx)
   obtain⟨mA,O,_⟩:=nN I.cH ea;obtain⟨od,J,_⟩:=O.look;exact⟨_,PySem.W.kitx_own (cl.get _) cl.hd ha hn htk hm,J,fun z=>nomatch z⟩
def Mg:V->Option qAf
 | .ty n=>some (.type n)
 | .ref a=>some (.ref a)
 | _=>none
theorem BJ {c:V}{cv u:qAf} (h:Mg c=some cv) (r:RelV c u):u=cv:=by
 cases c <;> first | (cases h;exact r) | cases h
theorem cZ:gA X (.builtin "isinstance") (fun xs H Q=>∃v c t cv b,xs=[v,c]/\Mg c=some cv/\Mf X.K H v t/\qGr X.K t cv=some b/\Q (.bl b) H):=by
 intro pins s σ H xs us Q I r h;obtain⟨v,c,t,cv,b,rfl,hc,ty,hk,q⟩:=h;obtain⟨u,cu,rfl,ru,rc⟩:=vals2 r;obtain rfl:=BJ hc rc;obtain⟨φ,Z,p,ne⟩:=ty.Pt I ru;exact PySem.W.kia_one Z I.vX p hk ne fun tk=>⟨.bl b,H,I.tok tk,rfl,q⟩
end
section
variable {X:Cx}
theorem bV (K:qAc) (h:X.K=K:=by rfl):Lp X (LV K):=h▸a8
theorem fU (K:qAc) (h:X.K=K:=by rfl):Lp X (LW K):=h▸bI
theorem p7 (K:qAc) (h:X.K=K:=by rfl):gA X (.builtin "len") (fun xs H Q=>∃p ys,xs=[.ref p]/\(aT K H p ys\/cQ K H p ys)/\Q (.int ys.length) H):=h▸aO
end
section
variable {X:Cx}
def FV (K:qAc):R2:=fun x y H Q=>∃l b xs zs,x = .ref l/\y = .ref b/\aT K H l xs/\aT K H b zs/\xs.length+zs.length<=qAj/\∀p,H p=none->Q (.ref p) (upd H p (.lst (xs++zs)))
theorem fV:iG X (qFm .Add) (FV X.K):=by
 intro pins s σ H x y v u Q I rx ry h;obtain⟨l,b,xs,zs,rfl,rfl,hH,hB,hz,q⟩:=h;cases rx;cases ry;obtain⟨its,r,pl,hl⟩:=I.list hH;obtain⟨its2,r2,pl2,hl2⟩:=I.list hB;obtain⟨⟨cls,dd,data,sl⟩,n,ho,hc,_,hd⟩:=pl;obtain⟨⟨cls2,dd2,data2,sl2⟩,n2,ho2,hc2,_,hd2⟩:=pl2;dsimp only at hc hd hc2 hd2;subst hc hd hc2 hd2;have ea:its.toArray++its2.toArray=(its++its2).toArray:=by simp
 refine concat_meets ⟨_,ho,rfl⟩ ⟨_,ho2,rfl⟩ noFill_list_add seq_list_add PySem.F.slot_list_add PySem.F.entry_list_add (PySem.F.args_list_add_2 _ _) (list_addW l b its.toArray its2.toArray n n2 dd dd2 sl sl2 (by rw[qAv,qAv,<- r.length,<- r2.length];exact hz)) ⟨ho,ho2,?_⟩;rw[ea];exact⟨.ref _,_,I.Ma (t':=s.toks) (r.append r2) (by rw[qAo];exact hz),rfl,q _ I.fresh⟩
def HP (K:qAc) (f:Bool->Bool):R2:=fun x y H Q=>∃(l b:Addr) (ns ms:List Int),x = .ref l/\y = .ref b/\aT K H l (ns.map V.int)/\aT K H b (ms.map V.int)/\Q (.bl (f (decide (ns=ms)))) H
theorem BK (hu:X.A.units+64<qLq):iG X (qDt .Eq) (HP X.K id):=by
 intro pins s σ H x y v u Q I rx ry h;obtain⟨l,b,ns,ms,rfl,rfl,hH,hB,q⟩:=h;cases rx;cases ry;obtain⟨its,r,pl,hl⟩:=I.list hH;obtain⟨its2,r2,pl2,hl2⟩:=I.list hB;exact PySem.W.eq_intsK pl.isList (intsAre_of r) pl2.isList (intsAre_of r2) hu ⟨.bl (decide (ns=ms)),H,I,rfl,q⟩
theorem HQ (hu:X.A.units+64<qLq):iG X (qDt .NotEq) (HP X.K (!·)):=by
 intro pins s σ H x y v u Q I rx ry h;obtain⟨l,b,ns,ms,rfl,rfl,hH,hB,q⟩:=h;cases rx;cases ry;obtain⟨its,r,pl,hl⟩:=I.list hH;obtain⟨its2,r2,pl2,hl2⟩:=I.list hB;exact PySem.W.ne_intsK pl.isList (intsAre_of r) pl2.isList (intsAre_of r2) hu ⟨.bl (!decide (ns=ms)),H,I,rfl,q⟩
def yO (i j:Int):Prop:=Em i j\/(i.natAbs<2^2000000/\j.natAbs<2^2000000)
theorem yO.ok {i j:Int} (h:yO i j):IntMulOk i j:=by
 rcases h with h | ⟨h1,h2⟩
 ·exact h.ok
 ·exact IntMulOk.of_le (m:=2000000) (n:=2000000) (intBits_le_iff.mpr h1) (intBits_le_iff.mpr h2) (by decide)
theorem bM:iG X (qFm .Mult) (rI yO fun i j=>.int (i*j)):=FO fun i j t u s Q E hc h=>mul_int h hc.ok
def yP (_ j:Int):Prop:=j≠0/\j.natAbs<2^8000
theorem yP.ok {i j:Int} (h:yP i j):Builtin.divisionGoesByPylong i j=false:=by
 obtain⟨h0,h1⟩:=h;have hl:j.natAbs.log2<8000:=(Nat.log2_lt (by omega)).mpr h1;have hd:¬((if (j == 0)=true then 0 else j.natAbs.log2/30+1)>300):=by
  split
  ·omega
  ·omega
 show(decide ((if (j == 0)=true then 0 else j.natAbs.log2/30+1)>300)&&_)=false;rw[decide_eq_false hd,qFh]
theorem gD:iG X (qFm .FloorDiv) (rI yP fun i j=>.int (i.fdiv j)):=FO fun i j t u s Q E hc h=>floordiv_int hc.1 h (.inl hc.ok)
theorem Inv.big {pins:List (Addr×Obj)}{σ:St}{H:Hp}{s:qAh} (I:Inv X pins σ H s):qFk<s.heap.objs.size:=by
 have h:qBh<s.heap.objs.size:=(I.mod.glob.keeps I.bk).lt;exact qPk (by decide) h
theorem uD {P:qBl}{w:qCw}{H:Hp} (h:Heap) (hb:qFk<h.objs.size):cS P w H (h.push { cls:=.type "dict",data:=.dict #[] }) h.objs.size (.dK []) :=
 ⟨qBr _,beq_eq_false_iff_ne.mpr (Ne.symm (qBd hb)),[],.nil,Heap.DictOf.new h⟩
def HR:TE:=fun _ H Q=>∀p,H p=none->Q (.ref p) (upd H p (.dK []))
theorem BL {pos:Pos}:PE X (.Dict [] [] pos) HR:=fun pins s σ H Q I h =>
 wpAny_Dict_empty ⟨.ref s.heap.objs.size,_,I.laid (a:=s.heap.objs.size) (o:=.dK []) (t':=s.toks) (fun _ _ q=>qAi _ q) (qAg _) (uD s.heap I.big),rfl,h _ (I.cH.fresh (qAg _))⟩
end
structure Tx (K:qAc) (mg:Str->Option qAf) (x:Str) (st:Stmt) (ps:List Str) (f:Addr) (fd:qBk):Prop where
 fn:HK K x x st f fd
 at_:mg x=some (.ref f)
 bd:∀us:List qAf,us.length=ps.length->qNd fd ⟨us,[]⟩=pure (ps.zip us)
theorem bL {K:qAc}{mg:Str->Option qAf}{h:Heap}{x:Str}{st:Stmt}{ps:List Str}{f:Addr}{oc:qAf}{od an:Option Addr}{osl:Array (Option qAf)}{kV doc pm cdv ct:qAf} (X:K.In h) (G:h.Ns qBh mg)
  (a:qBu K qBh x=some (some (.ref f))) (l:K.lookup f=some ⟨oc,od,.func (qDk x x (dP st) (cO st) (aI st) .none kV doc pm an cdv ct),osl⟩)
  (c:qDy K cdv x=true) (k:qCs K (.ref f)=true)
  (hb:∀(kV doc pm:qAf) (an:Option Addr) (cdv ct:qAf) (us:List qAf),us.length=ps.length->qNd (qDk x x (dP st) (cO st) (aI st) .none kV doc pm an cdv ct) ⟨us,[]⟩=pure (ps.zip us)) :
  ∃f fd,Tx K mg x st ps f fd:=⟨f,_,BB l c k,qDx X G a,hb kV doc pm an cdv ct⟩
structure Df (P:qBl) (w:qCw) (K:qAc) (mg:Str->Option qAf) (base:Heap) (CX:Ak) (k:Nat) (x:Str) (ps:List Str) (sp:Sp) (f:Addr) (fd:qBk):Prop where
 at_:mg x=some (.ref f)
 kp:qCs K (.ref f)=true
 ok:i4 P w K mg base CX k f fd ps sp
 bd:Binds K fd ps []
section
variable {P:qBl}{w:qCw}{K:qAc}{mg:Str->Option qAf}{base:Heap}{x:Str}{st:Stmt}{ps N:List Str}{f:Addr}{fd:qBk}{k:Nat}{sp:Sp}
theorem Tx.gX (t:Tx K mg x st ps f fd) (S:aQ N ps (aI st)) (len:∀vs H Q E,sp vs H Q E->vs.length=ps.length)
  (hbody:∀(cdv:qAf) (A:qCq) (outer:List Env) (s:qAh) (H:Hp) (vs:List V) (Q:VK) (E:XK),dY k (A.deeper (qIx x (aI st) s.heap.objs.size f cdv))->sp vs H Q E ->
   ∃t,tP (oA bY P w K mg base N x (aI st) f cdv A outer s H E).Lo (cO st) t/\t { nx:=fun _ H'=>Q .non H',rt:=Q } (start N vs) H):Df P w K mg base bY (k+1) x ps sp f fd :=
 ⟨t.at_,t.fn.kp,t.fn.ok S len hbody,.all t.bd⟩
theorem Tx.Ec (t:Tx K mg x st ps f fd) (S:aQ N ps (aI st)) (len:∀vs H Q E,sp vs H Q E->vs.length=ps.length)
  (hbody:∀(cdv:qAf) (A:qCq) (outer:List Env) (s:qAh) (H:Hp) (vs:List V) (Q:VK) (E:XK),dY k (A.deeper (qIx x (aI st) s.heap.objs.size f cdv))->sp vs H Q E ->
   ∃t,tP (oA (g6 P w) P w K mg base N x (aI st) f cdv A outer s H E) (cO st) t/\t { nx:=fun _ H'=>Q .non H',rt:=Q } (start N vs) H):Df P w K mg base (g6 P w) (k+1) x ps sp f fd :=
 ⟨t.at_,t.fn.kp,t.fn.Ls S len hbody,.all t.bd⟩
end
section
variable {X:Cx}{Ex:XS}{k j:Nat}{f:Addr}{fd:qBk}{ps:List Str}{sp:Sp}{x:Str}{p pos:Pos}{e:Expr}{es:List Expr}{t:TA}
theorem aW (D:Df X.prog X.w X.K X.mg X.base bY k x ps sp f fd) (hr:dY j X.A) (hj:k<=j) (hg:Gl X x) (ha:PA X (e::es) t) (hdb:(x == ("__debug__":Str))=false:=by decide) (he:qBt (e::es) X.env=(false,eval e X.env)::qBt es X.env:=by rfl) (hpl:(qGu pos (qBt es X.env)).any (·.1)=false:=by rfl) :
  PE X (.Call (.Name x p) (e::es) [] pos) (FQ sp [] E0 t):=Er D.ok (hr.mono hj) hg D.at_ D.kp D.bd .nil Mb ha hdb he hpl
theorem dR (R:Pass X Ex) (D:Df X.prog X.w X.K X.mg X.base (g6 X.prog X.w) k x ps sp f fd) (hr:dY j X.A) (hj:k<=j) (hg:Gl X x) (ha:PA X (e::es) t) (hdb:(x == ("__debug__":Str))=false:=by decide) (he:qBt (e::es) X.env=(false,eval e X.env)::qBt es X.env:=by rfl) (hpl:(qGu pos (qBt es X.env)).any (·.1)=false:=by rfl) :
  PE X (.Call (.Name x p) (e::es) [] pos) (BE sp [] Ex t):=BF R D.ok (hr.mono hj) hg D.at_ D.kp D.bd .nil ha hdb he hpl
end
theorem cA {X:Cx}:Pass X (fun _ _ _=>False):=⟨fun _ _ _ _ _ _ _ _ _ _ q=>q.elim⟩
theorem BM {n:Nat}{σ0:St}{H1:Hp}{i0:Nat}{c:TT}{te:TE}{Q:Addr->Hp->Prop} (f:Nat->Option V) (hn:n<=qAj)
  (step:∀(i:Nat) (H2:Hp) (k:VK) (k0:Hp->Prop),i<n->(∀y,f i=some y->k y H2)->(f i=none->k0 H2) ->
   c (σ0.set i0 (some (.int (0+(i:Int))))) H2 fun b H4=>if b=true then te (σ0.set i0 (some (.int (0+(i:Int))))) H4 k else k0 H4)
  (h:∀D,H1 D=none->Q D (upd H1 D (.lst ((qAl n).filterMap f)))) :
  ∀D,H1 D=none->∃W:Nat->Nat->St->Hp->Prop,(∃m,W 0 m σ0 (upd H1 D (.lst [])))/\∀i m σ1 H2,W i m σ1 H2 ->
   ((pO 0 n).stop i H2/\Q D H2)\/((pO 0 n).go i H2/\∃N:St->Hp->Prop,(∀σ' H',N σ' H'->∃m',m'<m/\W (i+1) m' σ' H') /\
    ∀x H',(pO 0 n).pR i H2 x H'->aX i0 x σ1 H' fun σ2 H3=>c σ2 H3 fun b H4=>if b=true then te σ2 H4 fun y H5=>∃xs,H5 D=some (.lst xs)/\xs.length<qAj/\N σ2 (upd H5 D (.lst (xs++[y]))) else N σ2 H4):=by
 intro D hD;refine⟨fun i m σ1 H2=>σ1.set i0 none=σ0.set i0 none/\H2=upd H1 D (.lst ((qAl i).filterMap f))/\i<=n/\m=n-i,⟨n,rfl,rfl,qBr _,rfl⟩,?_⟩;rintro i m σ1 H2 ⟨hσ,rfl,hi,rfl⟩;have hset:∀v:Option V,σ1.set i0 v=σ0.set i0 v:=fun v=>by
  have z:=congrArg (fun l=>qHn l i0 v) hσ;simpa using z
 rcases qAk i n with hlt | hge
 ·right
  refine⟨hlt,fun σ' H'=>σ'.set i0 none=σ0.set i0 none/\H'=upd H1 D (.lst ((qAl (i+1)).filterMap f)),fun σ' H' ⟨a,b⟩=>⟨n-(i+1),by omega,a,b,hlt,rfl⟩,?_⟩;rintro x H' ⟨rfl,rfl⟩;show c (σ1.set i0 (some (.int (0+(i:Int))))) _ _;rw[hset];refine step i _ _ _ hlt (fun y hy=>⟨_,aC,?_,?_,?_⟩) fun hno=>⟨?_,?_⟩
  ·refine qBq (qEp _ _) ?_;rw[qAw];omega
  ·simp
  ·rw[Ef,qBm,qCd];simp[hy]
  ·simp
  ·rw[qBm,qCd];simp[hno]
 ·left
  obtain rfl:i=n:=qCt hi hge;exact⟨qAg _,h D hD⟩
theorem aG.aF {H:Hp}{p:Addr}{o:HO} (h:H p=none):aG H (upd H p o):=fun b u e=>by
 rw[aM (a9 e h)];exact e
theorem aG.ty {K:qAc}{H H':Hp}{v:V}{t:qAf} (s:aG H H') (h:i3 K H v t):i3 K H' v t:=by
 cases h with
 | non=>exact .non
 | bl x=>exact .bl x
 | int i=>exact .int i
 | str x=>exact .str x
 | flt x=>exact .flt x
 | lst e=>exact .lst (s _ _ e)
 | frz e=>exact .frz (s _ _ e)
 | tup e=>exact .tup (s _ _ e)
 | dK e=>exact .dK (s _ _ e)
 | dT e=>exact .dT (s _ _ e)
 | ins e cl ha hn htk hm=>exact .ins (s _ _ e) cl ha hn htk hm
theorem fG:qCo "isinstance"=some (.builtin "isinstance"):=by decide +kernel
theorem BN:qCo "int"=some (.type "int"):=by decide +kernel
theorem yQ:qCo "bool"=some (.type "bool"):=by decide +kernel
theorem cX:qCo "list"=some (.type "list"):=by decide +kernel
theorem oG:qCo "tuple"=some (.type "tuple"):=by decide +kernel
theorem bQ:qCo "len"=some (.builtin "len"):=by decide +kernel
theorem wR:qCo "abs"=some (.builtin "abs"):=by decide +kernel
theorem HS {K:qAc}{C:Addr} (h2:qHw K (.ref C)=some (.type "type")) (h3:qBa K (.ref C) "__getattribute__"=some (some (.builtin "BaseException.__getattribute__"))) (h4:qBa K (.ref C) "__getattr__"=some none)
  (h5:qBa K (.ref C) "__class__"=some (some (.builtin "object.__class__"))) (h6:qEv K (.builtin "object.__class__") "__get__"=some (some (.builtin "getset_descriptor.__get__"))) (h7:qFn K (.builtin "object.__class__")=some true)
  (h8:qDw K C (.type "object")=some true) (h9:qDw K C (.type "BaseException")=some true):oF K C:=by
 refine⟨?_,h2,h3,h4,h5,h6,h7,h8,h9⟩;unfold qDw at h8;obtain⟨cd,a,_⟩:=Option.bind_eq_some_iff.mp h8;rw[a];rfl
inductive Kd:String->Prop where
 | non:Kd "NoneType"
 | bl:Kd "bool"
 | int:Kd "int"
 | str:Kd "str"
 | tup:Kd "tuple"
 | lst:Kd "list"
 | dic:Kd "dict"
theorem Kd.Mh (K:qAc){T:String} (h:Kd T):qGr K (.type T) (.type "int")=some (T == "int" || T == "bool"):=by
 cases h <;> rfl
theorem Kd.FW (K:qAc){T:String} (h:Kd T):qGr K (.type T) (.type "bool")=some (T == "bool"):=by
 cases h <;> rfl
theorem Kd.p8 (K:qAc){T:String} (h:Kd T):qGr K (.type T) (.type "list")=some (T == "list"):=by
 cases h <;> rfl
theorem Kd.oH (K:qAc){T:String} (h:Kd T):qGr K (.type T) (.type "tuple")=some (T == "tuple"):=by
 cases h <;> rfl
def jQ:V->Bool
 | .int _=>true
 | _=>false
structure Pl (K:qAc) (H:Hp) (v:V):Prop where
 ex:∃T,i3 K H v (.type T)/\Kd T
theorem Pl.int {K:qAc}{H:Hp} (i:Int):Pl K H (.int i):=⟨_,.int i,.int⟩
theorem Pl.jQ {K:qAc}{H:Hp}{v:V}{T:String} (h:i3 K H v (.type T)):jQ v=(T == "int"):=by
 cases h <;> rfl
theorem Pl.same {K:qAc}{H H':Hp}{v:V} (h:Pl K H v) (s:aG H H'):Pl K H' v:=let ⟨T,a,b⟩:=h.ex;⟨T,s.ty a,b⟩
def EC (lo hi:Int):V->Bool
 | .int i=>decide (lo<=i)&&decide (i<=hi)
 | _=>false
section
variable {X:Cx}{pins:List (Addr×Obj)}{σ:St}{H H':Hp}{s:qAh}{h':Heap}
theorem Inv.nP {t':Nat}{fp:List Addr} (I:Inv X pins σ H s) (k:∀b o,b∉fp->s.heap.get? b=some o->h'.get? b=some o) (hf:∀b∈fp,iX X pins H b):Inv X pins σ H { s with heap:=h',toks:=t' }:=by
 have nit:∀b u,H b=some u->b∉fp:=fun b u e z=>by rw[(hf b z).1] at e;cases e
 refine I.step (g':=s.gens) (d':=s.drawn) (ch:=fp) (fun b hb=>?_) (fun b o _ _ hc e _=>k b o hc e) (fun b o _ _ hc e _=>⟨o.slots,k b o hc e⟩) (fun _ _ _ _ n=>n)
  (fun b o hc e=>⟨o,k b o hc e⟩) (fun _ _ e=>e) (fun _ _ _ e=>e) (fun b ps e=>⟨#[],by rw[e];simp⟩) (fun m hm=>?_) (fun b u e=>?_) I.bare
 ·obtain⟨_,f1,_,f3,f4,f5⟩:=hf b hb;exact⟨f3,f1,f4,f5⟩
 ·obtain⟨o,es,ep,ho,r⟩:=hm;exact⟨o,es,ep,k _ o (fun z=>(hf _ z).2.1 rfl) ho,r⟩
 ·refine(I.cH b u e).tV (fun c v hc q=>k c v ?_ q) (fun _ q=>q) fun _ _ q=>q;rcases hc with z | z
  ·rw[z];exact nit b u e
  ·exact nit c _ z
end
def yR (K:qAc) (l1 l2:Addr):It :=
  ⟨fun i H=>∃xs ys x y,aT K H l1 xs/\aT K H l2 ys/\xs[i]?=some x/\ys[i]?=some y,
   fun i H v H'=>∃t x y,v = .ref t/\H t=none/\H'=upd H t (.tup [x,y])/\(∀xs,aT K H l1 xs->xs[i]?=some x)/\∀ys,aT K H l2 ys->ys[i]?=some y,
   fun i H=>∃xs ys,aT K H l1 xs/\aT K H l2 ys/\(xs.length<=i\/ys.length<=i)⟩
def Mi (z TI TO i1 i2 l1 l2:Addr) (i:Nat) (h:Heap):Prop :=
 IsZip h z TI TO .none/\IsPair h TI (.ref i1) (.ref i2)/\(∃a b,IsPair h TO a b)/\h.IsListIter i1 l1 i/\h.IsListIter i2 l2 i
theorem BO {P:qBl}{w:qCw}{K:qAc}{elts:List Expr} {x1}{pos:Pos}{z TI TO i1 i2 l1 l2:Addr} (D:ZipApart z TI TO i1 i2 l1 l2) :
  Turn P w K (.Tuple elts x1 pos) (yR K l1 l2) [z,TI,TO,i1,i2] z (Mi z TI TO i1 i2 l1 l2) where
 mem:=by simp
 obj:=fun i h ⟨hz,hTI,⟨a,b,hTO⟩,⟨o1,h1,_,d1⟩,⟨o2,h2,_,d2⟩⟩ b hb=>by
  simp only[qEb,qDa,or_false] at hb;rcases hb with rfl | rfl | rfl | rfl | rfl
  ·exact⟨_,hz,fun v q=>nomatch q⟩
  ·exact⟨_,hTI,fun v q=>nomatch q⟩
  ·exact⟨_,hTO,fun v q=>nomatch q⟩
  ·exact⟨_,h1,fun v q=>by rw[d1] at q;cases q⟩
  ·exact⟨_,h2,fun v q=>by rw[d2] at q;cases q⟩
 keep:=fun i h h' ⟨hz,hTI,⟨a,b,hTO⟩,h1,h2⟩ k=>⟨k z (by simp) _ hz,k TI (by simp) _ hTI,⟨a,b,k TO (by simp) _ hTO⟩,h1.at fun o e=>k i1 (by simp) o e,h2.at fun o e=>k i2 (by simp) o e⟩
 item:=by
  intro X hP hw hK hc i pins s σ H E I hf st hg;subst hP hw hK;obtain⟨hz,hTI,⟨a,b,hTO⟩,h1,h2⟩:=st;obtain⟨xs,ys,x,y,q1,q2,hx,hy⟩:=hg;obtain⟨its1,r1,p1,z1⟩:=I.list q1;obtain⟨its2,r2,p2,z2⟩:=I.list q2;obtain⟨u,hu,ru⟩:=r1.get hx;obtain⟨v,hv,rv⟩:=r2.get hy;refine wpAny_pyNext_zip_item D hz hTI hTO h1 h2 p1.isList p2.isList (by simpa using hu) (by simpa using hv) fun h' a1 a2 a3 a4 a5 a6 a7=>⟨_,rfl,?_⟩;refine wpAny_letOwnedTupleGo_zip a1 fun h'' b1 hs=>?_;have lt:∀c o,s.heap.get? c=some o->c≠s.heap.objs.size:=fun c o e=>qBd (qAr e);have ltz:s.heap.objs.size≠z:=(lt z _ hz).symm;have I1:Inv X pins σ H { s with heap:=h'' }:=I.nP (t':=s.toks) (fun c o hb e=>(hs.2 c (fun q=>hb (by simp[q]))).trans (a7 c o (fun q=>hb (by simp[q])) (fun q=>hb (by simp[q])) (fun q=>hb (by simp[q])) (fun q=>hb (by simp[q])) e)) hf;have ht:h''.get? s.heap.objs.size=some { cls:=.type "tuple",data:=.seq #[u,v] }:=(hs.2 _ ltz).trans a5;have hn:H s.heap.objs.size=none:=I.cH.fresh (qAg _);have I2:Inv X pins σ (upd H s.heap.objs.size (.tup [x,y])) { s with heap:=h'' }:=by
   refine I1.FU hn (qIm I.sz) (qBd I.lt).symm (fun y c q=>?_) (fun p hp=>?_) (I.Hl (qAg _)) ⟨lS,[u,v],.cons ru (.cons rv .nil),_,ht,rfl,_,rfl⟩
   ·obtain⟨_,o,ho,_⟩:=I.cell y c q;exact lt c o ho
   ·exact lt _ _ (I.pin p hp).1
  refine⟨.ref s.heap.objs.size,_,I2,rfl,⟨_,x,y,rfl,hn,rfl,fun xs' q=>?_,fun ys' q=>?_⟩,⟨b1,(hs.2 _ D.TIz).trans (a7 _ _ D.TIz D.TITO D.TIi1 D.TIi2 hTI),⟨_,_,(hs.2 _ D.TOz).trans a2⟩,a3.at fun o e=>(hs.2 _ D.i1z).trans e,a4.at fun o e=>(hs.2 _ D.i2z).trans e⟩,fun c hb=>?_⟩
  ·rw[I.iV q q1];exact hx
  ·rw[I.iV q q2];exact hy
  ·obtain⟨o,ho,_⟩:∃o,s.heap.get? c=some o/\True:=by
    simp only[qEb,qDa,or_false] at hb;rcases hb with rfl | rfl | rfl | rfl | rfl
    ·exact⟨_,hz,trivial⟩
    ·exact⟨_,hTI,trivial⟩
    ·exact⟨_,hTO,trivial⟩
    ·obtain⟨o,ho,_⟩:=h1;exact⟨o,ho,trivial⟩
    ·obtain⟨o,ho,_⟩:=h2;exact⟨o,ho,trivial⟩
   rw[aM (lt c o ho)];exact(hf c hb).1
 done:=by
  intro X hP hw hK hc i pins s σ H E I hf st hg;subst hP hw hK;obtain⟨hz,hTI,⟨a,b,hTO⟩,h1,h2⟩:=st;obtain⟨xs,ys,q1,q2,hend⟩:=hg;obtain⟨its1,r1,p1,z1⟩:=I.list q1;obtain⟨its2,r2,p2,z2⟩:=I.list q2;refine wpAny_pyNext_zip_end (I.ok.hd hc) D hz hTI hTO h1 h2 p1.isList p2.isList ?_ fun h' k=>⟨rfl,I.nP (t':=s.toks) (fun c o hb e=>k c o (fun q=>hb (by simp[q])) (fun q=>hb (by simp[q])) (fun q=>hb (by simp[q])) (fun q=>hb (by simp[q])) e) hf⟩;have e1:=r1.length;have e2:=r2.length;rcases hend with h | h
  ·left
   simp;omega
  ·right
   simp;omega
 self:=fun _ _ _ _ _ st h=>wpAny_pyIter_zip st.1 h
def Oj (K:qAc) (ta:TA):TI:=fun σ H R=>ta σ H fun vs H1=>∃l1 l2,vs=[.ref l1,.ref l2]/\(∃xs,aT K H1 l1 xs)/\(∃ys,aT K H1 l2 ys)/\R (yR K l1 l2) H1
theorem HU:qCo "zip"=some (.type "zip"):=by decide +kernel
theorem gE {X:Cx}{elts:List Expr} {x1}{tpos:Pos}{a b:Expr}{ta:TA}{p pos:Pos} (hg:Gl X "zip") (hm:X.mg "zip"=none) (ha:PA X [a,b] ta) (hs:qBt [a,b] X.env=[(false,eval a X.env),(false,eval b X.env)]:=by rfl) (hs2:qBt [b] X.env=[(false,eval b X.env)]:=by rfl) :
  PI X (.Tuple elts x1 tpos) (.Call (.Name "zip" p) [a,b] [] pos) (Oj X.K ta):=by
 intro pins s σ H R I h;refine qNy (fE I hg hm HU (qCb (cB (ha pos pins s σ H _ I h) fun us s1 ⟨vs,H1,I1,r1,q1⟩=>?_) (by rw[hs,hs2]) (by rw[hs2];rfl)));obtain⟨l1,l2,e,⟨xs,q1⟩,⟨ys,q2⟩,q⟩:=q1;subst e;obtain⟨u,v,rfl,ru,rv⟩:=vals2 r1;cases (show u=Value.ref l1 from ru);cases (show v=Value.ref l2 from rv);obtain⟨its1,r1,p1,z1⟩:=I1.list q1;obtain⟨its2,r2,p2,z2⟩:=I1.list q2;have t1:l1<s1.heap.objs.size:=by obtain⟨o,ho,_⟩:=p1.isList;exact qAr ho
 have t2:l2<s1.heap.objs.size:=by obtain⟨o,ho,_⟩:=p2.isList;exact qAr ho
 refine call_zip_2 p1.isList p2.isList fun h' hz hTI hTO hi1 hi2 hsz hk=>?_;refine wpAny_pyIter_zip hz ?_;have I2:Inv X pins σ H1 { s1 with heap:=h' }:=I1.kept (t':=s1.toks) hk;refine⟨_,[s1.heap.objs.size+4,s1.heap.objs.size+2,s1.heap.objs.size+3,s1.heap.objs.size,s1.heap.objs.size+1],_,_,H1,rfl,I2,BO (zipApart_new t1 t2),⟨hz,hTI,⟨_,_,hTO⟩,hi1,hi2⟩,fun c hc=>?_,q⟩;have hge:s1.heap.objs.size<=c:=by
  simp only[qEb,qDa,or_false] at hc;rcases hc with h | h | h | h | h
  all_goals first | (rw[h];exact qJw _ _) | exact qIc h.symm
 have:=I1.Ac (H':=H1) hge (I1.cH.fresh hge);exact this
theorem rS {K:qAc}{l1 l2:Addr}{xs ys:List V}{g:TG}{tb:TS}{D:Ends}{σ:St}{H:Hp} (Pv:Nat->St->Hp->Prop) (h0:Pv 0 σ H) (hl:∀i σ H,i<=xs.length->Pv i σ H->aT K H l1 xs/\aT K H l2 ys) (hlen:xs.length=ys.length)
  (hs:∀i x y t σ H,xs[i]?=some x->ys[i]?=some y->H t=none->Pv i σ H->g (.ref t) σ (upd H t (.tup [x,y])) fun σ2 H2=>tb { D with nx:=Pv (i+1),ct:=Pv (i+1),bk:=D.nx } σ2 H2) (hd:∀σ H,Pv xs.length σ H->D.nx σ H) :
  ∃W:Nat->Nat->St->Hp->Prop,(∃m,W 0 m σ H)/\∀i m σ H,W i m σ H ->
   ((yR K l1 l2).stop i H/\D.nx σ H)\/((yR K l1 l2).go i H/\∃N:St->Hp->Prop,(∀σ' H',N σ' H'->∃m',m'<m/\W (i+1) m' σ' H')/\∀x H',(yR K l1 l2).pR i H x H'->g x σ H' fun σ2 H2=>tb { D with nx:=N,ct:=N,bk:=D.nx } σ2 H2):=by
 refine⟨fun i m σ H=>Pv i σ H/\i<=xs.length/\m=xs.length-i,⟨_,h0,qBr _,rfl⟩,?_⟩;rintro i m σ H ⟨hp,hi,rfl⟩;obtain⟨q1,q2⟩:=hl i σ H hi hp;rcases qAk i xs.length with hlt | hge
 ·right
  obtain⟨x,hx⟩:∃x,xs[i]?=some x:=⟨_,qAd hlt⟩;obtain⟨y,hy⟩:∃y,ys[i]?=some y:=⟨_,qAd (hlen▸hlt)⟩;refine⟨⟨xs,ys,x,y,q1,q2,hx,hy⟩,Pv (i+1),fun σ' H' h=>⟨_,qMu hlt (qGi _),h,hlt,rfl⟩,?_⟩;rintro v H' ⟨t,x',y',rfl,hn,rfl,e1,e2⟩;have e1':=e1 xs q1;have e2':=e2 ys q2;rw[hx] at e1';rw[hy] at e2';cases e1';cases e2';exact hs i x y t σ H hx hy hn hp
 ·left
  obtain rfl:i=xs.length:=qCt hi hge;exact⟨⟨xs,ys,q1,q2,.inl (qAg _)⟩,hd σ H hp⟩
@[reducible] def Pa (A:qCq):qCq:={ A with handled:=none }
section
variable {X:Cx}{k j:Nat}{f:Addr}{fd:qBk}{ps:List Str}{sp:Sp}{x:Str}{p pos:Pos}{e:Expr}{es:List Expr}{t:TA}
end
end L2
namespace L2
open PySem PySem.Spec PyProof.Rows PySem.W PySem.Calls
def Sm (n:Nat) (i:Int):Prop:=i.natAbs<2^n
theorem BP {i:Nat}{v:V}{c:TT}{t e u:TS}{D:Ends}{σ:St}{H:Hp} (P:St->Hp->Prop) (hk:∀σ H,P σ H->u D σ H) (h:(∀σ H,P σ H->u D σ H)->Hr c t e { D with nx:=u D } (σ.set i (some v)) H):aX i v σ H (Ho (Hr c t e) u D):=h hk
theorem Sm.mono {i:Int}{a b:Nat} (h:Sm a i) (hab:a<=b):Sm b i:=qAx h (qBx (by decide) hab)
theorem Sm.le {i j:Int}{a:Nat} (h:Sm a i) (hij:j.natAbs<=i.natAbs):Sm a j:=qBq hij h
theorem Sm.mul {i j:Int}{a b:Nat} (h1:Sm a i) (h2:Sm b j):Sm (a+b) (i*j):=by
 unfold Sm at *;rw[qDq,qPo];exact Nat.mul_lt_mul'' h1 h2
theorem Sm.add {i j:Int}{a:Nat} (h1:Sm a i) (h2:Sm a j):Sm (a+1) (i+j):=by
 unfold Sm at *;have e:2^(a+1)=2^a*2:=qIb ..;omega
theorem Sm.sub {i j:Int}{a:Nat} (h1:Sm a i) (h2:Sm a j):Sm (a+1) (i-j):=by
 unfold Sm at *;have e:2^(a+1)=2^a*2:=qIb ..;omega
theorem Sm.fdiv {i d:Int}{a:Nat} (h:Sm a i):Sm a (i.fdiv d):=h.le (qLb i d)
theorem Sm.zero {n:Nat}:Sm n 0:=qEq _
theorem Sm.of {i:Int} (a:Nat){b:Nat} (h:i.natAbs<2^a) (hab:a<=b):Sm b i:=Sm.mono (a:=a) h hab
theorem Sm.mb {i j:Int}{m n:Nat} (h1:Sm m i) (h2:Sm n j) (hm:m<=2000000:=by decide) (hn:n<=2000000:=by decide):yO i j:=.inr ⟨h1.mono hm,h2.mono hn⟩
theorem Sm.db {i j:Int}{m:Nat} (h0:j≠0) (h1:Sm m j) (hm:m<=8000:=by decide):yP i j:=⟨h0,h1.mono hm⟩
end L2
namespace PySem.SeqAt
open AutoSeq1 (wpAny_loadPart')
open MeetsSeq MeetsSeq2 MeetsSeq3 SeqRoads2
theorem nF {M:qNx}{A:qCq}{E:qAf->qAh->Prop}{s:qAh}{β:Type} (f:Nat->β->Sem (ForInStep β)) (I:Nat->β->qAh->Prop) (Q:β->qAh->Prop) (n:Nat)
  (turn:∀i b s,i<n->I i b s->qBg M A (f i b) (fun r s'=>match r with | .yield b'=>I (i+1) b' s' | .done b'=>Q b' s') E s)
  (fin:∀b s,I n b s->Q b s) (b:β) (h:I 0 b s):qBg M A (forIn [0:n] b f) Q E s:=by
 rw[Std.Legacy.Range.forIn_eq_forIn_range'];refine wpAny_forIn_list f (fun rest b s=>∃i,i<=n/\rest=List.range' i (n-i)/\I i b s) Q ?_ ?_ _ b ⟨0,qBr _,?_,h⟩
 ·rintro x rest b s ⟨i,hi,hr,hI⟩;have hlt:i<n:=by
   rcases qAk i n with z | z
   ·exact z
   ·rw[show n-i=0 by omega] at hr;cases hr
  obtain⟨k,hk⟩:∃k,n-i=k+1:=⟨n-i-1,by omega⟩;rw[hk,qNq] at hr;obtain⟨rfl,rfl⟩:=List.cons.inj hr;refine qHf (turn x b s hlt hI) (fun r s' hr=>?_) fun _ _ z=>z;cases r with
  | done b'=>exact hr
  | yield b'=>exact⟨x+1,hlt,by rw[show n-(x+1)=k by omega],hr⟩
 ·rintro b s ⟨i,hi,hr,hI⟩;have:i=n:=by
   rcases qAk i n with z | z
   ·obtain⟨k,hk⟩:∃k,n-i=k+1:=⟨n-i-1,by omega⟩;rw[hk,qNq] at hr;cases hr
   ·omega
  subst this;exact fin _ _ hI
 ·simp[Std.Legacy.Range.size]
theorem pU (l:Addr) (items:Array qAf) (n:Nat) (dd:Option Addr) (sl:Array (Option qAf)) (x:qAf) (e:qAf->Bool) (j:Nat) (hj:j<items.size)
  (hit:e items[j]=true) (hno:∀m (hm:m<items.size),m<j->e items[m]=false) :
  Meets (Builtin.«tuple.index» ⟨[.ref l,x],[]⟩)
   (fun A R s=>s.heap.get? l=some { cls:=.type "tuple",dict:=dd,data:=.seq items n,slots:=sl }/\(∀y,y∈items->EqAt A.in1 s y x (e y))/\R (.ok (.ret (.int (j:Nat) s.toks))) { s with toks:=s.toks+1 }) :=
 .of_wp fun prog w A R s h=>by
  obtain⟨hp,g,d,tk,os⟩:=s;obtain⟨hl,he,h⟩:=h;wp_walk using wpAny_loadPart' hl,nF _ (fun i b s'=>b.1=none/\s'=⟨hp,g,d,tk,os⟩/\i<=j) _ _
  case turn =>
   rintro i b s' hi ⟨hb,rfl,hij⟩;have hi':i<items.size:=by omega
   rw[qBp hi'];refine qAa (he _ (Array.getElem_mem hi') prog w _ _ ?_);rcases qAk i j with z | z
   ·rw[hno i hi' z];wp_walk;exact⟨rfl,rfl,z⟩
   ·obtain rfl:i=j:=by omega
    rw[hit];wp_walk;exact⟨_,rfl,h⟩
  case fin =>
   rintro⟨b1,b2⟩ s' ⟨hb,rfl,hij⟩;omega
  case h =>
   exact⟨rfl,rfl,qBr _⟩
end PySem.SeqAt
namespace L2
open PySem PySem.Spec PyProof.Rows
theorem aG.Pu {K:qAc}{H H':Hp}{a:Addr}{xs:List V} (e:aG H H') (h:cQ K H a xs):cQ K H' a xs:=by
 rcases h with (h | ⟨o,h⟩) | h
 ·exact .inl (.inl (e _ _ h))
 ·exact .inl (.inr ⟨o,e _ _ h⟩)
 ·exact .inr h
theorem aG.upd_ne' {H H':Hp}{D:Addr}{o:HO} (s:aG H H') (h:H D=none):aG H (upd H' D o):=fun b u e=>by
 rw[aM (a9 e h)];exact s b u e
theorem rT {α β:Type} (F:α->β):∀xs:List α,((qAl xs.length).filterMap fun i=>(xs[i]?).bind fun x=>some (F x))=xs.map F
 | []=>rfl
 | x::r=>by
  rw[qCk,qHu,qCg,qHb];show F x::_=F x::r.map F;rw[<- rT F r];rfl
theorem yS {α β:Type} (f:α->Option β):∀xs:List α,((qAl xs.length).filterMap fun i=>(xs[i]?).bind f)=xs.filterMap f
 | []=>rfl
 | x::r=>by
  rw[qCk,qHu,qCg,qHb,qCg,<- yS f r];rfl
def SameBut (x:Addr) (H H':Hp):Prop:=∀b o,b≠x->H b=some o->H' b=some o
theorem aG.but {H H':Hp} (s:aG H H') (x:Addr):SameBut x H H':=fun b o _ e=>s b o e
theorem SameBut.then {x:Addr}{H H1 H2:Hp} (a:SameBut x H H1) (b:aG H1 H2):SameBut x H H2:=fun c o n e=>b c o (a c o n e)
theorem SameBut.nG {x:Addr}{H H1:Hp} (a:SameBut x H H1) (u:HO):SameBut x H (upd H1 x u):=fun c o n e=>by rw[aM n];exact a c o n e
theorem SameBut.made {x dx:Addr}{H H':Hp}{C:Addr} (hx:H x=none) (hd:H dx=none) (ne:dx≠x) (s:SameBut x (upd (upd H dx (.own x)) x (.ins C dx [])) H'):aG H H':=fun b o e=>by
 have n1:b≠x:=a9 e hx;have n2:b≠dx:=a9 e hd;exact s b o n1 (by rw[aM n1,aM n2];exact e)
theorem i4.up {P:qBl}{w:qCw}{K:qAc}{mg:Str->Option qAf}{base:Heap}{k:Nat}{f:Addr}{fd:qBk}{ps:List Str}{sp:Sp} (F:i4 P w K mg base bY k f fd ps sp):i4 P w K mg base (g6 P w) k f fd ps sp :=
 ⟨F.len,fun A outer s H args us vs Q E hr he hb hv hs=>qFz (F.run A outer s H args us vs Q E hr he hb hv hs) fun r s' h=>by
  cases r with
  | error e=>exact False.elim h
  | ok fl=>cases fl <;> exact h⟩
structure Mx (K:qAc) (x qual:Str) (st:Stmt) (ps:List Str) (f:Addr) (fd:qBk):Prop where
 fn:HK K x qual st f fd
 bd:∀us:List qAf,us.length=ps.length->qNd fd ⟨us,[]⟩=pure (ps.zip us)
theorem p9 {K:qAc}{x qual:Str}{st:Stmt}{ps:List Str}{f:Addr}{oc:qAf}{od an:Option Addr}{osl:Array (Option qAf)}{kV doc pm cdv ct:qAf}
  (l:K.lookup f=some ⟨oc,od,.func (qDk x qual (dP st) (cO st) (aI st) .none kV doc pm an cdv ct),osl⟩)
  (c:qDy K cdv qual=true) (k:qCs K (.ref f)=true)
  (hb:∀(kV doc pm:qAf) (an:Option Addr) (cdv ct:qAf) (us:List qAf),us.length=ps.length->qNd (qDk x qual (dP st) (cO st) (aI st) .none kV doc pm an cdv ct) ⟨us,[]⟩=pure (ps.zip us)) :
  ∃fd,Mx K x qual st ps f fd:=⟨_,BB l c k,hb kV doc pm an cdv ct⟩
structure Md (P:qBl) (w:qCw) (K:qAc) (mg:Str->Option qAf) (base:Heap) (k:Nat) (ps:List Str) (sp:Sp) (f:Addr):Prop where
 ex:∃fd,i4 P w K mg base (g6 P w) k f fd ps sp/\Binds K fd ps []
section
variable {P:qBl}{w:qCw}{K:qAc}{mg:Str->Option qAf}{base:Heap}{x qual:Str}{st:Stmt}{ps N:List Str}{f:Addr}{fd:qBk}{k j:Nat}{sp sp':Sp}
theorem Mx.Lu (t:Mx K x qual st ps f fd) (S:aQ N ps (aI st)) (len:∀vs H Q E,sp vs H Q E->vs.length=ps.length)
  (hbody:∀(cdv:qAf) (A:qCq) (outer:List Env) (s:qAh) (H:Hp) (vs:List V) (Q:VK) (E:XK),dY k (A.deeper (qIx qual (aI st) s.heap.objs.size f cdv))->sp vs H Q E ->
   ∃t,tP (oA bY P w K mg base N qual (aI st) f cdv A outer s H E).Lo (cO st) t/\t { nx:=fun _ H'=>Q .non H',rt:=Q } (start N vs) H):Md P w K mg base (k+1) ps sp f :=
 ⟨fd,(t.fn.ok S len hbody).up,.all t.bd⟩
end
section
variable {X:Cx}{Ex:XS}{k j:Nat}{f C:Addr}{ps:List Str}{sp:Sp}{x m:Str}{p pos apos:Pos}{e o:Expr}{es:List Expr}{ta:TE}{t:TA}
def HV (K:qAc) (MO:Addr->Sp->Prop) (m:Str) (Ex:XS) (ta:TE) (t:TA):TE:=fun σ H Q=>ta σ H fun x H1=>∃a C dx fs g sp,x = .ref a/\H1 a=some (.ins C dx fs)/\fs.lookup m=none/\Eb K C/\Meth K C m g/\MO g sp /\
 t σ H1 fun vs H2=>sp (x::vs) H2 Q fun c _ H'=>Ex c σ H'
theorem gF {pl:Sem Bool} (R:Pass X Ex) (he:PE X o ta) (hr:dY j X.A) (hj:k<=j) (ha:PA X (e::es) t)
  (hst:qBt (e::es) X.env=(false,eval e X.env)::qBt es X.env:=by rfl) (hpl:(qGu pos (qBt es X.env)).any (·.1)=false:=by rfl)
  (ht:eval (.Call (.Attribute o m apos) (e::es) [] pos) X.env=(do
   let ov <- eval o X.env
   standAt apos.atName
   let (f,first) <- qLo [ov] (getMethod ov m pl)
   callWith pos f first (qGu pos (qBt (e::es) X.env)) (backToKw pos (keywordEach [] X.env))):=by rfl) :
  PE X (.Call (.Attribute o m apos) (e::es) [] pos) (HV X.K (fun g sp=>∃ps,Md X.prog X.w X.K X.mg X.base k ps sp g) m Ex ta t):=by
 intro pins s σ H Q I h;refine PySem.W.methodCall_KW (pl:=pl) (cB (he pins s σ H _ I h) fun u s1 ⟨x,H1,I1,rx,a,C,dx,fs,g,sp,ex,ea,l,c,hm,⟨ps,F⟩,q⟩=>?_) ht;subst ex;obtain rfl:u=Value.ref a:=rx;obtain⟨fd,F,hb⟩:=F.ex;refine wG I1 ea c hm l ?_;refine qGm (first:=[.ref a]) (h₀:=X.base) I.ok.mod.Hj hm.kp (cB (ha pos pins s1 σ H1 _ I1 q) fun us s2 ⟨vs,H2,I2,r,q2⟩=>⟨I2.vX,?_⟩) hst hpl;exact yM (us:=.ref a::us) (vs:=.ref a::vs) R F (hr.mono hj) hb .nil I2 (.cons rfl r) (by rw[qDp];exact q2)
def HW (C:Addr) (sp:Sp) (Ex:XS) (t:TA):TE:=fun σ H Q=>t σ H fun vs H1=>∀x dx,H1 x=none->H1 dx=none->dx≠x ->
 sp (.ref x::vs) (upd (upd H1 dx (.own x)) x (.ins C dx [])) (fun v H2=>v = .non/\Q (.ref x) H2) fun c _ H'=>Ex c σ H'
theorem Aq {fd:qBk}{pins:List (Addr×Obj)}{σ:St}{H:Hp}{s:qAh}{Q:VK}{us:List qAf}{vs:List V} (R:Pass X Ex) (M:Mk X.K C f) (F:i4 X.prog X.w X.K X.mg X.base (g6 X.prog X.w) k f fd ps sp) (hr:dY (k+1) X.A) (hb:Binds X.K fd ps [])
  (I:Inv X pins σ H s) (r:Vals vs us)
  (h:∀x dx,H x=none->H dx=none->dx≠x->sp (.ref x::vs) (upd (upd H dx (.own x)) x (.ins C dx [])) (fun v H2=>v = .non/\Q (.ref x) H2) fun c _ H'=>Ex c σ H') :
  qBg (qBz X.prog X.w) X.A (call (.ref C) us) (EP X pins σ Q) X.xe s:=by
 have hq:=h (s.heap.objs.size+1) s.heap.objs.size (I.cH.fresh (qEz _)) (I.cH.fresh (qAg _)) (qBd (qGi _));have I2:=Inv.made (C:=C) I;have r2:Vals (V.ref (s.heap.objs.size+1)::vs) (Value.ref (s.heap.objs.size+1)::us):=.cons rfl r;have hl:(Value.ref (s.heap.objs.size+1)::us).length=ps.length:=by
  have e:=r2.length;rw[F.len _ _ _ _ hq] at e;exact e.symm
 have hb2:=hb { s with heap:=(s.heap.push qDl).push (qEe C s.heap.objs.size) } (Value.ref (s.heap.objs.size+1)::us) I2.vX (by rw[qDp];exact hl);rw[qDp] at hb2;refine qJb (Bw (f:=f) I.vX M.makes M.init (beq_iff_eq.mp M.fn) (qFz (F.run _ X.stack _ _ ⟨Value.ref (s.heap.objs.size+1)::us,[]⟩ (Value.ref (s.heap.objs.size+1)::us) _ _ _ (hr.make C us [])
  (I2.HB.make C us []) hb2 r2 hq) fun r s' hq'=>?_))
 cases r with
 | error ev =>
  obtain⟨e,C',H',rfl,Fl,q⟩:=hq';exact R.on pins σ _ _ e C' H' s' I2 Fl q
 | ok fl =>
  cases fl with
  | ret u =>
   obtain⟨v,H',I3,rv,ev,q3⟩:=I2.after hq';subst ev;exact⟨rv,⟨V.ref (s.heap.objs.size+1),H',I3,rfl,q3⟩⟩
  | next=>exact False.elim hq'
  | brk=>exact False.elim hq'
  | cont=>exact False.elim hq'
theorem BQ (R:Pass X Ex) (M:Mk X.K C f) (F:Md X.prog X.w X.K X.mg X.base k ps sp f) (hr:dY j X.A) (hj:k+1<=j) (hg:Gl X x) (hm:X.mg x=some (.ref C))
  (ha:PA X (e::es) t) (hdb:(x == ("__debug__":Str))=false:=by decide) (he:qBt (e::es) X.env=(false,eval e X.env)::qBt es X.env:=by rfl) (hpl:(qGu pos (qBt es X.env)).any (·.1)=false:=by rfl) :
  PE X (.Call (.Name x p) (e::es) [] pos) (HW C sp Ex t):=by
 intro pins s σ H Q I h;obtain⟨fd,F,hb⟩:=F.ex;refine qGc (kK I hg hm ?_ hdb);refine qGm (h₀:=X.base) I.ok.mod.Hj M.kp (cB (ha pos pins s σ H _ I h) fun us s1 ⟨vs,H1,I1,r,q⟩=>⟨I1.vX,?_⟩) he hpl;exact Aq R M F (hr.mono hj) hb I1 r q
end
structure Ol (K:qAc) (C:Addr):Prop where
 cl:Eb K C
 ca:qBa K (.ref C) "__class__"=some (some (.builtin "object.__class__"))
 cg:qEv K (.builtin "object.__class__") "__get__"=some (some (.builtin "getset_descriptor.__get__"))
 ct:qFn K (.builtin "object.__class__")=some true
 mo:qDw K C (.type "object")=some true
section
variable {X:Cx}
theorem hZ (hh:X.calm=true):gA X (.builtin "sum") (fun xs H Q=>∃(p:Addr) (ns:List Int),xs=[.ref p]/\(aT X.K H p (ns.map V.int)\/cQ X.K H p (ns.map V.int))/\Q (.int ns.sum) H):=by
 intro pins s σ H xs us Q I r h;obtain⟨p,ns,rfl,hq,q⟩:=h;obtain⟨u,rfl,rx⟩:=vals1 r;cases rx;rcases hq with hq | hq
 ·obtain⟨its,r',pl,hz⟩:=I.list hq;have hi:=intsAre_of r';obtain⟨xs,hx⟩:=hi.allInts.items;have hl':s.heap.IsList p (intItems xs):=hx▸pl.isList;refine sum_intListG (I.ok.hd hh) hl' fun h' tk t' hk=>?_;have e1:ns=xs.toList.map (·.1):=by
   rw[<- nums_intItems,<- hx];exact(show numsOf its.toArray.toList=ns from hi.numsOf).symm
  have e2:preSum (numAt xs) xs.size=ns.sum:=by
   rw[preSum_eq,qEt (by simp),e1]
  rw[e2];exact⟨.int ns.sum,H,I.kept (t':=tk) hk,⟨_,rfl⟩,q⟩
 ·obtain⟨its,r',pl,hz⟩:=I.tuple hq;have hi:=intsAre_of r';obtain⟨xs,hx⟩:=hi.allInts.items;have hl':s.heap.IsTuple p (intItems xs):=hx▸pl;refine PySem.W.ktm_sumG (I.ok.hd hh) hl' fun h' tk t' hk=>?_;have e1:ns=xs.toList.map (·.1):=by
   rw[<- nums_intItems,<- hx];exact(show numsOf its.toArray.toList=ns from hi.numsOf).symm
  have e2:preSum (numAt xs) xs.size=ns.sum:=by
   rw[preSum_eq,qEt (by simp),e1]
  rw[e2];exact⟨.int ns.sum,H,I.kept (t':=tk) hk,⟨_,rfl⟩,q⟩
theorem mW {bs:List Bool}:∀{us:List qAf},Vals (bs.map V.bl) us->LSm.BoolsAre us bs:=by
 induction bs with
 | nil=>intro us h;cases h;exact .nil
 | cons b bs ih =>
  intro us h;cases h with
  | cons r t=>cases r;exact .cons b (ih t)
theorem kT (hh:X.calm=true):gA X (.builtin "all") (fun xs H Q=>∃(p:Addr) (bs:List Bool),xs=[.ref p]/\aT X.K H p (bs.map V.bl)/\Q (.bl (bs.all id)) H):=by
 intro pins s σ H xs us Q I r h;obtain⟨p,bs,rfl,hq,q⟩:=h;obtain⟨u,rfl,rx⟩:=vals1 r;cases rx;obtain⟨its,r',pl,hz⟩:=I.list hq;have hb:=mW r';have hl:=pl.isList;have hlt:p<s.heap.objs.size:=by obtain⟨_,e,_⟩:=hl;exact qAr e
 refine call_all_walk (qHv hl ?_);refine⟨s.heap.objs.size,[s.heap.objs.size,p],[s.heap.objs.size],its.toArray.size,_,_,fun i=>(bs[i]?).getD true,rfl,Walks.list (A:=X.A.in1) (I.ok.hd hh) _ p (qBd hlt) its.toArray,
  ⟨⟨_,qAs _ rfl,rfl,rfl⟩,hl.push _⟩,fun i v s' Q' E' hP hQ=>?_,fun h' tk hk=>?_⟩
 ·obtain⟨b,e,rfl⟩:=hb.get i v (by simpa using hP);simp only[e,qMs] at hQ;exact qDo hQ
 ·have e:((qAl its.toArray.size).all fun i=>(bs[i]?).getD true)=bs.all id:=by
   rw[qAv,hb.length];exact LSm.range_all bs
  rw[e];exact⟨.bl _,H,I.kept (t':=tk) (LSm.kept_iter hk),rfl,q⟩
theorem BR (hh:X.calm=true):gA X (.builtin "any") (fun xs H Q=>∃(p:Addr) (bs:List Bool),xs=[.ref p]/\aT X.K H p (bs.map V.bl)/\Q (.bl (bs.any id)) H):=by
 intro pins s σ H xs us Q I r h;obtain⟨p,bs,rfl,hq,q⟩:=h;obtain⟨u,rfl,rx⟩:=vals1 r;cases rx;obtain⟨its,r',pl,hz⟩:=I.list hq;have hb:=mW r';have hl:=pl.isList;have hlt:p<s.heap.objs.size:=by obtain⟨_,e,_⟩:=hl;exact qAr e
 refine call_any_walk (qHv hl ?_);refine⟨s.heap.objs.size,[s.heap.objs.size,p],[s.heap.objs.size],its.toArray.size,_,_,fun i=>(bs[i]?).getD false,rfl,Walks.list (A:=X.A.in1) (I.ok.hd hh) _ p (qBd hlt) its.toArray,
  ⟨⟨_,qAs _ rfl,rfl,rfl⟩,hl.push _⟩,fun i v s' Q' E' hP hQ=>?_,fun h' tk hk=>?_⟩
 ·obtain⟨b,e,rfl⟩:=hb.get i v (by simpa using hP);simp only[e,qMs] at hQ;exact qDo hQ
 ·have e:((qAl its.toArray.size).any fun i=>(bs[i]?).getD false)=bs.any id:=by
   rw[qAv,hb.length];exact LSm.range_any bs
  rw[e];exact⟨.bl _,H,I.kept (t':=tk) (LSm.kept_iter hk),rfl,q⟩
theorem mC:qCo "sum"=some (.builtin "sum"):=by decide +kernel
theorem rV:qCo "all"=some (.builtin "all"):=by decide +kernel
theorem HX:qCo "any"=some (.builtin "any"):=by decide +kernel
def ED (K:qAc):V->List V->Hp->VK->Prop:=fun x vs H Q=>∃(p:Addr) (ns:List Int) (i:Int) (j:Nat),x = .ref p/\vs=[.int i]/\cQ K H p (ns.map V.int)/\ns[j]?=some i/\(∀m,m<j->ns[m]?≠some i)/\Q (.int (j:Nat)) H
def Pw (i:Int) (u:qAf):Bool:=match u with
 | .int k _=>k == i
 | _=>false
theorem j9:Lq X "list.append" yJ:=mB
theorem BS:Lq X "tuple.index" (ED X.K):=by
 intro pins s σ H x vs v us Q I rx rv h;obtain⟨p,ns,i,j,rfl,rfl,hq,hj,hno,q⟩:=h;cases rx;obtain⟨u,rfl,ru⟩:=rv.one;obtain⟨t,rfl⟩:=(show ∃t,u=Value.int i t from ru);obtain⟨its,r',pl,hz⟩:=I.tuple hq;have hi:=intsAre_of r';obtain⟨⟨oc,od,odt,osl⟩,h1,h2,n,h3⟩:=id pl;dsimp only at h2 h3;subst h2 h3;have at_:∀(m:Nat) (k:Int),ns[m]?=some k->∃t,its[m]?=some (.int k t):=fun m k hm=>by
  obtain⟨u,hu,ru⟩:=r'.get (i:=m) (x:=.int k) (by rw[qAp,hm];rfl);obtain⟨t,rfl⟩:=(show ∃t,u=Value.int k t from ru);exact⟨t,hu⟩
 have hl:=r'.length;rw[qAb] at hl;obtain⟨t1,ht1⟩:=at_ j i hj;have hjl:j<its.length:=by
  rcases qAk j its.length with z | z
  ·exact z
  ·rw[qBn z] at ht1;cases ht1
 refine qJc F.slot_tuple_index ⟨_,h1,rfl⟩ F.entry_tuple_index (F.args_tuple_index_2 _ _) (SeqAt.pU p its.toArray n od osl (.int i t) (Pw i) j (by simpa using hjl) ?_ fun m hm hmj=>?_) ⟨h1,fun y hy=>?_,?_⟩
 ·have e:its.toArray[j]'(by simpa using hjl) = .int i t1:=by
   have:=qAd hjl;rw[ht1] at this;simpa using (Option.some.inj this).symm
  rw[e];show(i == i)=true;simp
 ·have hml:m<its.length:=by simpa using hm
  have hmn:m<ns.length:=by omega
  obtain⟨t2,ht2⟩:=at_ m _ (qAd hmn);have e:its.toArray[m]'hm = .int ns[m] t2:=by
   have:=qAd hml;rw[ht2] at this;simpa using (Option.some.inj this).symm
  rw[e];show(ns[m] == i)=false;rw[beq_eq_false_iff_ne];intro z;exact hno m hmj (by rw[qAd hmn,z])
 ·have hy':y∈its:=by simpa using hy
  obtain⟨m,hm,e⟩:=qCy hy';have hmn:m<ns.length:=by omega
  obtain⟨t2,ht2⟩:=at_ m _ (qAd hmn);rw[qAd hm,e] at ht2;obtain rfl:y = .int ns[m] t2:=Option.some.inj ht2;exact SeqAt.EqAt.int_int _ _ _ _
 ·exact⟨.int (j:Nat),H,I.tok _,⟨_,rfl⟩,q⟩
mutual
inductive Dat (K:qAc) (H:Hp):V->qGv->Prop
 | int (i:Int):Dat K H (.int i) (.int i)
 | lst {p:Addr}{xs:List V}{ds:List qGv}:aT K H p xs->DatAll K H xs ds->Dat K H (.ref p) (.list ds)
 | tup {p:Addr}{xs:List V}{ds:List qGv}:cQ K H p xs->DatAll K H xs ds->Dat K H (.ref p) (.tuple ds)
inductive DatAll (K:qAc) (H:Hp):List V->List qGv->Prop
 | nil:DatAll K H [] []
 | cons {x:V}{d:qGv}{xs:List V}{ds:List qGv}:Dat K H x d->DatAll K H xs ds->DatAll K H (x::xs) (d::ds)
end
end
theorem kU {prog:qBl}{w:qCw}{A:qCq}{E:qAf->qAh->Prop}{s:qAh}{t sl:Addr}{items:Array qAf}{vl vu:qAf}{lo hi:Option Int}{Q:qAf->qAh->Prop} (ht:IsTup s.heap t items) (hs:s.heap.IsSliceOf sl vl vu .none) (pl:qKw vl lo) (pu:qKw vu hi)
  (h0:HT.eM items.size 0 lo=0) (h1:HT.eM items.size items.size hi=items.size)
  (h:Q (.ref t) s):qBg (qBz prog w) A (qIi (.ref t) (.ref sl)) Q E s:=by
 obtain⟨os,hos,hcs,hds⟩:=id hs;have hTs:s.TypeIs (.ref sl) "slice":=⟨os,hos,hcs⟩;unfold qIi;try with_reducible refine qDi ?_
 first | refine qAa (qAe ?_) | skip
 refine qAa (wpAny_sequenceKey ht.typeIs (by decide) ?_);refine qAa (qEf (name:=Str.ofString "__getitem__") ht.typeIs qEg
  (qEa qEg ht.typeIs entry_tuple_getitem ?_ (args_tuple_getitem _ _)))
 show qBg _ _ (Builtin.Tuple.tupleItemsOf (.ref t) >>= _) _ _ s;refine qAa (tupleItemsOf_ ht ?_);refine qAa (qHp hTs ?_);rw[if_pos (by decide)];refine qAa (HT.hV hs pl pu ?_);have hy:(((HT.eM items.size 0 lo:Nat):Int) == 0&&(1:Int) == 1&&(HT.eM items.size items.size hi-HT.eM items.size 0 lo) == items.size)=true:=by
  rw[h0,h1];simp
 show qBg _ _ (if (((HT.eM items.size 0 lo:Nat):Int) == 0&&(1:Int) == 1&&(HT.eM items.size items.size hi-HT.eM items.size 0 lo) == items.size)=true then _ else _) _ _ s;rw[if_pos hy];refine qAa (m:=Builtin.Tuple.tupleIsExact (.ref t)) ?_;unfold Builtin.Tuple.tupleIsExact;refine qAa (qHp ht.typeIs (qAe ?_));rw[if_pos (by decide)];first
  | exact qAa (qGj (qAe ⟨_,rfl,qAe h⟩))
  | exact qAa (qGj (qAa (qAe (qAe ⟨_,rfl,qAe h⟩))))
def Om (K:qAc):V->Option Int->Option Int->Hp->VK->Prop:=fun x lo hi H Q=>∃a xs,x = .ref a/\cQ K H a xs/\∀p H',aG H H'->cQ K H' p (gQ xs lo hi)->Q (.ref p) H'
theorem yT {X:Cx}:LU X (Om X.K):=by
 intro pins s σ H x v vl vu lo hi sl Q I rx hs pl pu h;obtain⟨a,xs,rfl,hx,q⟩:=h;by_cases hw:HT.eM xs.length 0 lo=0/\HT.eM xs.length xs.length hi=xs.length
 ·cases rx
  obtain⟨its,r,ht,hz⟩:=I.tuple hx;have hlen:its.toArray.size=xs.length:=by rw[qAv];exact r.length.symm
  refine⟨"tuple",_,PyProof.Rows.slot_tuple_getitem.lookup,ht.typeIs,?_⟩;refine kU ht hs pl pu (by rw[hlen];exact hw.1) (by rw[hlen];exact hw.2) ⟨.ref a,H,I,rfl,q a H (.refl H) ?_⟩;unfold gQ;rw[hw.1,hw.2,qOh,qPj,qEh];exact hx
 ·exact HF pins s σ H (.ref a) v vl vu lo hi sl Q I rx hs pl pu ⟨a,xs,rfl,hx,hw,fun p hp=>q p _ (.aF hp) (cQ.of aC)⟩
section
variable {K:qAc}{a:Addr}{xs:List V}{σ0:St}{H1:Hp}{i0:Nat}{c:TT}{te:TE}{Q:Addr->Hp->Prop}
theorem cM (f:Nat->V->Option V) (hq:aT K H1 a xs) (hn:xs.length<=qAj)
  (step:∀(i:Nat) (x:V) (H2:Hp) (k:VK) (k0:Hp->Prop),aG H1 H2->xs[i]?=some x->(∀y,f i x=some y->∀H3,aG H2 H3->k y H3)->(f i x=none->∀H3,aG H2 H3->k0 H3) ->
   c (σ0.set i0 (some x)) H2 fun b H4=>if b=true then te (σ0.set i0 (some x)) H4 k else k0 H4)
  (h:∀D H2,H1 D=none->aG H1 H2->H2 D=some (.lst ((qAl xs.length).filterMap fun i=>(xs[i]?).bind (f i)))->Q D H2) :
  ∀D,H1 D=none->∃W:Nat->Nat->St->Hp->Prop,(∃m,W 0 m σ0 (upd H1 D (.lst [])))/\∀i m σ1 H2,W i m σ1 H2 ->
   ((yA K a).stop i H2/\Q D H2)\/((yA K a).go i H2/\∃N:St->Hp->Prop,(∀σ' H',N σ' H'->∃m',m'<m/\W (i+1) m' σ' H') /\
    ∀x H',(yA K a).pR i H2 x H'->aX i0 x σ1 H' fun σ2 H3=>c σ2 H3 fun b H4=>if b=true then te σ2 H4 fun y H5=>∃xs,H5 D=some (.lst xs)/\xs.length<qAj/\N σ2 (upd H5 D (.lst (xs++[y]))) else N σ2 H4):=by
 intro D hD;refine⟨fun i m σ1 H2=>σ1.set i0 none=σ0.set i0 none/\aG H1 H2/\H2 D=some (.lst ((qAl i).filterMap fun i=>(xs[i]?).bind (f i)))/\i<=xs.length/\m=xs.length-i,⟨xs.length,rfl,.aF hD,aC,qBr _,rfl⟩,?_⟩;rintro i m σ1 H2 ⟨hσ,hs,hd,hi,rfl⟩;have hset:∀v:Option V,σ1.set i0 v=σ0.set i0 v:=fun v=>by
  have z:=congrArg (fun l=>qHn l i0 v) hσ;simpa using z
 rcases qAk i xs.length with hlt | hge
 ·right
  refine⟨⟨xs,xs[i],hs.seq hq,by simp[hlt]⟩,fun σ' H'=>σ'.set i0 none=σ0.set i0 none/\aG H1 H'/\H' D=some (.lst ((qAl (i+1)).filterMap fun i=>(xs[i]?).bind (f i))),fun σ' H' ⟨a,b,c⟩=>⟨xs.length-(i+1),by omega,a,b,c,hlt,rfl⟩,?_⟩;rintro x H' ⟨rfl,hx⟩;have hx:=hx xs (hs.seq hq);show c (σ1.set i0 (some x)) _ _;rw[hset];refine step i x _ _ _ hs hx (fun y hy H3 hs3=>⟨_,hs3 _ _ hd,?_,?_,?_,?_⟩) fun hno H3 hs3=>⟨?_,hs.trans hs3,?_⟩
  ·refine qBq (qEp _ _) ?_;rw[qAw];omega
  ·simp
  ·refine(hs.trans hs3).upd_ne' hD
  ·rw[aC,qBm,qCd];simp[hx,hy]
  ·simp
  ·rw[hs3 _ _ hd,qBm,qCd];simp[hx,hno]
 ·left
  obtain rfl:i=xs.length:=qCt hi hge;exact⟨⟨xs,hs.seq hq,qAg _⟩,h D _ hD hs hd⟩
end
section
variable {X:Cx}
end
section
variable {K:qAc}{lo:Int}{n:Nat}{σ0:St}{H1:Hp}{i0:Nat}{c:TT}{te:TE}{Q:Addr->Hp->Prop}
theorem gG (f:Nat->Option V) (hn:n<=qAj)
  (step:∀(i:Nat) (H2:Hp) (k:VK) (k0:Hp->Prop),aG H1 H2->i<n->(∀y,f i=some y->∀H3,aG H2 H3->k y H3)->(f i=none->∀H3,aG H2 H3->k0 H3) ->
   c (σ0.set i0 (some (.int (lo+(i:Int))))) H2 fun b H4=>if b=true then te (σ0.set i0 (some (.int (lo+(i:Int))))) H4 k else k0 H4)
  (h:∀D H2,H1 D=none->aG H1 H2->H2 D=some (.lst ((qAl n).filterMap f))->Q D H2) :
  ∀D,H1 D=none->∃W:Nat->Nat->St->Hp->Prop,(∃m,W 0 m σ0 (upd H1 D (.lst [])))/\∀i m σ1 H2,W i m σ1 H2 ->
   ((pO lo n).stop i H2/\Q D H2)\/((pO lo n).go i H2/\∃N:St->Hp->Prop,(∀σ' H',N σ' H'->∃m',m'<m/\W (i+1) m' σ' H') /\
    ∀x H',(pO lo n).pR i H2 x H'->aX i0 x σ1 H' fun σ2 H3=>c σ2 H3 fun b H4=>if b=true then te σ2 H4 fun y H5=>∃xs,H5 D=some (.lst xs)/\xs.length<qAj/\N σ2 (upd H5 D (.lst (xs++[y]))) else N σ2 H4):=by
 intro D hD;refine⟨fun i m σ1 H2=>σ1.set i0 none=σ0.set i0 none/\aG H1 H2/\H2 D=some (.lst ((qAl i).filterMap f))/\i<=n/\m=n-i,⟨n,rfl,.aF hD,aC,qBr _,rfl⟩,?_⟩;rintro i m σ1 H2 ⟨hσ,hs,hd,hi,rfl⟩;have hset:∀v:Option V,σ1.set i0 v=σ0.set i0 v:=fun v=>by
  have z:=congrArg (fun l=>qHn l i0 v) hσ;simpa using z
 rcases qAk i n with hlt | hge
 ·right
  refine⟨hlt,fun σ' H'=>σ'.set i0 none=σ0.set i0 none/\aG H1 H'/\H' D=some (.lst ((qAl (i+1)).filterMap f)),fun σ' H' ⟨a,b,c⟩=>⟨n-(i+1),by omega,a,b,c,hlt,rfl⟩,?_⟩;rintro x H' ⟨rfl,rfl⟩;show c (σ1.set i0 (some (.int (lo+(i:Int))))) _ _;rw[hset];refine step i _ _ _ hs hlt (fun y hy H3 hs3=>⟨_,hs3 _ _ hd,?_,?_,?_,?_⟩) fun hno H3 hs3=>⟨?_,hs.trans hs3,?_⟩
  ·refine qBq (qEp _ _) ?_;rw[qAw];omega
  ·simp
  ·exact(hs.trans hs3).upd_ne' hD
  ·rw[aC,qBm,qCd];simp[hy]
  ·simp
  ·rw[hs3 _ _ hd,qBm,qCd];simp[hno]
 ·left
  obtain rfl:i=n:=qCt hi hge;exact⟨qAg _,h D _ hD hs hd⟩
end
section
variable {X:Cx}
theorem Ar (K:qAc) (hh:X.calm=true) (h:X.K=K:=by rfl):gA X (.builtin "sum") (fun xs H Q=>∃(p:Addr) (ns:List Int),xs=[.ref p]/\(aT K H p (ns.map V.int)\/cQ K H p (ns.map V.int))/\Q (.int ns.sum) H):=by
 subst h;exact hZ hh
theorem BU:qCo "max"=some (.builtin "max"):=by decide +kernel
end
def FX (K:qAc) (l:Addr):It :=
  ⟨fun i H=>∃xs x,aT K H l xs/\xs[i]?=some x,
   fun i H v H'=>∃t x,v = .ref t/\H t=none/\H'=upd H t (.tup [.int (i:Int),x])/\∀xs,aT K H l xs->xs[i]?=some x,
   fun i H=>∃xs,aT K H l xs/\xs.length<=i⟩
def HY (e it l:Addr) (i:Nat) (h:Heap):Prop:=(∃old,IsEnum h e it (i:Int) old)/\h.IsListIter it l i
theorem As {P:qBl}{w:qCw}{K:qAc}{elts:List Expr} {x1}{pos:Pos}{e it l:Addr} (hne:e≠it) :
  Turn P w K (.Tuple elts x1 pos) (FX K l) [e,it] e (HY e it l) where
 mem:=by simp
 obj:=fun i h ⟨⟨old,he⟩,⟨o,ho,_,d⟩⟩ b hb=>by
  simp only[qEb,qDa,or_false] at hb;rcases hb with rfl | rfl
  ·exact⟨_,he,fun v q=>nomatch q⟩
  ·exact⟨_,ho,fun v q=>by rw[d] at q;cases q⟩
 keep:=fun i h h' ⟨⟨old,he⟩,h1⟩ k=>⟨⟨old,k e (by simp) _ he⟩,h1.at fun o q=>k it (by simp) o q⟩
 item:=by
  intro X hP hw hK hc i pins s σ H E I hf st hg;subst hP hw hK;obtain⟨⟨old,he⟩,h1⟩:=st;obtain⟨xs,x,q1,hx⟩:=hg;obtain⟨its1,r1,p1,z1⟩:=I.list q1;obtain⟨u,hu,ru⟩:=r1.get hx;refine wpAny_pyNext_enum_item he h1 p1.isList (by simpa using hu) hne fun h' a1 a2 a3 a4 a5=>⟨_,rfl,?_⟩;refine wpAny_letOwnedTupleGo_enum a1 fun h'' b1 hs=>?_;have lt:∀c o,s.heap.get? c=some o->c≠s.heap.objs.size:=fun c o e=>qBd (qAr e);have lte:s.heap.objs.size≠e:=(lt e _ he).symm;have I1:Inv X pins σ H { s with heap:=h'',toks:=s.toks+1 }:=I.nP (t':=s.toks+1) (fun c o hb e=>(hs.2 c (fun q=>hb (by simp[q]))).trans (a5 c o (fun q=>hb (by simp[q])) (fun q=>hb (by simp[q])) e)) hf;have ht:h''.get? s.heap.objs.size=some { cls:=.type "tuple",data:=.seq #[.int i s.toks,u] }:=(hs.2 _ lte).trans a3;have hn:H s.heap.objs.size=none:=I.cH.fresh (qAg _);have I2:Inv X pins σ (upd H s.heap.objs.size (.tup [.int (i:Int),x])) { s with heap:=h'',toks:=s.toks+1 }:=by
   refine I1.FU hn (qIm I.sz) (qBd I.lt).symm (fun y c q=>?_) (fun p hp=>?_) (I.Hl (qAg _)) ⟨lS,[.int i s.toks,u],.cons ⟨_,rfl⟩ (.cons ru .nil),_,ht,rfl,_,rfl⟩
   ·obtain⟨_,o,ho,_⟩:=I.cell y c q;exact lt c o ho
   ·exact lt _ _ (I.pin p hp).1
  refine⟨.ref s.heap.objs.size,_,I2,rfl,⟨_,x,rfl,hn,rfl,fun xs' q=>?_⟩,⟨⟨u,?_⟩,a2.at fun o e=>(hs.2 _ hne.symm).trans e⟩,fun c hb=>?_⟩
  ·rw[I.iV q q1];exact hx
  ·rw[show((i+1:Nat):Int)=(i:Int)+1 by push_cast;rfl];exact b1
  ·obtain⟨o,ho,_⟩:∃o,s.heap.get? c=some o/\True:=by
    simp only[qEb,qDa,or_false] at hb;rcases hb with rfl | rfl
    ·exact⟨_,he,trivial⟩
    ·obtain⟨o,ho,_⟩:=h1;exact⟨o,ho,trivial⟩
   rw[aM (lt c o ho)];exact(hf c hb).1
 done:=by
  intro X hP hw hK hc i pins s σ H E I hf st hg;subst hP hw hK;obtain⟨⟨old,he⟩,h1⟩:=st;obtain⟨xs,q1,hend⟩:=hg;obtain⟨its1,r1,p1,z1⟩:=I.list q1;have e1:=r1.length;exact wpAny_pyNext_enum_end (I.ok.hd hc) he h1 p1.isList (by simp;omega) fun h' k=>⟨rfl,I.nP (t':=s.toks) (fun c o hb e=>k c o (fun q=>hb (by simp[q])) e) hf⟩
 self:=fun _ _ _ _ _ ⟨⟨_,he⟩,_⟩ h=>wpAny_pyIter_enum he h
def Mj (K:qAc) (ta:TA):TI:=fun σ H R=>ta σ H fun vs H1=>∃l,vs=[.ref l]/\(∃xs,aT K H1 l xs)/\R (FX K l) H1
theorem EE:qCo "enumerate"=some (.type "enumerate"):=by decide +kernel
theorem nQ {X:Cx}{elts:List Expr} {x1}{tpos:Pos}{a:Expr}{ta:TA}{p pos:Pos} (hg:Gl X "enumerate") (hm:X.mg "enumerate"=none) (ha:PA X [a] ta) (hs:qBt [a] X.env=[(false,eval a X.env)]:=by rfl) :
  PI X (.Tuple elts x1 tpos) (.Call (.Name "enumerate" p) [a] [] pos) (Mj X.K ta):=by
 intro pins s σ H R I h;refine qNy (fE I hg hm EE (qCb (cB (ha pos pins s σ H _ I h) fun us s1 ⟨vs,H1,I1,r1,q1⟩=>?_) hs rfl));obtain⟨l,e,⟨xs,q1⟩,q⟩:=q1;subst e;obtain⟨u,rfl,ru⟩:=vals1 r1;cases (show u=Value.ref l from ru);obtain⟨its1,r1,p1,z1⟩:=I1.list q1;refine call_enumerate_list p1.isList fun h' hE hI hsz hk=>?_;refine wpAny_pyIter_enum hE ?_;have I2:Inv X pins σ H1 { s1 with heap:=h' }:=I1.kept (t':=s1.toks) hk;refine⟨_,[s1.heap.objs.size+1,s1.heap.objs.size],_,_,H1,rfl,I2,As (qOa _),⟨⟨_,hE⟩,hI⟩,fun c hc=>?_,q⟩;have hge:s1.heap.objs.size<=c:=by
  simp only[qEb,qDa,or_false] at hc;rcases hc with h | h
  all_goals first | (rw[h];exact qJw _ _) | exact qIc h.symm
 have:=I1.Ac (H':=H1) hge (I1.cH.fresh hge);exact this
theorem uE {K:qAc}{l:Addr}{xs:List V}{g:TG}{tb:TS}{D:Ends}{σ:St}{H:Hp} (Pv:Nat->St->Hp->Prop) (h0:Pv 0 σ H) (hl:∀i σ H,i<=xs.length->Pv i σ H->aT K H l xs)
  (hs:∀i x t σ H,xs[i]?=some x->H t=none->Pv i σ H->g (.ref t) σ (upd H t (.tup [.int (i:Int),x])) fun σ2 H2=>tb { D with nx:=Pv (i+1),ct:=Pv (i+1),bk:=D.nx } σ2 H2) (hd:∀σ H,Pv xs.length σ H->D.nx σ H) :
  ∃W:Nat->Nat->St->Hp->Prop,(∃m,W 0 m σ H)/\∀i m σ H,W i m σ H ->
   ((FX K l).stop i H/\D.nx σ H)\/((FX K l).go i H/\∃N:St->Hp->Prop,(∀σ' H',N σ' H'->∃m',m'<m/\W (i+1) m' σ' H')/\∀x H',(FX K l).pR i H x H'->g x σ H' fun σ2 H2=>tb { D with nx:=N,ct:=N,bk:=D.nx } σ2 H2):=by
 refine⟨fun i m σ H=>Pv i σ H/\i<=xs.length/\m=xs.length-i,⟨_,h0,qBr _,rfl⟩,?_⟩;rintro i m σ H ⟨hp,hi,rfl⟩;have q1:=hl i σ H hi hp;rcases qAk i xs.length with hlt | hge
 ·right
  obtain⟨x,hx⟩:∃x,xs[i]?=some x:=⟨_,qAd hlt⟩;refine⟨⟨xs,x,q1,hx⟩,Pv (i+1),fun σ' H' h=>⟨_,qMu hlt (qGi _),h,hlt,rfl⟩,?_⟩;rintro v H' ⟨t,x',rfl,hn,rfl,e1⟩;have e1':=e1 xs q1;rw[hx] at e1';cases e1';exact hs i x t σ H hx hn hp
 ·left
  obtain rfl:i=xs.length:=qCt hi hge;exact⟨⟨xs,q1,qAg _⟩,hd σ H hp⟩
section
variable {K:qAc}{a a':Addr}{xs ys:List V}{σ0:St}{H1:Hp}{g:TG}{c:TT}{te:TE}{Q:Addr->Hp->Prop}
theorem oI (Ag:St->Prop) (f:Nat->V->Option V) (h0:Ag σ0) (hq:aT K H1 a xs) (hn:xs.length<=qAj)
  (step:∀(i:Nat) (x:V) (t:Addr) (σ1:St) (H2:Hp) (k:St->VK) (k0:St->Hp->Prop),Ag σ1->aG H1 H2->xs[i]?=some x->H2 t=some (.tup [.int (i:Int),x])->(∀σ2 y,Ag σ2->f i x=some y->∀H3,aG H2 H3->k σ2 y H3)->(∀σ2,Ag σ2->f i x=none->∀H3,aG H2 H3->k0 σ2 H3) ->
   g (.ref t) σ1 H2 fun σ2 H3=>c σ2 H3 fun b H4=>if b=true then te σ2 H4 (k σ2) else k0 σ2 H4)
  (h:∀D H2,H1 D=none->aG H1 H2->H2 D=some (.lst ((qAl xs.length).filterMap fun i=>(xs[i]?).bind (f i)))->Q D H2) :
  ∀D,H1 D=none->∃W:Nat->Nat->St->Hp->Prop,(∃m,W 0 m σ0 (upd H1 D (.lst [])))/\∀i m σ1 H2,W i m σ1 H2 ->
   ((FX K a).stop i H2/\Q D H2)\/((FX K a).go i H2/\∃N:St->Hp->Prop,(∀σ' H',N σ' H'->∃m',m'<m/\W (i+1) m' σ' H') /\
    ∀x H',(FX K a).pR i H2 x H'->g x σ1 H' fun σ2 H3=>c σ2 H3 fun b H4=>if b=true then te σ2 H4 fun y H5=>∃xs,H5 D=some (.lst xs)/\xs.length<qAj/\N σ2 (upd H5 D (.lst (xs++[y]))) else N σ2 H4):=by
 intro D hD;refine⟨fun i m σ1 H2=>Ag σ1/\aG H1 H2/\H2 D=some (.lst ((qAl i).filterMap fun i=>(xs[i]?).bind (f i)))/\i<=xs.length/\m=xs.length-i,⟨xs.length,h0,.aF hD,aC,qBr _,rfl⟩,?_⟩;rintro i m σ1 H2 ⟨hσ,hs,hd,hi,rfl⟩;rcases qAk i xs.length with hlt | hge
 ·right
  refine⟨⟨xs,xs[i],hs.seq hq,by simp[hlt]⟩,fun σ' H'=>Ag σ'/\aG H1 H'/\H' D=some (.lst ((qAl (i+1)).filterMap fun i=>(xs[i]?).bind (f i))),fun σ' H' ⟨a,b,c⟩=>⟨xs.length-(i+1),by omega,a,b,c,hlt,rfl⟩,?_⟩;rintro v H' ⟨t,x,rfl,ht,rfl,hx⟩;have hx:=hx xs (hs.seq hq);have hst:aG H1 (upd H2 t (.tup [.int (i:Int),x])):=hs.trans (.aF ht);have hdt:=aG.aF (o:=.tup [.int (i:Int),x]) ht _ _ hd;refine step i x t σ1 _ (fun σ2 y H5=>∃xs,H5 D=some (.lst xs)/\xs.length<qAj/\_) _ hσ hst hx aC (fun σ2 y a2 hy H3 hs3=>⟨_,hs3 _ _ hdt,?_,a2,?_,?_⟩) fun σ2 a2 hno H3 hs3=>⟨a2,hst.trans hs3,?_⟩
  ·refine qBq (qEp _ _) ?_;rw[qAw];omega
  ·exact(hst.trans hs3).upd_ne' hD
  ·rw[aC,qBm,qCd];simp[hx,hy]
  ·rw[hs3 _ _ hdt,qBm,qCd];simp[hx,hno]
 ·left
  obtain rfl:i=xs.length:=qCt hi hge;exact⟨⟨xs,hs.seq hq,qAg _⟩,h D _ hD hs hd⟩
theorem jG (Ag:St->Prop) (f:Nat->V->V->Option V) (h0:Ag σ0) (hq:aT K H1 a xs) (hq':aT K H1 a' ys) (hlen:xs.length=ys.length) (hn:xs.length<=qAj)
  (step:∀(i:Nat) (x y:V) (t:Addr) (σ1:St) (H2:Hp) (k:St->VK) (k0:St->Hp->Prop),Ag σ1->aG H1 H2->xs[i]?=some x->ys[i]?=some y->H2 t=some (.tup [x,y])->(∀σ2 z,Ag σ2->f i x y=some z->∀H3,aG H2 H3->k σ2 z H3)->(∀σ2,Ag σ2->f i x y=none->∀H3,aG H2 H3->k0 σ2 H3) ->
   g (.ref t) σ1 H2 fun σ2 H3=>c σ2 H3 fun b H4=>if b=true then te σ2 H4 (k σ2) else k0 σ2 H4)
  (h:∀D H2,H1 D=none->aG H1 H2->H2 D=some (.lst ((qAl xs.length).filterMap fun i=>(xs[i]?).bind fun x=>(ys[i]?).bind (f i x)))->Q D H2) :
  ∀D,H1 D=none->∃W:Nat->Nat->St->Hp->Prop,(∃m,W 0 m σ0 (upd H1 D (.lst [])))/\∀i m σ1 H2,W i m σ1 H2 ->
   ((yR K a a').stop i H2/\Q D H2)\/((yR K a a').go i H2/\∃N:St->Hp->Prop,(∀σ' H',N σ' H'->∃m',m'<m/\W (i+1) m' σ' H') /\
    ∀x H',(yR K a a').pR i H2 x H'->g x σ1 H' fun σ2 H3=>c σ2 H3 fun b H4=>if b=true then te σ2 H4 fun y H5=>∃xs,H5 D=some (.lst xs)/\xs.length<qAj/\N σ2 (upd H5 D (.lst (xs++[y]))) else N σ2 H4):=by
 intro D hD;refine⟨fun i m σ1 H2=>Ag σ1/\aG H1 H2/\H2 D=some (.lst ((qAl i).filterMap fun i=>(xs[i]?).bind fun x=>(ys[i]?).bind (f i x)))/\i<=xs.length/\m=xs.length-i,⟨xs.length,h0,.aF hD,aC,qBr _,rfl⟩,?_⟩;rintro i m σ1 H2 ⟨hσ,hs,hd,hi,rfl⟩;rcases qAk i xs.length with hlt | hge
 ·right
  have hlt':i<ys.length:=hlen▸hlt;refine⟨⟨xs,ys,xs[i],ys[i],hs.seq hq,hs.seq hq',by simp[hlt],by simp[hlt']⟩,fun σ' H'=>Ag σ'/\aG H1 H'/\H' D=some (.lst ((qAl (i+1)).filterMap fun i=>(xs[i]?).bind fun x=>(ys[i]?).bind (f i x))),fun σ' H' ⟨a,b,c⟩=>⟨xs.length-(i+1),by omega,a,b,c,hlt,rfl⟩,?_⟩;rintro v H' ⟨t,x,y,rfl,ht,rfl,hx,hy⟩;have hx:=hx xs (hs.seq hq);have hy:=hy ys (hs.seq hq');have hst:aG H1 (upd H2 t (.tup [x,y])):=hs.trans (.aF ht);have hdt:=aG.aF (o:=.tup [x,y]) ht _ _ hd;refine step i x y t σ1 _ (fun σ2 y H5=>∃xs,H5 D=some (.lst xs)/\xs.length<qAj/\_) _ hσ hst hx hy aC (fun σ2 z a2 hz H3 hs3=>⟨_,hs3 _ _ hdt,?_,a2,?_,?_⟩) fun σ2 a2 hno H3 hs3=>⟨a2,hst.trans hs3,?_⟩
  ·refine qBq (qEp _ _) ?_;rw[qAw];omega
  ·exact(hst.trans hs3).upd_ne' hD
  ·rw[aC,qBm,qCd];simp[hx,hy,hz]
  ·rw[hs3 _ _ hdt,qBm,qCd];simp[hx,hy,hno]
 ·left
  obtain rfl:i=xs.length:=qCt hi hge;exact⟨⟨xs,ys,hs.seq hq,hs.seq hq',.inl (qAg _)⟩,h D _ hD hs hd⟩
end
section
variable {X:Cx}
theorem BV (K:qAc){tg l:Expr}{tl:TE} (hl:PE X l tl) (h:X.K=K:=by rfl):PI X tg l (FN K tl):=by
 subst h;exact bO hl
end
section
variable {K:qAc}{a:Addr}{xs:List V}{lo:Int}{n:Nat}{σ0:St}{H1:Hp}{i0:Nat}{c:TT}{te:TE}{Q:Addr->Hp->Prop}
def kW (H H':Hp):Prop:=∀b xs,H b=some (.tup xs)->H' b=some (.tup xs)
theorem aG.t {H H':Hp} (s:aG H H'):kW H H':=fun _ _ e=>s _ _ e
theorem kW.lst {H:Hp}{D:Addr}{ys:List V}{o:HO} (h:H D=some (.lst ys)):kW H (upd H D o):=fun b xs e=>by
 rw[aM fun q=>by subst q;rw[h] at e;cases e];exact e
end
section
variable {X:Cx}{tg:Expr}
end
section
variable {X:Cx}{e c:Expr}{te:TE}{ts:TO}{pos p2:Pos}
end
def HZ (h:Heap) (vs:List qAf):Heap:=((h.push (qOy "list" #[] 0)).update h.objs.size (Obj.mapSeq (· ++ vs.toArray))).push (qOy "list" vs.toArray 0)
theorem kX:∀{xs:List V}{us:List qAf},xs.length=us.length->(∀(i:Nat) (x:V) (u:qAf),xs[i]?=some x->us[i]?=some u->RelV x u)->Vals xs us
 | [],[],_,_=>.nil
 | [],_::_,h,_=>by cases h
 | _::_,[],h,_=>by cases h
 | x::xs,u::us,h,a=>.cons (a 0 x u rfl rfl) (kX (by simpa using h) fun i x u e1 e2=>a (i+1) x u e1 e2)
theorem kY:∀{us:List qAf}{ns:List Int},qHt us ns->Vals (ns.map V.int) us
 | _,_,.nil=>.nil
 | _,_,.cons n t r=>.cons ⟨t,rfl⟩ (kY r)
section
variable {X:Cx}
theorem wU:qCo "sorted"=some (.builtin "sorted"):=by decide +kernel
end
section
variable {X:Cx}
mutual
inductive gR (K:qAc) (H:Hp):V->qGv->Prop
 | int (i:Int):gR K H (.int i) (.int i)
 | non:gR K H .non .none
 | bl (b:Bool):gR K H (.bl b) (.bool b)
 | str (x:Str):PyData.strOk x=true->gR K H (.str x) (.str x)
 | lst {p:Addr}{xs:List V}{ds:List qGv}:aT K H p xs->cC K H xs ds->gR K H (.ref p) (.list ds)
 | tup {p:Addr}{xs:List V}{ds:List qGv}:cQ K H p xs->cC K H xs ds->gR K H (.ref p) (.tuple ds)
inductive cC (K:qAc) (H:Hp):List V->List qGv->Prop
 | nil:cC K H [] []
 | cons {x:V}{d:qGv}{xs:List V}{ds:List qGv}:gR K H x d->cC K H xs ds->cC K H (x::xs) (d::ds)
end
mutual
theorem gR.reads {pins:List (Addr×Obj)}{σ:St}{H:Hp}{s:qAh} (I:Inv X pins σ H s):∀{v:V}{d:qGv}{u:qAf},gR X.K H v d->RelV v u->∃as,Reads s.heap u d as
 | _,_,u,.int i,r=>by obtain⟨t,rfl⟩:=(show ∃t,u=Value.int i t from r);exact⟨_,.int i t⟩
 | _,_,u,.non,r=>by obtain rfl:u=Value.none:=r;exact⟨_,.none⟩
 | _,_,u,.bl b,r=>by obtain rfl:u=Value.bool b:=r;exact⟨_,.bool b⟩
 | _,_,u,.str x _,r=>by obtain⟨t,rfl⟩:=(show ∃t,u=Value.str x t from r);exact⟨_,.str x t⟩
 | _,_,u,.lst (p:=p) hq ha,r=>by
  obtain rfl:u = .ref p:=r;obtain⟨its,r',pl,hz⟩:=I.list hq;obtain⟨o,ho,hc,n,hd⟩:=pl.isList;obtain⟨as,z⟩:=cC.reads I ha r';exact⟨_,.list ho hc hd (by simpa using z)⟩
 | _,_,u,.tup (p:=p) hq ha,r=>by
  obtain rfl:u = .ref p:=r;obtain⟨its,r',pl,hz⟩:=I.tuple hq;obtain⟨o,ho,hc,n,hd⟩:=pl;obtain⟨as,z⟩:=cC.reads I ha r';exact⟨_,.tuple ho hc hd (by simpa using z)⟩
theorem cC.reads {pins:List (Addr×Obj)}{σ:St}{H:Hp}{s:qAh} (I:Inv X pins σ H s):∀{vs:List V}{ds:List qGv}{us:List qAf},cC X.K H vs ds->Vals vs us->∃as,ReadsAll s.heap us ds as
 | _,_,_,.nil,.nil=>⟨_,.nil⟩
 | _,_,_,.cons h t,.cons r rs=>by
  obtain⟨a1,z1⟩:=gR.reads I h r;obtain⟨a2,z2⟩:=cC.reads I t rs;exact⟨_,.cons z1 z2⟩
end
mutual
theorem gR.lay {K:qAc}{H:Hp}:∀{v:V}{d:qGv},gR K H v d->d.canLay0=true/\PyData.eqv d d=true
 | _,_,.int i=>⟨rfl,by simp[PyData.eqv]⟩
 | _,_,.non=>⟨rfl,by simp[PyData.eqv]⟩
 | _,_,.bl b=>⟨rfl,by simp[PyData.eqv]⟩
 | _,_,.str x h=>⟨h,by simp[PyData.eqv]⟩
 | _,_,.lst _ h=>by
  obtain⟨a,b⟩:=cC.lay h;exact⟨by simpa [PyData.canLay0] using a,by simpa [PyData.eqv] using b⟩
 | _,_,.tup _ h=>by
  obtain⟨a,b⟩:=cC.lay h;exact⟨by simpa [PyData.canLay0] using a,by simpa [PyData.eqv] using b⟩
theorem cC.lay {K:qAc}{H:Hp}:∀{vs:List V}{ds:List qGv},cC K H vs ds->PyData.canLayAll0 ds=true/\PyData.eqvAll ds ds=true
 | _,_,.nil=>⟨rfl,rfl⟩
 | _,_,.cons h t=>by
  obtain⟨a,b⟩:=gR.lay h;obtain⟨c,d⟩:=cC.lay t;exact⟨by simp[PyData.canLayAll0,a,c],by simp[PyData.eqvAll,b,d]⟩
end
mutual
theorem gR.same {K:qAc}{H H':Hp} (s:aG H H'):∀{v:V}{d:qGv},gR K H v d->gR K H' v d
 | _,_,.int i=>.int i
 | _,_,.non=>.non
 | _,_,.bl b=>.bl b
 | _,_,.str x h=>.str x h
 | _,_,.lst q h=>.lst (s.seq q) (cC.same s h)
 | _,_,.tup q h=>.tup (s.Pu q) (cC.same s h)
theorem cC.same {K:qAc}{H H':Hp} (s:aG H H'):∀{vs:List V}{ds:List qGv},cC K H vs ds->cC K H' vs ds
 | _,_,.nil=>.nil
 | _,_,.cons h t=>.cons (gR.same s h) (cC.same s t)
end
end
section
variable {X:Cx}
end
section
variable {X:Cx}
variable {o e:Expr}{es:List Expr}{to:TE}{t:TA}{name:Str}{apos cpos:Pos}{T id:String}{r:V->List V->Hp->VK->Prop}
theorem Ia (K:qAc) (hK:X.K=K) (pa:PlainAttrs T) (slot:Slot T name id) (hty:qPu (.builtin id)=pure (.type "method_descriptor")) (hm:Lq X id r) (ho:PE X o to) (ha:PA X (e::es) t)
  (hbase:qHd o name X.env (eval o X.env)=eval o X.env:=by rfl)
  (hfew:((qGu cpos (qBt (e::es) X.env)).all (fun x=>!x.1)&&(backToKw cpos (keywordEach [] X.env)).all (fun x=>x.1.isSome)
   && decide ((e::es).length+([]:List qOn).length+(if ([]:List qOn).isEmpty then 0 else 1)<30))=true:=by rfl)
  (hline:(apos.endLine == cpos.line)=true:=by rfl) (hs:qBt (e::es) X.env=(false,eval e X.env)::qBt es X.env:=by rfl) (hplain:(qGu cpos (qBt es X.env)).any (·.1)=false:=by rfl) :
  PE X (.Call (.Attribute o name apos) (e::es) [] cpos) (OY K T r to t):=by
 subst hK;exact t5 pa slot hty hm ho ha hbase hfew hline hs hplain
end
section
variable {A:qCq}{prog:qBl}{w:qCw}{E:qAf->qAh->Prop}
end
section
variable {X:Cx}{pos:Pos}
end
section
variable {κ:Type} [DecidableEq κ]
def nH (kvs:List (κ×V)) (k:κ):Option V:=(kvs.find? fun kv=>decide (kv.1=k)).map (·.2)
def putK (kvs:List (κ×V)) (k:κ) (v:V):List (κ×V) :=
 if (kvs.any fun kv=>decide (kv.1=k))=true then kvs.map (fun kv=>if kv.1=k then (kv.1,v) else kv) else kvs++[(k,v)]
theorem oJ {p:κ×V}{r:List (κ×V)}{k:κ} (e:p.1=k):nH (p::r) k=some p.2:=by simp[nH,qEx,e]
theorem oK {p:κ×V}{r:List (κ×V)}{k:κ} (e:¬p.1=k):nH (p::r) k=nH r k:=by simp[nH,qEx,e]
theorem uF (k:κ):∀kvs:List (κ×V),(kvs.any fun kv=>decide (kv.1=k))=(nH kvs k).isSome
 | []=>rfl
 | p::r=>by
  rw[qHo];by_cases e:p.1=k
  ·simp only[oJ e,decide_eq_true e,Bool.true_or,qLy]
  ·rw[oK e,decide_eq_false e,Bool.false_or];exact uF k r
theorem mX (kvs:List (κ×V)) (k:κ) (v:V):(putK kvs k v).length<=kvs.length+1:=by
 unfold putK;split
 ·rw[qAb];omega
 ·rw[qAo,qCk,qKk];omega
theorem jP.Au {o:Option V}{u:Option qAf} (r:jP o u):o.isSome=u.isSome:=by
 cases o with
 | none=>cases u with
  | none=>rfl
  | some _=>exact(show False from r).elim
 | some _=>cases u with
  | none=>exact(show False from r).elim
  | some _=>rfl
theorem KV.val {kvs:List (κ×V)}{vs:List (κ×qAf)} (r:KV kvs vs) (k:κ):jP (nH kvs k) (qLl vs k):=by
 unfold KV at r;induction r with
 | nil=>exact True.intro
 | @cons p q ps qs h t ih =>
  obtain⟨h1,h2⟩:=h;by_cases e:p.1=k
  ·have e':q.1=k:=h1.symm.trans e;have b:qLl (q::qs) k=some q.2:=by simp[qLl,qEx,e']
   rw[oJ e,b];exact h2
  ·have e':¬q.1=k:=fun z=>e (h1.trans z);have b:qLl (q::qs) k=qLl qs k:=by simp[qLl,qEx,e']
   rw[oK e,b];exact ih
theorem KV.any {kvs:List (κ×V)}{vs:List (κ×qAf)} (r:KV kvs vs) (k:κ):(kvs.any fun kv=>decide (kv.1=k))=vs.any fun kv=>decide (kv.1=k):=by
 unfold KV at r;induction r with
 | nil=>rfl
 | cons h t ih=>rw[qHo,qHo,ih,h.1]
theorem KV.Ib {kvs:List (κ×V)}{vs:List (κ×qAf)} (r:KV kvs vs) (k:κ){y:V}{u:qAf} (ry:RelV y u) :
  KV (kvs.map fun kv=>if kv.1=k then (kv.1,y) else kv) (vs.map fun kv=>if kv.1=k then (kv.1,u) else kv):=by
 unfold KV at r|-;induction r with
 | nil=>exact .nil
 | @cons p q ps qs h t ih =>
  rw[qDf,qDf];refine .cons ?_ ih;obtain⟨h1,h2⟩:=h;by_cases e:p.1=k
  ·rw[if_pos e,if_pos (h1.symm.trans e)];exact⟨h1,ry⟩
  ·rw[if_neg e,if_neg (fun z=>e (h1.trans z))];exact⟨h1,h2⟩
theorem KV.put {kvs:List (κ×V)}{vs:List (κ×qAf)} (r:KV kvs vs) (k:κ){y:V}{u:qAf} (ry:RelV y u):KV (putK kvs k y) (stored vs k u):=by
 unfold putK stored;rw[r.any k];by_cases e:(vs.any fun kv=>decide (kv.1=k))=true
 ·rw[if_pos e,if_pos e];exact r.Ib k ry
 ·rw[if_neg e,if_neg e];exact Paired.snoc r ⟨rfl,ry⟩
theorem KV.length {kvs:List (κ×V)}{vs:List (κ×qAf)} (r:KV kvs vs):kvs.length=vs.length:=Paired.length r
end
theorem BW {P:qBl}{w:qCw}{k:Key}{u:qAf} (r:RelV (kV k) u):(bW P w).is k u=true:=by
 cases k with
 | inl i=>obtain⟨t,e⟩:=(show ∃t,u=Value.int i t from r);subst e;exact tT P w i t
 | inr x=>obtain⟨t,e⟩:=(show ∃t,u=Value.str x t from r);subst e;exact tU P w x t
theorem qA {P:qBl}{w:qCw}:∀{ks:List Key}{us:List qAf},Vals (ks.map kV) us->ItemsAre (bW P w) ks us
 | [],_,r=>by rw[qEl] at r;cases r;exact .nil
 | k::ks,_,r=>by
  rw[qDf] at r;cases r with
  | cons h t=>exact .cons (BW h) (qA t)
abbrev KT (H:Hp):List (List Key×V)->List (List Key×Addr×qAf)->Prop:=Paired fun p q=>p.1=q.1/\H q.2.1=some (.tup (p.1.map kV))/\RelV p.2 q.2.2
theorem KT.val {H:Hp}{kvs:List (List Key×V)}{xs:List (List Key×Addr×qAf)} (r:KT H kvs xs) (k:List Key):jP (nH kvs k) ((qOm xs k).map (·.2)):=by
 induction r with
 | nil=>exact True.intro
 | @cons p q ps qs h t ih =>
  obtain⟨h1,_,h2⟩:=h;by_cases e:p.1=k
  ·have e':q.1=k:=h1.symm.trans e;have b:qOm (q::qs) k=some q.2:=by simp[qOm,qEx,e']
   rw[oJ e,b];exact h2
  ·have e':¬q.1=k:=fun z=>e (h1.trans z);have b:qOm (q::qs) k=qOm qs k:=by simp[qOm,qEx,e']
   rw[oK e,b];exact ih
theorem KT.Ib {H:Hp}{kvs:List (List Key×V)}{xs:List (List Key×Addr×qAf)} (r:KT H kvs xs) (k:List Key){y:V}{u:qAf} (ry:RelV y u) :
  KT H (kvs.map fun kv=>if kv.1=k then (kv.1,y) else kv) (xs.map (putAt k u)):=by
 induction r with
 | nil=>exact .nil
 | @cons p q ps qs h t ih =>
  rw[qDf,qDf];refine .cons ?_ ih;obtain⟨h1,h2,h3⟩:=h;unfold putAt;by_cases e:p.1=k
  ·rw[if_pos e,if_pos (h1.symm.trans e)];exact⟨h1,h2,ry⟩
  ·rw[if_neg e,if_neg (fun z=>e (h1.trans z))];exact⟨h1,h2,h3⟩
theorem KT.put {H:Hp}{kvs:List (List Key×V)}{xs:List (List Key×Addr×qAf)} (r:KT H kvs xs) (k:List Key){b:Addr}{y:V}{u:qAf} (hb:H b=some (.tup (k.map kV))) (ry:RelV y u) :
  KT H (putK kvs k y) (storedH xs k b u):=by
 have e:(kvs.any fun kv=>decide (kv.1=k))=(qOm xs k).isSome:=by
  rw[uF,(r.val k).Au,Option.isSome_map]
 unfold putK storedH;rw[e];by_cases q:(qOm xs k).isSome=true
 ·rw[if_pos q,if_pos q];exact r.Ib k ry
 ·rw[if_neg q,if_neg q];exact Paired.snoc r ⟨rfl,hb,ry⟩
theorem KT.keeps {H H':Hp}{kvs:List (List Key×V)}{xs:List (List Key×Addr×qAf)} (r:KT H kvs xs) (ht:∀b ys,H b=some (.tup ys)->H' b=some (.tup ys)):KT H' kvs xs :=
 Paired.Hi r fun _ _ z=>⟨z.1,ht _ _ z.2.1,z.2.2⟩
section
variable {P:qBl}{w:qCw}{H:Hp}{h:Heap}{a:Addr}
theorem FY {u:HO} (ok:jV P w H h) (e:Rd H a u):cS P w H h a u:=e.ok ok
theorem qB {kvs:List (Key×V)} (ok:jV P w H h) (e:Rd H a (.dK kvs)):kvs.length<=qAj/\(a == qFk)=false/\∃vs,KV kvs vs/\h.DictOf (bW P w) a vs :=
 show cS P w H h a (.dK kvs) from FY ok e
theorem BX {kvs:List (Key×V)} (ok:jV P w H h) (e:H a=some (.dK kvs)):kvs.length<=qAj/\(a == qFk)=false/\∃vs,KV kvs vs/\h.DictOf (bW P w) a vs:=qB ok (.inl e)
theorem wV {ks:List Key} (ok:jV P w H h) (e:H a=some (.tup (ks.map kV))):(qLm (bW P w)).is h ks a:=by
 obtain⟨_,its,r,o,h1,h2,n,h3⟩:=(show cS P w H h a (.tup (ks.map kV)) from ok a _ e);exact⟨o,its.toArray,n,h1,h2,h3,by simpa using qA r⟩
theorem BY {kvs:List (List Key×V)} (ok:jV P w H h) (e:Rd H a (.dT kvs)):kvs.length<=qAj/\(a == qFk)=false /\
  ∃xs,KT H kvs xs/\h.DictOfH (qLm (bW P w)) a xs:=by
 obtain⟨z,y,xs,r,o,es,ep,h1,h2,h3,h4,h5⟩:=(show cS P w H h a (.dT kvs) from FY ok e);refine⟨z,y,xs,r,o,es,ep,h1,h2,h3,h4,fun x hx=>?_,h5⟩;have all:∀{l:List (List Key×V)}{m:List (List Key×Addr×qAf)},KT H l m->∀x∈m,(qLm (bW P w)).is h x.1 x.2.1:=by
  intro l m q;induction q with
  | nil=>intro x hx;exact nomatch hx
  | @cons p q ps qs hq t ih =>
   intro x hx;rcases List.mem_cons.mp hx with e | hx
   ·subst e;exact wV ok (by rw[<- hq.1];exact hq.2.1)
   ·exact ih x hx
 exact all r x hx
theorem Ml {kvs:List (List Key×V)} (ok:jV P w H h) (e:H a=some (.dT kvs)):kvs.length<=qAj/\(a == qFk)=false /\
  ∃xs,KT H kvs xs/\h.DictOfH (qLm (bW P w)) a xs:=BY ok (.inl e)
end
def Ic (H:Hp) (a:Addr) (y:V) (r:Option V):Prop :=
 (∃kvs k,Rd H a (.dK kvs)/\y=kV k/\r=nH kvs k)\/∃kvs k b,Rd H a (.dT kvs)/\y = .ref b/\H b=some (.tup (k.map kV))/\r=nH kvs k
def Mm (H:Hp) (a:Addr) (y v:V) (H':Hp):Prop :=
 (∃kvs k,H a=some (.dK kvs)/\y=kV k/\kvs.length<qAj/\H'=upd H a (.dK (putK kvs k v))) \/
 ∃kvs k b,H a=some (.dT kvs)/\y = .ref b/\H b=some (.tup (k.map kV))/\kvs.length<qAj/\H'=upd H a (.dT (putK kvs k v))
section
variable {X:Cx}{pins:List (Addr×Obj)}{σ:St}{H:Hp}{s:qAh}{a:Addr}{y v:V}{u r:qAf}{o:Option V}{A:qCq}{E:qAf->qAh->Prop}
theorem Av {Q:qAf->qAh->Prop} (hu:A.units+1<qLq) (I:Inv X pins σ H s) (g:Ic H a y (some v)) (ry:RelV y u) (h:∀w' s',Inv X pins σ H s'->RelV v w'->Q w' s') :
  qBg (qBz X.prog X.w) A (qIi (.ref a) u) Q E s:=by
 rcases g with ⟨kvs,k,e,ey,l⟩ | ⟨kvs,k,b,e,ey,eb,l⟩
 ·subst ey;obtain⟨z,hd,vs,rel,dd⟩:=qB I.cH e;obtain⟨w',hw,rw'⟩:=jP.some_of (v:=v) (o:=qLl vs k) (by rw[l];exact rel.val k);exact wpAny_getItem_of (BW ry) dd.mapOf hw (h w' _ (I.tok _) rw')
 ·subst ey;cases (show u=Value.ref b from ry);obtain⟨z,hd,xs,rel,dd⟩:=BY I.cH e;obtain⟨w',hw,rw'⟩:=jP.some_of (v:=v) (o:=(qOm xs k).map (·.2)) (by rw[l];exact rel.val k);obtain⟨p,hp,hp2⟩:=Option.map_eq_some_iff.mp hw;refine wpAny_getItem_heap (tupleKind_room_in1 hu) (wV I.cH eb) dd hp ?_;rw[hp2];exact h w' _ (I.tok _) rw'
theorem rW {h':Heap}{t':Nat}{ob:HO} (I:Inv X pins σ H s) (mu:LB (H a)) (hs:qEy a s.heap h') (he:∃q,h'.get? a=some q) (new:cS X.prog X.w (upd H a ob) h' a ob) :
  Inv X pins σ (upd H a ob) { s with heap:=h',toks:=t' } :=
 I.write (x:=a) (e:=a) mu (.inl rfl) (fun b q hb z=>(hs.2 b hb).trans z) he new
theorem BZ {P:qBl}{w:qCw}{H':Hp}{h':Heap}{kvs:List (Key×V)}{vs:List (Key×qAf)} (z:kvs.length<=qAj) (hd:(a == qFk)=false) (rel:KV kvs vs) (dd:h'.DictOf (bW P w) a vs) :
  cS P w H' h' a (.dK kvs):=⟨z,hd,vs,rel,dd⟩
theorem Aw {H':Hp}{Q:Unit->qAh->Prop} (hu:A.units+1<qLq) (I:Inv X pins σ H s) (g:Mm H a y v H') (ry:RelV y u) (rv:RelV v r) (h:∀s',Inv X pins σ H' s'->Q () s') :
  qBg (qBz X.prog X.w) A (setItem (.ref a) u r) Q E s:=by
 rcases g with ⟨kvs,k,e,ey,l,eH⟩ | ⟨kvs,k,b,e,ey,eb,l,eH⟩
 ·subst ey eH;obtain⟨z,hd,vs,rel,dd⟩:=BX I.cH e;have hz:vs.length<=qAj:=by rw[<- rel.length];exact z
  have hl:(putK kvs k v).length<=qAj:=by have:=mX kvs k v;omega
  refine wpAny_setItem_pairs (hsz:=hz) (BW ry) dd fun h' dd' hs=>h _ ?_;have he:∃q,h'.get? a=some q:=let ⟨q,_,_,hq,_⟩:=dd';⟨q,hq⟩;exact rW I (by rw[e];exact True.intro) hs he (BZ hl hd (rel.put k rv) dd')
 ·subst ey eH;cases (show u=Value.ref b from ry);obtain⟨z,hd,xs,rel,dd⟩:=Ml I.cH e;have hz:xs.length<=qAj:=by rw[<- Paired.length rel];exact z
  have hl:(putK kvs k v).length<=qAj:=by have:=mX kvs k v;omega
  refine wpAny_setItem_heap (hsz:=hz) (tupleKind_room_in1 hu) (wV I.cH eb) dd fun h' dd' hs=>h _ ?_;obtain⟨q,es,ep,hq,h2,h3,h4,_,h5⟩:=dd';refine rW I (by rw[e];exact True.intro) hs ⟨q,hq⟩ ⟨hl,hd,_,(rel.put k eb rv).keeps fun c ys ec=>?_,q,es,ep,hq,h2,h3,h4,h5⟩;rw[aM (jU ec e (fun z=>nomatch z))];exact ec
end
section
variable {X:Cx}{pins:List (Addr×Obj)}{σ:St}{H:Hp}{s:qAh}{a:Addr}{kvs:List (Key×V)}{k:Key}{u:qAf}{A:qCq}{E:qAf->qAh->Prop}
end
def Mn (i:Expr):Prop:=∀ov iv,qLn i false ov iv=operate [ov,iv] (qIi ov iv)
theorem EF {prog:qBl}{w:qCw}{A:qCq}{E:qAf->qAh->Prop}{s:qAh}{env:Env}{value slice:Expr}{pos:Pos}{T id:String}{Q:qAf->qAh->Prop}
  (hl:qMn (.type T) "__getitem__"=pure (some (.builtin id))) (hs:Mn slice)
  (h:qBg (qBz prog w) A (eval value env) (fun o s₁=>qBg (qBz prog w) A (eval slice env) (fun i s₂=>s₂.TypeIs o T/\qBg (qBz prog w) A (qIi o i) Q E s₂) E s₁) E s) :
  qBg (qBz prog w) A (eval (.Subscript value slice pos) env) Q E s:=by
 refine Subscript_ (qHf h (fun o s₁ h₁=>qHf h₁ (fun i s₂ h₂=>?_) fun _ _ x=>x) fun _ _ x=>x);obtain⟨hT,h₂⟩:=h₂;unfold subscriptTail;refine qAa ?_;rw[getitemInPython_of_ne hT.not_modules];refine qAa (wpAny_specialOf hT hl ?_);have fin:qBg (qBz prog w) A (qLn slice false o i) (fun r s₃=>qBg (qBz prog w) A (letTemporaryGo value o r >>= fun _=>pure r) Q E s₃) E s₂:=by
  rw[hs o i];exact wpAny_operating (qHf h₂ (fun r s₃ h₃=>qAa (wpAny_letTemporaryGo (qAe h₃))) fun _ _ x=>x)
 first
  | exact qAe (qAa fin)
  | exact qAa (qAe (qAa fin))
  | exact qAa fin
theorem uG {X:Cx}{pins:List (Addr×Obj)}{σ:St}{H:Hp}{s:qAh}{a:Addr}{y:V}{o:Option V} (I:Inv X pins σ H s) (g:Ic H a y o):s.TypeIs (.ref a) "dict":=by
 rcases g with ⟨kvs,k,e,_,_⟩ | ⟨kvs,k,b,e,_,_,_⟩
 ·obtain⟨_,_,vs,_,dd⟩:=qB I.cH e;exact dd.typeIs
 ·obtain⟨_,_,xs,_,dd⟩:=BY I.cH e;exact dd.typeIs
def Mo (td ty:TE):TE:=fun σ H Q=>td σ H fun x H1=>ty σ H1 fun y H2=>∃a v,x = .ref a/\Ic H2 a y (some v)/\Q v H2
def Mp (td ty tv:TE):TS:=fun D σ H=>tv σ H fun v H1=>td σ H1 fun x H2=>ty σ H2 fun y H3=>∃a H4,x = .ref a/\Mm H3 a y v H4/\D.nx σ H4
section
variable {X:Cx}{o i e value:Expr}{pos pos' tpos:Pos}{td ty tv:TE}
theorem EG (hu:X.A.units+1<qLq) (ho:PE X o td) (hi:PE X i ty) (hs:Mn i):PE X (.Subscript o i pos) (Mo td ty):=by
 intro pins s σ H Q I h;refine EF PySem.F.slot_dict_getitem.lookup hs (cB (ho pins s σ H _ I h) fun u s1 ⟨x,H1,I1,rx,q1⟩=>cB (hi pins s1 σ H1 _ I1 q1) fun iv s2 ⟨y,H2,I2,ry,a,v,ex,g,q2⟩=>?_);subst ex;obtain rfl:u=Value.ref a:=rx;exact⟨uG I2 g,Av hu I2 g ry fun w' s3 I3 rw'=>⟨v,H2,I3,rw',q2⟩⟩
theorem yU (hu:X.A.units+1<qLq) (ho:PE X o td) (hi:PE X i ty) (hv:PE X value tv) (hs:qJz value (some (.Subscript o i pos')) pos.line X.env=pure false) :
  PS X (.Assign [.Subscript o i pos'] value pos) (Mp td ty tv):=by
 intro pins s σ H D I h;refine wpAny_Assign_Subscript (cB (hv pins s σ H _ I h) fun r s1 ⟨v,H1,I1,rv,q1⟩=>cB (ho pins s1 σ H1 _ I1 q1) fun u s2 ⟨x,H2,I2,rx,q2⟩=>cB (hi pins s2 σ H2 _ I2 q2) fun iv s3 ⟨y,H3,I3,ry,a,H4,ex,g,q3⟩=>?_) hs;subst ex;obtain rfl:u=Value.ref a:=rx;exact Aw hu I3 g ry rv fun s4 I4=>⟨σ,H4,I4,q3⟩
end
section
variable {κ:Type} [DecidableEq κ]
end
section
variable {X:Cx}{pos:Pos}
end
end L2
namespace PySem.W
open PySem PySem.Calls PyProof.Rows
def KasT.Ok {α:Type} (n:Nat) (P:α->Prop):KasT α->Prop
 | .ret a=>P a
 | .ask i j k=>i<n/\j<n/\∀b,(k b).Ok n P
def KasT.run {α:Type} (lt:Nat->Nat->Bool):KasT α->α
 | .ret a=>a
 | .ask i j k=>(k (lt i j)).run lt
section
variable {prog:qBl}{w:qCw}{A:qCq}{E:qAf->qAh->Prop}{s:qAh}
end
end PySem.W
namespace L2
open PySem PySem.Spec PyProof.Rows PySem.W
section
variable {X:Cx}{pins:List (Addr×Obj)}{σ:St}{H:Hp}{s:qAh}
end
section
variable {X:Cx}{a b c d:Expr}{ta tb tc td:TE}{pos:Pos}
end
section
variable {K:qAc}{a:Addr}{xs:List V}{σ0:St}{H1:Hp}{g:TG}{c:TT}{te:TE}{Q:Addr->Hp->Prop}
end
section
variable {X:Cx}{Ex:XS}{o e:Expr}{es:List Expr}{ta:TE}{t:TA}{m:Str}{apos pos:Pos}{j k:Nat}
end
section
variable {X:Cx}
end
section
variable {K:qAc}{a:Addr}{xs:List V}{σ0:St}{H1:Hp}{i0:Nat}{c:TT}{te:TE}{Q:Addr->Hp->Prop}
end
def jR (X:Cx) (NB:List Str) (sc:qIj) (cl:List (Str×Addr)) (y0:Str) (s₃:qAh) (H₃:Hp) (fp:List Addr):Cx :=
 { X with N:=NB,s₀:=s₃,H₀:=H₃,env:=compEnvC sc ((y0,s₃.heap.objs.size+1)::cl) s₃.heap.objs.size X.env,outer:=X.stack,stack:=X.stack,ex:=fp,fn:=fun y=>y == y0,pn:=[],xe:=fun _ _=>False }
structure Ax (X:Cx) (NB:List Str) (pick:List (Option Nat)) (sc:qIj) (cl:List (Str×Addr)) (y0:Str):Prop where
 wO:qMq sc X.env=pure cl
 kind:sc.kind = .function
 Ie:∀n,qKd n sc.names cl=(y0,n)::cl
 Mq:∀h:Heap,pushCells h sc.names=h.push { cls:=.type "cell",data:=.cell none }
 names:∀y∈sc.names,y.2 = .local->sc.names.lookup y.1=some .local
 sub:mV X.env.cells cl
 has:∀n x,((qIu sc X.env).names.lookup x=some .cell\/(qIu sc X.env).names.lookup x=some .free)->∃c,((y0,n)::cl).lookup x=some c
 len:pick.length=NB.length
 got:∀(j i:Nat) (x:Str),pick[j]?=some (some i)->NB[j]?=some x->(X.N[i]?=some x/\(X.env.kindOf x=some .cell\/X.env.kindOf x=some .free)/\(qIu sc X.env).names.lookup x=some .cell)/\(x == y0)=false
def mD (y0:Str):List (Option Nat)->List Str->Bool
 | some _::p,x::r=>!(x == y0)&&mD y0 p r
 | none::p,_::r=>mD y0 p r
 | _,_=>true
theorem mE {y0:Str}:∀{p:List (Option Nat)}{r:List Str},mD y0 p r=true->∀(j i:Nat) (x:Str),p[j]?=some (some i)->r[j]?=some x->(x == y0)=false
 | [],_,_,j,i,x,h,_=>by simp at h
 | _::_,[],_,j,i,x,_,h=>by simp at h
 | some k::p,y::r,h,0,i,x,h1,h2=>by
  have z:(!(y == y0)&&mD y0 p r)=true:=h;rw[qCa] at z;obtain rfl:y=x:=Option.some.inj h2;simpa using z.1
 | none::p,y::r,h,0,i,x,h1,h2=>by cases (Option.some.inj h1)
 | some k::p,y::r,h,j+1,i,x,h1,h2=>by
  have z:(!(y == y0)&&mD y0 p r)=true:=h;rw[qCa] at z;exact mE z.2 j i x h1 h2
 | none::p,y::r,h,j+1,i,x,h1,h2=>mE (p:=p) (r:=r) h j i x h1 h2
theorem EH {X:Cx}{NB:List Str}{pick:List (Option Nat)}{sc:qIj}{cl:List (Str×Addr)}{y0:Str} (wO:qMq sc X.env=pure cl) (sub:mV X.env.cells cl) (kind:sc.kind = .function) (cb:∀n,qKd n sc.names cl=(y0,n)::cl)
  (pb:∀h:Heap,pushCells h sc.names=h.push { cls:=.type "cell",data:=.cell none }) (names:∀y∈sc.names,y.2 = .local->sc.names.lookup y.1=some .local) (has:∀n,hasB ((y0,n)::cl) (qIu sc X.env).names=true) (got:t8 X.N X.env.scope.names (qIu sc X.env).names pick NB=true) (no:mD y0 pick NB=true):Ax X NB pick sc cl y0 :=
 ⟨wO,kind,cb,pb,names,sub,fun n=>yL (has n),kQ got,fun j i x h1 h2=>⟨nO got j i x h1 h2,mE no j i x h1 h2⟩⟩
theorem nS {n c:Nat} (h:c<n) (e:c=n+1):False:=by omega
theorem dQ {y0 x:Str}{n c:Addr}{cl:List (Str×Addr)} (h:((y0,n)::cl).lookup x=some c):(x=y0/\c=n)\/cl.lookup x=some c:=by
 rw[qJo] at h;cases hx:x == y0 with
 | true =>
  rw[hx] at h;cases h;exact .inl ⟨by simpa using hx,rfl⟩
 | false =>
  rw[hx] at h;exact .inr h
section
variable {M:qNx}{A:qCq}{E:qAf->qAh->Prop}{s:qAh}
theorem wW {sc:qIj}{globals:Addr}{cl:List (Str×Addr)}{qual:Str}{out:Env}{y0:Str}{Q:Env->qAh->Prop} (cb:∀n,qKd n sc.names cl=(y0,n)::cl) (pb:∀h:Heap,pushCells h sc.names=h.push { cls:=.type "cell",data:=.cell none })
  (hQ:∀h',h'.Ns s.heap.objs.size (fun _=>none)->h'.IsCell (s.heap.objs.size+1) none->(∀b o,s.heap.get? b=some o->h'.get? b=some o) ->
   Q { scope:=sc,locals:=s.heap.objs.size,globals,cells:=(y0,s.heap.objs.size+1)::cl,qual,func:=none,code:=out.code,frame:=out.frame,builtins:=out.builtins } { s with heap:=h' }) :
  qBg M A (newFunctionEnv sc globals cl [] qual none .none (some out)) Q E s:=by
 simp only[newFunctionEnv,qLy,if_true];refine qAa (wpAny_alloc ?_);refine qAa (wpAny_layCells _ (fun name kind cells=>by cases hkc:kind == NameKind.cell <;> simp[hkc]) _ _ _ _ ?_);rw[cb,pb,show({ s with heap:=s.heap.push { cls:=.type "dict",data:=.dict #[] } }:qAh).heap.objs.size=s.heap.objs.size+1 from qDe ..];refine qAa ?_;rw[List.forIn_nil];refine qAe (qAe ?_);refine hQ _ ((Heap.Ns.new s.heap (.type "dict")).keeps fun b o e=>qAi _ e) ?_ fun b o e=>qAi _ (qAi _ e);have e:(s.heap.push { cls:=.type "dict",data:=.dict #[] }).objs.size=s.heap.objs.size+1:=qDe ..;rw[<- e];exact⟨_,qAs _ rfl,rfl⟩
end
section
variable {X:Cx}{NB:List Str}{pick:List (Option Nat)}{sc:qIj}{cl:List (Str×Addr)}{y0:Str}{pins:List (Addr×Obj)}{σ:St}{H:Hp}{s:qAh}{fp:List Addr}
theorem sub_lt (I:Inv X pins σ H s) (B:Ax X NB pick sc cl y0){x:Str}{c:Addr} (h:cl.lookup x=some c):c<s.heap.objs.size:=by
 obtain⟨v,q⟩:=I.cell x c (B.sub.of x c h);exact q.lt
theorem EI (I:Inv X pins σ H s) (B:Ax X NB pick sc cl y0) (hf:∀b∈fp,iX X pins H b) (hex:∀b∈fp,∃o,s.heap.get? b=some o):(jR X NB sc cl y0 s H fp).Ok:=by
 have nfs:∀b∈fp,b∉nY X.stack:=fun b hb z=>by
  rcases List.mem_cons.mp (I.j7 b z) with e | e
  ·exact(hf b hb).2.1 e
  ·exact(hf b hb).2.2.1 e
 refine⟨I.ok.mod,B.kind,I.ok.glob,I.ok.blt,qAg _,fun x y c h1 h2=>?_,fun x hx=>B.has _ x hx,fun x c h e=>?_,I.ok.hd,I.ok.frames,.inl rfl,fun b hb=>⟨?_,fun x c h e=>?_⟩,I.bs,qCx I.ok.Ei I.sz,fun b o e hb=>?_,nfs,I.stack,I.nM⟩
 ·rcases dQ h1 with ⟨e1,e2⟩ | e1
  ·rcases dQ h2 with ⟨f1,f2⟩ | f1
   ·rw[e1,f1]
   ·exact(nS (sub_lt I B f1) e2).elim
  ·rcases dQ h2 with ⟨f1,f2⟩ | f1
   ·exact(nS (sub_lt I B e1) f2).elim
   ·exact I.ok.inj x y c (B.sub.of x c e1) (B.sub.of y c f1)
 ·rcases dQ e with ⟨e1,e2⟩ | e1
  ·rw[e2];exact qEz _
  ·have e0:x=y0:=by simpa using (show(x == y0)=true from h)
   have z:((y0,s.heap.objs.size+1)::cl).lookup x=some (s.heap.objs.size+1):=by rw[e0,qJo];simp
   have e':c=s.heap.objs.size+1:=Option.some.inj ((show((y0,s.heap.objs.size+1)::cl).lookup x=some c from e).symm.trans z);rw[e'];exact qEz _
 ·obtain⟨o,ho⟩:=hex b hb;exact qBd (qAr ho)
 ·rcases dQ h with ⟨e1,e2⟩ | e1
  ·obtain⟨o,ho⟩:=hex b hb;exact(nS (qAr ho) (e.symm.trans e2)).elim
  ·exact(hf b hb).2.2.2.2.1 x c (B.sub.of x c e1) e
 ·rcases(hf b hb).2.2.2.1 with z | z
  ·exact I.ok.Ab b o e z
  ·exact absurd (qAx (qAr (I.ok.bs b o e).1) z) (qDg _)
theorem wX {h':Heap} (I:Inv X pins σ H s) (B:Ax X NB pick sc cl y0) (hf:∀b∈fp,iX X pins H b) (hex:∀b∈fp,∃o,s.heap.get? b=some o)
  (hn:h'.Ns s.heap.objs.size (fun _=>none)) (hce:h'.IsCell (s.heap.objs.size+1) none) (hs:∀b o,s.heap.get? b=some o->h'.get? b=some o) (t:Nat):Inv (jR X NB sc cl y0 s H fp) [] (oE pick σ) H { s with heap:=h',toks:=t }:=by
 refine⟨EI I B hf hex,rfl,I.bare,Un.kept hs,⟨_,hn,fun j x v h1 h2 h3=>?_⟩,fun x c e=>?_,I.cH.fresh (qAg _),fun x c e=>?_,fun p hp=>absurd (show p∈([]:List (Addr×Obj)) from hp) (by simp),I.cH.kept hs,?_⟩
 ·have h2':(pick.map fun o=>o.bind fun i=>(σ[i]?).join)[j]?=some (some v):=h2;rw[qAp] at h2';cases hp:pick[j]? with
  | none=>rw[hp] at h2';cases h2'
  | some o =>
   rw[hp] at h2';cases o with
   | none=>cases h2'
   | some i =>
    have h2'':(σ[i]?).join=some v:=Option.some.inj h2';obtain⟨⟨g1,g2,g3⟩,ny⟩:=B.got j i x hp h1;have hσ:σ[i]?=some (some v):=by
     cases hq:σ[i]? with
     | none=>rw[hq] at h2'';cases h2''
     | some z=>rw[hq] at h2'';have e:z=some v:=h2'';rw[e]
    obtain⟨m,_,hl⟩:=I.loc;obtain⟨u,r,L⟩:=hl i x v g1 hσ (.inr g2);refine⟨u,r,?_⟩;rcases L with ⟨k,_⟩ | ⟨_,c,hc,⟨o,ho,hd⟩⟩
    ·rcases g2 with g2 | g2 <;> rw[k] at g2 <;> cases g2
    ·obtain⟨c',hc'⟩:=B.has (s.heap.objs.size+1) x (.inl g3);rcases dQ hc' with ⟨e1,_⟩ | e1
     ·rw[e1] at ny;simp at ny
     ·have e:c'=c:=Option.some.inj ((B.sub.of x c' e1).symm.trans hc);subst e;exact .inr ⟨.inl g3,c',hc',o,hs _ _ ho,hd⟩
 ·rcases dQ e with ⟨_,e2⟩ | e1
  ·rw[e2];exact⟨none,hce⟩
  ·obtain⟨v,o,ho,hd⟩:=I.cell x c (B.sub.of x c e1);exact⟨v,o,hs _ _ ho,hd⟩
 ·rcases dQ e with ⟨_,e2⟩ | e1
  ·rw[e2];exact I.cH.fresh (qEz _)
  ·exact I.iP x c (B.sub.of x c e1)
 ·show(oE pick σ).length=NB.length;unfold oE;rw[qAb];exact B.len
theorem Ca {σ':St}{H':Hp}{s':qAh} (I:Inv X pins σ H s) (hf:∀b∈fp,iX X pins H b) (J:Inv (jR X NB sc cl y0 s H fp) [] σ' H' s'):Inv X pins σ H' s':=by
 refine I.call' (ch:=fp) J.os J.base J.cH J.bare fun b hb=>?_;obtain⟨_,f1,_,f3,f4,f5⟩:=hf b hb;exact⟨f3,f1,f4,f5⟩
end
section
variable {X:Cx}{NB:List Str}{pick:List (Option Nat)}{sc:qIj}{cl:List (Str×Addr)}{y0:Str}{elt target iter:Expr}{ifs:List Expr}{pos:Pos}{wi:TI}{g:TG}{c:TT}{te:TE}
theorem Ay {pins:List (Addr×Obj)}{s:qAh}{σ:St}{H:Hp}{use:Option (qAf->Sem Unit)}{Q:Addr->Hp->Prop}{QV:qAf->qAh->Prop} (B:Ax X NB pick sc cl y0) (hc:X.calm=true) (hi:PI X target iter wi)
  (hg:∀s₃ H₃ fp,PG (jR X NB sc cl y0 s₃ H₃ fp) target g) (ht:∀s₃ H₃ fp,uA (jR X NB sc cl y0 s₃ H₃ fp) ifs c) (he:∀s₃ H₃ fp,PE (jR X NB sc cl y0 s₃ H₃ fp) elt te)
  (hs:∀x,qFl iter X.env x=pure x) (I:Inv X pins σ H s) (h:t9 wi pick g c te σ H Q)
  (fin:∀(D C:Addr) (s':qAh) (H':Hp),Inv X pins σ H' s'->Q D H'->H' C=none->C≠X.env.locals->X.s₀.heap.objs.size<=C->(∀x a,X.env.cells.lookup x=some a->a≠C)->(∀p∈X.pn++pins,p.1≠C)->(∃m,s'.heap.Ns C m) ->
   qOu (qBz X.prog X.w) X.A X.xe use QV (.ref D) C (.ok .next) s') :
  qBg (qBz X.prog X.w) X.A (qKc (.ListComp elt [⟨target,iter,ifs,0⟩] sc pos) sc X.env (firstIterPos [⟨target,iter,ifs,0⟩] pos) (qOl []) false (eval iter X.env) use) QV X.xe s:=by
 refine wpAny_comprehension_free rfl hs B.wO B.kind B.names (cB (hi pins s σ H _ I h) fun v s1 h1=>cB h1 fun itv s2 h2=>?_);obtain⟨it,fp,tn,J,H2,e,I2,T,st2,f2,h2⟩:=h2;subst e;refine qCh ?_;have I3:Inv X pins σ (upd H2 s2.heap.objs.size (.lst [])) { s2 with heap:=s2.heap.push { cls:=.type "list",dict:=none,data:=.seq ([]:List qAf).toArray } } :=
  I2.laid (t':=s2.toks) (fun b u e=>qAi _ e) (qAg _) ⟨qBr _,[],0,.nil,qAs _ rfl⟩
 have hf:H2 s2.heap.objs.size=none:=I2.cH.fresh (qAg _);have lt:∀b∈fp,b≠s2.heap.objs.size:=fun b hb=>by
  obtain⟨o,ho,_⟩:=T.obj _ _ st2 b hb;exact qBd (qAr ho)
 have f3:∀b∈fp,iX X pins (upd H2 s2.heap.objs.size (.lst [])) b:=fun b hb=>⟨by rw[aM (lt b hb)];exact(f2 b hb).1,(f2 b hb).2⟩;generalize hs3:({ s2 with heap:=s2.heap.push { cls:=.type "list",dict:=none,data:=.seq ([]:List qAf).toArray } }:qAh)=s3 at I3|-;have kp3:∀b o,s2.heap.get? b=some o->s3.heap.get? b=some o:=fun b o e=>by
  rw[<- hs3];exact qAi _ e
 have hex:∀b∈fp,∃o,s3.heap.get? b=some o:=fun b hb=>by
  obtain⟨o,ho,_⟩:=T.obj _ _ st2 b hb;exact⟨o,kp3 b o ho⟩
 have st3:tn 0 s3.heap:=T.keep _ _ _ st2 fun b _ o e=>kp3 b o e;obtain⟨W,⟨m0,w0⟩,turn⟩:=h2 _ hf;refine wW B.Ie B.Mq (fun h₁ hns₁ hce₁ kp4=>?_);have J4:=wX I3 B f3 hex hns₁ hce₁ kp4 s3.toks;have st4:tn 0 h₁:=T.keep _ _ _ st3 fun b _ o e=>kp4 b o e;have stat:∀{H':Hp},(∀b∈fp,H' b=none)->∀b∈fp,iX (jR X NB sc cl y0 s3 (upd H2 s2.heap.objs.size (.lst [])) fp) [] H' b:=fun {H'} hn b hb=>by
  obtain⟨o,ho⟩:=hex b hb;refine⟨hn b hb,qBd (qAr ho),fun z=>?_,.inl hb,fun x a e=>(dQ e).elim (fun q z=>nS (qAr ho) (z.symm.trans q.2)) (fun e1=>(f2 b hb).2.2.2.2.1 x a (B.sub.of x a e1)),fun p hp=>absurd (show p∈([]:List (Addr×Obj)) from hp) (by simp)⟩;rcases List.mem_cons.mp (I2.j7 b z) with e | e
  ·exact(f2 b hb).2.1 e
  ·exact(f2 b hb).2.2.1 e
 have loop:qHi (qBz X.prog X.w) X.A (.compLoop (.ListComp elt [⟨target,iter,ifs,0⟩] sc pos) 0 (.ref it) (.ref s2.heap.objs.size) (jR X NB sc cl y0 s3 (upd H2 s2.heap.objs.size (.lst [])) fp).env)
   (qOu (qBz X.prog X.w) X.A X.xe use QV (.ref s2.heap.objs.size) s3.heap.objs.size) { s3 with heap:=h₁,toks:=s3.toks }:=by
  refine kR (fun n s'=>∃i σ' H',Inv (jR X NB sc cl y0 s3 (upd H2 s2.heap.objs.size (.lst [])) fp) [] σ' H' s'/\tn i s'.heap/\(∀b∈fp,H' b=none)/\W i n σ' H') ?_ m0 ⟨0,_,_,J4,st4,fun b hb=>(f3 b hb).1,w0⟩;rintro n s5 ⟨i,σ5,H5,I5,st5,fr5,w5⟩;rcases turn i n σ5 H5 w5 with ⟨stop,qn⟩ | ⟨go,N,hN,step⟩
  ·refine cB (T.done (jR X NB sc cl y0 s3 (upd H2 s2.heap.objs.size (.lst [])) fp) rfl rfl rfl hc i [] s5 σ5 H5 _ I5 (stat fr5) st5 stop) fun r s6 ⟨hr,I6⟩=>?_;subst hr;refine fin s2.heap.objs.size s3.heap.objs.size s6 H5 (Ca I3 f3 I6) qn I6.free (qBd I3.lt).symm I3.sz (fun x a e=>?_) (fun p hp=>?_) ?_
   ·obtain⟨v,o,ho,_⟩:=I3.cell x a e;exact qBd (qAr ho)
   ·exact qBd (qAr (I3.pin p hp).1)
   ·obtain⟨m,hn,_⟩:=I6.loc;exact⟨m,hn⟩
  ·refine cB (T.item (jR X NB sc cl y0 s3 (upd H2 s2.heap.objs.size (.lst [])) fp) rfl rfl rfl hc i [] s5 σ5 H5 _ I5 (stat fr5) st5 go) fun r s6 ⟨u,hr,h6⟩=>?_;subst hr;refine cB h6 fun _ s7 ⟨x,H7,I7,r7,y7,st7,fr7⟩=>?_;have I7':=I7.pinned (stat fr7) (T.obj _ _ st7);have qNe:∀{s9:qAh}{σ9:St}{H9:Hp},Inv (jR X NB sc cl y0 s3 (upd H2 s2.heap.objs.size (.lst [])) fp) ([]++lW fp s7.heap) σ9 H9 s9->N σ9 H9 ->
     ∃m,m<n/\∃i σ' H',Inv (jR X NB sc cl y0 s3 (upd H2 s2.heap.objs.size (.lst [])) fp) [] σ' H' s9/\tn i s9.heap/\(∀b∈fp,H' b=none)/\W i m σ' H':=fun {s9 σ9 H9} I9 n9=>by
    obtain⟨m',hm,w9⟩:=hN σ9 H9 n9;refine⟨m',hm,i+1,σ9,H9,I9.iY,T.keep _ _ _ st7 fun b hb o e=>(I9.pin (b,o) (qAu _ (qAu _ (fF hb e)))).1,fun b hb=>?_,w9⟩;obtain⟨o,e,d⟩:=T.obj _ _ st7 b hb;exact(I9.pin (b,o) (qAu _ (qAu _ (fF hb e)))).2.1
   refine cB (hg _ _ _ _ s7 σ5 H7 x u _ I7' r7 (step x H7 y7)) fun _ s8 ⟨σ8,H8,I8,q8⟩=>?_;refine cB (ht _ _ _ _ s8 σ8 H8 _ I8 q8) fun b s9 ⟨H9,I9,q9⟩=>?_;cases b with
   | false =>
    rw[if_neg qAm];exact qNe I9 (by rw[if_neg qAm] at q9;exact q9)
   | true =>
    rw[if_pos rfl] at q9|-;refine cB (he _ _ _ _ s9 σ8 H9 _ I9 q9) fun y s10 ⟨vy,H10,I10,r10,xs,hD,hl,q10⟩=>?_;refine cB (mB _ s10 σ8 H10 (.ref s2.heap.objs.size) [vy] (.ref s2.heap.objs.size) [y] (fun _ H'=>N σ8 H') I10 rfl (.cons r10 .nil) ⟨_,xs,vy,rfl,rfl,hD,hl,q10⟩) fun _ s11 ⟨_,H11,I11,_,q11⟩=>?_;exact qNe I11 q11
 refine codeAny_compStart_list loop (T.self _ 0 _ _ _ st4 loop)
theorem Cb {i:Nat}{x:Str}{pos' spos:Pos} (hN:X.N.Nodup) (hx1:X.N[i]?=some x) (hx2:Loc X.env.scope x)
  (hsw:qJz (.ListComp elt [⟨target,iter,ifs,0⟩] sc pos) (some (.Name x pos')) spos.line X.env=pure true) (B:Ax X NB pick sc cl y0) (hc:X.calm=true) (hi:PI X target iter wi)
  (hg:∀s₃ H₃ fp,PG (jR X NB sc cl y0 s₃ H₃ fp) target g) (ht:∀s₃ H₃ fp,uA (jR X NB sc cl y0 s₃ H₃ fp) ifs c) (he:∀s₃ H₃ fp,PE (jR X NB sc cl y0 s₃ H₃ fp) elt te)
  (hs:∀x,qFl iter X.env x=pure x:=by intro _;rfl) (hfn:X.fn x=true\/X.env.scope.names.lookup x=some .local:=by first|exact .inl rfl | exact .inr rfl | assumption) :
  PS X (.Assign [.Name x pos'] (.ListComp elt [⟨target,iter,ifs,0⟩] sc pos) spos) (fun D σ H=>t9 wi pick g c te σ H fun l H'=>D.nx (σ.set i (some (.ref l))) H'):=by
 intro pins s σ H D I h;rw[exec_Assign_Name_used _ _ _ _ hsw];refine qAa (qIg (qAa ?_));show qBg _ _ (do let _ <- qKc (.ListComp elt [⟨target,iter,ifs,0⟩] sc pos) sc X.env _ (qOl []) false (eval iter X.env) (some (qKf (.Name x pos') X.env))) _ _ s;refine qAa (cB (Ay (use:=some (qKf (.Name x pos') X.env)) (QV:=fun _ s'=>SP X pins D .next s') B hc hi hg ht he hs I h fun l C s' H' I' q c0 c1 c2 c3 c4 hn=>?_) fun _ s' hq=>qAe (qAe hq));obtain⟨m,hm⟩:=hn;show qBg _ _ (qKf (.Name x pos') X.env (.ref l)) _ _ _;refine wpAny_assign_Name (lV (v:=.ref l) I' hN hx1 hx2 rfl (fun s'' I'' ⟨a,hsb,ha⟩=>?_) hfn);have ne:C≠a:=by
  rcases ha with e | e
  ·rw[e];exact c1
  ·exact(c3 x a e).symm
 refine⟨m,hm.sameBut hsb ne,fun hh hsb2=>?_⟩;exact⟨_,H',I''.turned (t':=s''.toks) (fun b o hb e=>(hsb2.2 b hb).trans e) c0 c1 (.inr c2) c3 c4,q⟩
end
end L2
namespace HT
open PySem PyProof.Rows
section
open PySem.SeqAt
open PySem.AutoSeq1 (wpAny_loadPart')
open PySem.MeetsSeq PySem.MeetsSeq2 PySem.MeetsSeq3
end
section
variable {prog:qBl}{w:qCw}{A:qCq}{E:qAf->qAh->Prop}{s:qAh}
end
end HT
namespace L2
open PySem PySem.Spec PyProof.Rows
section
variable {X:Cx}
end
section
variable {X:Cx}
end
end L2
namespace PySem
section
variable {prog:qBl}{w:qCw}{K:Type} [DecidableEq K] {knd:HeapKind prog w K}{A:qCq}{E:qAf->qAh->Prop}{s:qAh}
end
section
variable {prog:qBl}{w:qCw}{K:Type} [DecidableEq K] {knd:KeyKind prog w K}{A:qCq}{E:qAf->qAh->Prop}{s:qAh}
end
end PySem
namespace L2
open PySem PySem.Spec PyProof.Rows
section
variable {X:Cx}
end
section
variable {X:Cx}
end
section
variable {X:Cx}
def FZ (K:qAc):R2:=fun x y H Q=>∃d d',gR K H x d/\gR K H y d'/\d.depth<=64/\d'.depth<=64/\Q (.bl (!PyData.eqv d d')) H
theorem EJ (hu:X.A.units+64<qLq):iG X (qDt .NotEq) (FZ X.K):=by
 intro pins s σ H x y v u Q I rx ry h;obtain⟨d,d',h1,h2,hd,hd',q⟩:=h;obtain⟨as,r1⟩:=h1.reads I rx;obtain⟨bs,r2⟩:=h2.reads I ry;have sh:SeqAt.shaped d=true:=by
  show(d.canLay0&&decide (d.depth<=64))=true;rw[h1.lay.1,decide_eq_true hd];rfl
 have sh':SeqAt.shaped d'=true:=by
  show(d'.canLay0&&decide (d'.depth<=64))=true;rw[h2.lay.1,decide_eq_true hd'];rfl
 exact ne_dataH r1 r2 sh sh' hu ⟨.bl (!PyData.eqv d d'),H,I,rfl,q⟩
end
end L2
set_option maxHeartbeats 4000000
namespace L2
open PySem PySem.Spec PyProof.Rows
section
variable {X:Cx}{pins:List (Addr×Obj)}{σ:St}{H:Hp}{s:qAh}
end
end L2
set_option maxHeartbeats 4000000
namespace PySem.W
open PySem PySem.Calls PyProof.Rows
namespace S6
end S6
end PySem.W
namespace L2
open PySem PySem.Spec PyProof.Rows PySem.W
section
variable {X:Cx}
end
end L2
set_option maxHeartbeats 4000000
namespace L2
open PySem PySem.Spec PyProof.Rows
section
variable {prog:qBl}{w:qCw}{A:qCq}{E:qAf->qAh->Prop}{s:qAh}{d it:Addr}{o:Obj}{es:Array DictEntry}{ep:Nat}
theorem Cc {Q:qAf->qAh->Prop} (hd:(d == qFk)=false) (ho:s.heap.get? d=some o) (hc:o.ExactDict) (hdat:o.data = .dict es ep)
  (hQ:Q (.ref s.heap.objs.size) { s with heap:=s.heap.push { cls:=.type "dict_keyiterator",data:=.fields #[.ref d,.int 0 0,.int es.size 0,.int ep 0] } }) :
  qBg (qBz prog w) A (qMp (.ref d)) Q E s:=by
 have hT:s.TypeIs (.ref d) "dict":=⟨o,ho,hc.1⟩;refine wpAny_pyIter_slot hT F.slot_dict_iter (qEa F.slot_dict_iter hT F.entry_dict_iter ?_ (F.args_dict_iter_1 _));unfold Builtin.«dict.__iter__»;refine qAa ?_;unfold Builtin.Dict.dictSlotNone;refine qAa (wpAny_notOrdered_dict hT ?_);show qBg _ _ (pure (Value.ref d)) _ _ s;refine qAe ?_;show qBg _ _ (Builtin.Dict.showsAll d >>= _) _ _ s;unfold Builtin.Dict.showsAll;rw[if_neg (by rw[hd];exact qAm)];refine qAa (qAe ?_);refine qAa (wpAny_dictEntries ho hdat ?_);refine qAa (wpAny_dictEpoch ho hdat ?_);refine qAa (qCh (qAe ⟨_,rfl,"dict_keyiterator",_,⟨_,qAs _ rfl,rfl⟩,F.slot_dict_keyiterator_next.lookup,?_⟩));simpa [qJg] using hQ
theorem Cd {i:Nat}{Q:Option qAf->qAh->Prop} (hit:s.heap.IsKeyIter it d i es.size ep) (hod:s.heap.get? d=some o) (hdd:o.data = .dict es ep) (hlt:i<es.size)
  (hQ:∀h',h'.IsKeyIter it d (i+1) es.size ep->qEy it s.heap h'->Q (some es[i].key) { s with heap:=h' }) :
  qBg (qBz prog w) A (qIv (.ref it)) Q E s:=by
 obtain⟨oi,ho,hc,hd⟩:=id hit;unfold qIv;refine qAa (qHc (qEf (name:=Str.ofString "__next__") hit.typeIs F.slot_dict_keyiterator_next
  (qEa F.slot_dict_keyiterator_next hit.typeIs F.entry_dict_keyiterator_next ?_ (F.args_dict_keyiterator_next_1 _))))
 refine qAa (qAe ?_);refine qAa ?_;refine qAa ?_;first | refine qAa (qEw hit.typeIs (qAe ?_)) | refine qAa (qFy hit.typeIs (qAe ?_))
 refine qAa (qJf ho hd ?_);have hown:Builtin.Dict_items.ownsTuple "dict_keyiterator"=false:=by decide
 simp only[hown,qFt,if_false];show qBg _ _ (if (Value.ref d == Value.none)=true then _ else _) _ _ s;rw[if_neg (show ¬((Value.ref d == Value.none)=true) from qAm)];refine qAa (qAe ?_);refine qAa (wpAny_dictEntries hod hdd ?_);rw[if_neg (by simp)];refine qAa (qAe ?_);refine qAa (wpAny_dictEpoch hod hdd ?_);rw[if_neg (by simp)];refine qAe ?_;simp only[show ¬((i:Int)<0) from by omega,if_false,qBi,qBp hlt];refine qAa ?_;first | refine qAa (qEw hit.typeIs (qAe ?_)) | refine qAa (qFy hit.typeIs (qAe ?_))
 refine qAa (wpAny_isOneOf_keyiter hit.typeIs ?_);show qBg _ _ (setField (.ref it) 1 (qJg ((i:Int)+1)) >>= _) _ _ s;refine qAa (qFr ho hd (by simp) ?_);have hit':(s.heap.update it (Obj.mapFields (·.setIfInBounds 1 (qJg ((i:Int)+1))))).IsKeyIter it d (i+1) es.size ep :=
  ⟨_,qDc _ ho (Obj.isFreed_of_fields (Obj.data_mapFields hd _)),(Obj.cls_mapFields ..).trans hc,by rw[Obj.data_mapFields hd];simp[qJg]⟩
 refine qAa (qDi ?_);refine qAa (wpAny_isOneOf_keyiter (s:={ s with heap:=s.heap.update it (Obj.mapFields (·.setIfInBounds 1 (qJg ((i:Int)+1)))) }) hit'.typeIs ?_);show qBg _ _ (pure es[i].key) _ _ _;exact qAe (qAe ⟨_,rfl,qAe (hQ _ hit' (Heap.SameBut.update ..))⟩)
theorem EK {i:Nat}{Q:Option qAf->qAh->Prop} (hh:A.handled=none) (hit:s.heap.IsKeyIter it d i es.size ep) (hod:s.heap.get? d=some o) (hdd:o.data = .dict es ep) (hge:es.size<=i)
  (hQ:∀h',qKm it s.heap h'->Q none { s with heap:=h' }):qBg (qBz prog w) A (qIv (.ref it)) Q E s:=by
 obtain⟨oi,ho,hc,hd⟩:=id hit;unfold qIv;refine qAa (qHc (qEf (name:=Str.ofString "__next__") hit.typeIs F.slot_dict_keyiterator_next
  (qEa F.slot_dict_keyiterator_next hit.typeIs F.entry_dict_keyiterator_next ?_ (F.args_dict_keyiterator_next_1 _))))
 refine qAa (qAe ?_);refine qAa ?_;refine qAa ?_;first | refine qAa (qEw hit.typeIs (qAe ?_)) | refine qAa (qFy hit.typeIs (qAe ?_))
 refine qAa (qJf ho hd ?_);have hown:Builtin.Dict_items.ownsTuple "dict_keyiterator"=false:=by decide
 simp only[hown,qFt,if_false];show qBg _ _ (if (Value.ref d == Value.none)=true then _ else _) _ _ s;rw[if_neg (show ¬((Value.ref d == Value.none)=true) from qAm)];refine qAa (qAe ?_);refine qAa (wpAny_dictEntries hod hdd ?_);rw[if_neg (by simp)];refine qAa (qAe ?_);refine qAa (wpAny_dictEpoch hod hdd ?_);rw[if_neg (by simp)];refine qAe ?_;simp only[show ¬((i:Int)<0) from by omega,if_false,qBi,qDs hge];refine qAa ?_;first | refine qAa (qEw hit.typeIs (qAe ?_)) | refine qAa (qFy hit.typeIs (qAe ?_))
 show qBg _ _ (setField (.ref it) 0 .none >>= _) _ _ s;refine qAa (qFr ho hd (by simp) ?_);show qBg _ _ (qPv (.type "StopIteration") [] >>= _) _ _ _;refine qAa ?_;simp only[qPv,newTuple];refine qAa (qCh ?_ (by size_fits));refine qAa (m:=qJh _ _) (qGk (a:=Value.none) (by first | rfl | (simp only[qJh];rfl)) ?_)
 refine qCh ?_ (by size_fits);simp only[raiseNew];refine qAa (wpAny_handled ?_);rw[show A.in1.handled=none from hh];refine qAa (qAe (wpAny_throw ?_));refine qAa (wpAny_isInstance (T:="StopIteration") (b:=true) ⟨_,qAs _ rfl,rfl⟩ isSubtype_stop ?_);exact qAe (hQ _ (((Heap.SameBut.update ..).extBut.push _).push _))
end
section
variable {X:Cx}{tg:Expr}
end
section
variable {K:qAc}{a:Addr}{xs:List V}{σ0:St}{H1:Hp}{g:TG}{c:TT}{te:TE}{Q:Addr->Hp->Prop}
end
section
variable {X:Cx}
theorem kZ (K:qAc){e:Expr}{f:Str}{ta:TE}{pos:Pos} (he:PE X e ta) (hb:qHd e f X.env (eval e X.env)=eval e X.env) (h:X.K=K:=by rfl):PE X (.Attribute e f pos) (LR K ta f):=by
 subst h;exact bT he hb
theorem Ce (K:qAc) (h:X.K=K:=by rfl):iG X (qFm .Add) (FV K):=by
 subst h;exact fV
end
section
variable {K:qAc}{a:Addr}{xs:List V}{lo:Int}{n:Nat}{σ0:St}{H1:Hp}{i0:Nat}{c:TT}{te:TE}{Q:Addr->Hp->Prop}
structure rX (f:Nat->List V) (H1:Hp) (D:Addr) (rs:List Addr) (H:Hp):Prop where
 at_:∀i r,rs[i]?=some r->H1 r=none/\r≠D/\H r=some (.lst (f i))
 nd:rs.Nodup
theorem rX.more {f:Nat->List V}{H1 H2 H3:Hp}{D r:Addr}{rs:List Addr} (h:rX f H1 D rs H2) (hs:aG H1 H2) (hd:H2 D=some (.lst (rs.map V.ref))) (s:aG H2 H3) (hr:H2 r=none) (e:H3 r=some (.lst (f rs.length))):rX f H1 D (rs++[r]) (upd H3 D (.lst ((rs++[r]).map V.ref))):=by
 have nD:r≠D:=fun z=>by rw[z,hd] at hr;cases hr
 refine⟨fun i q hq=>?_,?_⟩
 ·rcases qAk i rs.length with z1 | z1
  ·rw[qBb z1] at hq;obtain⟨a,b,c⟩:=h.at_ i q hq;exact⟨a,b,by rw[aM b];exact s _ _ c⟩
  ·rw[qAy z1] at hq;obtain⟨rfl,rfl⟩:i=rs.length/\r=q:=by
    rcases qEm (i-rs.length) with z | z
    ·rw[z] at hq;exact⟨by omega,Option.some.inj hq⟩
    ·rw[qBn (by show 1<=_;omega)] at hq;cases hq
   exact⟨hs.free hr,nD,by rw[aM nD];exact e⟩
 ·refine List.nodup_append.mpr ⟨h.nd,by simp,fun x hx y hy=>?_⟩;rw[qIz] at hy;subst hy;rintro rfl;obtain⟨i,hi⟩:=List.mem_iff_getElem?.mp hx;have z:=(h.at_ i x hi).2.2;rw[hr] at z;cases z
theorem Az (f:Nat->List V) (hn:n<=qAj)
  (step:∀(i:Nat) (H2:Hp) (k:VK) (k0:Hp->Prop),aG H1 H2->i<n->(∀r H3,aG H2 H3->H2 r=none->H3 r=some (.lst (f i))->k (.ref r) H3) ->
   c (σ0.set i0 (some (.int (lo+(i:Int))))) H2 fun b H4=>if b=true then te (σ0.set i0 (some (.int (lo+(i:Int))))) H4 k else k0 H4)
  (h:∀D rs H2,H1 D=none->aG H1 H2->rs.length=n->rX f H1 D rs H2->H2 D=some (.lst (rs.map V.ref))->Q D H2) :
  ∀D,H1 D=none->∃W:Nat->Nat->St->Hp->Prop,(∃m,W 0 m σ0 (upd H1 D (.lst [])))/\∀i m σ1 H2,W i m σ1 H2 ->
   ((pO lo n).stop i H2/\Q D H2)\/((pO lo n).go i H2/\∃N:St->Hp->Prop,(∀σ' H',N σ' H'->∃m',m'<m/\W (i+1) m' σ' H') /\
    ∀x H',(pO lo n).pR i H2 x H'->aX i0 x σ1 H' fun σ2 H3=>c σ2 H3 fun b H4=>if b=true then te σ2 H4 fun y H5=>∃xs,H5 D=some (.lst xs)/\xs.length<qAj/\N σ2 (upd H5 D (.lst (xs++[y]))) else N σ2 H4):=by
 intro D hD;refine⟨fun i m σ1 H2=>σ1.set i0 none=σ0.set i0 none/\aG H1 H2/\(∃rs:List Addr,rs.length=i/\rX f H1 D rs H2/\H2 D=some (.lst (rs.map V.ref)))/\i<=n/\m=n-i,⟨n,rfl,.aF hD,⟨[],rfl,⟨fun j y e=>(by cases e),qIo⟩,aC⟩,qBr _,rfl⟩,?_⟩;rintro i m σ1 H2 ⟨hσ,hs,⟨rs,hy,hR,hd⟩,hi,rfl⟩;have hset:∀v:Option V,σ1.set i0 v=σ0.set i0 v:=fun v=>by
  have z:=congrArg (fun l=>qHn l i0 v) hσ;simpa using z
 rcases qAk i n with hlt | hge
 ·right
  refine⟨hlt,fun σ' H'=>σ'.set i0 none=σ0.set i0 none/\aG H1 H'/\∃rs:List Addr,rs.length=i+1/\rX f H1 D rs H'/\H' D=some (.lst (rs.map V.ref)),fun σ' H' ⟨a,b,c⟩=>⟨n-(i+1),by omega,a,b,c,hlt,rfl⟩,?_⟩;rintro x H' ⟨rfl,rfl⟩;show c (σ1.set i0 (some (.int (lo+(i:Int))))) _ _;rw[hset];subst hy;refine step rs.length _ _ _ hs hlt fun r H3 hs3 hr e3=>⟨_,hs3 _ _ hd,by rw[qAb];omega,by simp,(hs.trans hs3).upd_ne' hD,rs++[r],by rw[qAo];rfl,?_,?_⟩
  ·have z:=hR.more hs hd hs3 hr e3;rw[qAt] at z;exact z
  ·rw[aC,qAt];rfl
 ·left
  obtain rfl:i=n:=qCt hi hge;exact⟨qAg _,h D rs _ hD hs hy hR hd⟩
theorem jH (f:Nat->List V) (hq:aT K H1 a xs) (hn:xs.length<=qAj)
  (step:∀(i:Nat) (x:V) (H2:Hp) (k:VK) (k0:Hp->Prop),aG H1 H2->xs[i]?=some x->(∀r H3,aG H2 H3->H2 r=none->H3 r=some (.lst (f i))->k (.ref r) H3) ->
   c (σ0.set i0 (some x)) H2 fun b H4=>if b=true then te (σ0.set i0 (some x)) H4 k else k0 H4)
  (h:∀D rs H2,H1 D=none->aG H1 H2->rs.length=xs.length->rX f H1 D rs H2->H2 D=some (.lst (rs.map V.ref))->Q D H2) :
  ∀D,H1 D=none->∃W:Nat->Nat->St->Hp->Prop,(∃m,W 0 m σ0 (upd H1 D (.lst [])))/\∀i m σ1 H2,W i m σ1 H2 ->
   ((yA K a).stop i H2/\Q D H2)\/((yA K a).go i H2/\∃N:St->Hp->Prop,(∀σ' H',N σ' H'->∃m',m'<m/\W (i+1) m' σ' H') /\
    ∀x H',(yA K a).pR i H2 x H'->aX i0 x σ1 H' fun σ2 H3=>c σ2 H3 fun b H4=>if b=true then te σ2 H4 fun y H5=>∃xs,H5 D=some (.lst xs)/\xs.length<qAj/\N σ2 (upd H5 D (.lst (xs++[y]))) else N σ2 H4):=by
 intro D hD;refine⟨fun i m σ1 H2=>σ1.set i0 none=σ0.set i0 none/\aG H1 H2/\(∃rs:List Addr,rs.length=i/\rX f H1 D rs H2/\H2 D=some (.lst (rs.map V.ref)))/\i<=xs.length/\m=xs.length-i,⟨xs.length,rfl,.aF hD,⟨[],rfl,⟨fun j y e=>(by cases e),qIo⟩,aC⟩,qBr _,rfl⟩,?_⟩;rintro i m σ1 H2 ⟨hσ,hs,⟨rs,hy,hR,hd⟩,hi,rfl⟩;have hset:∀v:Option V,σ1.set i0 v=σ0.set i0 v:=fun v=>by
  have z:=congrArg (fun l=>qHn l i0 v) hσ;simpa using z
 rcases qAk i xs.length with hlt | hge
 ·right
  refine⟨⟨xs,xs[i],hs.seq hq,by simp[hlt]⟩,fun σ' H'=>σ'.set i0 none=σ0.set i0 none/\aG H1 H'/\∃rs:List Addr,rs.length=i+1/\rX f H1 D rs H'/\H' D=some (.lst (rs.map V.ref)),fun σ' H' ⟨a,b,c⟩=>⟨xs.length-(i+1),by omega,a,b,c,hlt,rfl⟩,?_⟩;rintro x H' ⟨rfl,hx⟩;have hx:=hx xs (hs.seq hq);show c (σ1.set i0 (some x)) _ _;rw[hset];subst hy;refine step rs.length x _ _ _ hs hx fun r H3 hs3 hr e3=>⟨_,hs3 _ _ hd,by rw[qAb];omega,by simp,(hs.trans hs3).upd_ne' hD,rs++[r],by rw[qAo];rfl,?_,?_⟩
  ·have z:=hR.more hs hd hs3 hr e3;rw[qAt] at z;exact z
  ·rw[aC,qAt];rfl
 ·left
  obtain rfl:i=xs.length:=qCt hi hge;exact⟨⟨xs,hs.seq hq,qAg _⟩,h D rs _ hD hs hy hR hd⟩
end
section
variable {X:Cx}
def Mr (K:qAc):R2:=fun x y H Q=>∃d d',gR K H x d/\gR K H y d'/\d.depth<=64/\d'.depth<=64/\Q (.bl (PyData.eqv d d')) H
theorem EL (hu:X.A.units+64<qLq):iG X (qDt .Eq) (Mr X.K):=by
 intro pins s σ H x y v u Q I rx ry h;obtain⟨d,d',h1,h2,hd,hd',q⟩:=h;obtain⟨as,r1⟩:=h1.reads I rx;obtain⟨bs,r2⟩:=h2.reads I ry;have sh:SeqAt.shaped d=true:=by
  show(d.canLay0&&decide (d.depth<=64))=true;rw[h1.lay.1,decide_eq_true hd];rfl
 have sh':SeqAt.shaped d'=true:=by
  show(d'.canLay0&&decide (d'.depth<=64))=true;rw[h2.lay.1,decide_eq_true hd'];rfl
 exact eq_dataH r1 r2 sh sh' hu ⟨.bl (PyData.eqv d d'),H,I,rfl,q⟩
end
section
variable {K:qAc}{a a':Addr}{xs xs':List V}{lo:Int}{n:Nat}{σ0:St}{H1:Hp}{i0:Nat}{c:TT}{te:TE}{g:TG}{Q:Addr->Hp->Prop}
theorem AA (Iv:Nat->List V->Hp->Prop) (mono:∀i ys H H',kW H H'->Iv i ys H->Iv i ys H') (h0:Iv 0 [] H1) (hq:aT K H1 a xs) (hn:xs.length<=qAj)
  (step:∀(i:Nat) (x:V) (H2:Hp) (k:VK) (k0:Hp->Prop) (ys:List V),aG H1 H2->xs[i]?=some x->Iv i ys H2->(∀y H3,aG H2 H3->Iv (i+1) (ys++[y]) H3->k y H3)->(∀H3,aG H2 H3->Iv (i+1) ys H3->k0 H3) ->
   c (σ0.set i0 (some x)) H2 fun b H4=>if b=true then te (σ0.set i0 (some x)) H4 k else k0 H4)
  (h:∀D ys H2,H1 D=none->aG H1 H2->Iv xs.length ys H2->H2 D=some (.lst ys)->Q D H2) :
  ∀D,H1 D=none->∃W:Nat->Nat->St->Hp->Prop,(∃m,W 0 m σ0 (upd H1 D (.lst [])))/\∀i m σ1 H2,W i m σ1 H2 ->
   ((yA K a).stop i H2/\Q D H2)\/((yA K a).go i H2/\∃N:St->Hp->Prop,(∀σ' H',N σ' H'->∃m',m'<m/\W (i+1) m' σ' H') /\
    ∀x H',(yA K a).pR i H2 x H'->aX i0 x σ1 H' fun σ2 H3=>c σ2 H3 fun b H4=>if b=true then te σ2 H4 fun y H5=>∃xs,H5 D=some (.lst xs)/\xs.length<qAj/\N σ2 (upd H5 D (.lst (xs++[y]))) else N σ2 H4):=by
 intro D hD;refine⟨fun i m σ1 H2=>σ1.set i0 none=σ0.set i0 none/\aG H1 H2/\(∃ys,ys.length<=i/\Iv i ys H2/\H2 D=some (.lst ys))/\i<=xs.length/\m=xs.length-i,⟨xs.length,rfl,.aF hD,⟨[],qAg _,mono _ _ _ _ (aG.aF hD).t h0,aC⟩,qBr _,rfl⟩,?_⟩;rintro i m σ1 H2 ⟨hσ,hs,⟨ys,hy,hR,hd⟩,hi,rfl⟩;have hset:∀v:Option V,σ1.set i0 v=σ0.set i0 v:=fun v=>by
  have z:=congrArg (fun l=>qHn l i0 v) hσ;simpa using z
 rcases qAk i xs.length with hlt | hge
 ·right
  refine⟨⟨xs,xs[i],hs.seq hq,by simp[hlt]⟩,fun σ' H'=>σ'.set i0 none=σ0.set i0 none/\aG H1 H'/\∃ys,ys.length<=i+1/\Iv (i+1) ys H'/\H' D=some (.lst ys),fun σ' H' ⟨a,b,c⟩=>⟨xs.length-(i+1),by omega,a,b,c,hlt,rfl⟩,?_⟩;rintro x H' ⟨rfl,hx⟩;have hx:=hx xs (hs.seq hq);show c (σ1.set i0 (some x)) _ _;rw[hset];refine step i x _ _ _ ys hs hx hR (fun y H3 hs3 hR3=>⟨_,hs3 _ _ hd,by omega,?_,(hs.trans hs3).upd_ne' hD,ys++[y],by rw[qAo];show _+1<=_;omega,mono _ _ _ _ (.lst (hs3 _ _ hd)) hR3,aC⟩) fun H3 hs3 hR3=>⟨?_,hs.trans hs3,ys,by omega,hR3,hs3 _ _ hd⟩
  ·simp
  ·simp
 ·left
  obtain rfl:i=xs.length:=qCt hi hge;exact⟨⟨xs,hs.seq hq,qAg _⟩,h D ys _ hD hs hR hd⟩
theorem mF (Ag:St->Prop) (Iv:Nat->List V->Hp->Prop) (mono:∀i ys H H',kW H H'->Iv i ys H->Iv i ys H') (h0:Ag σ0) (h00:Iv 0 [] H1) (hq:aT K H1 a xs) (hq':aT K H1 a' xs') (hlen:xs.length=xs'.length) (hn:xs.length<=qAj)
  (step:∀(i:Nat) (x y:V) (t:Addr) (σ1:St) (H2:Hp) (k:St->VK) (k0:St->Hp->Prop) (ys:List V),Ag σ1->aG H1 H2->xs[i]?=some x->xs'[i]?=some y->H2 t=some (.tup [x,y])->Iv i ys H2->(∀σ2 z H3,Ag σ2->aG H2 H3->Iv (i+1) (ys++[z]) H3->k σ2 z H3)->(∀σ2 H3,Ag σ2->aG H2 H3->Iv (i+1) ys H3->k0 σ2 H3) ->
   g (.ref t) σ1 H2 fun σ2 H3=>c σ2 H3 fun b H4=>if b=true then te σ2 H4 (k σ2) else k0 σ2 H4)
  (h:∀D ys H2,H1 D=none->aG H1 H2->Iv xs.length ys H2->H2 D=some (.lst ys)->Q D H2) :
  ∀D,H1 D=none->∃W:Nat->Nat->St->Hp->Prop,(∃m,W 0 m σ0 (upd H1 D (.lst [])))/\∀i m σ1 H2,W i m σ1 H2 ->
   ((yR K a a').stop i H2/\Q D H2)\/((yR K a a').go i H2/\∃N:St->Hp->Prop,(∀σ' H',N σ' H'->∃m',m'<m/\W (i+1) m' σ' H') /\
    ∀x H',(yR K a a').pR i H2 x H'->g x σ1 H' fun σ2 H3=>c σ2 H3 fun b H4=>if b=true then te σ2 H4 fun y H5=>∃xs,H5 D=some (.lst xs)/\xs.length<qAj/\N σ2 (upd H5 D (.lst (xs++[y]))) else N σ2 H4):=by
 intro D hD;refine⟨fun i m σ1 H2=>Ag σ1/\aG H1 H2/\(∃ys,ys.length<=i/\Iv i ys H2/\H2 D=some (.lst ys))/\i<=xs.length/\m=xs.length-i,⟨xs.length,h0,.aF hD,⟨[],qAg _,mono _ _ _ _ (aG.aF hD).t h00,aC⟩,qBr _,rfl⟩,?_⟩;rintro i m σ1 H2 ⟨hσ,hs,⟨ys,hy',hR,hd⟩,hi,rfl⟩;rcases qAk i xs.length with hlt | hge
 ·right
  have hlt':i<xs'.length:=hlen▸hlt;refine⟨⟨xs,xs',xs[i],xs'[i],hs.seq hq,hs.seq hq',by simp[hlt],by simp[hlt']⟩,fun σ' H'=>Ag σ'/\aG H1 H'/\∃ys,ys.length<=i+1/\Iv (i+1) ys H'/\H' D=some (.lst ys),fun σ' H' ⟨a,b,c⟩=>⟨xs.length-(i+1),by omega,a,b,c,hlt,rfl⟩,?_⟩;rintro v H' ⟨t,x,y,rfl,ht,rfl,hx,hy⟩;have hx:=hx xs (hs.seq hq);have hy:=hy xs' (hs.seq hq');have hst:aG H1 (upd H2 t (.tup [x,y])):=hs.trans (.aF ht);have hdt:=aG.aF (o:=.tup [x,y]) ht _ _ hd;refine step i x y t σ1 _ (fun σ2 y H5=>∃xs,H5 D=some (.lst xs)/\xs.length<qAj/\_) _ ys hσ hst hx hy aC (mono _ _ _ _ (aG.aF ht).t hR) (fun σ2 z H3 a2 hs3 hR3=>⟨_,hs3 _ _ hdt,by omega,a2,(hst.trans hs3).upd_ne' hD,ys++[z],by rw[qAo];show _+1<=_;omega,mono _ _ _ _ (.lst (hs3 _ _ hdt)) hR3,aC⟩) fun σ2 H3 a2 hs3 hR3=>⟨a2,hst.trans hs3,ys,by omega,hR3,hs3 _ _ hdt⟩
 ·left
  obtain rfl:i=xs.length:=qCt hi hge;exact⟨⟨xs,xs',hs.seq hq,hs.seq hq',.inl (qAg _)⟩,h D ys _ hD hs hR hd⟩
end
section
variable {X:Cx}
def eD (lo:Int) (n:Nat):List V:=(qAl n).map fun(i:Nat)=>V.int (lo+(i:Int))
def Oo (ta:TA):TE:=fun σ H Q=>ta σ H fun vs H1=>∃(lo hi:Int) (n:Nat),vs=[.int lo,.int hi]/\hi=lo+(n:Int)/\n<=1000/\-(2^61)<=lo/\lo<2^61/\∀p,H1 p=none->Q (.ref p) (upd H1 p (.lst (eD lo n)))
theorem jX {a b:Expr}{ta:TA}{p p' pos pos':Pos} (hg:Gl X "list") (hm:X.mg "list"=none) (hg':Gl X "range") (hm':X.mg "range"=none) (hc:X.calm=true) (ha:PA X [a,b] ta)
  (hs:qBt [a,b] X.env=[(false,eval a X.env),(false,eval b X.env)]:=by rfl) (hs2:qBt [b] X.env=[(false,eval b X.env)]:=by rfl) (hs':qBt [.Call (.Name "range" p') [a,b] [] pos'] X.env=[(false,eval (.Call (.Name "range" p') [a,b] [] pos') X.env)]:=by rfl) :
  PE X (.Call (.Name "list" p) [.Call (.Name "range" p') [a,b] [] pos'] [] pos) (Oo ta):=by
 intro pins s σ H Q I h;refine qNy (fE I hg hm cX (qCb ?_ hs' rfl));rw[hs'];show qBg _ _ (qOk ((false,eval (.Call (.Name "range" p') [a,b] [] pos') X.env)::[])) _ _ s;refine qGt ?_;refine qNy (fE I hg' hm' boot_range (qCb (cB (ha pos' pins s σ H _ I h) fun us s1 ⟨vs,H1,I1,r1,q1⟩=>?_) (by rw[hs,hs2]) (by rw[hs2];rfl)));obtain⟨lo,hi,n,e,ehi,hn,l1,l2,q⟩:=q1;subst e;obtain⟨u,u',rfl,⟨t,rfl⟩,⟨t',rfl⟩⟩:=vals2 r1;refine call_range_2 ?_;refine qHg ?_;refine call_list_range (I1.ok.hd hc) (IsRange.new ..) (small_one (by omega) (by omega) (by omega) (by omega)) (n:=n) (by rw[rangeSize_one];split <;> omega) (by omega) fun h' tk acc c hk hS hacc=>?_;have hk2:∀b o,s1.heap.get? b=some o->h'.get? b=some o:=fun b o e=>hk b o (qAi _ e);have vv:Vals (eD lo n) acc.toList:=by
  refine kX (by unfold eD;rw[qAb,qAw,qBs,hacc.1]) fun i x u hx hu=>?_;have hi:i<n:=by
   obtain⟨z,_⟩:=List.getElem?_eq_some_iff.mp hx;unfold eD at z;rw[qAb,qAw] at z;exact z
  unfold eD at hx;rw[qAp,qCz hi] at hx;obtain rfl:V.int (lo+(i:Int))=x:=Option.some.inj hx;obtain⟨t',rfl⟩:=hacc.2 i u (by simpa using hu);exact⟨t',by rw[qFa]⟩
 refine⟨.ref _,_,I1.laid (o:=.lst (eD lo n)) (t':=tk) hk2 ?_ ?_,rfl,q _ (I1.cH.fresh ?_)⟩
 ·rw[qDe];exact qEz _
 ·refine⟨by unfold eD;rw[qAb,qAw];exact qAn (aK hn),acc.toList,c,vv,by simpa using hS⟩
 ·rw[qDe];exact qEz _
theorem oM (K:qAc) (hu:X.A.units+64<qLq) (h:X.K=K:=by rfl):iG X (qDt .NotEq) (FZ K):=by
 subst h;exact EJ hu
end
section
variable {K:qAc}{lo:Int}{n:Nat}{σ0:St}{H1:Hp}{i0:Nat}{c:TT}{te:TE}{Q:Addr->Hp->Prop}
theorem qC (Iv:Nat->List V->Hp->Prop) (mono:∀i ys H H',kW H H'->Iv i ys H->Iv i ys H') (h0:Iv 0 [] H1) (hn:n<=qAj)
  (step:∀(i:Nat) (H2:Hp) (k:VK) (k0:Hp->Prop) (ys:List V),aG H1 H2->i<n->Iv i ys H2->(∀y H3,aG H2 H3->Iv (i+1) (ys++[y]) H3->k y H3)->(∀H3,aG H2 H3->Iv (i+1) ys H3->k0 H3) ->
   c (σ0.set i0 (some (.int (lo+(i:Int))))) H2 fun b H4=>if b=true then te (σ0.set i0 (some (.int (lo+(i:Int))))) H4 k else k0 H4)
  (h:∀D ys H2,H1 D=none->aG H1 H2->Iv n ys H2->H2 D=some (.lst ys)->Q D H2) :
  ∀D,H1 D=none->∃W:Nat->Nat->St->Hp->Prop,(∃m,W 0 m σ0 (upd H1 D (.lst [])))/\∀i m σ1 H2,W i m σ1 H2 ->
   ((pO lo n).stop i H2/\Q D H2)\/((pO lo n).go i H2/\∃N:St->Hp->Prop,(∀σ' H',N σ' H'->∃m',m'<m/\W (i+1) m' σ' H') /\
    ∀x H',(pO lo n).pR i H2 x H'->aX i0 x σ1 H' fun σ2 H3=>c σ2 H3 fun b H4=>if b=true then te σ2 H4 fun y H5=>∃xs,H5 D=some (.lst xs)/\xs.length<qAj/\N σ2 (upd H5 D (.lst (xs++[y]))) else N σ2 H4):=by
 intro D hD;refine⟨fun i m σ1 H2=>σ1.set i0 none=σ0.set i0 none/\aG H1 H2/\(∃ys,ys.length<=i/\Iv i ys H2/\H2 D=some (.lst ys))/\i<=n/\m=n-i,⟨n,rfl,.aF hD,⟨[],qAg _,mono _ _ _ _ (aG.aF hD).t h0,aC⟩,qBr _,rfl⟩,?_⟩;rintro i m σ1 H2 ⟨hσ,hs,⟨ys,hy,hR,hd⟩,hi,rfl⟩;have hset:∀v:Option V,σ1.set i0 v=σ0.set i0 v:=fun v=>by
  have z:=congrArg (fun l=>qHn l i0 v) hσ;simpa using z
 rcases qAk i n with hlt | hge
 ·right
  refine⟨hlt,fun σ' H'=>σ'.set i0 none=σ0.set i0 none/\aG H1 H'/\∃ys,ys.length<=i+1/\Iv (i+1) ys H'/\H' D=some (.lst ys),fun σ' H' ⟨a,b,c⟩=>⟨n-(i+1),by omega,a,b,c,hlt,rfl⟩,?_⟩;rintro x H' ⟨rfl,rfl⟩;show c (σ1.set i0 (some (.int (lo+(i:Int))))) _ _;rw[hset];refine step i _ _ _ ys hs hlt hR (fun y H3 hs3 hR3=>⟨_,hs3 _ _ hd,by omega,?_,(hs.trans hs3).upd_ne' hD,ys++[y],by rw[qAo];show _+1<=_;omega,mono _ _ _ _ (.lst (hs3 _ _ hd)) hR3,aC⟩) fun H3 hs3 hR3=>⟨?_,hs.trans hs3,ys,by omega,hR3,hs3 _ _ hd⟩
  ·simp
  ·simp
 ·left
  obtain rfl:i=n:=qCt hi hge;exact⟨qAg _,h D ys _ hD hs hR hd⟩
end
section
variable {prog:qBl}{w:qCw}{A:qCq}{E:qAf->qAh->Prop}{s:qAh}
theorem jY:isSeqSlotId "list.__iadd__"=true:=by decide +kernel
theorem iA {M:qNx}{a b:qAf}{Q:qAf->qAh->Prop} (ha:s.TypeIs a "list") (hb:s.TypeIs b "list")
  (hc:qBg M A (call (.builtin "list.__iadd__") [a,b]) Q E s):qBg M A (qNw .Add a b) Q E s:=by
 unfold qNw;refine qDi ?_;have hl:qMn (.type "list") (dunderI "add")=pure (some (.builtin "list.__iadd__")):=PySem.F.slot_list_iadd.lookup;have hfi:fillsInplaceSlot (.type "list") "add" (Operator.Add == .Add)=pure false:=by
  unfold fillsInplaceSlot;show(qMn (.type "list") (dunderI "add") >>= fun fi=>pure (fi.isSome && !isSeqSlot fi))=pure false;rw[hl];show(pure (true && !isSeqSlotId "list.__iadd__"):Sem Bool)=pure false;rw[jY];rfl
 have hsi:seqSlot? (.type "list") (dunderI "add")=pure (some (.builtin "list.__iadd__")):=by
  unfold seqSlot?;rw[hl];show((if (!isSeqSlotId "list.__iadd__")=true then pure none else pure (some (.builtin "list.__iadd__")):Sem (Option qAf)))=_;rw[jY];rfl
 refine qAa (qHp ha (qAa (qGk hfi ?_)));show qBg M A (if false=true then _ else _) Q E s;rw[if_neg qAm];refine qAa (wpAny_binaryOp1_none (nm:="add") ha hb noFill_list_add ?_);refine qAa (qGk hsi ?_);exact qAa (qGj hc)
end
section
variable {X:Cx}
def Px:NA:=fun x y H Q=>∃l b xs zs,x = .ref l/\y = .ref b/\H l=some (.lst xs)/\H b=some (.lst zs)/\xs.length+zs.length<=qAj/\Q (.ref l) (upd H l (.lst (xs++zs)))
theorem nT:NU X .Add Px:=by
 intro pins s σ H x y v u Q I rx ry h;obtain⟨l,b,xs,zs,rfl,rfl,hH,hB,hz,q⟩:=h;cases rx;cases ry;obtain⟨z,its,n,r,hl,e⟩:=I.Ey hH;obtain⟨z2,its2,n2,r2,hl2,e2⟩:=I.Ey hB;have hsz:its.toArray.size+its2.toArray.size<=qAj:=by rw[qAv,qAv];omega
 have hlong:¬(!its.toArray.isEmpty&&Builtin.List.listTooLong (its.toArray.size+its2.toArray.size))=true:=by
  rw[t6 hsz,qIp];exact qAm
 refine iA ⟨_,e,rfl⟩ ⟨_,e2,rfl⟩ (qJc F.slot_list_iadd ⟨_,e,rfl⟩ F.entry_list_iadd (F.args_list_iadd_2 _ _)
  (AutoSeq1.list___iadd___list_list_0 l its.toArray n b its2.toArray n2 hlong (by rw[qAv];omega) (by omega)) ⟨e,e2,?_⟩)
 refine⟨.ref l,_,I.LZ (its':=its++its2) hH e (by simp) (r.append r2) ?_,rfl,q⟩;rw[qAo];omega
theorem EM (K:qAc) (hu:X.A.units+64<qLq) (h:X.K=K:=by rfl):iG X (qDt .NotEq) (HP K (!·)):=by
 subst h;exact HQ hu
def EN (K:qAc):V->List V->Hp->VK->Prop:=fun x vs H Q=>∃(p:Addr) (bs:List Bool) (j:Nat),x = .ref p/\vs=[.bl true]/\aT K H p (bs.map V.bl)/\bs[j]?=some true/\(∀m,m<j->bs[m]?=some false)/\Q (.int (j:Nat)) H
def eqB (u:qAf):Bool:=match u with
 | .bool b=>b
 | _=>false
theorem AB (K:qAc) (hK:X.K=K):Lq X "list.index" (EN K):=by
 subst hK;intro pins s σ H x vs v us Q I rx rv h;obtain⟨p,bs,j,rfl,rfl,hq,hj,hno,q⟩:=h;cases rx;obtain⟨u,rfl,ru⟩:=rv.one;obtain rfl:u=Value.bool true:=ru;obtain⟨its,r',pl,hz⟩:=I.list hq;obtain⟨⟨oc,od,odt,osl⟩,h1,h2,n,h3⟩:=id pl.isList;dsimp only at h2 h3;subst h2 h3;have at_:∀(m:Nat) (k:Bool),bs[m]?=some k->its[m]?=some (.bool k):=fun m k hm=>by
  obtain⟨u,hu,ru⟩:=r'.get (i:=m) (x:=.bl k) (by rw[qAp,hm];rfl);obtain rfl:u=Value.bool k:=ru;exact hu
 have hl:=r'.length;rw[qAb] at hl;have ht1:=at_ j true hj;have hjl:j<its.length:=by
  rcases qAk j its.length with z | z
  ·exact z
  ·rw[qBn z] at ht1;cases ht1
 refine qJc F.slot_list_index ⟨_,h1,rfl⟩ F.entry_list_index (F.args_list_index_2 _ _) (SeqAt.list_indexAt p its.toArray n od osl (.bool true) eqB j (by simpa using hjl) (by rw[qAb,qCf] at hz;omega) ?_ fun m hm hmj=>?_) ⟨h1,fun y hy=>?_,?_⟩
 ·have e:its.toArray[j]'(by simpa using hjl) = .bool true:=by
   have:=qAd hjl;rw[ht1] at this;simpa using (Option.some.inj this).symm
  rw[e];rfl
 ·have hml:m<its.length:=by simpa using hm
  have ht2:=at_ m _ (hno m hmj);have e:its.toArray[m]'hm = .bool false:=by
   have:=qAd hml;rw[ht2] at this;simpa using (Option.some.inj this).symm
  rw[e];rfl
 ·have hy':y∈its:=by simpa using hy
  obtain⟨m,hm,e⟩:=qCy hy';have hmn:m<bs.length:=by omega
  have ht2:=at_ m _ (qAd hmn);rw[qAd hm,e] at ht2;obtain rfl:y = .bool bs[m]:=Option.some.inj ht2;have ee:eqB (.bool bs[m])=(bs[m] == true):=by cases bs[m] <;> rfl
  rw[ee];exact SeqAt.EqAt.bool_bool _ _
 ·exact⟨.int (j:Nat),H,I.tok _,⟨_,rfl⟩,q⟩
end
theorem k4 {α β:Type}{R:α->β->Prop}:∀{l:List α}{m:List β},Paired R l m->∀{i:Nat}{x:α},l[i]?=some x->∃y,m[i]?=some y/\R x y
 | _,_,.nil,i,x,e=>by cases i <;> cases e
 | _,_,.cons h t,0,x,e=>⟨_,rfl,by rw[<- Option.some.inj e];exact h⟩
 | _,_,.cons h t,i+1,x,e=>k4 t (i:=i) e
theorem uH {P:qBl}{w:qCw}{k:Key}{v:qAf} (h:(bW P w).is k v=true):RelV (kV k) v:=by
 rcases cJ h with ⟨i,t,rfl,rfl⟩ | ⟨x,t,rfl,rfl⟩
 ·exact⟨t,rfl⟩
 ·exact⟨t,rfl⟩
theorem yV {P:qBl}{w:qCw}{h:Heap}{a:Addr}{vs:List (Key×qAf)} (d:h.DictOf (bW P w) a vs):∃ep,h.DictAt (bW P w) a vs ep:=by
 obtain⟨o,es,ep,r⟩:=d;exact⟨ep,o,es,r⟩
theorem AD {P:qBl}{w:qCw}{kvs:List (Key×V)}{vs:List (Key×qAf)} (r:KV kvs vs){its:List qAf} (hl:its.length=vs.length) (h:∀(i:Nat) (v:qAf),its[i]?=some v->∃k x,vs[i]?=some (k,x)/\(bW P w).is k v=true):Vals (kvs.map fun kv=>kV kv.1) its:=by
 have rl:=Paired.length r;refine kX (by rw[qAb];omega) fun i x u hx hu=>?_;obtain⟨k,y,e1,e2⟩:=h i u hu;rw[qAp] at hx;cases e:kvs[i]? with
 | none=>rw[e] at hx;cases hx
 | some kv =>
  rw[e] at hx;obtain rfl:kV kv.1=x:=Option.some.inj hx;obtain⟨q,hq,rq⟩:=k4 r e;rw[e1] at hq;obtain rfl:(k,y)=q:=Option.some.inj hq;rw[show kv.1=k from rq.1];exact uH e2
theorem AE {kvs:List (Key×V)}{vs:List (Key×qAf)} (r:KV kvs vs){its:List qAf} (hl:its.length=vs.length) (h:∀(i:Nat) (v:qAf),its[i]?=some v->∃k,vs[i]?=some (k,v)):Vals (kvs.map fun kv=>kv.2) its:=by
 have rl:=Paired.length r;refine kX (by rw[qAb];omega) fun i x u hx hu=>?_;obtain⟨k,e1⟩:=h i u hu;rw[qAp] at hx;cases e:kvs[i]? with
 | none=>rw[e] at hx;cases hx
 | some kv =>
  rw[e] at hx;obtain rfl:kv.2=x:=Option.some.inj hx;obtain⟨q,hq,rq⟩:=k4 r e;rw[e1] at hq;obtain rfl:(k,u)=q:=Option.some.inj hq;exact rq.2
section
variable {X:Cx}
theorem fW (hc:X.calm=true):gA X (.type "list") (fun xs H Q=>∃a kvs,xs=[.ref a]/\Rd H a (.dK kvs)/\∀l,H l=none->Q (.ref l) (upd H l (.lst (kvs.map fun kv=>kV kv.1)))):=by
 intro pins s σ H xs us Q I r h;obtain⟨a,kvs,rfl,hq,q⟩:=h;obtain⟨u,rfl,rx⟩:=vals1 r;cases rx;obtain⟨z,hd,vs,rel,dd⟩:=qB I.cH hq;obtain⟨ep,da⟩:=yV dd;have rl:=Paired.length rel;refine qMh (PySem.W.kdl_dict (knd:=bW X.prog X.w) hd) (I.ok.hd hc) da (by omega) fun h' tk acc c kp e hacc=>?_;refine⟨.ref s.heap.objs.size,_,I.laid (t':=tk) kp (qAg _) (show cS X.prog X.w _ h' _ (.lst (kvs.map fun kv=>kV kv.1)) from⟨by rw[qAb];exact z,acc.toList,c,AD rel (by rw[qBs];exact hacc.1) fun i v hv=>hacc.2 i v (by rw[<- qDm];exact hv),by simpa using e⟩),rfl,q _ (I.cH.fresh (qAg _))⟩
def Py (td:TE):TE:=fun σ H Q=>td σ H fun x H1=>∃a kvs,x = .ref a/\Rd H1 a (.dK kvs)/\∀l,H1 l=none->Q (.ref l) (upd H1 l (.lst (kvs.map fun kv=>kv.2)))
theorem g7 {o:Expr}{td:TE}{p pos apos cpos:Pos} (hg:Gl X "list") (hm:X.mg "list"=none) (hc:X.calm=true) (ho:PE X o td)
  (hbase:qHd o "values" X.env (eval o X.env)=eval o X.env:=by rfl) (hline:(apos.endLine == cpos.line)=true:=by rfl)
  (hs:qBt [.Call (.Attribute o "values" apos) [] [] cpos] X.env=[(false,eval (.Call (.Attribute o "values" apos) [] [] cpos) X.env)]:=by rfl) :
  PE X (.Call (.Name "list" p) [.Call (.Attribute o "values" apos) [] [] cpos] [] pos) (Py td):=by
 intro pins s σ H Q I h;refine qNy (fE I hg hm cX (qCb ?_ hs rfl));rw[hs];show qBg _ _ (qOk ((false,eval (.Call (.Attribute o "values" apos) [] [] cpos) X.env)::[])) _ _ s;refine qGt ?_;refine wpAny_Call_method0_late hbase hline (cB (ho pins s σ H _ I h) fun v s1 ⟨x,H1,I1,r1,q1⟩=>?_);obtain⟨a,kvs,ex,hq,q⟩:=q1;subst ex;cases r1;obtain⟨z,hd,vs,rel,dd⟩:=qB I1.cH hq;have rl:=Paired.length rel;refine⟨"dict","dict.values",PySem.F.plainAttrs_dict,qKg,PySem.F.type_dict_values,dd.typeIs,fun b e=>?_,qLf rfl (PySem.evalArgs_none ?_)⟩
 ·cases e
  obtain⟨o,es,ep,g1,g2,_⟩:=id dd;exact⟨o,g1,g2.2.1⟩
 refine call_meetsIn qKg dd.typeIs PySem.F.entry_dict_values (PySem.F.args_dict_values_1 _) (meets_dict_values (bW X.prog X.w) a hd) ⟨⟨vs,dd⟩,?_⟩;refine qHg ?_;have kp1:∀b o,s1.heap.get? b=some o->(s1.heap.push { cls:=.type "dict_values",data:=.fields #[.ref a] }).get? b=some o:=fun b o e=>qAi _ e;obtain⟨ep,da⟩:=yV dd;have I2:Inv X pins σ H1 { s1 with heap:=s1.heap.push { cls:=.type "dict_values",data:=.fields #[.ref a] } }:=I1.kept (t':=s1.toks) kp1;have vw:(s1.heap.push { cls:=.type "dict_values",data:=.fields #[.ref a] }).IsValuesView s1.heap.objs.size a:=⟨_,qAs _ rfl,rfl,rfl⟩;have da2:(s1.heap.push { cls:=.type "dict_values",data:=.fields #[.ref a] }).DictAt (bW X.prog X.w) a vs ep:=da.at' fun o e=>kp1 _ _ e;refine qMh (s:={ s1 with heap:=s1.heap.push { cls:=.type "dict_values",data:=.fields #[.ref a] } }) (PySem.W.kdl_values (knd:=bW X.prog X.w)) (I2.ok.hd hc) ⟨vw,da2⟩ (by omega) fun h' tk acc c kp e hacc=>?_;refine⟨.ref _,_,I2.laid (t':=tk) kp (qAg _) (show cS X.prog X.w _ h' _ (.lst (kvs.map fun kv=>kv.2)) from⟨by rw[qAb];exact z,acc.toList,c,AE rel (by rw[qBs];exact hacc.1) fun i v hv=>hacc.2 i v (by rw[<- qDm];exact hv),by simpa using e⟩),rfl,q _ (I2.cH.fresh (qAg _))⟩
end
end L2
namespace L2
namespace ST
open PySem
def rY (xs:Array Nat):Prop:=∀(i j a b:Nat),xs[i]?=some a->xs[j]?=some b->i<j->a<b
theorem Ms (xs:Array Nat) (j:Nat) (hr:rY xs):∀(f lo hi:Nat),hi-lo<=f->lo<=hi->hi<=xs.size ->
  (∀i a,i<lo->xs[i]?=some a->a<j)->(∀i a,hi<=i->xs[i]?=some a->j<=a) ->
  SetTable.below.go xs j f lo hi<=xs.size/\(∀i a,i<SetTable.below.go xs j f lo hi->xs[i]?=some a->a<j)/\(∀i a,SetTable.below.go xs j f lo hi<=i->xs[i]?=some a->j<=a):=by
 intro f;induction f with
 | zero =>
  intro lo hi h1 h2 h3 h4 h5;have e:lo=hi:=by omega
  subst e;exact⟨h3,h4,h5⟩
 | succ f ih =>
  intro lo hi h1 h2 h3 h4 h5;unfold SetTable.below.go;by_cases hl:lo<hi
  ·rw[if_pos hl];have hm:(lo+hi)/2<xs.size:=by omega
   have em:xs[(lo+hi)/2]?=some xs[(lo+hi)/2]:=qBp hm;have ed:xs.getD ((lo+hi)/2) j=xs[(lo+hi)/2]:=by
    rw[Array.getD_eq_getD_getElem?,em];rfl
   dsimp only;by_cases hc:xs.getD ((lo+hi)/2) j<j
   ·rw[if_pos hc];refine ih _ _ (by omega) (by omega) h3 (fun i a hi' e=>?_) h5;rw[ed] at hc;rcases qAk i ((lo+hi)/2) with h | h
    ·exact qPk (hr _ _ _ _ e em h) hc
    ·have:i=(lo+hi)/2:=by omega
     subst this;rw[em] at e;have:=Option.some.inj e;omega
   ·rw[if_neg hc];refine ih _ _ (by omega) (by omega) (by omega) h4 (fun i a hi' e=>?_);rw[ed] at hc;rcases qAk ((lo+hi)/2) i with h | h
    ·have:=hr _ _ _ _ em e h;omega
    ·have:i=(lo+hi)/2:=by omega
     subst this;rw[em] at e;have:=Option.some.inj e;omega
  ·rw[if_neg hl];have e:lo=hi:=by omega
   subst e;exact⟨h3,h4,h5⟩
theorem oN {xs:Array Nat} (hr:rY xs) (j:Nat):SetTable.below xs j<=xs.size/\(∀i a,i<SetTable.below xs j->xs[i]?=some a->a<j)/\(∀i a,SetTable.below xs j<=i->xs[i]?=some a->j<=a):=by
 refine Ms xs j hr _ 0 _ (by omega) (qBr _) (qAg _) (fun i a h=>absurd h (qFw _)) (fun i a h e=>?_);rw[qDs h] at e;cases e
theorem wY {xs:Array Nat} (hr:rY xs){i a:Nat} (e:xs[i]?=some a):SetTable.below xs (a+1)=i+1:=by
 obtain⟨h1,h2,h3⟩:=oN hr (a+1);have hi:i<xs.size:=by
  rcases qAk i xs.size with h | h
  ·exact h
  ·rw[qDs h] at e;cases e
 rcases Nat.lt_trichotomy (SetTable.below xs (a+1)) (i+1) with h | h | h
 ·have:=h3 i a (by omega) e;omega
 ·exact h
 ·have hs:i+1<xs.size:=by omega
  have e2:=qBp hs;have:=h2 (i+1) _ h e2;have:=hr i (i+1) _ _ e e2 (by omega);omega
theorem wZ {xs:Array Nat} (hr:rY xs):SetTable.below xs 0=0:=by
 obtain⟨h1,h2,h3⟩:=oN hr 0;rcases qEm (SetTable.below xs 0) with h | h
 ·exact h
 ·have e:=qBp (xs:=xs) (i:=0) (by omega);exact absurd (h2 0 _ h e) (qFw _)
theorem EO:rY #[]:=fun i j a b e=>by simp at e
theorem AF {l:List Nat} (h:l.Pairwise (· < ·)):rY l.toArray:=by
 intro i j a b e1 e2 hij;rw[qLt] at e1 e2;obtain⟨hi,rfl⟩:=List.getElem?_eq_some_iff.mp e1;obtain⟨hj,rfl⟩:=List.getElem?_eq_some_iff.mp e2;exact List.pairwise_iff_getElem.mp h i j hi hj hij
theorem jI (n:Nat):rY (Array.range n):=by
 intro i j a b e1 e2 hij;obtain⟨hi,e1⟩:=Array.getElem?_eq_some_iff.mp e1;obtain⟨hj,e2⟩:=Array.getElem?_eq_some_iff.mp e2;rw[Array.getElem_range] at e1 e2;omega
theorem w4 {xs:Array Nat} (hr:rY xs){j:Nat} (hn:xs[SetTable.below xs j]?≠some j):rY (SetTable.insertAt xs (SetTable.below xs j) j):=by
 obtain⟨h1,h2,h3⟩:=oN hr j;generalize SetTable.below xs j=p at hn h1 h2 h3;have at_:∀i a,(SetTable.insertAt xs p j)[i]?=some a->(i<p/\xs[i]?=some a)\/(i=p/\a=j)\/(p<i/\xs[i-1]?=some a):=by
  intro i a e;unfold SetTable.insertAt at e;rw[Array.getElem?_append,Array.size_push,qMl] at e;split at e
  ·rename_i h;rw[Array.getElem?_push,qMl] at e;split at e
   ·right;left
    exact⟨by omega,(Option.some.inj e).symm⟩
   ·left
    rw[qLg] at e;split at e
    ·rename_i h';exact⟨by omega,by simpa using e⟩
    ·cases e
  ·rename_i h;right;right;rw[qLg] at e;split at e
   ·rename_i h';refine⟨by omega,?_⟩;rw[show i-1=p+(i-(min p xs.size-0+1)) by omega];exact e
   ·cases e
 intro i k a b e1 e2 hik;rcases at_ i a e1 with ⟨a1,a2⟩ | ⟨a1,a2⟩ | ⟨a1,a2⟩ <;> rcases at_ k b e2 with ⟨b1,b2⟩ | ⟨b1,b2⟩ | ⟨b1,b2⟩
 ·exact hr _ _ _ _ a2 b2 hik
 ·rw[b2];exact h2 _ _ a1 a2
 ·exact hr _ _ _ _ a2 b2 (by omega)
 ·omega
 ·omega
 ·rw[a2];have:=h3 _ _ (by omega) b2;rcases qAk j b with h | h
  ·exact h
  ·have ej:b=j:=by omega
   subst ej;exfalso;rcases qAk p (k-1) with h' | h'
   ·have hp:p<xs.size:=by
     have:k-1<xs.size:=by
      rcases qAk (k-1) xs.size with z | z
      ·exact z
      ·rw[qDs z] at b2;cases b2
     omega
    have e:=qBp hp;have:=h3 _ _ (qAg _) e;have:=hr _ _ _ _ e b2 h';omega
   ·rw[show k-1=p by omega] at b2;exact hn b2
 ·omega
 ·omega
 ·exact hr _ _ _ _ a2 b2 (by omega)
theorem AG {t:qFv}{j:Nat} (h:∀i,t.slot j≠.live i):t.place[SetTable.below t.place j]?≠some j:=by
 intro e;refine h (SetTable.below t.place j) ?_;unfold SetTable.slot;dsimp only;rw[e];simp
theorem kB {t:qFv}{f:Nat->Int}{h:Int}:∀(n:Nat) (p:SetTable.Probe) (j:Nat) (d:Option Nat),(∀x,p.dummy=some x->∀i,t.slot x≠.live i)->SetTable.probe.go t f h n p=some (.empty j d)->(∀i,t.slot j≠.live i)/\∀x,d=some x->∀i,t.slot x≠.live i
 | 0,p,j,d,_,e=>by cases e
 | n+1,p,j,d,hp,e=>by
  unfold SetTable.probe.go at e;cases hs:t.slot p.j with
  | empty =>
   rw[hs] at e;dsimp only at e;injection e with e;injection e with e1 e2;subst e1;subst e2;exact⟨fun i=>by (rw[hs];exact fun z=>nomatch z),hp⟩
  | dummy =>
   rw[hs] at e;dsimp only at e;refine kB n _ j d (fun x hx=>?_) e;have:some p.j=some x:=by
    rw[<- hx];unfold SetTable.advance;split <;> rfl
   rw[<- Option.some.inj this];exact fun i=>by rw[hs];exact fun z=>nomatch z
  | live i =>
   rw[hs] at e;dsimp only at e;split at e
   ·injection e with e
    cases e
   ·refine kB n _ j d (fun x hx=>?_) e;refine hp x ?_;rw[<- hx];unfold SetTable.advance;split <;> rfl
theorem pV {t:qFv}{h:Int}{j:Nat}{b:Bool} (e:t.freeSlot h=some (j,b)):t.place[SetTable.below t.place j]?≠some j:=by
 unfold SetTable.freeSlot at e;split at e
 ·rename_i j' d hm;injection e with e;injection e with e1 e2;subst e1;obtain⟨a1,a2⟩:=kB _ _ _ _ (fun x hx=>by cases hx) hm;refine AG fun i=>?_;cases d with
  | none=>exact a1 i
  | some x=>exact a2 x rfl i
 ·cases e
theorem pW {t:qFv}{n:Nat} (h:rY t.place):rY (t.orStandIn n).place:=by
 unfold SetTable.orStandIn;split
 ·exact h
 ·exact jI n
theorem uI (t:qFv) (n:Nat):(t.orStandIn n).led=t.led:=by
 unfold SetTable.orStandIn;split <;> rfl
theorem w6 {t:qFv}{es:Array (Int×qAf)}{h:Int}{x:qAf} (hr:rY t.place):rY (layNew t es h x).2.1.place/\(layNew t es h x).2.1.led=t.led:=by
 unfold layNew;split
 ·rename_i j b e;exact⟨pW (w4 hr (pV e)),uI _ _⟩
 ·exact⟨jI _,rfl⟩
theorem Cf {mask finger moves:Nat}{led plain:Bool}{hs:Array Int}{t':qFv}{order:Array Nat} (e:SetTable.laid mask finger moves led plain hs=some (t',order)):rY t'.place/\t'.led=led:=by
 unfold SetTable.laid at e;cases hl:SetTable.layClean mask hs with
 | none=>rw[hl] at e;cases e
 | some owner =>
  rw[hl] at e;have e:=Option.some.inj e;injection e with e1 e2;subst e1;refine⟨AF ?_,rfl⟩;rw[qGz];refine List.Pairwise.filterMap (R:=(· < ·)) _ (fun a a' haa b hb b' hb'=>?_) List.pairwise_lt_range;rw[Option.map_map] at hb hb';cases ho:owner.getD a none with
  | none=>rw[ho] at hb;cases hb
  | some z =>
   cases ho':owner.getD a' none with
   | none=>rw[ho'] at hb';cases hb'
   | some z' =>
    rw[ho] at hb;rw[ho'] at hb';have:=Option.some.inj hb;have:=Option.some.inj hb';simp only[Function.comp] at *;omega
theorem AH {t:qFv}{es:Array (Int×qAf)}{n:Nat}:rY (qKa t es n).2.1.place/\(qKa t es n).2.1.led=t.led:=by
 unfold qKa;split
 ·rename_i t' order e;dsimp only;split
  ·exact Cf e
  ·exact⟨jI _,rfl⟩
 ·exact⟨jI _,rfl⟩
end ST
end L2
namespace L2
namespace ST
open PySem PySem.Spec PyProof.Rows
def iv:qAf->Int
 | .int n _=>n
 | _=>0
def eQ (P:qBl) (w:qCw) (h:Heap) (a:Addr) (σ:List Int):Prop :=
 ∃o es ep t,h.get? a=some o/\o.ExactSet/\o.data = .set es ep t/\qNf (qFx P w) es.toList/\(es.toList.map fun e=>iv e.2).Perm σ/\es.size<qFs/\t.fits es.size=true/\rY t.place/\t.led = !w.params.followText "set-order"
theorem Ga {P:qBl}{w:qCw}{k:Int}{v:qAf} (h:(qFx P w).is k v=true):iv v=k:=by
 obtain⟨t,rfl⟩:=Value.isInt_shape (k:=k) (v:=v) h;rfl
theorem eQ.at' {P:qBl}{w:qCw}{h h':Heap}{a:Addr}{σ:List Int} (x:eQ P w h a σ) (e:∀o,h.get? a=some o->h'.get? a=some o):eQ P w h' a σ:=by
 obtain⟨o,es,ep,t,ho,r⟩:=x;exact⟨o,es,ep,t,e _ ho,r⟩
section
variable {prog:qBl}{w:qCw}{A:qCq}{E:qAf->qAh->Prop}{s:qAh}
theorem mY {h:Heap}{a:Addr}{o:Obj}{es:Array (Int×qAf)}{ep:Nat}{t:qFv} (ho:h.get? a=some o) (hex:o.ExactSet) (hd:o.data = .set es ep t)
  {es':Array (Int×qAf)}{t':qFv}{σ:List Int} (hel:qNf (qFx prog w) es'.toList) (hmem:(es'.toList.map fun e=>iv e.2).Perm σ) (hb:es'.size<qFs) (hf:t'.fits es'.size=true) (hr:rY t'.place) (hl:t'.led = !w.params.followText "set-order") :
  (h.update a (Obj.putSet es' t')).get? a=some { o with data:=.set es' (ep+1) t' }/\eQ prog w (h.update a (Obj.putSet es' t')) a σ:=by
 have hg:(h.update a (Obj.putSet es' t')).get? a=some { o with data:=.set es' (ep+1) t' }:=by
  have:=qDc (Obj.putSet es' t') ho (by rw[putSet_of es' t' hd];rfl);rw[putSet_of es' t' hd] at this;exact this
 exact⟨hg,_,es',ep+1,t',hg,hex,rfl,hel,hmem,hb,hf,hr,hl⟩
theorem yW {g:Bool->Sem Unit} (hg:∀(b:Bool) (s₁:qAh) (Q':Unit->qAh->Prop),Q' () s₁->qBg (qBz prog w) A (g b) Q' E s₁)
  {a:Addr}{o:Obj}{es:Array (Int×qAf)}{ep:Nat}{t:qFv} (ho:s.heap.get? a=some o) (hex:o.ExactSet) (hd:o.data = .set es ep t)
  {es1:Array (Int×qAf)}{t2:qFv}{σ:List Int} (hel1:qNf (qFx prog w) es1.toList) (hmem1:(es1.toList.map fun e=>iv e.2).Perm σ)
  (hb1:es1.size<qFs) (hf2:t2.fits es1.size=true) (hr2:rY t2.place) (hl2:t2.led = !w.params.followText "set-order"){wasDummy:Bool}{R:Option Bool->qAh->Prop}
  (h:∀h',qEy a s.heap h'->eQ prog w h' a σ->R (some true) { s with heap:=h' }) :
  qBg (qBz prog w) A (do
    storeSet a es1 t2
    if (!wasDummy&&t2.tooFull)=true then do
      g (qKa t2 es1 (SetTable.grown es1.size)).2.2
      storeSet a (qKa t2 es1 (SetTable.grown es1.size)).1 (qKa t2 es1 (SetTable.grown es1.size)).2.1
      pure (some true)
     else pure (some true)) R E s:=by
 refine qAa (wpAny_storeSet_of ho hd ?_ (fits_of_scanBound hb1));obtain⟨ho1,hS1⟩:=mY (prog:=prog) (w:=w) ho hex hd hel1 hmem1 hb1 hf2 hr2 hl2;have hsb1:=Heap.SameBut.update s.heap a (Obj.putSet es1 t2);split
 ·have hp:=relayAll_perm t2 es1 (SetTable.grown es1.size);have hfr:=relayAll_fits t2 es1 (SetTable.grown es1.size);obtain⟨hrr,hlr⟩:=AH (t:=t2) (es:=es1) (n:=SetTable.grown es1.size);generalize hRl:qKa t2 es1 (SetTable.grown es1.size)=Rl at hp hfr hrr hlr|-;obtain⟨es2,t3,gave2⟩:=Rl;dsimp only at hp hfr hrr hlr|-;have hel2:qNf (qFx prog w) es2.toList:=hel1.perm hp;have hmem2:(es2.toList.map fun e=>iv e.2).Perm σ:=(hp.map _).trans hmem1;have hsz:es2.size=es1.size:=by rw[<- qBs,hp.length_eq,qBs]
  have hb2:es2.size<qFs:=by rw[hsz];exact hb1
  refine qAa (hg _ _ _ ?_);refine qAa (wpAny_storeSet_of ho1 rfl ?_ (fits_of_scanBound hb2));obtain⟨_,hS2⟩:=mY (prog:=prog) (w:=w) ho1 hex rfl hel2 hmem2 hb2 hfr hrr (hlr.trans hl2);exact qAe (h _ (hsb1.trans (Heap.SameBut.update _ a _)) hS2)
 ·exact qAe (h _ hsb1 hS1)
theorem Ig {a:Addr}{σ:List Int}{k:Int}{tk:Tok}{Q:Bool->qAh->Prop} (hS:eQ prog w s.heap a σ) (hroom:σ.length+1<qFs)
  (h:∀h' b,qEy a s.heap h'->eQ prog w h' a (qKs σ k)->Q b { s with heap:=h' }) :
  qBg (qBz prog w) A (setAddHashed a (.int k tk) (hashInt k)) Q E s:=by
 obtain⟨o,es,ep,t,ho,hex,hd,hel,hmem,hb,hf,hr,hl⟩:=id hS;have hkey:(qFx prog w).is k (.int k tk)=true:=intKind_is _ _ _ _;have hsc:(Value.int k tk).scannable=true:=rfl;have hn:es.size=σ.length:=by rw[<- hmem.length_eq,qAb,qBs]
 have hb1:es.size+1<qFs:=by rw[hn];exact hroom
 unfold setAddHashed setAddHashedIn;refine qDi (qAa (qFj ho hd hf ?_));dsimp only;rw[byScan_of hsc hb hel];simp only[↓reduceIte];unfold setAddByScan;refine qAa ?_;refine qAa (qGj ?_);refine qAa (wpAny_setScan_of (knd:=qFx prog w) hkey ho hd hf hel ?_);cases hr':List.findIdx? (fun e=>(qFx prog w).is k e.2) es.toList with
 | some j =>
  dsimp only;obtain⟨hj,hpj,_⟩:=List.findIdx?_eq_some_iff_getElem.mp hr';have hk:k∈σ:=hmem.mem_iff.mp (List.mem_map.mpr ⟨_,qEs hj,Ga hpj⟩);refine qAe (qAe ?_);have e:s={ s with heap:=s.heap }:=by cases s;rfl
  rw[e];refine h s.heap false (Heap.SameBut.refl a s.heap) ?_;unfold qKs;rw[if_pos (List.any_eq_true.mpr ⟨k,hk,by simp⟩)];exact hS
 | none =>
  dsimp only;have hk:k∉σ:=fun hk=>by
   obtain⟨e,he,q⟩:=List.mem_map.mp (hmem.mem_iff.mpr hk);have hno:=List.findIdx?_eq_none_iff.mp hr' e he;obtain⟨⟨k',hk',_⟩,_⟩:=hel e he;have:k'=k:=by rw[<- Ga hk',q]
   rw[this] at hk';rw[hk'] at hno;cases hno
  have hgw:∀(b:Bool){s₁:qAh}{Q':Unit->qAh->Prop},Q' () s₁->qBg (qBz prog w) A (match b with | true=>rule "set.scan.the-table-gave-way" | false=>pure ()) Q' E s₁ :=
   fun b s₁ Q' hq=>by cases b <;> first | exact qAe hq | exact qGj hq
  have hperm:=layNew_perm t es ((qFx prog w).hash k) (.int k tk);have hfits:=layNew_fits t es ((qFx prog w).hash k) (.int k tk);obtain⟨hris,hled⟩:=w6 (es:=es) (h:=(qFx prog w).hash k) (x:=.int k tk) hr;rw[show hashInt k=(qFx prog w).hash k from rfl];generalize hL:layNew t es ((qFx prog w).hash k) (.int k tk)=L at hperm hfits hris hled|-;obtain⟨es1,t1,wasDummy,gave⟩:=L;dsimp only at hperm hfits hris hled|-;rw[qNb] at hperm;have hel1:qNf (qFx prog w) es1.toList:=(hel.push hkey hsc).perm hperm;have hmem1:(es1.toList.map fun e=>iv e.2).Perm (qKs σ k):=by
   unfold qKs;rw[if_neg (fun z=>by
    obtain⟨x,hx,e⟩:=List.any_eq_true.mp z;rw[eq_of_beq e] at hx;exact hk hx)]
   refine(hperm.map _).trans ?_;rw[qAt];exact hmem.append_right _
  have hb1':es1.size<qFs:=by rw[<- qBs,hperm.length_eq,qAo,qBs];simpa using hb1
  refine qAa (hgw _ ?_);split
  ·refine qAa ?_;rw[hashByValue_scannable 8 hsc];refine qAe ?_;refine yW ?_ ho hex hd hel1 hmem1 hb1' ?_ ?_ ?_ ?_
   ·intro b s₁ Q' hq;cases b <;> first | exact qAe hq | exact qGj hq
   ·split
    ·exact hfits
    ·exact SetTable.fits_plain_off hfits
   ·split
    ·exact hris
    ·exact hris
   ·split
    ·exact hled.trans hl
    ·exact hled.trans hl
   ·intro h' hsb hS';dsimp only;exact qAe (h h' true hsb hS')
  ·refine qAa (qAe ?_);simp only[↓reduceIte];refine yW ?_ ho hex hd hel1 hmem1 hb1' hfits hris (hled.trans hl) ?_
   ·intro b s₁ Q' hq;cases b <;> first | exact qAe hq | exact qGj hq
   ·intro h' hsb hS';dsimp only;exact qAe (h h' true hsb hS')
end
section
variable {prog:qBl}{w:qCw}{A:qCq}{R:qOw->qAh->Prop}{I:Addr}{fp wr:List Addr}{G:Array qOx->Array qOx->Prop}{n:Nat}{P:Nat->qAf->Prop}{St:Nat->qAh->Prop}
theorem uJ (W:WalksS prog w A.in1 I fp wr G n P St) (S:Addr) (hSf:S∉fp)
  (val:Nat->Int) (hval:∀i v,P i v->∃t,v = .int (val i) t) (hb:n+1<qFs) :
  ∀(k i:Nat) (s:qAh),n-i=k->i<=n->St i s ->
   eQ prog w s.heap S (qIl val i) ->
   (∀s',Moved (S::wr) G s s'->eQ prog w s'.heap S (qIl val n)->R (.ok (.ret .none)) s') ->
   qHi (qBz prog w) A (.builtin "set.update.loop" ⟨[.ref S,.ref I],[]⟩) R s:=by
 have hSw:S∉wr:=fun h=>hSf (W.sub _ h);have hsub:∀b∈wr,b∈S::wr:=fun b hb=>qCi _ hb;intro k;induction k with
 | zero =>
  intro i s hk hi hst hS hR;have hin:i=n:=by omega
  subst hin;refine qFg PyProof.Rows.F.entry_set_update_loop ?_;rw[Around.under_plainId PyProof.Rows.F.plain_set_update_loop _];show qBg _ A.in1 (qIv (.ref I) >>= _) _ _ s;refine qAa (W.done s _ _ hst fun s' hm=>?_);show qBg _ A.in1 (ret Value.none) _ _ s';exact qAe (hR s' (hm.mono hsub) (hS.at' fun o e=>hm.heap S _ hSw e))
 | succ k ih =>
  intro i s hk hi hst hS hR;have hlt:i<n:=by omega
  refine qFg PyProof.Rows.F.entry_set_update_loop ?_;rw[Around.under_plainId PyProof.Rows.F.plain_set_update_loop _];show qBg _ A.in1 (qIv (.ref I) >>= _) _ _ s;refine qAa (W.item i s _ _ hlt hst fun v s' hP hst' hm=>?_);obtain⟨t,rfl⟩:=hval i v hP;have hS':eQ prog w s'.heap S (qIl val i):=hS.at' fun o e=>hm.heap S _ hSw e;show qBg _ A.in1 (qLo [Value.int (val i) t] (setAdd S (.int (val i) t)) >>= _) _ _ s';refine qAa (qDi ?_);unfold setAdd;refine qDi ?_;refine qAa ((qFx prog w).pyHash (k:=val i) (intKind_is _ _ _ _) ?_);have hroom:(qIl val i).length+1<qFs:=by have:=firstMet_length_le val i;omega
  refine Ig (s:={ s' with toks:=s'.toks+1 }) hS' hroom fun h' b hsb hS2=>?_;have hSi:eQ prog w h' S (qIl val (i+1)):=by rw[firstMet_succ];exact hS2
  refine qAe ⟨qIh PyProof.Rows.F.plain_set_update_loop _,ih (i+1) _ (by omega) hlt (W.frame _ s' _ _ hst' (qEz _) fun b hb o e=>?_) hSi fun s'' hm'' hS''=>?_⟩
  ·rw[hsb.2 b (fun h:b=S=>hSf (by rw[<- h];exact hb))];exact e
  ·refine hR s'' (Moved.trans W.gtrans ((hm.mono hsub).then_heap (qEz _) fun b o hb e=>?_) hm'') hS'';rw[hsb.2 b (fun h:b=S=>hb (by rw[h];exact qDh))];exact e
end
end ST
end L2
namespace PySem
namespace ST
open L2.ST
section
variable {prog:qBl}{w:qCw}{A:qCq}{E:qAf->qAh->Prop}{s:qAh}
def dE (w:qCw):Obj:={ cls:=.type "set",dict:=none,data:=.set #[] 0 (.fresh 0 0 (!w.params.followText "set-order")) }
theorem Cg {h:Heap}{a:Addr} (e:h.get? a=some (dE w)):eQ prog w h a [] :=
 ⟨dE w,#[],0,_,e,⟨rfl,rfl,rfl⟩,rfl,fun e he=>by simp at he,List.Perm.refl _,by decide,by rfl,L2.ST.EO,rfl⟩
theorem nI (a:qAf){Q₁:qAf->qAh->Prop}
  (h:Q₁ (.ref s.heap.objs.size) { s with heap:=s.heap.push (dE w) }) :
  qHi (qBz prog w) A (.call (.builtin "set.__new__") ⟨[.type "set",a],[]⟩) (wants Q₁ E) s:=by
 refine codeAny_of_tree ?_;show qBg _ A.in1 (do checkBuiltinCall "set.__new__" ⟨[.type "set",a],[]⟩;qNe (.builtin "set.__new__" ⟨[.type "set",a],[]⟩)) _ _ s;refine qAa (qGk (F.newCall_set_1 a) (qAe ⟨qIh F.plain_set_new _,qFg F.entry_set_new ?_⟩));rw[Around.under_plainId F.plain_set_new _];unfold Builtin.«set.__new__» Builtin.Frozenset.newClass;have hsub:=sub_set_self;obtain⟨hp,g,d,tk,os⟩:=s;dsimp only;wp_walk;refine qFu (qAe ?_);dsimp only;simp only[newObj];refine qAa (wpAny_alloc (qAe ?_));exact qAe h
set_option maxHeartbeats 3200000 in
theorem uK {l:Addr}{items:Array qAf}{ns:List Int}{Q:qAf->qAh->Prop}
  (hh:A.handled=none) (hl:s.heap.IsList l items) (hi:qPh items.toList ns) (hb:items.size+1<qFs)
  (h:∀(h':Heap) (tk:Nat),eQ prog w h' s.heap.objs.size (qJn (fun i=>ns.getD i 0) items.size) ->
   (∀b o,b<s.heap.objs.size->s.heap.get? b=some o->h'.get? b=some o)->Q (.ref s.heap.objs.size) { s with heap:=h',toks:=tk }) :
  qBg (qBz prog w) A (call (.type "set") [.ref l]) Q E s:=by
 obtain⟨c,tl,hmro⟩:=F.called_set.mro;have hmade:=F.called_set.made;have hsub:=F.called_set.sub;refine qJb (codeAny_of_tree ?_);show qBg _ _ (callAny (.type "set") _) _ _ _;refine qAe ⟨Code.quiet_builtin _ (by decide +kernel),qFg F.entry_type_call ?_⟩;rw[Around.under_plain (weight_type_call_type "set" [.ref l] []) rfl];have h1:=F.called_set.notType;have h2:=F.called_set.canCreate;have hct:=F.typeCall_set_1 (.ref l);repeat (any_goals (first | assumption | wp_step))
 refine qFz (nI (.ref l) (E:=E) (Q₁:=fun obj s₁=>obj = .ref s.heap.objs.size/\s₁={ s with heap:=s.heap.push (dE w) }) ⟨rfl,rfl⟩) fun r s₁ hr=>?_;cases r with
 | error e=>exact hr
 | ok fl =>
  cases fl with
  | ret obj =>
   obtain⟨rfl,rfl⟩:=hr;have hS:(s.heap.push (dE w)).get? s.heap.objs.size=some (dE w):=qAs _ rfl;have hT:Shared.TypeIs { s with heap:=s.heap.push (dE w) } (.ref s.heap.objs.size) "set":=⟨_,hS,rfl⟩;have hli:=F.called_set.init.lookup;have hbi:=F.called_set.init.bind (.ref s.heap.objs.size);repeat (any_goals (first | assumption | wp_step))
   refine qFz (codeAny_call_builtin (R:=wants (fun r s₂=>r = .none/\∃h' tk,s₂={ s with heap:=h',toks:=tk } /\
     eQ prog w h' s.heap.objs.size (qJn (fun i=>ns.getD i 0) items.size) /\
     (∀b o,b<s.heap.objs.size->s.heap.get? b=some o->h'.get? b=some o)) E) F.called_set.init.plain F.entry_set_init (check_set_init_1 hT ?_)) fun r₂ s₂ hr₂=>?_
   ·obtain⟨ol,hol,hcl,nl,hdl⟩:=hl;obtain⟨ocls,odict,odata,oslots⟩:=ol;simp only at hcl hdl;subst hcl;subst hdl;have hol':(s.heap.push (dE w)).get? l=some { cls:=.type "list",dict:=odict,data:=.seq items nl,slots:=oslots }:=qAi _ hol;have hsls:=F.sub_list_set;have hslf:=F.sub_list_frozenset;have hne:(Value.type "list" == Value.type "dict")=false:=by decide
    have hl1:(s.heap.push (dE w)).IsList l items:=⟨_,hol',rfl,nl,rfl⟩;unfold Builtin.«set.__init__» noKeywords Builtin.Frozenset.updateFrom;generalize hPI:qMp=PI;wp_walk;subst hPI;refine qHv hl1 ?_;refine qAa (wpAny_runValue ?_);have hlS:l<s.heap.objs.size:=qAr hol;have hh3:A.in1.in1.in1.handled=none:=by simp[hh]
    have hneI:l≠(s.heap.push (dE w)).objs.size:=by
     rw[qDe];exact qBd (qHm hlS)
    have hSf:s.heap.objs.size∉[(s.heap.push (dE w)).objs.size,l]:=by
     rw[qDe];simp only[qEb,qIz,qDa,or_false,not_or];exact⟨qBd (qGi _),qGh hlS⟩
    have hval:∀(i:Nat) (v:qAf),items[i]?=some v->∃t,v = .int ((fun i=>ns.getD i 0) i) t:=fun i v hv =>
     PyProof.Rows.IntsAre.int_at hi i v (by rw[qDm];exact hv)
    refine L2.ST.uJ ((Walks.list hh3 _ l hneI items).toS) s.heap.objs.size
     hSf (fun i=>ns.getD i 0) hval hb (items.size-0) 0 _ (by omega) (qBr _)
     ⟨⟨_,qAs _ rfl,rfl,rfl⟩,(hl1.push _)⟩ ?hS0 ?hR
    case hS0=>exact Cg (qAi _ hS)
    case hR =>
     intro s' hm hS';obtain⟨h',g',d',tk',os'⟩:=s';have eg:g'=s.gens:=hm.gens;have ed:d'=s.drawn:=hm.drawn;have eo:os'=s.os:=hm.os;subst eg;subst ed;subst eo;show qBg _ _ _ _ _ _;refine qAe ?_;show qBg _ _ (ret Value.none) _ _ _;refine qAe ⟨rfl,h',tk',rfl,hS',fun b o hb e=>?_⟩;have hb1:b≠s.heap.objs.size:=qBd hb;have hb2:b≠(s.heap.push (dE w)).objs.size:=by
      rw[qDe];exact qBd (qHm hb)
     exact hm.heap b o (by simp only[qEb,qIz,qDa,or_false,not_or];exact⟨hb1,hb2⟩) (qAi _ (qAi _ e))
   ·cases r₂ with
    | error e=>exact hr₂
    | ok fl₂ =>
     cases fl₂ with
     | ret r =>
      obtain⟨rfl,h',tk,rfl,hS',hk'⟩:=hr₂;repeat (any_goals (first | assumption | wp_step))
      exact h _ _ hS' hk'
     | next=>exact hr₂.elim
     | brk=>exact hr₂.elim
     | cont=>exact hr₂.elim
  | next=>exact hr.elim
  | brk=>exact hr.elim
  | cont=>exact hr.elim
end
end ST
end PySem
namespace PySem
namespace ST
open L2.ST
theorem cT:Slot "set_iterator" "__next__" "set_iterator.__next__" :=
 .of (owner:="set_iterator") (n:="__next__") (by rw[typeLookup_type,builtinLookup_eq_fast];kernel_rfl) (by decide +kernel) (by decide +kernel) (by decide +kernel)
  (by first|exact .inl (by decide +kernel) | exact .inr (by decide +kernel)) (by rw[isSubtype_type];kernel_rfl)
theorem jZ:entryFor table "set_iterator.__next__"=some Builtin.«set_iterator.__next__»:=entryFor_of_tree (by kernel_rfl)
theorem uL:Manifest.owners.lookup (String.ofList ['r','o','t','a','r','e','t','i','_','t','e','s'].reverse)=some Manifest.sig_set_iterator:=by kernel_rfl
theorem k6 (a:qAf):argsOk "set_iterator.__next__" ⟨[a],[]⟩:=by
 unfold argsOk;rw[signature?_of (id:="set_iterator.__next__") (n:=['_','_','t','x','e','n','_','_']) (o:=['r','o','t','a','r','e','t','i','_','t','e','s']) (by kernel_rfl) uL];kernel_rfl
theorem oO:entryFor table "set.__iter__"=some Builtin.«frozenset.__iter__» :=
 entryFor_alias (id':="frozenset.__iter__") (by kernel_rfl) rfl (by decide +kernel) (by kernel_rfl)
def j0 (first:qAf) (i:Nat) (S:Addr) (n ep:Nat):Obj:={ cls:=.type "set_iterator",dict:=none,data:=.fields #[first,.int i 0,.ref S,.int n 0,.int ep 0],slots:=#[] }
section
variable {prog:qBl}{w:qCw}{A:qCq}{E:qAf->qAh->Prop}{s:qAh}{I S:Addr}{o:Obj}{es:Array (Int×qAf)}{ep:Nat}{t:qFv}
theorem kC {α:Type}:∀(l:List α) (k:Nat) (h:k<l.length),(l[k]::l.eraseIdx k).Perm l
 | [],k,h=>by cases h
 | x::xs,0,h=>List.Perm.refl _
 | x::xs,k+1,h=>(List.Perm.swap _ _ _).trans ((kC xs k (by simpa using h)).cons x)
theorem w8 {src:Source}{n:Nat}{Q:Nat->qAh->Prop} (hn:n≠0) (h:∀k d,k<n->Q k { s with drawn:=d }):qBg (qBz prog w) A (choose src n) Q E s:=by
 intro Γ p hΓ;exact⟨hn,h _ _ (qNo _ (qNh hn))⟩
theorem j3 {α:Type}:∀(n:Nat) (xs:List α) (s:qAh){Q:List α->qAh->Prop},xs.length=n->(∀ys d,ys.Perm xs->Q ys { s with drawn:=d })->qBg (qBz prog w) A (drawOrder n xs) Q E s
 | 0,xs,s,Q,hl,h=>by
  obtain rfl:xs=[]:=List.length_eq_zero_iff.mp hl;unfold drawOrder;refine qAe ?_;have:=h [] s.drawn (List.Perm.refl _);cases s;exact this
 | n+1,[],s,Q,hl,h=>by cases hl
 | n+1,x::xs,s,Q,hl,h=>by
  unfold drawOrder;refine qAa (w8 (by simp) fun k d hk=>?_);rw[qAd hk];dsimp only;refine qAa (j3 n _ _ ?_ fun ys d' hp=>?_)
  ·rw[qKp hk];simpa using hl
  ·refine qAe (h _ d' ?_);exact(hp.cons _).trans (kC _ _ hk)
theorem xA {Q:qAf->qAh->Prop} (ho:s.heap.get? S=some o) (hex:o.ExactSet) (hd:o.data = .set es ep t) (hf:t.fits es.size=true) (hz:es.size<qFs)
  (h1:(w.params.followText "set-order"=true\/(w.params.followText "set-order"=false/\((!t.plain&&decide (es.size>1))=false)))->Q (.ref s.heap.objs.size) { s with heap:=s.heap.push (j0 (.int 0 0) 0 S es.size ep) })
  (h2:w.params.followText "set-order"=false->∀(ys:List Nat) d,ys.Perm (qAl es.size)->Q (.ref (s.heap.objs.size+1)) { s with heap:=(s.heap.push { cls:=.type "tuple",data:=.seq (ys.map fun(i:Nat)=>Value.int i 0).toArray }).push (j0 (.ref s.heap.objs.size) 0 S es.size ep),drawn:=d }) :
  qBg (qBz prog w) A (qMp (.ref S)) Q E s:=by
 have hT:s.TypeIs (.ref S) "set":=⟨o,ho,hex.1⟩;refine wpAny_pyIter_slot hT F.slot_set_iter (qEa F.slot_set_iter hT oO ?_ (F.args_set_iter_1 _));unfold Builtin.«frozenset.__iter__» Builtin.Frozenset.slot0 slotArgs;simp only[List.isEmpty_nil,qOt,qFt,↓reduceIte,bind_assoc,qKk,bne_self_eq_false];unfold Builtin.Frozenset.addrOf Builtin.Frozenset.sizeOf;refine qAa (qAe ?_);try dsimp only
 refine qAa (qAe ?_);refine qAa (qAa (wpAny_setEntries_of ho hd hf (qAe ?_)));unfold setDrawn;refine qAa ?_;refine qAa (qFj ho hd hf ?_);dsimp only;unfold qMo;refine qAa (qAa (qFu (qAe ?_)));refine qAe ?_;show qBg _ _ (if ((!w.params.followText "set-order")&&(!t.plain&&decide (es.size>1)))=true then _ else _) _ _ s;cases hT1:w.params.followText "set-order" with
 | true =>
  rw[if_neg (by simp)];refine qAa (qAe ?_);refine qAa (wpAny_setEpoch_of ho hd hf ?_);refine qAa ?_;unfold newFields;refine qCh (qAe ⟨_,rfl,"set_iterator",_,⟨_,qAs _ rfl,rfl⟩,cT.lookup,h1 (.inl hT1)⟩)
 | false =>
  cases hD:(!t.plain&&decide (es.size>1)) with
  | false =>
   rw[if_neg (by simp)];refine qAa (qAe ?_);refine qAa (wpAny_setEpoch_of ho hd hf ?_);refine qAa ?_;unfold newFields;refine qCh (qAe ⟨_,rfl,"set_iterator",_,⟨_,qAs _ rfl,rfl⟩,cT.lookup,h1 (.inr ⟨hT1,hD⟩)⟩)
  | true =>
   rw[if_pos (by simp)];refine qAa (j3 es.size _ s (qAw) fun ys d hp=>?_);refine qAa (wpAny_newTuple ?_ (by rw[qAb,hp.length_eq,qAw];exact fits_of_scanBound hz));have ho1:(s.heap.push { cls:=.type "tuple",data:=.seq (ys.map fun(i:Nat)=>Value.int i 0).toArray }).get? S=some o:=qAi _ ho;refine qAa (wpAny_setEpoch_of ho1 hd hf ?_);refine qAa ?_;unfold newFields;refine qCh (qAe ⟨_,rfl,"set_iterator",_,⟨_,qAs _ rfl,rfl⟩,cT.lookup,?_⟩);have:=h2 hT1 ys d hp;rw[show s.heap.objs.size+1=(s.heap.push { cls:=.type "tuple",data:=.seq (ys.map fun(i:Nat)=>Value.int i 0).toArray }).objs.size by rw[qDe]] at this;exact this
theorem qD {first:qAf}{i n:Nat}{Q:Option qAf->qAh->Prop}{s1:qAh} (hh:A.handled=none) (hit:s1.heap.get? I=some (j0 first i S n ep)) (hQ:∀h',qKm I s1.heap h'->Q none { s1 with heap:=h' }) :
  qBg (qBz prog w) A.in1 (do setField (Value.ref I) 2 Value.none;let e <- qPv (Value.type "StopIteration") [];raiseNew e)
   (fun(fin:Fin) s'=>∃v,fin=Fin.done (Flow.ret v)/\qBg (qBz prog w) A (pure (some v)) Q E s')
   (fun e s'=>qBg (qBz prog w) A (do let b <- isInstance e (Value.type "StopIteration");if b=true then pure none else throw e) Q E s') s1:=by
 refine qAa (qFr hit rfl (by simp) ?_);show qBg _ _ (qPv (.type "StopIteration") [] >>= _) _ _ _;refine qAa ?_;simp only[qPv,newTuple];refine qAa (qCh ?_ (by size_fits));refine qAa (m:=qJh _ _) (qGk (a:=Value.none) (by first | rfl | (simp only[qJh];rfl)) ?_)
 refine qCh ?_ (by size_fits);simp only[raiseNew];refine qAa (wpAny_handled ?_);rw[show A.in1.handled=none from hh];refine qAa (qAe (wpAny_throw ?_));refine qAa (wpAny_isInstance (T:="StopIteration") (b:=true) ⟨_,qAs _ rfl,rfl⟩ isSubtype_stop ?_);exact qAe (hQ _ (((Heap.SameBut.update ..).extBut.push _).push _))
theorem uM {i n slot:Nat}{Q:Option qAf->qAh->Prop} (hh:A.handled=none) (hit:s.heap.get? I=some (j0 (.int slot 0) i S n ep)) (ho:s.heap.get? S=some o) (hd:o.data = .set es ep t) (hf:t.fits es.size=true) (hn:es.size=n)
  (h:qBg (qBz prog w) A.in1 (qNc S slot i ep) (fun r s1=>s1=s/\match r with
   | some (x,nx)=>∀h',h'.get? I=some (j0 (.int nx 0) (i+1) S n ep)->qEy I s.heap h'->Q (some x) { s with heap:=h' }
   | none=>∀h',qKm I s.heap h'->Q none { s with heap:=h' }) (fun _ _=>False) s) :
  qBg (qBz prog w) A (qIv (.ref I)) Q E s:=by
 have hT:s.TypeIs (.ref I) "set_iterator":=⟨_,hit,rfl⟩;unfold qIv;refine qAa (qHc (qEf (name:=Str.ofString "__next__") hT cT
  (qEa cT hT jZ ?_ (k6 _))))
 unfold Builtin.«set_iterator.__next__»;refine qAa (qAe ?_);refine qAa (qJf hit rfl ?_);dsimp only;refine qAa (wpAny_setEntries_of ho hd hf ?_);rw[if_neg (by rw[hn];simp),qBi,qBi,qBi];refine qAa (qHf h (fun r s1 hr=>?_) fun _ _ z=>z.elim);obtain⟨rfl,hr⟩:=hr;match r,hr with
 | none,hr =>
  dsimp only at hr|-;exact qD hh hit hr
 | some (x,nx),hr =>
  dsimp only at hr|-;refine qAa (qFr hit rfl (by simp) ?_);have e1:=qDc (Obj.mapFields (·.setIfInBounds 0 (qJg (nx:Int)))) hit rfl;refine qAa (qFr e1 rfl (by simp) ?_);have e2:=qDc (Obj.mapFields (·.setIfInBounds 1 (qJg ((i:Int)+1)))) e1 rfl;refine qAe ⟨_,rfl,qAe (hr _ ?_ ((Heap.SameBut.update ..).trans (Heap.SameBut.update ..)))⟩;rw[e2];rfl
theorem uN {i n:Nat}{T:Addr}{ys:List Nat}{Q:Option qAf->qAh->Prop} (hh:A.handled=none) (hit:s.heap.get? I=some (j0 (.ref T) i S n ep)) (ho:s.heap.get? S=some o) (hd:o.data = .set es ep t) (hf:t.fits es.size=true) (hn:es.size=n)
  (hT:s.heap.get? T=some { cls:=.type "tuple",data:=.seq (ys.map fun(i:Nat)=>Value.int i 0).toArray }) (hp:ys.Perm (qAl n))
  (h1:∀k e,ys[i]?=some k->es[k]?=some e->∀h',h'.get? I=some (j0 (.ref T) (i+1) S n ep)->qEy I s.heap h'->Q (some e.2) { s with heap:=h' })
  (h2:ys[i]?=none->∀h',qKm I s.heap h'->Q none { s with heap:=h' }) :
  qBg (qBz prog w) A (qIv (.ref I)) Q E s:=by
 have hTy:s.TypeIs (.ref I) "set_iterator":=⟨_,hit,rfl⟩;unfold qIv;refine qAa (qHc (qEf (name:=Str.ofString "__next__") hTy cT
  (qEa cT hTy jZ ?_ (k6 _))))
 unfold Builtin.«set_iterator.__next__»;refine qAa (qAe ?_);refine qAa (qJf hit rfl ?_);dsimp only;refine qAa (wpAny_setEntries_of ho hd hf ?_);rw[if_neg (by rw[hn];simp)];refine qAa (wpAny_seqItems hT rfl ?_);dsimp only;rw[qBi,qLt,qAp];cases hy:ys[i]? with
 | none =>
  dsimp only[qOz];refine qAa (qFr hit rfl (by simp) ?_);have e1:=qDc (Obj.mapFields (·.setIfInBounds 0 (qJg 0))) hit rfl;refine qD (first:=qJg 0) (i:=i) (S:=S) (n:=n) (ep:=ep) hh (by rw[e1];rfl) fun h' hx=>h2 hy h' fun b o hb e=>hx b o hb ?_;exact(qDv _ _ (Ne.symm hb)).trans e
 | some k =>
  dsimp only[qOz];have hk:k<es.size:=by
   rw[hn];exact List.mem_range.mp (hp.mem_iff.mp (qBe hy))
  refine qAa ?_;unfold setNextDrawn;rw[qBi,qBi];refine qAa (qFj ho hd hf ?_);dsimp only;rw[if_neg (by simp)];rw[qBp hk];dsimp only;refine qAe ?_;refine qAa (qFr hit rfl (by simp) ?_);have e1:=qDc (Obj.mapFields (·.setIfInBounds 1 (qJg ((i:Int)+1)))) hit rfl;refine qAe ⟨_,rfl,qAe (h1 k _ hy (qBp hk) _ ?_ (Heap.SameBut.update ..))⟩;rw[e1];rfl
theorem qE {α:Type} (next:Nat->Nat):∀(f k:Nat) (left:List α) (out:Array α),left.length=f->(pickOrder.go next f k left out).toList.Perm (out.toList++left)
 | 0,k,left,out,hl=>by
  obtain rfl:left=[]:=List.length_eq_zero_iff.mp hl;unfold pickOrder.go;simp
 | f+1,k,left,out,hl=>by
  unfold pickOrder.go;have hk:next k%left.length<left.length:=qNo _ (by omega);rw[qAd hk];dsimp only;refine(qE next f (k+1) _ _ (by rw[qKp hk];omega)).trans ?_;rw[qNb,qHl];exact(List.Perm.refl _).append (kC left _ hk)
theorem yX {α:Type} (next:Nat->Nat) (xs:Array α):(qKb next xs).toList.Perm xs.toList:=by
 unfold qKb;simpa using qE next xs.size 0 xs.toList #[] (by simp)
theorem rZ {slot i:Nat}{Q:Option (qAf×Nat)->qAh->Prop} (hB:w.params.followText "set-order"=true) (ho:s.heap.get? S=some o) (hd:o.data = .set es ep t) (hf:t.fits es.size=true)
  (h:Q (((qKb (w.params.setOrder S ep) es)[i]?).map fun e=>(e.2,slot)) s):qBg (qBz prog w) A (qNc S slot i ep) Q E s:=by
 unfold qNc;refine qAa (qFj ho hd hf ?_);dsimp only;unfold qMo;refine qAa (qAa (qFu (qAe ?_)));show qBg _ _ (if w.params.followText "set-order"=true then _ else _) _ _ s;rw[hB,if_pos rfl,if_neg (by simp)];refine qAa ?_;unfold setWalk;refine qAa (qFj ho hd hf ?_);dsimp only;unfold qMo;refine qAa (qAa (qFu (qAe ?_)));show qBg _ _ (if w.params.followText "set-order"=true then _ else _) _ _ s;rw[hB,if_pos rfl];refine qAa (qFu (qAe (qAe h)))
theorem uO {slot i:Nat}{Q:Option (qAf×Nat)->qAh->Prop} (hB:w.params.followText "set-order"=false) (hD:(!t.plain&&decide (es.size>1))=false) (hl:t.led=true) (ho:s.heap.get? S=some o) (hd:o.data = .set es ep t) (hf:t.fits es.size=true)
  (h:Q (match es[SetTable.below t.place slot]?,t.place[SetTable.below t.place slot]? with | some (_,x),some j=>some (x,j+1) | _,_=>none) s):qBg (qBz prog w) A (qNc S slot i ep) Q E s:=by
 unfold qNc;refine qAa (qFj ho hd hf ?_);dsimp only;unfold qMo;refine qAa (qAa (qFu (qAe ?_)));show qBg _ _ (if w.params.followText "set-order"=true then _ else if (!t.plain&&decide (es.size>1))=true then _ else _) _ _ s;rw[hB,if_neg (by simp),hD,if_neg (by simp)];refine qAa (m:=if (!t.led && !es.isEmpty)=true then unsupported "set:maker-not-led" else pure ()) ?_;rw[hl,if_neg (by simp)];refine qAe (qAe ?_);exact h
end
end ST
end PySem
namespace PySem
namespace ST
open L2.ST PyProof.Rows
theorem k7:Slot "set_iterator" "__iter__" "set_iterator.__iter__" :=
 .of (owner:="set_iterator") (n:="__iter__") (by rw[typeLookup_type,builtinLookup_eq_fast];kernel_rfl) (by decide +kernel) (by decide +kernel) (by decide +kernel)
  (by first|exact .inl (by decide +kernel) | exact .inr (by decide +kernel)) (by rw[isSubtype_type];kernel_rfl)
theorem pX:entryFor table "set_iterator.__iter__"=some Builtin.«dict_keyiterator.__iter__» :=
 entryFor_alias (id':="dict_keyiterator.__iter__") (by kernel_rfl) rfl (by decide +kernel) (by kernel_rfl)
theorem r6 (a:qAf):argsOk "set_iterator.__iter__" ⟨[a],[]⟩:=by
 unfold argsOk;rw[signature?_of (id:="set_iterator.__iter__") (n:=['_','_','r','e','t','i','_','_']) (o:=['r','o','t','a','r','e','t','i','_','t','e','s']) (by kernel_rfl) uL];kernel_rfl
def Ih (p:Array Nat):Nat->Nat
 | 0=>0
 | j+1=>(p[j]?.getD 0)+1
theorem xB {p:Array Nat} (hr:rY p):∀{i:Nat},i<=p.size->SetTable.below p (Ih p i)=i
 | 0,_=>wZ hr
 | j+1,h=>by
  have e:=qBp (xs:=p) (i:=j) (by omega);show SetTable.below p ((p[j]?.getD 0)+1)=j+1;rw[e];exact wY hr e
theorem yY:∀{vs:List qAf},(∀v∈vs,∃k t,v=Value.int k t)->qHt vs (vs.map iv)
 | [],_=>.nil
 | v::vs,h=>by
  obtain⟨k,t,rfl⟩:=h v (.head _);exact .cons k t (yY fun u hu=>h u (.tail _ hu))
section
variable {prog:qBl}{w:qCw}{A:qCq}{E:qAf->qAh->Prop}{s:qAh}{I S:Addr}{o:Obj}{es:Array (Int×qAf)}{ep:Nat}{t:qFv}
theorem qF {first:qAf}{i n:Nat}{Q:qAf->qAh->Prop} (hit:s.heap.get? I=some (j0 first i S n ep)) (h:Q (.ref I) s):qBg (qBz prog w) A (qMp (.ref I)) Q E s:=by
 have hT:s.TypeIs (.ref I) "set_iterator":=⟨_,hit,rfl⟩;refine wpAny_pyIter_slot hT k7 (qEa k7 hT pX ?_ (r6 _));show qBg _ _ (ret (.ref I)) _ _ s;exact qAe ⟨_,rfl,"set_iterator",_,hT,cT.lookup,h⟩
theorem qG {n:Nat} (hh:A.handled=none) (hIS:I≠S) (hd:o.data = .set es ep t) (hf:t.fits es.size=true) (hn:es.size=n) (sl:Nat->Nat) (ord:List qAf) (hl:ord.length=n)
  (hstep:∀(s':qAh) (Q':Option (qAf×Nat)->qAh->Prop) (E':qAf->qAh->Prop) (i:Nat),s'.heap.get? S=some o->i<=n->Q' ((ord[i]?).map fun v=>(v,sl (i+1))) s'->qBg (qBz prog w) A.in1 (qNc S (sl i) i ep) Q' E' s') :
  Walks prog w A I [I,S] [I] n (fun i v=>ord[i]?=some v) (fun i h=>h.get? S=some o/\h.get? I=some (j0 (.int (sl i) 0) i S n ep)) where
 sub:=fun b hb=>by simp at hb;simp[hb]
 frame:=fun _ _ _ st hk=>⟨hk S (by simp) _ st.1,hk I (by simp) _ st.2⟩
 item:=fun i s Q E hi st hQ=>by
  have hx:ord[i]?=some ord[i]:=qAd (by omega);refine uM hh st.2 st.1 hd hf hn (hstep s _ _ i st.1 (by omega) ?_);rw[hx];refine⟨rfl,fun h' e1 e2=>?_⟩;exact hQ _ h' s.toks hx ⟨e2.extBut S _ (Ne.symm hIS) st.1,e1⟩ fun b o hb e=>e2.extBut b o (fun z=>hb (by simp[z])) e
 done:=fun s Q E st hQ=>by
  refine uM hh st.2 st.1 hd hf hn (hstep s _ _ n st.1 (qAg _) ?_);rw[qBn (by omega)];exact⟨rfl,fun h' e=>hQ h' s.toks fun b o hb e'=>e b o (fun z=>hb (by simp[z])) e'⟩
 self:=fun _ _ _ _ st hQ=>qF st.2 hQ
theorem AI {n:Nat}{T:Addr}{ys:List Nat} (hh:A.handled=none) (hIS:I≠S) (hIT:I≠T) (hd:o.data = .set es ep t) (hf:t.fits es.size=true) (hn:es.size=n) (hp:ys.Perm (qAl n)) :
  Walks prog w A I [I,S,T] [I] n (fun i v=>(ys.map fun k=>(es[k]?.getD (0,.none)).2)[i]?=some v)
   (fun i h=>h.get? S=some o/\h.get? I=some (j0 (.ref T) i S n ep)/\h.get? T=some { cls:=.type "tuple",data:=.seq (ys.map fun(i:Nat)=>Value.int i 0).toArray }) where
 sub:=fun b hb=>by simp at hb;simp[hb]
 frame:=fun _ _ _ st hk=>⟨hk S (by simp) _ st.1,hk I (by simp) _ st.2.1,hk T (by simp) _ st.2.2⟩
 item:=fun i s Q E hi st hQ=>by
  have hyl:ys.length=n:=by rw[hp.length_eq,qAw]
  refine uN hh st.2.1 st.1 hd hf hn st.2.2 hp (fun k e h1 h2 h' e1 e2=>?_) (fun z=>?_)
  ·refine hQ _ h' s.toks ?_ ⟨e2.extBut S _ (Ne.symm hIS) st.1,e1,e2.extBut T _ (Ne.symm hIT) st.2.2⟩ fun b o hb e=>e2.extBut b o (fun z=>hb (by simp[z])) e;rw[qAp,h1];simp[h2]
  ·rw[qAd (by omega)] at z;cases z
 done:=fun s Q E st hQ=>by
  have hyl:ys.length=n:=by rw[hp.length_eq,qAw]
  refine uN hh st.2.1 st.1 hd hf hn st.2.2 hp (fun k e h1 h2 h' e1 e2=>?_) (fun z h' e=>hQ h' s.toks fun b o hb e'=>e b o (fun z=>hb (by simp[z])) e');rw[qBn (by omega)] at h1;cases h1
 self:=fun _ _ _ _ st hQ=>qF st.2.1 hQ
theorem mG {ord:List qAf}{σ:List Int} (hel:qNf (qFx prog w) es.toList) (hm:(es.toList.map fun e=>iv e.2).Perm σ) (hp:ord.Perm (es.toList.map fun e=>e.2)):∃ms,qHt ord ms/\ms.Perm σ:=by
 refine⟨_,yY fun v hv=>?_,((hp.map iv).trans ?_)⟩
 ·obtain⟨e,he,rfl⟩:=List.mem_map.mp (hp.mem_iff.mp hv);obtain⟨⟨k,hk,_⟩,_⟩:=hel e he;obtain⟨t,ht⟩:=Value.isInt_shape (k:=k) hk;exact⟨k,t,ht⟩
 ·rw[qDb];exact hm
theorem Ci {σ:List Int}{Q:qAf->qAh->Prop} (hh:A.handled=none) (hS:eQ prog w s.heap S σ)
  (h:∀(I:Addr) (fp:List Addr) (ord:List qAf) (h':Heap) (d:Drawn) (St:Nat->Heap->Prop) (ms:List Int),Walks prog w A I fp [I] σ.length (fun i v=>ord[i]?=some v) St->St 0 h'->ord.length=σ.length->qHt ord ms->ms.Perm σ ->
   s.heap.objs.size<=I->(∀b∈fp,b=S\/s.heap.objs.size<=b)->(∀b o,s.heap.get? b=some o->h'.get? b=some o)->Q (.ref I) { s with heap:=h',drawn:=d }) :
  qBg (qBz prog w) A (qMp (.ref S)) Q E s:=by
 obtain⟨o,es,ep,t,ho,hex,hd,hel,hmem,hb,hf,hr,hled⟩:=hS;have hn:es.size=σ.length:=by rw[<- hmem.length_eq,qAb,qBs]
 have hSl:S<s.heap.objs.size:=qAr ho;have hps:t.place.size=es.size:=by
  simp only[SetTable.fits,qCa,beq_iff_eq,decide_eq_true_eq] at hf;exact hf.1
 refine xA ho hex hd hf hb (fun hm=>?_) (fun hB ys d hp=>?_)
 ·rcases hm with hB | ⟨hB,hD⟩
  ·obtain⟨ms,m1,m2⟩:=mG (prog:=prog) (w:=w) (ord:=(qKb (w.params.setOrder S ep) es).toList.map fun e=>e.2) hel hmem ((yX _ es).map _);have hl:((qKb (w.params.setOrder S ep) es).toList.map fun e=>e.2).length=σ.length:=by
    rw[qAb,(yX _ es).length_eq,qBs,hn]
   have W:=qG (prog:=prog) (w:=w) (A:=A) (I:=s.heap.objs.size) (S:=S) hh (qGh hSl) hd hf hn (fun _=>0) _ hl fun s' Q' E' i e1 e2 e3=>by
    refine rZ hB e1 hd hf ?_;rw[qAp,qDm] at e3;cases hz:(qKb (w.params.setOrder S ep) es)[i]? with
    | none=>rw[hz] at e3;exact e3
    | some z=>rw[hz] at e3;exact e3
   refine h _ _ _ _ s.drawn _ ms W ⟨qAi _ ho,?_⟩ hl m1 m2 (qAg _) (fun b hb=>?_) fun b o e=>qAi _ e
   ·rw[hn];exact qAs _ rfl
   ·simp only[qEb,qDa,or_false] at hb;rcases hb with rfl | rfl
    ·exact .inr (qAg _)
    ·exact .inl rfl
  ·have hl':t.led=true:=by rw[hled,hB];rfl
   obtain⟨ms,m1,m2⟩:=mG (prog:=prog) (w:=w) (ord:=es.toList.map fun e=>e.2) hel hmem (List.Perm.refl _);have hl:(es.toList.map fun e=>e.2).length=σ.length:=by rw[qAb,qBs,hn]
   have W:=qG (prog:=prog) (w:=w) (A:=A) (I:=s.heap.objs.size) (S:=S) hh (qGh hSl) hd hf hn (Ih t.place) _ hl fun s' Q' E' i e1 e2 e3=>by
    refine uO hB hD hl' e1 hd hf ?_;rw[xB hr (by omega)];rw[qAp,qDm] at e3;rcases qAk i es.size with hi | hi
    ·have ee:=qBp (xs:=es) (i:=i) hi;have ep:=qBp (xs:=t.place) (i:=i) (by omega);rw[ee] at e3|-;rw[ep];have e4:Ih t.place (i+1)=t.place[i]+1:=by
      show(t.place[i]?.getD 0)+1=_;rw[ep];rfl
     rw[e4] at e3;exact e3
    ·rw[qDs hi] at e3|-;exact e3
   refine h _ _ _ _ s.drawn _ ms W ⟨qAi _ ho,?_⟩ hl m1 m2 (qAg _) (fun b hb=>?_) fun b o e=>qAi _ e
   ·rw[hn];exact qAs _ rfl
   ·simp only[qEb,qDa,or_false] at hb;rcases hb with rfl | rfl
    ·exact .inr (qAg _)
    ·exact .inl rfl
 ·rw[hn] at hp;have hperm:(ys.map fun k=>(es[k]?.getD (0,.none)).2).Perm (es.toList.map fun e=>e.2):=by
   refine(hp.map _).trans ?_;refine List.Perm.of_eq (qFd fun i=>?_);rw[qAp,qAp,qDm (xs:=es)];rcases qAk i es.size with hi | hi
   ·rw[qCz (by omega),qBp hi];simp[hi]
   ·rw[qBn (by rw[qAw];omega),qDs hi];rfl
  obtain⟨ms,m1,m2⟩:=mG (prog:=prog) (w:=w) hel hmem hperm;have hl:(ys.map fun k=>(es[k]?.getD (0,Value.none)).2).length=σ.length:=by rw[qAb,hp.length_eq,qAw]
  have W:=AI (prog:=prog) (w:=w) (A:=A) (I:=s.heap.objs.size+1) (S:=S) (T:=s.heap.objs.size) hh (qGh (qHm hSl)) (qOa _) hd hf hn hp;refine h _ _ _ _ d _ ms W ⟨qAi _ (qAi _ ho),?_,qAi _ (qAs _ rfl)⟩ hl m1 m2 (qEz _) (fun b hb=>?_) fun b o e=>qAi _ (qAi _ e)
  ·rw[hn,show s.heap.objs.size+1=(s.heap.push { cls:=.type "tuple",data:=.seq (ys.map fun(i:Nat)=>Value.int i 0).toArray }).objs.size by rw[qDe]];exact qAs _ rfl
  ·simp only[qEb,qDa,or_false] at hb;rcases hb with rfl | rfl | rfl
   ·exact .inr (qEz _)
   ·exact .inl rfl
   ·exact .inr (qAg _)
end
end ST
end PySem
namespace PySem
namespace ST
open L2.ST PyProof.Rows
section
variable {prog:qBl}{w:qCw}{A:qCq}{E:qAf->qAh->Prop}{s:qAh}{S:Addr}{σ:List Int}
theorem Cj {r:Addr}{Q:Bool->qAh->Prop} (hT:s.TypeIs (.ref r) "set") (h:Q false s):qBg (qBz prog w) A (Builtin.List.listLengthHint (.ref r)) Q E s:=by
 unfold Builtin.List.listLengthHint;refine qAa (wpAny_specialOf hT PySem.F.slot_set_len.lookup ?_);generalize hid:("set.__len__":String)=id0;wp_delta;rw[show splitId id0=some ("set","__len__") from by subst hid;decide +kernel];subst hid;refine qAa (wpAny_isInstance (T:="set") (b:=true) hT (by rw[isSubtype_type];kernel_rfl) ?_);refine wpAny_ite_split (fun hab=>absurd hab (by decide)) (fun _=>?_);refine wpAny_ite_split (fun _=>?_) (fun hab=>absurd (by decide +kernel) hab);refine qAa (qHp hT ?_);exact qAe h
theorem uP (x:eQ prog w s.heap S σ):s.TypeIs (.ref S) "set":=by
 obtain⟨o,es,ep,t,ho,hex,r⟩:=x;exact⟨o,ho,hex.1⟩
theorem Ck (x:eQ prog w s.heap S σ):S<s.heap.objs.size:=by
 obtain⟨o,es,ep,t,ho,hex,r⟩:=x;exact qAr ho
theorem Cn {ord:List qAf}{acc:Array qAf}{n:Nat} (hl:ord.length=n) (h:ItemsOf (fun i v=>ord[i]?=some v) acc n):acc.toList=ord:=by
 refine qFd fun i=>?_;rw[qDm];rcases qAk i n with hi | hi
 ·have e:=qBp (xs:=acc) (i:=i) (by rw[h.1];exact hi);rw[e];exact(h.2 i _ e).symm
 ·rw[qDs (by rw[h.1];exact hi),qBn (by omega)]
theorem uQ {Q:List qAf->qAh->Prop} (hh:A.handled=none) (hS:eQ prog w s.heap S σ) (hn:σ.length<=qAj)
  (hQ:∀h' tk d vs ms,s.heap.objs.size<=h'.objs.size->(∀b o,s.heap.get? b=some o->h'.get? b=some o)->qHt vs ms->ms.Perm σ->Q vs { s with heap:=h',toks:=tk,drawn:=d }):qBg (qBz prog w) A (collect (.ref S)) Q E s:=by
 have hlt:=Ck hS;unfold collect;refine qAa (wpAny_runValue (qFg F.entry_proto_collect ?_));rw[Around.under_plainId F.plain_proto_collect _];show qBg _ A.in1 (qOl [] >>= fun l=>qNe (.builtin "list.__iadd__" ⟨[l,.ref S],[]⟩)) _ _ s;refine qAa (qCh ?_);refine qAe ⟨qIh F.plain_list_iadd _,qFg F.entry_list_iadd ?_⟩;rw[Around.under_plainId F.plain_list_iadd _];have kp0:∀b o,s.heap.get? b=some o->(s.heap.push { cls:=.type "list",data:=.seq ([]:List qAf).toArray }).get? b=some o:=fun b o e=>qAi _ e;have hS0:eQ prog w (s.heap.push { cls:=.type "list",data:=.seq ([]:List qAf).toArray }) S σ:=hS.at' fun o e=>kp0 _ _ e;show qBg _ A.in1 (Builtin.List.listExtendWith (.ref s.heap.objs.size) (.ref S) (.ref s.heap.objs.size)) _ _ _;unfold Builtin.List.listExtendWith;refine qAa (qHp (uP (s:={ s with heap:=s.heap.push { cls:=.type "list",data:=.seq ([]:List qAf).toArray } }) hS0) ?_);have h1:Builtin.List.listSameRef (.ref s.heap.objs.size) (.ref S)=false:=by simp[Builtin.List.listSameRef,qGh hlt]
 have h2:(Value.type "set" == Value.type "list")=false:=by decide
 have h3:(Value.type "set" == Value.type "tuple")=false:=by decide
 simp only[h1,h2,h3,Bool.or_false,qFt,if_false];refine qAa (Ci (s:={ s with heap:=s.heap.push { cls:=.type "list",data:=.seq ([]:List qAf).toArray } }) (A:=A.in1) hh hS0 fun I fp ord h' d St ms W st hl m1 m2 hI hfp hkeep=>?_);have hLI:s.heap.objs.size≠I:=by
  have:s.heap.objs.size+1<=I:=by rw[<- qDe];exact hI
  exact qBd this
 have hSf:s.heap.objs.size∉fp:=fun hm=>by
  rcases hfp _ hm with e | e
  ·exact absurd e (qGh hlt)
  ·have:s.heap.objs.size+1<=s.heap.objs.size:=by rw[<- qDe];exact e
   exact absurd this (Nat.not_succ_le_self _)
 have hL1:h'.get? s.heap.objs.size=some { cls:=.type "list",data:=.seq #[] 0 }:=hkeep _ _ (qAs _ rfl);have kp1:∀b o,s.heap.get? b=some o->h'.get? b=some o:=fun b o e=>hkeep _ _ (kp0 _ _ e);refine qAa (qDi (Cj (s:={ s with heap:=h',drawn:=d }) (uP (s:={ s with heap:=h',drawn:=d }) (hS.at' fun o e=>kp1 _ _ e)) ?_));have key:∀(R:qOw->qAh->Prop) (h2:Heap) (c₁ tk:Nat),St 0 h2->(∀b o,s.heap.get? b=some o->h2.get? b=some o) ->
   h2.get? s.heap.objs.size=some { cls:=.type "list",data:=.seq #[] c₁ } ->
   (∀h3 tk3 acc c,h3.get? s.heap.objs.size=some { cls:=.type "list",dict:=none,data:=.seq acc c,slots:=#[] }->acc.toList=ord->(∀b o,s.heap.get? b=some o->h3.get? b=some o)->R (.ok (.ret (.ref s.heap.objs.size))) { s with heap:=h3,toks:=tk3,drawn:=d }) ->
   qHi (qBz prog w) A (.builtin "list.extend.loop" ⟨[.ref s.heap.objs.size,.ref I,.ref s.heap.objs.size],[]⟩) R { s with heap:=h2,toks:=tk,drawn:=d }:=by
  intro R h2 c₁ tk st2 kp2 e2 hR;refine codeAny_extend_loopS W.toS hn _ hSf _ σ.length 0 _ #[] c₁ rfl (qBr _) st2 e2 (ItemsOf.nil _) fun s' acc' c' hm hS' hacc=>?_;have em:=Moved.eq_with hm;rw[em];refine hR s'.heap s'.toks acc' c' hS' (Cn hl hacc) fun b o e=>hm.heap b o (fun hmem=>?_) (kp2 b o e);have hb:=qAr e;rcases List.mem_cons.mp hmem with e' | hmem
  ·exact absurd hb (by rw[e'];exact qDg _)
  ·have e3:b=I:=List.mem_singleton.mp hmem;have:s.heap.objs.size+1<=I:=by rw[<- qDe];exact hI
   rw[e3] at hb;exact absurd (qAx hb (Nat.le_of_succ_le this)) (qDg _)
 have fin:∀h3 tk3 acc c,h3.get? s.heap.objs.size=some { cls:=.type "list",dict:=none,data:=.seq acc c,slots:=#[] }->acc.toList=ord->(∀b o,s.heap.get? b=some o->h3.get? b=some o) ->
   qBg (qBz prog w) A (do
    let o <- load s.heap.objs.size
    match o.data with
    | .seq xs _=>pure xs.toList
    | _=>unsupported "internal:collect") Q E { s with heap:=h3,toks:=tk3,drawn:=d }:=by
  intro h3 tk3 acc c e1 e2 e3;refine qAa (wpAny_load e1 ?_);show qBg _ _ (pure acc.toList) _ _ _;rw[e2];exact qAe (hQ h3 tk3 d ord ms (qAn (qAr e1)) e3 m1 m2)
 refine wpAny_ite_split (fun _=>?_) (fun _=>qAe ⟨qIh qJv _,key _ _ 0 _ st kp1 hL1 fin⟩);refine qAa (qGj ?_);refine qAa ?_;show qBg _ _ (updateSeq s.heap.objs.size (·.push .none) >>= fun _=>updateSeq s.heap.objs.size (·.pop)) _ _ _;refine qAa (wpAny_updateSeq hL1 rfl ?_);have hS₂:=qDc (Obj.mapSeq (·.push Value.none)) hL1 rfl;refine wpAny_updateSeq (hz:=by seq_fits) hS₂ rfl ?_;have hS₃:=qDc (Obj.mapSeq (·.pop)) hS₂ rfl;refine qAe ⟨qIh qJv _,key _ _ _ _ (W.frame 0 _ _ st fun b hb o e=>?_) (fun b o e=>?_) hS₃ fin⟩
 ·have hbS:b≠s.heap.objs.size:=fun z=>hSf (z▸hb);exact(qDv _ _ (Ne.symm hbS)).trans ((qDv _ _ (Ne.symm hbS)).trans e)
 ·have hbS:b≠s.heap.objs.size:=qBd (qAr e);exact(qDv _ _ (Ne.symm hbS)).trans ((qDv _ _ (Ne.symm hbS)).trans (kp1 _ _ e))
theorem xC {Q:qAf->qAh->Prop} (hh:A.handled=none) (hS:eQ prog w s.heap S σ) (h64:σ.length<64)
  (h:∀h' tk d (l:Addr) (out:Array qAf) (ms:List Int) c,(∀b o,s.heap.get? b=some o->h'.get? b=some o)->s.heap.objs.size<=l->h'.get? l=some (qOy "list" out c)->qHt out.toList ms->ms.Perm σ->ms.Pairwise (·<=·)->Q (.ref l) { s with heap:=h',toks:=tk,drawn:=d }) :
  qBg (qBz prog w) A (call (.builtin "sorted") [.ref S]) Q E s:=by
 refine Calls.call_function_entry kind_sorted plain_sorted entry_sorted (args_sorted1 _) ?_;unfold Builtin.«sorted»;refine qAa (m:=checkCount "sorted" 1 1 _) (qAe ?_);refine qAa (uQ hh hS (by rw[qCf];omega) fun h1 tk d vs ms hle kp m1 m2=>?_);have hvl:vs.length=σ.length:=by
  rw[<- m2.length_eq];exact IntsAre.length m1
 refine qAa (wpAny_newList ?_ (by rw[qCf];omega));have hoL:(h1.push (qOy "list" vs.toArray 0)).get? h1.objs.size=some (qOy "list" vs.toArray 0):=qAs _ rfl;show qBg _ _ _ _ _ { s with heap:=h1.push (qOy "list" vs.toArray 0),toks:=tk,drawn:=d };refine qAa (qDi (qEa slot_list_sort ⟨_,hoL,rfl⟩ entry_list_sort (list_sort_tree hoL m1 (by omega) fun out ns' a1 a2 a3=>⟨_,rfl,?_⟩) (args_list_sort _)));obtain⟨c,hc⟩:=sortedHeap_at (out:=out) hoL;refine qAe ⟨_,rfl,h _ tk d _ out ns' c (fun b o e=>?_) hle hc a1 (a2.trans m2) a3⟩;have e1:=kp b o e;have hb:=qAr e1;rw[sortedHeap_old (qBd hb) (by rw[size_push'];exact qHm hb)];exact qAi _ e1
end
end ST
end PySem
namespace L2
open PySem PySem.Spec PyProof.Rows
theorem Inv.draws {X:Cx}{pins:List (Addr×Obj)}{σ:List (Option V)}{H:Addr->Option HO}{s:qAh}{d:Drawn} (I:Inv X pins σ H s):Inv X pins σ H { s with drawn:=d }:=by
 have z:=I.step (g':=s.gens) (t':=s.toks) (d':=d) (h':=s.heap) (H':=H) (ch:=[]) (fun _ z=>nomatch z) (fun b o _ _ _ e _=>e) (fun b o _ _ _ e _=>⟨o.slots,e⟩) (fun _ _ _ _ n=>n) (fun b o _ e=>⟨o,e⟩) (fun _ _ e=>e) (fun _ _ _ e=>e) (fun _ _ e=>⟨#[],by simpa using e⟩) (fun _ n=>n) I.cH I.bare;exact z
theorem r8 (ns:List Int) (k:Int):k∈qIl (fun i=>ns.getD i 0) ns.length↔k∈ns:=by
 have h:=firstMet_any (fun i=>ns.getD i 0) ns.length k;have e:(qAl ns.length).map (fun i=>ns.getD i 0)=ns:=by
  refine qNr (by simp) fun i h1 h2=>?_;rw[qJp,qMw,qAq,qAd h2];rfl
 rw[e] at h;have q:∀l:List Int,l.any (· == k)=true↔k∈l:=fun l=>by simp
 rw[<- q,<- q,h]
theorem gH (f:Nat->Int):∀n,(qIl f n).Nodup
 | 0=>by rw[firstMet_zero];exact qIo
 | n+1=>by
  rw[firstMet_succ];unfold qKs;split
  ·exact gH f n
  ·rename_i h;refine List.nodup_append.mpr ⟨gH f n,by simp,fun a ha b hb e=>?_⟩;obtain rfl:b=f n:=by simpa using hb
   subst e;exact h (List.any_eq_true.mpr ⟨_,ha,by simp⟩)
def Pz (K:qAc) (ta:TA):TE:=fun σ H Q=>ta σ H fun vs H1=>∃(p:Addr) (ns:List Int),vs=[.ref p]/\aT K H1 p (ns.map V.int)/\ns.length<64/\∀(l:Addr) (ms:List Int),H1 l=none->(∀k,k∈ms↔k∈ns)->ms.Pairwise (· < ·)->Q (.ref l) (upd H1 l (.lst (ms.map V.int)))
theorem ER:qCo "set"=some (.type "set"):=by decide +kernel
theorem pw_lt:∀{ms:List Int},ms.Pairwise (·<=·)->ms.Nodup->ms.Pairwise (· < ·)
 | [],_,_=>.nil
 | m::ms,.cons h1 h2,hn=>by
  obtain⟨n1,n2⟩:=List.nodup_cons.mp hn;refine .cons (fun k hk=>?_) (pw_lt h2 n2);have:=h1 k hk;rcases qNl this with z | z
  ·exact z
  ·exact absurd (z▸hk) n1
section
variable {X:Cx}
theorem r9 {a:Expr}{ta:TA}{p p' pos pos':Pos} (hg:Gl X "sorted") (hm:X.mg "sorted"=none) (hg':Gl X "set") (hm':X.mg "set"=none) (hc:X.calm=true) (ha:PA X [a] ta)
  (hs:qBt [a] X.env=[(false,eval a X.env)]:=by rfl) (hs':qBt [.Call (.Name "set" p') [a] [] pos'] X.env=[(false,eval (.Call (.Name "set" p') [a] [] pos') X.env)]:=by rfl) :
  PE X (.Call (.Name "sorted" p) [.Call (.Name "set" p') [a] [] pos'] [] pos) (Pz X.K ta):=by
 intro pins s σ H Q I h;refine qNy (fE I hg hm wU (qIa ?_ hs' rfl));rw[hs'];show qBg _ _ (qOk ((false,eval (.Call (.Name "set" p') [a] [] pos') X.env)::[])) _ _ s;refine qGt ?_;refine qNy (fE I hg' hm' ER (qCb (cB (ha pos' pins s σ H _ I h) fun us s1 ⟨vs,H1,I1,r1,q1⟩=>?_) hs rfl));obtain⟨p,ns,e,hq,h64,q⟩:=q1;subst e;obtain⟨u,rfl,rx⟩:=vals1 r1;cases rx;obtain⟨its,r',pl,hz⟩:=I1.list hq;have hi:=intsAre_of r';have hl:its.length=ns.length:=by rw[<- r'.length,qAb]
 refine PySem.ST.uK (items:=its.toArray) (ns:=ns) (I1.ok.hd hc) pl.isList (by simpa using hi) (by rw[qAv,hl];unfold qFs;omega) fun h' tk hS kp=>?_;refine qHg ?_;rw[show its.toArray.size=ns.length by rw[qAv,hl]] at hS;have hle:(qIl (fun i=>ns.getD i 0) ns.length).length<=ns.length:=firstMet_length_le _ _;have kp1:∀b o,s1.heap.get? b=some o->h'.get? b=some o:=fun b o e=>kp b o (qAr e) e;have I2:Inv X pins σ H1 { s1 with heap:=h',toks:=tk }:=I1.kept kp1;refine PySem.ST.xC (s:={ s1 with heap:=h',toks:=tk }) (I2.ok.hd hc) hS (by omega) fun h2 tk2 d l out ms c kp2 hl2 e2 m1 m2 m3=>?_;have hms:ms.length=(qIl (fun i=>ns.getD i 0) ns.length).length:=m2.length_eq;have I3:=(I2.laid (a:=l) (o:=.lst (ms.map V.int)) (t':=tk2) kp2 hl2 ⟨by rw[qAb,qCf];omega,out.toList,c,kY m1,by rw[show out.toList.toArray=out by simp];exact e2⟩).draws (d:=d);refine⟨.ref l,_,I3,rfl,q _ _ (I2.cH.fresh hl2) (fun k=>?_) (pw_lt m3 (m2.nodup_iff.mpr (gH _ _)))⟩;rw[m2.mem_iff];exact r8 ns k
end
end L2
set_option maxHeartbeats 4000000
namespace L2
open PySem PySem.Spec PyProof.Rows
def Co (a:Addr) (ob:Obj) (kvs:List (Key×V)):It :=
 ⟨fun i H=>H a=some (.frz ob (.dK kvs))/\i<kvs.length,fun i H x H'=>H'=H/\∃(kv:Key×V),kvs[i]?=some kv/\x=kV kv.1,fun i H=>H a=some (.frz ob (.dK kvs))/\kvs.length<=i⟩
theorem sC {P:qBl}{w:qCw}{H:Hp}{h:Heap}{a:Addr}{ob:Obj}{kvs:List (Key×V)} (ok:jV P w H h) (e:H a=some (.frz ob (.dK kvs))):h.get? a=some ob/\∃es ep vs,(a == qFk)=false/\ob.ExactDict/\ob.data = .dict es ep/\KV kvs vs/\Pairs (bW P w) es.toList vs:=by
 have z:h.get? a=some ob/\_:=ok a _ e;obtain⟨_,hd,vs,rel,o,es,ep,h1,h2,h3,h4,h5,h6⟩:=qB ok (.inr ⟨ob,e⟩);have eo:o=ob:=Option.some.inj (h1.symm.trans z.1);subst eo;exact⟨h1,es,ep,vs,hd,h2,h3,rel,h5⟩
theorem xD {P:qBl}{w:qCw}{K:qAc}{tg:Expr} (a it:Addr){ob:Obj}{kvs:List (Key×V)}{es:Array DictEntry}{ep:Nat} (hdat:ob.data = .dict es ep):Turn P w K tg (Co a ob kvs) [it] it (fun i h=>h.IsKeyIter it a i es.size ep) where
 mem:=by simp
 obj:=fun i h st b hb=>by
  have e:b=it:=by simpa using hb
  subst e;obtain⟨o,e,c,d⟩:=st;exact⟨o,e,fun v z=>by rw[d] at z;cases z⟩
 keep:=fun i h h' st k=>st.at fun o e=>k it (by simp) o e
 item:=by
  intro X hP hw hK hc i pins s σ H E I hf st hg;subst hP hw hK;obtain⟨hq,hlt⟩:=hg;obtain⟨h1,es',ep',vs,h2,h3,h4,rel,h5⟩:=sC I.cH hq;have e1:Data.dict es' ep'=Data.dict es ep:=h4.symm.trans hdat;obtain⟨rfl,rfl⟩:es'=es/\ep'=ep:=by injection e1 with a b;exact⟨a,b⟩
  have hlen:es'.size=kvs.length:=by rw[<- qBs,h5.length,Paired.length rel]
  obtain⟨f0,f1,f2,f3,f4,f5⟩:=hf it (by simp);refine Cd st h1 h4 (by omega) fun h' st' sb=>?_;have I1:Inv X pins σ H { s with heap:=h' }:=I.turned (t':=s.toks) (fun b o hb e=>(sb.2 b hb).trans e) f0 f1 f3 f4 f5;obtain⟨o,e,c,dd⟩:=id st';have hkv:kvs[i]?=some kvs[i]:=qAd hlt;obtain⟨q,hq1,hq2⟩:=k4 rel hkv;have hes:es'.toList[i]?=some es'[i]:=by rw[qDm,qBp (by omega)]
  have hkey:=(h5.get? (k:=q.1) (v:=q.2) hes hq1).1;refine⟨_,rfl,x9 (s:={ s with heap:=h' }) e c dd (by decide) ⟨kV kvs[i].1,H,I1,?_,⟨rfl,kvs[i],hkv,rfl⟩,st',fun b hb=>(hf b hb).1⟩⟩;rw[show kvs[i].1=q.1 from hq2.1];exact uH hkey
 done:=by
  intro X hP hw hK hc i pins s σ H E I hf st hg;subst hP hw hK;obtain⟨hq,hge⟩:=hg;obtain⟨h1,es',ep',vs,h2,h3,h4,rel,h5⟩:=sC I.cH hq;have e1:Data.dict es' ep'=Data.dict es ep:=h4.symm.trans hdat;obtain⟨rfl,rfl⟩:es'=es/\ep'=ep:=by injection e1 with a b;exact⟨a,b⟩
  have hlen:es'.size=kvs.length:=by rw[<- qBs,h5.length,Paired.length rel]
  obtain⟨f0,f1,f2,f3,f4,f5⟩:=hf it (by simp);exact EK (I.ok.hd hc) st h1 h4 (by omega) fun h' eb=>⟨rfl,I.turned (t':=s.toks) (fun b o hb e=>eb b o hb e) f0 f1 f3 f4 f5⟩
 self:=fun _ _ _ _ _ st h=>wpAny_pyIter_keyiter st h
section
variable {X:Cx}{tg:Expr}
def Ii (td:TE):TI:=fun σ H R=>td σ H fun x H1=>∃(a:Addr) (ob:Obj) (kvs:List (Key×V)),x = .ref a/\H1 a=some (.frz ob (.dK kvs))/\R (Co a ob kvs) H1
theorem Cp {l:Expr}{td:TE} (hl:PE X l td):PI X tg l (Ii td):=by
 intro pins s σ H R I h;refine cB (hl pins s σ H _ I h) fun v s1 ⟨x,H1,I1,r1,q1⟩=>?_;obtain⟨a,ob,kvs,e,hq,q⟩:=q1;subst e;cases r1;obtain⟨h1,es,ep,xs,h2,h3,h4,rel,h5⟩:=sC I1.cH hq;refine Cc h2 h1 h3 h4 ?_;refine⟨s1.heap.objs.size,[s1.heap.objs.size],_,_,H1,rfl,I1.kept (t':=s1.toks) fun b o e=>qAi _ e,xD a _ h4,⟨_,qAs _ rfl,rfl,rfl⟩,fun b hb=>?_,q⟩;have e:b=s1.heap.objs.size:=by simpa using hb
 subst e;exact I1.Ac (qAg _) (I1.cH.fresh (qAg _))
def Mt (t:TE):TE:=fun σ H Q=>t σ H fun x H1=>∃(a:Addr) (kvs:List (Key×V)),x = .ref a/\H1 a=some (.dK kvs)/\∀ob,Q x (upd H1 a (.frz ob (.dK kvs)))
theorem ES {l:Expr}{td:TE} (hl:PE X l td):PE X l (Mt td):=by
 intro pins s σ H Q I h;refine cB (hl pins s σ H _ I h) fun v s1 ⟨x,H1,I1,r1,q1⟩=>?_;obtain⟨a,kvs,e,hq,q⟩:=q1;obtain⟨z,hd,vs,rel,dd⟩:=BX I1.cH hq;obtain⟨ob,es,ep,g1,g2⟩:=id dd;exact⟨x,_,I1.write (x:=a) (e:=a) (o:=.frz ob (.dK kvs)) (t':=s1.toks) (by rw[hq];exact True.intro) (.inl rfl) (fun b u _ e=>e) ⟨ob,g1⟩ ⟨g1,z,hd,vs,rel,dd⟩,r1,q ob⟩
end
section
variable {K:qAc}{a a':Addr}{xs xs':List V}{lo:Int}{n:Nat}{σ0:St}{H1:Hp}{i0:Nat}{c:TT}{te:TE}{g:TG}{Q:Addr->Hp->Prop}
theorem xE {ob:Obj}{kvs:List (Key×V)} (Iv:Nat->List V->Hp->Prop) (mono:∀i ys H H',kW H H'->Iv i ys H->Iv i ys H') (h0:Iv 0 [] H1) (hq:H1 a=some (.frz ob (.dK kvs))) (hn:kvs.length<=qAj)
  (step:∀(i:Nat) (kv:Key×V) (H2:Hp) (k:VK) (k0:Hp->Prop) (ys:List V),aG H1 H2->kvs[i]?=some kv->Iv i ys H2->(∀y H3,aG H2 H3->Iv (i+1) (ys++[y]) H3->k y H3)->(∀H3,aG H2 H3->Iv (i+1) ys H3->k0 H3) ->
   c (σ0.set i0 (some (kV kv.1))) H2 fun b H4=>if b=true then te (σ0.set i0 (some (kV kv.1))) H4 k else k0 H4)
  (h:∀D ys H2,H1 D=none->aG H1 H2->Iv kvs.length ys H2->H2 D=some (.lst ys)->Q D H2) :
  ∀D,H1 D=none->∃W:Nat->Nat->St->Hp->Prop,(∃m,W 0 m σ0 (upd H1 D (.lst [])))/\∀i m σ1 H2,W i m σ1 H2 ->
   ((Co a ob kvs).stop i H2/\Q D H2)\/((Co a ob kvs).go i H2/\∃N:St->Hp->Prop,(∀σ' H',N σ' H'->∃m',m'<m/\W (i+1) m' σ' H') /\
    ∀x H',(Co a ob kvs).pR i H2 x H'->aX i0 x σ1 H' fun σ2 H3=>c σ2 H3 fun b H4=>if b=true then te σ2 H4 fun y H5=>∃xs,H5 D=some (.lst xs)/\xs.length<qAj/\N σ2 (upd H5 D (.lst (xs++[y]))) else N σ2 H4):=by
 intro D hD;refine⟨fun i m σ1 H2=>σ1.set i0 none=σ0.set i0 none/\aG H1 H2/\(∃ys,ys.length<=i/\Iv i ys H2/\H2 D=some (.lst ys))/\i<=kvs.length/\m=kvs.length-i,⟨kvs.length,rfl,.aF hD,⟨[],qAg _,mono _ _ _ _ (aG.aF hD).t h0,aC⟩,qBr _,rfl⟩,?_⟩;rintro i m σ1 H2 ⟨hσ,hs,⟨ys,hy,hR,hd⟩,hi,rfl⟩;have hset:∀v:Option V,σ1.set i0 v=σ0.set i0 v:=fun v=>by
  have z:=congrArg (fun l=>qHn l i0 v) hσ;simpa using z
 rcases qAk i kvs.length with hlt | hge
 ·right
  refine⟨⟨hs _ _ hq,hlt⟩,fun σ' H'=>σ'.set i0 none=σ0.set i0 none/\aG H1 H'/\∃ys,ys.length<=i+1/\Iv (i+1) ys H'/\H' D=some (.lst ys),fun σ' H' ⟨a,b,c⟩=>⟨kvs.length-(i+1),by omega,a,b,c,hlt,rfl⟩,?_⟩;rintro x H' ⟨rfl,kv,hx,rfl⟩;show c (σ1.set i0 (some (kV kv.1))) _ _;rw[hset];refine step i kv _ _ _ ys hs hx hR (fun y H3 hs3 hR3=>⟨_,hs3 _ _ hd,by omega,?_,(hs.trans hs3).upd_ne' hD,ys++[y],by rw[qAo];show _+1<=_;omega,mono _ _ _ _ (.lst (hs3 _ _ hd)) hR3,aC⟩) fun H3 hs3 hR3=>⟨?_,hs.trans hs3,ys,by omega,hR3,hs3 _ _ hd⟩
  ·simp
  ·simp
 ·left
  obtain rfl:i=kvs.length:=qCt hi hge;exact⟨⟨hs _ _ hq,qAg _⟩,h D ys _ hD hs hR hd⟩
theorem AJ (Ag:St->Prop) (Iv:Nat->List V->Hp->Prop) (mono:∀i ys H H',kW H H'->Iv i ys H->Iv i ys H') (h0:Ag σ0) (h00:Iv 0 [] H1) (hq:aT K H1 a xs) (hq':aT K H1 a' xs') (hlen:xs.length<=xs'.length) (hn:xs.length<=qAj)
  (step:∀(i:Nat) (x y:V) (t:Addr) (σ1:St) (H2:Hp) (k:St->VK) (k0:St->Hp->Prop) (ys:List V),Ag σ1->aG H1 H2->xs[i]?=some x->xs'[i]?=some y->H2 t=some (.tup [x,y])->Iv i ys H2->(∀σ2 z H3,Ag σ2->aG H2 H3->Iv (i+1) (ys++[z]) H3->k σ2 z H3)->(∀σ2 H3,Ag σ2->aG H2 H3->Iv (i+1) ys H3->k0 σ2 H3) ->
   g (.ref t) σ1 H2 fun σ2 H3=>c σ2 H3 fun b H4=>if b=true then te σ2 H4 (k σ2) else k0 σ2 H4)
  (h:∀D ys H2,H1 D=none->aG H1 H2->Iv xs.length ys H2->H2 D=some (.lst ys)->Q D H2) :
  ∀D,H1 D=none->∃W:Nat->Nat->St->Hp->Prop,(∃m,W 0 m σ0 (upd H1 D (.lst [])))/\∀i m σ1 H2,W i m σ1 H2 ->
   ((yR K a a').stop i H2/\Q D H2)\/((yR K a a').go i H2/\∃N:St->Hp->Prop,(∀σ' H',N σ' H'->∃m',m'<m/\W (i+1) m' σ' H') /\
    ∀x H',(yR K a a').pR i H2 x H'->g x σ1 H' fun σ2 H3=>c σ2 H3 fun b H4=>if b=true then te σ2 H4 fun y H5=>∃xs,H5 D=some (.lst xs)/\xs.length<qAj/\N σ2 (upd H5 D (.lst (xs++[y]))) else N σ2 H4):=by
 intro D hD;refine⟨fun i m σ1 H2=>Ag σ1/\aG H1 H2/\(∃ys,ys.length<=i/\Iv i ys H2/\H2 D=some (.lst ys))/\i<=xs.length/\m=xs.length-i,⟨xs.length,h0,.aF hD,⟨[],qAg _,mono _ _ _ _ (aG.aF hD).t h00,aC⟩,qBr _,rfl⟩,?_⟩;rintro i m σ1 H2 ⟨hσ,hs,⟨ys,hy',hR,hd⟩,hi,rfl⟩;rcases qAk i xs.length with hlt | hge
 ·right
  have hlt':i<xs'.length:=qAx hlt hlen;refine⟨⟨xs,xs',xs[i],xs'[i],hs.seq hq,hs.seq hq',by simp[hlt],by simp[hlt']⟩,fun σ' H'=>Ag σ'/\aG H1 H'/\∃ys,ys.length<=i+1/\Iv (i+1) ys H'/\H' D=some (.lst ys),fun σ' H' ⟨a,b,c⟩=>⟨xs.length-(i+1),by omega,a,b,c,hlt,rfl⟩,?_⟩;rintro v H' ⟨t,x,y,rfl,ht,rfl,hx,hy⟩;have hx:=hx xs (hs.seq hq);have hy:=hy xs' (hs.seq hq');have hst:aG H1 (upd H2 t (.tup [x,y])):=hs.trans (.aF ht);have hdt:=aG.aF (o:=.tup [x,y]) ht _ _ hd;refine step i x y t σ1 _ (fun σ2 y H5=>∃xs,H5 D=some (.lst xs)/\xs.length<qAj/\_) _ ys hσ hst hx hy aC (mono _ _ _ _ (aG.aF ht).t hR) (fun σ2 z H3 a2 hs3 hR3=>⟨_,hs3 _ _ hdt,by omega,a2,(hst.trans hs3).upd_ne' hD,ys++[z],by rw[qAo];show _+1<=_;omega,mono _ _ _ _ (.lst (hs3 _ _ hdt)) hR3,aC⟩) fun σ2 H3 a2 hs3 hR3=>⟨a2,hst.trans hs3,ys,by omega,hR3,hs3 _ _ hdt⟩
 ·left
  obtain rfl:i=xs.length:=qCt hi hge;exact⟨⟨xs,xs',hs.seq hq,hs.seq hq',.inl (qAg _)⟩,h D ys _ hD hs hR hd⟩
end
end L2
set_option maxHeartbeats 4000000
namespace L2
open PySem PySem.Spec PyProof.Rows
def Mu (K:qAc) (a:Addr) (n:Nat):It :=
 ⟨fun i H=>i<n/\∃xs x,aT K H a xs/\xs[n-1-i]?=some x,fun i H x H'=>H'=H/\∀xs,aT K H a xs->xs[n-1-i]?=some x,fun i H=>i=n⟩
theorem Cq {P:qBl}{w:qCw}{K:qAc}{tg:Expr} (a it:Addr) (n:Nat):Turn P w K tg (Mu K a n) [it] it (fun i h=>h.IsRevIter it a ((n:Int)-1-(i:Int))) where
 mem:=by simp
 obj:=fun i h st b hb=>by
  have e:b=it:=by simpa using hb
  subst e;obtain⟨o,e,c,d⟩:=st;exact⟨o,e,fun v z=>by rw[d] at z;cases z⟩
 keep:=fun i h h' st k=>st.at fun o e=>k it (by simp) o e
 item:=by
  intro X hP hw hK hc i pins s σ H E I hf st hg;subst hP hw hK;obtain⟨hi,xs,x,hq,hx⟩:=hg;obtain⟨its,rv,p,hz⟩:=I.list hq;obtain⟨u,hu,ru⟩:=rv.get hx;obtain⟨f0,f1,f2,f3,f4,f5⟩:=hf it (by simp);rw[show(n:Int)-1-(i:Int)=((n-1-i:Nat):Int) by omega] at st;refine wpAny_pyNext_rev_item st p.isList (x:=u) (by simpa using hu) fun h' st' sb=>?_;rw[show((n-1-i:Nat):Int)-1=(n:Int)-1-((i+1:Nat):Int) by omega] at st';have I1:Inv X pins σ H { s with heap:=h' }:=I.turned (t':=s.toks) (fun b o hb e=>(sb.2 b hb).trans e) f0 f1 f3 f4 f5;obtain⟨o,e,c,d⟩:=id st';exact⟨u,rfl,x9 (s:={ s with heap:=h' }) e c d (by decide) ⟨x,H,I1,ru,⟨rfl,fun ys hy=>by rw[I.iV hy hq];exact hx⟩,st',fun b hb=>(hf b hb).1⟩⟩
 done:=by
  intro X hP hw hK hc i pins s σ H E I hf st hg;subst hP hw hK;obtain rfl:i=n:=hg;obtain⟨f0,f1,f2,f3,f4,f5⟩:=hf it (by simp);rw[show(i:Int)-1-(i:Int)=-1 by omega] at st;exact wpAny_pyNext_rev_end (I.ok.hd hc) st fun h' eb=>⟨rfl,I.turned (t':=s.toks) (fun b o hb e=>eb b o hb e) f0 f1 f3 f4 f5⟩
 self:=fun _ _ _ _ _ st h=>wpAny_pyIter_revIter st h
theorem uR:qCo "reversed"=some (.type "reversed"):=by decide +kernel
def Oq (K:qAc) (ta:TA):TI:=fun σ H R=>ta σ H fun vs H1=>∃l xs,vs=[.ref l]/\aT K H1 l xs/\R (Mu K l xs.length) H1
theorem Ij {X:Cx}{tg a:Expr}{ta:TA}{p pos:Pos} (hg:Gl X "reversed") (hm:X.mg "reversed"=none) (ha:PA X [a] ta) (hs:qBt [a] X.env=[(false,eval a X.env)]:=by rfl) :
  PI X tg (.Call (.Name "reversed" p) [a] [] pos) (Oq X.K ta):=by
 intro pins s σ H R I h;refine qNy (fE I hg hm uR (qCb (cB (ha pos pins s σ H _ I h) fun us s1 ⟨vs,H1,I1,r1,q1⟩=>?_) hs rfl));obtain⟨l,xs,e,hq,q⟩:=q1;subst e;obtain⟨u,rfl,ru⟩:=vals1 r1;cases (show u=Value.ref l from ru);obtain⟨its,rv,p1,z1⟩:=I1.list hq;have hl:=rv.length;refine call_reversed_list p1.isList ?_;have hit:(s1.heap.push (revObj l ((its.toArray.size:Int)-1))).IsRevIter s1.heap.objs.size l ((xs.length:Int)-1-((0:Nat):Int)):=⟨_,qAs _ rfl,rfl,by
  show Data.fields #[.ref l,qJg ((its.toArray.size:Int)-1)]=_;rw[qAv,<- hl];simp⟩
 refine wpAny_pyIter_revIter (s:={ s1 with heap:=s1.heap.push (revObj l ((its.toArray.size:Int)-1)) }) hit ?_;have I2:Inv X pins σ H1 { s1 with heap:=s1.heap.push (revObj l ((its.toArray.size:Int)-1)) }:=I1.kept (t':=s1.toks) fun b o e=>qAi _ e;refine⟨s1.heap.objs.size,[s1.heap.objs.size],_,_,H1,rfl,I2,Cq l _ xs.length,hit,fun b hb=>?_,q⟩;have e:b=s1.heap.objs.size:=by simpa using hb
 subst e;exact I1.Ac (qAg _) (I1.cH.fresh (qAg _))
theorem ET {K:qAc}{a:Addr}{xs:List V}{g:TG}{tb:TS}{D:Ends}{σ:St}{H:Hp} (Pv:Nat->St->Hp->Prop) (h0:Pv 0 σ H) (hl:∀i σ H,i<=xs.length->Pv i σ H->aT K H a xs)
  (hs:∀i x σ H,xs[xs.length-1-i]?=some x->i<xs.length->Pv i σ H->g x σ H fun σ2 H2=>tb { D with nx:=Pv (i+1),ct:=Pv (i+1),bk:=D.nx } σ2 H2) (hd:∀σ H,Pv xs.length σ H->D.nx σ H) :
  ∃W:Nat->Nat->St->Hp->Prop,(∃m,W 0 m σ H)/\∀i m σ H,W i m σ H ->
   ((Mu K a xs.length).stop i H/\D.nx σ H)\/((Mu K a xs.length).go i H/\∃N:St->Hp->Prop,(∀σ' H',N σ' H'->∃m',m'<m/\W (i+1) m' σ' H')/\∀x H',(Mu K a xs.length).pR i H x H'->g x σ H' fun σ2 H2=>tb { D with nx:=N,ct:=N,bk:=D.nx } σ2 H2):=by
 refine⟨fun i m σ H=>m=xs.length-i/\i<=xs.length/\Pv i σ H,⟨xs.length,by simp,qBr _,h0⟩,?_⟩;rintro i m σ H ⟨rfl,hi,p⟩;have q:=hl i σ H hi p;by_cases hlt:i<xs.length
 ·refine .inr ⟨⟨hlt,xs,xs[xs.length-1-i],q,qAd (by omega)⟩,Pv (i+1),fun σ' H' p'=>⟨xs.length-(i+1),by omega,rfl,hlt,p'⟩,fun x H' y=>?_⟩;obtain⟨e,y⟩:=y;subst e;exact hs i x σ _ (y xs q) hlt p
 ·have e:i=xs.length:=by omega
  subst e;exact .inl ⟨rfl,hd σ H p⟩
end L2
set_option maxHeartbeats 4000000
namespace L2
open PySem PySem.Spec PyProof.Rows
def Ik (tk tv:TE):TE:=fun σ H Q=>∀p,H p=none->tk σ (upd H p (.dK [])) fun x H2=>tv σ H2 fun y H3=>H3 p=some (.dK [])/\∃i:Int,x = .int i/\Q (.ref p) (upd H3 p (.dK [(.inl i,y)]))
theorem Cr {X:Cx}{pos:Pos}{k v:Expr}{tk tv:TE} (hk:PE X k tk) (hv:PE X v tv):PE X (.Dict [some k] [v] pos) (Ik tk tv):=by
 intro pins s σ H Q I q;have hn:=I.cH.fresh (qAg s.heap.objs.size);have I1:=I.laid (a:=s.heap.objs.size) (o:=.dK []) (h':=s.heap.push { cls:=.type "dict",data:=.dict #[] }) (t':=s.toks) (fun _ _ q=>qAi _ q) (qAg _) (uD s.heap I.big);refine wpAny_Dict_walk (knd:=bW X.prog X.w) (by rfl) (by rfl) (by simp) (by simp) ?_;refine pairTrees_cons_walk (cB (hk pins _ σ _ _ I1 (q _ hn)) fun u s2 ⟨x,H2,I2,rx,q2⟩=>cB (hv pins s2 σ H2 _ I2 q2) fun u2 s3 ⟨y,H3,I3,ry,e,i,ex,q3⟩=>pairTrees_nil_walk ?_);subst ex;obtain⟨t,rfl⟩:=rx;obtain⟨z,hd,vs0,r0,dd⟩:=BX I3.cH e;cases r0;refine⟨[(.inl i,u2)],⟨by simp[bW,nX,Value.isInt],rfl,True.intro⟩,dd,fun h' dd' hs=>⟨.ref s.heap.objs.size,_,?_,rfl,q3⟩⟩;have he:∃q,h'.get? s.heap.objs.size=some q:=let ⟨q,_,_,hq,_⟩:=dd';⟨q,hq⟩;exact rW I3 (by rw[e];exact True.intro) hs he (BZ (by rw[qCf];simp) hd (.cons ⟨rfl,ry⟩ .nil) dd')
section
variable {X:Cx}
theorem AK (hh:X.calm=true):gA X (.builtin "max") (fun xs H Q=>∃(p:Addr) (ns:List Int),xs=[.ref p]/\aT X.K H p (ns.map V.int)/\0<ns.length/\∀M,M∈ns->Q (.int M) H):=by
 intro pins s σ H xs us Q I r h;obtain⟨p,ns,rfl,hq,hne,q⟩:=h;obtain⟨u,rfl,rx⟩:=vals1 r;cases rx;obtain⟨its,r',pl,hz⟩:=I.list hq;have hi:=intsAre_of r';obtain⟨xs,hx⟩:=hi.allInts.items;have hl':s.heap.IsList p (intItems xs):=hx▸pl.isList;have e1:ns=xs.toList.map (·.1):=by
  rw[<- nums_intItems,<- hx];exact(show numsOf its.toArray.toList=ns from hi.numsOf).symm
 have hsz:0<xs.size:=by
  have h3:=hne;rw[e1,qAb,qBs] at h3;exact h3
 refine max_intList (I.ok.hd hh) hl' hsz fun v h' tk hv hk=>?_;obtain⟨t,rfl⟩:=intItems_at hv;obtain⟨h1,h2⟩:=argBest_gt (numAt xs) (xs.size-1);refine⟨.int _,H,I.kept (t':=tk) hk,⟨_,rfl⟩,q _ ?_⟩;rw[e1,numAt_eq];exact getD_mem (by rw[qAb,qBs];omega)
end
end L2
namespace Wg
def sm:Nat->(Nat->Int)->Int
 | 0,_=>0
 | n+1,f=>sm n f+f n
theorem aV {n:Nat}{f g:Nat->Int} (h:∀i,i<n->f i=g i):sm n f=sm n g:=by
 induction n with
 | zero=>rfl
 | succ n ih=>show sm n f+f n=sm n g+g n;rw[ih fun i hi=>h i (by omega),h n (by omega)]
theorem eY (n:Nat) (f g:Nat->Int):sm n (fun i=>f i+g i)=sm n f+sm n g:=by
 induction n with
 | zero=>rfl
 | succ n ih=>show sm n _+(f n+g n)=(sm n f+f n)+(sm n g+g n);rw[ih];omega
theorem bE (n:Nat) (a:Int) (f:Nat->Int):sm n (fun i=>a*f i)=a*sm n f:=by
 induction n with
 | zero=>exact(qBv a).symm
 | succ n ih=>show sm n _+a*f n=a*(sm n f+f n);rw[ih,qPs]
theorem bX {n:Nat}{f:Nat->Int} (h:∀i,i<n->f i=0):sm n f=0:=by
 induction n with
 | zero=>rfl
 | succ n ih=>show sm n f+f n=0;rw[ih fun i hi=>h i (by omega),h n (by omega)];rfl
theorem fR {n:Nat}{f:Nat->Int}{k:Nat} (hk:k<n) (h:∀i,i<n->i≠k->f i=0):sm n f=f k:=by
 induction n with
 | zero=>omega
 | succ n ih =>
  show sm n f+f n=f k;rcases qAk k n with z | z
  ·rw[ih z fun i hi=>h i (by omega),h n (by omega) (by omega)];omega
  ·have e:k=n:=by omega
   subst e;rw[bX fun i hi=>h i (by omega) (by omega)];omega
theorem xF {n:Nat}{f:Nat->Int}{k l:Nat} (hkl:k<l) (hl:l<n) (h:∀i,i<n->i≠k->i≠l->f i=0):sm n f=f k+f l:=by
 induction n with
 | zero=>omega
 | succ n ih =>
  show sm n f+f n=f k+f l;rcases qAk l n with z | z
  ·rw[ih z fun i hi=>h i (by omega),h n (by omega) (by omega) (by omega)];omega
  ·have e:l=n:=by omega
   subst e;rw[fR hkl fun i hi ne=>h i (by omega) ne (by omega)]
theorem jJ (n m:Nat) (f:Nat->Nat->Int):sm n (fun i=>sm m fun j=>f i j)=sm m (fun j=>sm n fun i=>f i j):=by
 induction n with
 | zero=>exact(bX fun _ _=>rfl).symm
 | succ n ih =>
  show sm n (fun i=>sm m fun j=>f i j)+sm m (fun j=>f n j)=sm m (fun j=>sm n (fun i=>f i j)+f n j);rw[ih,eY]
theorem qH {n:Nat}{f g:Nat->Int} (h:∀i,i<n->f i<=g i):sm n f<=sm n g:=by
 induction n with
 | zero=>exact qCv _
 | succ n ih =>
  show sm n f+f n<=sm n g+g n;have:=ih fun i hi=>h i (by omega);have:=h n (by omega);omega
def sk (k i:Nat):Nat:=if i<k then i else i+1
def sg:Nat->Int
 | 0=>1
 | n+1=>- sg n
theorem Mv (n:Nat):sg n=1\/sg n=-1:=by
 induction n with
 | zero=>exact .inl rfl
 | succ n ih=>rcases ih with h | h <;> simp[sg,h]
def det:Nat->(Nat->Nat->Int)->Int
 | 0,_=>1
 | m+1,c=>sm (m+1) fun k=>sg k*c k 0*det m (fun i r=>c (sk k i) (r+1))
def up (c:Nat->Nat->Int) (i:Nat) (v:Nat->Int):Nat->Nat->Int:=fun k=>if k=i then v else c k
theorem eZ (c:Nat->Nat->Int) (i:Nat) (v:Nat->Int):up c i v i=v:=if_pos rfl
theorem gY {c:Nat->Nat->Int}{i k:Nat}{v:Nat->Int} (h:k≠i):up c i v k=c k:=if_neg h
theorem jK (c:Nat->Nat->Int) (i:Nat):up c i (c i)=c:=by
 funext k
 unfold up;split
 ·rename_i h;rw[h]
 ·rfl
theorem eE (c:Nat->Nat->Int){i j:Nat} (v u:Nat->Int) (h:i≠j):up (up c i v) j u=up (up c j u) i v:=by
 funext k
 unfold up;split
 ·rename_i e;rw[if_neg (by omega)]
 ·rfl
theorem sE {m:Nat}:∀{c d:Nat->Nat->Int},(∀k,k<m->∀r,r<m->c k r=d k r)->det m c=det m d:=by
 induction m with
 | zero=>intros;rfl
 | succ m ih =>
  intro c d h;refine aV fun k hk=>?_;rw[h k hk 0 (by omega),ih fun i hi r hr=>?_];show c (sk k i) (r+1)=d (sk k i) (r+1);refine h _ ?_ _ (by omega);unfold sk;split <;> omega
theorem mH (c:Nat->Nat->Int) (k:Nat) (v:Nat->Int):(fun i r=>up c k v (sk k i) (r+1))=(fun i r=>c (sk k i) (r+1)):=by
 funext i r
 rw[gY];unfold sk;split <;> omega
def un (k j:Nat):Nat:=if j<k then j else j-1
theorem kD (c:Nat->Nat->Int){k j:Nat} (h:k≠j) (v:Nat->Int):(fun i r=>up c j v (sk k i) (r+1))=up (fun i r=>c (sk k i) (r+1)) (un k j) (fun r=>v (r+1)):=by
 funext i r
 unfold up;by_cases e:sk k i=j
 ·rw[if_pos e,if_pos];unfold sk at e;unfold un;split at e <;> split <;> omega
 ·rw[if_neg e,if_neg];unfold sk at e;unfold un;split at e <;> split <;> omega
theorem Mw {m k j:Nat} (hk:k<m+1) (hj:j<m+1) (h:k≠j):un k j<m:=by
 unfold un;split <;> omega
theorem gZ {m:Nat}:∀{c:Nat->Nat->Int}{j:Nat} (a b:Int) (u v:Nat->Int),j<m->det m (up c j fun r=>a*u r+b*v r)=a*det m (up c j u)+b*det m (up c j v):=by
 induction m with
 | zero=>intros;omega
 | succ m ih =>
  intro c j a b u v hj;unfold det;rw[<- bE,<- bE,<- eY];refine aV fun k hk=>?_;by_cases e:k=j
  ·subst e;rw[mH,mH,mH,eZ,eZ,eZ];grind
  ·rw[kD c e,kD c e,kD c e,gY e,gY e,gY e,ih a b (fun r=>u (r+1)) (fun r=>v (r+1)) (Mw hk hj e)];grind
theorem yZ {m:Nat}:∀{c:Nat->Nat->Int}{j:Nat},j+1<m->c j=c (j+1)->det m c=0:=by
 induction m with
 | zero=>intros;omega
 | succ m ih =>
  intro c j hj e;unfold det;rw[xF (k:=j) (l:=j+1) (by omega) hj fun k hk n1 n2=>?_]
  ·have e2:(fun i r=>c (sk j i) (r+1))=(fun i r=>c (sk (j+1) i) (r+1)):=by
    funext i r
    unfold sk;by_cases h1:i<j
    ·rw[if_pos h1,if_pos (by omega)]
    ·rw[if_neg h1];by_cases h2:i<j+1
     ·rw[if_pos h2,show i=j by omega,e]
     ·rw[if_neg h2]
   rw[e2,e];show sg j*_*_ + - sg j*_*_=0;grind
  ·rw[ih (j:=un k j) (by unfold un;split <;> omega)]
   ·exact qBv _
   ·funext r
    have h1:sk k (un k j)=j:=by
     unfold sk un;by_cases z:j<k
     ·rw[if_pos z,if_pos z]
     ·rw[if_neg z,if_neg (by omega)];omega
    have h2:sk k (un k j+1)=j+1:=by
     unfold sk un;by_cases z:j<k
     ·rw[if_pos z,if_pos (by omega)]
     ·rw[if_neg z,if_neg (by omega)];omega
    rw[h1,h2,e]
theorem EU (m:Nat):det m (fun k r=>if k=r then 1 else 0)=1:=by
 induction m with
 | zero=>rfl
 | succ m ih =>
  unfold det;rw[fR (k:=0) (by omega) fun k hk ne=>by show sg k*(if k=0 then 1 else 0)*_=0;rw[if_neg ne];simp];have e:(fun(i r:Nat)=>(if sk 0 i=r+1 then (1:Int) else 0))=(fun k r=>if k=r then 1 else 0):=by
   funext i r
   have z:sk 0 i=i+1:=rfl;rw[z];by_cases h:i=r
   ·rw[if_pos h,if_pos (by omega)]
   ·rw[if_neg h,if_neg (by omega)]
  show sg 0*(if 0=0 then 1 else 0)*det m (fun(i r:Nat)=>(if sk 0 i=r+1 then (1:Int) else 0))=1;rw[e,ih];rfl
theorem AM {m:Nat}{c:Nat->Nat->Int}{j:Nat} (u v:Nat->Int) (hj:j+1<m):det m (up (up c j u) (j+1) v)=- det m (up (up c j v) (j+1) u):=by
 have h0:∀w:Nat->Int,det m (up (up c j w) (j+1) w)=0:=fun w=>yZ hj (by rw[gY (by omega),eZ,eZ]);have ne:j≠j+1:=by omega
 have h:=h0 (fun r=>1*u r+1*v r);rw[gZ 1 1 u v hj,eE c _ u ne,eE c _ v ne,gZ 1 1 u v (by omega),gZ 1 1 u v (by omega),<- eE c u u ne,<- eE c v u ne,<- eE c u v ne,<- eE c v v ne,h0 u,h0 v] at h;omega
theorem y3 {m:Nat}:∀(n:Nat){c:Nat->Nat->Int}{j:Nat},j+n+1<m->c j=c (j+n+1)->det m c=0:=by
 intro n;induction n with
 | zero=>exact fun hj e=>yZ hj e
 | succ n ih =>
  intro c j hj e;have z:=AM (m:=m) (c:=c) (j:=j+n+1) (c (j+n+1)) (c (j+n+2)) (by omega);rw[jK,jK] at z;rw[z,ih (j:=j) (by omega)]
  ·rfl
  ·rw[gY (by omega),gY (by omega),gY (by omega),eZ];exact e
theorem k8 {m:Nat}{c:Nat->Nat->Int}{i j:Nat} (hi:i<m) (hj:j<m) (ne:i≠j) (e:c i=c j):det m c=0:=by
 rcases qAk i j with h | h
 ·exact y3 (j-i-1) (j:=i) (by omega) (by rw[show i+(j-i-1)+1=j by omega];exact e)
 ·exact y3 (i-j-1) (j:=j) (by omega) (by rw[show j+(i-j-1)+1=i by omega];exact e.symm)
theorem Cs {m:Nat}{c:Nat->Nat->Int}{i j:Nat} (u v:Nat->Int) (hi:i<m) (hj:j<m) (ne:i≠j):det m (up (up c i u) j v)=- det m (up (up c i v) j u):=by
 have h0:∀w:Nat->Int,det m (up (up c i w) j w)=0:=fun w=>k8 hi hj ne (by rw[gY ne,eZ,eZ]);have h:=h0 (fun r=>1*u r+1*v r);rw[gZ 1 1 u v hj,eE c _ u ne,eE c _ v ne,gZ 1 1 u v hi,gZ 1 1 u v hi,<- eE c u u ne,<- eE c v u ne,<- eE c u v ne,<- eE c v v ne,h0 u,h0 v] at h;omega
theorem sH {m:Nat}{c:Nat->Nat->Int}{j:Nat} (hj:j<m):∀(n:Nat) (a:Nat->Int) (u:Nat->Nat->Int),det m (up c j fun r=>sm n fun k=>a k*u k r)=sm n fun k=>a k*det m (up c j (u k)):=by
 intro n a u;induction n with
 | zero =>
  show det m (up c j fun r=>0)=0;have z:=gZ (c:=c) 0 0 (fun _=>0) (fun _=>0) hj;have e:(fun r:Nat=>(0:Int)*(0:Int)+0*0)=fun _=>0:=rfl;have z2:det m (up c j fun r=>(0:Int)*(0:Int)+0*0)=_:=z;rw[e] at z2;omega
 | succ n ih =>
  show det m (up c j fun r=>sm n (fun k=>a k*u k r)+a n*u n r)=_+_;have z:=gZ (c:=c) 1 (a n) (fun r=>sm n fun k=>a k*u k r) (u n) hj;rw[show(fun r=>(1:Int)*(sm n fun k=>a k*u k r)+a n*u n r)=fun r=>sm n (fun k=>a k*u k r)+a n*u n r from funext fun r=>by rw[qCj]] at z;rw[z,ih];show 1*sm n _+a n*_=sm n _+a n*_;rw[qCj]
theorem Ct {m:Nat}{c:Nat->Nat->Int}{j:Nat} (hj:j<m) (a:Int) (u:Nat->Int):det m (up c j fun r=>a*u r)=a*det m (up c j u):=by
 have z:=sH (c:=c) hj 1 (fun _=>a) (fun _=>u);simp only[sm,qDj] at z;exact z
def pP:Nat->Nat
 | 0=>1
 | n+1=>(n+1)*pP n
theorem qI {m:Nat}{X:Nat}:∀{c:Nat->Nat->Int},(∀k r,k<m->r<m->(c k r).natAbs<=X)->(det m c).natAbs<=pP m*X^m:=by
 induction m with
 | zero=>intro c _;exact qAg _
 | succ m ih =>
  intro c h;have hb:∀k,k<m+1->(sg k*c k 0*det m (fun i r=>c (sk k i) (r+1))).natAbs<=X*(pP m*X^m):=fun k hk=>by
   rw[qDq,qDq];have h1:(sg k).natAbs=1:=by rcases Mv k with e | e <;> rw[e] <;> rfl
   rw[h1,qIs];refine qOp (h k 0 hk (by omega)) (ih fun i r hi hr=>h _ _ ?_ (by omega));unfold sk;split <;> omega
  have hs:∀n,n<=m+1->(sm n fun k=>sg k*c k 0*det m (fun i r=>c (sk k i) (r+1))).natAbs<=n*(X*(pP m*X^m)):=by
   intro n;induction n with
   | zero=>intro _;show 0<=_;exact qBr _
   | succ n ih2 =>
    intro hn;refine qCx (qNt _ _) ?_;have a:=ih2 (by omega);have b:=hb n (by omega);rw[qMv,qIs];exact Nat.add_le_add a b
  refine qCx (hs (m+1) (qAg _)) (qIc ?_);show(m+1)*(X*(pP m*X^m))=(m+1)*pP m*X^(m+1);rw[qIb];simp only[qMb,qNn,qPa]
end Wg
namespace Wg
theorem sm_two' {n:Nat}{f:Nat->Int}{k l:Nat} (ne:k≠l) (hk:k<n) (hl:l<n) (h:∀i,i<n->i≠k->i≠l->f i=0):sm n f=f k+f l:=by
 rcases qAk k l with z | z
 ·exact xF z hl h
 ·rw[xF (k:=l) (l:=k) (by omega) hk fun i hi a b=>h i hi b a];omega
structure Fr (m:Nat) (M:Nat->Nat->Int) (d:Int) (R:Nat->Nat->Int) (ch:Nat->Nat) (s:Int):Prop where
 pos:0<d
 eq:∀j r,d*M j r=sm m fun k=>R k j*M (ch k) r
 sg:s=1\/s=-1
 det:d=s*det m fun k=>M (ch k)
variable {m:Nat}{M:Nat->Nat->Int}{d:Int}{R:Nat->Nat->Int}{ch:Nat->Nat}{s:Int}
theorem Fr.ss (h:Fr m M d R ch s):s*s=1:=by rcases h.sg with e | e <;> rw[e] <;> rfl
theorem Fr.Il (h:Fr m M d R ch s){B:Nat->Nat->Int}{i:Nat} (hi:i<m) (j:Nat):d*Wg.det m (up B i (M j))=sm m fun k=>R k j*Wg.det m (up B i (M (ch k))):=by
 rw[<- Ct hi,show(fun r=>d*M j r)=fun r=>sm m fun k=>R k j*M (ch k) r from funext fun r=>h.eq j r,sH hi]
theorem Fr.gI (h:Fr m M d R ch s){k:Nat} (hk:k<m) (j:Nat):R k j=s*Wg.det m (up (fun k=>M (ch k)) k (M j)):=by
 have z:=h.Il (B:=fun k=>M (ch k)) hk j;rw[fR hk fun i hi ne=>by rw[k8 (i:=i) (j:=k) hi hk ne (by rw[gY ne,eZ])];exact qBv _] at z;rw[show up (fun k=>M (ch k)) k (M (ch k))=fun k=>M (ch k) from jK (fun k=>M (ch k)) k] at z;have hd:=h.det;have hp:=h.pos;have e:=h.ss;generalize Wg.det m (fun k=>M (ch k))=X at z hd;generalize Wg.det m (up (fun k=>M (ch k)) k (M j))=Y at z|-;have hX:X≠0:=fun x=>by rw[x] at hd;simp at hd;omega
 have z2:X*(s*Y)=X*R k j:=by
  rw[hd] at z;grind
 exact(qFi hX z2).symm
theorem Fr.unit (h:Fr m M d R ch s){k i:Nat} (hk:k<m) (hi:i<m):R k (ch i)=if k=i then d else 0:=by
 rw[h.gI hk];by_cases e:k=i
 ·rw[if_pos e,e,show up (fun k=>M (ch k)) i (M (ch i))=fun k=>M (ch k) from jK (fun k=>M (ch k)) i,<- h.det]
 ·rw[if_neg e,k8 (i:=i) (j:=k) hi hk (fun z=>e z.symm) (by rw[gY (fun z=>e z.symm),eZ]),qBv]
theorem Fr.inj (h:Fr m M d R ch s){k i:Nat} (hk:k<m) (hi:i<m) (e:ch k=ch i):k=i:=by
 have a:=h.unit hk hi;rw[<- e,h.unit hk hk,if_pos rfl] at a;have:=h.pos;by_cases z:k=i
 ·exact z
 ·rw[if_neg z] at a;omega
theorem Fr.exact(h:Fr m M d R ch s){i p:Nat} (hi:i<m) (hp:p<m) (ne:i≠p) (j q:Nat):d∣R i j*R p q-R i q*R p j:=by
 have z:=h.Il (B:=up (fun k=>M (ch k)) i (M j)) hp q;rw[sm_two' (k:=p) (l:=i) (fun e=>ne e.symm) hp hi fun k hk n1 n2=>by
  rw[k8 (i:=k) (j:=p) hk hp n1 (by rw[gY n1,eZ,gY n2])];exact qBv _] at z
 rw[show up (up (fun k=>M (ch k)) i (M j)) p (M (ch p))=up (fun k=>M (ch k)) i (M j) by
  have e:=jK (up (fun k=>M (ch k)) i (M j)) p;rw[gY (fun e=>ne e.symm)] at e;exact e] at z
 rw[Cs (c:=fun k=>M (ch k)) (M j) (M (ch i)) hi hp ne,show up (fun k=>M (ch k)) i (M (ch i))=fun k=>M (ch k) from jK (fun k=>M (ch k)) i] at z;have a1:=h.gI hi j;have a2:=h.gI hp j;have e:=h.ss;refine⟨s*Wg.det m (up (up (fun k=>M (ch k)) i (M j)) p (M q)),?_⟩;generalize Wg.det m (up (up (fun k=>M (ch k)) i (M j)) p (M q))=E at z|-;generalize Wg.det m (up (fun k=>M (ch k)) i (M j))=X at z a1;generalize Wg.det m (up (fun k=>M (ch k)) p (M j))=Y at z a2;rw[a1,a2];grind
def sgn (x:Int):Int:=if x<0 then -1 else 1
theorem y4 {x:Int} (h:x≠0):0<sgn x*x:=by unfold sgn;split <;> omega
theorem sI (x:Int):sgn x=1\/sgn x=-1:=by unfold sgn;split <;> omega
def g8 (d:Int) (R:Nat->Nat->Int) (p q:Nat):Nat->Nat->Int:=fun k j=>if k=p then sgn (R p q)*R p j else (R k j*(sgn (R p q)*R p q)-R k q*(sgn (R p q)*R p j))/d
def EV (ch:Nat->Nat) (p q:Nat):Nat->Nat:=fun k=>if k=p then q else ch k
theorem Fr.g8 (h:Fr m M d R ch s){p q:Nat} (hp:p<m){k:Nat} (hk:k<m) (ne:k≠p) (j:Nat):d*g8 d R p q k j=R k j*(sgn (R p q)*R p q)-R k q*(sgn (R p q)*R p j):=by
 unfold Wg.g8;rw[if_neg ne];refine Int.mul_ediv_cancel' ?_;obtain⟨c,hc⟩:=h.exact hk hp ne j q;exact⟨sgn (R p q)*c,by grind⟩
theorem Fr.next (h:Fr m M d R ch s){p q:Nat} (hp:p<m) (hq:R p q≠0):Fr m M (sgn (R p q)*R p q) (Wg.g8 d R p q) (EV ch p q) (sgn (R p q)*s):=by
 have hd:d≠0:=by have:=h.pos;omega
 refine⟨y4 hq,fun j r=>?_,?_,?_⟩
 ·have e1:=h.eq j r;have e2:=h.eq q r;refine qFi hd ?_;rw[<- bE];have e3:sm m (fun k=>d*(Wg.g8 d R p q k j*M (EV ch p q k) r))=sm m fun k=>(sgn (R p q)*R p q)*(R k j*M (ch k) r)+(-(sgn (R p q)*R p j)*(R k q*M (ch k) r)+if k=p then d*(sgn (R p q)*R p j)*M q r else 0):=by
   refine aV fun k hk=>?_;by_cases e:k=p
   ·subst e;unfold Wg.g8 EV;rw[if_pos rfl,if_pos rfl,if_pos rfl];grind
   ·have z:=h.g8 (q:=q) hp hk e j;rw[if_neg e];unfold EV;rw[if_neg e];generalize Wg.g8 d R p q k j=X at z|-;generalize sgn (R p q)=S at z|-;grind
  rw[e3,eY,bE,eY,bE,<- e1,<- e2,fR (k:=p) hp fun i hi ne=>if_neg ne,if_pos rfl];grind
 ·rcases sI (R p q) with e | e <;> rcases h.sg with e2 | e2 <;> rw[e,e2] <;> decide
 ·rw[show(fun k=>M (EV ch p q k))=up (fun k=>M (ch k)) p (M q) from funext fun k=>by unfold EV up;split <;> rfl]
  have z:=h.gI hp q;grind
theorem Fr.uniq {d':Int}{R':Nat->Nat->Int}{ch':Nat->Nat}{s':Int} (h:Fr m M d R ch s) (h':Fr m M d' R' ch' s') (e:∀k,k<m->ch k=ch' k):d=d'/\∀k,k<m->∀j,R k j=R' k j:=by
 have eb:∀(v:Nat->Int) (i:Nat),Wg.det m (up (fun k=>M (ch k)) i v)=Wg.det m (up (fun k=>M (ch' k)) i v):=fun v i=>sE fun k hk r _=>by
  unfold up;split
  ·rfl
  ·show M (ch k) r=M (ch' k) r;rw[e k hk]
 have e0:Wg.det m (fun k=>M (ch k))=Wg.det m (fun k=>M (ch' k)):=sE fun k hk r _=>by rw[e k hk]
 have es:s=s':=by
  have a:=h.det;have b:=h'.det;have:=h.pos;have:=h'.pos;rw[<- e0] at b;rcases h.sg with x | x <;> rcases h'.sg with y | y <;> rw[x] at a <;> rw[y] at b <;> omega
 refine⟨by rw[h.det,h'.det,e0,es],fun k hk j=>?_⟩;rw[h.gI hk,h'.gI hk,eb,es]
theorem Fr.bound (h:Fr m M d R ch s){X:Nat} (hX:∀j r,(M j r).natAbs<=X):d.natAbs<=pP m*X^m/\∀k,k<m->∀j,(R k j).natAbs<=pP m*X^m:=by
 have a:s.natAbs=1:=by rcases h.sg with e | e <;> rw[e] <;> rfl
 refine⟨?_,fun k hk j=>?_⟩
 ·rw[h.det,qDq,a,qIs];exact qI fun k r _ _=>hX _ r
 ·rw[h.gI hk,qDq,a,qIs];refine qI fun i r _ _=>?_;unfold up;split
  ·exact hX _ r
  ·exact hX _ r
end Wg
namespace Wg
def red (m:Nat) (c:Nat->Int) (d:Int) (R:Nat->Nat->Int) (ch:Nat->Nat) (j:Nat):Int:=c j*d-sm m fun k=>c (ch k)*R k j
structure St where
 d:Int
 R:Nat->Nat->Int
 ch:Nat->Nat
 s:Int
variable {m n L:Nat}{M:Nat->Nat->Int}{c:Nat->Int}
def St.ok (m:Nat) (M:Nat->Nat->Int) (S:St):Prop:=Fr m M S.d S.R S.ch S.s
def St.red (m:Nat) (c:Nat->Int) (S:St) (j:Nat):Int:=Wg.red m c S.d S.R S.ch j
def St.next (S:St) (p q:Nat):St:=⟨sgn (S.R p q)*S.R p q,g8 S.d S.R p q,EV S.ch p q,sgn (S.R p q)*S.s⟩
structure Goes (m n L:Nat) (c:Nat->Int) (S:St) (p q:Nat):Prop where
 qn:q<n
 more:0<S.red m c q
 least:∀j,j<q->S.red m c j<=0
 pm:p<m
 pos:0<S.R p q
 ahead:∀k,k<m->0<S.R k q->S.R p L*S.R k q<S.R k L*S.R p q\/(S.R p L*S.R k q=S.R k L*S.R p q/\S.ch p<=S.ch k)
theorem kE {x:Int} (h:0<x):sgn x=1:=by unfold sgn;rw[if_neg (by omega)]
theorem St.y6 {S:St} (h:S.ok m M){p q:Nat} (hp:p<m) (hq:S.R p q≠0):(S.next p q).ok m M:=Fr.next h hp hq
theorem St.Im {S:St}{p q:Nat} (hq:0<S.R p q):(S.next p q).d=S.R p q:=by
 show sgn _*_=_;rw[kE hq,qCj]
theorem St.xG {S:St}{p q:Nat} (hq:0<S.R p q) (j:Nat):(S.next p q).R p j=S.R p j:=by
 show g8 _ _ _ _ _ _=_;unfold g8;rw[if_pos rfl,kE hq,qCj]
theorem St.xH {S:St} (h:S.ok m M){p q:Nat} (hp:p<m) (hq:0<S.R p q){k:Nat} (hk:k<m) (ne:k≠p) (j:Nat):S.d*(S.next p q).R k j=S.R k j*S.R p q-S.R k q*S.R p j:=by
 have z:=Fr.g8 h (q:=q) hp hk ne j;rw[kE hq,qCj,qCj] at z;exact z
theorem St.gJ {S:St}{p q:Nat}:(S.next p q).ch p=q:=if_pos rfl
theorem St.fA {S:St}{p q k:Nat} (ne:k≠p):(S.next p q).ch k=S.ch k:=if_neg ne
theorem St.Cu {S:St} (h:S.ok m M){p q:Nat} (hp:p<m) (hq:0<S.R p q) (c:Nat->Int) (j:Nat):S.d*(sm m fun k=>c ((S.next p q).ch k)*(S.next p q).R k j)=S.R p q*(sm m fun k=>c (S.ch k)*S.R k j)+S.R p j*S.red m c q:=by
 unfold St.red Wg.red;rw[<- bE];have e:sm m (fun k=>S.d*(c ((S.next p q).ch k)*(S.next p q).R k j))=sm m fun k=>S.R p q*(c (S.ch k)*S.R k j)+(-(S.R p j)*(c (S.ch k)*S.R k q)+if k=p then S.d*c q*S.R p j else 0):=by
  refine aV fun k hk=>?_;by_cases e:k=p
  ·subst e;rw[if_pos rfl,St.gJ,St.xG hq];grind
  ·have z:=St.xH h hp hq hk e j;rw[if_neg e,St.fA e];generalize (S.next p q).R k j=X at z|-;grind
 rw[e,eY,bE,eY,bE,fR (k:=p) hp fun i hi ne=>if_neg ne,if_pos rfl];grind
theorem St.AN {S:St} (h:S.ok m M){p q:Nat} (g:Goes m n L c S p q) (hf:∀k,k<m->0<=S.R k L):∀k,k<m->0<=(S.next p q).R k L:=fun k hk=>by
 by_cases e:k=p
 ·subst e;rw[St.xG g.pos];exact hf k hk
 ·have z:=St.xH h g.pm g.pos hk e L;have hd:=Fr.pos h;have h0:0<=S.R k L*S.R p q-S.R k q*S.R p L:=by
   rcases qHe 0 (S.R k q) with y | y
   ·have:=g.ahead k hk y;have e1:S.R p L*S.R k q=S.R k q*S.R p L:=qCr _ _;rcases this with a | ⟨a,_⟩ <;> omega
   ·have a:=qEc (hf k hk) (qBy g.pos);have b:=Int.mul_nonpos_of_nonpos_of_nonneg y (hf p g.pm);omega
  rw[<- z] at h0;exact qJs h0 hd
theorem St.jL {S:St} (h:S.ok m M){k:Nat} (hk:k<m) (c:Nat->Int):S.red m c (S.ch k)=0:=by
 unfold St.red Wg.red;rw[fR hk fun i hi ne=>by rw[Fr.unit h hi hk,if_neg ne,qBv],Fr.unit h hk hk,if_pos rfl];omega
theorem St.Io {S S':St} (h:S.ok m M) (h':S'.ok m M) (c:Nat->Int) (j:Nat):S.d*S'.red m c j-(sm m fun k=>S'.red m c (S.ch k)*S.R k j)=S'.d*S.red m c j:=by
 have key:∀l,l<m->S.d*S'.R l j=sm m fun k=>S.R k j*S'.R l (S.ch k):=fun l hl=>by
  have e:=Fr.Il h (B:=fun k=>M (S'.ch k)) hl j;have z:S.d*S'.R l j=S'.s*(S.d*det m (up (fun k=>M (S'.ch k)) l (M j))):=by
   rw[Fr.gI h' hl];grind
  rw[z,e,<- bE];refine aV fun k hk=>?_;rw[Fr.gI h' hl];grind
 unfold St.red Wg.red;have e1:sm m (fun k=>(c (S.ch k)*S'.d-sm m fun l=>c (S'.ch l)*S'.R l (S.ch k))*S.R k j)=S'.d*(sm m fun k=>c (S.ch k)*S.R k j)-sm m fun l=>c (S'.ch l)*(S.d*S'.R l j):=by
  have e2:sm m (fun l=>c (S'.ch l)*(S.d*S'.R l j))=sm m fun k=>S.R k j*sm m fun l=>c (S'.ch l)*S'.R l (S.ch k):=by
   have e3:sm m (fun l=>c (S'.ch l)*(S.d*S'.R l j))=sm m fun l=>sm m fun k=>S.R k j*(c (S'.ch l)*S'.R l (S.ch k)):=by
    refine aV fun l hl=>?_;rw[key l hl,<- bE];refine aV fun k hk=>?_;grind
   rw[e3,jJ];refine aV fun k hk=>?_;rw[bE]
  rw[e2,show ∀a b:Int,a-b=a+(-1)*b from fun a b=>by omega,<- bE,<- bE,<- eY];refine aV fun k hk=>?_;grind
 rw[e1];have e4:sm m (fun l=>c (S'.ch l)*(S.d*S'.R l j))=S.d*sm m fun l=>c (S'.ch l)*S'.R l j:=by
  rw[<- bE];refine aV fun k hk=>?_;grind
 rw[e4];grind
theorem Ip {n:Nat}{f:Nat->Int} (h:sm n f<0):∃k,k<n/\f k<0:=by
 induction n with
 | zero=>simp[sm] at h
 | succ n ih =>
  have h':sm n f+f n<0:=h;rcases qHe (f n) 0 with z | z
  ·exact⟨n,by omega,z⟩
  ·obtain⟨k,hk,y⟩:=ih (by omega);exact⟨k,by omega,y⟩
structure Run (m n L:Nat) (M:Nat->Nat->Int) (c:Nat->Int) (T:Nat) (st:Nat->St) (p q:Nat->Nat):Prop where
 ok:(st 0).ok m M
 My:∀k,k<m->0<=(st 0).R k L
 nJ:∀i,i<T->Goes m n L c (st i) (p i) (q i)
 next:∀i,i<T->st (i+1)=(st i).next (p i) (q i)
section
variable {T:Nat}{st:Nat->St}{p q:Nat->Nat}
theorem Run.qJ (r:Run m n L M c T st p q):∀i,i<=T->(st i).ok m M/\∀k,k<m->0<=(st i).R k L:=by
 intro i;induction i with
 | zero=>exact fun _=>⟨r.ok,r.My⟩
 | succ i ih =>
  intro h;obtain⟨a,b⟩:=ih (by omega);have g:=r.nJ i (by omega);rw[r.next i (by omega)];exact⟨St.y6 a g.pm (by have:=g.pos;omega),St.AN a g b⟩
def St.val (m L:Nat) (c:Nat->Int) (S:St):Int:=sm m fun k=>c (S.ch k)*S.R k L
theorem Run.uS (r:Run m n L M c T st p q){i:Nat} (h:i<T):(st i).d*(st (i+1)).val m L c=(st (i+1)).d*(st i).val m L c+(st i).R (p i) L*(st i).red m c (q i):=by
 have g:=r.nJ i h;have z:=St.Cu (r.qJ i (by omega)).1 g.pm g.pos c L;rw[<- St.Im g.pos,<- r.next i h] at z;exact z
theorem oP {a b e x y z:Int} (hb:0<b) (ha:0<a) (he:0<e) (h1:x*b<=y*a) (h2:y*e<=z*b):x*e<=z*a:=by
 have a1:=qCe h1 (qBy he);have a2:=qCe h2 (qBy ha);have:b*(x*e)<=b*(z*a):=by grind
 exact Int.le_of_mul_le_mul_left this hb
theorem uT {a b e x y z:Int} (hb:0<b) (ha:0<a) (he:0<e) (h1:x*b<=y*a) (h2:y*e<z*b):x*e<z*a:=by
 have a1:=qCe h1 (qBy he);have a2:=qCu h2 ha;have:b*(x*e)<b*(z*a):=by grind
 exact qLc this (qBy hb)
theorem qK {a b e x y z:Int} (hb:0<b) (ha:0<a) (he:0<e) (h1:x*b<y*a) (h2:y*e<=z*b):x*e<z*a:=by
 have a1:=qCu h1 he;have a2:=qCe h2 (qBy ha);have:b*(x*e)<b*(z*a):=by grind
 exact qLc this (qBy hb)
theorem Run.uU (r:Run m n L M c T st p q){a:Nat}:∀k,a+k<=T->(st a).val m L c*(st (a+k)).d<=(st (a+k)).val m L c*(st a).d:=by
 intro k;induction k with
 | zero=>exact fun _=>qCv _
 | succ k ih =>
  intro h;have h1:=ih (by omega);have z:=r.uS (i:=a+k) (by omega);have pa:=Fr.pos (r.qJ a (by omega)).1;have pk:=Fr.pos (r.qJ (a+k) (by omega)).1;have pk1:=Fr.pos (r.qJ (a+k+1) (by omega)).1;have g:=r.nJ (a+k) (by omega);have nn:=qEc ((r.qJ (a+k) (by omega)).2 _ g.pm) (qBy g.more);exact oP pk pa pk1 h1 (by grind)
theorem Run.uV (r:Run m n L M c T st p q){a b:Nat} (hab:a<b) (hb:b<=T) (e:∀k,k<m->(st a).ch k=(st b).ch k):∀i,a<=i->i<b->(st i).R (p i) L=0:=fun i h1 h2=>by
 obtain⟨ed,eR⟩:=Fr.uniq (r.qJ a (by omega)).1 (r.qJ b hb).1 e;have ev:(st a).val m L c=(st b).val m L c:=aV fun k hk=>by rw[e k hk,eR k hk]
 have g:=r.nJ i (by omega);have f:=(r.qJ i (by omega)).2 _ g.pm;rcases qHe 0 ((st i).R (p i) L) with y | y
 ·exfalso;have z:=r.uS (i:=i) (by omega);have pos:=qHr y g.more;have pa:=Fr.pos (r.qJ a (by omega)).1;have pi:=Fr.pos (r.qJ i (by omega)).1;have pi1:=Fr.pos (r.qJ (i+1) (by omega)).1;have pb:=Fr.pos (r.qJ b hb).1;have m1:=r.uU (a:=a) (i-a) (by omega);rw[show a+(i-a)=i by omega] at m1;have m2:=r.uU (a:=i+1) (b-(i+1)) (by omega);rw[show i+1+(b-(i+1))=b by omega] at m2;have s1:(st a).val m L c*(st (i+1)).d<(st (i+1)).val m L c*(st a).d:=uT pi pa pi1 m1 (by grind);have s2:=qK pi1 pa pb s1 m2;rw[ev,ed] at s2;omega
 ·omega
def St.has (m:Nat) (S:St) (j:Nat):Prop:=∃k,k<m/\S.ch k=j
def St.nil (m L:Nat) (S:St) (j:Nat):Prop:=∀k,k<m->S.ch k=j->S.R k L=0
theorem round {P:Nat->Prop}{a b:Nat} (h:∀i,a<=i->i<b->P i->P (i+1)) (e:P b->P a){i j:Nat} (ai:a<=i) (ib:i<=b) (aj:a<=j) (jb:j<=b) (hi:P i):P j:=by
 have up:∀k x,a<=x->x+k<=b->P x->P (x+k):=by
  intro k;induction k with
  | zero=>exact fun _ _ _ h=>h
  | succ k ih=>exact fun x h1 h2 h3=>h (x+k) (by omega) (by omega) (ih x h1 (by omega) h3)
 have hb:=up (b-i) i ai (by omega) hi;rw[show i+(b-i)=b by omega] at hb;have z:=up (j-a) a (qAg _) (by omega) (e hb);rw[show a+(j-a)=j by omega] at z;exact z
theorem mI {P:Nat->Prop}{a b:Nat}{f:Nat->Nat} (hab:a<b):∃i,a<=i/\i<b/\∀j,a<=j->j<b->f j<=f i:=by
 have up:∀k,∃i,a<=i/\i<a+k+1/\∀j,a<=j->j<a+k+1->f j<=f i:=by
  intro k;induction k with
  | zero=>exact⟨a,qAg _,by omega,fun j h1 h2=>by rw[show j=a by omega];exact qAg _⟩
  | succ k ih =>
   obtain⟨i,h1,h2,h3⟩:=ih;rcases qAk (f i) (f (a+k+1)) with z | z
   ·exact⟨a+k+1,by omega,by omega,fun j j1 j2=>by
     by_cases e:j=a+k+1
     ·rw[e];exact qAg _
     ·have:=h3 j j1 (by omega);omega⟩
   ·exact⟨i,h1,by omega,fun j j1 j2=>by
     by_cases e:j=a+k+1
     ·rw[e];exact z
     ·exact h3 j j1 (by omega)⟩
 have z:=up (b-a-1);rw[show a+(b-a-1)+1=b by omega] at z;exact z
theorem Run.EW (r:Run m n L M c T st p q){a b:Nat} (hab:a<b) (hb:b<=T) (e:∀k,k<m->(st a).ch k=(st b).ch k):False:=by
 have uV:=r.uV hab hb e;obtain⟨_,eR⟩:=Fr.uniq (r.qJ a (by omega)).1 (r.qJ b hb).1 e;obtain⟨i1,a1,b1,mx⟩:=mI (P:=fun _=>True) (f:=q) hab;have hasE:∀j,St.has m (st b) j->St.has m (st a) j:=fun j ⟨k,hk,z⟩=>⟨k,hk,by rw[e k hk];exact z⟩;have hasE':∀j,St.has m (st a) j->St.has m (st b) j:=fun j ⟨k,hk,z⟩=>⟨k,hk,by rw[<- e k hk];exact z⟩;have nilE:∀j,St.nil m L (st b) j->St.nil m L (st a) j:=fun j h k hk z=>by rw[eR k hk];exact h k hk (by rw[<- e k hk];exact z)
 have comes:∀j i i',a<=i->i<=b->a<=i'->i'<=b->¬St.has m (st i) j->St.has m (st i') j->∃x,a<=x/\x<b/\q x=j:=fun j i i' x1 x2 y1 y2 no yes=>by
  refine qAz fun nx=>?_;refine round (P:=fun i=>¬St.has m (st i) j) (fun i u1 u2 h ⟨k,hk,z⟩=>?_) (fun h z=>h (hasE' j z)) x1 x2 y1 y2 no yes;rw[r.next i (by omega)] at z;by_cases ek:k=p i
  ·rw[ek,St.gJ] at z;exact nx ⟨i,u1,u2,z⟩
  ·rw[St.fA ek] at z;exact h ⟨k,hk,z⟩
 have nilR:∀j i i',a<=i->i<=b->a<=i'->i'<=b->St.nil m L (st i) j->St.nil m L (st i') j:=fun j i i' x1 x2 y1 y2 h=>by
  refine round (P:=fun i=>St.nil m L (st i) j) (fun i u1 u2 h k hk z=>?_) (nilE j) x1 x2 y1 y2 h;have g:=r.nJ i (by omega);have okI:=(r.qJ i (by omega)).1;rw[r.next i (by omega)] at z|-;by_cases ek:k=p i
  ·rw[ek,St.xG g.pos];exact uV i u1 u2
  ·rw[St.fA ek] at z;have w:=St.xH okI g.pm g.pos hk ek L;rw[h k hk z,uV i u1 u2,qBc,qBv] at w;have pd:=Fr.pos okI;have w':(st i).d*((st i).next (p i) (q i)).R k L=0:=by rw[w];rfl
   rcases Int.mul_eq_zero.mp w' with v | v
   ·omega
   ·exact v
 have g1:=r.nJ i1 (by omega);have Ls:=(r.qJ i1 (by omega)).1;have not1:¬St.has m (st i1) (q i1):=fun⟨k,hk,z⟩=>by
  have w:=St.jL Ls hk c;rw[z] at w;have:=g1.more;omega
 have yes1:St.has m (st (i1+1)) (q i1):=⟨p i1,g1.pm,by rw[r.next i1 (by omega)];exact St.gJ⟩;have nJ:∃i,a<=i/\i<b/\(st i).ch (p i)=q i1:=by
  refine qAz fun nx=>?_;refine not1 (round (P:=fun i=>St.has m (st i) (q i1)) (fun i u1 u2 ⟨k,hk,z⟩=>?_) (hasE _) (i:=i1+1) (j:=i1) (by omega) (by omega) a1 (by omega) yes1);rw[r.next i (by omega)];by_cases ek:k=p i
  ·exact absurd ⟨i,u1,u2,by rw[<- ek];exact z⟩ nx
  ·exact⟨k,hk,by rw[St.fA ek];exact z⟩
 obtain⟨i2,a2,b2,e2⟩:=nJ;have g2:=r.nJ i2 (by omega);have ok2:=(r.qJ i2 (by omega)).1;have not2:q i2≠q i1:=fun z=>by
  have w:=St.jL ok2 g2.pm c;rw[e2,<- z] at w;have:=g2.more;omega
 have lt2:q i2<q i1:=by have:=mx i2 a2 b2;omega
 have key:=St.Io ok2 Ls c (q i2);have le:=g1.least _ lt2;have posd:=Fr.pos Ls;have posd2:=Fr.pos ok2;have rhs:=qHr posd g2.more;have l0:(st i2).d*(st i1).red m c (q i2)<=0:=by
  have:=qEc (qBy posd2) (show 0<=-((st i1).red m c (q i2)) by omega);rw[qMz] at this;omega
 obtain⟨k,hk,neg⟩:=Ip (n:=m) (f:=fun k=>(st i1).red m c ((st i2).ch k)*(st i2).R k (q i2)) (by omega);have neg:(st i1).red m c ((st i2).ch k)*(st i2).R k (q i2)<0:=neg;have nob:¬St.has m (st i1) ((st i2).ch k):=fun⟨k',hk',z⟩=>by
  have w:=St.jL Ls hk' c;rw[z] at w;rw[w,qBc] at neg;omega
 obtain⟨x,x1,x2,ex⟩:=comes _ i1 i2 a1 (by omega) a2 (by omega) nob ⟨k,hk,rfl⟩;have lex:=mx x x1 x2;rw[ex] at lex;by_cases et:(st i2).ch k=q i1
 ·have kp:k=p i2:=Fr.inj ok2 hk g2.pm (by rw[et,e2]);rw[et,kp] at neg;have:=qHr g1.more g2.pos;omega
 ·have lt:(st i2).ch k<q i1:=by omega
  have le2:=g1.least _ lt;have pos:0<(st i2).R k (q i2):=by
   rcases qHe 0 ((st i2).R k (q i2)) with y | y
   ·exact y
   ·have:=qEc (show 0<=-((st i1).red m c ((st i2).ch k)) by omega) (show 0<=-((st i2).R k (q i2)) by omega);rw[qKq] at this;omega
  have z0:(st i2).R k L=0:=nilR _ i1 i2 a1 (by omega) a2 (by omega) (fun k' hk' z=>absurd ⟨k',hk',z⟩ nob) k hk rfl;have z1:=uV i2 a2 b2;rcases g2.ahead k hk pos with y | ⟨_,y⟩
  ·rw[z0,z1,qBc,qBc] at y;omega
  ·rw[e2] at y;omega
end
end Wg
namespace Wg
theorem Iq:∀(K T:Nat) (f:Nat->Nat),(∀i,i<=T->f i<K)->(∀i j,i<j->j<=T->f i≠f j)->T<K:=by
 intro K;induction K with
 | zero=>intro T f h _;exact absurd (h 0 (by omega)) (by omega)
 | succ K ih =>
  intro T f h inj;by_cases ex:∃i,i<=T/\f i=K
  ·obtain⟨i0,h0,e0⟩:=ex;cases T with
   | zero=>omega
   | succ T =>
    have z:=ih T (fun i=>if i=i0 then f (T+1) else f i) (fun i hi=>?_) (fun i j ij jT=>?_)
    ·omega
    ·show(if i=i0 then f (T+1) else f i)<K;split
     ·rename_i e;have a:=h (T+1) (by omega);have b:=inj i (T+1) (by omega) (by omega);rw[e,e0] at b;omega
     ·rename_i e;have a:=h i (by omega);have:f i≠K:=fun z=>by
       rcases qAk i i0 with y | y
       ·exact inj i i0 y h0 (by omega)
       ·exact inj i0 i (by omega) (by omega) (by omega)
      omega
    ·show(if i=i0 then f (T+1) else f i)≠(if j=i0 then f (T+1) else f j);split
     ·rw[if_neg (by omega)];exact fun z=>inj j (T+1) (by omega) (by omega) z.symm
     ·split
      ·exact inj i (T+1) (by omega) (by omega)
      ·exact inj i j ij (by omega)
  ·have z:=ih T f (fun i hi=>?_) inj
   ·omega
   ·have a:=h i hi;have:f i≠K:=fun z=>ex ⟨i,hi,z⟩;omega
def code (N:Nat) (ch:Nat->Nat):Nat->Nat
 | 0=>0
 | k+1=>code N ch k*N+ch k
theorem EX {N:Nat}{ch:Nat->Nat}:∀m,(∀k,k<m->ch k<N)->code N ch m<N^m:=by
 intro m;induction m with
 | zero=>exact fun _=>Nat.one_pos
 | succ m ih =>
  intro h;have a:=ih fun k hk=>h k (by omega);have b:=h m (by omega);show code N ch m*N+ch m<N^m*N;have:(code N ch m+1)*N<=N^m*N:=qMj N a;rw[qMv] at this;omega
theorem code_inj {N:Nat}{ch ch':Nat->Nat}:∀m,(∀k,k<m->ch k<N)->(∀k,k<m->ch' k<N)->code N ch m=code N ch' m->∀k,k<m->ch k=ch' k:=by
 intro m;induction m with
 | zero=>intros;omega
 | succ m ih =>
  intro h h' e k hk;have e:code N ch m*N+ch m=code N ch' m*N+ch' m:=e;have a:=h m (by omega);have b:=h' m (by omega);have e1:ch m=ch' m:=by
   have:=congrArg (· % N) e;simp only[Nat.mul_add_mod_self_right,qOb a,qOb b] at this;exact this
  have e2:code N ch m=code N ch' m:=by
   rw[e1] at e;exact Nat.eq_of_mul_eq_mul_right (by omega) (Nat.add_right_cancel e)
  by_cases z:k=m
  ·rw[z,e1]
  ·exact ih (fun k hk=>h k (by omega)) (fun k hk=>h' k (by omega)) e2 k (by omega)
variable {m n L:Nat}{M:Nat->Nat->Int}{c:Nat->Int}{T:Nat}{st:Nat->St}{p q:Nat->Nat}
theorem Run.Ot (r:Run m n L M c T st p q){N:Nat} (hn:n<=N) (h:∀k,k<m->(st 0).ch k<N):∀i,i<=T->∀k,k<m->(st i).ch k<N:=by
 intro i;induction i with
 | zero=>exact fun _=>h
 | succ i ih =>
  intro hi k hk;rw[r.next i (by omega)];have g:=r.nJ i (by omega);by_cases e:k=p i
  ·rw[e,St.gJ];have:=g.qn;omega
  ·rw[St.fA e];exact ih (by omega) k hk
theorem Run.ends (r:Run m n L M c T st p q){N:Nat} (hn:n<=N) (h:∀k,k<m->(st 0).ch k<N):T<N^m :=
 Iq (N^m) T (fun i=>code N (st i).ch m) (fun i hi=>EX m (r.Ot hn h i hi)) fun i j ij jT z =>
  r.EW ij jT (code_inj m (r.Ot hn h i (by omega)) (r.Ot hn h j jT) z)
theorem Run.more (r:Run m n L M c T st p q){p' q':Nat} (g:Goes m n L c (st T) p' q'):∃st' p2 q2,Run m n L M c (T+1) st' p2 q2/\st' 0=st 0/\st' (T+1)=(st T).next p' q':=by
 refine⟨fun i=>if i<=T then st i else (st T).next p' q',fun i=>if i<T then p i else p',fun i=>if i<T then q i else q',⟨?_,?_,fun i hi=>?_,fun i hi=>?_⟩,if_pos (by omega),if_neg (by omega)⟩
 ·rw[if_pos (by omega)];exact r.ok
 ·rw[if_pos (by omega)];exact r.My
 ·by_cases e:i<T
  ·rw[if_pos (by omega),if_pos e,if_pos e];exact r.nJ i e
  ·rw[if_pos (by omega),if_neg e,if_neg e,show i=T by omega];exact g
 ·by_cases e:i<T
  ·rw[if_pos (by omega),if_pos (by omega),if_pos e,if_pos e];exact r.next i e
  ·rw[if_neg (by omega),if_pos (by omega),if_neg e,if_neg e,show i=T by omega]
theorem Run.none {S:St} (h:S.ok m M) (f:∀k,k<m->0<=S.R k L):Run m n L M c 0 (fun _=>S) (fun _=>0) (fun _=>0) :=
 ⟨h,f,fun i hi=>by omega,fun i hi=>by omega⟩
theorem Run.keeps (r:Run m n L M c T st p q){P:St->Prop} (h0:P (st 0)) (h:∀S p q,S.ok m M->(∀k,k<m->0<=S.R k L)->Goes m n L c S p q->P S->P (S.next p q)):P (st T):=by
 have z:∀i,i<=T->P (st i):=by
  intro i;induction i with
  | zero=>exact fun _=>h0
  | succ i ih =>
   intro hi;rw[r.next i (by omega)];exact h _ _ _ (r.qJ i (by omega)).1 (r.qJ i (by omega)).2 (r.nJ i (by omega)) (ih (by omega))
 exact z T (qAg _)
def fS (m n:Nat) (A:Nat->Nat->Int) (due:Nat->Int):Nat->Nat->Int:=fun j r =>
 if r<m then if j<n then sgn (due r)*A j r else if j<n+m then (if j=n+r then 1 else 0) else if j=n+m then sgn (due r)*due r else 0 else 0
variable {A:Nat->Nat->Int}{due:Nat->Int}
theorem mJ {i r:Nat} (hi:i<m):fS m n A due (n+i) r=if r=i then 1 else 0:=by
 unfold fS;by_cases hr:r<m
 ·rw[if_pos hr,if_neg (by omega),if_pos (by omega)];by_cases e:r=i
  ·rw[if_pos e,if_pos (by omega)]
  ·rw[if_neg e,if_neg (by omega)]
 ·rw[if_neg hr,if_neg (by omega)]
theorem y8 {j r:Nat} (hr:¬r<m):fS m n A due j r=0:=if_neg hr
theorem nU {j r:Nat} (hr:r<m) (hj:j<n):fS m n A due j r=sgn (due r)*A j r:=by unfold fS;rw[if_pos hr,if_pos hj]
theorem sJ {r:Nat} (hr:r<m):fS m n A due (n+m) r=sgn (due r)*due r:=by unfold fS;rw[if_pos hr,if_neg (by omega),if_neg (by omega),if_pos rfl]
theorem xI (j r:Nat):fS m n A due j r=sm m fun i=>fS m n A due j i*fS m n A due (n+i) r:=by
 by_cases hr:r<m
 ·rw[fR (k:=r) hr fun i hi ne=>by rw[mJ hi,if_neg (fun e=>ne e.symm),qBv],mJ hr,if_pos rfl,qFa]
 ·rw[y8 hr,bX fun i hi=>by rw[y8 hr,qBv]]
def start (m n:Nat) (A:Nat->Nat->Int) (due:Nat->Int):St:=⟨1,fun k j=>fS m n A due j k,fun k=>n+k,1⟩
theorem Cv:(start m n A due).ok m (fS m n A due):=by
 refine⟨by show(0:Int)<1;decide,fun j r=>?_,.inl rfl,?_⟩
 ·show 1*_=_;rw[qCj];exact xI j r
 ·show 1=1*det m (fun k=>fS m n A due (n+k));rw[qCj,<- EU m];refine sE fun k hk r hr=>?_;rw[mJ hk];by_cases e:k=r
  ·rw[if_pos e,if_pos e.symm]
  ·rw[if_neg e,if_neg (fun z=>e z.symm)]
theorem Ir (x:Int):0<=sgn x*x:=by unfold sgn;split <;> omega
theorem xJ:∀k,k<m->0<=(start m n A due).R k (n+m):=fun k hk=>by
 show 0<=fS m n A due (n+m) k;rw[sJ hk];exact Ir _
theorem EY {S:St} (h:S.ok m (fS m n A due)){k:Nat} (hk:k<m) (j:Nat):S.R k j=sm m fun i=>fS m n A due j i*S.R k (n+i):=by
 rw[Fr.gI h hk,show fS m n A due j=fun r=>sm m fun i=>fS m n A due j i*fS m n A due (n+i) r from funext fun r=>xI j r,sH hk,<- bE];refine aV fun i hi=>?_;rw[Fr.gI h hk (n+i)];show _=(sm m fun i'=>fS m n A due j i'*fS m n A due (n+i') i)*_;rw[<- xI j i];grind
def fC (m n:Nat) (c:Nat->Int) (S:St) (i:Nat):Int:=sm m fun k=>c (S.ch k)*S.R k (n+i)
theorem qL {S:St} (h:S.ok m (fS m n A due)) (c:Nat->Int) (j:Nat):(sm m fun i=>fS m n A due j i*fC m n c S i)=c j*S.d-S.red m c j:=by
 have e:(sm m fun i=>fS m n A due j i*fC m n c S i)=sm m fun k=>c (S.ch k)*S.R k j:=by
  have e1:(sm m fun i=>fS m n A due j i*fC m n c S i)=sm m fun i=>sm m fun k=>fS m n A due j i*(c (S.ch k)*S.R k (n+i)):=aV fun i hi=>by
   unfold fC;rw[bE]
  rw[e1,jJ];refine aV fun k hk=>?_;rw[EY h hk j,<- bE];refine aV fun i hi=>?_;grind
 rw[e];unfold St.red red;omega
theorem Cw (x:Int):sgn x*sgn x=1:=by rcases sI x with e | e <;> rw[e] <;> rfl
theorem oQ {S:St} (h:S.ok m (fS m n A due)) (c:Nat->Int){j:Nat} (hj:j<n):(sm m fun i=>A j i*(sgn (due i)*fC m n c S i))=c j*S.d-S.red m c j:=by
 rw[<- qL h];refine aV fun i hi=>?_;rw[nU hi hj];grind
theorem qM {S:St} (h:S.ok m (fS m n A due)) (c:Nat->Int) (c0:c (n+m)=0):(sm m fun i=>due i*(sgn (due i)*fC m n c S i))=sm m fun k=>c (S.ch k)*S.R k (n+m):=by
 have z:=qL h c (n+m);unfold St.red red at z;rw[c0] at z;have e:(sm m fun i=>due i*(sgn (due i)*fC m n c S i))=sm m fun i=>fS m n A due (n+m) i*fC m n c S i:=aV fun i hi=>by
  rw[sJ hi];grind
 rw[e,z];omega
def wt (m:Nat) (f:Nat->Int) (S:St) (j:Nat):Int:=sm m fun k=>if S.ch k=j then f k else 0
theorem sM (f:Nat->Int) (S:St) (g:Nat->Int) (h0:∀k,k<m->n<=S.ch k->g (S.ch k)*f k=0):(sm n fun j=>g j*wt m f S j)=sm m fun k=>g (S.ch k)*f k:=by
 have e1:(sm n fun j=>g j*wt m f S j)=sm n fun j=>sm m fun k=>if S.ch k=j then g j*f k else 0:=aV fun j hj=>by
  unfold wt;rw[<- bE];refine aV fun k hk=>?_;split
  ·rfl
  ·exact qBv _
 rw[e1,jJ];refine aV fun k hk=>?_;rcases qAk (S.ch k) n with z | z
 ·rw[fR (k:=S.ch k) z fun i hi ne=>if_neg (fun e=>ne e.symm),if_pos rfl]
 ·rw[bX fun i hi=>if_neg (by omega),h0 k hk z]
theorem Gb {S:St} (f:Nat->Int){j:Nat} (h:∀k,k<m->S.ch k≠j):wt m f S j=0:=bX fun k hk=>if_neg (h k hk)
theorem oR {n:Nat}{f:Nat->Int} (h:∀i,i<n->0<=f i):0<=sm n f:=by
 have z:=qH (n:=n) (f:=fun _=>0) (g:=f) h;rw[bX fun _ _=>rfl] at z;exact z
theorem Cy {f:Nat->Int} (h:∀k,k<m->0<=f k) (S:St) (j:Nat):0<=wt m f S j:=oR fun k hk=>by
 split
 ·exact h k hk
 ·exact qCv _
def Clean (m n:Nat) (S:St):Prop:=∀k,k<m->n<=S.ch k->S.R k (n+m)=0/\∀j,j<n->S.R k j=0
theorem meets {S:St} (h:S.ok m (fS m n A due)) (cl:Clean m n S){i:Nat} (hi:i<m):(sm n fun j=>A j i*wt m (fun k=>S.R k (n+m)) S j)=due i*S.d:=by
 rw[sM (fun k=>S.R k (n+m)) S (fun j=>A j i) fun k hk z=>by rw[(cl k hk z).1,qBv]];have e:=Fr.eq h (n+m) i;rw[sJ hi] at e;have e2:sgn (due i)*(sm m fun k=>A (S.ch k) i*S.R k (n+m))=S.d*(sgn (due i)*due i):=by
  rw[e,<- bE];refine aV fun k hk=>?_;rcases qAk (S.ch k) n with z | z
  ·rw[nU hi z];grind
  ·rw[(cl k hk z).1];grind
 have sq:=Cw (due i);generalize (sm m fun k=>A (S.ch k) i*S.R k (n+m))=X at e2|-;generalize sgn (due i)=s at e2 sq;have:s*(s*X)=s*(S.d*(s*due i)):=by rw[e2]
 grind
theorem away {S:St} (h:S.ok m (fS m n A due)) (cl:Clean m n S){q:Nat} (hq:q<n){i:Nat} (hi:i<m):A q i*S.d+(sm n fun j=>A j i*wt m (fun k=>- S.R k q) S j)=0:=by
 rw[sM (fun k=>- S.R k q) S (fun j=>A j i) fun k hk z=>by rw[(cl k hk z).2 q hq];grind];have e:=Fr.eq h q i;rw[nU hi hq] at e;have e2:sgn (due i)*(sm m fun k=>A (S.ch k) i * - S.R k q)=- (S.d*(sgn (due i)*A q i)):=by
  rw[e,<- bE,show ∀a:Int,- a=(-1)*a from fun a=>by omega,<- bE];refine aV fun k hk=>?_;rcases qAk (S.ch k) n with z | z
  ·rw[nU hi z];grind
  ·rw[(cl k hk z).2 q hq];grind
 have sq:=Cw (due i);generalize (sm m fun k=>A (S.ch k) i * - S.R k q)=X at e2|-;generalize sgn (due i)=s at e2 sq;have:s*(s*X)=s*(- (S.d*(s*A q i))):=by rw[e2]
 grind
theorem xK {S:St} (h:S.ok m M){p q:Nat} (hp:p<m) (hq:q<n) (nz:S.R p q≠0) (cl:Clean m n S):Clean m n (S.next p q):=fun k hk z=>by
 have ne:k≠p:=fun e=>by rw[e,St.gJ] at z;omega
 rw[St.fA ne] at z;obtain⟨a,b⟩:=cl k hk z;have key:∀j,S.R k j=0->(S.next p q).R k j=0:=fun j e=>by
  have w:=Fr.g8 h (q:=q) hp hk ne j;rw[e,b q hq,qBc,qBc] at w;have pd:=Fr.pos h;have w':S.d*(S.next p q).R k j=0:=w;rcases Int.mul_eq_zero.mp w' with v | v
  ·omega
  ·exact v
 exact⟨key _ a,fun j hj=>key j (b j hj)⟩
theorem AO {S:St} (h:S.ok m M){p q:Nat} (hp:p<m) (nz:S.R p q≠0) (z:S.R p L=0) (f:∀k,k<m->0<=S.R k L):(∀k,k<m->0<=(S.next p q).R k L)/\∀k,k<m->S.R k L=0->(S.next p q).R k L=0:=by
 have pd:=Fr.pos h;have key:∀k,k<m->k≠p->S.d*(S.next p q).R k L=S.R k L*(sgn (S.R p q)*S.R p q):=fun k hk ne=>by
  have w:=Fr.g8 h (q:=q) hp hk ne L;rw[z,qBv,qBv,qPn] at w;exact w
 have at_p:(S.next p q).R p L=0:=by
  show g8 _ _ _ _ _ _=_;unfold g8;rw[if_pos rfl,z,qBv]
 refine⟨fun k hk=>?_,fun k hk e=>?_⟩
 ·by_cases e:k=p
  ·rw[e,at_p];exact qCv _
  ·have w:=key k hk e;have:0<=S.d*(S.next p q).R k L:=by rw[w];exact qEc (f k hk) (qBy (y4 nz))
   exact qJs this pd
 ·by_cases ek:k=p
  ·rw[ek,at_p]
  ·have w:=key k hk ek;rw[e,qBc] at w;rcases Int.mul_eq_zero.mp w with v | v
   ·omega
   ·exact v
theorem Cz {S:St} (h:S.ok m M){p q:Nat} (hp:p<m) (hq:q<n) (nz:S.R p q≠0){k:Nat} (hk:k<m) (ne:k≠p) (r0:∀j,j<n->S.R k j=0):∀j,j<n->(S.next p q).R k j=0:=fun j hj=>by
 have w:=Fr.g8 h (q:=q) hp hk ne j;rw[r0 j hj,r0 q hq,qBc,qBc] at w;have pd:=Fr.pos h;have w':S.d*(S.next p q).R k j=0:=w;rcases Int.mul_eq_zero.mp w' with v | v
 ·omega
 ·exact v
def lv (m n:Nat) (j:Nat):Int:=if n<=j/\j<n+m then -1 else 0
theorem sN {S:St} (h:S.ok m M){q:Nat} (hq:q<n) (g:0<S.red m (lv m n) q) (le:∀k,k<m->S.R k q<=0):False:=by
 unfold St.red red at g;rw[show lv m n q=0 from if_neg (by omega),qBc] at g;have z:0<=sm m fun k=>lv m n (S.ch k)*S.R k q:=oR fun k hk=>by
  have:=le k hk;unfold lv;split <;> omega
 omega
theorem AQ {S:St} (h:S.ok m (fS m n A due)) (f:∀k,k<m->0<=S.R k (n+m)) (le:∀j,j<n->S.red m (lv m n) j<=0) (ch:∀k,k<m->S.ch k<n+m){k:Nat} (hk:k<m) (sp:n<=S.ch k) (nz:S.R k (n+m)≠0) :
  (∀j,j<n->0<=sm m fun i=>A j i*(sgn (due i)*fC m n (lv m n) S i))/\(sm m fun i=>due i*(sgn (due i)*fC m n (lv m n) S i))<0:=by
 refine⟨fun j hj=>?_,?_⟩
 ·rw[oQ h _ hj,show lv m n j=0 from if_neg (by omega)];have:=le j hj;omega
 ·rw[qM h _ (if_neg (by omega))];have z:sm m (fun k=>lv m n (S.ch k)*S.R k (n+m))<=sm m fun i=>if i=k then -1 else 0:=qH fun i hi=>by
   have a:=f i hi;by_cases e:i=k
   ·rw[if_pos e,e];rw[e] at a;rw[show lv m n (S.ch k)=-1 from if_pos ⟨sp,ch k hk⟩];omega
   ·rw[if_neg e];unfold lv;split <;> omega
  rw[fR hk (fun i hi ne=>if_neg ne),if_pos rfl] at z;omega
theorem AR {S:St}{g:Nat->Int} (h:S.ok m (fS m n A due)) (cl:Clean m n S) (le:∀j,j<n->S.red m g j<=0) (g0:∀j,n<=j->g j=0) :
  (∀j,j<n->g j*S.d<=sm m fun i=>A j i*(sgn (due i)*fC m n g S i))/\(sm m fun i=>due i*(sgn (due i)*fC m n g S i))=sm n fun j=>g j*wt m (fun k=>S.R k (n+m)) S j:=by
 refine⟨fun j hj=>?_,?_⟩
 ·rw[oQ h _ hj];have:=le j hj;omega
 ·rw[qM h _ (g0 _ (by omega)),sM (fun k=>S.R k (n+m)) S g fun k hk z=>by rw[g0 _ z,qBc]]
def way (m q:Nat) (S:St) (j:Nat):Int:=if j=q then S.d else wt m (fun k=>- S.R k q) S j
theorem y9 {S:St}{q:Nat} (hq:q<n) (no:∀k,k<m->S.ch k≠q) (a:Nat->Int):(sm n fun j=>a j*way m q S j)=a q*S.d+sm n fun j=>a j*wt m (fun k=>- S.R k q) S j:=by
 have e:(sm n fun j=>a j*way m q S j)=sm n fun j=>(if j=q then a q*S.d else 0)+a j*wt m (fun k=>- S.R k q) S j:=aV fun j hj=>by
  unfold way;by_cases e:j=q
  ·rw[if_pos e,if_pos e,e,Gb _ no];omega
  ·rw[if_neg e,if_neg e,qDj]
 rw[e,eY,fR hq fun i hi ne=>if_neg ne,if_pos rfl]
theorem CA {S:St}{g:Nat->Int} (h:S.ok m M){q:Nat} (gr:0<S.red m g q):∀k,k<m->S.ch k≠q:=fun k hk e=>by
 have z:=St.jL h hk g;rw[e] at z;omega
theorem sO {S:St}{g:Nat->Int} (h:S.ok m (fS m n A due)) (cl:Clean m n S) (g0:∀j,n<=j->g j=0){q:Nat} (hq:q<n) (gr:0<S.red m g q) (le:∀k,k<m->S.R k q<=0) :
  (∀j,0<=way m q S j)/\(∀i,i<m->(sm n fun j=>A j i*way m q S j)=0)/\0<sm n fun j=>g j*way m q S j:=by
 have no:=CA h gr;refine⟨fun j=>?_,fun i hi=>?_,?_⟩
 ·unfold way;split
  ·exact qBy (Fr.pos h)
  ·exact Cy (fun k hk=>by have:=le k hk;omega) S j
 ·rw[y9 hq no (fun j=>A j i)];exact away h cl hq hi
 ·rw[y9 hq no g,sM (fun k=>- S.R k q) S g fun k hk z=>by rw[g0 _ z,qBc]];unfold St.red red at gr;have e:(sm m fun k=>g (S.ch k) * - S.R k q)=-(sm m fun k=>g (S.ch k)*S.R k q):=by
   rw[show ∀a:Int,- a=(-1)*a from fun a=>by omega,<- bE];refine aV fun k hk=>?_;grind
  rw[e];omega
end Wg
namespace Wg
def Ah (L q:Nat) (S:St) (a b:Nat):Prop:=S.R a L*S.R b q<S.R b L*S.R a q\/(S.R a L*S.R b q=S.R b L*S.R a q/\S.ch a<=S.ch b)
theorem Ah.refl {L q:Nat}{S:St} (a:Nat):Ah L q S a a:=.inr ⟨rfl,qAg _⟩
theorem Ah.le {L q:Nat}{S:St}{a b:Nat} (h:Ah L q S a b):S.R a L*S.R b q<=S.R b L*S.R a q:=by
 rcases h with h | ⟨h,_⟩ <;> omega
theorem Ah.trans {L q:Nat}{S:St}{a b c:Nat} (ha:0<S.R a q) (hb:0<S.R b q) (hc:0<S.R c q) (h1:Ah L q S a b) (h2:Ah L q S b c):Ah L q S a c:=by
 rcases h1 with h1 | ⟨h1,e1⟩
 ·exact .inl (qK hb ha hc h1 h2.le)
 ·rcases h2 with h2 | ⟨h2,e2⟩
  ·exact .inl (uT hb ha hc (qFq h1) h2)
  ·have z1:=oP hb ha hc (qFq h1) (qFq h2);have z2:=oP hb hc ha (qFq h2.symm) (qFq h1.symm);exact .inr ⟨Int.le_antisymm z1 z2,qCx e1 e2⟩
theorem Ah.Iu {L q:Nat}{S:St}{a b:Nat} (h:¬(S.R b L*S.R a q<S.R a L*S.R b q\/(S.R b L*S.R a q=S.R a L*S.R b q/\S.ch b<S.ch a))):Ah L q S a b:=by
 rcases qNv (S.R a L*S.R b q) (S.R b L*S.R a q) with z | z | z
 ·exact .inl z
 ·refine .inr ⟨z,?_⟩;rcases qAk (S.ch b) (S.ch a) with y | y
  ·exact absurd (.inr ⟨z.symm,y⟩) h
  ·exact y
 ·exact absurd (.inl z) h
theorem Ah.of {L q:Nat}{S:St}{a b:Nat} (h:S.R a L*S.R b q<S.R b L*S.R a q\/(S.R a L*S.R b q=S.R b L*S.R a q/\S.ch a<S.ch b)):Ah L q S a b:=by
 rcases h with h | ⟨h,e⟩
 ·exact .inl h
 ·exact .inr ⟨h,qAn e⟩
end Wg
namespace Cm
open Wg
theorem snocInd {α:Type}{motive:List α->Prop} (nil:motive []) (append_singleton:∀xs x,motive xs->motive (xs++[x])) (xs:List α):motive xs:=by
 have h:∀n (xs:List α),xs.length=n->motive xs:=by
  intro n;induction n with
  | zero=>intro xs hl;rw[List.length_eq_zero_iff.mp hl];exact nil
  | succ n ih =>
   intro xs hl;have hne:xs≠[]:=fun e=>by rw[e] at hl;cases hl
   rw[<- qGl hne];exact append_singleton _ _ (ih _ (by rw[List.length_dropLast,hl];rfl))
 exact h _ xs rfl
theorem sub_len:∀{l l':List Nat},l.Nodup->(∀x,x∈l->x∈l')->l.length<=l'.length
 | [],_,_,_=>qBr _
 | x::l,l',hn,h=>by
  obtain⟨n1,n2⟩:=List.nodup_cons.mp hn;have hx:=h x (.head _);have z:=sub_len (l:=l) (l':=l'.erase x) n2 fun y hy=>(qMd (fun e=>by subst e;exact n1 hy)).mpr (h y (.tail _ hy));rw[qKy hx] at z;have:=qGa hx;rw[qCk];omega
def iH:Nat->(Nat->Int)->Nat
 | 0,_=>0
 | m+1,f=>if iH m f<m then iH m f else if f m≠0 then m else m+1
theorem iB:∀{m:Nat}{f:Nat->Int}{i:Nat},i<iH m f->i<m->f i=0
 | 0,f,i,_,h=>absurd h (qFw _)
 | m+1,f,i,h,hm=>by
  unfold iH at h;split at h
  ·exact iB h (by omega)
  ·rename_i h1;split at h
   ·rename_i h2;exact iB (m:=m) (by omega) (by omega)
   ·rename_i h2;rcases qAk i m with z | z
    ·exact iB (m:=m) (by omega) z
    ·have e:i=m:=by omega
     subst e;exact Classical.not_not.mp h2
theorem mK:∀{m:Nat}{f:Nat->Int},iH m f<m->f (iH m f)≠0
 | 0,f,h=>absurd h (qFw _)
 | m+1,f,h=>by
  unfold iH at h|-;split
  ·rename_i h1;exact mK h1
  ·rename_i h1;rw[if_neg h1] at h;split
   ·assumption
   ·rename_i h2;rw[if_neg h2] at h;omega
def i6 (m:Nat) (l f:Nat->Int):Nat->Int:=fun i=>f i*l (iH m l)-l i*f (iH m l)
def c5 (m:Nat) (rows:List (Nat->Int)) (f:Nat->Int):Nat->Int:=rows.foldl (fun f l=>i6 m l f) f
theorem cR (m:Nat) (rows:List (Nat->Int)) (l f:Nat->Int):c5 m (rows++[l]) f=i6 m l (c5 m rows f):=by
 unfold c5;rw[qHk];rfl
def g9 (m:Nat) (vs:List (Nat->Int)):List (Nat->Int):=vs.foldl (fun acc v=>acc++[c5 m acc v]) []
theorem dM (m:Nat) (vs:List (Nat->Int)) (v:Nat->Int):g9 m (vs++[v])=g9 m vs++[c5 m (g9 m vs) v]:=by
 unfold g9;rw[qHk];rfl
theorem k9 (m:Nat) (vs:List (Nat->Int)):(g9 m vs).length=vs.length:=by
 induction vs using snocInd with
 | nil=>rfl
 | append_singleton vs v ih=>rw[dM,qAo,qAo,ih];rfl
theorem AS (m:Nat) (l f g:Nat->Int) (a b:Int):i6 m l (fun i=>a*f i+b*g i)=fun i=>a*i6 m l f i+b*i6 m l g i:=by
 funext i;unfold i6;grind
theorem i7 (m:Nat) (rows:List (Nat->Int)) (f g:Nat->Int) (a b:Int):c5 m rows (fun i=>a*f i+b*g i)=fun i=>a*c5 m rows f i+b*c5 m rows g i:=by
 induction rows using snocInd with
 | nil=>rfl
 | append_singleton rows l ih=>rw[cR,cR,cR,ih,AS]
def iC (m:Nat) (vs:List (Nat->Int)):Prop:=∀r,r∈g9 m vs->iH m r<m
theorem iC.jM {m:Nat}{vs:List (Nat->Int)}{v:Nat->Int} (h:iC m (vs++[v])):iC m vs/\iH m (c5 m (g9 m vs) v)<m:=by
 unfold iC at h|-;rw[dM] at h;exact⟨fun r hr=>h r (qCc _ hr),h _ (qAu _ (List.mem_singleton.mpr rfl))⟩
theorem iC.snoc {m:Nat}{vs:List (Nat->Int)}{v:Nat->Int} (h:iC m vs) (h1:iH m (c5 m (g9 m vs) v)<m):iC m (vs++[v]):=by
 unfold iC at h|-;rw[dM];intro r hr;rcases List.mem_append.mp hr with hr | hr
 ·exact h r hr
 ·rw[List.mem_singleton.mp hr];exact h1
theorem zA {m:Nat}{vs:List (Nat->Int)} (h:iC m vs):∀(f:Nat->Int) (r:Nat->Int),r∈g9 m vs->c5 m (g9 m vs) f (iH m r)=0:=by
 induction vs using snocInd with
 | nil=>intro f r hr;cases hr
 | append_singleton vs v ih =>
  intro f r hr;obtain⟨h1,h2⟩:=h.jM;rw[dM] at hr|-;rw[cR];rcases List.mem_append.mp hr with hr | hr
  ·have e1:=ih h1 f r hr;have e2:=ih h1 v r hr;show _*_-_*_=(0:Int);rw[e1,e2,qBc,qBc];rfl
  ·rw[List.mem_singleton.mp hr];show _*_-_*_=(0:Int);rw[qCr];omega
theorem uW {m:Nat}{vs:List (Nat->Int)} (h:iC m vs):∀v,v∈vs->∀i,c5 m (g9 m vs) v i=0:=by
 induction vs using snocInd with
 | nil=>intro v hv;cases hv
 | append_singleton vs u ih =>
  intro v hv i;obtain⟨h1,h2⟩:=h.jM;rw[dM,cR];rcases List.mem_append.mp hv with hv | hv
  ·have e:=ih h1 v hv;show _*_-_*_=(0:Int);rw[e,e,qBc,qBv];rfl
  ·rw[List.mem_singleton.mp hv];show _*_-_*_=(0:Int);omega
def dot (m:Nat) (y f:Nat->Int):Int:=sm m fun i=>y i*f i
theorem CB (m:Nat) (y l f:Nat->Int):dot m y (i6 m l f)=l (iH m l)*dot m y f-f (iH m l)*dot m y l:=by
 unfold dot i6;have e:(fun i=>y i*(f i*l (iH m l)-l i*f (iH m l)))=fun i=>l (iH m l)*(y i*f i)+(-(f (iH m l)))*(y i*l i):=by
  funext i;grind
 rw[e,eY,bE,bE];grind
theorem EZ {m:Nat}{vs:List (Nat->Int)} (h:iC m vs){y:Nat->Int} (hy:∀v,v∈vs->dot m y v=0):(∀r,r∈g9 m vs->dot m y r=0)/\∀f,∃c:Int,c≠0/\dot m y (c5 m (g9 m vs) f)=c*dot m y f:=by
 induction vs using snocInd with
 | nil=>exact⟨fun r hr=>(by cases hr),fun f=>⟨1,by decide,(qCj _).symm⟩⟩
 | append_singleton vs v ih =>
  obtain⟨h1,h2⟩:=h.jM;obtain⟨i1,i2⟩:=ih h1 fun u hu=>hy u (qCc _ hu);have hr:dot m y (c5 m (g9 m vs) v)=0:=by
   obtain⟨c,_,e⟩:=i2 v;rw[e,hy v (qAu _ (List.mem_singleton.mpr rfl)),qBv]
  rw[dM];refine⟨fun r hr'=>?_,fun f=>?_⟩
  ·rcases List.mem_append.mp hr' with hr' | hr'
   ·exact i1 r hr'
   ·rw[List.mem_singleton.mp hr'];exact hr
  ·obtain⟨c,hc,e⟩:=i2 f;refine⟨c5 m (g9 m vs) v (iH m (c5 m (g9 m vs) v))*c,qKr (mK h2) hc,?_⟩;rw[cR,CB,hr,e,qBv,qPn,qLk]
def Told (m:Nat) (vs:List (Nat->Int)) (f:Nat->Int):Prop:=∀i,i<m->c5 m (g9 m vs) f i=0
theorem Told.dot {m:Nat}{vs:List (Nat->Int)}{f y:Nat->Int} (h:iC m vs) (t:Told m vs f) (hy:∀v,v∈vs->dot m y v=0):dot m y f=0:=by
 obtain⟨_,i2⟩:=EZ h hy;obtain⟨c,hc,e⟩:=i2 f;have z:Cm.dot m y (c5 m (g9 m vs) f)=0:=bX fun i hi=>by rw[t i hi,qBv]
 rw[z] at e;rcases Int.mul_eq_zero.mp e.symm with z | z
 ·exact absurd z hc
 ·exact z
theorem Told.PB {m:Nat}{vs:List (Nat->Int)}{f g:Nat->Int} (a b:Int) (t:Told m vs f) (u:Told m vs g):Told m vs fun i=>a*f i+b*g i:=fun i hi=>by
 rw[i7];show a*_+b*_=(0:Int);rw[t i hi,u i hi,qBv,qBv];rfl
theorem Told.self {m:Nat}{vs:List (Nat->Int)} (h:iC m vs){v:Nat->Int} (hv:v∈vs):Told m vs v:=fun i _=>uW h v hv i
theorem Told.snoc {m:Nat}{vs:List (Nat->Int)}{v f:Nat->Int} (t:Told m vs f):Told m (vs++[v]) f:=fun i hi=>by
 rw[dM,cR];show _*_-_*_=(0:Int);rw[t i hi];rcases qAk (iH m (c5 m (g9 m vs) v)) m with z | z
 ·rw[t _ z];grind
 ·have e:c5 m (g9 m vs) v i=0:=iB (by omega) hi;rw[e];grind
theorem qN {m:Nat}{vs:List (Nat->Int)}{f:Nat->Int} (h:¬Told m vs f):iH m (c5 m (g9 m vs) f)<m:=by
 rcases qAk (iH m (c5 m (g9 m vs) f)) m with z | z
 ·exact z
 ·exact absurd (fun i hi=>iB (by omega) hi) h
theorem oS:∀(m:Nat) (l:List Nat),l.Nodup->(∀x,x∈l->x<m)->l.length<=m
 | 0,[],_,_=>qAg _
 | 0,x::l,_,h=>absurd (h x (.head _)) (qFw _)
 | m+1,l,hn,h=>by
  have h1:=oS m (l.erase m) (hn.erase m) fun x hx=>by
   have hx':=(List.Nodup.mem_erase_iff hn).mp hx;have:=h x hx'.2;have:=hx'.1;omega
  rw[List.length_erase] at h1;split at h1 <;> omega
theorem qO {m:Nat}{vs:List (Nat->Int)} (h:iC m vs):((g9 m vs).map (iH m)).Nodup:=by
 induction vs using snocInd with
 | nil=>exact qIo
 | append_singleton vs v ih =>
  obtain⟨h1,h2⟩:=h.jM;rw[dM,qAt];refine List.nodup_append.mpr ⟨ih h1,by simp,fun a ha b hb e=>?_⟩;obtain⟨r,hr,rfl⟩:=List.mem_map.mp ha;have hb':b=iH m (c5 m (g9 m vs) v):=by simpa using hb
  have z:=zA h1 v r hr;rw[e,hb'] at z;exact mK h2 z
theorem iC.len {m:Nat}{vs:List (Nat->Int)} (h:iC m vs):vs.length<=m:=by
 have z:=oS m _ (qO h) fun x hx=>by
  obtain⟨r,hr,rfl⟩:=List.mem_map.mp hx;exact h r hr
 rw[qAb,k9] at z;exact z
theorem full:∀(m:Nat) (l:List Nat),l.Nodup->(∀x,x∈l->x<m)->l.length=m->∀i,i<m->i∈l:=by
 intro m l hn h hl i hi;refine qAz fun hc=>?_;have z:=oS m (i::l) (List.nodup_cons.mpr ⟨hc,hn⟩) fun x hx=>by
  rcases List.mem_cons.mp hx with e | e
  ·rw[e];exact hi
  ·exact h x e
 rw[qCk] at z;omega
theorem AU {m:Nat}{vs:List (Nat->Int)} (h:iC m vs) (hl:vs.length=m) (f:Nat->Int):Told m vs f:=fun i hi=>by
 have z:=full m _ (qO h) (fun x hx=>by
  obtain⟨r,hr,rfl⟩:=List.mem_map.mp hx;exact h r hr) (by rw[qAb,k9,hl]) i hi
 obtain⟨r,hr,rfl⟩:=List.mem_map.mp z;exact zA h f r hr
def e1 (p:Nat):Nat->Int:=fun i=>if i=p then 1 else 0
theorem Iw {m p:Nat}:∀(rows:List (Nat->Int)),(∀r,r∈rows->iH m r<m/\iH m r≠p)->∃c:Int,c≠0/\c5 m rows (e1 p)=fun i=>c*e1 p i:=by
 intro rows;induction rows using snocInd with
 | nil=>intro _;exact⟨1,by decide,funext fun i=>(qCj _).symm⟩
 | append_singleton rows l ih =>
  intro h;obtain⟨c,hc,e⟩:=ih fun r hr=>h r (qCc _ hr);obtain⟨h1,h2⟩:=h l (qAu _ (List.mem_singleton.mpr rfl));refine⟨c*l (iH m l),qKr hc (mK h1),?_⟩;rw[cR,e];funext i;unfold i6;have z:e1 p (iH m l)=0:=if_neg h2;dsimp only;rw[z];grind
theorem AV {m:Nat}{vs:List (Nat->Int)} (h:iC m vs) (t:∀p,p<m->Told m vs (e1 p)):vs.length=m:=by
 have hle:=h.len;rcases qAk vs.length m with z | z
 ·exfalso;have hex:∃p,p<m/\p∉(g9 m vs).map (iH m):=qAz fun hc=>by
   have hall:∀p,p<m->p∈(g9 m vs).map (iH m):=fun p hp=>qAz fun hn=>hc ⟨p,hp,hn⟩;have hs:(qAl m).length<=((g9 m vs).map (iH m)).length:=by
    exact sub_len List.nodup_range fun x hx=>hall x (List.mem_range.mp hx)
   rw[qAw,qAb,k9] at hs;omega
  obtain⟨p,hp,hn⟩:=hex;obtain⟨c,hc,e⟩:=Iw (m:=m) (p:=p) (g9 m vs) fun r hr=>⟨h r hr,fun e=>hn (List.mem_map.mpr ⟨r,hr,e⟩)⟩;have z1:=t p hp p hp;rw[e] at z1;have z2:e1 p p=1:=if_pos rfl;dsimp only at z1;rw[z2] at z1;omega
 ·omega
def comb:List (Int×(Nat->Int))->Nat->Int
 | [],_=>0
 | (a,v)::r,i=>a*v i+comb r i
theorem mL (l:List (Int×(Nat->Int))) (a:Int) (v:Nat->Int) (i:Nat):comb (l++[(a,v)]) i=comb l i+a*v i:=by
 induction l with
 | nil=>show a*v i+0=0+a*v i;omega
 | cons p l ih =>
  obtain⟨b,u⟩:=p;show b*u i+comb (l++[(a,v)]) i=(b*u i+comb l i)+a*v i;rw[ih];omega
theorem uX {m:Nat}{rows:List (Nat->Int)}:∀(l:List (Int×(Nat->Int))),(∀p,p∈l->∀i,i<m->c5 m rows p.2 i=0)->∀i,i<m->c5 m rows (comb l) i=0
 | [],_,i,hi=>by
  have e:(comb []:Nat->Int)=fun i=>0*(0:Int)+0*(0:Int):=rfl;rw[e,i7 m rows (fun _=>0) (fun _=>0) 0 0];show 0*_+0*_=(0:Int);omega
 | (a,v)::r,h,i,hi=>by
  have e:comb ((a,v)::r)=fun i=>a*v i+1*comb r i:=by
   funext i;show a*v i+comb r i=_;omega
  rw[e,i7];show a*_+1*_=(0:Int);rw[h _ (.head _) i hi,uX r (fun p hp=>h p (.tail _ hp)) i hi];omega
theorem sQ {m:Nat}{rows:List (Nat->Int)} (hr:∀r,r∈rows->iH m r<m){f g:Nat->Int} (h:∀i,i<m->f i=g i):∀i,i<m->c5 m rows f i=c5 m rows g i:=by
 induction rows using snocInd with
 | nil=>exact h
 | append_singleton rows l ih =>
  intro i hi;have z:=ih fun r hr'=>hr r (qCc _ hr');rw[cR,cR];unfold i6;rw[z i hi,z _ (hr l (qAu _ (List.mem_singleton.mpr rfl)))]
theorem iC.alone {m:Nat}{vs:List (Nat->Int)} (h:iC m vs):∀(as:List Int),as.length=vs.length->(∀i,i<m->comb (as.zip vs) i=0)->∀a,a∈as->a=0:=by
 induction vs using snocInd with
 | nil =>
  intro as hl _ a ha;rw[List.length_eq_zero_iff.mp hl] at ha;cases ha
 | append_singleton vs v ih =>
  intro as hl h0 a ha;obtain⟨h1,h2⟩:=h.jM;have hne:as≠[]:=fun e=>by rw[e] at hl;simp at hl
  obtain⟨bs,b,rfl⟩:∃bs b,as=bs++[b]:=⟨as.dropLast,as.getLast hne,(qGl hne).symm⟩;have hbl:bs.length=vs.length:=by simpa using hl
  have ez:(bs++[b]).zip (vs++[v])=bs.zip vs++[(b,v)]:=by rw[qKh hbl];rfl
  rw[ez] at h0;have hc:∀i,i<m->c5 m (g9 m vs) (comb (bs.zip vs)) i=0:=uX _ fun p hp i _=>uW h1 p.2 (qGo (a:=p.1) (b:=p.2) hp).2 i;have hb:b=0:=by
   refine qAz fun hb=>?_;have p1:=sQ (m:=m) (rows:=g9 m vs) h1 (f:=fun i=>1*comb (bs.zip vs) i+b*v i) (g:=fun _=>0*0+0*0) (fun i hi=>by
    have:=h0 i hi;rw[mL] at this;show 1*_+_=(0*0+0*0:Int);omega)
   have p2:=p1 _ h2;rw[i7,i7 m _ (fun _=>0) (fun _=>0) 0 0] at p2;dsimp only at p2;rw[hc _ h2] at p2;have p3:b*c5 m (g9 m vs) v (iH m (c5 m (g9 m vs) v))=0:=by omega
   rcases Int.mul_eq_zero.mp p3 with z | z
   ·exact hb z
   ·exact mK h2 z
  rcases List.mem_append.mp ha with ha | ha
  ·refine ih h1 bs hbl (fun i hi=>?_) a ha;have:=h0 i hi;rw[mL,hb] at this;omega
  ·rw[List.mem_singleton.mp ha];exact hb
end Cm
set_option autoImplicit false
namespace Cm
def pt (m:Nat) (e:Nat->Nat->Int) (y:Nat->Int) (g:Nat):Int:=Wg.sm m fun i=>e g i*y i
def Tl (m:Nat) (e:Nat->Nat->Int) (ks:List Nat) (g:Nat):Prop:=∀y:Nat->Int,(∀k,k∈ks->pt m e y k=0)->pt m e y g=0
def Ou (m:Nat) (e:Nat->Nat->Int) (N:Nat) (P:Nat->Prop) (ks:List Nat) (lk:Nat->Int):Prop :=
 ∀S:Nat->Prop,(∀g h,P g->Tl m e ks g->P h->Tl m e ks h->S g->lk g<=lk h->S h)->∀y:Nat->Int,pt m e y N<=0->(∀g,P g->Tl m e ks g->S g->0<=pt m e y g)->∀g,P g->Tl m e ks g->S g->pt m e y N=0/\pt m e y g=0
theorem Tl.more {m:Nat}{e:Nat->Nat->Int}{ks ks':List Nat} (h:∀k,k∈ks->k∈ks'){g:Nat} (t:Tl m e ks g):Tl m e ks' g:=fun y hy=>t y fun k hk=>hy k (h k hk)
theorem Tl.self {m:Nat}{e:Nat->Nat->Int}{ks:List Nat}{g:Nat} (h:g∈ks):Tl m e ks g:=fun _ hy=>hy g h
theorem xM {n:Nat}{f:Nat->Int} (h:∀j,j<n->0<=f j) (z:Wg.sm n f<=0):∀j,j<n->f j=0:=by
 induction n with
 | zero=>intro j hj;omega
 | succ n ih =>
  intro j hj;have z:Wg.sm n f+f n<=0:=z;have a:0<=Wg.sm n f:=Wg.oR fun i hi=>h i (by omega);have b:=h n (by omega);rcases qAk j n with q | q
  ·exact ih (fun i hi=>h i (by omega)) (by omega) j q
  ·obtain rfl:j=n:=by omega
   omega
structure Cert (m:Nat) (e:Nat->Nat->Int) (fr ks:List Nat) (lk:Nat->Int) (dw ev:Int) (lam mu:Nat->Int):Prop where
 zB:0<dw
 l0:∀c,0<=lam c
 sum:Wg.sm fr.length lam=dw
 away:∀y:Nat->Int,(Wg.sm fr.length fun c=>lam c*pt m e y (fr.getD c 0))+(Wg.sm ks.length fun j=>mu j*pt m e y (ks.getD j 0))=0
 hold:∀c,c<fr.length->lam c≠0->lk (fr.getD c 0)=ev
 low:∀g,g∈fr->lk g<=ev
theorem mem_getD {l:List Nat}{c:Nat} (h:c<l.length):l.getD c 0∈l:=by
 rw[qAq,qAd h];exact qEs h
theorem Cert.some {m:Nat}{e:Nat->Nat->Int}{fr ks:List Nat}{lk:Nat->Int}{dw ev:Int}{lam mu:Nat->Int} (h:Cert m e fr ks lk dw ev lam mu):∃c,c<fr.length/\lam c≠0:=by
 refine qAz fun no=>?_;have z:Wg.sm fr.length lam=0:=Wg.bX fun c hc=>qAz fun ne=>no ⟨c,hc,ne⟩;have:=h.sum;have:=h.zB;omega
theorem Cert.step {m:Nat}{e:Nat->Nat->Int}{N:Nat}{P:Nat->Prop}{fr ks ks':List Nat}{lk lk':Nat->Int}{dw ev:Int}{lam mu:Nat->Int} (h:Cert m e fr ks lk' dw ev lam mu)
  (st:Ou m e N P ks lk) (sub:∀k,k∈ks->k∈ks') (new:∀k,k∈ks'->k∈ks\/∃c,c<fr.length/\lam c≠0/\fr.getD c 0=k)
  (told:∀c,c<fr.length->lam c≠0->Tl m e ks' (fr.getD c 0)) (frP:∀g,g∈fr->P g) (free:∀g,P g->¬Tl m e ks g->g∈fr)
  (same:∀g,P g->Tl m e ks g->lk' g=dw*lk g) (kP:∀k,k∈ks->k=N\/P k) (hN:N∈ks) (old:∀k,k∈ks->k≠N->ev<=lk' k)
  (one:∀g,P g->1<=pt m e (fun _=>1) g) (oneN:0<pt m e (fun _=>1) N):Ou m e N P ks' lk':=by
 intro S up y yN y0 g gP gT gS;have zB:=h.zB;by_cases B:∃c,c<fr.length/\lam c≠0/\S (fr.getD c 0)
 ·obtain⟨c0,hc0,ne0,s0⟩:=B;have inS:∀c,c<fr.length->lam c≠0->S (fr.getD c 0):=fun c hc ne =>
   up _ _ (frP _ (mem_getD hc0)) (told c0 hc0 ne0) (frP _ (mem_getD hc)) (told c hc ne) s0 (by rw[h.hold c hc ne,h.hold c0 hc0 ne0];exact qCv _)
  have hnn:∀c,c<fr.length->0<=lam c*pt m e y (fr.getD c 0):=fun c hc=>by
   by_cases ne:lam c=0
   ·rw[ne,qBc];exact qCv _
   ·exact qEc (h.l0 c) (y0 _ (frP _ (mem_getD hc)) (told c hc ne) (inS c hc ne))
  have kS:∀k,k∈ks->k≠N->P k/\S k:=fun k hk ne=>by
   have p:P k:=(kP k hk).resolve_left ne;exact⟨p,up _ _ (frP _ (mem_getD hc0)) (told c0 hc0 ne0) p (Tl.self (sub k hk)) s0 (by rw[h.hold c0 hc0 ne0];exact old k hk ne)⟩
  have aw:=h.away y;have key:pt m e y N=0/\(∀k,k∈ks->k≠N->pt m e y k=0):=by
   by_cases one':∃k,k∈ks/\k≠N
   ·have ih:∀k,k∈ks->k≠N->pt m e y N=0/\pt m e y k=0:=fun k hk ne =>
     st S (fun g h gp gt hp ht gs le=>up g h gp (gt.more sub) hp (ht.more sub) gs (by rw[same g gp gt,same h hp ht];exact qCp le (by omega))) y yN (fun g gp gt gs=>y0 g gp (gt.more sub) gs) k (kS k hk ne).1 (Tl.self hk) (kS k hk ne).2
    obtain⟨k,hk,ne⟩:=one';exact⟨(ih k hk ne).1,fun k hk ne=>(ih k hk ne).2⟩
   ·have all:∀k,k∈ks->k=N:=fun k hk=>qAz fun ne=>one' ⟨k,hk,ne⟩;have con:∀y:Nat->Int,(Wg.sm ks.length fun j=>mu j*pt m e y (ks.getD j 0))=pt m e y N*Wg.sm ks.length mu:=fun y=>by
     rw[<- Wg.bE];exact Wg.aV fun j hj=>by rw[all _ (mem_getD hj),qCr]
    have a1:=h.away fun _=>1;rw[con] at aw a1;have b1:dw<=Wg.sm fr.length fun c=>lam c*pt m e (fun _=>1) (fr.getD c 0):=by
     rw[<- h.sum];refine Wg.qH fun c hc=>?_;have:=qCp (one _ (frP _ (mem_getD hc))) (h.l0 c);rw[qFa] at this;exact this
    have M:Wg.sm ks.length mu<0:=by
     refine Int.not_le.mp fun z=>?_;have:=qEc (qBy oneN) z;omega
    have a:0<=Wg.sm fr.length fun c=>lam c*pt m e y (fr.getD c 0):=Wg.oR hnn;have z:pt m e y N=0:=by
     refine qAz fun ne=>?_;have lt:pt m e y N<0:=by omega
     have:=Int.mul_pos_of_neg_of_neg lt M;omega
    exact⟨z,fun k hk ne=>absurd (all k hk) ne⟩
  have k0:∀k,k∈ks->pt m e y k=0:=fun k hk=>by
   by_cases ne:k=N
   ·rw[ne];exact key.1
   ·exact key.2 k hk ne
  rw[show(Wg.sm ks.length fun j=>mu j*pt m e y (ks.getD j 0))=0 from Wg.bX fun j hj=>by rw[k0 _ (mem_getD hj),qBv],qDr] at aw;have hz:=xM hnn (by omega);refine⟨key.1,gT y fun k hk=>?_⟩;rcases new k hk with o | ⟨c,hc,ne,rfl⟩
  ·exact k0 k o
  ·exact(Int.mul_eq_zero.mp (hz c hc)).resolve_left ne
 ·have inT:∀g,P g->Tl m e ks' g->S g->Tl m e ks g:=fun g gp gt gs=>by
   refine qAz fun no=>?_;have gf:=free g gp no;obtain⟨c,hc,ne⟩:=h.some;exact B ⟨c,hc,ne,up g _ gp gt (frP _ (mem_getD hc)) (told c hc ne) gs (by rw[h.hold c hc ne];exact h.low g gf)⟩
  exact st S (fun g h gp gt hp ht gs le=>up g h gp (gt.more sub) hp (ht.more sub) gs (by rw[same g gp gt,same h hp ht];exact qCp le (by omega))) y yN (fun g gp gt gs=>y0 g gp (gt.more sub) gs) g gP (inT g gP gT gS) gS
theorem Cert.Iy {m:Nat}{e:Nat->Nat->Int}{fr ks:List Nat}{lk':Nat->Int}{dw ev ev0:Int}{lam mu:Nat->Int} (h:Cert m e fr ks lk' dw ev lam mu){y:Nat->Int} (hy:∀k,k∈ks->pt m e y k=0)
  (lo:∀g,g∈fr->pt m e y g+lk' g<=dw*ev0):ev<=dw*ev0:=by
 have zB:=h.zB;have aw:=h.away y;rw[show(Wg.sm ks.length fun j=>mu j*pt m e y (ks.getD j 0))=0 from Wg.bX fun j hj=>by rw[hy _ (mem_getD hj),qBv],qDr] at aw;have a1:(Wg.sm fr.length fun c=>lam c*pt m e y (fr.getD c 0))<=Wg.sm fr.length fun c=>(dw*ev0-ev)*lam c:=by
  refine Wg.qH fun c hc=>?_;rw[qCr (dw*ev0-ev)];by_cases ne:lam c=0
  ·rw[ne,qBc,qBc];exact qCv _
  ·refine qCp ?_ (h.l0 c);have:=lo _ (mem_getD hc);rw[h.hold c hc ne] at this;omega
 rw[Wg.bE,h.sum,aw] at a1;refine Int.not_lt.mp fun z=>?_;have:=Int.mul_neg_of_neg_of_pos (show dw*ev0-ev<0 by omega) zB;omega
end Cm
set_option autoImplicit false
namespace Cm
theorem Iz (a b:Nat) (f:Nat->Int):Wg.sm (a+b) f=Wg.sm a f+Wg.sm b fun j=>f (a+j):=by
 induction b with
 | zero=>show _=_+0;rw[qDr];rfl
 | succ b ih =>
  show Wg.sm (a+b) f+f (a+b)=_+(Wg.sm b (fun j=>f (a+j))+f (a+b));rw[ih];omega
theorem CC (f:Nat->Int):∀n,Wg.sm (2*n) f=Wg.sm n fun j=>f (2*j)+f (2*j+1)
 | 0=>rfl
 | n+1=>by
  show Wg.sm (2*n) f+f (2*n)+f (2*n+1)=(Wg.sm n fun j=>f (2*j)+f (2*j+1))+(f (2*n)+f (2*n+1));rw[CC f n];omega
theorem lA (a b:Nat) (f:Nat->Int):Wg.sm (a+2*b) f=Wg.sm a f+Wg.sm b fun j=>f (a+2*j)+f (a+(2*j+1)):=by
 rw[Iz,CC]
structure nK (m:Nat) (e:Nat->Nat->Int) (fr ks:List Nat) (A:Nat->Nat->Int):Prop where
 f0:∀c,c<fr.length->(∀i,i<m->A c i=e (fr.getD c 0) i)/\A c m=1
 k0:∀j,j<ks.length->(∀i,i<m->A (fr.length+2*j) i=e (ks.getD j 0) i)/\A (fr.length+2*j) m=0
 k1:∀j,j<ks.length->(∀i,i<m->A (fr.length+(2*j+1)) i=-e (ks.getD j 0) i)/\A (fr.length+(2*j+1)) m=0
theorem nK.pf {m:Nat}{e:Nat->Nat->Int}{fr ks:List Nat}{A:Nat->Nat->Int} (h:nK m e fr ks A) (y:Nat->Int){c:Nat} (hc:c<fr.length):(Wg.sm m fun i=>A c i*y i)=pt m e y (fr.getD c 0):=Wg.aV fun i hi=>by rw[(h.f0 c hc).1 i hi]
theorem nK.p0 {m:Nat}{e:Nat->Nat->Int}{fr ks:List Nat}{A:Nat->Nat->Int} (h:nK m e fr ks A) (y:Nat->Int){j:Nat} (hj:j<ks.length):(Wg.sm m fun i=>A (fr.length+2*j) i*y i)=pt m e y (ks.getD j 0):=Wg.aV fun i hi=>by rw[(h.k0 j hj).1 i hi]
theorem nK.p1 {m:Nat}{e:Nat->Nat->Int}{fr ks:List Nat}{A:Nat->Nat->Int} (h:nK m e fr ks A) (y:Nat->Int){j:Nat} (hj:j<ks.length):(Wg.sm m fun i=>A (fr.length+(2*j+1)) i*y i)=-pt m e y (ks.getD j 0):=by
 have:=Wg.bE m (-1) fun i=>e (ks.getD j 0) i*y i;unfold pt;rw[show(-Wg.sm m fun i=>e (ks.getD j 0) i*y i)=-1*Wg.sm m fun i=>e (ks.getD j 0) i*y i by omega,<- this];exact Wg.aV fun i hi=>by rw[(h.k1 j hj).1 i hi];grind
theorem uY (m n:Nat) (A:Nat->Nat->Int) (x y:Nat->Int):(Wg.sm n fun c=>x c*Wg.sm m fun i=>A c i*y i)=Wg.sm m fun i=>y i*Wg.sm n fun c=>A c i*x c:=by
 have a:(Wg.sm n fun c=>x c*Wg.sm m fun i=>A c i*y i)=Wg.sm n fun c=>Wg.sm m fun i=>x c*(A c i*y i):=Wg.aV fun c _=>(Wg.bE _ _ _).symm;rw[a,Wg.jJ];exact Wg.aV fun i _=>by rw[<- Wg.bE];exact Wg.aV fun c _=>by grind
theorem nK.away {m:Nat}{e:Nat->Nat->Int}{fr ks:List Nat}{A:Nat->Nat->Int} (h:nK m e fr ks A){X:Nat->Int} (mt:∀i,i<m->(Wg.sm (fr.length+2*ks.length) fun c=>A c i*X c)=0) (y:Nat->Int) :
  (Wg.sm fr.length fun c=>X c*pt m e y (fr.getD c 0))+(Wg.sm ks.length fun j=>(X (fr.length+2*j)-X (fr.length+(2*j+1)))*pt m e y (ks.getD j 0))=0:=by
 have t:=uY m (fr.length+2*ks.length) A X y;rw[show(Wg.sm m fun i=>y i*Wg.sm (fr.length+2*ks.length) fun c=>A c i*X c)=0 from Wg.bX fun i hi=>by rw[mt i hi,qBv],lA] at t;rw[<- t];congr 1
 ·exact Wg.aV fun c hc=>by rw[h.pf y hc]
 ·exact Wg.aV fun j hj=>by rw[h.p0 y hj,h.p1 y hj];grind
structure Ov (tb:Nat->Int) (L:Int) (fr ks:List Nat) (tt g:Nat->Int):Prop where
 f0:∀c,c<fr.length->g c=tb (fr.getD c 0)*L
 k0:∀j,j<ks.length->g (fr.length+2*j)=tt j
 k1:∀j,j<ks.length->g (fr.length+(2*j+1))=-tt j
theorem Fb {m:Nat}{e:Nat->Nat->Int}{fr ks:List Nat}{A:Nat->Nat->Int}{tb tt g due X Y:Nat->Int}{L r d:Int} (h:nK m e fr ks A) (hg:Ov tb L fr ks tt g) (r0:0<r) (d0:0<d)
  (du:∀i,i<m->due i=0) (dm:due m=1) (x0:∀j,0<=X j)
  (mt:∀i,i<m+1->(Wg.sm (fr.length+2*ks.length) fun c=>A c i*X c)=due i*d)
  (cols:∀c,c<fr.length+2*ks.length->g c*d<=Wg.sm (m+1) fun i=>A c i*Y i)
  (same:(Wg.sm (m+1) fun i=>due i*Y i)=Wg.sm (fr.length+2*ks.length) fun c=>g c*X c) :
  Cert m e fr ks (fun q=>tb q*(d*(L*r))-pt m e (fun i=>r*Y i) q) d (r*Y m) X (fun j=>X (fr.length+2*j)-X (fr.length+(2*j+1)))/\∀j,j<ks.length->pt m e (fun i=>r*Y i) (ks.getD j 0)=d*(tt j*r):=by
 have last:∀c,(Wg.sm (m+1) fun i=>A c i*Y i)=(Wg.sm m fun i=>A c i*Y i)+A c m*Y m:=fun c=>rfl;have sc:∀q,pt m e (fun i=>r*Y i) q=r*pt m e Y q:=fun q=>by
  unfold pt;rw[<- Wg.bE];exact Wg.aV fun i _=>by grind
 have cf:∀c,c<fr.length->(Wg.sm (m+1) fun i=>A c i*Y i)=pt m e Y (fr.getD c 0)+Y m:=fun c hc=>by rw[last,h.pf Y hc,(h.f0 c hc).2,qCj]
 have slack:∀c,c<fr.length+2*ks.length->X c*((Wg.sm (m+1) fun i=>A c i*Y i)-g c*d)=0:=by
  refine xM (fun c hc=>qEc (x0 c) (by have:=cols c hc;omega)) ?_;have a:(Wg.sm (fr.length+2*ks.length) fun c=>X c*((Wg.sm (m+1) fun i=>A c i*Y i)-g c*d))=(Wg.sm (fr.length+2*ks.length) fun c=>X c*Wg.sm (m+1) fun i=>A c i*Y i)+Wg.sm (fr.length+2*ks.length) fun c=>-d*(g c*X c):=by
   rw[<- Wg.eY];exact Wg.aV fun c _=>by grind
  rw[a,uY,Wg.bE,<- same];have b:(Wg.sm (m+1) fun i=>Y i*Wg.sm (fr.length+2*ks.length) fun c=>A c i*X c)=Wg.sm (m+1) fun i=>d*(due i*Y i):=Wg.aV fun i hi=>by rw[mt i hi];grind
  rw[b,Wg.bE];grind
 refine⟨⟨d0,x0,?_,h.away fun i hi=>by rw[mt i (by omega),du i hi,qBc],fun c hc ne=>?_,fun q hq=>?_⟩,fun j hj=>?_⟩
 ·have t:=mt m (by omega);rw[dm,qCj,lA] at t;rw[<- t,show(Wg.sm ks.length fun j=>A (fr.length+2*j) m*X (fr.length+2*j)+A (fr.length+(2*j+1)) m*X (fr.length+(2*j+1)))=0 from Wg.bX fun j hj=>by rw[(h.k0 j hj).2,(h.k1 j hj).2,qBc,qBc];rfl,qDr];exact Wg.aV fun c hc=>by rw[(h.f0 c hc).2,qCj]
 ·have z:=(Int.mul_eq_zero.mp (slack c (by omega))).resolve_left ne;rw[cf c hc,hg.f0 c hc] at z;show tb (fr.getD c 0)*(d*(L*r))-pt m e (fun i=>r*Y i) (fr.getD c 0)=r*Y m;rw[sc];generalize pt m e Y (fr.getD c 0)=p at z|-;have:tb (fr.getD c 0)*L*d=p+Y m:=by omega
  have:tb (fr.getD c 0)*L*d*r=(p+Y m)*r:=by rw[this]
  grind
 ·obtain⟨c,hc,hcq⟩:=qCy hq;have eq:fr.getD c 0=q:=by rw[qAq,qAd hc];exact hcq
  have z:=cols c (by omega);rw[cf c hc,hg.f0 c hc,eq] at z;show tb q*(d*(L*r))-pt m e (fun i=>r*Y i) q<=r*Y m;rw[sc];have z:=qCp z (qBy r0);rw[qPs] at z;have:r*(tb q*L*d)=tb q*(d*(L*r)):=by grind
  omega
 ·have z0:=cols (fr.length+2*j) (by omega);have z1:=cols (fr.length+(2*j+1)) (by omega);rw[last,h.p0 Y hj,(h.k0 j hj).2,qBc,qDr,hg.k0 j hj] at z0;rw[last,h.p1 Y hj,(h.k1 j hj).2,qBc,qDr,hg.k1 j hj,qPr] at z1;rw[sc,show pt m e Y (ks.getD j 0)=tt j*d by omega];grind
theorem Fc {m:Nat}{e:Nat->Nat->Int}{fr ks:List Nat}{A:Nat->Nat->Int}{due Y:Nat->Int} (h:nK m e fr ks A) (du:∀i,i<m->due i=0) (dm:due m=1)
  (no:∀y:Nat->Int,(∀k,k∈ks->pt m e y k=0)->∃q,q∈fr/\pt m e y q<=0)
  (cols:∀c,c<fr.length+2*ks.length->0<=Wg.sm (m+1) fun i=>A c i*Y i) (neg:(Wg.sm (m+1) fun i=>due i*Y i)<0):False:=by
 have last:∀c,(Wg.sm (m+1) fun i=>A c i*Y i)=(Wg.sm m fun i=>A c i*Y i)+A c m*Y m:=fun c=>rfl;have n1:(Wg.sm (m+1) fun i=>due i*Y i)=(Wg.sm m fun i=>due i*Y i)+due m*Y m:=rfl;rw[n1,dm,qCj,Wg.bX fun i hi=>by rw[du i hi,qBc]] at neg;obtain⟨q,hq,lo⟩:=no Y fun k hk=>by
  obtain⟨j,hj,hjk⟩:=qCy hk;have eq:ks.getD j 0=k:=by rw[qAq,qAd hj];exact hjk
  have z0:=cols (fr.length+2*j) (by omega);have z1:=cols (fr.length+(2*j+1)) (by omega);rw[last,h.p0 Y hj,(h.k0 j hj).2,qBc,qDr,eq] at z0;rw[last,h.p1 Y hj,(h.k1 j hj).2,qBc,qDr,eq] at z1;omega
 obtain⟨c,hc,hcq⟩:=qCy hq;have eq:fr.getD c 0=q:=by rw[qAq,qAd hc];exact hcq
 have z:=cols c (by omega);rw[last,h.pf Y hc,(h.f0 c hc).2,eq] at z;omega
theorem CD:∀(as:List Int) (vs:List (Nat->Int)),as.length=vs.length->∀i,comb (as.zip vs) i=Wg.sm vs.length fun j=>as.getD j 0*(vs.getD j fun _=>0) i:=by
 intro as vs;induction vs using snocInd generalizing as with
 | nil =>
  intro hl i;obtain rfl:as=[]:=qJq hl;rfl
 | append_singleton vs v ih =>
  intro hl i;rw[qAo,qBf] at hl;obtain⟨as',a,rfl⟩:∃as' a,as=as'++[a]:=⟨as.dropLast,as.getLast (by intro z;rw[z] at hl;cases hl),(qGl _).symm⟩;rw[qAo,qBf] at hl;have hl:as'.length=vs.length:=by omega
  rw[qKh hl];show comb (as'.zip vs++[(a,v)]) i=_;rw[mL,ih as' hl i,qAo,qBf];show _=Wg.sm vs.length (fun j=>(as'++[a]).getD j 0*((vs++[v]).getD j fun _=>0) i)+(as'++[a]).getD vs.length 0*((vs++[v]).getD vs.length fun _=>0) i;congr 1
  ·refine Wg.aV fun j hj=>?_;rw[qAq,qAq,qAq,qAq,qBb hj,qBb (by omega)]
  ·rw[qAq,qAq,qAy (qAg _),qAy (by omega),hl,qMa];rfl
theorem IA {m:Nat}{e:Nat->Nat->Int}{fr ks:List Nat}{A:Nat->Nat->Int}{tb tt g Z:Nat->Int}{L:Int} (h:nK m e fr ks A) (hg:Ov tb L fr ks tt g) (ind:iC m (ks.map e)) (z0:∀j,0<=Z j)
  (aw:∀i,i<m+1->(Wg.sm (fr.length+2*ks.length) fun c=>A c i*Z c)=0) (more:0<Wg.sm (fr.length+2*ks.length) fun c=>g c*Z c):False:=by
 have fz:∀c,c<fr.length->Z c=0:=by
  have t:=aw m (by omega);rw[lA,show(Wg.sm ks.length fun j=>A (fr.length+2*j) m*Z (fr.length+2*j)+A (fr.length+(2*j+1)) m*Z (fr.length+(2*j+1)))=0 from Wg.bX fun j hj=>by rw[(h.k0 j hj).2,(h.k1 j hj).2,qBc,qBc];rfl,qDr] at t;have t2:Wg.sm fr.length Z=0:=by rw[<- t];exact Wg.aV fun c hc=>by rw[(h.f0 c hc).2,qCj]
  exact xM (fun j _=>z0 j) (by omega)
 let as:List Int:=(qAl ks.length).map fun j=>Z (fr.length+2*j)-Z (fr.length+(2*j+1))
 have asl:as.length=ks.length:=by show((qAl ks.length).map _).length=_;rw[qAb,qAw]
 have asg:∀j,j<ks.length->as.getD j 0=Z (fr.length+2*j)-Z (fr.length+(2*j+1)):=fun j hj=>by
  show((qAl ks.length).map _).getD j 0=_;rw[qAq,qAp,qCz hj];rfl
 have zero:=ind.alone as (by rw[asl,qAb]) fun i hi=>by
  rw[CD as _ (by rw[asl,qAb]),qAb];have t:=aw i (by omega);rw[lA,Wg.bX fun c hc=>by rw[fz c hc,qBv],qDj] at t;refine Eq.trans (Wg.aV fun j hj=>?_) t;rw[asg j hj,(h.k0 j hj).1 i hi,(h.k1 j hj).1 i hi,qAq (l:=ks.map e),qAp,qAq,qAd hj];show _*e ks[j] i=e ks[j] i*_ + -e ks[j] i*_;grind
 have dz:∀j,j<ks.length->Z (fr.length+2*j)=Z (fr.length+(2*j+1)):=fun j hj=>by
  have:=zero (as.getD j 0) (by rw[qAq,qAd (by omega)];exact qEs _);rw[asg j hj] at this;omega
 rw[lA,Wg.bX fun c hc=>by rw[fz c hc,qBv],qDj,Wg.bX fun j hj=>by rw[hg.k0 j hj,hg.k1 j hj,dz j hj];grind] at more;exact absurd more (by decide)
end Cm
set_option autoImplicit false
namespace Cm
theorem mI (f:Nat->Int):∀{l:List Nat},l≠[]->∃g,g∈l/\∀h,h∈l->f h<=f g
 | [],h=>absurd rfl h
 | [x],_=>⟨x,List.mem_singleton.mpr rfl,fun h hh=>by rw[List.mem_singleton.mp hh];exact qCv _⟩
 | x::y::l,_=>by
  obtain⟨g,hg,m⟩:=mI f (l:=y::l) (by simp);by_cases z:f x<=f g
  ·refine⟨g,qCi _ hg,fun h hh=>?_⟩;rcases List.mem_cons.mp hh with rfl | hh
   ·exact z
   ·exact m h hh
  ·refine⟨x,qDh ..,fun h hh=>?_⟩;rcases List.mem_cons.mp hh with rfl | hh
   ·exact qCv _
   ·have:=m h hh;omega
theorem uniq {all:List Nat}{a b c:Nat->Int} (e:∀g,g∈all->c g=a g-b g)
  (h1:∀l:Int,(∀g,g∈all->l<=a g->0<=c g)->∀g,g∈all->l<=a g->c g=0)
  (h2:∀l:Int,(∀g,g∈all->l<=b g->c g<=0)->∀g,g∈all->l<=b g->c g=0):∀g,g∈all->c g=0:=by
 refine qAz fun no=>?_;have ne:(all.filter fun g=>decide (c g≠0))≠[]:=fun z=>no fun g hg=>qAz fun q=>by
  have:g∈all.filter fun g=>decide (c g≠0):=List.mem_filter.mpr ⟨hg,decide_eq_true q⟩;rw[z] at this;cases this
 obtain⟨g,hg,mx⟩:=mI (fun g=>max (a g) (b g)) ne;obtain⟨ga,gc⟩:=List.mem_filter.mp hg;have gc:c g≠0:=of_decide_eq_true gc;have mx:∀h,h∈all->c h≠0->max (a h) (b h)<=max (a g) (b g):=fun h hh hc=>mx h (List.mem_filter.mpr ⟨hh,decide_eq_true hc⟩);rcases Int.le_total (b g) (a g) with z | z
 ·refine gc (h1 (a g) (fun h hh hl=>?_) g ga (qCv _));by_cases q:c h=0
  ·omega
  ·have:=mx h hh q;have:=e h hh;omega
 ·refine gc (h2 (b g) (fun h hh hl=>?_) g ga (qCv _));by_cases q:c h=0
  ·omega
  ·have:=mx h hh q;have:=e h hh;omega
end Cm
set_option maxHeartbeats 8000000
namespace K46
open PySem L2
seal PE PT PW PA PS tP PG LJ PI iG NC gA PO LU Lp Lq OZ uA Hu NU NY
def top (i:Nat):Stmt:=PySem.Challenge.pw_shareparley_k46_calm_and_stable.main.body.getD i (.Pass ⟨0,0,0,0⟩)
abbrev IB:Stmt:=top 8
abbrev IC:Stmt:=top 11
abbrev Ow:Stmt:=top 12
abbrev CF:Stmt:=top 32
abbrev ID:Stmt:=top 33
abbrev IE:Stmt:=top 34
abbrev IF:Stmt:=top 35
abbrev IG:Stmt:=top 36
abbrev IH:Stmt:=top 38
abbrev II:Stmt:=top 39
abbrev IJ:Stmt:=top 40
abbrev IK:Stmt:=top 41
abbrev IL:Stmt:=top 42
abbrev IM:Stmt:=top 43
abbrev IP:Stmt:=top 44
abbrev CG:Stmt:=top 9
abbrev IQ:Stmt:=top 14
abbrev IS:Stmt:=top 15
abbrev IT:Stmt:=top 17
abbrev IU:Stmt:=top 18
abbrev Ox:Stmt:=top 21
abbrev IV:Stmt:=top 22
abbrev IW:Stmt:=top 23
abbrev IX:Stmt:=top 24
abbrev IY:Stmt:=top 27
abbrev IZ:Stmt:=top 28
abbrev Ja:Stmt:=top 51
abbrev Jb:Stmt:=top 52
abbrev Jc:Stmt:=top 53
abbrev Jd:Stmt:=top 54
abbrev Je:Stmt:=top 55
abbrev Jf:Stmt:=top 56
abbrev Jg:Stmt:=top 57
abbrev Jh:Stmt:=top 58
abbrev Ji:Stmt:=top 59
abbrev Jj:Stmt:=top 60
abbrev Jk:Stmt:=top 61
abbrev Jl:Stmt:=top 47
abbrev Jm:Stmt:=top 49
abbrev Jn:Stmt:=top 13
abbrev Jo:Stmt:=top 16
abbrev Jp:Stmt:=top 46
abbrev Jq:Stmt:=top 48
abbrev Jr:Stmt:=top 63
abbrev Js:Stmt:=top 64
abbrev Jt:Stmt:=top 65
abbrev Ju:Stmt:=top 66
abbrev Jv:Stmt:=top 67
abbrev Jw:Stmt:=top 68
abbrev Jx:Stmt:=top 69
abbrev Jy:Stmt:=top 70
abbrev Jz:Stmt:=top 71
abbrev JA:Stmt:=top 72
abbrev JB:Stmt:=top 73
abbrev Lv:Stmt:=inClass (top 37) 0
abbrev AW:Stmt:=inClass (top 37) 1
abbrev AX:Stmt:=inClass (top 37) 2
abbrev AY:Stmt:=inClass (top 37) 3
abbrev AZ:Stmt:=inClass (top 37) 4
abbrev Ba:Stmt:=inClass (top 37) 5
def dv (a b:Int):Int:=if b<0 then -(qBo a b:Int) else (qBo a b:Int)
theorem zC (a b:Int) (hb:b≠0):dv a b≠0/\a.fdiv (dv a b)*b=a*b.fdiv (dv a b)/\1<=b.fdiv (dv a b)/\qBo (a.fdiv (dv a b)) (b.fdiv (dv a b))=1:=by
 have hg:0<qBo a b:=qKl _ hb;obtain⟨a',ha⟩:(qBo a b:Int)∣a:=qJy ..;obtain⟨b',hb'⟩:(qBo a b:Int)∣b:=qJm ..;have hgi:(0:Int)<(qBo a b:Int):=by omega
 have hcop:qBo a' b'=1:=by
  have h1:qBo a b*qBo a' b'=qBo a b:=by
   have:=qOe (qBo a b:Int) a' b';rw[<- ha,<- hb'] at this;simpa using this.symm
  exact qKx hg (h1.trans (qPp _).symm)
 unfold dv;generalize hG:(qBo a b:Int)=G at *;clear hG hg;subst ha hb';have hG0:G≠0:=by omega
 have e1:(G*a').fdiv G=a':=qCn _ hG0;have e2:(G*b').fdiv G=b':=qCn _ hG0;have n1:(G*a').fdiv (-G)=-a':=by
  have h:G*a'=(-G)*(-a'):=by rw[qKq]
  rw[h];exact qCn _ (by omega)
 have n2:(G*b').fdiv (-G)=-b':=by
  have h:G*b'=(-G)*(-b'):=by rw[qKq]
  rw[h];exact qCn _ (by omega)
 by_cases h:G*b'<0
 ·rw[if_pos h,n1,n2];have hbn:b'<0:=by
   rcases qHe b' 0 with h' | h'
   ·exact h'
   ·exact absurd (qEc (qBy hgi) h') (Int.not_le.mpr h)
  refine⟨by omega,?_,by omega,?_⟩
  ·rw[qPr,qMz,qNu,qLk]
  ·simpa using hcop
 ·rw[if_neg h,e1,e2];have hbn:0<b':=by
   rcases qNv b' 0 with h' | h' | h'
   ·exact absurd (Int.mul_neg_of_pos_of_neg hgi h') h
   ·subst h';simp at hb
   ·exact h'
  exact⟨hG0,by rw[qNu,qLk],by omega,hcop⟩
theorem CH (d r:Nat):qId r (d%r)=qId d r:=by
 rw[qPm,<- Nat.gcd_rec,qPm]
theorem CI {t b:Int} (hb:1<=b):(qBo t b:Int)≠0/\qBo t b<=b.natAbs/\1<=b.fdiv (qBo t b:Int)/\qBo (t.fdiv (qBo t b:Int)) (b.fdiv (qBo t b:Int))=1/\b.fdiv (qBo t b:Int)∣b/\(t.fdiv (qBo t b:Int)).natAbs<=t.natAbs:=by
 have hg:0<qBo t b:=qKl _ (by omega);have hle:qBo t b<=b.natAbs:=qJe (by omega) (qNp _ _);have hlast:=qLb t (qBo t b:Int);obtain⟨a',ha⟩:(qBo t b:Int)∣t:=qJy ..;obtain⟨b',hb'⟩:(qBo t b:Int)∣b:=qJm ..;have hgi:(0:Int)<(qBo t b:Int):=by omega
 have hcop:qBo a' b'=1:=by
  have h1:qBo t b*qBo a' b'=qBo t b:=by
   have:=qOe (qBo t b:Int) a' b';rw[<- ha,<- hb'] at this;simpa using this.symm
  exact qKx hg (h1.trans (qPp _).symm)
 have e1:t.fdiv (qBo t b:Int)=a':=by
  conv=>lhs;arg 1;rw[ha]
  exact qCn _ (by omega)
 have e2:b.fdiv (qBo t b:Int)=b':=by
  conv=>lhs;arg 1;rw[hb']
  exact qCn _ (by omega)
 refine⟨by omega,hle,?_,?_,?_,hlast⟩
 ·rw[e2];rcases qHe 0 b' with h | h
  ·omega
  ·have:=Int.mul_nonpos_of_nonneg_of_nonpos (qBy hgi) h;omega
 ·rw[e1,e2];exact hcop
 ·rw[e2];exact⟨_,by rw[qCr];exact hb'⟩
theorem CJ {v:V}{m:Nat} (h1:EC 0 (2^m-1) v=true):∃g:Nat,v = .int (g:Int)/\g<2^m:=by
 cases v with
 | int i =>
  have z:(decide (0<=i)&&decide (i<=2^m-1))=true:=h1;rw[qCa] at z;have z1:=of_decide_eq_true z.1;have z2:=of_decide_eq_true z.2;have e:((2^m:Nat):Int)=2^m:=by push_cast;rfl
  exact⟨i.toNat,by rw[qDd z1],by omega⟩
 | _=>exact(qAm h1).elim
theorem zD {g m:Nat} (hg:g<2^m):EC 0 (2^m-1) (.int (g:Int))=true:=by
 show(decide (0<=(g:Int))&&decide ((g:Int)<=2^m-1))=true;have e:((2^m:Nat):Int)=2^m:=by push_cast;rfl
 rw[decide_eq_true (by omega),decide_eq_true (by omega)];rfl
def iL:List Int:=[1,2,4,8,16,32]
def alone (i:Nat):Int:=iL.getD i 0
def qP (g:Nat) (i:Nat):Option V:=if qEk (g:Int) (alone i)=0 then none else some (.int (i:Int))
def hN (g:Nat):Nat->List Int
 | 0=>[]
 | i+1=>if g/2^i%2=1 then hN g i++[(i:Int)] else hN g i
def dG (g:Nat):List Int:=hN g 6
theorem xN:∀g:_root_.Fin 64,(qAl 6).filterMap (qP g.1)=(dG g.1).map V.int:=by decide +kernel
theorem xO (g:Nat):∀i,(hN g i).length<=i
 | 0=>qAg _
 | i+1=>by
  have h:=xO g i;unfold hN;split
  ·rw[qAo,qBf];omega
  ·omega
theorem sT {g m:Nat} (hg:g<2^m):∀(i:Nat) (x:Int),x∈hN g i->0<=x/\x<m
 | 0,x,h=>by cases h
 | i+1,x,h=>by
  unfold hN at h;split at h
  ·rename_i hb;rcases List.mem_append.mp h with h | h
   ·exact sT hg i x h
   ·have:x=(i:Int):=by simpa using h
    rcases qAk i m with z | z
    ·omega
    ·have:g/2^i=0:=qOd (qAx hg (qBx (by decide) z));omega
  ·exact sT hg i x h
def HZ (ns:List Int) (g:Nat):Nat->Int
 | 0=>0
 | i+1=>if g/2^i%2=1 then HZ ns g i+ns.getD i 0 else HZ ns g i
theorem CK (xs:List V) (n:Nat):gQ xs (some (n:Int)) none=xs.drop n:=by
 unfold gQ;rw[HT.yF,HT.t4];rcases qPl n xs.length with h | h
 ·rw[qOg h];exact qEt (by rw[qHq];omega)
 ·rw[qOc h,qNs,List.drop_of_length_le h];simp
theorem CL (xs:List V) (n:Nat):gQ xs none (some (n:Int))=xs.take n:=by
 unfold gQ;rw[HT.yF,HT.t4,qOh,qPj];rcases qPl n xs.length with h | h
 ·rw[qOg h]
 ·rw[qOc h,qEh,qEt h]
theorem xP {m:Nat} (h:m<=6):2^m<=64:=qBx (n:=2) (by decide) h
theorem all_ints (ns:List Int):(ns.map V.int).all jQ=true:=by
 induction ns with
 | nil=>rfl
 | cons n r ih=>exact ih
theorem cU {α β:Type}{f g:α->Option β}:∀{l:List α},(∀x∈l,f x=g x)->l.filterMap f=l.filterMap g
 | [],_=>rfl
 | x::r,h=>by
  rw[qCg,qCg,h x (by simp),cU fun y hy=>h y (by simp[hy])]
def oT:List Int:=[1,2,4,8,16,32,64]
structure FC (K:qAc) (C fCh fGM fCC fCA fPL:Addr):Prop where
 oc:Ol K C
 nm:g5 K C "many"
 nb:g5 K C "bottom"
 nr:g5 K C "rows"
 nc:g5 K C "chosen"
 Pb:Meth K C "choose" fCh
 PC:Meth K C "gains_more" fGM
 Pc:Meth K C "column_to_choose" fCC
 PD:Meth K C "comes_ahead" fCA
 PF:Meth K C "place_to_leave" fPL
structure T (K:qAc) (mg:Str->Option qAf) (AL LN FR iF fCh fGM fCC fCA fPL SE NN NG NT NR NS:Addr):Prop where
 fK:mg "isinstance"=none
 qQ:mg "int"=none
 mM:mg "bool"=none
 cD:mg "range"=none
 bZ:mg "len"=none
 cN:mg "list"=none
 j4:mg "sum"=none
 mZ:mg "all"=none
 uZ:mg "any"=none
 iM:mg "tuple"=none
 gK:mg "zip"=none
 oU:mg "abs"=none
 i8:mg "enumerate"=none
 qR:mg "max"=none
 zE:mg "str"=none
 i9:mg "sorted"=none
 vA:mg "set"=none
 gL:mg "reversed"=none
 Ed:mg "ALONE"=some (.ref AL)
 al:∀H:Hp,cQ K H AL (iL.map V.int)
 Lw:mg "LENGTHS"=some (.ref LN)
 ln:∀H:Hp,cQ K H LN (oT.map V.int)
 PH:∃o,K.lookup LN=some o/\o.cls = .type "tuple"/\o.dict=none
 mp:∃tk,mg "MOST_PLACES"=some (.int 8 tk)
 mc:∃tk,mg "MOST_COLUMNS"=some (.int 70 tk)
 Mz:mg "Frame"=some (.ref FR)
 cK:FC K FR fCh fGM fCC fCA fPL
 PJ:Mk K FR iF
 PK:∃fd,Mx K "__init__" "Frame.__init__" Lv ["self","columns","due"] iF fd
 Oy:∃fd,Mx K "choose" "Frame.choose" AW ["self","place","column"] fCh fd
 Oz:∃fd,Mx K "gains_more" "Frame.gains_more" AX ["self","column","gains"] fGM fd
 OA:∃fd,Mx K "column_to_choose" "Frame.column_to_choose" AY ["self","gains"] fCC fd
 OB:∃fd,Mx K "comes_ahead" "Frame.comes_ahead" AZ ["self","one","other","column"] fCA fd
 OC:∃fd,Mx K "place_to_leave" "Frame.place_to_leave" Ba ["self","column"] fPL fd
 NF:mg "ShareError"=some (.ref SE)
 Lx:mg "NoNumber"=some (.ref NN)
 MA:mg "NoGroup"=some (.ref NG)
 MB:mg "NoTable"=some (.ref NT)
 Gd:mg "NoRows"=some (.ref NR)
 MC:mg "NoShares"=some (.ref NS)
 PM:oF K SE
 Ly:qDn K NN BG "ValueError.__new__"=true
 Ge:qDn K NR BG "ValueError.__new__"=true
 MD:qDn K NG BG "ValueError.__new__"=true
 ME:qDn K NT BG "ValueError.__new__"=true
 MF:qDn K NS BG "ValueError.__new__"=true
section
variable {P:qBl}{w:qCw}{K:qAc}{mg:Str->Option qAf}{base:Heap}{AL LN FR iF fCh fGM fCC fCA fPL SE NN NG NT NR NS:Addr}{f:Addr}{fd:qBk}
def m9 (K:qAc):Sp:=fun vs H Q _=>∃v,vs=[v]/\Pl K H v/\Q (.bl (jQ v)) H
theorem MG:aQ ["thing"] ["thing"] (aI IB):=by constructor<;>first|rfl|decide +kernel
theorem JC (t:Tx K mg "is_number" IB ["thing"] f fd) (T:T K mg AL LN FR iF fCh fGM fCC fCA fPL SE NN NG NT NR NS):Df P w K mg base bY 1 "is_number" ["thing"] (m9 K) f fd:=by
 refine t.gX MG (fun vs H Q E h=>?_) (fun cdv A outer s H vs Q E hr h=>?_)
 ·obtain⟨v,rfl,_⟩:=h;rfl
 ·obtain⟨v,rfl,pl,k⟩:=h;obtain⟨Ty,ty,kd⟩:=pl.ex;refine⟨_,aH (aU (iU (aL cZ (by rfl) T.fK fG (aA (pv 0) (aA (dO (v:=.ty "int") (by rfl) T.qQ BN rfl) aB)))
   (iT (Bm (aL cZ (by rfl) T.fK fG (aA (pv 0) (aA (dO (v:=.ty "bool") (by rfl) T.mM yQ rfl) aB))))))),?_⟩
  refine⟨_,rfl,v,.ty "int",_,_,_,rfl,rfl,.of ty,kd.Mh K,_,rfl,?_⟩;refine cP (fun h1=>?_) (fun h1=>?_)
  ·refine⟨_,rfl,v,.ty "bool",_,_,_,rfl,rfl,.of ty,kd.FW K,_,rfl,?_⟩;have e:(!(Ty == "bool"))=jQ v:=by
    rw[Pl.jQ ty];cases kd <;> first | rfl | (exact absurd h1 (by decide))
   rw[e];exact k
  ·have e:false=jQ v:=by
    rw[Pl.jQ ty];cases kd <;> first | rfl | (exact absurd rfl h1)
   rw[e];exact k
def zF:Sp:=fun vs H Q _=>∃a b:Int,vs=[.int a,.int b]/\Q (.int (qBo a b:Int)) H
theorem abs_eq (i:Int):(if i<0 then -i else i)=(i.natAbs:Int):=by split <;> omega
theorem oV {r:Nat} (h:(!decide (V.int (r:Int)=V.int 0))=true):0<r:=by
 rcases qEm r with z | z
 ·subst z;exact absurd h (by decide)
 ·exact z
theorem zG {r:Nat} (h:¬(!decide (V.int (r:Int)=V.int 0))=true):r=0:=by
 rcases qEm r with z | z
 ·exact z
 ·refine absurd ?_ h;rw[decide_eq_false (fun q=>by have:=V.int.inj q;omega)];rfl
theorem qS:aQ ["one","other","divisor","rest","left"] ["one","other"] (aI IC):=by constructor<;>first|rfl|decide +kernel
theorem JD (t:Tx K mg "greatest_divisor" IC ["one","other"] f fd) (T:T K mg AL LN FR iF fCh fGM fCC fCA fPL SE NN NG NT NR NS):Df P w K mg base bY 1 "greatest_divisor" ["one","other"] zF f fd:=by
 refine t.gX qS (fun vs H Q E h=>?_) (fun cdv A outer s H vs Q E hr h=>?_)
 ·obtain⟨a,b,rfl,_⟩:=h;rfl
 ·obtain⟨a,b,rfl,k⟩:=h;refine⟨_,(aD (aP (i:=2) qS.nd rfl bR (aL n8 (by rfl) T.oU wR (aA (pv 0) aB)))
   (aD (aP (i:=3) qS.nd rfl bR (aL n8 (by rfl) T.oU wR (aA (pv 1) aB)))
   (aD (kL PassesOwn.never (aZ iZ (pv 3) aE (aY _))
    (aD (aP (i:=4) qS.nd rfl bR (aR gB (pv 2) (pv 3)))
    (aD (aP (i:=2) qS.nd rfl bR (pv 3))
    (aH (aP (i:=3) qS.nd rfl bR (pv 4))))))
   (aH (aU (pv 2)))))),?_⟩
  refine⟨_,rfl,a,rfl,_,rfl,b,rfl,?_⟩;rw[abs_eq,abs_eq];refine⟨fun m σ H2=>H2=H/\∃(d r:Nat) (v:Option V),m=r/\σ=[some (.int a),some (.int b),some (.int (d:Int)),some (.int (r:Int)),v]/\qId d r=qBo a b,⟨_,rfl,a.natAbs,b.natAbs,none,rfl,rfl,rfl⟩,?_⟩;rintro m σ H2 ⟨rfl,d,r,v,rfl,rfl,hg⟩;refine⟨_,rfl,rfl,_,rfl,?_⟩;refine cP (fun h1=>?_) (fun h1=>?_)
  ·have hr0:=oV h1;refine⟨fun σ' H'=>H'=H2/\∃(d' r':Nat) (v:Option V),r'<m/\σ'=[some (.int a),some (.int b),some (.int (d':Int)),some (.int (r':Int)),v]/\qId d' r'=qBo a b,fun σ' H' ⟨e,d',r',v,h1,h2,h3⟩=>⟨r',h1,e,d',r',v,rfl,h2,h3⟩,?_⟩;refine⟨_,rfl,_,rfl,_,_,rfl,rfl,(by show(0:Int)<(m:Int);omega),?_⟩;refine⟨_,rfl,_,rfl,rfl,m,d%m,_,qNo _ hr0,rfl,?_⟩;rw[CH];exact hg
  ·have hr0:=zG h1;subst hr0;rw[Nat.gcd_zero_right] at hg;refine⟨_,rfl,?_⟩;rw[hg];exact k
def sU (K:qAc) (NN:Addr):Sp:=fun vs H Q E=>∃v1 v2,vs=[v1,v2]/\Pl K H v1/\Pl K H v2/\((jQ v1=false\/jQ v2=false\/v2 = .int 0)->E (.ref NN) none H) /\
 ∀a b:Int,v1 = .int a->v2 = .int b->b≠0->Sm 8000 b/\∀p,H p=none->Q (.ref p) (upd H p (.tup [.int (a.fdiv (dv a b)),.int (b.fdiv (dv a b))]))
theorem CM {a b:Int} (hb:b≠0){n:Nat} (h:Sm n b):Sm n (dv a b):=by
 have h1:qBo a b<=b.natAbs:=qJe (by omega) (qNp _ _);have h2:(dv a b).natAbs=qBo a b:=by
  unfold dv;split <;> omega
 exact h.le (by omega)
theorem JE:aQ ["top","bottom","divisor"] ["top","bottom"] (aI Ow):=by constructor<;>first|rfl|decide +kernel
theorem MH {f1 f2:Addr}{fd1 fd2:qBk} (t:Tx K mg "fraction" Ow ["top","bottom"] f fd) (T:T K mg AL LN FR iF fCh fGM fCC fCA fPL SE NN NG NT NR NS) (D_is_number:Df P w K mg base bY 1 "is_number" ["thing"] (m9 K) f1 fd1) (D_greatest_divisor:Df P w K mg base bY 1 "greatest_divisor" ["one","other"] zF f2 fd2) :
  Df P w K mg base (g6 P w) 2 "fraction" ["top","bottom"] (sU K NN) f fd:=by
 refine t.Ec JE (fun vs H Q E h=>?_) (fun cdv A outer s H vs Q E hr h=>?_)
 ·obtain⟨v1,v2,rfl,_⟩:=h;rfl
 ·obtain⟨v1,v2,rfl,pl1,pl2,k0,k⟩:=h;refine⟨_,(aD (cF (PW.pt (pw_or (cL (cE (aW D_is_number hr (by decide) (by rfl) (aA (pv 0) aB)))) (pw_or1 (cL (cE (aW D_is_number hr (by decide) (by rfl) (aA (pv 1) aB))))))) (aH (eX cG rfl (by rfl) T.Lx T.Ly (aA eJ aB))) bH)
   (aD (cF (aZ hJ (pv 1) aE (aY _)) (aH (eX cG rfl (by rfl) T.Lx T.Ly (aA eJ aB))) bH)
   (aD (aP (i:=2) JE.nd rfl bR (aW D_greatest_divisor hr (by decide) (by rfl) (aA (pv 0) (aA (pv 1) aB))))
   (aD (cF (aZ hU (pv 1) aE (aY _)) (aH (aP (i:=2) JE.nd rfl bR (jW g4 (pv 2)))) bH)
   (aH (aU (cI (aA (aR gD (pv 0) (pv 2)) (aA (aR gD (pv 1) (pv 2)) aB))))))))),?_⟩
  refine⟨_,rfl,v1,rfl,pl1,_,rfl,?_⟩;cases e1:jQ v1 with
  | false=>exact eV (eV ⟨j6,k0 (.inl e1)⟩)
  | true =>
   refine dJ ⟨_,rfl,v2,rfl,pl2,_,rfl,?_⟩;cases e2:jQ v2 with
   | false=>exact eV ⟨j6,k0 (.inr (.inl e2))⟩
   | true =>
    refine dJ ?_;obtain⟨a,rfl⟩:∃a,v1 = .int a:=by
     cases v1 with
     | int a=>exact⟨a,rfl⟩
     | _=>cases e1
    obtain⟨b,rfl⟩:∃b,v2 = .int b:=by
     cases v2 with
     | int b=>exact⟨b,rfl⟩
     | _=>cases e2
    refine⟨_,rfl,rfl,_,rfl,?_⟩;refine cP (fun h1=>⟨j6,k0 (.inr (.inr (of_decide_eq_true h1)))⟩) (fun h1=>?_);have hb:b≠0:=fun z=>h1 (decide_eq_true (congrArg V.int z));obtain⟨hbig,kk⟩:=k a b rfl rfl hb;refine⟨_,rfl,_,rfl,a,b,rfl,?_⟩;have hd0:=(zC a b hb).1;have hds:=CM (a:=a) hb hbig;dsimp only;refine BP (fun σ2 H2=>H2=H/\σ2=[some (.int a),some (.int b),some (.int (dv a b))]) ?_ fun tail=>?_
    ·rintro σ2 H2 ⟨rfl,rfl⟩;exact⟨_,rfl,_,rfl,_,_,rfl,rfl,⟨hd0,hds⟩,_,rfl,_,rfl,_,_,rfl,rfl,⟨hd0,hds⟩,lS,fun p hp=>kk p hp⟩
    ·refine⟨_,rfl,_,_,rfl,rfl,_,rfl,?_⟩;refine cP (fun h2=>⟨_,rfl,_,rfl,tail _ _ ⟨rfl,?_⟩⟩) (fun h2=>tail _ _ ⟨rfl,?_⟩)
     ·show [some (V.int a),some (V.int b),some (V.int (-(qBo a b:Int)))]=_;unfold dv;rw[if_pos (of_decide_eq_true h2)]
     ·show [some (V.int a),some (V.int b),some (V.int (qBo a b:Int))]=_;unfold dv;rw[if_neg (fun z=>h2 (decide_eq_true z))]
def bB (n:Nat) (f:Nat->Int):List V:=(qAl n).map fun j=>V.int (f j)
theorem aJ (n:Nat) (f:Nat->Int):(bB n f).length=n:=by unfold bB;rw[qAb,qAw]
theorem dB {n j:Nat}{f:Nat->Int} (h:j<n):(bB n f)[j]?=some (.int (f j)):=by unfold bB;rw[qAp,qCz h];rfl
theorem dN {n j:Nat}{f:Nat->Int}{v:V} (h:(bB n f)[j]?=some v):j<n/\v = .int (f j):=by
 obtain⟨z,_⟩:=List.getElem?_eq_some_iff.mp h;rw[aJ] at z;rw[dB z] at h;exact⟨z,(Option.some.inj h).symm⟩
theorem bN {n j:Nat}{f:Nat->Int} (h:j<n):gC (bB n f) (j:Int)=some (.int (f j)):=fJ (dB h)
theorem dH {n:Nat}{f g:Nat->Int} (h:∀j,j<n->f j=g j):bB n f=bB n g:=qMk fun j hj=>by rw[h j (List.mem_range.mp hj)]
theorem lB (n:Nat) (f:Nat->Int):bB n f=((qAl n).map f).map V.int:=by unfold bB;rw[qDb];rfl
theorem lC (n:Nat) (f:Nat->Int):gC (bB (n+1) f) (-1)=some (.int (f n)):=by
 unfold gC;have e:Bj (bB (n+1) f).length (-1)=some n:=by
  rw[aJ];unfold Bj;rw[if_neg (by omega),if_pos (by omega)];congr 1;omega
 rw[e];exact dB (by omega)
theorem qT (n:Nat) (f:Nat->Int):((qAl n).map f).sum=Wg.sm n f:=by
 induction n with
 | zero=>rfl
 | succ n ih =>
  rw[qBm,qAt,qGn,ih];show Wg.sm n f+(f n+0)=Wg.sm n f+f n;rw[qDr]
theorem lD {n p:Nat}{f:Nat->Int} (v:Int):(bB n f).set p (.int v)=bB n fun j=>if j=p then v else f j:=by
 refine qFd fun i=>?_;rw[qHj,aJ];rcases qAk i n with h | h
 ·rw[dB h,dB h];by_cases e:i=p
  ·rw[if_pos e.symm,if_pos (by omega),if_pos e]
  ·rw[if_neg (fun z=>e z.symm),if_neg e]
 ·rw[qBn (by rw[aJ];exact h),qBn (by rw[aJ];exact h)];split
  ·split
   ·omega
   ·rfl
  ·rfl
theorem lE (n k:Nat) (f g:Nat->Int):bB n f++bB k g=bB (n+k) fun j=>if j<n then f j else g (j-n):=by
 refine qFd fun i=>?_;rcases qAk i n with h | h
 ·rw[qBb (by rw[aJ];exact h),dB h,dB (by omega),if_pos h]
 ·rw[qAy (by rw[aJ];exact h),aJ];rcases qAk i (n+k) with h2 | h2
  ·rw[dB (by omega),dB h2,if_neg (by omega)]
  ·rw[qBn (by rw[aJ];omega),qBn (by rw[aJ];omega)]
theorem lF {xs:List V}{n:Nat} (F:Nat->V) (h:xs.length=n):((qAl n).filterMap fun i=>(xs[i]?).bind fun _=>some (F i))=(qAl n).map F:=by
 rw[<- qGg];refine cU fun i hi=>?_;rw[qAd (by rw[h];exact List.mem_range.mp hi)];rfl
theorem sV {xs ys:List V}{n:Nat} (F:Nat->V) (h:xs.length=n) (h2:ys.length=n):((qAl n).filterMap fun i=>(xs[i]?).bind fun _=>(ys[i]?).bind fun _=>some (F i))=(qAl n).map F:=by
 rw[<- qGg];refine cU fun i hi=>?_;rw[qAd (by rw[h];exact List.mem_range.mp hi),qAd (l:=ys) (by rw[h2];exact List.mem_range.mp hi)];rfl
theorem iN {n j:Nat} (h:j<n):Bj n (j:Int)=some j:=by
 unfold Bj;rw[if_pos (by omega),if_pos (by omega)];congr 1
def nL (x y:Addr) (H H':Hp):Prop:=∀b o,b≠x->b≠y->H b=some o->H' b=some o
theorem nL.refl {x y:Addr} (H:Hp):nL x y H H:=fun _ _ _ _ e=>e
theorem Gf {H H':Hp} (s:aG H H') (x y:Addr):nL x y H H':=fun b o _ _ e=>s b o e
theorem nL.then {x y:Addr}{H H1 H2:Hp} (a:nL x y H H1) (b:aG H1 H2):nL x y H H2:=fun c o n n2 e=>b c o (a c o n n2 e)
theorem nL.trans {x y:Addr}{H H1 H2:Hp} (a:nL x y H H1) (b:nL x y H1 H2):nL x y H H2:=fun c o n n2 e=>b c o n n2 (a c o n n2 e)
theorem nL.nG {x y:Addr}{H H1:Hp} (a:nL x y H H1) (u:HO):nL x y H (upd H1 x u):=fun c o n n2 e=>by rw[aM n];exact a c o n n2 e
theorem nL.OD {x y:Addr}{H H1:Hp} (a:nL x y H H1) (u:HO):nL x y H (upd H1 y u):=fun c o n n2 e=>by rw[aM n2];exact a c o n n2 e
structure Inst (m n:Nat) (A:Nat->Nat->Int) (due:Nat->Int):Prop where
 m1:1<=m
 m8:m<=8
 oW:n<=70
 bA:∀j i,Sm 700 (A j i)
 bD:∀i,Sm 700 (due i)
theorem fX (x y:Int):(Wg.sgn x*y).natAbs=y.natAbs:=by
 rw[qDq];rcases Wg.sI x with e | e <;> rw[e] <;> simp
theorem Inst.fS {m n:Nat}{A:Nat->Nat->Int}{due:Nat->Int} (h:Inst m n A due) (j r:Nat):(Wg.fS m n A due j r).natAbs<=2^700:=by
 have one:(1:Int).natAbs<=2^700:=Nat.one_le_two_pow;have zero:(0:Int).natAbs<=2^700:=qBr _;unfold Wg.fS;split
 ·split
  ·rw[fX];exact qAn (h.bA j r)
  ·split
   ·split
    ·exact one
    ·exact zero
   ·split
    ·rw[fX];exact qAn (h.bD r)
    ·exact zero
 ·exact zero
theorem OE:∀m:_root_.Fin 9,Wg.pP m.1*(2^700)^m.1<2^6000:=by decide +kernel
theorem Inst.size {m n:Nat}{A:Nat->Nat->Int}{due:Nat->Int} (h:Inst m n A due){S:Wg.St} (ok:S.ok m (Wg.fS m n A due)):Sm 6000 S.d/\∀k,k<m->∀j,Sm 6000 (S.R k j):=by
 have z:=Wg.Fr.bound ok h.fS;have f:=OE ⟨m,by have:=h.m8;omega⟩;exact⟨qBq z.1 f,fun k hk j=>qBq (z.2 k hk j) f⟩
def oX (m:Nat) (A:Nat->Nat->Int) (due:Nat->Int) (d:Int):Prop:=∀B:Nat,1<=B->(∀j i,(A j i).natAbs<=B)->(∀i,(due i).natAbs<=B)->d.natAbs<=Wg.pP m*B^m
theorem Inst.small {m n:Nat}{A:Nat->Nat->Int}{due:Nat->Int} (h:Inst m n A due){S:Wg.St} (ok:S.ok m (Wg.fS m n A due)):oX m A due S.d:=fun B hB hA hD=>by
 refine(Wg.Fr.bound (X:=B) ok fun j r=>?_).1;have zero:(0:Int).natAbs<=B:=qBr _;unfold Wg.fS;split
 ·split
  ·rw[fX];exact hA j r
  ·split
   ·split
    ·exact hB
    ·exact zero
   ·split
    ·rw[fX];exact hD r
    ·exact zero
 ·exact zero
def xQ (m:Nat) (A:Nat->Nat->Int) (due g Y:Nat->Int):Prop:=∀B G:Nat,1<=B->(∀j i,(A j i).natAbs<=B)->(∀i,(due i).natAbs<=B)->(∀j,(g j).natAbs<=G)->∀i,(Y i).natAbs<=m*(G*(Wg.pP m*B^m))
theorem qU {f:Nat->Int}{C:Nat}:∀{n:Nat},(∀k,k<n->(f k).natAbs<=C)->(Wg.sm n f).natAbs<=n*C
 | 0,_=>qBr _
 | n+1,h=>by
  have i:=qU (n:=n) fun k hk=>h k (by omega);have z:=h n (by omega);show(Wg.sm n f+f n).natAbs<=(n+1)*C;rw[qMv,qIs];have:=qNt (Wg.sm n f) (f n);omega
theorem Inst.JF {m n:Nat}{A:Nat->Nat->Int}{due g:Nat->Int} (h:Inst m n A due){S:Wg.St} (ok:S.ok m (Wg.fS m n A due)):xQ m A due g (fun i=>Wg.sgn (due i)*Wg.fC m n (fun j=>if j<n then g j else 0) S i):=fun B G hB hA hD hG i=>by
 rw[fX];refine qU fun k hk=>?_;rw[qDq];refine qOp ?_ ?_
 ·show(if S.ch k<n then g (S.ch k) else 0).natAbs<=G;split
  ·exact hG _
  ·exact qBr _
 ·refine(Wg.Fr.bound (X:=B) ok fun j r=>?_).2 k hk _;have zero:(0:Int).natAbs<=B:=qBr _;unfold Wg.fS;split
  ·split
   ·rw[fX];exact hA j r
   ·split
    ·split
     ·exact hB
     ·exact zero
    ·split
     ·rw[fX];exact hD r
     ·exact zero
  ·exact zero
def zH:Sp:=fun vs H Q _=>∃i:Int,vs=[.int i]/\Q (.int (Wg.sgn i)) H
theorem MI:aQ ["number"] ["number"] (aI IE):=by constructor<;>first|rfl|decide +kernel
theorem JG (t:Tx K mg "sign_of" IE ["number"] f fd):Df P w K mg base bY 1 "sign_of" ["number"] zH f fd:=by
 refine t.gX MI (fun vs H Q E h=>?_) (fun cdv A outer s H vs Q E hr h=>?_)
 ·obtain⟨i,rfl,_⟩:=h;rfl
 ·obtain⟨i,rfl,k⟩:=h;refine⟨_,(aH (aU (nZ (aZ hU (pv 0) aE (aY _)) (jW g4 aE) aE))),?_⟩;refine⟨_,rfl,_,_,rfl,rfl,_,rfl,cP (fun z=>?_) (fun z=>?_)⟩
  ·have e:Wg.sgn i=-1:=by unfold Wg.sgn;rw[if_pos (of_decide_eq_true z)]
   rw[e] at k;exact⟨_,rfl,k⟩
  ·have e:Wg.sgn i=1:=by unfold Wg.sgn;rw[if_neg (fun y=>z (decide_eq_true y))]
   rw[e] at k;exact k
structure sW (m n:Nat) (A:Nat->Nat->Int) (due:Nat->Int) (H:Hp) (pc pd:Addr) (cs:List Addr):Prop where
 hc:H pc=some (.lst (cs.map V.ref))
 len:cs.length=n
 at_:∀j c,cs[j]?=some c->H c=some (.lst (bB m (A j)))
 hd:H pd=some (.lst (bB m due))
theorem sW.same {m n:Nat}{A:Nat->Nat->Int}{due:Nat->Int}{H H':Hp}{pc pd:Addr}{cs:List Addr} (h:sW m n A due H pc pd cs) (s:aG H H'):sW m n A due H' pc pd cs :=
 ⟨s _ _ h.hc,h.len,fun j c e=>s _ _ (h.at_ j c e),s _ _ h.hd⟩
theorem cW {as:List Addr}{i:Nat}{x:V} (h:(as.map V.ref)[i]?=some x):∃a,as[i]?=some a/\x = .ref a:=by
 rw[qAp] at h;cases e:as[i]? with
 | none=>rw[e] at h;cases h
 | some a=>rw[e] at h;exact⟨a,rfl,(Option.some.inj h).symm⟩
def Gg:Sp:=fun vs H Q _=>∃(m n:Nat) (A:Nat->Nat->Int) (due:Nat->Int) (pc pd:Addr) (cs:List Addr) (i:Nat),vs=[.ref pc,.ref pd,.int (i:Int)]/\Inst m n A due/\sW m n A due H pc pd cs/\i<m /\
 ∀(r:Addr) (H':Hp),aG H H'->H r=none->H' r=some (.lst (bB (n+m+1) fun j=>Wg.fS m n A due j i))->Q (.ref r) H'
theorem CN:aQ ["columns","due","place","sign","spares"] ["columns","due","place"] (aI IF):=by constructor<;>first|rfl|decide +kernel
theorem tD (x:Int):Sm 2 (Wg.sgn x):=by
 have:(Wg.sgn x).natAbs=1:=by rcases Wg.sI x with e | e <;> rw[e] <;> rfl
 show(Wg.sgn x).natAbs<2^2;omega
theorem JH {f1:Addr}{fd1:qBk} (t:Tx K mg "first_row" IF ["columns","due","place"] f fd) (T:T K mg AL LN FR iF fCh fGM fCC fCA fPL SE NN NG NT NR NS) (D_sign_of:Df P w K mg base bY 1 "sign_of" ["number"] zH f1 fd1) :
  Df P w K mg base bY 2 "first_row" ["columns","due","place"] Gg f fd:=by
 refine t.gX CN (fun vs H Q E h=>?_) (fun cdv _A outer s H vs Q E hr h=>?_)
 ·obtain⟨m,n,A,due,pc,pd,cs,i,rfl,_⟩:=h;rfl
 ·obtain⟨m,n,A,due,pc,pd,cs,i,rfl,ins,co,hi,k⟩:=h;have m8:=ins.m8;have oW:=ins.oW;refine⟨_,(aD (aP (i:=3) CN.nd rfl (by first|exact .inl rfl|exact .inr rfl) (aW D_sign_of hr (by decide) (by rfl) (aA (aS a8 (pv 1) (pv 2) (fun _ _=>rfl)) aB)))
   (aD (eB (NB:=["other","place"]) (pick:=[none,some 2]) (i:=4) CN.nd rfl bR (by rfl) (bJ (by with_unfolding_all rfl) (by exact(And.intro rfl trivial)) rfl (by decide +kernel) (by decide +kernel) (by rfl) (by rfl)) rfl
     (cY (by rfl) T.cD (aA (aL aO (by rfl) T.bZ bQ (aA (pv 1) aB)) aB)) (fun _ _ _=>aN (i:=0) (show(["other","place"]:List Str).Nodup from by decide +kernel) rfl bR)
     (fun _ _ _=>bK) (fun _ _ _=>(nZ (aZ hJ (pv 0) (pv 1) (aY _)) aE aE)))
   (aH (aU (aR fV (aR fV (bP (NB:=["column","place","sign"]) (pick:=[none,some 2,some 3]) (bJ (by with_unfolding_all rfl) (by exact(And.intro rfl (And.intro rfl trivial))) rfl (by decide +kernel) (by decide +kernel) (by rfl) (by rfl)) rfl
     (bO (pv 0)) (fun _ _ _=>aN (i:=0) (show(["column","place","sign"]:List Str).Nodup from by decide +kernel) rfl bR)
     (fun _ _ _=>bK) (fun _ _ _=>(aR bM (pv 2) (aS (bV K) (pv 0) (pv 1) (fun _ _=>rfl))))) (pv 4)) (bU (aA (aR bM (pv 3) (aS a8 (pv 1) (pv 2) (fun _ _=>rfl))) aB))))))),?_⟩
  refine⟨_,rfl,_,rfl,pd,_,_,_,rfl,rfl,aT.of co.hd,bN hi,_,rfl,?_⟩;refine⟨_,rfl,pd,_,rfl,.inl (aT.of co.hd),?_⟩;rw[aJ];refine⟨m,rfl,by omega,by omega,?_⟩;refine gG (n:=m) (fun j=>some (.int (if j=i then 1 else 0))) (qAn (aK (by omega))) (fun j H2 kk kk0 s2 hj g1 g2=>?_) fun D H2 hD s2 hd=>?_
  ·refine⟨_,rfl,_,rfl,rfl,_,rfl,cP (fun z=>?_) (fun z=>?_)⟩
   ·have e:j=i:=by have:=V.int.inj (of_decide_eq_true z);omega
    exact g1 _ (by rw[if_pos e]) _ (.refl _)
   ·have e:j≠i:=fun q=>z (decide_eq_true (by rw[q];congr 1;omega));exact g1 _ (by rw[if_neg e]) _ (.refl _)
  ·have hs:H2 D=some (.lst (bB m fun j=>if j=i then 1 else 0)):=by
    rw[hd];unfold bB;rw[qDu]
   have co2:=co.same s2;refine⟨_,rfl,pc,rfl,⟨_,aT.of co2.hc⟩,?_⟩;refine cM (xs:=cs.map V.ref) (fun j _=>some (.int (Wg.sgn (due i)*A j i))) (aT.of co2.hc) (by rw[qAb,co.len];exact qAn (aK (by omega))) (fun j y H3 kk kk0 s3 hy g1 g2=>?_) fun D2 H3 hD2 s3 hd2=>?_
   ·obtain⟨c,hc,rfl⟩:=cW hy;exact⟨_,rfl,_,rfl,_,rfl,c,_,_,_,rfl,rfl,aT.of (s3 _ _ (co2.at_ j c hc)),bN hi,_,_,rfl,rfl,(tD _).mb (ins.bA j i),g1 _ rfl _ (.refl _)⟩
   ·have hd2':H3 D2=some (.lst (bB n fun j=>Wg.sgn (due i)*A j i)):=by
     rw[hd2,qAb,co.len,lF _ (by rw[qAb,co.len])];rfl
    have hs3:=s3 _ _ hs;refine⟨_,rfl,D2,D,_,_,rfl,rfl,aT.of hd2',aT.of hs3,by rw[aJ,aJ];exact qAn (aK (by omega)),fun p1 hp1=>?_⟩;have u1:=aG.aF (o:=.lst (bB n (fun j=>Wg.sgn (due i)*A j i)++bB m fun j=>if j=i then 1 else 0)) hp1;have e1:upd H3 p1 (.lst (bB n (fun j=>Wg.sgn (due i)*A j i)++bB m fun j=>if j=i then 1 else 0)) p1=_:=aC;generalize upd H3 p1 (.lst (bB n (fun j=>Wg.sgn (due i)*A j i)++bB m fun j=>if j=i then 1 else 0))=H4 at u1 e1|-;have s4:=s2.trans (s3.trans u1);refine⟨_,rfl,_,rfl,_,rfl,pd,_,_,_,rfl,rfl,aT.of (s4 _ _ co.hd),bN hi,_,_,rfl,rfl,(tD _).mb (ins.bD i),j6,fun p2 hp2=>?_⟩;have u2:=aG.aF (o:=.lst [V.int (Wg.sgn (due i)*due i)]) hp2;have e2:upd H4 p2 (.lst [V.int (Wg.sgn (due i)*due i)]) p2=_:=aC;generalize upd H4 p2 (.lst [V.int (Wg.sgn (due i)*due i)])=H5 at u2 e2|-;have s5:=s4.trans u2;refine⟨p1,p2,_,_,rfl,rfl,aT.of (u2 _ _ e1),aT.of e2,by rw[qAo,aJ,aJ];exact qAn (aK (by show n+m+1<=1000;omega)),fun p3 hp3=>?_⟩;refine k p3 _ (s5.trans (.aF hp3)) (s5.free hp3) ?_;rw[aC,lE,show [V.int (Wg.sgn (due i)*due i)]=bB 1 fun _=>Wg.sgn (due i)*due i from rfl,lE];congr 2;refine dH fun j hj=>?_;unfold Wg.fS;rw[if_pos hi];by_cases h1:j<n
    ·rw[if_pos (by omega),if_pos h1,if_pos h1]
    ·by_cases h2:j<n+m
     ·rw[if_pos h2,if_neg h1,if_neg h1,if_pos h2];by_cases h3:j=n+i
      ·rw[if_pos h3,if_pos (by omega)]
      ·rw[if_neg h3,if_neg (by omega)]
     ·rw[if_neg h2,if_neg h1,if_neg h2,if_pos (by omega)]
def Gh:Sp:=fun vs H Q _=>∃(r l:Addr) (W q:Nat) (fr fl:Nat->Int) (d:Int),vs=[.ref r,.ref l,.int (q:Int),.int d]/\H r=some (.lst (bB W fr))/\H l=some (.lst (bB W fl))/\q<W/\W<=100/\0<d/\Sm 6000 d/\(∀j,j<W->Sm 6000 (fr j))/\(∀j,j<W->Sm 6000 (fl j)) /\
 ∀(D:Addr) (H':Hp),aG H H'->H D=none->H' D=some (.lst (bB W fun j=>(fr j*fl q-fr q*fl j)/d))->Q (.ref D) H'
theorem MJ:aQ ["row","lead","column","bottom"] ["row","lead","column","bottom"] (aI IG):=by constructor<;>first|rfl|decide +kernel
theorem JI (t:Tx K mg "cleared" IG ["row","lead","column","bottom"] f fd) (T:T K mg AL LN FR iF fCh fGM fCC fCA fPL SE NN NG NT NR NS):Df P w K mg base bY 1 "cleared" ["row","lead","column","bottom"] Gh f fd:=by
 refine t.gX MJ (fun vs H Q E h=>?_) (fun cdv _A outer s H vs Q E hr h=>?_)
 ·obtain⟨r,l,W,q,fr,fl,d,rfl,_⟩:=h;rfl
 ·obtain⟨r,l,W,q,fr,fl,d,rfl,hr1,hl1,hq,hW,d0,ds,sr,sl,k⟩:=h;refine⟨_,(aH (aU (bP (NB:=["number","other","bottom","column","lead","row"]) (pick:=[none,none,some 3,some 2,some 1,some 0]) (bJ (by with_unfolding_all rfl) (by exact(And.intro rfl (And.intro rfl (And.intro rfl (And.intro rfl trivial))))) rfl (by decide +kernel) (by decide +kernel) (by rfl) (by rfl)) rfl
     (gE (by rfl) T.gK (aA (pv 0) (aA (pv 1) aB))) (fun _ _ _=>(show PG _ _ (n6 K 2 (dU (aX 0) (dU (aX 1) n4))) from eL rfl (bF (aN (i:=0) (show(["number","other","bottom","column","lead","row"]:List Str).Nodup from by decide +kernel) rfl bR) (bF (aN (i:=1) (show(["number","other","bottom","column","lead","row"]:List Str).Nodup from by decide +kernel) rfl bR) c8))))
     (fun _ _ _=>bK) (fun _ _ _=>(aR gD (aR eU (aR bM (pv 0) (aS (bV K) (pv 4) (pv 3) (fun _ _=>rfl))) (aR bM (aS (bV K) (pv 5) (pv 3) (fun _ _=>rfl)) (pv 1))) (pv 2)))))),?_⟩
  refine⟨_,rfl,_,rfl,r,l,rfl,⟨_,aT.of hr1⟩,⟨_,aT.of hl1⟩,?_⟩;refine jG (xs:=bB W fr) (ys:=bB W fl) (fun σ'=>∃o0 o1:Option V,σ'=[o0,o1,some (.int d),some (.int (q:Int)),some (.ref l),some (.ref r)]) (fun j _ _=>some (.int ((fr j*fl q-fr q*fl j)/d))) ⟨_,_,rfl⟩ (aT.of hr1) (aT.of hl1) (by rw[aJ,aJ]) (by rw[aJ];exact qAn (aK (by omega))) (fun i x y tt σ1 H2 kk kk0 hσ s2 hx hy ht h1 h2=>?_) fun D H2 hD s2 hd=>?_
  ·obtain⟨o0,o1,rfl⟩:=hσ;obtain⟨hi,rfl⟩:=dN hx;obtain⟨_,rfl⟩:=dN hy;refine⟨tt,_,rfl,cQ.of ht,rfl,_,_,rfl,_,_,rfl,rfl,?_⟩;refine⟨_,rfl,_,rfl,_,rfl,l,_,_,_,rfl,rfl,aT.of (s2 _ _ hl1),bN hq,_,_,rfl,rfl,(sr i hi).mb (sl q hq),_,rfl,_,rfl,r,_,_,_,rfl,rfl,aT.of (s2 _ _ hr1),bN hq,_,rfl,_,_,rfl,rfl,(sr q hq).mb (sl i hi),_,_,rfl,rfl,_,rfl,_,_,rfl,rfl,ds.db (by omega),?_⟩;show kk _ (.int ((fr i*fl q-fr q*fl i).fdiv d)) H2;rw[qFe _ (qBy d0)];exact h1 _ _ ⟨_,_,rfl⟩ rfl _ (.refl _)
  ·refine k D H2 s2 hD ?_;rw[hd,aJ,sV _ (aJ _ _) (aJ _ _)];rfl
def tE (m n:Nat) (S:Wg.St) (k:Nat):List V:=bB (n+m+1) (S.R k)
def tQ (m:Nat) (S:Wg.St):List V:=bB m fun k=>(S.ch k:Int)
structure Rows (m n:Nat) (S:Wg.St) (H:Hp) (lr:Addr) (ras:List Addr):Prop where
 hr:H lr=some (.lst (ras.map V.ref))
 len:ras.length=m
 at_:∀k r,ras[k]?=some r->H r=some (.lst (tE m n S k))
theorem Rows.get {m n:Nat}{S:Wg.St}{H:Hp}{lr:Addr}{ras:List Addr} (h:Rows m n S H lr ras){k:Nat} (hk:k<m):∃r,ras[k]?=some r/\gC (ras.map V.ref) (k:Int)=some (.ref r)/\H r=some (.lst (tE m n S k)):=by
 have e:ras[k]?=some (ras[k]'(by rw[h.len];exact hk)):=qAd _;exact⟨_,e,fJ (by rw[qAp,e];rfl),h.at_ k _ e⟩
def gU (FR:Addr) (m n:Nat) (H:Hp) (x lc:Addr) (S:Wg.St):Prop:=∃(dx lr:Addr) (ras:List Addr),H x=some (.ins FR dx [("many",.int (n:Int)),("bottom",.int S.d),("rows",.ref lr),("chosen",.ref lc)])/\Rows m n S H lr ras/\H lc=some (.lst (tQ m S))
theorem gU.same {FR:Addr}{m n:Nat}{H H':Hp}{x lc:Addr}{S:Wg.St} (h:gU FR m n H x lc S) (s:aG H H'):gU FR m n H' x lc S:=by
 obtain⟨dx,lr,ras,h1,h2,h3⟩:=h;exact⟨dx,lr,ras,s _ _ h1,⟨s _ _ h2.hr,h2.len,fun k r e=>s _ _ (h2.at_ k r e)⟩,s _ _ h3⟩
structure Good (m n:Nat) (A:Nat->Nat->Int) (due:Nat->Int) (S:Wg.St):Prop where
 ins:Inst m n A due
 ok:S.ok m (Wg.fS m n A due)
 ch:∀k,k<m->S.ch k<n+m
theorem Good.start {m n:Nat}{A:Nat->Nat->Int}{due:Nat->Int} (h:Inst m n A due):Good m n A due (Wg.start m n A due) :=
 ⟨h,Wg.Cv,fun k hk=>by show n+k<n+m;omega⟩
theorem Good.next {m n:Nat}{A:Nat->Nat->Int}{due:Nat->Int}{S:Wg.St} (h:Good m n A due S){p q:Nat} (hp:p<m) (hq:q<n) (nz:S.R p q≠0):Good m n A due (S.next p q) :=
 ⟨h.ins,Wg.St.y6 h.ok hp nz,fun k hk=>by
  by_cases e:k=p
  ·rw[e,Wg.St.gJ];omega
  ·rw[Wg.St.fA e];exact h.ch k hk⟩
def MK (FR:Addr):Sp:=fun vs H Q _=>∃(m n:Nat) (A:Nat->Nat->Int) (due:Nat->Int) (x dx pc pd:Addr) (cs:List Addr),vs=[.ref x,.ref pc,.ref pd]/\H x=some (.ins FR dx [])/\Inst m n A due/\sW m n A due H pc pd cs /\
 ∀(lc:Addr) (H':Hp),SameBut x H H'->H lc=none->gU FR m n H' x lc (Wg.start m n A due)->Q .non H'
theorem OF:aQ ["self","columns","due"] ["self","columns","due"] (aI Lv):=by constructor<;>first|rfl|decide +kernel
theorem ML {f1:Addr}{fd1:qBk} (t:Mx K "__init__" "Frame.__init__" Lv ["self","columns","due"] f fd) (T:T K mg AL LN FR iF fCh fGM fCC fCA fPL SE NN NG NT NR NS) (D_first_row:Df P w K mg base bY 2 "first_row" ["columns","due","place"] Gg f1 fd1) :
  Md P w K mg base 3 ["self","columns","due"] (MK FR) f:=by
 refine t.Lu OF (fun vs H Q E h=>?_) (fun cdv _A outer s H vs Q E hr h=>?_)
 ·obtain⟨m,n,A,due,x,dx,pc,pd,cs,rfl,_⟩:=h;rfl
 ·obtain⟨m,n,A,due,x,dx,pc,pd,cs,rfl,hx,ins,co,k⟩:=h;have m8:=ins.m8;have oW:=ins.oW;refine⟨_,(aD (lZ (pv 0) (aL aO (by rfl) T.bZ bQ (aA (pv 1) aB)) rfl)
   (aD (lZ (pv 0) aE rfl)
   (aD (lZ (pv 0) (bP (NB:=["place","columns","due"]) (pick:=[none,some 1,some 2]) (bJ (by with_unfolding_all rfl) (by exact(And.intro rfl (And.intro rfl trivial))) rfl (by decide +kernel) (by decide +kernel) (by rfl) (by rfl)) rfl
     (cY (by rfl) T.cD (aA (aL aO (by rfl) T.bZ bQ (aA (pv 2) aB)) aB)) (fun _ _ _=>aN (i:=0) (show(["place","columns","due"]:List Str).Nodup from by decide +kernel) rfl bR)
     (fun _ _ _=>bK) (fun _ _ _=>(aW D_first_row hr (by decide) (by rfl) (aA (pv 1) (aA (pv 2) (aA (pv 0) aB)))))) rfl)
   (aH (lZ (pv 0) (bP (NB:=["place","self"]) (pick:=[none,some 0]) (bJ (by with_unfolding_all rfl) (by exact(And.intro rfl trivial)) rfl (by decide +kernel) (by decide +kernel) (by rfl) (by rfl)) rfl
     (cY (by rfl) T.cD (aA (aL aO (by rfl) T.bZ bQ (aA (pv 2) aB)) aB)) (fun _ _ _=>aN (i:=0) (show(["place","self"]:List Str).Nodup from by decide +kernel) rfl bR)
     (fun _ _ _=>bK) (fun _ _ _=>(aR fP (kZ K (pv 1) rfl) (pv 0)))) rfl))))),?_⟩
  have npc:pc≠x:=jU co.hc hx (by intro z;cases z);have npd:pd≠x:=jU co.hd hx (by intro z;cases z);refine⟨_,rfl,pc,_,rfl,.inl (aT.of co.hc),_,rfl,x,FR,dx,_,rfl,hx,T.cK.oc.cl,T.cK.nm,by decide,?_⟩;rw[qAb,co.len];have e1:upd H x (.ins FR dx (dF "many" (V.int (n:Int)) [])) x=some (.ins FR dx [("many",.int (n:Int))]):=aC;have b1:SameBut x H (upd H x (.ins FR dx (dF "many" (V.int (n:Int)) []))):=((aG.refl H).but x).nG _;generalize upd H x (.ins FR dx (dF "many" (V.int (n:Int)) []))=H1 at e1 b1|-;refine⟨_,rfl,x,FR,dx,_,rfl,e1,T.cK.oc.cl,T.cK.nb,by show 1<1000;decide,?_⟩;have e2:upd H1 x (.ins FR dx (dF "bottom" (V.int 1) [("many",.int (n:Int))])) x=some (.ins FR dx [("many",.int (n:Int)),("bottom",.int 1)]):=aC;have b2:SameBut x H (upd H1 x (.ins FR dx (dF "bottom" (V.int 1) [("many",.int (n:Int))]))):=b1.nG _;generalize upd H1 x (.ins FR dx (dF "bottom" (V.int 1) [("many",.int (n:Int))]))=H2 at e2 b2|-;have ncs:∀j c,cs[j]?=some c->c≠x:=fun j c e=>jU (co.at_ j c e) hx (by intro z;cases z);have co2:sW m n A due H2 pc pd cs:=⟨b2 _ _ npc co.hc,co.len,fun j c e=>b2 _ _ (ncs j c e) (co.at_ j c e),b2 _ _ npd co.hd⟩;refine⟨_,rfl,pd,_,rfl,.inl (aT.of co2.hd),?_⟩;rw[aJ];refine⟨m,rfl,by omega,by omega,?_⟩;refine Az (n:=m) (fun i=>bB (n+m+1) fun j=>Wg.fS m n A due j i) (qAn (aK (by omega))) (fun i H3 kk kk0 s3 hi g1=>?_) fun D ras H3 hD s3 hl nw hd=>?_
  ·refine⟨_,rfl,_,rfl,_,rfl,m,n,A,due,pc,pd,cs,i,?_,ins,co2.same s3,hi,fun r H4 s4 hr4 e4=>g1 r H4 s4 hr4 e4⟩;rw[qDj];rfl
  ·refine⟨_,rfl,x,FR,dx,_,rfl,s3 _ _ e2,T.cK.oc.cl,T.cK.nr,by show 2<1000;decide,?_⟩;have nD:D≠x:=fun z=>by rw[z,e2] at hD;cases hD
   have e3:upd H3 x (.ins FR dx (dF "rows" (V.ref D) [("many",.int (n:Int)),("bottom",.int 1)])) x=some (.ins FR dx [("many",.int (n:Int)),("bottom",.int 1),("rows",.ref D)]):=aC;have b3:SameBut x H (upd H3 x (.ins FR dx (dF "rows" (V.ref D) [("many",.int (n:Int)),("bottom",.int 1)]))):=(b2.then s3).nG _;have rw3:Rows m n (Wg.start m n A due) (upd H3 x (.ins FR dx (dF "rows" (V.ref D) [("many",.int (n:Int)),("bottom",.int 1)]))) D ras:=by
    refine⟨by rw[aM nD];exact hd,hl,fun k' r e=>?_⟩;obtain⟨a1,a2,a3⟩:=nw.at_ k' r e;have nr:r≠x:=fun z=>by rw[z,e2] at a1;cases a1
    rw[aM nr];exact a3
   generalize upd H3 x (.ins FR dx (dF "rows" (V.ref D) [("many",.int (n:Int)),("bottom",.int 1)]))=H4 at e3 b3 rw3|-;refine⟨_,rfl,pd,_,rfl,.inl (aT.of (b3 _ _ npd co.hd)),?_⟩;rw[aJ];refine⟨m,rfl,by omega,by omega,?_⟩;refine gG (n:=m) (fun i=>some (.int ((n+i:Nat):Int))) (qAn (aK (by omega))) (fun i H5 kk kk0 s5 hi g1 g2=>?_) fun D2 H5 hD2 s5 hd2=>?_
   ·refine⟨_,rfl,x,FR,dx,_,_,rfl,s5 _ _ e3,T.cK.oc.cl,T.cK.nm,rfl,_,rfl,_,_,rfl,rfl,?_⟩;rw[qDj];exact g1 _ (by rw[qOi]) _ (.refl _)
   ·have nD2:D2≠x:=fun z=>by rw[z,e3] at hD2;cases hD2
    refine⟨_,rfl,x,FR,dx,_,rfl,s5 _ _ e3,T.cK.oc.cl,T.cK.nc,by show 3<1000;decide,?_⟩;refine k D2 _ ((b3.then s5).nG _) ?_ ⟨dx,D,ras,aC,⟨?_,rw3.len,fun k' r e=>?_⟩,?_⟩
    ·cases e:H D2 with
     | none=>rfl
     | some o =>
      have z:=b3 _ _ nD2 e;rw[hD2] at z;cases z
    ·rw[aM nD];exact s5 _ _ rw3.hr
    ·have z:=rw3.at_ k' r e;have nr:r≠x:=fun y=>by rw[y,e3] at z;cases z
     rw[aM nr];exact s5 _ _ z
    ·rw[aM nD2,hd2,qDu];rfl
theorem JJ {m n:Nat}{S:Wg.St}{H:Hp}{lr x:Addr}{ras:List Addr} (h:Rows m n S H lr ras){C dx:Addr}{fs:List (Str×V)} (hx:H x=some (.ins C dx fs)):lr≠x/\∀(k:Nat) (r:Addr),ras[k]?=some r->r≠x :=
 ⟨jU h.hr hx (by intro z;cases z),fun k r e=>jU (h.at_ k r e) hx (by intro z;cases z)⟩
def CO (FR:Addr):Sp:=fun vs H Q _=>∃(m n:Nat) (A:Nat->Nat->Int) (due:Nat->Int) (x lc:Addr) (S:Wg.St) (p q:Nat),vs=[.ref x,.int (p:Int),.int (q:Int)]/\gU FR m n H x lc S/\Good m n A due S/\p<m/\q<n/\S.R p q≠0 /\
 ∀H',nL x lc H H'->gU FR m n H' x lc (S.next p q)->Q .non H'
theorem zI:aQ ["self","place","column","sign","lead","rows"] ["self","place","column"] (aI AW):=by constructor<;>first|rfl|decide +kernel
theorem JK {f1 f2:Addr}{fd1 fd2:qBk} (t:Mx K "choose" "Frame.choose" AW ["self","place","column"] f fd) (T:T K mg AL LN FR iF fCh fGM fCC fCA fPL SE NN NG NT NR NS) (D_sign_of:Df P w K mg base bY 1 "sign_of" ["number"] zH f1 fd1) (D_cleared:Df P w K mg base bY 1 "cleared" ["row","lead","column","bottom"] Gh f2 fd2) :
  Md P w K mg base 2 ["self","place","column"] (CO FR) f:=by
 refine t.Lu zI (fun vs H Q E h=>?_) (fun cdv _A outer s H vs Q E hr h=>?_)
 ·obtain⟨m,n,A,due,x,lc,S,p,q,rfl,_⟩:=h;rfl
 ·obtain⟨m,n,A,due,x,lc,S,p,q,rfl,⟨dx,lr,ras,hx,rs,hlc⟩,gd,hp,hq,nz,k⟩:=h;have m8:=gd.ins.m8;have oW:=gd.ins.oW;obtain⟨sd,sR⟩:=gd.ins.size gd.ok;have d0:=Wg.Fr.pos gd.ok;refine⟨_,(aD (aP (i:=3) zI.nd rfl (by first|exact .inl rfl|exact .inr rfl) (aW D_sign_of hr (by decide) (by rfl) (aA (aS a8 (aS a8 (bT (pv 0) rfl) (pv 1) (fun _ _=>rfl)) (pv 2) (fun _ _=>rfl)) aB)))
   (aD (aP (i:=4) zI.nd rfl (by first|exact .inl rfl|exact .inr rfl) (bP (NB:=["number","sign"]) (pick:=[none,some 3]) (bJ (by with_unfolding_all rfl) (by exact(And.intro rfl trivial)) rfl (by decide +kernel) (by decide +kernel) (by rfl) (by rfl)) rfl
     (bO (aS a8 (bT (pv 0) rfl) (pv 1) (fun _ _=>rfl))) (fun _ _ _=>aN (i:=0) (show(["number","sign"]:List Str).Nodup from by decide +kernel) rfl bR)
     (fun _ _ _=>bK) (fun _ _ _=>(aR bM (pv 1) (pv 0)))))
   (aD (eB (NB:=["row","column","lead","self"]) (pick:=[none,some 2,some 4,some 0]) (i:=5) zI.nd rfl bR (by rfl) (bJ (by with_unfolding_all rfl) (by exact(And.intro rfl (And.intro rfl (And.intro rfl trivial)))) rfl (by decide +kernel) (by decide +kernel) (by rfl) (by rfl)) rfl
     (bO (bT (pv 0) rfl)) (fun _ _ _=>aN (i:=0) (show(["row","column","lead","self"]:List Str).Nodup from by decide +kernel) rfl bR)
     (fun _ _ _=>bK) (fun _ _ _=>(aW D_cleared hr (by decide) (by rfl) (aA (pv 0) (aA (pv 2) (aA (pv 1) (aA (kZ K (pv 3) rfl) aB)))))))
   (aD (iJ (pv 4) (iI (pv 5) (pv 1) set_list))
   (aD (lZ (pv 0) (pv 5) rfl)
   (aD (lZ (pv 0) (aS a8 (pv 4) (pv 2) (fun _ _=>rfl)) rfl)
   (aH (iJ (pv 2) (iI (bT (pv 0) rfl) (pv 1) set_list))))))))),?_⟩
  obtain⟨rp,erp,arp,hrp⟩:=rs.get hp;refine⟨_,rfl,x,FR,dx,_,_,rfl,hx,T.cK.oc.cl,T.cK.nr,rfl,_,rfl,lr,_,_,_,rfl,rfl,aT.of rs.hr,arp,_,rfl,rp,_,_,_,rfl,rfl,aT.of hrp,bN (by omega),_,rfl,?_⟩;refine⟨_,rfl,x,FR,dx,_,_,rfl,hx,T.cK.oc.cl,T.cK.nr,rfl,_,rfl,lr,_,_,_,rfl,rfl,aT.of rs.hr,arp,rp,rfl,⟨_,aT.of hrp⟩,?_⟩;refine cM (xs:=tE m n S p) (fun j _=>some (.int (Wg.sgn (S.R p q)*S.R p j))) (aT.of hrp) (by unfold tE;rw[aJ];exact qAn (aK (by omega))) (fun j y H2 kk kk0 s2 hy g1 g2=>?_) fun D H2 hD s2 hd=>?_
  ·obtain⟨hj,rfl⟩:=dN hy;exact⟨_,rfl,_,rfl,_,_,rfl,rfl,(tD _).mb (sR p hp j),g1 _ rfl _ (.refl _)⟩
  have hL:H2 D=some (.lst (bB (n+m+1) fun j=>Wg.sgn (S.R p q)*S.R p j)):=by
   rw[hd];unfold tE;rw[aJ,lF _ (aJ _ _)];rfl
  have sl:∀j,Sm 6000 (Wg.sgn (S.R p q)*S.R p j):=fun j=>(sR p hp j).le (by rw[fX];exact qAg _);refine⟨_,rfl,x,FR,dx,_,_,rfl,s2 _ _ hx,T.cK.oc.cl,T.cK.nr,rfl,lr,rfl,⟨_,aT.of (s2 _ _ rs.hr)⟩,?_⟩;refine jH (xs:=ras.map V.ref) (fun k'=>bB (n+m+1) fun j=>(S.R k' j*(Wg.sgn (S.R p q)*S.R p q)-S.R k' q*(Wg.sgn (S.R p q)*S.R p j))/S.d) (aT.of (s2 _ _ rs.hr)) (by rw[qAb,rs.len];exact qAn (aK (by omega))) (fun k' y H3 kk kk0 s3 hy g1=>?_) fun D2 ras2 H3 hD2 s3 hl2 nw hd2=>?_
  ·obtain⟨r,hr',rfl⟩:=cW hy;have hk':k'<m:=by
    obtain⟨z,_⟩:=List.getElem?_eq_some_iff.mp hr';rw[rs.len] at z;exact z
   refine⟨_,rfl,_,rfl,_,rfl,_,rfl,x,FR,dx,_,_,rfl,s3 _ _ (s2 _ _ hx),T.cK.oc.cl,T.cK.nb,rfl,r,D,n+m+1,q,S.R k',fun j=>Wg.sgn (S.R p q)*S.R p j,S.d,rfl,s3 _ _ (s2 _ _ (rs.at_ k' r hr')),s3 _ _ hL,by omega,by omega,d0,sd,fun j _=>sR k' hk' j,fun j _=>sl j,fun r2 H4 s4 hr4 e4=>g1 r2 H4 s4 hr4 e4⟩
  rw[qAb,rs.len] at hl2;have hL3:=s3 _ _ hL;have hx3:=s3 _ _ (s2 _ _ hx);have hlc3:=s3 _ _ (s2 _ _ hlc);refine⟨_,rfl,_,rfl,_,rfl,D2,_,_,p,rfl,rfl,hd2,by rw[qAb,hl2];exact iN hp,?_⟩;have s23:=s2.trans s3;have b4:nL x lc H (upd H3 D2 (.lst ((ras2.map V.ref).set p (V.ref D)))):=fun b o n1 n2 e=>by
   rw[aM (fun z=>by rw[z] at e;exact absurd (s2 _ _ e) (by rw[hD2];intro q;cases q))];exact s23 _ _ e
  have hx4:upd H3 D2 (.lst ((ras2.map V.ref).set p (V.ref D))) x=_:=(aM (fun z=>by rw[<- z,s2 _ _ hx] at hD2;cases hD2)).trans hx3;have hlc4:upd H3 D2 (.lst ((ras2.map V.ref).set p (V.ref D))) lc=_:=(aM (fun z=>by rw[<- z,s2 _ _ hlc] at hD2;cases hD2)).trans hlc3;have hL4:upd H3 D2 (.lst ((ras2.map V.ref).set p (V.ref D))) D=_:=(aM (fun z=>by rw[<- z,hL] at hD2;cases hD2)).trans hL3;have rs4:Rows m n (S.next p q) (upd H3 D2 (.lst ((ras2.map V.ref).set p (V.ref D)))) D2 (ras2.set p D):=by
   refine⟨by rw[aC,qPc],by rw[qKj];exact hl2,fun k' r e=>?_⟩;rw[qHj] at e;by_cases ek:p=k'
   ·rw[if_pos ek] at e;subst ek;rw[if_pos (by rw[hl2];exact hp)] at e;cases e;rw[hL4];congr 2;refine dH fun j _=>?_;show _=Wg.g8 S.d S.R p q p j;unfold Wg.g8;rw[if_pos rfl]
   ·rw[if_neg ek] at e;obtain⟨a1,a2,a3⟩:=nw.at_ k' r e;rw[aM a2,a3];congr 2;refine dH fun j _=>?_;show _=Wg.g8 S.d S.R p q k' j;unfold Wg.g8;rw[if_neg (fun z=>ek z.symm)]
  have nDx:D≠x:=fun z=>by rw[z,hx] at hD;cases hD
  have nDl:D≠lc:=fun z=>by rw[z,hlc] at hD;cases hD
  have nD2l:D2≠lc:=fun z=>by rw[z,s2 _ _ hlc] at hD2;cases hD2
  have nrl:∀k' r,(ras2.set p D)[k']?=some r->r≠lc:=fun k' r e=>by
   rw[qHj] at e;by_cases ek:p=k'
   ·rw[if_pos ek] at e;subst ek;rw[if_pos (by rw[hl2];exact hp)] at e;cases e;exact nDl
   ·rw[if_neg ek] at e;obtain⟨a1,_,_⟩:=nw.at_ k' r e;exact fun z=>by rw[z,s2 _ _ hlc] at a1;cases a1
  generalize upd H3 D2 (.lst ((ras2.map V.ref).set p (V.ref D)))=H4 at b4 hx4 hlc4 hL4 rs4|-;obtain⟨nrx1,nrx2⟩:=JJ rs4 hx4;refine⟨_,rfl,_,rfl,x,FR,dx,_,rfl,hx4,T.cK.oc.cl,T.cK.nr,by show 4<1000;decide,?_⟩;have nlx:lc≠x:=jU hlc hx (by intro z;cases z);have e5:upd H4 x (.ins FR dx (dF "rows" (V.ref D2) [("many",V.int (n:Int)),("bottom",.int S.d),("rows",.ref lr),("chosen",.ref lc)])) x=some (.ins FR dx [("many",V.int (n:Int)),("bottom",.int S.d),("rows",.ref D2),("chosen",.ref lc)]):=aC;have b5:nL x lc H (upd H4 x (.ins FR dx (dF "rows" (V.ref D2) [("many",V.int (n:Int)),("bottom",.int S.d),("rows",.ref lr),("chosen",.ref lc)]))):=b4.nG _;have hL5:=(aM (H:=H4) (o:=.ins FR dx (dF "rows" (V.ref D2) [("many",V.int (n:Int)),("bottom",.int S.d),("rows",.ref lr),("chosen",.ref lc)])) nDx).trans hL4;have rs5:Rows m n (S.next p q) (upd H4 x (.ins FR dx (dF "rows" (V.ref D2) [("many",V.int (n:Int)),("bottom",.int S.d),("rows",.ref lr),("chosen",.ref lc)]))) D2 (ras2.set p D) :=
   ⟨by rw[aM nrx1];exact rs4.hr,rs4.len,fun k' r e=>by rw[aM (nrx2 k' r e)];exact rs4.at_ k' r e⟩
  have hlc5:=(aM (H:=H4) (o:=.ins FR dx (dF "rows" (V.ref D2) [("many",V.int (n:Int)),("bottom",.int S.d),("rows",.ref lr),("chosen",.ref lc)])) nlx).trans hlc4;generalize upd H4 x (.ins FR dx (dF "rows" (V.ref D2) [("many",V.int (n:Int)),("bottom",.int S.d),("rows",.ref lr),("chosen",.ref lc)]))=H5 at e5 b5 hL5 rs5 hlc5|-;refine⟨_,rfl,_,rfl,D,_,_,_,rfl,rfl,aT.of hL5,bN (by omega),_,rfl,x,FR,dx,_,rfl,e5,T.cK.oc.cl,T.cK.nb,by show 4<1000;decide,?_⟩;have e6:upd H5 x (.ins FR dx (dF "bottom" (V.int (Wg.sgn (S.R p q)*S.R p q)) [("many",V.int (n:Int)),("bottom",.int S.d),("rows",.ref D2),("chosen",.ref lc)])) x=some (.ins FR dx [("many",V.int (n:Int)),("bottom",.int (Wg.sgn (S.R p q)*S.R p q)),("rows",.ref D2),("chosen",.ref lc)]):=aC;have b6:nL x lc H (upd H5 x (.ins FR dx (dF "bottom" (V.int (Wg.sgn (S.R p q)*S.R p q)) [("many",V.int (n:Int)),("bottom",.int S.d),("rows",.ref D2),("chosen",.ref lc)]))):=b5.nG _;have rs6:Rows m n (S.next p q) (upd H5 x (.ins FR dx (dF "bottom" (V.int (Wg.sgn (S.R p q)*S.R p q)) [("many",V.int (n:Int)),("bottom",.int S.d),("rows",.ref D2),("chosen",.ref lc)]))) D2 (ras2.set p D) :=
   ⟨by rw[aM nrx1];exact rs5.hr,rs5.len,fun k' r e=>by rw[aM (nrx2 k' r e)];exact rs5.at_ k' r e⟩
  have hlc6:=(aM (H:=H5) (o:=.ins FR dx (dF "bottom" (V.int (Wg.sgn (S.R p q)*S.R p q)) [("many",V.int (n:Int)),("bottom",.int S.d),("rows",.ref D2),("chosen",.ref lc)])) nlx).trans hlc5;generalize upd H5 x (.ins FR dx (dF "bottom" (V.int (Wg.sgn (S.R p q)*S.R p q)) [("many",V.int (n:Int)),("bottom",.int S.d),("rows",.ref D2),("chosen",.ref lc)]))=H6 at e6 b6 rs6 hlc6|-;refine⟨_,rfl,_,rfl,x,FR,dx,_,_,rfl,e6,T.cK.oc.cl,T.cK.nc,rfl,_,rfl,lc,_,_,p,rfl,rfl,hlc6,by unfold tQ;rw[aJ];exact iN hp,?_⟩;refine k _ (b6.OD _) ⟨dx,D2,_,(aM (fun z=>nlx z.symm)).trans e6,⟨(aM nD2l).trans rs6.hr,rs6.len,fun k' r e=>(aM (nrl k' r e)).trans (rs6.at_ k' r e)⟩,?_⟩;rw[aC];unfold tQ;rw[lD];congr 2;refine dH fun k' _=>?_;show _=((Wg.EV S.ch p q k':Nat):Int);unfold Wg.EV;split <;> rfl
structure Bk (m n:Nat) (c:Nat->Int) (H:Hp) (pg:Addr):Prop where
 hg:H pg=some (.lst (bB (n+m) c))
 sz:∀j,Sm 100000 (c j)
theorem Bk.same {m n:Nat}{c:Nat->Int}{H H':Hp}{pg:Addr} (h:Bk m n c H pg) (s:aG H H'):Bk m n c H' pg:=⟨s _ _ h.hg,h.sz⟩
theorem tF {m n:Nat}{S:Wg.St}{H:Hp}{lr:Addr}{ras:List Addr} (rs:Rows m n S H lr ras):(tQ m S).length=(ras.map V.ref).length:=by unfold tQ;rw[aJ,qAb,rs.len]
def Gi (FR:Addr):Sp:=fun vs H Q _=>∃(m n:Nat) (A:Nat->Nat->Int) (due:Nat->Int) (c:Nat->Int) (x lc pg:Addr) (S:Wg.St) (q:Nat),vs=[.ref x,.int (q:Int),.ref pg]/\gU FR m n H x lc S/\Good m n A due S/\Bk m n c H pg/\q<n /\
 ∀H',aG H H'->Q (.bl (decide (0<S.red m c q))) H'
theorem Gj:aQ ["self","column","gains","given_up"] ["self","column","gains"] (aI AX):=by constructor<;>first|rfl|decide +kernel
theorem JL (t:Mx K "gains_more" "Frame.gains_more" AX ["self","column","gains"] f fd) (T:T K mg AL LN FR iF fCh fGM fCC fCA fPL SE NN NG NT NR NS):Md P w K mg base 1 ["self","column","gains"] (Gi FR) f:=by
 refine t.Lu Gj (fun vs H Q E h=>?_) (fun cdv _A outer s H vs Q E hr h=>?_)
 ·obtain⟨m,n,A,due,c,x,lc,pg,S,q,rfl,_⟩:=h;rfl
 ·obtain⟨m,n,A,due,c,x,lc,pg,S,q,rfl,⟨dx,lr,ras,hx,rs,hlc⟩,gd,gn,hq,k⟩:=h;have m8:=gd.ins.m8;have oW:=gd.ins.oW;obtain⟨sd,sR⟩:=gd.ins.size gd.ok;refine⟨_,(aD (aP (i:=3) Gj.nd rfl bR (aL (hZ rfl) (by rfl) T.j4 mC (aA (bP (NB:=["chosen","row","column","gains"]) (pick:=[none,none,some 1,some 2]) (bJ (by with_unfolding_all rfl) (by exact(And.intro rfl (And.intro rfl trivial))) rfl (by decide +kernel) (by decide +kernel) (by rfl) (by rfl)) rfl
     (gE (by rfl) T.gK (aA (bT (pv 0) rfl) (aA (bT (pv 0) rfl) aB))) (fun _ _ _=>(show PG _ _ (n6 K 2 (dU (aX 0) (dU (aX 1) n4))) from eL rfl (bF (aN (i:=0) (show(["chosen","row","column","gains"]:List Str).Nodup from by decide +kernel) rfl bR) (bF (aN (i:=1) (show(["chosen","row","column","gains"]:List Str).Nodup from by decide +kernel) rfl bR) c8))))
     (fun _ _ _=>bK) (fun _ _ _=>(aR bM (aS (bV K) (pv 3) (pv 0) (fun _ _=>rfl)) (aS (bV K) (pv 1) (pv 2) (fun _ _=>rfl))))) aB)))
   (aH (aU (dA hU (pv 3) (aR bM (aS a8 (pv 2) (pv 1) (fun _ _=>rfl)) (bT (pv 0) rfl)) (aY _))))),?_⟩
  refine⟨_,rfl,x,FR,dx,_,_,rfl,hx,T.cK.oc.cl,T.cK.nc,rfl,_,rfl,x,FR,dx,_,_,rfl,hx,T.cK.oc.cl,T.cK.nr,rfl,lc,lr,rfl,⟨_,aT.of hlc⟩,⟨_,aT.of rs.hr⟩,?_⟩;refine jG (xs:=tQ m S) (ys:=ras.map V.ref) (fun σ'=>∃o0 o1:Option V,σ'=[o0,o1,some (.int (q:Int)),some (.ref pg)]) (fun k' _ _=>some (.int (c (S.ch k')*S.R k' q))) ⟨_,_,rfl⟩ (aT.of hlc) (aT.of rs.hr) (tF rs) (by unfold tQ;rw[aJ];exact qAn (aK (by omega))) (fun k' x' y' tt σ1 H2 kk kk0 hσ s2 hx' hy' ht h1 h2=>?_) fun D H2 hD s2 hd=>?_
  ·obtain⟨o0,o1,rfl⟩:=hσ;obtain⟨hk',rfl⟩:=dN hx';obtain⟨r,er,rfl⟩:=cW hy';have hch:=gd.ch k' hk';refine⟨tt,_,rfl,cQ.of ht,rfl,_,_,rfl,_,_,rfl,rfl,?_⟩;exact⟨_,rfl,_,rfl,pg,_,_,_,rfl,rfl,aT.of (s2 _ _ gn.hg),bN hch,_,rfl,_,rfl,r,_,_,_,rfl,rfl,aT.of (s2 _ _ (rs.at_ k' r er)),bN (by omega),_,_,rfl,rfl,(gn.sz _).mb (sR k' hk' q),h1 _ _ ⟨_,_,rfl⟩ rfl _ (.refl _)⟩
  ·have hd':H2 D=some (.lst (((qAl m).map fun k'=>c (S.ch k')*S.R k' q).map V.int)):=by
    have e:(tQ m S).length=m:=aJ _ _;rw[hd,e,sV _ e (by rw[qAb,rs.len]),qDb];rfl
   refine⟨D,_,rfl,.inl (aT.of hd'),?_⟩;refine⟨_,rfl,_,rfl,_,rfl,pg,_,_,_,rfl,rfl,aT.of (s2 _ _ gn.hg),bN (by omega),_,rfl,x,FR,dx,_,_,rfl,s2 _ _ hx,T.cK.oc.cl,T.cK.nb,rfl,_,_,rfl,rfl,(gn.sz q).mb sd,_,_,rfl,rfl,?_⟩;rw[qT];have e:decide (Wg.sm m (fun k'=>c (S.ch k')*S.R k' q)<c q*S.d)=decide (0<S.red m c q):=by
    refine decide_eq_decide.mpr ?_;unfold Wg.St.red Wg.red;omega
   show Q (.bl (decide (Wg.sm m (fun k'=>c (S.ch k')*S.R k' q)<c q*S.d))) H2;rw[e];exact k H2 s2
def CP (FR:Addr):Sp:=fun vs H Q _=>∃(m n:Nat) (A:Nat->Nat->Int) (due:Nat->Int) (c:Nat->Int) (x lc pg:Addr) (S:Wg.St),vs=[.ref x,.ref pg]/\gU FR m n H x lc S/\Good m n A due S/\Bk m n c H pg /\
 ∀H',aG H H'->((∀j,j<n->S.red m c j<=0)->Q .non H')/\∀q:Nat,q<n->0<S.red m c q->(∀j,j<q->S.red m c j<=0)->Q (.int (q:Int)) H'
theorem Gk:aQ ["self","gains","column"] ["self","gains"] (aI AY):=by constructor<;>first|rfl|decide +kernel
theorem JM (t:Mx K "column_to_choose" "Frame.column_to_choose" AY ["self","gains"] f fd) (T:T K mg AL LN FR iF fCh fGM fCC fCA fPL SE NN NG NT NR NS) (DG:Md P w K mg base 1 ["self","column","gains"] (Gi FR) fGM):Md P w K mg base 2 ["self","gains"] (CP FR) f:=by
 refine t.Lu Gk (fun vs H Q E h=>?_) (fun cdv _A outer s H vs Q E hr h=>?_)
 ·obtain⟨m,n,A,due,c,x,lc,pg,S,rfl,_⟩:=h;rfl
 ·obtain⟨m,n,A,due,c,x,lc,pg,S,rfl,fo,gd,gn,k⟩:=h;have oW:=gd.ins.oW;obtain⟨dx,lr,ras,hx,rs,hlc⟩:=id fo;refine⟨_,(aD (c9 PassesOwn.never rfl (cY (by rfl) T.cD (aA (bT (pv 0) rfl) aB)) (aN (i:=2) Gk.nd rfl bR)
    (aH (cF (cE (gF (k:=1) cA (pv 0) hr (by decide) (aA (pv 2) (aA (pv 1) aB)))) (aH (aU (pv 2))) bH)))
   (aH (aU j8))),?_⟩
  refine⟨_,rfl,x,FR,dx,_,_,rfl,hx,T.cK.oc.cl,T.cK.nm,rfl,n,rfl,by omega,by omega,?_⟩;refine lX (n:=n) (fun i σ H2=>aG H H2/\(∃o:Option V,σ=[some (.ref x),some (.ref pg),o])/\∀j,j<i->S.red m c j<=0) ⟨.refl _,⟨_,rfl⟩,fun j hj=>by omega⟩ (fun i σ H2 hi ⟨s2,⟨o,eσ⟩,le⟩=>?_) (fun σ H2 ⟨s2,⟨o,eσ⟩,le⟩=>?_)
  ·subst eσ;refine⟨_,rfl,x,FR,dx,_,fGM,_,rfl,s2 _ _ hx,rfl,T.cK.oc.cl,T.cK.PC,⟨_,DG⟩,?_⟩;refine⟨_,rfl,_,rfl,m,n,A,due,c,x,lc,pg,S,i,?_,fo.same s2,gd,gn.same s2,hi,fun H3 s3=>?_⟩
   ·rw[qDj]
   ·refine⟨_,rfl,cP (fun z=>⟨_,rfl,?_⟩) (fun z=>⟨s2.trans s3,⟨_,rfl⟩,fun j hj=>?_⟩)⟩
    ·rw[qDj];exact(k H3 (s2.trans s3)).2 i hi (of_decide_eq_true z) le
    ·by_cases e:j=i
     ·subst e;have:¬(0<S.red m c j):=fun y=>z (decide_eq_true y);omega
     ·exact le j (by omega)
  ·exact(k H2 s2).1 le
def Gm (FR:Addr):Sp:=fun vs H Q _=>∃(m n:Nat) (A:Nat->Nat->Int) (due:Nat->Int) (x lc:Addr) (S:Wg.St) (a b q:Nat),vs=[.ref x,.int (a:Int),.int (b:Int),.int (q:Int)]/\gU FR m n H x lc S/\Good m n A due S/\a<m/\b<m/\q<n /\
 Q (.bl (decide (S.R a (n+m)*S.R b q<S.R b (n+m)*S.R a q\/(S.R a (n+m)*S.R b q=S.R b (n+m)*S.R a q/\S.ch a<S.ch b)))) H
theorem CQ:aQ ["self","one","other","column","first","second"] ["self","one","other","column"] (aI AZ):=by constructor<;>first|rfl|decide +kernel
theorem JN (t:Mx K "comes_ahead" "Frame.comes_ahead" AZ ["self","one","other","column"] f fd) (T:T K mg AL LN FR iF fCh fGM fCC fCA fPL SE NN NG NT NR NS):Md P w K mg base 1 ["self","one","other","column"] (Gm FR) f:=by
 refine t.Lu CQ (fun vs H Q E h=>?_) (fun cdv _A outer s H vs Q E hr h=>?_)
 ·obtain⟨m,n,A,due,x,lc,S,a,b,q,rfl,_⟩:=h;rfl
 ·obtain⟨m,n,A,due,x,lc,S,a,b,q,rfl,⟨dx,lr,ras,hx,rs,hlc⟩,gd,ha,hb,hq,k⟩:=h;obtain⟨sd,sR⟩:=gd.ins.size gd.ok;obtain⟨ra,ea,aa,hra⟩:=rs.get ha;obtain⟨rb,eb,ab,hrb⟩:=rs.get hb;refine⟨_,(aD (aP (i:=4) CQ.nd rfl bR (aR bM (aS a8 (aS a8 (bT (pv 0) rfl) (pv 1) (fun _ _=>rfl)) (jW g4 aE) (fun _ _=>rfl)) (aS a8 (aS a8 (bT (pv 0) rfl) (pv 2) (fun _ _=>rfl)) (pv 3) (fun _ _=>rfl))))
   (aD (aP (i:=5) CQ.nd rfl bR (aR bM (aS a8 (aS a8 (bT (pv 0) rfl) (pv 2) (fun _ _=>rfl)) (jW g4 aE) (fun _ _=>rfl)) (aS a8 (aS a8 (bT (pv 0) rfl) (pv 1) (fun _ _=>rfl)) (pv 3) (fun _ _=>rfl))))
   (aH (aU (LH (dA hU (pv 4) (pv 5) (aY _)) (iT (iU (dA hJ (pv 4) (pv 5) (aY _)) (iT (dA hU (aS a8 (bT (pv 0) rfl) (pv 1) (fun _ _=>rfl)) (aS a8 (bT (pv 0) rfl) (pv 2) (fun _ _=>rfl)) (aY _)))))))))),?_⟩
  have la:gC (tE m n S a) (-1)=some (.int (S.R a (n+m))):=lC (n+m) _;have lb:gC (tE m n S b) (-1)=some (.int (S.R b (n+m))):=lC (n+m) _;refine⟨_,rfl,x,FR,dx,_,_,rfl,hx,T.cK.oc.cl,T.cK.nr,rfl,_,rfl,lr,_,_,_,rfl,rfl,aT.of rs.hr,aa,_,rfl,ra,_,_,_,rfl,rfl,aT.of hra,la,?_⟩;refine⟨_,rfl,x,FR,dx,_,_,rfl,hx,T.cK.oc.cl,T.cK.nr,rfl,_,rfl,lr,_,_,_,rfl,rfl,aT.of rs.hr,ab,_,rfl,rb,_,_,_,rfl,rfl,aT.of hrb,bN (by omega),_,_,rfl,rfl,(sR a ha _).mb (sR b hb _),?_⟩;refine⟨_,rfl,x,FR,dx,_,_,rfl,hx,T.cK.oc.cl,T.cK.nr,rfl,_,rfl,lr,_,_,_,rfl,rfl,aT.of rs.hr,ab,_,rfl,rb,_,_,_,rfl,rfl,aT.of hrb,lb,?_⟩;refine⟨_,rfl,x,FR,dx,_,_,rfl,hx,T.cK.oc.cl,T.cK.nr,rfl,_,rfl,lr,_,_,_,rfl,rfl,aT.of rs.hr,aa,_,rfl,ra,_,_,_,rfl,rfl,aT.of hra,bN (by omega),_,_,rfl,rfl,(sR b hb _).mb (sR a ha _),?_⟩;refine⟨_,rfl,_,rfl,_,_,rfl,rfl,_,rfl,cP (fun z=>?_) (fun z=>?_)⟩
  ·rw[decide_eq_true (.inl (of_decide_eq_true z))] at k;exact k
  ·have z1:¬S.R a (n+m)*S.R b q<S.R b (n+m)*S.R a q:=fun y=>z (decide_eq_true y);refine⟨_,rfl,_,rfl,rfl,_,rfl,cP (fun z2=>?_) (fun z2=>?_)⟩
   ·have e:=V.int.inj (of_decide_eq_true z2);refine⟨_,rfl,x,FR,dx,_,_,rfl,hx,T.cK.oc.cl,T.cK.nc,rfl,_,rfl,lc,_,_,_,rfl,rfl,aT.of hlc,bN ha,_,rfl,x,FR,dx,_,_,rfl,hx,T.cK.oc.cl,T.cK.nc,rfl,_,rfl,lc,_,_,_,rfl,rfl,aT.of hlc,bN hb,_,_,rfl,rfl,?_⟩;have e2:decide (((S.ch a:Nat):Int)<((S.ch b:Nat):Int))=decide (S.R a (n+m)*S.R b q<S.R b (n+m)*S.R a q\/S.R a (n+m)*S.R b q=S.R b (n+m)*S.R a q/\S.ch a<S.ch b):=by
     refine decide_eq_decide.mpr ⟨fun y=>.inr ⟨e,by omega⟩,fun y=>?_⟩;rcases y with y | ⟨_,y⟩ <;> omega
    rw[<- e2] at k;exact k
   ·have e:¬S.R a (n+m)*S.R b q=S.R b (n+m)*S.R a q:=fun y=>z2 (decide_eq_true (congrArg V.int y));rw[decide_eq_false (fun y=>by rcases y with y | ⟨y,_⟩ <;> contradiction)] at k;exact k
def Gn (FR:Addr):Sp:=fun vs H Q _=>∃(m n:Nat) (A:Nat->Nat->Int) (due:Nat->Int) (x lc:Addr) (S:Wg.St) (q:Nat),vs=[.ref x,.int (q:Int)]/\gU FR m n H x lc S/\Good m n A due S/\q<n /\
 ∀H',aG H H'->((∀k,k<m->S.R k q<=0)->Q .non H')/\∀p:Nat,p<m->0<S.R p q->(∀k,k<m->0<S.R k q->Wg.Ah (n+m) q S p k)->Q (.int (p:Int)) H'
def OG (L q:Nat) (S:Wg.St) (i:Nat) (v:V):Prop:=(v = .non/\∀k,k<i->S.R k q<=0)\/∃p:Nat,v = .int (p:Int)/\p<i/\0<S.R p q/\∀k,k<i->0<S.R k q->Wg.Ah L q S p k
theorem vB:aQ ["self","column","found","place","row"] ["self","column"] (aI Ba):=by constructor<;>first|rfl|decide +kernel
theorem JO (t:Mx K "place_to_leave" "Frame.place_to_leave" Ba ["self","column"] f fd) (T:T K mg AL LN FR iF fCh fGM fCC fCA fPL SE NN NG NT NR NS) (DA:Md P w K mg base 1 ["self","one","other","column"] (Gm FR) fCA):Md P w K mg base 2 ["self","column"] (Gn FR) f:=by
 refine t.Lu vB (fun vs H Q E h=>?_) (fun cdv _A outer s H vs Q E hr h=>?_)
 ·obtain⟨m,n,A,due,x,lc,S,q,rfl,_⟩:=h;rfl
 ·obtain⟨m,n,A,due,x,lc,S,q,rfl,fo,gd,hq,k⟩:=h;obtain⟨dx,lr,ras,hx,rs,hlc⟩:=id fo;refine⟨_,(aD (aP (i:=2) vB.nd rfl bR j8)
   (aD (c9 PassesOwn.never rfl (nQ (by rfl) T.i8 (aA (bT (pv 0) rfl) aB)) (eL rfl (bF (aN (i:=3) vB.nd rfl bR) (bF (aN (i:=4) vB.nd rfl bR) c8)))
    (aH (cF (PW.pt (pw_and (aZ tY (aS a8 (pv 4) (pv 1) (fun _ _=>rfl)) aE (aY _)) (pw_and1 (PW.pt (pw_or (aZ wC (pv 2) j8 (aY _)) (pw_or1 (cE (gF (k:=1) cA (pv 0) hr (by decide) (aA (pv 3) (aA (pv 2) (aA (pv 1) aB))))))))))) (aH (aP (i:=2) vB.nd rfl bR (pv 3))) bH)))
   (aH (aU (pv 2))))),?_⟩
  refine⟨_,rfl,x,FR,dx,_,_,rfl,hx,T.cK.oc.cl,T.cK.nr,rfl,lr,rfl,⟨_,aT.of rs.hr⟩,?_⟩;refine uE (xs:=ras.map V.ref) (fun i σ H2=>aG H H2/\∃(v:V) (o3 o4:Option V),σ=[some (.ref x),some (.int (q:Int)),some v,o3,o4]/\OG (n+m) q S i v) ⟨.refl _,.non,_,_,rfl,.inl ⟨rfl,fun k' hk'=>by omega⟩⟩ (fun i σ H2 _ ⟨s2,_⟩=>aT.of (s2 _ _ rs.hr)) (fun i y tt σ H2 hy ht ⟨s2,v,o3,o4,eσ,fn⟩=>?_) (fun σ H2 ⟨s2,v,o3,o4,eσ,fn⟩=>?_)
  ·subst eσ;obtain⟨r,er,rfl⟩:=cW hy;have hi:i<m:=by
    obtain⟨z,_⟩:=List.getElem?_eq_some_iff.mp er;rw[rs.len] at z;exact z
   have u2:=aG.aF (o:=.tup [.int (i:Int),.ref r]) ht;have e2:upd H2 tt (.tup [.int (i:Int),.ref r]) tt=some (.tup [.int (i:Int),.ref r]):=aC;generalize upd H2 tt (.tup [.int (i:Int),.ref r])=H3 at u2 e2|-;have s3:=s2.trans u2;refine⟨tt,_,rfl,cQ.of e2,rfl,_,_,rfl,_,_,rfl,rfl,?_⟩;have goOn:∀(v':V),(∀w',v'=w'->True)->OG (n+m) q S (i+1) v'->aG H H3/\∃(v:V) (o3 o4:Option V),[some (V.ref x),some (V.int (q:Int)),some v',some (V.int (i:Int)),some (V.ref r)]=[some (.ref x),some (.int (q:Int)),some v,o3,o4]/\OG (n+m) q S (i+1) v:=fun v' _ h=>⟨s3,v',_,_,rfl,h⟩;refine⟨_,rfl,_,rfl,r,_,_,_,rfl,rfl,aT.of (s3 _ _ (rs.at_ i r er)),bN (by omega),_,_,rfl,rfl,_,rfl,cP (fun z=>?_) (fun z=>?_)⟩
   ·have pos:0<S.R i q:=of_decide_eq_true z;rcases fn with ⟨rfl,no⟩ | ⟨p,rfl,hp,pp,ah⟩
    ·refine⟨_,rfl,rfl,_,rfl,eV ?_⟩;refine⟨_,rfl,goOn _ (fun _ _=>trivial) (.inr ⟨i,rfl,by omega,pos,fun k' hk' pk=>?_⟩)⟩;by_cases e:k'=i
     ·rw[e];exact .refl _
     ·have:=no k' (by omega);omega
    ·refine⟨_,rfl,rfl,_,rfl,dJ ?_⟩;refine⟨_,rfl,x,FR,dx,_,fCA,_,rfl,s3 _ _ hx,rfl,T.cK.oc.cl,T.cK.PD,⟨_,DA⟩,?_⟩;refine⟨_,rfl,_,rfl,_,rfl,m,n,A,due,x,lc,S,i,p,q,rfl,fo.same s3,gd,hi,by omega,hq,?_⟩;refine⟨_,rfl,cP (fun y=>?_) (fun y=>?_)⟩
     ·refine⟨_,rfl,goOn _ (fun _ _=>trivial) (.inr ⟨i,rfl,by omega,pos,fun k' hk' pk=>?_⟩)⟩;by_cases e:k'=i
      ·rw[e];exact .refl _
      ·exact .trans pos pp pk (.of (of_decide_eq_true y)) (ah k' (by omega) pk)
     ·refine goOn _ (fun _ _=>trivial) (.inr ⟨p,rfl,by omega,pp,fun k' hk' pk=>?_⟩);by_cases e:k'=i
      ·rw[e];exact .Iu (fun z=>y (decide_eq_true z))
      ·exact ah k' (by omega) pk
   ·have le:S.R i q<=0:=by
     have:¬(0<S.R i q):=fun y=>z (decide_eq_true y);omega
    refine goOn _ (fun _ _=>trivial) ?_;rcases fn with ⟨rfl,no⟩ | ⟨p,rfl,hp,pp,ah⟩
    ·refine .inl ⟨rfl,fun k' hk'=>?_⟩;by_cases e:k'=i
     ·rw[e];exact le
     ·exact no k' (by omega)
    ·refine .inr ⟨p,rfl,by omega,pp,fun k' hk' pk=>?_⟩;by_cases e:k'=i
     ·rw[e] at pk;omega
     ·exact ah k' (by omega) pk
  ·subst eσ;rw[qAb,rs.len] at fn;refine⟨_,rfl,?_⟩;rcases fn with ⟨rfl,no⟩ | ⟨p,rfl,hp,pp,ah⟩
   ·exact(k H2 s2).1 no
   ·exact(k H2 s2).2 p hp pp ah
def Gp (FR:Addr):Sp:=fun vs H Q _=>∃(m n:Nat) (A:Nat->Nat->Int) (due:Nat->Int) (c:Nat->Int) (x lc pg:Addr) (S:Wg.St),vs=[.ref x,.ref pg]/\gU FR m n H x lc S/\Good m n A due S/\(∀k,k<m->0<=S.R k (n+m))/\Bk m n c H pg/\pg≠lc /\
 ∀(S':Wg.St) (H':Hp),nL x lc H H'->gU FR m n H' x lc S'->Good m n A due S'->(∃T st p q,Wg.Run m n (n+m) (Wg.fS m n A due) c T st p q/\st 0=S/\st T=S') ->
  ((∀j,j<n->S'.red m c j<=0)->Q .non H')/\∀q:Nat,q<n->0<S'.red m c q->(∀k,k<m->S'.R k q<=0)->Q (.int (q:Int)) H'
def OH (m n:Nat) (c:Nat->Int) (S:Wg.St) (v:V):Prop:=(v = .non/\∀j,j<n->S.red m c j<=0)\/∃q:Nat,v = .int (q:Int)/\q<n/\0<S.red m c q/\∀j,j<q->S.red m c j<=0
theorem zJ:aQ ["frame","gains","column","place"] ["frame","gains"] (aI IH):=by constructor<;>first|rfl|decide +kernel
theorem JP (t:Tx K mg "climb" IH ["frame","gains"] f fd) (T:T K mg AL LN FR iF fCh fGM fCC fCA fPL SE NN NG NT NR NS) (DC:Md P w K mg base 2 ["self","gains"] (CP FR) fCC) (DP:Md P w K mg base 2 ["self","column"] (Gn FR) fPL) (DH:Md P w K mg base 2 ["self","place","column"] (CO FR) fCh) :
  Df P w K mg base bY 3 "climb" ["frame","gains"] (Gp FR) f fd:=by
 refine t.gX zJ (fun vs H Q E h=>?_) (fun cdv _A outer s H vs Q E hr h=>?_)
 ·obtain⟨m,n,A,due,c,x,lc,pg,S,rfl,_⟩:=h;rfl
 ·obtain⟨m,n,A,due,c,x,lc,pg,S,rfl,fo,gd,fe,gn,npl,k⟩:=h;have hch:=gd.ch;refine⟨_,(aD (aP (i:=2) zJ.nd rfl bR (gF (k:=2) cA (pv 0) hr (by decide) (aA (pv 1) aB)))
   (aD (kL PassesOwn.never (aZ En (pv 2) j8 (aY _))
    (aD (aP (i:=3) zJ.nd rfl bR (gF (k:=2) cA (pv 0) hr (by decide) (aA (pv 2) aB)))
    (aD (cF (aZ wC (pv 3) j8 (aY _)) (aH (aU (pv 2))) bH)
    (aD (fI (gF (k:=2) cA (pv 0) hr (by decide) (aA (pv 3) (aA (pv 2) aB))))
    (aH (aP (i:=2) zJ.nd rfl bR (gF (k:=2) cA (pv 0) hr (by decide) (aA (pv 1) aB))))))))
   (aH (aU j8)))),?_⟩
  have ask:∀{S1:Wg.St}{H1:Hp}{R:VK}{E':XK},gU FR m n H1 x lc S1->Good m n A due S1->Bk m n c H1 pg->(∀v H2,aG H1 H2->OH m n c S1 v->R v H2)->CP FR [.ref x,.ref pg] H1 R E':=fun {S1 H1 R E'} f1 g1 n1 kk =>
   ⟨m,n,A,due,c,x,lc,pg,S1,rfl,f1,g1,n1,fun H2 s2=>⟨fun no=>kk _ H2 s2 (.inl ⟨rfl,no⟩),fun q hq pos le=>kk _ H2 s2 (.inr ⟨q,rfl,hq,pos,le⟩)⟩⟩
  obtain⟨dx,lr,ras,hx,rs,hlc⟩:=id fo;refine⟨_,rfl,x,FR,dx,_,fCC,_,rfl,hx,rfl,T.cK.oc.cl,T.cK.Pc,⟨_,DC⟩,_,rfl,?_⟩;dsimp only[iK];refine ask fo gd gn fun v0 H1 s1 nx0=>?_;refine⟨fun mm σ H2=>∃(TT:Nat) (st:Nat->Wg.St) (p q:Nat->Nat) (v:V) (o:Option V),Wg.Run m n (n+m) (Wg.fS m n A due) c TT st p q/\st 0=S/\mm=(n+m)^m-TT/\nL x lc H H2/\gU FR m n H2 x lc (st TT)/\Good m n A due (st TT)/\σ=[some (.ref x),some (.ref pg),some v,o]/\OH m n c (st TT) v,
   ⟨_,0,fun _=>S,fun _=>0,fun _=>0,v0,none,.none gd.ok fe,rfl,rfl,Gf s1 x lc,fo.same s1,gd,rfl,nx0⟩,?_⟩
  rintro mm σ H2 ⟨TT,st,p,q,v,o,run,e0,rfl,sb,f2,g2,rfl,nx⟩;have hpx:pg≠x:=jU gn.hg hx (by intro z;cases z);have gn2:Bk m n c H2 pg:=⟨sb _ _ hpx npl gn.hg,gn.sz⟩;obtain⟨dx2,lr2,ras2,hx2,rs2,hlc2⟩:=id f2;refine⟨_,rfl,rfl,_,rfl,?_⟩;rcases nx with ⟨rfl,no⟩ | ⟨q0,rfl,hq0,pos,le⟩
  ·exact dJ ((k (st TT) H2 sb f2 g2 ⟨TT,st,p,q,run,e0,rfl⟩).1 no)
  ·refine eV ⟨fun σ' H'=>∃(TT':Nat) (st':Nat->Wg.St) (p' q':Nat->Nat) (v:V) (o:Option V),Wg.Run m n (n+m) (Wg.fS m n A due) c TT' st' p' q'/\st' 0=S/\TT'=TT+1/\nL x lc H H'/\gU FR m n H' x lc (st' TT')/\Good m n A due (st' TT')/\σ'=[some (.ref x),some (.ref pg),some v,o]/\OH m n c (st' TT') v,?_,?_⟩
   ·rintro σ' H' ⟨TT',st',p',q',v,o,run',e0',rfl,sb',f',g',eσ,nx'⟩;have z:=run'.ends (N:=n+m) (by omega) (by rw[e0'];exact hch);exact⟨_,by omega,TT+1,st',p',q',v,o,run',e0',rfl,sb',f',g',eσ,nx'⟩
   ·refine⟨_,rfl,x,FR,dx2,_,fPL,_,rfl,hx2,rfl,T.cK.oc.cl,T.cK.PF,⟨_,DP⟩,_,rfl,m,n,A,due,x,lc,st TT,q0,rfl,f2,g2,hq0,fun H3 s3=>⟨fun no=>?_,fun p0 hp0 pp ah=>?_⟩⟩
    ·refine⟨_,rfl,rfl,_,rfl,eV ⟨_,rfl,?_⟩⟩;exact(k (st TT) H3 (sb.then s3) (f2.same s3) g2 ⟨TT,st,p,q,run,e0,rfl⟩).2 q0 hq0 pos no
    ·have go:Wg.Goes m n (n+m) c (st TT) p0 q0:=⟨hq0,pos,le,hp0,pp,ah⟩;obtain⟨st',p',q',run',e0',e1'⟩:=run.more go;have g3:Good m n A due ((st TT).next p0 q0):=g2.next hp0 hq0 (by omega);refine⟨_,rfl,rfl,_,rfl,dJ ?_⟩;have hx3:=s3 _ _ hx2;refine⟨_,rfl,x,FR,dx2,_,fCh,_,rfl,hx3,rfl,T.cK.oc.cl,T.cK.Pb,⟨_,DH⟩,_,rfl,_,rfl,m,n,A,due,x,lc,st TT,p0,q0,rfl,f2.same s3,g2,hp0,hq0,by omega,fun H4 s4 f4=>?_⟩;obtain⟨dx4,lr4,ras4,hx4,rs4,hlc4⟩:=id f4;have sb4:=(sb.then s3).trans s4;refine⟨_,rfl,x,FR,dx4,_,fCC,_,rfl,hx4,rfl,T.cK.oc.cl,T.cK.Pc,⟨_,DC⟩,_,rfl,?_⟩;dsimp only[iK];refine ask f4 g3 ⟨sb4 _ _ hpx npl gn.hg,gn.sz⟩ fun v5 H5 s5 nx5=>?_;refine⟨TT+1,st',p',q',v5,_,run',e0'.trans e0,rfl,sb4.then s5,?_,?_,rfl,?_⟩
     ·rw[e1'];exact f4.same s5
     ·rw[e1'];exact g3
     ·rw[e1'];exact nx5
def tR (m n:Nat) (S:Wg.St):List Nat:=(qAl m).filter fun k=>decide (n<=S.ch k)
theorem lG {m n:Nat}{S:Wg.St}{k:Nat}:k∈tR m n S↔k<m/\n<=S.ch k:=by
 unfold tR;rw[qKi,List.mem_range,decide_eq_true_iff]
def bC (ks:List Nat):List V:=ks.map fun(k:Nat)=>V.int (k:Int)
theorem zK {ks:List Nat}{i:Nat}{v:V} (h:(bC ks)[i]?=some v):∃k,ks[i]?=some k/\v = .int (k:Int):=by
 unfold bC at h;rw[qAp] at h;cases e:ks[i]? with
 | none=>rw[e] at h;cases h
 | some a=>rw[e] at h;exact⟨a,rfl,(Option.some.inj h).symm⟩
def CS (FR:Addr):Sp:=fun vs H Q _=>∃(m n:Nat) (A:Nat->Nat->Int) (due:Nat->Int) (x lc:Addr) (S:Wg.St),vs=[.ref x]/\gU FR m n H x lc S/\Good m n A due S/\∀D H',H D=none->aG H H'->H' D=some (.lst (bC (tR m n S)))->Q (.ref D) H'
theorem MM:aQ ["frame"] ["frame"] (aI II):=by constructor<;>first|rfl|decide +kernel
theorem JQ (t:Tx K mg "spare_places" II ["frame"] f fd) (T:T K mg AL LN FR iF fCh fGM fCC fCA fPL SE NN NG NT NR NS):Df P w K mg base bY 1 "spare_places" ["frame"] (CS FR) f fd:=by
 refine t.gX MM (fun vs H Q E h=>?_) (fun cdv _A outer s H vs Q E hr h=>?_)
 ·obtain⟨m,n,A,due,x,lc,S,rfl,_⟩:=h;rfl
 ·obtain⟨m,n,A,due,x,lc,S,rfl,⟨dx,lr,ras,hx,rs,hlc⟩,gd,k⟩:=h;have m8:=gd.ins.m8;refine⟨_,(aH (aU (bP (NB:=["place","column","frame"]) (pick:=[none,none,some 0]) (bJ (by with_unfolding_all rfl) (by exact(And.intro rfl trivial)) rfl (by decide +kernel) (by decide +kernel) (by rfl) (by rfl)) rfl
     (nQ (by rfl) T.i8 (aA (bT (pv 0) rfl) aB)) (fun _ _ _=>(show PG _ _ (n6 K 2 (dU (aX 0) (dU (aX 1) n4))) from eL rfl (bF (aN (i:=0) (show(["place","column","frame"]:List Str).Nodup from by decide +kernel) rfl bR) (bF (aN (i:=1) (show(["place","column","frame"]:List Str).Nodup from by decide +kernel) rfl bR) c8))))
     (fun _ _ _=>eW (aZ Br (pv 1) (kZ K (pv 2) rfl) (aY _))) (fun _ _ _=>(pv 0))))),?_⟩
  refine⟨_,rfl,x,FR,dx,_,_,rfl,hx,T.cK.oc.cl,T.cK.nc,rfl,lc,rfl,⟨_,aT.of hlc⟩,?_⟩;refine oI (xs:=tQ m S) (fun σ'=>∃o0 o1:Option V,σ'=[o0,o1,some (.ref x)]) (fun k' _=>if n<=S.ch k' then some (.int (k':Int)) else none) ⟨_,_,rfl⟩ (aT.of hlc) (by unfold tQ;rw[aJ];exact qAn (aK (by omega))) (fun i y tt σ1 H2 kk kk0 hσ s2 hy ht h1 h2=>?_) fun D H2 hD s2 hd=>?_
  ·obtain⟨o0,o1,rfl⟩:=hσ;obtain⟨hi,rfl⟩:=dN hy;refine⟨tt,_,rfl,cQ.of ht,rfl,_,_,rfl,_,_,rfl,rfl,?_⟩;refine⟨_,rfl,_,rfl,x,FR,dx,_,_,rfl,s2 _ _ hx,T.cK.oc.cl,T.cK.nm,rfl,_,_,rfl,rfl,_,rfl,cP (fun z=>?_) (fun z=>?_)⟩
   ·have z':n<=S.ch i:=by have:((n:Nat):Int)<=((S.ch i:Nat):Int):=of_decide_eq_true z;omega
    exact⟨_,rfl,h1 _ _ ⟨_,_,rfl⟩ (if_pos z') _ (.refl _)⟩
   ·have z':¬n<=S.ch i:=fun y=>z (decide_eq_true (by show((n:Nat):Int)<=((S.ch i:Nat):Int);omega));exact h2 _ ⟨_,_,rfl⟩ (if_neg z') _ (.refl _)
  ·refine k D H2 hD s2 ?_;rw[hd];have e:(tQ m S).length=m:=aJ _ _;rw[e];congr 2;unfold bC tR;rw[<- qGg,qLu];refine cU fun i hi=>?_;rw[qAd (by rw[e];exact List.mem_range.mp hi)];show(if n<=S.ch i then some (V.int (i:Int)) else none)=if decide (n<=S.ch i)=true then some (V.int (i:Int)) else none;by_cases z:n<=S.ch i
   ·rw[if_pos z,if_pos (decide_eq_true z)]
   ·rw[if_neg z,if_neg (fun y=>z (of_decide_eq_true y))]
def Gq (FR:Addr):Sp:=fun vs H Q _=>∃(m n:Nat) (A:Nat->Nat->Int) (due:Nat->Int) (x lc:Addr) (S:Wg.St),vs=[.ref x]/\gU FR m n H x lc S/\Good m n A due S/\(∀k,k<m->0<=S.R k (n+m))/\(∀k,k<m->n<=S.ch k->S.R k (n+m)=0) /\
 ∀(S':Wg.St) (H':Hp),nL x lc H H'->gU FR m n H' x lc S'->Good m n A due S'->(∀k,k<m->0<=S'.R k (n+m))->Wg.Clean m n S'->Q .non H'
structure JR (m n:Nat) (S:Wg.St) (ps:List Nat):Prop where
 fe:∀k,k<m->0<=S.R k (n+m)
 z0:∀k,k<m->n<=S.ch k->S.R k (n+m)=0
 Fd:∀k∈ps,k<m/\n<=S.ch k
 done:∀k,k<m->n<=S.ch k->k∉ps->∀j,j<n->S.R k j=0
 nd:ps.Nodup
theorem JR.skip {m n:Nat}{S:Wg.St}{p:Nat}{ps:List Nat} (h:JR m n S (p::ps)) (r0:∀j,j<n->S.R p j=0):JR m n S ps :=
 ⟨h.fe,h.z0,fun k hk=>h.Fd k (qCi _ hk),fun k hk sp no=>by
  by_cases e:k=p
  ·rw[e];exact r0
  ·exact h.done k hk sp (fun z=>by rcases List.mem_cons.mp z with y | y <;> contradiction),(List.nodup_cons.mp h.nd).2⟩
theorem JR.go {m n:Nat}{M:Nat->Nat->Int}{S:Wg.St}{p q:Nat}{ps:List Nat} (h:JR m n S (p::ps)) (ok:S.ok m M) (hq:q<n) (nz:S.R p q≠0):JR m n (S.next p q) ps:=by
 obtain⟨hp,spp⟩:=h.Fd p (qDh ..);obtain⟨z1,z2⟩:=Wg.AO ok hp nz (h.z0 p hp spp) h.fe;have nd:=List.nodup_cons.mp h.nd;have back:∀k,n<=(S.next p q).ch k->k≠p/\n<=S.ch k:=fun k sp=>by
  have ne:k≠p:=fun e=>by rw[e,Wg.St.gJ] at sp;omega
  rw[Wg.St.fA ne] at sp;exact⟨ne,sp⟩
 refine⟨z1,fun k hk sp=>z2 k hk (h.z0 k hk (back k sp).2),fun k hk=>?_,fun k hk sp no=>?_,nd.2⟩
 ·obtain⟨a,b⟩:=h.Fd k (qCi _ hk);have ne:k≠p:=fun e=>nd.1 (e▸hk);exact⟨a,by rw[Wg.St.fA ne];exact b⟩
 ·obtain⟨ne,sp'⟩:=back k sp;exact Wg.Cz ok hp hq nz hk ne (h.done k hk sp' (fun z=>by rcases List.mem_cons.mp z with y | y <;> contradiction))
def MN (n:Nat) (f:Nat->Int):List Nat:=(qAl n).filter fun j=>decide (f j≠0)
theorem CT:aQ ["frame","place","others"] ["frame"] (aI IJ):=by constructor<;>first|rfl|decide +kernel
theorem JS {f1:Addr}{fd1:qBk} (t:Tx K mg "leave_spares" IJ ["frame"] f fd) (T:T K mg AL LN FR iF fCh fGM fCC fCA fPL SE NN NG NT NR NS) (D_spare_places:Df P w K mg base bY 1 "spare_places" ["frame"] (CS FR) f1 fd1) (DH:Md P w K mg base 2 ["self","place","column"] (CO FR) fCh) :
  Df P w K mg base bY 3 "leave_spares" ["frame"] (Gq FR) f fd:=by
 refine t.gX CT (fun vs H Q E h=>?_) (fun cdv _A outer s H vs Q E hr h=>?_)
 ·obtain⟨m,n,A,due,x,lc,S,rfl,_⟩:=h;rfl
 ·obtain⟨m,n,A,due,x,lc,S,rfl,fo,gd,fe,z0,k⟩:=h;have oW:=gd.ins.oW;refine⟨_,(aH (c9 PassesOwn.never rfl (bO (aW D_spare_places hr (by decide) (by rfl) (aA (pv 0) aB))) (aN (i:=1) CT.nd rfl (by first|exact .inl rfl|exact .inr rfl))
    (aD (eB (NB:=["column","frame","place"]) (pick:=[none,some 0,some 1]) (i:=2) CT.nd rfl bR (by rfl) (bJ (by with_unfolding_all rfl) (by exact(And.intro rfl (And.intro rfl trivial))) rfl (by decide +kernel) (by decide +kernel) (by rfl) (by rfl)) rfl
     (cY (by rfl) T.cD (aA (bT (pv 0) rfl) aB)) (fun _ _ _=>aN (i:=0) (show(["column","frame","place"]:List Str).Nodup from by decide +kernel) rfl bR)
     (fun _ _ _=>eW (aZ iZ (aS (bV K) (aS (bV K) (kZ K (pv 1) rfl) (pv 2) (fun _ _=>rfl)) (pv 0) (fun _ _=>rfl)) aE (aY _))) (fun _ _ _=>(pv 0)))
    (aH (cF (aZ tY (aL aO (by rfl) T.bZ bQ (aA (pv 2) aB)) aE (aY _)) (aH (fI (gF (k:=2) cA (pv 0) hr (by decide) (aA (pv 1) (aA (aS a8 (pv 2) aE (fun _ _=>rfl)) aB))))) bH))))),?_⟩
  refine⟨_,rfl,m,n,A,due,x,lc,S,rfl,fo,gd,fun D H1 hD s1 hd=>⟨D,rfl,⟨_,aT.of hd⟩,?_⟩⟩;obtain⟨dx0,lr0,ras0,hx0,rs0,hlc0⟩:=id fo;have nDx:D≠x:=fun z=>by rw[z,hx0] at hD;cases hD
  have nDl:D≠lc:=fun z=>by rw[z,hlc0] at hD;cases hD
  refine dX (xs:=bC (tR m n S)) (fun i σ H2=>∃(S2:Wg.St) (o1 o2:Option V),σ=[some (.ref x),o1,o2]/\nL x lc H1 H2/\gU FR m n H2 x lc S2/\Good m n A due S2/\JR m n S2 ((tR m n S).drop i)) ⟨S,_,_,rfl,.refl _,fo.same s1,gd,⟨fe,z0,fun k' hk'=>lG.mp hk',fun k' hk' sp no=>absurd (lG.mpr ⟨hk',sp⟩) no,List.nodup_range.filter _⟩⟩ (fun i σ H2 _ ⟨S2,o1,o2,_,sb,_⟩=>aT.of (sb _ _ nDx nDl hd)) (fun i y σ H2 hy ⟨S2,o1,o2,eσ,sb,f2,g2,lv⟩=>?_) (fun σ H2 ⟨S2,o1,o2,eσ,sb,f2,g2,lv⟩=>?_)
  ·subst eσ;obtain⟨p,ep,rfl⟩:=zK hy;obtain⟨hi,ep'⟩:=List.getElem?_eq_some_iff.mp ep;rw[List.drop_eq_getElem_cons hi,ep'] at lv;obtain⟨hp,spp⟩:=lv.Fd p (qDh ..);obtain⟨dx,lr,ras,hx,rs,hlc⟩:=id f2;obtain⟨rp,erp,arp,hrp⟩:=rs.get hp;refine⟨_,rfl,x,FR,dx,_,_,rfl,hx,T.cK.oc.cl,T.cK.nm,rfl,n,rfl,by omega,by omega,?_⟩;refine gG (n:=n) (fun j=>if S2.R p j≠0 then some (.int (j:Int)) else none) (qAn (aK (by omega))) (fun j H3 kk kk0 s3 hj g1 g2=>?_) fun D2 H3 hD2 s3 hd2=>?_
   ·refine⟨_,rfl,x,FR,dx,_,_,rfl,s3 _ _ hx,T.cK.oc.cl,T.cK.nr,rfl,_,rfl,lr,_,_,_,rfl,rfl,aT.of (s3 _ _ rs.hr),arp,_,rfl,rp,_,_,_,rfl,rfl,aT.of (s3 _ _ hrp),(show gC (tE m n S2 p) (0+(j:Int))=some (.int (S2.R p j)) by rw[qDj];exact bN (by omega)),rfl,_,rfl,cP (fun z=>?_) (fun z=>?_)⟩
    ·have z':S2.R p j≠0:=fun y=>by rw[y] at z;exact absurd z (by decide)
     exact⟨_,rfl,g1 _ (by rw[if_pos z',qDj]) _ (.refl _)⟩
    ·have z':¬S2.R p j≠0:=fun y=>z (by rw[decide_eq_false (fun q=>y (V.int.inj q))];rfl);exact g2 (if_neg z') _ (.refl _)
   ·have hd3:H3 D2=some (.lst (bC (MN n (S2.R p)))):=by
     rw[hd2];congr 2;unfold bC MN;rw[<- qGg,qLu];refine cU fun j hj=>?_;by_cases z:S2.R p j≠0
     ·rw[if_pos z,if_pos (decide_eq_true z)];rfl
     ·rw[if_neg z,if_neg (fun y=>z (of_decide_eq_true y))]
    refine⟨_,rfl,D2,_,rfl,.inl (aT.of hd3),_,_,rfl,rfl,_,rfl,?_⟩;cases en:MN n (S2.R p) with
    | nil =>
     rw[en] at hd3;refine cP (fun z=>absurd z (by decide)) (fun _=>⟨S2,_,_,rfl,sb.then s3,f2.same s3,g2,lv.skip fun j hj=>qAz fun nz=>?_⟩);have:j∈MN n (S2.R p):=List.mem_filter.mpr ⟨List.mem_range.mpr hj,decide_eq_true nz⟩;rw[en] at this;cases this
    | cons q qs =>
     rw[en] at hd3;have hqm:q∈MN n (S2.R p):=by rw[en];exact qDh ..
     obtain⟨hq,nz⟩:=List.mem_filter.mp hqm;have hq:=List.mem_range.mp hq;have nz:S2.R p q≠0:=of_decide_eq_true nz;refine cP (fun _=>?_) (fun z=>absurd (decide_eq_true (by show(0:Int)<(((bC (q::qs)).length:Nat):Int);exact Int.natCast_pos.mpr (qPi _))) z);refine⟨_,rfl,x,FR,dx,_,fCh,_,rfl,s3 _ _ hx,rfl,T.cK.oc.cl,T.cK.Pb,⟨_,DH⟩,_,rfl,_,rfl,D2,_,_,_,rfl,rfl,aT.of hd3,(show gC (bC (q::qs)) ((0:Nat):Int)=some (.int (q:Int)) from fJ rfl),m,n,A,due,x,lc,S2,p,q,rfl,f2.same s3,g2,hp,hq,nz,fun H4 s4 f4=>?_⟩;exact⟨S2.next p q,_,_,rfl,(sb.then s3).trans s4,f4,g2.next hp hq nz,lv.go g2.ok hq nz⟩
  ·subst eσ;have el:(bC (tR m n S)).length=(tR m n S).length:=by unfold bC;rw[qAb]
   rw[el,qNs] at lv;exact k S2 H2 ((Gf s1 x lc).trans sb) f2 g2 lv.fe fun k' hk' sp=>⟨lv.z0 k' hk' sp,lv.done k' hk' sp (qDa)⟩
abbrev fL (a d:Int):HO:=.tup [.int (a.fdiv (dv a d)),.int (d.fdiv (dv a d))]
theorem oY {d:Int} (h:0<d):fL 0 d = .tup [.int 0,.int 1]:=by
 have e:dv 0 d=d:=by
  unfold dv;rw[if_neg (by omega),Int.gcd_zero_left];omega
 unfold fL;rw[e,Int.zero_fdiv,qPe (by omega)]
theorem Fe {d:Int} (h:0<d):fL d d = .tup [.int 1,.int 1]:=by
 have e:dv d d=d:=by
  unfold dv;rw[if_neg (by omega),Int.gcd_self];omega
 unfold fL;rw[e,qPe (by omega)]
structure jA (n:Nat) (X:Nat->Int) (d:Int) (H:Hp) (l:Addr) (ws:List Addr):Prop where
 hr:H l=some (.lst (ws.map V.ref))
 len:ws.length=n
 at_:∀j w,ws[j]?=some w->H w=some (fL (X j) d)
theorem jA.same {n:Nat}{X:Nat->Int}{d:Int}{H H':Hp}{l:Addr}{ws:List Addr} (h:jA n X d H l ws) (s:aG H H'):jA n X d H' l ws:=⟨s _ _ h.hr,h.len,fun j w e=>s _ _ (h.at_ j w e)⟩
theorem jA.ext {n:Nat}{X Y:Nat->Int}{d:Int}{H:Hp}{l:Addr}{ws:List Addr} (h:jA n X d H l ws) (e:∀j,j<n->X j=Y j):jA n Y d H l ws:=⟨h.hr,h.len,fun j w ej=>by
 obtain⟨z,_⟩:=List.getElem?_eq_some_iff.mp ej;rw[<- e j (by rw[<- h.len];exact z)];exact h.at_ j w ej⟩
theorem jA.put {n:Nat}{X:Nat->Int}{d:Int}{H:Hp}{l p:Addr}{ws:List Addr} (h:jA n X d H l ws){o:HO}{q:Nat}{a:Int} (ho:o=fL a d) (hp:H p=none):jA n (fun j=>if j=q then a else X j) d (upd (upd H p o) l (.lst ((ws.map V.ref).set q (.ref p)))) l (ws.set q p):=by
 have npl:p≠l:=fun z=>by rw[z,h.hr] at hp;cases hp
 refine⟨by rw[aC,qPc],by rw[qKj];exact h.len,fun j w e=>?_⟩;rw[qHj] at e;by_cases ej:q=j
 ·rw[if_pos ej] at e;by_cases ql:q<ws.length
  ·rw[if_pos ql] at e;cases e;rw[aM npl,aC,if_pos ej.symm,ho]
  ·rw[if_neg ql] at e;cases e
 ·rw[if_neg ej] at e;have z:=h.at_ j w e;have n1:w≠l:=jU z h.hr (by intro z;cases z);have n2:w≠p:=a9 z hp;rw[aM n1,aM n2,if_neg (fun y=>ej y.symm)];exact z
theorem JT {b:Int} (a:Int) (hb:b≠0) (z:jQ (.int a)=false\/jQ (.int b)=false\/V.int b = .int 0):False:=by
 rcases z with z | z | z
 ·cases z
 ·cases z
 ·exact hb (V.int.inj z)
theorem oZ {K:qAc}{NN:Addr}{H:Hp}{a b:Int}{R:VK}{E:XK} (hb:b≠0) (sb:Sm 8000 b) (k:∀p,H p=none->R (.ref p) (upd H p (fL a b))):sU K NN [.int a,.int b] H R E :=
 ⟨_,_,rfl,.int _,.int _,fun z=>(JT a hb z).elim,fun a' b' h1 h2 _=>by
  cases h1
  cases h2
  exact⟨sb,k⟩⟩
theorem nV {m i:Nat}{M:Nat->Nat->Int}{S:Wg.St} (ok:S.ok m M) (hi:i<m) (f:Nat->Int) (j:Nat):Wg.wt (i+1) f S j=if j=S.ch i then f i else Wg.wt i f S j:=by
 show Wg.wt i f S j+(if S.ch i=j then f i else 0)=_;by_cases e:j=S.ch i
 ·rw[if_pos e,if_pos e.symm,Wg.Gb f fun k hk z=>?_,qDj];have:=Wg.Fr.inj ok (by omega) hi (z.trans e);omega
 ·rw[if_neg e,if_neg (fun z=>e z.symm),qDr]
theorem vC (n:Nat) (t:Addr):(qBj n [V.ref t]).flatten=(qBj n t).map V.ref:=by
 induction n with
 | zero=>rfl
 | succ n ih=>rw[qDz,qFc,ih,qDz];rfl
theorem fB (n:Nat) (v:Int):(qBj n [V.int v]).flatten=bB n fun _=>v:=by
 unfold bB;induction n with
 | zero=>rfl
 | succ n ih =>
  rw[qDz,qFc,ih];refine qFd fun i=>?_;cases i with
  | zero=>rw[qAp,qCz (by omega)];rfl
  | succ i =>
   show((qAl n).map fun _=>V.int v)[i]?=_;rw[qAp,qAp];rcases qAk i n with h | h
   ·rw[qCz h,qCz (by omega)];rfl
   ·rw[qBn (by rw[qAw];exact h),qBn (by rw[qAw];omega)]
def Gr (FR:Addr):Sp:=fun vs H Q _=>∃(m n:Nat) (A:Nat->Nat->Int) (due:Nat->Int) (x lc:Addr) (S:Wg.St),vs=[.ref x]/\gU FR m n H x lc S/\Good m n A due S /\
 ∀(l:Addr) (ws:List Addr) (H':Hp),H l=none->aG H H'->jA n (Wg.wt m (fun k=>S.R k (n+m)) S) S.d H' l ws->Q (.ref l) H'
theorem zL:aQ ["frame","weights","column","row"] ["frame"] (aI IK):=by constructor<;>first|rfl|decide +kernel
theorem JU {f1:Addr}{fd1:qBk} (t:Tx K mg "weights_of" IK ["frame"] f fd) (T:T K mg AL LN FR iF fCh fGM fCC fCA fPL SE NN NG NT NR NS) (D_fraction:Df P w K mg base (g6 P w) 2 "fraction" ["top","bottom"] (sU K NN) f1 fd1):Df P w K mg base bY 3 "weights_of" ["frame"] (Gr FR) f fd:=by
 refine t.gX zL (fun vs H Q E h=>?_) (fun cdv _A outer s H vs Q E hr h=>?_)
 ·obtain⟨m,n,A,due,x,lc,S,rfl,_⟩:=h;rfl
 ·obtain⟨m,n,A,due,x,lc,S,rfl,⟨dx,lr,ras,hx,rs,hlc⟩,gd,k⟩:=h;have m8:=gd.ins.m8;have oW:=gd.ins.oW;have d0:=Wg.Fr.pos gd.ok;obtain⟨sd,sR⟩:=gd.ins.size gd.ok;refine⟨_,(aD (aP (i:=1) zL.nd rfl bR (aR fQ (bU (aA (cI (aA aE (aA aE aB))) aB)) (bT (pv 0) rfl)))
   (aD (c9 PassesOwn.never rfl (gE (by rfl) T.gK (aA (bT (pv 0) rfl) (aA (bT (pv 0) rfl) aB))) (eL rfl (bF (aN (i:=2) zL.nd rfl bR) (bF (aN (i:=3) zL.nd rfl bR) c8)))
    (aH (cF (aZ hU (pv 2) (bT (pv 0) rfl) (aY _)) (aH (iJ (dR cA D_fraction hr (by decide) (by rfl) (aA (aS a8 (pv 3) (jW g4 aE) (fun _ _=>rfl)) (aA (bT (pv 0) rfl) aB))) (iI (pv 1) (pv 2) set_list))) bH)))
   (aH (aU (pv 1))))),?_⟩
  refine⟨lS,fun t0 ht0=>⟨j6,fun l0 hl0=>?_⟩⟩;have u0:=aG.aF (o:=.tup [.int 0,.int 1]) ht0;have e0:upd H t0 (.tup [.int 0,.int 1]) t0=some (.tup [.int 0,.int 1]):=aC;generalize upd H t0 (.tup [.int 0,.int 1])=H0 at u0 e0 hl0|-;have u1:=aG.aF (o:=.lst [.ref t0]) hl0;have e1:upd H0 l0 (.lst [.ref t0]) l0=some (.lst [.ref t0]):=aC;generalize upd H0 l0 (.lst [.ref t0])=H1 at u1 e1|-;have s1:=u0.trans u1;refine⟨_,rfl,x,FR,dx,_,_,rfl,s1 _ _ hx,T.cK.oc.cl,T.cK.nm,rfl,l0,_,_,rfl,rfl,e1,by omega,by omega,?_,fun l hl=>?_⟩
  ·show 1*((n:Int)).toNat<=qAj;exact qAn (aK (by omega))
  rw[qBi,vC];have u2:=aG.aF (o:=.lst ((qBj n t0).map V.ref)) hl;have e2:upd H1 l (.lst ((qBj n t0).map V.ref)) l=_:=aC;have et0:=u2 _ _ (u1 _ _ e0);generalize upd H1 l (.lst ((qBj n t0).map V.ref))=H2 at u2 e2 et0|-;have s2:=s1.trans u2;have hlc2:=s2 _ _ hlc;have hlr2:=s2 _ _ rs.hr;have hx2:=s2 _ _ hx;have nlc:lc≠l:=fun z=>by rw[<- z,s1 _ _ hlc] at hl;cases hl
  have nlr:lr≠l:=fun z=>by rw[<- z,s1 _ _ rs.hr] at hl;cases hl
  have nx:x≠l:=fun z=>by rw[<- z,s1 _ _ hx] at hl;cases hl
  refine⟨_,rfl,x,FR,dx,_,_,rfl,hx2,T.cK.oc.cl,T.cK.nc,rfl,_,rfl,x,FR,dx,_,_,rfl,hx2,T.cK.oc.cl,T.cK.nr,rfl,lc,lr,rfl,⟨_,aT.of hlc2⟩,⟨_,aT.of hlr2⟩,?_⟩;refine rS (K:=K) (l1:=lc) (l2:=lr) (xs:=tQ m S) (ys:=ras.map V.ref) (fun i σ H3=>∃(ws:List Addr) (o2 o3:Option V),σ=[some (.ref x),some (.ref l),o2,o3]/\SameBut l H2 H3/\jA n (Wg.wt i (fun k=>S.R k (n+m)) S) S.d H3 l ws) ⟨qBj n t0,_,_,rfl,(aG.refl _).but l,e2,qGe ..,fun j w e=>?_⟩ (fun i σ H3 _ ⟨ws,o2,o3,_,sb,_⟩=>⟨aT.of (sb _ _ nlc hlc2),aT.of (sb _ _ nlr hlr2)⟩) (tF rs) (fun i y1 y2 tt σ H3 hy1 hy2 ht ⟨ws,o2,o3,eσ,sb,fl⟩=>?_) (fun σ H3 ⟨ws,o2,o3,eσ,sb,fl⟩=>?_)
  ·obtain⟨_,rfl⟩:=List.mem_replicate.mp (qBe e);show _=some (fL 0 S.d);rw[oY d0];exact et0
  ·subst eσ;obtain⟨hi,rfl⟩:=dN hy1;obtain⟨r,er,rfl⟩:=cW hy2;have u4:=aG.aF (o:=.tup [.int ((S.ch i:Nat):Int),.ref r]) ht;have e4:upd H3 tt (.tup [.int ((S.ch i:Nat):Int),.ref r]) tt=_:=aC;generalize upd H3 tt (.tup [.int ((S.ch i:Nat):Int),.ref r])=H4 at u4 e4|-;have sb4:=sb.then u4;have fl4:=fl.same u4;refine⟨tt,_,rfl,cQ.of e4,rfl,_,_,rfl,_,_,rfl,rfl,?_⟩;refine⟨_,rfl,_,rfl,x,FR,dx,_,_,rfl,sb4 _ _ nx hx2,T.cK.oc.cl,T.cK.nm,rfl,_,_,rfl,rfl,_,rfl,cP (fun z=>?_) (fun z=>?_)⟩
   ·have hc:S.ch i<n:=by have:((S.ch i:Nat):Int)<((n:Nat):Int):=of_decide_eq_true z;omega
    have hrow:=s2 _ _ (rs.at_ i r er);have nrl:r≠l:=a9 (s1 _ _ (rs.at_ i r er)) hl;refine⟨_,rfl,_,rfl,r,_,_,_,rfl,rfl,aT.of (sb4 _ _ nrl hrow),lC (n+m) _,_,rfl,x,FR,dx,_,_,rfl,sb4 _ _ nx hx2,T.cK.oc.cl,T.cK.nb,rfl,?_⟩;dsimp only[iK,qCl,qCm];refine oZ (by omega) (sd.mono (by decide)) fun p hp=>?_;have npl:p≠l:=fun z=>by rw[z,fl4.hr] at hp;cases hp
    refine⟨_,rfl,_,rfl,l,_,_,S.ch i,rfl,rfl,(aM (fun z=>npl z.symm)).trans fl4.hr,by rw[qAb,fl4.len];exact iN hc,?_⟩;refine⟨ws.set (S.ch i) p,_,_,rfl,(sb4.then (.aF hp)).nG _,(fl4.put rfl hp).ext fun j hj=>?_⟩;rw[nV gd.ok hi]
   ·have hc:¬S.ch i<n:=fun y=>z (decide_eq_true (by show((S.ch i:Nat):Int)<((n:Nat):Int);omega));refine⟨ws,_,_,rfl,sb4,fl4.ext fun j hj=>?_⟩;rw[nV gd.ok hi,if_neg (by omega)]
  ·subst eσ;rw[show(tQ m S).length=m from aJ _ _] at fl;exact⟨_,rfl,k l ws H3 (s1.free hl) (fun b o e=>sb b o (fun z=>by rw[z] at e;rw[s1 _ _ e] at hl;cases hl) (s2 _ _ e)) fl⟩
def Gs (FR:Addr):Sp:=fun vs H Q _=>∃(m n:Nat) (A:Nat->Nat->Int) (due:Nat->Int) (x lc:Addr) (S:Wg.St) (q:Nat),vs=[.ref x,.int (q:Int)]/\gU FR m n H x lc S/\Good m n A due S/\q<n /\
 ∀(l:Addr) (ws:List Addr) (H':Hp),H l=none->aG H H'->jA n (Wg.way m q S) S.d H' l ws->Q (.ref l) H'
theorem zM:aQ ["frame","growing","way","column","row"] ["frame","growing"] (aI IM):=by constructor<;>first|rfl|decide +kernel
theorem JV {f1:Addr}{fd1:qBk} (t:Tx K mg "way_of" IM ["frame","growing"] f fd) (T:T K mg AL LN FR iF fCh fGM fCC fCA fPL SE NN NG NT NR NS) (D_fraction:Df P w K mg base (g6 P w) 2 "fraction" ["top","bottom"] (sU K NN) f1 fd1):Df P w K mg base bY 3 "way_of" ["frame","growing"] (Gs FR) f fd:=by
 refine t.gX zM (fun vs H Q E h=>?_) (fun cdv _A outer s H vs Q E hr h=>?_)
 ·obtain⟨m,n,A,due,x,lc,S,q,rfl,_⟩:=h;rfl
 ·obtain⟨m,n,A,due,x,lc,S,q,rfl,⟨dx,lr,ras,hx,rs,hlc⟩,gd,hq,k⟩:=h;have m8:=gd.ins.m8;have oW:=gd.ins.oW;have d0:=Wg.Fr.pos gd.ok;obtain⟨sd,sR⟩:=gd.ins.size gd.ok;refine⟨_,(aD (aP (i:=2) zM.nd rfl bR (aR fQ (bU (aA (cI (aA aE (aA aE aB))) aB)) (bT (pv 0) rfl)))
   (aD (c9 PassesOwn.never rfl (gE (by rfl) T.gK (aA (bT (pv 0) rfl) (aA (bT (pv 0) rfl) aB))) (eL rfl (bF (aN (i:=3) zM.nd rfl bR) (bF (aN (i:=4) zM.nd rfl bR) c8)))
    (aH (cF (aZ hU (pv 3) (bT (pv 0) rfl) (aY _)) (aH (iJ (dR cA D_fraction hr (by decide) (by rfl) (aA (jW g4 (aS a8 (pv 4) (pv 1) (fun _ _=>rfl))) (aA (bT (pv 0) rfl) aB))) (iI (pv 2) (pv 3) set_list))) bH)))
   (aD (iJ (cI (aA aE (aA aE aB))) (iI (pv 2) (pv 1) set_list))
   (aH (aU (pv 2)))))),?_⟩
  refine⟨lS,fun t0 ht0=>⟨j6,fun l0 hl0=>?_⟩⟩;have u0:=aG.aF (o:=.tup [.int 0,.int 1]) ht0;have e0:upd H t0 (.tup [.int 0,.int 1]) t0=some (.tup [.int 0,.int 1]):=aC;generalize upd H t0 (.tup [.int 0,.int 1])=H0 at u0 e0 hl0|-;have u1:=aG.aF (o:=.lst [.ref t0]) hl0;have e1:upd H0 l0 (.lst [.ref t0]) l0=some (.lst [.ref t0]):=aC;generalize upd H0 l0 (.lst [.ref t0])=H1 at u1 e1|-;have s1:=u0.trans u1;refine⟨_,rfl,x,FR,dx,_,_,rfl,s1 _ _ hx,T.cK.oc.cl,T.cK.nm,rfl,l0,_,_,rfl,rfl,e1,by omega,by omega,?_,fun l hl=>?_⟩
  ·show 1*((n:Int)).toNat<=qAj;exact qAn (aK (by omega))
  rw[qBi,vC];have u2:=aG.aF (o:=.lst ((qBj n t0).map V.ref)) hl;have e2:upd H1 l (.lst ((qBj n t0).map V.ref)) l=_:=aC;have et0:=u2 _ _ (u1 _ _ e0);generalize upd H1 l (.lst ((qBj n t0).map V.ref))=H2 at u2 e2 et0|-;have s2:=s1.trans u2;have hlc2:=s2 _ _ hlc;have hlr2:=s2 _ _ rs.hr;have hx2:=s2 _ _ hx;have nlc:lc≠l:=fun z=>by rw[<- z,s1 _ _ hlc] at hl;cases hl
  have nlr:lr≠l:=fun z=>by rw[<- z,s1 _ _ rs.hr] at hl;cases hl
  have nx:x≠l:=fun z=>by rw[<- z,s1 _ _ hx] at hl;cases hl
  refine⟨_,rfl,x,FR,dx,_,_,rfl,hx2,T.cK.oc.cl,T.cK.nc,rfl,_,rfl,x,FR,dx,_,_,rfl,hx2,T.cK.oc.cl,T.cK.nr,rfl,lc,lr,rfl,⟨_,aT.of hlc2⟩,⟨_,aT.of hlr2⟩,?_⟩;refine rS (K:=K) (l1:=lc) (l2:=lr) (xs:=tQ m S) (ys:=ras.map V.ref) (fun i σ H3=>∃(ws:List Addr) (o2 o3:Option V),σ=[some (.ref x),some (.int (q:Int)),some (.ref l),o2,o3]/\SameBut l H2 H3/\jA n (Wg.wt i (fun k=>- S.R k q) S) S.d H3 l ws) ⟨qBj n t0,_,_,rfl,(aG.refl _).but l,e2,qGe ..,fun j w e=>?_⟩ (fun i σ H3 _ ⟨ws,o2,o3,_,sb,_⟩=>⟨aT.of (sb _ _ nlc hlc2),aT.of (sb _ _ nlr hlr2)⟩) (tF rs) (fun i y1 y2 tt σ H3 hy1 hy2 ht ⟨ws,o2,o3,eσ,sb,fl⟩=>?_) (fun σ H3 ⟨ws,o2,o3,eσ,sb,fl⟩=>?_)
  ·obtain⟨_,rfl⟩:=List.mem_replicate.mp (qBe e);show _=some (fL 0 S.d);rw[oY d0];exact et0
  ·subst eσ;obtain⟨hi,rfl⟩:=dN hy1;obtain⟨r,er,rfl⟩:=cW hy2;have u4:=aG.aF (o:=.tup [.int ((S.ch i:Nat):Int),.ref r]) ht;have e4:upd H3 tt (.tup [.int ((S.ch i:Nat):Int),.ref r]) tt=_:=aC;generalize upd H3 tt (.tup [.int ((S.ch i:Nat):Int),.ref r])=H4 at u4 e4|-;have sb4:=sb.then u4;have fl4:=fl.same u4;refine⟨tt,_,rfl,cQ.of e4,rfl,_,_,rfl,_,_,rfl,rfl,?_⟩;refine⟨_,rfl,_,rfl,x,FR,dx,_,_,rfl,sb4 _ _ nx hx2,T.cK.oc.cl,T.cK.nm,rfl,_,_,rfl,rfl,_,rfl,cP (fun z=>?_) (fun z=>?_)⟩
   ·have hc:S.ch i<n:=by have:((S.ch i:Nat):Int)<((n:Nat):Int):=of_decide_eq_true z;omega
    have hrow:=s2 _ _ (rs.at_ i r er);have nrl:r≠l:=a9 (s1 _ _ (rs.at_ i r er)) hl;refine⟨_,rfl,_,rfl,r,_,_,_,rfl,rfl,aT.of (sb4 _ _ nrl hrow),bN (by omega),_,rfl,_,rfl,x,FR,dx,_,_,rfl,sb4 _ _ nx hx2,T.cK.oc.cl,T.cK.nb,rfl,?_⟩;dsimp only[iK,qCl,qCm];refine oZ (by omega) (sd.mono (by decide)) fun p hp=>?_;have npl:p≠l:=fun z=>by rw[z,fl4.hr] at hp;cases hp
    refine⟨_,rfl,_,rfl,l,_,_,S.ch i,rfl,rfl,(aM (fun z=>npl z.symm)).trans fl4.hr,by rw[qAb,fl4.len];exact iN hc,?_⟩;refine⟨ws.set (S.ch i) p,_,_,rfl,(sb4.then (.aF hp)).nG _,(fl4.put rfl hp).ext fun j hj=>?_⟩;rw[nV gd.ok hi]
   ·have hc:¬S.ch i<n:=fun y=>z (decide_eq_true (by show((S.ch i:Nat):Int)<((n:Nat):Int);omega));refine⟨ws,_,_,rfl,sb4,fl4.ext fun j hj=>?_⟩;rw[nV gd.ok hi,if_neg (by omega)]
  ·subst eσ;rw[show(tQ m S).length=m from aJ _ _] at fl;refine⟨lS,fun p hp=>?_⟩;have npl:p≠l:=fun z=>by rw[z,fl.hr] at hp;cases hp
   refine⟨_,rfl,_,rfl,l,_,_,q,rfl,rfl,(aM (fun z=>npl z.symm)).trans fl.hr,by rw[qAb,fl.len];exact iN hq,?_⟩;have f5:=fl.put (q:=q) (a:=S.d) (Fe d0).symm hp;refine⟨_,rfl,k l _ _ (s1.free hl) (fun b o e=>?_) (f5.ext fun j hj=>rfl)⟩;have nb:b≠l:=fun z=>by rw[z] at e;rw[s1 _ _ e] at hl;cases hl
   rw[aM nb];exact aG.aF hp _ _ (sb b o nb (s2 _ _ e))
theorem qV {a:Nat}{f:Nat->Int}:∀m,(∀k,k<m->Sm a (f k))->Sm (a+m) (Wg.sm m f)
 | 0,_=>Sm.zero
 | m+1,h=>(qV m fun k hk=>h k (by omega)).add ((h m (by omega)).mono (by omega))
def Gu (FR:Addr):Sp:=fun vs H Q _=>∃(m n:Nat) (A:Nat->Nat->Int) (due:Nat->Int) (c:Nat->Int) (x lc pg pd:Addr) (S:Wg.St),vs=[.ref x,.ref pg,.ref pd]/\gU FR m n H x lc S/\Good m n A due S/\Bk m n c H pg/\H pd=some (.lst (bB m due)) /\
 ∀(l:Addr) (ws:List Addr) (H':Hp),H l=none->aG H H'->jA m (fun i=>Wg.sgn (due i)*Wg.fC m n c S i) S.d H' l ws->Q (.ref l) H'
theorem qW:aQ ["frame","gains","due","prices","place","number","column","price"] ["frame","gains","due"] (aI IL):=by constructor<;>first|rfl|decide +kernel
theorem JW {f1 f2:Addr}{fd1 fd2:qBk} (t:Tx K mg "prices_of" IL ["frame","gains","due"] f fd) (T:T K mg AL LN FR iF fCh fGM fCC fCA fPL SE NN NG NT NR NS) (D_fraction:Df P w K mg base (g6 P w) 2 "fraction" ["top","bottom"] (sU K NN) f1 fd1) (D_sign_of:Df P w K mg base bY 1 "sign_of" ["number"] zH f2 fd2):Df P w K mg base bY 3 "prices_of" ["frame","gains","due"] (Gu FR) f fd:=by
 refine t.gX qW (fun vs H Q E h=>?_) (fun cdv _A outer s H vs Q E hr h=>?_)
 ·obtain⟨m,n,A,due,c,x,lc,pg,pd,S,rfl,_⟩:=h;rfl
 ·obtain⟨m,n,A,due,c,x,lc,pg,pd,S,rfl,fo,gd,gn,hpd,k⟩:=h;have m8:=gd.ins.m8;have oW:=gd.ins.oW;have d0:=Wg.Fr.pos gd.ok;obtain⟨sd,sR⟩:=gd.ins.size gd.ok;obtain⟨dx,lr,ras,hx,rs,hlc⟩:=id fo;refine⟨_,(aD (aP (i:=3) qW.nd rfl bR (bU aB))
   (aD (c9 PassesOwn.never rfl (nQ (by rfl) T.i8 (aA (pv 2) aB)) (eL rfl (bF (aN (i:=4) qW.nd rfl bR) (bF (aN (i:=5) qW.nd rfl bR) c8)))
    (aD (aP (i:=6) qW.nd rfl (by first|exact .inl rfl|exact .inr rfl) (aR fP (bT (pv 0) rfl) (pv 4)))
    (aD (aP (i:=7) qW.nd rfl bR (aL (hZ rfl) (by rfl) T.j4 mC (aA (bP (NB:=["chosen","row","column","gains"]) (pick:=[none,none,some 6,some 1]) (bJ (by with_unfolding_all rfl) (by exact(And.intro rfl (And.intro rfl trivial))) rfl (by decide +kernel) (by decide +kernel) (by rfl) (by rfl)) rfl
     (gE (by rfl) T.gK (aA (bT (pv 0) rfl) (aA (bT (pv 0) rfl) aB))) (fun _ _ _=>(show PG _ _ (n6 K 2 (dU (aX 0) (dU (aX 1) n4))) from eL rfl (bF (aN (i:=0) (show(["chosen","row","column","gains"]:List Str).Nodup from by decide +kernel) rfl bR) (bF (aN (i:=1) (show(["chosen","row","column","gains"]:List Str).Nodup from by decide +kernel) rfl bR) c8))))
     (fun _ _ _=>bK) (fun _ _ _=>(aR bM (aS (bV K) (pv 3) (pv 0) (fun _ _=>rfl)) (aS (bV K) (pv 1) (pv 2) (fun _ _=>rfl))))) aB)))
    (aH (fI (t5 qFp qGy qGx j9 (pv 3) (aA (dR cA D_fraction hr (by decide) (by rfl) (aA (aR bM (aW D_sign_of hr (by decide) (by rfl) (aA (pv 5) aB)) (pv 7)) (aA (bT (pv 0) rfl) aB))) aB)))))))
   (aH (aU (pv 3))))),?_⟩
  refine⟨by show 0<=qAj;decide,fun l hl=>?_⟩;have u1:=aG.aF (o:=.lst []) hl;have e1:upd H l (.lst []) l=some (.lst []):=aC;generalize upd H l (.lst [])=H1 at u1 e1|-;have npd:pd≠l:=a9 hpd hl;have npg:pg≠l:=a9 gn.hg hl;have nx:x≠l:=a9 hx hl;have nlc:lc≠l:=a9 hlc hl;have nlr:lr≠l:=a9 rs.hr hl;refine⟨_,rfl,pd,rfl,⟨_,aT.of (u1 _ _ hpd)⟩,?_⟩;refine uE (xs:=bB m due) (fun i σ H2=>∃(ws:List Addr) (o4 o5 o6 o7:Option V),σ=[some (.ref x),some (.ref pg),some (.ref pd),some (.ref l),o4,o5,o6,o7]/\SameBut l H H2/\jA i (fun i=>Wg.sgn (due i)*Wg.fC m n c S i) S.d H2 l ws) ⟨[],_,_,_,_,rfl,u1.but l,e1,rfl,fun j w e=>by cases e⟩ (fun i σ H2 _ ⟨ws,o4,o5,o6,o7,_,sb,_⟩=>aT.of (sb _ _ npd hpd)) (fun i y tt σ H2 hy ht ⟨ws,o4,o5,o6,o7,eσ,sb,fl⟩=>?_) (fun σ H2 ⟨ws,o4,o5,o6,o7,eσ,sb,fl⟩=>?_)
  ·subst eσ;obtain⟨hi,rfl⟩:=dN hy;have u2:=aG.aF (o:=.tup [.int (i:Int),.int (due i)]) ht;have e2:upd H2 tt (.tup [.int (i:Int),.int (due i)]) tt=_:=aC;generalize upd H2 tt (.tup [.int (i:Int),.int (due i)])=H3 at u2 e2|-;have sb3:=sb.then u2;have fl3:=fl.same u2;have hx3:=sb3 _ _ nx hx;refine⟨tt,_,rfl,cQ.of e2,rfl,_,_,rfl,_,_,rfl,rfl,?_⟩;refine⟨_,rfl,x,FR,dx,_,_,rfl,hx3,T.cK.oc.cl,T.cK.nm,rfl,_,rfl,_,_,rfl,rfl,?_⟩;refine⟨_,rfl,x,FR,dx,_,_,rfl,hx3,T.cK.oc.cl,T.cK.nc,rfl,_,rfl,x,FR,dx,_,_,rfl,hx3,T.cK.oc.cl,T.cK.nr,rfl,lc,lr,rfl,⟨_,aT.of (sb3 _ _ nlc hlc)⟩,⟨_,aT.of (sb3 _ _ nlr rs.hr)⟩,?_⟩;refine jG (xs:=tQ m S) (ys:=ras.map V.ref) (fun σ'=>∃o0 o1:Option V,σ'=[o0,o1,some (.int ((n:Int)+(i:Int))),some (.ref pg)]) (fun k' _ _=>some (.int (c (S.ch k')*S.R k' (n+i)))) ⟨_,_,rfl⟩ (aT.of (sb3 _ _ nlc hlc)) (aT.of (sb3 _ _ nlr rs.hr)) (tF rs) (by unfold tQ;rw[aJ];exact qAn (aK (by omega))) (fun k' x' y' tt2 σ1 H4 kk kk0 hσ s4 hx' hy' ht2 h1 h2=>?_) fun D H4 hD s4 hd=>?_
   ·obtain⟨o0,o1,rfl⟩:=hσ;obtain⟨hk',rfl⟩:=dN hx';obtain⟨r,er,rfl⟩:=cW hy';have hch:=gd.ch k' hk';have nrl:r≠l:=a9 (rs.at_ k' r er) hl;refine⟨tt2,_,rfl,cQ.of ht2,rfl,_,_,rfl,_,_,rfl,rfl,?_⟩;refine⟨_,rfl,_,rfl,pg,_,_,_,rfl,rfl,aT.of (s4 _ _ (sb3 _ _ npg gn.hg)),bN hch,_,rfl,_,rfl,r,_,_,_,rfl,rfl,aT.of (s4 _ _ (sb3 _ _ nrl (rs.at_ k' r er))),(show gC (tE m n S k') ((n:Int)+(i:Int))=some (.int (S.R k' (n+i))) by rw[<- qOi];exact bN (by omega)),_,_,rfl,rfl,(gn.sz _).mb (sR k' hk' _),h1 _ _ ⟨_,_,rfl⟩ rfl _ (.refl _)⟩
   ·have hd':H4 D=some (.lst (((qAl m).map fun k'=>c (S.ch k')*S.R k' (n+i)).map V.int)):=by
     have e:(tQ m S).length=m:=aJ _ _;rw[hd,e,sV _ e (by rw[qAb,rs.len]),qDb];rfl
    refine⟨D,_,rfl,.inl (aT.of hd'),?_⟩;rw[qT];have sp:Sm 200000 (Wg.fC m n c S i):=(qV (a:=106000) m fun k' hk'=>((gn.sz _).mul (sR k' hk' _)).mono (by decide)).mono (by omega);have fl4:=fl3.same s4;have sb4:=sb3.then s4;refine⟨_,rfl,.inl ⟨rfl,_,aT.of fl4.hr⟩,?_⟩;refine⟨_,rfl,_,rfl,_,rfl,_,_,rfl,rfl,(tD _).mb sp,_,rfl,x,FR,dx,_,_,rfl,sb4 _ _ nx hx,T.cK.oc.cl,T.cK.nb,rfl,?_⟩;dsimp only[iK,qCl,qCm];refine oZ (by omega) (sd.mono (by decide)) fun p hp=>?_;have npl:p≠l:=fun z=>by rw[z,fl4.hr] at hp;cases hp
    refine⟨l,_,_,rfl,rfl,(aM (fun z=>npl z.symm)).trans fl4.hr,by rw[qAb,fl4.len];exact aK (by omega),?_⟩;refine⟨ws++[p],_,_,_,_,rfl,(sb4.then (.aF hp)).nG _,by rw[aC,qAt];rfl,by rw[qAo,fl4.len];rfl,fun j w e=>?_⟩;rcases qAk j ws.length with z1 | z1
    ·rw[qBb z1] at e;have z:=fl4.at_ j w e;rw[aM (jU z fl4.hr (by intro z;cases z)),aM (a9 z hp)];exact z
    ·rw[qAy z1] at e;obtain⟨rfl,rfl⟩:j=i/\p=w:=by
      rcases qEm (j-ws.length) with q | q
      ·rw[q] at e;exact⟨by rw[fl4.len] at z1 q;omega,Option.some.inj e⟩
      ·rw[qBn (by show 1<=_;omega)] at e;cases e
     rw[aM npl,aC];rfl
  ·subst eσ;rw[aJ] at fl;exact⟨_,rfl,k l ws H2 hl (fun b o e=>sb b o (a9 e hl) e) fl⟩
def jB (lo hi:Nat) (xs:List V):Bool:=decide (lo<=xs.length)&&decide (xs.length<=hi)&&xs.all jQ
def CU (K:qAc):Sp:=fun vs H Q _=>∃(p:Addr) (xs:List V) (lo hi:Nat),vs=[.ref p,.int (lo:Int),.int (hi:Int)]/\H p=some (.lst xs)/\(∀v∈xs,Pl K H v)/\xs.length<=1000/\∀H',aG H H'->Q (.bl (jB lo hi xs)) H'
theorem JX:aQ ["thing","least","most"] ["thing","least","most"] (aI CF):=by constructor<;>first|rfl|decide +kernel
theorem Ff {f1:Addr}{fd1:qBk} (t:Tx K mg "are_numbers" CF ["thing","least","most"] f fd) (T:T K mg AL LN FR iF fCh fGM fCC fCA fPL SE NN NG NT NR NS) (D_is_number:Df P w K mg base bY 1 "is_number" ["thing"] (m9 K) f1 fd1) :
  Df P w K mg base bY 2 "are_numbers" ["thing","least","most"] (CU K) f fd:=by
 refine t.gX JX (fun vs H Q E h=>?_) (fun cdv _A outer s H vs Q E hr h=>?_)
 ·obtain⟨p,xs,lo,hi,rfl,_⟩:=h;rfl
 ·obtain⟨p,xs,lo,hi,rfl,hp,pl,hlen,k⟩:=h;refine⟨_,(aD (cF (PW.pt (pw_or (cL (cE (aL cZ (by rfl) T.fK fG (aA (pv 0) (aA (dO (v:=.ty "list") (by rfl) T.cN cX rfl) aB))))) (pw_or1 (cL (Bu yE yE (pv 1) (aL aO (by rfl) T.bZ bQ (aA (pv 0) aB)) (pv 2)))))) (aH (aU iS)) bH)
   (aH (aU (aL (kT rfl) (by rfl) T.mZ rV (aA (bP (NB:=["number"]) (pick:=[none]) (bJ (by with_unfolding_all rfl) (by exact trivial) rfl (by decide +kernel) (by decide +kernel) (by rfl) (by rfl)) rfl
     (bO (pv 0)) (fun _ _ _=>aN (i:=0) (show(["number"]:List Str).Nodup from by decide +kernel) rfl bR)
     (fun _ _ _=>bK) (fun _ _ _=>(aW D_is_number hr (by decide) (by rfl) (aA (pv 0) aB)))) aB))))),?_⟩
  refine⟨_,rfl,.ref p,.ty "list",_,_,_,rfl,rfl,.of (.lst hp),Kd.lst.p8 K,_,rfl,dJ ?_⟩;have out:jB lo hi xs=false->∀H',aG H H'->Q (.bl false) H':=fun e H' s'=>by
   have z:=k H' s';rw[e] at z;exact z
  refine⟨_,rfl,_,rfl,p,_,rfl,.inl (aT.of hp),_,_,rfl,rfl,_,rfl,?_⟩;refine cP (fun z1=>?_) (fun z1=>?_)
  ·have h1:lo<=xs.length:=by have:((lo:Nat):Int)<=((xs.length:Nat):Int):=of_decide_eq_true z1;omega
   refine⟨_,rfl,_,_,rfl,rfl,_,rfl,?_⟩;cases e2:decide (((xs.length:Nat):Int)<=((hi:Nat):Int)) with
   | false =>
    refine eV (out ?_ H (.refl _));have:¬xs.length<=hi:=fun y=>(of_decide_eq_false e2) (by omega);unfold jB;rw[decide_eq_false this,qIp,qFh]
   | true =>
    have h2:xs.length<=hi:=by have:=of_decide_eq_true e2;omega
    refine dJ ⟨_,rfl,p,rfl,⟨xs,aT.of hp⟩,?_⟩;refine cM (xs:=xs) (fun _ x=>some (.bl (jQ x))) (aT.of hp) (qAn (aK hlen)) (fun i x H2 kk kk0 s2 hx h1 h2=>?_) fun D H2 hD s2 hd=>?_
    ·exact⟨_,rfl,x,rfl,(pl x (qBe hx)).same s2,h1 _ rfl _ (.refl _)⟩
    ·have ed:((qAl xs.length).filterMap fun i=>(xs[i]?).bind fun x=>some (V.bl (jQ x)))=(xs.map jQ).map V.bl:=by
      rw[qDb,<- rT];rfl
     rw[ed] at hd;refine⟨D,_,rfl,aT.of hd,?_⟩;have ea:(xs.map jQ).all id=jB lo hi xs:=by
      unfold jB;rw[qPd,decide_eq_true h1,decide_eq_true h2];rfl
     rw[ea];exact k H2 s2
  ·refine⟨_,rfl,eV (out ?_ H (.refl _))⟩;have:¬lo<=xs.length:=fun y=>z1 (decide_eq_true (by show((lo:Nat):Int)<=((xs.length:Nat):Int);omega));unfold jB;rw[decide_eq_false this,qFh,qFh]
structure Bb (K:qAc) (H:Hp) (pc pd pg:Addr) (cs:List Addr) (col:Nat->List V) (ds gs:List V):Prop where
 hc:H pc=some (.lst (cs.map V.ref))
 lc:cs.length<=1000
 at_:∀j c,cs[j]?=some c->H c=some (.lst (col j))/\(∀v∈col j,Pl K H v)/\(col j).length<=1000
 hd:H pd=some (.lst ds)
 Pd:∀v∈ds,Pl K H v
 ld:ds.length<=1000
 hg:H pg=some (.lst gs)
 Pe:∀v∈gs,Pl K H v
 lg:gs.length<=1000
theorem Bb.same {H H':Hp}{pc pd pg:Addr}{cs:List Addr}{col:Nat->List V}{ds gs:List V} (h:Bb K H pc pd pg cs col ds gs) (s:aG H H'):Bb K H' pc pd pg cs col ds gs :=
 ⟨s _ _ h.hc,h.lc,fun j c e=>⟨s _ _ (h.at_ j c e).1,fun v hv=>((h.at_ j c e).2.1 v hv).same s,(h.at_ j c e).2.2⟩,s _ _ h.hd,fun v hv=>(h.Pd v hv).same s,h.ld,s _ _ h.hg,fun v hv=>(h.Pe v hv).same s,h.lg⟩
def jC (n:Nat) (col:Nat->List V) (ds gs:List V):Bool:=jB 1 8 ds&&(decide (n<=70)&&(((qAl n).map fun j=>jB ds.length ds.length (col j)).all id&&jB n n gs))
def Gv (K:qAc) (NR:Addr):Sp:=fun vs H Q E=>∃(pc pd pg:Addr) (cs:List Addr) (col:Nat->List V) (ds gs:List V),vs=[.ref pc,.ref pd,.ref pg]/\Bb K H pc pd pg cs col ds gs/\(jC cs.length col ds gs=false->∀H',aG H H'->E (.ref NR) none H')/\(jC cs.length col ds gs=true->∀H',aG H H'->Q .non H')
theorem MP:aQ ["columns","due","gains"] ["columns","due","gains"] (aI ID):=by constructor<;>first|rfl|decide +kernel
theorem JY {f1:Addr}{fd1:qBk} (t:Tx K mg "check_rows" ID ["columns","due","gains"] f fd) (T:T K mg AL LN FR iF fCh fGM fCC fCA fPL SE NN NG NT NR NS) (D_are_numbers:Df P w K mg base bY 2 "are_numbers" ["thing","least","most"] (CU K) f1 fd1) :
  Df P w K mg base (g6 P w) 3 "check_rows" ["columns","due","gains"] (Gv K NR) f fd:=by
 refine t.Ec MP (fun vs H Q E h=>?_) (fun cdv _A outer s H vs Q E hr h=>?_)
 ·obtain⟨pc,pd,pg,cs,col,ds,gs,rfl,_⟩:=h;rfl
 ·obtain⟨pc,pd,pg,cs,col,ds,gs,rfl,rw0,k0,k⟩:=h;obtain⟨tkMP,hMP⟩:=T.mp;obtain⟨tkMC,hMC⟩:=T.mc;refine⟨_,(aD (cF (cL (cE (aW D_are_numbers hr (by decide) (by rfl) (aA (pv 1) (aA aE (aA (fH (v:=.int 8) (by rfl) hMP ⟨tkMP,rfl⟩) aB)))))) (aH (eX cG rfl (by rfl) T.Gd T.Ge (aA eJ aB))) bH)
   (aD (cF (PW.pt (pw_or (cL (cE (aL cZ (by rfl) T.fK fG (aA (pv 0) (aA (dO (v:=.ty "list") (by rfl) T.cN cX rfl) aB))))) (pw_or1 (aZ tY (aL aO (by rfl) T.bZ bQ (aA (pv 0) aB)) (fH (v:=.int 70) (by rfl) hMC ⟨tkMC,rfl⟩) (aY _))))) (aH (eX cG rfl (by rfl) T.Gd T.Ge (aA eJ aB))) bH)
   (aD (cF (cL (cE (aL (kT rfl) (by rfl) T.mZ rV (aA (bP (NB:=["column","due"]) (pick:=[none,some 1]) (bJ (by with_unfolding_all rfl) (by exact(And.intro rfl trivial)) rfl (by decide +kernel) (by decide +kernel) (by rfl) (by rfl)) rfl
     (bO (pv 0)) (fun _ _ _=>aN (i:=0) (show(["column","due"]:List Str).Nodup from by decide +kernel) rfl bR)
     (fun _ _ _=>bK) (fun _ _ _=>(aW D_are_numbers hr (by decide) (by rfl) (aA (pv 0) (aA (aL (p7 K) (by rfl) T.bZ bQ (aA (pv 1) aB)) (aA (aL (p7 K) (by rfl) T.bZ bQ (aA (pv 1) aB)) aB)))))) aB)))) (aH (eX cG rfl (by rfl) T.Gd T.Ge (aA eJ aB))) bH)
   (aH (cF (cL (cE (aW D_are_numbers hr (by decide) (by rfl) (aA (pv 2) (aA (aL aO (by rfl) T.bZ bQ (aA (pv 0) aB)) (aA (aL aO (by rfl) T.bZ bQ (aA (pv 0) aB)) aB)))))) (aH (eX cG rfl (by rfl) T.Gd T.Ge (aA eJ aB))) bH))))),?_⟩
  refine⟨_,rfl,pd,ds,1,8,rfl,rw0.hd,rw0.Pd,rw0.ld,fun H1 s1=>⟨_,rfl,?_⟩⟩;cases e1:jB 1 8 ds with
  | false=>exact eV ⟨j6,k0 (by unfold jC;rw[e1];rfl) H1 s1⟩
  | true =>
   have rw1:=rw0.same s1;refine dJ ⟨_,rfl,.ref pc,.ty "list",_,_,_,rfl,rfl,.of (.lst rw1.hc),Kd.lst.p8 K,_,rfl,dJ ?_⟩;refine⟨_,rfl,pc,_,rfl,.inl (aT.of rw1.hc),_,_,rfl,rfl,_,rfl,?_⟩;rw[qAb];have ec:decide (((cs.length:Nat):Int)>70) = !decide (cs.length<=70):=by
    by_cases z:cs.length<=70
    ·rw[decide_eq_true z,decide_eq_false (by omega)];rfl
    ·rw[decide_eq_false z,decide_eq_true (by omega)];rfl
   show if decide (((cs.length:Nat):Int)>70)=true then _ else _;rw[ec];cases e2:decide (cs.length<=70) with
   | false=>exact eV ⟨j6,k0 (by unfold jC;rw[e1,e2];rfl) H1 s1⟩
   | true =>
    refine dJ ⟨_,rfl,pc,rfl,⟨_,aT.of rw1.hc⟩,?_⟩;refine cM (xs:=cs.map V.ref) (fun j _=>some (.bl (jB ds.length ds.length (col j)))) (aT.of rw1.hc) (by rw[qAb];exact qAn (aK rw0.lc)) (fun j y H2 kk kk0 s2 hy h1 h2=>?_) fun D H2 hD s2 hd=>?_
    ·obtain⟨c,hc,rfl⟩:=cW hy;have rw2:=rw1.same s2;obtain⟨a1,a2,a3⟩:=rw2.at_ j c hc;exact⟨_,rfl,_,rfl,pd,_,rfl,.inl (aT.of rw2.hd),_,rfl,pd,_,rfl,.inl (aT.of rw2.hd),c,col j,ds.length,ds.length,rfl,a1,a2,a3,fun H3 s3=>h1 _ rfl _ s3⟩
    ·have hd':H2 D=some (.lst (((qAl cs.length).map fun j=>jB ds.length ds.length (col j)).map V.bl)):=by
      rw[hd,qAb,lF _ (qAb ..),qDb];rfl
     refine⟨D,_,rfl,aT.of hd',_,rfl,?_⟩;cases e3:((qAl cs.length).map fun j=>jB ds.length ds.length (col j)).all id with
     | false=>exact eV ⟨j6,k0 (by unfold jC;rw[e1,e2,e3];rfl) H2 (s1.trans s2)⟩
     | true =>
      have rw2:=rw1.same s2;refine dJ ⟨_,rfl,_,rfl,pc,_,rfl,.inl (aT.of rw2.hc),_,rfl,pc,_,rfl,.inl (aT.of rw2.hc),pg,gs,cs.length,cs.length,by rw[qAb];rfl,rw2.hg,rw2.Pe,rw2.lg,fun H3 s3=>⟨_,rfl,?_⟩⟩;cases e4:jB cs.length cs.length gs with
      | false=>exact eV ⟨j6,k0 (by unfold jC;rw[e1,e2,e3,e4];rfl) H3 (s1.trans (s2.trans s3))⟩
      | true=>exact dJ (k (by unfold jC;rw[e1,e2,e3,e4];rfl) H3 (s1.trans (s2.trans s3)))
theorem tG {H:Hp}{q x dx:Addr}{o u v:HO} (hq:H q=some o) (hx:H x=none) (hd:H dx=none):upd (upd H dx u) x v q=some o:=by
 rw[aM (a9 hq hx),aM (a9 hq hd)];exact hq
structure MQ (m n:Nat) (A:Nat->Nat->Int) (due g:Nat->Int) (H H':Hp) (r lw lp:Addr) (ws ps:List Addr) (d:Int) (X Y:Nat->Int):Prop where
 tup:H' r=some (.tup [.str "best",.ref lw,.ref lp])
 d0:0<d
 ds:Sm 6000 d
 dm:oX m A due d
 ym:xQ m A due g Y
 fw:jA n X d H' lw ws
 fp:jA m Y d H' lp ps
 nw:H lw=none
 np:H lp=none
 sX:∀j,Sm 300000 (X j)
 sY:∀j,Sm 300000 (Y j)
 x0:∀j,0<=X j
 meets:∀i,i<m->(Wg.sm n fun j=>A j i*X j)=due i*d
 cols:∀j,j<n->g j*d<=Wg.sm m fun i=>A j i*Y i
 same:(Wg.sm m fun i=>due i*Y i)=Wg.sm n fun j=>g j*X j
structure MR (m n:Nat) (A:Nat->Nat->Int) (due:Nat->Int) (H H':Hp) (r lp:Addr) (ps:List Addr) (d:Int) (Y:Nat->Int):Prop where
 tup:H' r=some (.tup [.str "none",.ref lp])
 d0:0<d
 ds:Sm 6000 d
 fp:jA m Y d H' lp ps
 np:H lp=none
 sY:∀j,Sm 300000 (Y j)
 cols:∀j,j<n->0<=Wg.sm m fun i=>A j i*Y i
 neg:(Wg.sm m fun i=>due i*Y i)<0
structure OI (m n:Nat) (A:Nat->Nat->Int) (due g:Nat->Int) (H H':Hp) (r lw lv:Addr) (ws vs:List Addr) (d:Int) (X Z:Nat->Int):Prop where
 tup:H' r=some (.tup [.str "endless",.ref lw,.ref lv])
 d0:0<d
 ds:Sm 6000 d
 fw:jA n X d H' lw ws
 fv:jA n Z d H' lv vs
 nw:H lw=none
 nv:H lv=none
 sX:∀j,Sm 300000 (X j)
 sZ:∀j,Sm 300000 (Z j)
 x0:∀j,0<=X j
 meets:∀i,i<m->(Wg.sm n fun j=>A j i*X j)=due i*d
 z0:∀j,0<=Z j
 away:∀i,i<m->(Wg.sm n fun j=>A j i*Z j)=0
 more:0<Wg.sm n fun j=>g j*Z j
def Told (m n:Nat) (A:Nat->Nat->Int) (due g:Nat->Int) (H H':Hp) (r:Addr):Prop :=
 (∃lw lp ws ps d X Y,MQ m n A due g H H' r lw lp ws ps d X Y)\/(∃lp ps d Y,MR m n A due H H' r lp ps d Y)\/(∃lw lv ws vs d X Z,OI m n A due g H H' r lw lv ws vs d X Z)
def qX (K:qAc) (NR:Addr):Sp:=fun vs H Q E=>∃(pc pd pg:Addr) (cs:List Addr) (col:Nat->List V) (ds gs:List V),vs=[.ref pc,.ref pd,.ref pg]/\Bb K H pc pd pg cs col ds gs/\(jC cs.length col ds gs=false->∀H',aG H H'->E (.ref NR) none H') /\
 (jC cs.length col ds gs=true->∃(m n:Nat) (A:Nat->Nat->Int) (due g:Nat->Int),Inst m n A due/\cs.length=n/\(∀j,j<n->col j=bB m (A j))/\ds=bB m due/\gs=bB n g/\(∀j,Sm 90000 (g j))/\∀(r:Addr) (H':Hp),aG H H'->Told m n A due g H H' r->Q (.ref r) H')
theorem Clean.run {m n:Nat}{M:Nat->Nat->Int}{c:Nat->Int}{S S':Wg.St} (h:∃T st p q,Wg.Run m n (n+m) M c T st p q/\st 0=S/\st T=S') (cl:Wg.Clean m n S):Wg.Clean m n S':=by
 obtain⟨TT,st,p,q,r,rfl,rfl⟩:=h;exact r.keeps (P:=Wg.Clean m n) cl fun S p q ok _ g cl=>Wg.xK ok g.pm g.qn (by have:=g.pos;omega) cl
theorem vD {m n:Nat}{M:Nat->Nat->Int}{c:Nat->Int}{S S':Wg.St} (h:∃T st p q,Wg.Run m n (n+m) M c T st p q/\st 0=S/\st T=S'):∀k,k<m->0<=S'.R k (n+m):=by
 obtain⟨TT,st,p,q,r,rfl,rfl⟩:=h;exact(r.qJ TT (qAg _)).2
theorem vE:aQ ["columns","due","gains","frame","leaving","all_gains","growing"] ["columns","due","gains"] (aI IP):=by constructor<;>first|rfl|decide +kernel
theorem CV {m n:Nat}{A:Nat->Nat->Int}{due:Nat->Int}{S:Wg.St} (gd:Good m n A due S) (f:Nat->Int) (h:∀k,k<m->Sm 6000 (f k)) (j:Nat):Sm 300000 (Wg.wt m f S j):=by
 unfold Wg.wt;refine(qV (a:=6000) m fun k hk=>?_).mono (by have:=gd.ins.m8;omega);split
 ·exact h k hk
 ·exact Sm.zero
theorem vF {m n:Nat}{A:Nat->Nat->Int}{due c:Nat->Int}{S:Wg.St} (gd:Good m n A due S) (h:∀j,Sm 100000 (c j)) (i:Nat):Sm 300000 (Wg.sgn (due i)*Wg.fC m n c S i):=by
 obtain⟨sd,sR⟩:=gd.ins.size gd.ok;have m8:=gd.ins.m8;have z:Sm 300000 (Wg.fC m n c S i):=(qV (a:=106000) m fun k hk=>((h _).mul (sR k hk _)).mono (by decide)).mono (by omega);exact z.le (by rw[fX];exact qAg _)
theorem JZ {f1 f2 f3 f4 f5 f6 f7:Addr}{fd1 fd2 fd3 fd4 fd5 fd6 fd7:qBk} (t:Tx K mg "weigh" IP ["columns","due","gains"] f fd) (T:T K mg AL LN FR iF fCh fGM fCC fCA fPL SE NN NG NT NR NS) (D_check_rows:Df P w K mg base (g6 P w) 3 "check_rows" ["columns","due","gains"] (Gv K NR) f1 fd1) (D_FI:Md P w K mg base 3 ["self","columns","due"] (MK FR) iF)
  (D_climb:Df P w K mg base bY 3 "climb" ["frame","gains"] (Gp FR) f2 fd2) (D_spare_places:Df P w K mg base bY 1 "spare_places" ["frame"] (CS FR) f3 fd3) (D_leave_spares:Df P w K mg base bY 3 "leave_spares" ["frame"] (Gq FR) f4 fd4) (D_weights_of:Df P w K mg base bY 3 "weights_of" ["frame"] (Gr FR) f5 fd5)
  (D_prices_of:Df P w K mg base bY 3 "prices_of" ["frame","gains","due"] (Gu FR) f6 fd6) (D_way_of:Df P w K mg base bY 3 "way_of" ["frame","growing"] (Gs FR) f7 fd7) :
  Df P w K mg base (g6 P w) 5 "weigh" ["columns","due","gains"] (qX K NR) f fd:=by
 refine t.Ec vE (fun vs H Q E h=>?_) (fun cdv _A outer s H vs Q E hr h=>?_)
 ·obtain⟨pc,pd,pg,cs,col,ds,gs,rfl,_⟩:=h;rfl
 ·obtain⟨pc,pd,pg,cs,col,ds,gs,rfl,rw0,k0,k⟩:=h;refine⟨_,(aD (fI (dR cG.toPass D_check_rows hr (by decide) (by rfl) (aA (pv 0) (aA (pv 1) (aA (pv 2) aB)))))
   (aD (aP (i:=3) vE.nd rfl (by first|exact .inl rfl|exact .inr rfl) (BQ cG.toPass T.PJ D_FI hr (by decide) (by rfl) T.Mz (aA (pv 0) (aA (pv 1) aB))))
   (aD (aP (i:=4) vE.nd rfl bR (aR fV (aR fQ (bU (aA aE aB)) (aL aO (by rfl) T.bZ bQ (aA (pv 0) aB))) (aR fQ (bU (aA (jW g4 aE) aB)) (aL aO (by rfl) T.bZ bQ (aA (pv 1) aB)))))
   (aD (fI (aW D_climb hr (by decide) (by rfl) (aA (pv 3) (aA (pv 4) aB))))
   (aD (cF (cE (aL (BR rfl) (by rfl) T.uZ HX (aA (bP (NB:=["place","frame"]) (pick:=[none,some 3]) (bJ (by with_unfolding_all rfl) (by exact(And.intro rfl trivial)) rfl (by decide +kernel) (by decide +kernel) (by rfl) (by rfl)) rfl
     (bO (aW D_spare_places hr (by decide) (by rfl) (aA (pv 3) aB))) (fun _ _ _=>aN (i:=0) (show(["place","frame"]:List Str).Nodup from by decide +kernel) rfl bR)
     (fun _ _ _=>bK) (fun _ _ _=>(dA iZ (aS (bV K) (aS (bV K) (kZ K (pv 1) rfl) (pv 0) (fun _ _=>rfl)) (jW g4 aE) (fun _ _=>rfl)) aE (aY _)))) aB))) (aH (aU (cI (aA eJ (aA (aW D_prices_of hr (by decide) (by rfl) (aA (pv 3) (aA (pv 4) (aA (pv 1) aB)))) aB))))) bH)
   (aD (fI (aW D_leave_spares hr (by decide) (by rfl) (aA (pv 3) aB)))
   (aD (aP (i:=5) vE.nd rfl bR (aR fV (pv 2) (aR fQ (bU (aA aE aB)) (aL aO (by rfl) T.bZ bQ (aA (pv 1) aB)))))
   (aD (aP (i:=6) vE.nd rfl bR (aW D_climb hr (by decide) (by rfl) (aA (pv 3) (aA (pv 5) aB))))
   (aD (cF (aZ wC (pv 6) j8 (aY _)) (aH (aU (cI (aA eJ (aA (aW D_weights_of hr (by decide) (by rfl) (aA (pv 3) aB)) (aA (aW D_prices_of hr (by decide) (by rfl) (aA (pv 3) (aA (pv 5) (aA (pv 1) aB)))) aB)))))) bH)
   (aH (aU (cI (aA eJ (aA (aW D_weights_of hr (by decide) (by rfl) (aA (pv 3) aB)) (aA (aW D_way_of hr (by decide) (by rfl) (aA (pv 3) (aA (pv 6) aB))) aB))))))))))))))),?_⟩
  refine⟨_,rfl,_,rfl,_,rfl,pc,pd,pg,cs,col,ds,gs,rfl,rw0,k0,fun yes H1 s1=>?_⟩;obtain⟨m,n,A,due,g,ins,hn,hcol,rfl,rfl,sg,k⟩:=k yes;have m8:=ins.m8;have oW:=ins.oW;have co:sW m n A due H pc pd cs:=⟨rw0.hc,hn,fun j c e=>by
   have hj:j<n:=by rw[<- hn];exact(List.getElem?_eq_some_iff.mp e).1
   rw[<- hcol j hj];exact(rw0.at_ j c e).1,rw0.hd⟩
  have co1:=co.same s1;have hg1:=s1 _ _ rw0.hg;refine⟨_,rfl,_,rfl,fun x dx hx hdx ne=>?_⟩;refine⟨m,n,A,due,x,dx,pc,pd,cs,rfl,aC,ins,⟨tG co1.hc hx hdx,hn,fun j c e=>tG (co1.at_ j c e) hx hdx,tG co1.hd hx hdx⟩,fun lc H2 sb2 hlc0 fo2=>?_⟩;have s2:aG H1 H2:=sb2.made hx hdx ne;have hlc1:H1 lc=none:=by
   have nl:lc≠x:=fun z=>by rw[z,aC] at hlc0;cases hlc0
   have nd:lc≠dx:=fun z=>by rw[z,aM ne,aC] at hlc0;cases hlc0
   rw[aM nl,aM nd] at hlc0;exact hlc0
  have co2:=co1.same s2;have gd0:=Good.start ins;refine⟨rfl,j6,fun a1 ha1=>?_⟩;have u3:=aG.aF (o:=.lst [.int 0]) ha1;have e3:upd H2 a1 (.lst [.int 0]) a1=some (.lst [.int 0]):=aC;generalize upd H2 a1 (.lst [.int 0])=H3 at u3 e3|-;refine⟨_,rfl,pc,_,rfl,.inl (aT.of (u3 _ _ co2.hc)),a1,_,_,rfl,rfl,e3,by rw[qAb];omega,by rw[qAb];omega,?_,fun a2 ha2=>?_⟩
  ·rw[qAb,hn];show 1*((n:Int)).toNat<=qAj;exact qAn (aK (by omega))
  rw[qAb,hn,qBi,fB];have u4:=aG.aF (o:=.lst (bB n fun _=>0)) ha2;have e4:upd H3 a2 (.lst (bB n fun _=>0)) a2=_:=aC;generalize upd H3 a2 (.lst (bB n fun _=>0))=H4 at u4 e4|-;refine⟨_,rfl,j6,fun a3 ha3=>?_⟩;have u5:=aG.aF (o:=.lst [.int (-1)]) ha3;have e5:upd H4 a3 (.lst [.int (-1)]) a3=some (.lst [.int (-1)]):=aC;generalize upd H4 a3 (.lst [.int (-1)])=H5 at u5 e5|-;have s5:=s2.trans (u3.trans (u4.trans u5));refine⟨_,rfl,pd,_,rfl,.inl (aT.of (s5 _ _ co1.hd)),a3,_,_,rfl,rfl,e5,by rw[aJ];omega,by rw[aJ];omega,?_,fun a4 ha4=>?_⟩
  ·rw[aJ];show 1*((m:Int)).toNat<=qAj;exact qAn (aK (by omega))
  rw[aJ,qBi,fB];have u6:=aG.aF (o:=.lst (bB m fun _=>-1)) ha4;have e6:upd H5 a4 (.lst (bB m fun _=>-1)) a4=_:=aC;generalize upd H5 a4 (.lst (bB m fun _=>-1))=H6 at u6 e6|-;refine⟨a2,a4,_,_,rfl,rfl,aT.of (u6 _ _ (u5 _ _ e4)),aT.of e6,by rw[aJ,aJ];exact qAn (aK (by omega)),fun pl hpl=>?_⟩;rw[lE];have u7:=aG.aF (o:=.lst (bB (n+m) fun j=>if j<n then 0 else -1)) hpl;have e7:upd H6 pl (.lst (bB (n+m) fun j=>if j<n then 0 else -1)) pl=_:=aC;generalize upd H6 pl (.lst (bB (n+m) fun j=>if j<n then 0 else -1))=H7 at u7 e7|-;have s26:=u3.trans (u4.trans (u5.trans u6));have s27:=s26.trans u7;have s7:=s2.trans s27;have fo7:=fo2.same s27;obtain⟨dx2,lr2,ras2,hx2,rs2,hlc2⟩:=id fo2;have gn7:Bk m n (Wg.lv m n) H7 pl:=⟨by
   rw[e7];congr 2;refine dH fun j hj=>?_;unfold Wg.lv;by_cases z:j<n
   ·rw[if_pos z,if_neg (by omega)]
   ·rw[if_neg z,if_pos ⟨by omega,hj⟩],fun j=>by
   unfold Wg.lv;split
   ·exact Sm.of 1 (by decide) (by decide)
   ·exact Sm.zero⟩
  have npl:pl≠lc:=fun z=>by rw[z,s26 _ _ hlc2] at hpl;cases hpl
  have npx:pl≠x:=fun z=>by rw[z,s26 _ _ hx2] at hpl;cases hpl
  have old:∀{b o},H1 b=some o->b≠x/\b≠lc:=fun {b o} e=>⟨a9 e hx,a9 e hlc1⟩;refine⟨_,rfl,_,rfl,m,n,A,due,_,x,lc,pl,_,rfl,fo7,gd0,Wg.xJ,gn7,npl,fun S1 H8 sb8 fo8 gd1 run1=>?_⟩;have fe1:=vD run1;have s18:aG H1 H8:=fun b o e=>sb8 b o (old e).1 (old e).2 (s7 _ _ e);refine⟨fun le=>?_,fun q hq gr nn=>(Wg.sN gd1.ok hq gr nn).elim⟩;refine⟨_,rfl,m,n,A,due,x,lc,S1,rfl,fo8,gd1,fun D H9 hD s9 hd=>⟨D,rfl,⟨_,aT.of hd⟩,?_⟩⟩;obtain⟨dx8,lr8,ras8,hx8,rs8,hlc8⟩:=id fo8;refine cM (xs:=bC (tR m n S1)) (fun i _=>((tR m n S1)[i]?).map fun p=>V.bl (!decide (V.int (S1.R p (n+m))=V.int 0))) (aT.of hd) (by unfold bC tR;rw[qAb];exact qCx (qGf ..) (by rw[qAw];exact qAn (aK (by omega)))) (fun i y H10 kk kk0 s10 hy h1 h2=>?_) fun D2 H10 hD2 s10 hd2=>?_
  ·obtain⟨p,ep,rfl⟩:=zK hy;have hp:=(lG.mp (qBe ep)).1;obtain⟨rp,erp,arp,hrp⟩:=rs8.get hp;have s810:=s9.trans s10;refine⟨_,rfl,x,FR,dx8,_,_,rfl,s810 _ _ hx8,T.cK.oc.cl,T.cK.nr,rfl,_,rfl,lr8,_,_,_,rfl,rfl,aT.of (s810 _ _ rs8.hr),arp,_,rfl,rp,_,_,_,rfl,rfl,aT.of (s810 _ _ hrp),lC (n+m) _,rfl,?_⟩;exact h1 _ (by rw[ep];rfl) _ (.refl _)
  have el:(bC (tR m n S1)).length=(tR m n S1).length:=by unfold bC;rw[qAb]
  have hd3:H10 D2=some (.lst (((tR m n S1).map fun p=>!decide (V.int (S1.R p (n+m))=V.int 0)).map V.bl)):=by
   rw[hd2,el,qDb];congr 2;refine Eq.trans (cU (g:=fun i=>((tR m n S1)[i]?).bind fun p=>some (V.bl (!decide (V.int (S1.R p (n+m))=V.int 0)))) fun i hi=>?_) ?_
   ·have hi:=List.mem_range.mp hi;rw[qAd (l:=bC (tR m n S1)) (by rw[el];exact hi),qAd hi];rfl
   ·rw[yS,qDu];rfl
  refine⟨D2,_,rfl,aT.of hd3,_,rfl,?_⟩;have s810:=s9.trans s10;have fo10:=fo8.same s810;have s110:=s18.trans s810;have gn10:Bk m n (Wg.lv m n) H10 pl:=⟨s810 _ _ (sb8 _ _ npx npl gn7.hg),gn7.sz⟩;obtain⟨sd1,sR1⟩:=ins.size gd1.ok;cases ea:((tR m n S1).map fun p=>!decide (V.int (S1.R p (n+m))=V.int 0)).any id with
  | true =>
   refine eV ?_;obtain⟨b,hb,eb⟩:=List.any_eq_true.mp ea;obtain⟨p,hp,rfl⟩:=List.mem_map.mp hb;obtain⟨hpm,sp⟩:=lG.mp hp;have nz:S1.R p (n+m)≠0:=fun z=>by rw[z] at eb;exact absurd eb (by decide)
   obtain⟨t1,t2⟩:=Wg.AQ gd1.ok fe1 le gd1.ch hpm sp nz;refine⟨_,rfl,_,rfl,_,rfl,m,n,A,due,_,x,lc,pl,pd,S1,rfl,fo10,gd1,gn10,s110 _ _ co1.hd,fun lp ps H11 hlp s11 fl=>⟨lS,fun r hr=>?_⟩⟩;have u12:=aG.aF (o:=.tup [.str "none",.ref lp]) hr;exact k r _ (s1.trans (s110.trans (s11.trans u12))) (.inr (.inl ⟨lp,ps,S1.d,_,aC,Wg.Fr.pos gd1.ok,sd1,fl.same u12,(s1.trans s110).free hlp,vF gd1 gn7.sz,t1,t2⟩))
  | false =>
   refine dJ ?_;have z1:∀k',k'<m->n<=S1.ch k'->S1.R k' (n+m)=0:=fun k' hk' sp=>qAz fun nz=>by
    have:((tR m n S1).map fun p=>!decide (V.int (S1.R p (n+m))=V.int 0)).any id=true:=List.any_eq_true.mpr ⟨_,List.mem_map.mpr ⟨k',lG.mpr ⟨hk',sp⟩,rfl⟩,by
     rw[decide_eq_false (fun y=>nz (V.int.inj y))];rfl⟩
    rw[ea] at this;cases this
   refine⟨_,rfl,m,n,A,due,x,lc,S1,rfl,fo10,gd1,fe1,z1,fun S2 H11 sb11 fo11 gd2 fe2 cl2=>?_⟩;have s111:aG H1 H11:=fun b o e=>sb11 b o (old e).1 (old e).2 (s110 _ _ e);have hg11:=s111 _ _ hg1;refine⟨_,rfl,j6,fun b1 hb1=>?_⟩;have v1:=aG.aF (o:=.lst [.int 0]) hb1;have w1:upd H11 b1 (.lst [.int 0]) b1=some (.lst [.int 0]):=aC;generalize upd H11 b1 (.lst [.int 0])=H12 at v1 w1|-;refine⟨_,rfl,pd,_,rfl,.inl (aT.of (v1 _ _ (s111 _ _ co1.hd))),b1,_,_,rfl,rfl,w1,by rw[aJ];omega,by rw[aJ];omega,?_,fun b2 hb2=>?_⟩
   ·rw[aJ];show 1*((m:Int)).toNat<=qAj;exact qAn (aK (by omega))
   rw[aJ,qBi,fB];have v2:=aG.aF (o:=.lst (bB m fun _=>0)) hb2;have w2:upd H12 b2 (.lst (bB m fun _=>0)) b2=_:=aC;generalize upd H12 b2 (.lst (bB m fun _=>0))=H13 at v2 w2|-;refine⟨pg,b2,_,_,rfl,rfl,aT.of (v2 _ _ (v1 _ _ hg11)),aT.of w2,by rw[aJ,aJ];exact qAn (aK (by omega)),fun pa hpa=>?_⟩;rw[lE];have v3:=aG.aF (o:=.lst (bB (n+m) fun j=>if j<n then g j else 0)) hpa;have w3:upd H13 pa (.lst (bB (n+m) fun j=>if j<n then g j else 0)) pa=_:=aC;generalize upd H13 pa (.lst (bB (n+m) fun j=>if j<n then g j else 0))=H14 at v3 w3|-;have v13:=v1.trans (v2.trans v3);have fo14:=fo11.same v13;have s114:=s111.trans v13;obtain⟨dx11,lr11,ras11,hx11,rs11,hlc11⟩:=id fo11;have npal:pa≠lc:=fun z=>by rw[z,v2 _ _ (v1 _ _ hlc11)] at hpa;cases hpa
   have npax:pa≠x:=fun z=>by rw[z,v2 _ _ (v1 _ _ hx11)] at hpa;cases hpa
   have gn14:Bk m n (fun j=>if j<n then g j else 0) H14 pa:=⟨w3,fun j=>by
    show Sm 100000 (if j<n then g j else 0);split
    ·exact(sg j).mono (by decide)
    ·exact Sm.zero⟩
   have g0:∀j,n<=j->(if j<n then g j else 0)=0:=fun j hj=>if_neg (by omega);refine⟨_,rfl,_,rfl,m,n,A,due,_,x,lc,pa,S2,rfl,fo14,gd2,fe2,gn14,npal,fun S3 H15 sb15 fo15 gd3 run3=>?_⟩;have fe3:=vD run3;have cl3:=Clean.run run3 cl2;have s115:aG H1 H15:=fun b o e=>sb15 b o (old e).1 (old e).2 (s114 _ _ e);obtain⟨sd3,sR3⟩:=ins.size gd3.ok;have d3:=Wg.Fr.pos gd3.ok;have gsum:∀X:Nat->Int,(Wg.sm n fun j=>(if j<n then g j else 0)*X j)=Wg.sm n fun j=>g j*X j:=fun X=>Wg.aV fun j hj=>by rw[if_pos hj]
   refine⟨fun le3=>?_,fun q hq gr nn=>?_⟩
   ·obtain⟨t1,t2⟩:=Wg.AR gd3.ok cl3 le3 g0;refine⟨_,rfl,rfl,_,rfl,eV ?_⟩;refine⟨_,rfl,m,n,A,due,x,lc,S3,rfl,fo15,gd3,fun lw ws H16 hlw s16 fw=>?_⟩;have s116:=s115.trans s16;refine⟨_,rfl,_,rfl,_,rfl,m,n,A,due,_,x,lc,pa,pd,S3,rfl,fo15.same s16,gd3,⟨s16 _ _ (sb15 _ _ npax npal gn14.hg),gn14.sz⟩,s116 _ _ co1.hd,fun lp ps H17 hlp s17 fp=>⟨Nw,fun r hr=>?_⟩⟩;have u18:=aG.aF (o:=.tup [.str "best",.ref lw,.ref lp]) hr;refine k r _ (s1.trans (s116.trans (s17.trans u18))) (.inl ⟨lw,lp,ws,ps,S3.d,_,_,aC,d3,sd3,ins.small gd3.ok,ins.JF gd3.ok,(fw.same s17).same u18,fp.same u18,(s1.trans s115).free hlw,(s1.trans s116).free hlp,CV gd3 _ fun k' hk'=>sR3 k' hk' _,vF gd3 gn14.sz,Wg.Cy fe3 S3,fun i hi=>Wg.meets gd3.ok cl3 hi,fun j hj=>?_,?_⟩)
    ·have z:=t1 j hj;rw[if_pos hj] at z;exact z
    ·rw[t2,gsum]
   ·obtain⟨t1,t2,t3⟩:=Wg.sO gd3.ok cl3 g0 hq gr nn;refine⟨_,rfl,rfl,_,rfl,dJ ?_⟩;refine⟨_,rfl,m,n,A,due,x,lc,S3,rfl,fo15,gd3,fun lw ws H16 hlw s16 fw=>?_⟩;have s116:=s115.trans s16;refine⟨_,rfl,_,rfl,m,n,A,due,x,lc,S3,q,rfl,fo15.same s16,gd3,hq,fun lv vs' H17 hlv s17 fv=>⟨Nw,fun r hr=>?_⟩⟩;have u18:=aG.aF (o:=.tup [.str "endless",.ref lw,.ref lv]) hr;rw[gsum] at t3;refine k r _ (s1.trans (s116.trans (s17.trans u18))) (.inr (.inr ⟨lw,lv,ws,vs',S3.d,_,_,aC,d3,sd3,(fw.same s17).same u18,fv.same u18,(s1.trans s115).free hlw,(s1.trans s116).free hlv,CV gd3 _ fun k' hk'=>sR3 k' hk' _,fun j=>?_,Wg.Cy fe3 S3,fun i hi=>Wg.meets gd3.ok cl3 hi,t1,t2,t3⟩));unfold Wg.way;split
    ·exact sd3.mono (by decide)
    ·exact CV gd3 _ (fun k' hk'=>(sR3 k' hk' q).le (by rw[qLa];exact qAg _)) j
theorem Fg {l b d:Nat} (hl:0<l) (hb:0<b) (h1:l∣d) (h2:b∣d):0<l/qId l b*b/\l/qId l b*b∣d/\l∣l/qId l b*b/\b∣l/qId l b*b:=by
 have e:l/qId l b*b=Nat.lcm l b:=by
  unfold Nat.lcm;exact Nat.div_mul_right_comm (qJx l b) b
 rw[e];exact⟨Nat.lcm_pos hl hb,Nat.lcm_dvd h1 h2,Nat.dvd_lcm_left l b,Nat.dvd_lcm_right l b⟩
theorem CW {l b d:Int} (hl:0<l) (hb:0<b) (hd:0<d) (h1:l∣d) (h2:b∣d):0<l.fdiv (qBo l b:Int)*b/\l.fdiv (qBo l b:Int)*b∣d/\l∣l.fdiv (qBo l b:Int)*b/\b∣l.fdiv (qBo l b:Int)*b:=by
 obtain⟨l,rfl⟩:=qHs (qBy hl);obtain⟨b,rfl⟩:=qHs (qBy hb);obtain⟨d,rfl⟩:=qHs (qBy hd);have z:=Fg (l:=l) (b:=b) (d:=d) (by omega) (by omega) (Int.natCast_dvd_natCast.mp h1) (Int.natCast_dvd_natCast.mp h2);have e:(l:Int).fdiv (qBo (l:Int) (b:Int):Int)*(b:Int)=((l/qId l b*b:Nat):Int):=by
  rw[qFe _ (by omega),Int.gcd_natCast_natCast,Int.natCast_mul,Int.natCast_ediv]
 rw[e];exact⟨by omega,Int.natCast_dvd_natCast.mpr z.2.1,Int.natCast_dvd_natCast.mpr z.2.2.1,Int.natCast_dvd_natCast.mpr z.2.2.2⟩
abbrev ta (X d:Int):Int:=X.fdiv (dv X d)
abbrev tb (X d:Int):Int:=d.fdiv (dv X d)
theorem Ka {X d:Int} (h:0<d):dv X d=(qBo X d:Int):=by unfold dv;rw[if_neg (by omega)]
theorem dD {X d:Int} (h:0<d):ta X d*d=X*tb X d/\1<=tb X d/\qBo (ta X d) (tb X d)=1/\tb X d∣d:=by
 obtain⟨_,a,b,c⟩:=zC X d (by omega);obtain⟨_,_,_,_,e,_⟩:=CI (t:=X) (b:=d) (by omega);refine⟨a,b,c,?_⟩;show d.fdiv (dv X d)∣d;rw[Ka h];exact e
theorem j5 {X d:Int} (h:0<d){n:Nat} (s:Sm n d):Sm n (tb X d):=s.le (by
 have a:=dD (X:=X) h;have:=qEn h a.2.2.2;omega)
theorem lH {X d:Int}{n:Nat} (s:Sm n X):Sm n (ta X d):=s.fdiv
structure Gw (n:Nat) (X:Nat->Int) (d L:Int):Prop where
 pos:0<L
 dvd:L∣d
 all:∀j,j<n->tb (X j) d∣L
theorem vG {n:Nat}{X:Nat->Int}{d L:Int} (d0:0<d) (h:Gw n X d L):Gw (n+1) X d (L.fdiv (qBo L (tb (X n) d):Int)*tb (X n) d):=by
 obtain⟨_,y1,_,yd⟩:=dD (X:=X n) d0;obtain⟨a,b,c,e⟩:=CW h.pos (show 0<tb (X n) d by omega) d0 h.dvd yd;refine⟨a,b,fun j hj=>?_⟩;by_cases z:j=n
 ·rw[z];exact e
 ·exact Int.dvd_trans (h.all j (by omega)) c
theorem CY {n:Nat}{a t X:Nat->Int}{d L:Int} (e:∀j,j<n->t j*d=X j*L):(Wg.sm n fun j=>a j*t j)*d=(Wg.sm n fun j=>a j*X j)*L:=by
 rw[qCr,<- Wg.bE,qCr (Wg.sm n fun j=>a j*X j),<- Wg.bE];refine Wg.aV fun j hj=>?_;have:=e j hj;grind
theorem zO {k m n:Int} (h:k∣m*n) (g:qBo k m=1):k∣n:=by
 rw[<- qMf,qDq] at h;rw[<- qMf];exact Nat.Coprime.dvd_of_dvd_mul_left (show Nat.Coprime k.natAbs m.natAbs from g) h
theorem tH {lo hi n:Nat}{a:Nat->Int} (h1:lo<=n) (h2:n<=hi):jB lo hi (bB n a)=true:=by
 unfold jB;rw[aJ,decide_eq_true h1,decide_eq_true h2];show(bB n a).all jQ=true;rw[qJr];intro v hv;obtain⟨j,_,rfl⟩:=List.mem_map.mp hv;rfl
theorem qY {K:qAc}{H:Hp}{n:Nat}{a:Nat->Int}:∀v∈bB n a,Pl K H v:=fun v hv=>by
 obtain⟨j,_,rfl⟩:=List.mem_map.mp hv;exact .int _
theorem MS {K:qAc}{m n:Nat}{A:Nat->Nat->Int}{due g:Nat->Int}{H:Hp}{pc pd pg:Addr}{cs:List Addr} (ins:Inst m n A due) (co:sW m n A due H pc pd cs) (hg:H pg=some (.lst (bB n g))):Bb K H pc pd pg cs (fun j=>bB m (A j)) (bB m due) (bB n g):=by
 have m8:=ins.m8;have oW:=ins.oW;exact⟨co.hc,by rw[co.len];omega,fun j c e=>⟨co.at_ j c e,qY,by rw[aJ];omega⟩,co.hd,qY,by rw[aJ];omega,hg,qY,by rw[aJ];omega⟩
theorem CZ {m n:Nat}{A:Nat->Nat->Int}{due g:Nat->Int} (ins:Inst m n A due):jC n (fun j=>bB m (A j)) (bB m due) (bB n g)=true:=by
 unfold jC;rw[tH ins.m1 ins.m8,decide_eq_true ins.oW,tH (qAg _) (qAg _),aJ];have e:((qAl n).map fun j=>jB m m (bB m (A j))).all id=true:=by
  rw[qJr];intro b hb;obtain⟨j,_,rfl⟩:=List.mem_map.mp hb;exact tH (qAg _) (qAg _)
 rw[e];rfl
theorem tI {K:qAc}{NR:Addr}{m n:Nat}{A:Nat->Nat->Int}{due g:Nat->Int}{H:Hp}{pc pd pg:Addr}{cs:List Addr}{R:VK}{E:XK} (ins:Inst m n A due) (co:sW m n A due H pc pd cs) (hg:H pg=some (.lst (bB n g))) (sg:∀j,Sm 90000 (g j)) (k:∀(r:Addr) (H':Hp),aG H H'->Told m n A due g H H' r->R (.ref r) H'):qX K NR [.ref pc,.ref pd,.ref pg] H R E:=by
 refine⟨pc,pd,pg,cs,_,_,_,rfl,MS ins co hg,fun no=>?_,fun _=>⟨m,n,A,due,g,ins,co.len,fun j _=>rfl,rfl,rfl,sg,k⟩⟩;rw[co.len,CZ ins] at no;cases no
def Dc (K:qAc):Sp:=fun vs H Q _=>∃(v:V) (lo hi:Int),vs=[v,.int lo,.int hi]/\Pl K H v/\Q (.bl (EC lo hi v)) H
theorem Kb:aQ ["thing","least","most"] ["thing","least","most"] (aI CG):=by constructor<;>first|rfl|decide +kernel
theorem Fh {f1:Addr}{fd1:qBk} (t:Tx K mg "is_number_within" CG ["thing","least","most"] f fd) (D:Df P w K mg base bY 1 "is_number" ["thing"] (m9 K) f1 fd1) :
  Df P w K mg base bY 2 "is_number_within" ["thing","least","most"] (Dc K) f fd:=by
 refine t.gX Kb (fun vs H Q E h=>?_) (fun cdv A outer s H vs Q E hr h=>?_)
 ·obtain⟨v,lo,hi,rfl,_⟩:=h;rfl
 ·obtain⟨v,lo,hi,rfl,pl,k⟩:=h;refine⟨_,aH (aU (iU (aW D hr (qAg _) (by rfl) (aA (pv 0) aB)) (iT (Bt yE yE (pv 1) (pv 0) (pv 2))))),?_⟩;refine⟨_,rfl,v,rfl,pl,_,rfl,?_⟩;cases v with
  | int i =>
   refine eV ⟨_,rfl,_,rfl,lo,i,rfl,rfl,_,rfl,?_⟩;refine cP (fun h1=>⟨_,rfl,i,hi,rfl,rfl,?_⟩) (fun h1=>?_)
   ·have e:decide (i<=hi)=EC lo hi (.int i):=by
     show _=(decide (lo<=i)&&decide (i<=hi));rw[h1,qJa]
    show Q (.bl (decide (i<=hi))) H;rw[e];exact k
   ·have e:false=EC lo hi (.int i):=by
     show _=(decide (lo<=i)&&decide (i<=hi));rw[Bool.eq_false_iff.mpr h1,qFh]
    rw[e];exact k
  | _=>exact dJ k
def De:Sp:=fun vs H Q _=>∃m:Nat,vs=[.int (m:Int)]/\m<=6/\∀H',aG H H'->Q (.int (2^m-1)) H'
theorem Bc:∀m:_root_.Fin 7,(iL.take m.1).sum=2^m.1-1:=by decide
theorem OJ:aQ ["many"] ["many"] (aI Ox):=by constructor<;>first|rfl|decide +kernel
theorem MT (t:Tx K mg "whole_company" Ox ["many"] f fd) (T:T K mg AL LN FR iF fCh fGM fCC fCA fPL SE NN NG NT NR NS):Df P w K mg base bY 1 "whole_company" ["many"] De f fd:=by
 refine t.gX OJ (fun vs H Q E h=>?_) (fun cdv A outer s H vs Q E hr h=>?_)
 ·obtain⟨m,rfl,_⟩:=h;rfl
 ·obtain⟨m,rfl,hm,k⟩:=h;refine⟨_,(aH (aU (aL (hZ rfl) (by rfl) T.j4 mC (aA (i5 yT (fH (v:=.ref AL) (by rfl) T.Ed rfl) kN (kO (pv 0))) aB)))),?_⟩;refine⟨_,rfl,_,rfl,AL,_,rfl,T.al _,fun p H' s hq=>⟨p,iL.take m,rfl,.inr ?_,?_⟩⟩
  ·rw[CL,<- qOq] at hq;exact hq
  ·rw[Bc ⟨m,by omega⟩];exact k H' s
def Gx (K:qAc) (NG:Addr):Sp:=fun vs H Q E=>∃(v:V) (m:Nat),vs=[v,.int (m:Int)]/\m<=6/\Pl K H v/\(EC 0 (2^m-1) v=false->∀H',aG H H'->E (.ref NG) none H')/\(EC 0 (2^m-1) v=true->∀H',aG H H'->Q .non H')
theorem MU:aQ ["group","many"] ["group","many"] (aI IV):=by constructor<;>first|rfl|decide +kernel
theorem Kc {f1 f2:Addr}{fd1 fd2:qBk} (t:Tx K mg "check_group" IV ["group","many"] f fd) (T:T K mg AL LN FR iF fCh fGM fCC fCA fPL SE NN NG NT NR NS) (D_is_number_within:Df P w K mg base bY 2 "is_number_within" ["thing","least","most"] (Dc K) f1 fd1)
  (D_whole_company:Df P w K mg base bY 1 "whole_company" ["many"] De f2 fd2):Df P w K mg base (g6 P w) 3 "check_group" ["group","many"] (Gx K NG) f fd:=by
 refine t.Ec MU (fun vs H Q E h=>?_) (fun cdv A outer s H vs Q E hr h=>?_)
 ·obtain⟨v,m,rfl,_⟩:=h;rfl
 ·obtain⟨v,m,rfl,hm,pl,k0,k⟩:=h;refine⟨_,(aH (cF (cL (cE (aW D_is_number_within hr (by decide) (by rfl) (aA (pv 0) (aA aE (aA (aW D_whole_company hr (by decide) (by rfl) (aA (pv 1) aB)) aB)))))) (aH (eX cG rfl (by rfl) T.MA T.MD (aA eJ aB))) bH)),?_⟩;refine⟨_,rfl,_,rfl,m,rfl,hm,fun H' s=>⟨v,0,_,rfl,pl.same s,_,rfl,?_⟩⟩;cases e:EC 0 (2^m-1) v with
  | true=>exact dJ (k e H' s)
  | false=>exact eV ⟨j6,k0 e H' s⟩
theorem pA {i:Int} (h0:0<=i) (h5:i<=5):gC (iL.map V.int) i=some (.int (alone i.toNat)):=by
 have h:i.toNat<6:=by omega
 have all:∀j:_root_.Fin 6,(iL.map V.int)[j.1]?=some (.int (alone j.1)):=by decide
 have z:=fJ (all ⟨i.toNat,h⟩);rw[show(((⟨i.toNat,h⟩:_root_.Fin 6).1:Nat):Int)=i from qDd h0] at z;exact z
def Dg (K:qAc) (NG:Addr):Sp:=fun vs H Q E=>∃v,vs=[v]/\Pl K H v/\(EC 0 (2^6-1) v=false->∀H',aG H H'->E (.ref NG) none H') /\
 ∀(g:Nat) (l:Addr) (H':Hp),v = .int (g:Int)->g<64->H l=none->aG H H'->H' l=some (.lst ((dG g).map V.int))->Q (.ref l) H'
theorem MV:aQ ["group"] ["group"] (aI IW):=by constructor<;>first|rfl|decide +kernel
theorem Ke {f1:Addr}{fd1:qBk} (t:Tx K mg "hands_of" IW ["group"] f fd) (T:T K mg AL LN FR iF fCh fGM fCC fCA fPL SE NN NG NT NR NS) (D_check_group:Df P w K mg base (g6 P w) 3 "check_group" ["group","many"] (Gx K NG) f1 fd1) :
  Df P w K mg base (g6 P w) 4 "hands_of" ["group"] (Dg K NG) f fd:=by
 refine t.Ec MV (fun vs H Q E h=>?_) (fun cdv A outer s H vs Q E hr h=>?_)
 ·obtain⟨v,rfl,_⟩:=h;rfl
 ·obtain⟨v,rfl,pl,k0,k⟩:=h;refine⟨_,(aD (fI (dR cG.toPass D_check_group hr (by decide) (by rfl) (aA (pv 0) (aA (aL aO (by rfl) T.bZ bQ (aA (fH (v:=.ref AL) (by rfl) T.Ed rfl) aB)) aB))))
   (aH (aU (bP (NB:=["hand","group"]) (pick:=[none,some 0]) (bJ (by with_unfolding_all rfl) (by exact(And.intro rfl trivial)) rfl (by decide +kernel) (by decide +kernel) (by rfl) (by rfl)) rfl
     (cY (by rfl) T.cD (aA (aL aO (by rfl) T.bZ bQ (aA (fH (v:=.ref AL) (by rfl) T.Ed rfl) aB)) aB)) (fun _ _ _=>aN (i:=0) (show(["hand","group"]:List Str).Nodup from by decide +kernel) rfl bR)
     (fun _ _ _=>eW (aZ iZ (aR wB (pv 1) (aS (fU K) (fH (v:=.ref AL) (by rfl) T.Ed rfl) (pv 0) (fun _ _=>rfl))) aE (aY _))) (fun _ _ _=>(pv 0)))))),?_⟩
  refine⟨_,rfl,AL,_,rfl,.inr (T.al _),v,6,rfl,by decide,pl,k0,fun h1 H' s1=>?_⟩;obtain⟨g,rfl,hg⟩:=CJ h1;have hg:g<64:=hg;refine⟨AL,_,rfl,.inr (T.al _),_,rfl,by decide,by decide,?_⟩;refine BM (qP g) (by decide) (fun i H2 kk kk0 hi h1 h2=>?_) fun D hD=>?_
  ·obtain⟨j,rfl⟩:∃j:Nat,j=i:=⟨i,rfl⟩;have e0:(0:Int)+(j:Int)=(j:Int):=qDj _;have hat:gC (iL.map V.int) ((0:Int)+(j:Int))=some (.int (alone j)):=by
    rw[e0];have z:=pA (i:=(j:Int)) (by omega) (by have:j<6:=hi;omega);simpa using z
   refine⟨_,rfl,_,rfl,AL,_,_,_,rfl,rfl,T.al _,hat,_,_,rfl,rfl,rfl,_,rfl,?_⟩;refine cP (fun h3=>⟨_,rfl,h1 _ ?_⟩) (fun h3=>h2 ?_)
   ·have z:¬V.int (qEk (g:Int) (alone j))=V.int 0:=of_decide_eq_false (by
     have z:(!decide (V.int (qEk (g:Int) (alone j))=V.int 0))=true:=h3;simpa using z)
    rw[e0];unfold qP;rw[if_neg fun q=>z (congrArg V.int q)]
   ·unfold qP;refine if_pos (qAz fun q=>h3 ?_);show(!decide (V.int (qEk (g:Int) (alone j))=V.int 0))=true;rw[decide_eq_false fun z=>q (V.int.inj z)];rfl
  ·have e':(qAl 6).filterMap (qP g)=(dG g).map V.int:=xN ⟨g,hg⟩;show Q _ (upd H' D (.lst ((qAl 6).filterMap (qP g))));rw[e'];exact k g D _ rfl hg (s1.free hD) (s1.trans (.aF hD)) aC
def iO (xs:List V):Bool:=[2,4,8,16,32,64].contains xs.length&&xs.all jQ&&decide (xs[0]?=some (.int 0))
def Gy (K:qAc):Sp:=fun vs H Q _=>∃(p:Addr) (xs:List V),vs=[.ref p]/\H p=some (.lst xs)/\(∀v∈xs,Pl K H v)/\xs.length<=1000/\∀H',aG H H'->Q (.bl (iO xs)) H'
theorem MW:aQ ["thing"] ["thing"] (aI IY):=by constructor<;>first|rfl|decide +kernel
theorem Fi (n:Nat):(!LY (.int (n:Int)) (gQ (oT.map V.int) (some 1) none)) = !([2,4,8,16,32,64].contains n):=by
 have e:gQ (oT.map V.int) (some 1) none=[V.int 2,.int 4,.int 8,.int 16,.int 32,.int 64]:=by decide
 rw[e];have q:∀k:Nat,Eu (.int (k:Int)) (.int (n:Int))=(n == k):=fun k=>by
  show((k:Int) == (n:Int))=(n == k);rw[qGq,beq_iff_eq,beq_iff_eq];omega
 have:=q 2;have:=q 4;have:=q 8;have:=q 16;have:=q 32;have:=q 64;simp_all [LY];rfl
theorem Kf {f1:Addr}{fd1:qBk} (t:Tx K mg "is_table" IY ["thing"] f fd) (T:T K mg AL LN FR iF fCh fGM fCC fCA fPL SE NN NG NT NR NS) (D_is_number:Df P w K mg base bY 1 "is_number" ["thing"] (m9 K) f1 fd1) :
  Df P w K mg base bY 2 "is_table" ["thing"] (Gy K) f fd:=by
 refine t.gX MW (fun vs H Q E h=>?_) (fun cdv A outer s H vs Q E hr h=>?_)
 ·obtain⟨p,xs,rfl,_⟩:=h;rfl
 ·obtain⟨p,xs,rfl,hp,pl,hlen,k⟩:=h;refine⟨_,(aD (cF (PW.pt (pw_or (cL (cE (aL cZ (by rfl) T.fK fG (aA (pv 0) (aA (dO (v:=.ty "list") (by rfl) T.cN cX rfl) aB))))) (pw_or1 (aZ rP (aL aO (by rfl) T.bZ bQ (aA (pv 0) aB)) (i5 yT (fH (v:=.ref LN) (by rfl) T.Lw rfl) (kO aE) kN) (by rfl))))) (aH (aU iS)) bH)
   (aH (aU (iU (aL (kT rfl) (by rfl) T.mZ rV (aA (bP (NB:=["number"]) (pick:=[none]) (bJ (by with_unfolding_all rfl) (by exact trivial) rfl (by decide +kernel) (by decide +kernel) (by rfl) (by rfl)) rfl
     (bO (pv 0)) (fun _ _ _=>aN (i:=0) (show(["number"]:List Str).Nodup from by decide +kernel) rfl bR)
     (fun _ _ _=>bK) (fun _ _ _=>(aW D_is_number hr (by decide) (by rfl) (aA (pv 0) aB)))) aB)) (iT (dA hJ (aS a8 (pv 0) aE (fun _ _=>rfl)) aE (aY _))))))),?_⟩
  refine⟨_,rfl,.ref p,.ty "list",_,_,_,rfl,rfl,.of (.lst hp),Kd.lst.p8 K,_,rfl,dJ ?_⟩;refine⟨_,rfl,p,_,rfl,.inl (aT.of hp),_,rfl,LN,_,rfl,T.ln _,fun q H1 s1 hq=>⟨q,_,rfl,.inr hq,rfl,by decide,_,rfl,?_⟩⟩;show if (!LY (.int (xs.length:Int)) (gQ (oT.map V.int) (some 1) none))=true then _ else _;rw[Fi];cases ec:[2,4,8,16,32,64].contains xs.length with
  | false =>
   have e:false=iO xs:=by unfold iO;rw[ec];rfl
   refine eV ?_;have z:=k H1 s1;rw[<- e] at z;exact z
  | true =>
   refine dJ ⟨_,rfl,p,rfl,⟨xs,aT.of (s1 _ _ hp)⟩,?_⟩;refine cM (xs:=xs) (fun _ x=>some (.bl (jQ x))) (aT.of (s1 _ _ hp)) (qAn (aK hlen)) (fun i x H2 kk kk0 s2 hx h1 h2=>?_) fun D H2 hD s2 hd=>?_
   ·exact⟨_,rfl,x,rfl,(pl x (qBe hx)).same (s1.trans s2),h1 _ rfl _ (.refl _)⟩
   ·have ed:((qAl xs.length).filterMap fun i=>(xs[i]?).bind fun x=>some (V.bl (jQ x)))=(xs.map jQ).map V.bl:=by
     rw[qDb,<- rT];rfl
    rw[ed] at hd;refine⟨D,_,rfl,aT.of hd,_,rfl,?_⟩;have ea:(xs.map jQ).all id=xs.all jQ:=by rw[qPd];rfl
    rw[ea];cases eb:xs.all jQ with
    | false =>
     have e:false=iO xs:=by unfold iO;rw[ec,eb];rfl
     refine dJ ?_;have z:=k H2 (s1.trans s2);rw[<- e] at z;exact z
    | true =>
     have hpos:0<xs.length:=by
      cases xs with
      | nil=>exact absurd ec (by decide)
      | cons _ _=>exact qPi _
     obtain⟨i,hi⟩:∃i,xs[0]?=some (.int i):=by
      have hm:=List.all_eq_true.mp eb xs[0] (qEs hpos);cases e0:xs[0] with
      | int i=>exact⟨i,by rw[qAd hpos,e0]⟩
      | _=>rw[e0] at hm;exact(qAm hm).elim
     refine eV ⟨_,rfl,p,_,_,_,rfl,rfl,aT.of (s2 _ _ (s1 _ _ hp)),fJ hi,rfl,?_⟩;have e:decide (V.int i=V.int 0)=iO xs:=by unfold iO;rw[ec,eb,hi];simp
     show Q (.bl (decide (V.int i=V.int 0))) H2;rw[e];exact k H2 (s1.trans s2)
def zP (K:qAc) (NT:Addr):Sp:=fun vs H Q E=>∃(p:Addr) (xs:List V),vs=[.ref p]/\H p=some (.lst xs)/\(∀v∈xs,Pl K H v)/\xs.length<=1000/\(iO xs=false->∀H',aG H H'->E (.ref NT) none H') /\
 ∀m:Nat,1<=m->m<=6->xs.length=2^m->iO xs=true->∀H',aG H H'->Q (.int (m:Int)) H'
theorem MX:aQ ["table"] ["table"] (aI IZ):=by constructor<;>first|rfl|decide +kernel
theorem Fj {xs:List V} (h:iO xs=true):∃m:Nat,1<=m/\m<=6/\xs.length=2^m:=by
 have z:[2,4,8,16,32,64].contains xs.length=true:=by
  unfold iO at h;rw[qCa,qCa] at h;exact h.1.1
 have z:xs.length∈[2,4,8,16,32,64]:=by simpa using z
 simp only[qEb,qDa,or_false] at z;rcases z with z | z | z | z | z | z
 ·exact⟨1,by decide,by decide,z⟩
 ·exact⟨2,by decide,by decide,z⟩
 ·exact⟨3,by decide,by decide,z⟩
 ·exact⟨4,by decide,by decide,z⟩
 ·exact⟨5,by decide,by decide,z⟩
 ·exact⟨6,by decide,by decide,z⟩
theorem Fm:∀m:_root_.Fin 7,oT[m.1]?=some ((2:Int)^m.1)/\∀j:_root_.Fin 7,j.1<m.1->oT[j.1]?≠some ((2:Int)^m.1):=by decide
theorem Kg {f1:Addr}{fd1:qBk} (t:Tx K mg "hands_in" IZ ["table"] f fd) (T:T K mg AL LN FR iF fCh fGM fCC fCA fPL SE NN NG NT NR NS) (D_is_table:Df P w K mg base bY 2 "is_table" ["thing"] (Gy K) f1 fd1) :
  Df P w K mg base (g6 P w) 3 "hands_in" ["table"] (zP K NT) f fd:=by
 refine t.Ec MX (fun vs H Q E h=>?_) (fun cdv A outer s H vs Q E hr h=>?_)
 ·obtain⟨p,xs,rfl,_⟩:=h;rfl
 ·obtain⟨p,xs,rfl,hp,pl,hlen,k0,k⟩:=h;refine⟨_,(aD (cF (cL (cE (aW D_is_table hr (by decide) (by rfl) (aA (pv 0) aB)))) (aH (eX cG rfl (by rfl) T.MB T.ME (aA eJ aB))) bH)
   (aH (aU (t5 PySem.F.plainAttrs_tuple PySem.F.slot_tuple_index PySem.F.type_tuple_index BS (fH (v:=.ref LN) (by rfl) T.Lw rfl) (aA (aL aO (by rfl) T.bZ bQ (aA (pv 0) aB)) aB))))),?_⟩
  refine⟨_,rfl,p,xs,rfl,hp,pl,hlen,fun H1 s1=>⟨_,rfl,?_⟩⟩;cases e:iO xs with
  | false=>exact eV ⟨j6,k0 e H1 s1⟩
  | true =>
   obtain⟨m,h1,h6,hm⟩:=Fj e;obtain⟨l1,l2⟩:=Fm ⟨m,by omega⟩;refine dJ ⟨.inr (.inl ⟨rfl,T.PH⟩),_,rfl,p,_,rfl,.inl (aT.of (s1 _ _ hp)),LN,oT,_,m,rfl,rfl,T.ln _,?_,?_,k m h1 h6 hm e H1 s1⟩
   ·rw[hm,l1];push_cast;rfl
   ·intro j hj;have z:=l2 ⟨j,by omega⟩ hj;rw[hm];intro q;refine z (q.trans ?_);push_cast;rfl
def OK (m:Nat) (rs:List Int):Prop:=1<=m/\m<=6/\rs.length=2^m/\rs[0]?=some 0
theorem Fn {m:Nat}{rs:List Int} (t:OK m rs):iO (rs.map V.int)=true:=by
 obtain⟨m1,m6,h,h0⟩:=t;have hc:[2,4,8,16,32,64].contains (2^m)=true:=by
  have all:∀k:_root_.Fin 7,1<=k.1->[2,4,8,16,32,64].contains (2^k.1)=true:=by decide
  exact all ⟨m,by omega⟩ m1
 unfold iO;rw[qAb,h,hc,all_ints,qAp,h0];rfl
def bt (g i:Nat):Int:=((g/2^i%2:Nat):Int)
theorem qZ (g i:Nat):bt g i=0\/bt g i=1:=by unfold bt;omega
theorem pB (g i:Nat):Sm 2 (bt g i):=by
 show(bt g i).natAbs<2^2;rcases qZ g i with e | e <;> rw[e] <;> decide
theorem Dh:∀(g:_root_.Fin 64) (i:_root_.Fin 6),(if (!decide (V.int (qEk ((g.1:Nat):Int) (alone i.1))=V.int 0))=true then (1:Int) else 0)=bt g.1 i.1:=by decide +kernel
def rA:Sp:=fun vs H Q _=>∃g m:Nat,vs=[.int (g:Int),.int (m:Int)]/\g<64/\m<=6/\∀D H',H D=none->aG H H'->H' D=some (.lst (bB m (bt g)))->Q (.ref D) H'
theorem MY:aQ ["group","many"] ["group","many"] (aI IX):=by constructor<;>first|rfl|decide +kernel
theorem Kh (t:Tx K mg "marks_of" IX ["group","many"] f fd) (T:T K mg AL LN FR iF fCh fGM fCC fCA fPL SE NN NG NT NR NS):Df P w K mg base bY 1 "marks_of" ["group","many"] rA f fd:=by
 refine t.gX MY (fun vs H Q E h=>?_) (fun cdv _A outer s H vs Q E hr h=>?_)
 ·obtain⟨g,m,rfl,_⟩:=h;rfl
 ·obtain⟨g,m,rfl,hg,hm,k⟩:=h;refine⟨_,(aH (aU (bP (NB:=["hand","group"]) (pick:=[none,some 0]) (bJ (by with_unfolding_all rfl) (by exact(And.intro rfl trivial)) rfl (by decide +kernel) (by decide +kernel) (by rfl) (by rfl)) rfl
     (cY (by rfl) T.cD (aA (pv 1) aB)) (fun _ _ _=>aN (i:=0) (show(["hand","group"]:List Str).Nodup from by decide +kernel) rfl bR)
     (fun _ _ _=>bK) (fun _ _ _=>(nZ (aZ iZ (aR wB (pv 1) (aS (fU K) (fH (v:=.ref AL) (by rfl) T.Ed rfl) (pv 0) (fun _ _=>rfl))) aE (aY _)) aE aE))))),?_⟩
  refine⟨_,rfl,m,rfl,by omega,by omega,?_⟩;refine gG (n:=m) (fun j=>some (.int (bt g j))) (qAn (aK (by omega))) (fun j H2 kk kk0 s2 hj g1 g2=>?_) fun D H2 hD s2 hd=>?_
  ·have e0:(0:Int)+(j:Int)=(j:Int):=qDj _;have hat:gC (iL.map V.int) ((0:Int)+(j:Int))=some (.int (alone j)):=by
    rw[e0];have z:=pA (i:=(j:Int)) (by omega) (by omega);simpa using z
   have z:=Dh ⟨g,hg⟩ ⟨j,by omega⟩;dsimp only at z;refine⟨_,rfl,_,rfl,AL,_,_,_,rfl,rfl,T.al _,hat,_,_,rfl,rfl,rfl,_,rfl,cP (fun h3=>?_) (fun h3=>?_)⟩
   ·rw[if_pos h3] at z;exact g1 _ (by rw[<- z]) _ (.refl _)
   ·rw[if_neg h3] at z;exact g1 _ (by rw[<- z]) _ (.refl _)
  ·refine k D H2 hD s2 ?_;rw[hd,qDu];rfl
theorem Di {l b:Int} (hl:0<l) (hb:0<b):l*b.fdiv (qBo l b:Int)=l.fdiv (qBo l b:Int)*b:=by
 have g0:(0:Int)<(qBo l b:Int):=by
  have:=qGs b (show l≠0 by omega);omega
 obtain⟨c,hc⟩:=qJy (a:=l) (b:=b);obtain⟨e,he⟩:=qJm (a:=l) (b:=b);generalize hG:(qBo l b:Int)=G at *;have e1:b.fdiv G=e:=by rw[he];exact qCn _ (by omega)
 have e2:l.fdiv G=c:=by rw[hc];exact qCn _ (by omega)
 rw[e1,e2,hc];grind
def Dj:Sp:=fun vs H Q _=>∃(l:Addr) (n:Nat) (X:Nat->Int) (d:Int) (ws:List Addr),vs=[.ref l]/\jA n X d H l ws/\0<d/\Sm 6000 d/\∀L,Gw n X d L->Q (.int L) H
theorem zQ:aQ ["fractions","common","one"] ["fractions"] (aI IT):=by constructor<;>first|rfl|decide +kernel
theorem Ki {f1:Addr}{fd1:qBk} (t:Tx K mg "common_bottom" IT ["fractions"] f fd) (T:T K mg AL LN FR iF fCh fGM fCC fCA fPL SE NN NG NT NR NS) (D_greatest_divisor:Df P w K mg base bY 1 "greatest_divisor" ["one","other"] zF f1 fd1) :
  Df P w K mg base bY 2 "common_bottom" ["fractions"] Dj f fd:=by
 refine t.gX zQ (fun vs H Q E h=>?_) (fun cdv A outer s H vs Q E hr h=>?_)
 ·obtain⟨l,n,X,d,ws,rfl,_⟩:=h;rfl
 ·obtain⟨l,n,X,d,ws,rfl,fl,d0,sd,k⟩:=h;refine⟨_,(aD (aP (i:=1) zQ.nd rfl bR aE)
   (aD (c9 PassesOwn.never rfl (bO (pv 0)) (aN (i:=2) zQ.nd rfl bR)
    (aH (aP (i:=1) zQ.nd rfl bR (aR bM (pv 1) (aR gD (aS bI (pv 2) aE (fun _ _=>rfl)) (aW D_greatest_divisor hr (by decide) (by rfl) (aA (pv 1) (aA (aS bI (pv 2) aE (fun _ _=>rfl)) aB))))))))
   (aH (aU (pv 1))))),?_⟩
  refine⟨_,rfl,l,rfl,⟨_,aT.of fl.hr⟩,?_⟩;refine dX (xs:=ws.map V.ref) (fun i σ H2=>H2=H/\∃(L:Int) (o:Option V),σ=[some (.ref l),some (.int L),o]/\Gw i X d L) ⟨rfl,1,_,rfl,by decide,qPq _,fun j hj=>by omega⟩ (fun i σ H2 _ ⟨e,_⟩=>by rw[e];exact aT.of fl.hr) (fun i y σ H2 hy ⟨eH,L,o,eσ,lo⟩=>?_) (fun σ H2 ⟨eH,L,o,eσ,lo⟩=>?_)
  ·subst eH eσ;obtain⟨p,hp,rfl⟩:=cW hy;have hpt:=fl.at_ i p hp;obtain⟨_,y1,_,yd⟩:=dD (X:=X i) d0;have sL:Sm 6000 L:=sd.le (by have:=qEn d0 lo.dvd;have:=lo.pos;omega);have sb:=j5 (X:=X i) d0 sd;have g0:(qBo L (tb (X i) d):Int)≠0:=by
    have:=qGs (tb (X i) d) (show L≠0 by have:=lo.pos;omega);omega
   have sg:Sm 6000 ((qBo L (tb (X i) d):Nat):Int):=sL.le (by
    rw[qNk];exact qJe (by have:=lo.pos;omega) (qJx _ _))
   have st:=vG d0 lo;rw[<- Di lo.pos (show 0<tb (X i) d by omega)] at st;exact⟨_,rfl,_,rfl,p,_,_,_,rfl,rfl,cQ.of hpt,rfl,_,rfl,_,rfl,p,_,_,_,rfl,rfl,cQ.of hpt,rfl,_,_,rfl,_,_,rfl,rfl,sg.db g0,_,_,rfl,rfl,sL.mb sb.fdiv,rfl,_,_,rfl,st⟩
  ·subst eH eσ;rw[qAb,fl.len] at lo;exact⟨_,rfl,k L lo⟩
def Dk:Sp:=fun vs H Q _=>∃(l:Addr) (n:Nat) (X:Nat->Int) (d L:Int) (ws:List Addr),vs=[.int L,.ref l]/\jA n X d H l ws/\n<=100/\0<d/\Sm 6000 d/\(∀j,Sm 300000 (X j))/\Gw n X d L /\
 ∀(D:Addr) (H':Hp) (tt:Nat->Int),H D=none->aG H H'->H' D=some (.lst (bB n tt))->(∀j,j<n->tt j*d=X j*L)->(∀j,Sm 320000 (tt j))->Q (.ref D) H'
theorem MZ:aQ ["bottom","fractions"] ["bottom","fractions"] (aI IU):=by constructor<;>first|rfl|decide +kernel
theorem Kj (t:Tx K mg "tops_over" IU ["bottom","fractions"] f fd) (T:T K mg AL LN FR iF fCh fGM fCC fCA fPL SE NN NG NT NR NS):Df P w K mg base bY 1 "tops_over" ["bottom","fractions"] Dk f fd:=by
 refine t.gX MZ (fun vs H Q E h=>?_) (fun cdv A outer s H vs Q E hr h=>?_)
 ·obtain⟨l,n,X,d,L,ws,rfl,_⟩:=h;rfl
 ·obtain⟨l,n,X,d,L,ws,rfl,fl,n1,d0,sd,sX,lo,k⟩:=h;refine⟨_,(aH (aU (bP (NB:=["one","bottom"]) (pick:=[none,some 0]) (bJ (by with_unfolding_all rfl) (by exact(And.intro rfl trivial)) rfl (by decide +kernel) (by decide +kernel) (by rfl) (by rfl)) rfl
     (bO (pv 1)) (fun _ _ _=>aN (i:=0) (show(["one","bottom"]:List Str).Nodup from by decide +kernel) rfl bR)
     (fun _ _ _=>bK) (fun _ _ _=>(aR bM (aS (fU K) (pv 0) aE (fun _ _=>rfl)) (aR gD (pv 1) (aS (fU K) (pv 0) aE (fun _ _=>rfl)))))))),?_⟩
  have sL:Sm 6000 L:=sd.le (by have:=qEn d0 lo.dvd;have:=lo.pos;omega);refine⟨_,rfl,l,rfl,⟨_,aT.of fl.hr⟩,?_⟩;refine cM (xs:=ws.map V.ref) (fun j _=>some (.int (ta (X j) d*L.fdiv (tb (X j) d)))) (aT.of fl.hr) (by rw[qAb,fl.len];exact qAn (aK (by omega))) (fun j y H2 kk kk0 s2 hy g1 g2=>?_) fun D H2 hD s2 hd=>?_
  ·obtain⟨p,hp,rfl⟩:=cW hy;have hpt:=s2 _ _ (fl.at_ j p hp);obtain⟨_,y1,_,yd⟩:=dD (X:=X j) d0;exact⟨_,rfl,p,_,_,_,rfl,rfl,cQ.of hpt,rfl,_,rfl,_,rfl,p,_,_,_,rfl,rfl,cQ.of hpt,rfl,_,_,rfl,rfl,(j5 (X:=X j) d0 sd).db (show tb (X j) d≠0 by omega),_,_,rfl,rfl,(lH (sX j)).mb sL.fdiv,g1 _ rfl _ (.refl _)⟩
  ·refine k D H2 (fun j=>ta (X j) d*L.fdiv (tb (X j) d)) hD s2 ?_ (fun j hj=>?_) fun j=>((lH (sX j)).mul sL.fdiv).mono (by decide)
   ·rw[hd,qAb,fl.len,lF _ (by rw[qAb,fl.len])];rfl
   ·obtain⟨e,y1,_,yd⟩:=dD (X:=X j) d0;obtain⟨c,hc⟩:=lo.all j hj;have e2:L.fdiv (tb (X j) d)=c:=by
     rw[hc];exact qCn _ (by omega)
    rw[e2,hc];generalize ta (X j) d=a at e;generalize tb (X j) d=b at e;grind
theorem kF {x y X d:Int} (hy:0<y) (hd:0<d) (e:x*d=X*y):fL x y=fL X d:=by
 obtain⟨a1,b1,c1,_⟩:=dD (X:=x) hy;obtain⟨a2,b2,c2,_⟩:=dD (X:=X) hd;generalize hp1:ta x y=p1 at *;generalize hq1:tb x y=q1 at *;generalize hp2:ta X d=p2 at *;generalize hq2:tb X d=q2 at *;have cross:p1*q2=p2*q1:=by
  have hne:y*d≠0:=qKr (by omega) (by omega);refine qKv hne ?_;have e1:p1*q2*(y*d)=(p1*y)*q2*d:=by grind
  have e2:p2*q1*(y*d)=(p2*d)*q1*y:=by grind
  rw[e1,e2,a1,a2];have e3:x*q1*q2*d=x*d*(q1*q2):=by grind
  have e4:X*q2*q1*y=X*y*(q1*q2):=by grind
  rw[e3,e4,e]
 have d12:q1∣q2:=zO (m:=p1) (by rw[cross];exact qOf ..) (by rw[qMg];exact c1);have d21:q2∣q1:=zO (m:=p2) (by rw[<- cross];exact qOf ..) (by rw[qMg];exact c2);have qq:q1=q2:=by
  have l1:=qEn (by omega) d12;have l2:=qEn (by omega) d21;omega
 have pp:p1=p2:=by
  rw[qq] at cross;exact qKv (by omega) cross
 show HO.tup [V.int (ta x y),V.int (tb x y)]=HO.tup [V.int (ta X d),V.int (tb X d)];rw[hp1,hq1,hp2,hq2,pp,qq]
def Dl:Sp:=fun vs H Q _=>∃(p q:Addr) (a b d:Int),vs=[.ref p,.ref q]/\H p=some (fL a d)/\H q=some (fL b d)/\0<d/\Sm 3000 d/\Sm 400000 a/\Sm 400000 b/\∀r H',aG H H'->H' r=some (fL (a+b) d)->Q (.ref r) H'
theorem Na:aQ ["one","other"] ["one","other"] (aI IQ):=by constructor<;>first|rfl|decide +kernel
theorem Kk {f1:Addr}{fd1:qBk} (t:Tx K mg "plus" IQ ["one","other"] f fd) (T:T K mg AL LN FR iF fCh fGM fCC fCA fPL SE NN NG NT NR NS) (D_fraction:Df P w K mg base (g6 P w) 2 "fraction" ["top","bottom"] (sU K NN) f1 fd1) :
  Df P w K mg base bY 3 "plus" ["one","other"] Dl f fd:=by
 refine t.gX Na (fun vs H Q E h=>?_) (fun cdv A outer s H vs Q E hr h=>?_)
 ·obtain⟨p,q,a,b,d,rfl,_⟩:=h;rfl
 ·obtain⟨p,q,a,b,d,rfl,hp,hq,d0,sd,sa,sb,k⟩:=h;obtain⟨e1,y1,_,_⟩:=dD (X:=a) d0;obtain⟨e2,y2,_,_⟩:=dD (X:=b) d0;have n2:1*1<=tb a d*tb b d:=qOs y1 y2 (by decide) (by omega);have s1:=j5 (X:=a) d0 sd;have s2:=j5 (X:=b) d0 sd;refine⟨_,(aH (aU (dR cA D_fraction hr (by decide) (by rfl) (aA (aR fP (aR bM (aS bI (pv 0) aE (fun _ _=>rfl)) (aS bI (pv 1) aE (fun _ _=>rfl))) (aR bM (aS bI (pv 1) aE (fun _ _=>rfl)) (aS bI (pv 0) aE (fun _ _=>rfl)))) (aA (aR bM (aS bI (pv 0) aE (fun _ _=>rfl)) (aS bI (pv 1) aE (fun _ _=>rfl))) aB))))),?_⟩;refine⟨_,rfl,p,_,_,_,rfl,rfl,cQ.of hp,rfl,_,rfl,q,_,_,_,rfl,rfl,cQ.of hq,rfl,_,_,rfl,rfl,(lH sa).mb s2,_,rfl,q,_,_,_,rfl,rfl,cQ.of hq,rfl,_,rfl,p,_,_,_,rfl,rfl,cQ.of hp,rfl,_,_,rfl,rfl,(lH sb).mb s1,_,_,rfl,rfl,_,rfl,p,_,_,_,rfl,rfl,cQ.of hp,rfl,_,rfl,q,_,_,_,rfl,rfl,cQ.of hq,rfl,_,_,rfl,rfl,s1.mb s2,?_⟩;dsimp only[iK,qCl,qCm];refine oZ (by show tb a d*tb b d≠0;omega) ((s1.mul s2).mono (by decide)) fun r hr=>k r _ (.aF hr) ?_;rw[aC];have e:fL (ta a d*tb b d+ta b d*tb a d) (tb a d*tb b d)=fL (a+b) d:=by
   refine kF (by omega) d0 ?_;have z1:(ta a d*tb b d+ta b d*tb a d)*d=(ta a d*d)*tb b d+(ta b d*d)*tb a d:=by grind
   rw[z1,e1,e2];grind
  exact congrArg some e
theorem Dm (g:Nat) (Y:Nat->Int):∀i,((hN g i).map fun h=>Y h.toNat).sum=Wg.sm i fun h=>bt g h*Y h
 | 0=>rfl
 | i+1=>by
  have ih:=Dm g Y i;show _=(Wg.sm i fun h=>bt g h*Y h)+bt g i*Y i;rw[<- ih];have eh:hN g (i+1)=if g/2^i%2=1 then hN g i++[(i:Int)] else hN g i:=rfl;rw[eh];unfold bt;split
  ·rename_i e;rw[e,qAt,qGn,qDf,qEl,qLd,qPb,qDr,qBi];simp
  ·have e:g/2^i%2=0:=by omega
   rw[e];simp
theorem Nb {m g i:Nat} (hg:g<2^m) (hi:m<=i):bt g i=0:=by
 unfold bt;rw[qOd (qAx hg (qBx (by decide) hi))];rfl
theorem tJ {m g:Nat}{Y:Nat->Int} (hg:g<2^m):∀k,(Wg.sm (m+k) fun h=>bt g h*Y h)=Wg.sm m fun h=>bt g h*Y h
 | 0=>rfl
 | k+1=>by
  show(Wg.sm (m+k) fun h=>bt g h*Y h)+bt g (m+k)*Y (m+k)=_;rw[tJ hg k,Nb hg (by omega),qBc,qDr]
def Dn (K:qAc):Sp:=fun vs H Q _=>∃(q:Addr) (m g:Nat) (Y:Nat->Int) (d:Int) (ws:List Addr),vs=[.int (g:Int),.ref q]/\jA m Y d H q ws/\m<=6/\g<2^m/\0<d/\Sm 3000 d/\(∀j,Sm 330000 (Y j)) /\
 ∀r H',aG H H'->H' r=some (fL (Wg.sm m fun i=>bt g i*Y i) d)->Q (.ref r) H'
theorem zR:aQ ["group","shares","total","hand"] ["group","shares"] (aI Jl):=by constructor<;>first|rfl|decide +kernel
theorem Dp {Y:Nat->Int} (hY:∀j,Sm 330000 (Y j)):∀(l:List Int),l.length<=60000->Sm (330000+l.length) (l.map fun h=>Y h.toNat).sum
 | [],_=>Sm.zero
 | h::l,hl=>by
  have ih:=Dp hY l (by rw[qCk] at hl;omega);rw[qDf,qLd,qCk];exact(((hY h.toNat).mono (qJw _ _)).add ih)
theorem Kl {f1 f2:Addr}{fd1 fd2:qBk} (t:Tx K mg "share_of" Jl ["group","shares"] f fd) (T:T K mg AL LN FR iF fCh fGM fCC fCA fPL SE NN NG NT NR NS) (D_hands_of:Df P w K mg base (g6 P w) 4 "hands_of" ["group"] (Dg K NG) f1 fd1)
  (D_plus:Df P w K mg base bY 3 "plus" ["one","other"] Dl f2 fd2):Df P w K mg base bY 5 "share_of" ["group","shares"] (Dn K) f fd:=by
 refine t.gX zR (fun vs H Q E h=>?_) (fun cdv A outer s H vs Q E hr h=>?_)
 ·obtain⟨q,m,g,Y,d,ws,rfl,_⟩:=h;rfl
 ·obtain⟨q,m,g,Y,d,ws,rfl,fl,m6,gm,d0,sd,sY,k⟩:=h;have h64:g<64:=qAx gm (xP m6);refine⟨_,(aD (aP (i:=2) zR.nd rfl bR (cI (aA aE (aA aE aB))))
   (aD (c9 PassesOwn.never rfl (bO (dR cA D_hands_of hr (by decide) (by rfl) (aA (pv 0) aB))) (aN (i:=3) zR.nd rfl bR)
    (aH (aP (i:=2) zR.nd rfl bR (aW D_plus hr (by decide) (by rfl) (aA (pv 2) (aA (aS a8 (pv 1) (pv 3) (fun _ _=>rfl)) aB))))))
   (aH (aU (pv 2))))),?_⟩
  refine⟨lS,fun r0 hr0=>?_⟩;have u0:=aG.aF (o:=.tup [V.int 0,V.int 1]) hr0;have k0:upd H r0 (.tup [V.int 0,V.int 1]) r0=some (fL 0 d):=by rw[oY d0];exact aC
  generalize upd H r0 (.tup [V.int 0,V.int 1])=H0 at u0 k0|-;refine⟨_,rfl,_,rfl,.int _,fun no=>?_,fun g' la H1 hv _ hla s1 hl1=>?_⟩
  ·exact absurd no (by rw[zD (m:=6) h64];decide)
  obtain rfl:g=g':=by have:=V.int.inj hv;omega
  have hal:∀h∈dG g,0<=h/\h<m:=fun h hh=>sT gm 6 h hh;have hlen:(dG g).length<=6:=xO g 6;refine⟨la,rfl,⟨_,aT.of hl1⟩,?_⟩;refine dX (xs:=(dG g).map V.int) (fun j σ' H'=>aG H1 H'/\∃(r:Addr) (o3:Option V),H' r=some (fL (((dG g).take j).map fun h=>Y h.toNat).sum d)/\σ'=[some (.int (g:Int)),some (.ref q),some (.ref r),o3]) ⟨.refl _,r0,_,s1 _ _ k0,rfl⟩ ?_ ?_ ?_
  ·rintro j σ' H' _ ⟨s2,_⟩;exact aT.of (s2 _ _ hl1)
  ·rintro j x σ' H2 hx ⟨s2,r,o3,hr2,rfl⟩;obtain⟨h,hh,rfl⟩:∃h:Int,(dG g)[j]?=some h/\V.int h=x:=by
    rw[qAp] at hx;cases e:(dG g)[j]? with
    | none=>rw[e] at hx;cases hx
    | some h=>rw[e] at hx;exact⟨h,rfl,Option.some.inj hx⟩
   obtain⟨z0,zm⟩:=hal h (qBe hh);have hw:h.toNat<ws.length:=by rw[fl.len];omega
   have s02:=u0.trans (s1.trans s2);have hat:gC (ws.map V.ref) h=some (.ref ws[h.toNat]):=by
    have z:=fJ (xs:=ws.map V.ref) (j:=h.toNat) (v:=.ref ws[h.toNat]) (by rw[qAp,qAd hw];rfl);rw[qDd z0] at z;exact z
   have sS:=Dp sY ((dG g).take j) (by rw[qEi];omega);refine⟨_,rfl,_,rfl,_,rfl,q,_,_,_,rfl,rfl,aT.of (s02 _ _ fl.hr),hat,r,ws[h.toNat],_,Y h.toNat,d,rfl,hr2,s02 _ _ (fl.at_ _ _ (qAd hw)),d0,sd,sS.mono (by rw[qEi];omega),(sY _).mono (by decide),fun r' H3 s3 h3=>?_⟩;refine⟨s2.trans s3,r',_,?_,rfl⟩;have et:(dG g).take (j+1)=(dG g).take j++[h]:=by rw[qFb,hh];rfl
   rw[h3,et,qAt,qGn,qDf,qEl,qLd,qPb,qDr]
  ·rintro σ' H2 ⟨s2,r,o3,hr2,rfl⟩;refine⟨_,rfl,k r H2 (u0.trans (s1.trans s2)) ?_⟩;rw[hr2,qAb,qEh];have e:((dG g).map fun h=>Y h.toNat).sum=Wg.sm m fun i=>bt g i*Y i:=by
    unfold dG;rw[Dm];have z:=tJ (Y:=Y) gm (6-m);rw[show m+(6-m)=6 by omega] at z;exact z
   rw[e]
theorem vH (a b c e:Int):PyData.eqv (.tuple [.int a,.int b]) (.tuple [.int c,.int e])=(decide (a=c)&&decide (b=e)):=by
 simp[PyData.eqv,PyData.eqvAll];rfl
theorem fM (a b:Int):(PyData.tuple [.int a,.int b]).depth<=64:=by simp[PyData.depth,PyData.depthAll]
theorem tK {K:qAc}{H:Hp}{w:Addr}{X d:Int} (h:H w=some (fL X d)):gR K H (.ref w) (.tuple [.int (ta X d),.int (tb X d)]):=.tup (cQ.of h) (.cons (.int _) (.cons (.int _) .nil))
theorem vI {X d c:Int} (d0:0<d):(decide (ta X d=c)&&decide (tb X d=1))=decide (X=c*d):=by
 obtain⟨e1,y1,_,yd⟩:=dD (X:=X) d0;by_cases h:X=c*d
 ·have z:fL X d=fL c 1:=kF d0 (by decide) (by rw[h];grind);have z1:fL c 1 = .tup [.int c,.int 1]:=by
   have e:dv c 1=1:=by unfold dv;rw[if_neg (by decide),qPt];rfl
   unfold fL;rw[e,qJt,qJt]
  rw[z1] at z;have z:HO.tup [V.int (ta X d),V.int (tb X d)]=HO.tup [V.int c,V.int 1]:=z;injection z with z;injection z with a b;injection b with b _;rw[decide_eq_true h,V.int.inj a,V.int.inj b];simp
 ·rw[decide_eq_false h];by_cases h1:tb X d=1
  ·rw[h1,qFa] at e1;rw[decide_eq_false fun z=>h (by rw[<- e1,z])];rfl
  ·rw[decide_eq_false h1,qIp]
def fD (H:Hp) (d:Int):List V->List (Int×Int)->Prop
 | [],[]=>True
 | v::vs,p::ps=>(∃a w,v = .ref a/\H a=some (.tup [.int p.1,.ref w])/\H w=some (fL p.2 d))/\fD H d vs ps
 | _,_=>False
theorem fD.t {H H':Hp}{d:Int} (s:kW H H'):∀{vs:List V}{ps:List (Int×Int)},fD H d vs ps->fD H' d vs ps
 | [],[],_=>trivial
 | v::vs,p::ps,⟨⟨a,w,e,h,h'⟩,r⟩=>⟨⟨a,w,e,s _ _ h,s _ _ h'⟩,r.t s⟩
 | [],_::_,h=>h.elim
 | _::_,[],h=>h.elim
theorem fD.app {H:Hp}{d:Int}{a w:Addr}{p:Int×Int} (h:H a=some (.tup [.int p.1,.ref w])) (h':H w=some (fL p.2 d)):∀{vs:List V}{ps:List (Int×Int)},fD H d vs ps->fD H d (vs++[.ref a]) (ps++[p])
 | [],[],_=>⟨⟨a,w,rfl,h,h'⟩,trivial⟩
 | v::vs,q::ps,⟨x,r⟩=>⟨x,r.app h h'⟩
 | [],_::_,h=>h.elim
 | _::_,[],h=>h.elim
def Lz (n:Nat) (X:Nat->Int):List (Int×Int):=((qAl n).filter fun j=>decide (X j≠0)).map fun(j:Nat)=>(1+(j:Int),X j)
theorem vJ (n:Nat) (X:Nat->Int):Lz (n+1) X=if X n≠0 then Lz n X++[(1+(n:Int),X n)] else Lz n X:=by
 unfold Lz;rw[qBm,qHa,qAt,qEd,qHy];by_cases h:X n≠0
 ·rw[if_pos (decide_eq_true h),if_pos h];rfl
 ·rw[if_neg (by rw[decide_eq_false h];exact qAm),if_neg h,qEl,qDp]
structure OL (m n:Nat) (tb:Nat->Int) (d:Int) (Y:Nat->Int):Prop where
 d0:0<d
 ds:Sm 3000 d
 sY:∀j,Sm 300000 (Y j)
 no:∀g,g<n->tb g*d<=Wg.sm m fun i=>bt g i*Y i
 all:(Wg.sm m Y)=tb (n-1)*d
structure Nc (m n:Nat) (tb:Nat->Int) (d:Int) (X:Nat->Int):Prop where
 d0:0<d
 ds:Sm 3000 d
 sX:∀j,Sm 300000 (X j)
 x0:∀j,0<=X j
 dG:∀i,i<m->(Wg.sm (n-1) fun j=>bt (j+1) i*X j)=d
 more:tb (n-1)*d<Wg.sm (n-1) fun j=>tb (j+1)*X j
def vK (m n:Nat) (tb:Nat->Int) (H H':Hp) (r:Addr):Prop :=
 (∃lp ps d Y,H' r=some (.tup [.str "shares",.ref lp])/\jA m Y d H' lp ps/\H lp=none/\OL m n tb d Y) \/
 (∃lz ys d X,H' r=some (.tup [.str "weighing",.ref lz])/\H' lz=some (.lst ys)/\H lz=none/\fD H' d ys (Lz (n-1) X)/\Nc m n tb d X)
theorem vK.same {m n:Nat}{tb:Nat->Int}{H0 H H':Hp}{r:Addr} (h:vK m n tb H0 H r) (s:aG H H'):vK m n tb H0 H' r:=by
 rcases h with ⟨lp,ps,d,Y,a,b,c,e⟩ | ⟨lz,ys,d,X,a,b,c,e,e'⟩
 ·exact .inl ⟨lp,ps,d,Y,s _ _ a,b.same s,c,e⟩
 ·exact .inr ⟨lz,ys,d,X,s _ _ a,s _ _ b,c,e.t s.t,e'⟩
def Gz (K:qAc) (NT:Addr):Sp:=fun vs H Q E=>∃(p:Addr) (xs:List V),vs=[.ref p]/\H p=some (.lst xs)/\(∀v∈xs,Pl K H v)/\xs.length<=1000/\(iO xs=false->∀H',aG H H'->E (.ref NT) none H') /\
 (iO xs=true->∃(m n:Nat) (tb:Nat->Int),1<=m/\m<=6/\n=2^m/\xs=bB n tb/\tb 0=0/\(∀j,Sm 90000 (tb j))/\∀r H',aG H H'->vK m n tb H H' r->Q (.ref r) H')
theorem tL:∀a b:_root_.Fin 7,2^a.1=2^b.1->a.1=b.1:=by decide
theorem Fo {m n:Nat} (m1:1<=m) (m6:m<=6) (hn:n<=64):Inst m (n-1) (fun j=>bt (j+1)) (fun _=>1):=⟨m1,by omega,by omega,fun j i=>(pB (j+1) i).mono (by decide),fun _=>Sm.of 2 (by decide) (by decide)⟩
theorem OM:∀m:_root_.Fin 7,Wg.pP m.1*1^m.1<2^3000:=by decide +kernel
theorem vL {m:Nat}{A:Nat->Nat->Int}{due:Nat->Int}{d:Int} (m6:m<=6) (dm:oX m A due d) (hA:∀j i,(A j i).natAbs<=1) (hd:∀i,(due i).natAbs<=1):Sm 3000 d :=
 qBq (dm 1 (qAg _) hA hd) (OM ⟨m,by omega⟩)
theorem mO (g i:Nat):(bt g i).natAbs<=1:=by rcases qZ g i with e | e <;> rw[e] <;> decide
theorem lI:∀(m:_root_.Fin 7) (i:_root_.Fin 6),i.1<m.1->bt (2^m.1-1) i.1=1:=by decide +kernel
theorem iD {m:Nat} (m6:m<=6) (Y:Nat->Int):(Wg.sm m fun i=>bt (2^m-1) i*Y i)=Wg.sm m Y:=Wg.aV fun i hi=>by
 rw[show bt (2^m-1) i=1 from lI ⟨m,by omega⟩ ⟨i,by omega⟩ hi,qCj]
theorem rB:∀(m:_root_.Fin 7) (g:_root_.Fin 64),1<=g.1->g.1<2^m.1->∃i:_root_.Fin 6,i.1<m.1/\bt g.1 i.1=1:=by decide +kernel
theorem oR {n:Nat}{f:Nat->Int} (h:∀j,j<n->0<=f j):0<=Wg.sm n f:=by
 have z:(Wg.sm n fun _=>(0:Int))=0:=Wg.bX fun _ _=>rfl;rw[<- z];exact Wg.qH h
theorem pC {n:Nat}{f:Nat->Int} (h:∀j,j<n->0<=f j) (e:Wg.sm n f=0):∀j,j<n->f j=0:=by
 induction n with
 | zero=>intro j hj;omega
 | succ n ih =>
  have e:Wg.sm n f+f n=0:=e;have a:=oR (n:=n) fun j hj=>h j (by omega);have b:=h n (by omega);intro j hj;by_cases z:j=n
  ·subst z;omega
  ·exact ih (fun j hj=>h j (by omega)) (by omega) j (by omega)
theorem Fp {n:Nat}{g:Nat->Int}:gQ (bB n g) (some 1) none=bB (n-1) fun j=>g (j+1):=by
 rw[show(1:Int)=((1:Nat):Int) from rfl,CK];refine qFd fun i=>?_;rw[qMx];rcases qAk i (n-1) with h | h
 ·rw[dB (by omega),dB h,qIe]
 ·rw[qBn (by rw[aJ];omega),qBn (by rw[aJ];omega)]
theorem kG {X d:Int} (d0:0<d):(!PyData.eqv (.tuple [.int (ta X d),.int (tb X d)]) (.tuple [.int 0,.int 1]))=decide (X≠0):=by
 rw[vH,vI d0,qBc];by_cases h:X=0
 ·rw[decide_eq_true h,decide_eq_false (fun z=>z h)];rfl
 ·rw[decide_eq_false h,decide_eq_true h];rfl
theorem nA:aQ ["table","many","whole","groups","columns","told","weights","prices"] ["table"] (aI Jm):=by constructor<;>first|rfl|decide +kernel
theorem Km {f1 f2 f3 f4 f5:Addr}{fd1 fd2 fd3 fd4 fd5:qBk} (t:Tx K mg "stable" Jm ["table"] f fd) (T:T K mg AL LN FR iF fCh fGM fCC fCA fPL SE NN NG NT NR NS) (D_hands_in:Df P w K mg base (g6 P w) 3 "hands_in" ["table"] (zP K NT) f1 fd1) (D_whole_company:Df P w K mg base bY 1 "whole_company" ["many"] De f2 fd2)
  (D_marks_of:Df P w K mg base bY 1 "marks_of" ["group","many"] rA f3 fd3) (D_weigh:Df P w K mg base (g6 P w) 5 "weigh" ["columns","due","gains"] (qX K NR) f4 fd4) (D_share_of:Df P w K mg base bY 5 "share_of" ["group","shares"] (Dn K) f5 fd5) :
  Df P w K mg base (g6 P w) 6 "stable" ["table"] (Gz K NT) f fd:=by
 refine t.Ec nA (fun vs H Q E h=>?_) (fun cdv _A outer s H vs Q E hr h=>?_)
 ·obtain⟨p,xs,rfl,_⟩:=h;rfl
 ·obtain⟨p,xs,rfl,hp,pl,hl,k0,k⟩:=h;refine⟨_,(aD (aP (i:=1) nA.nd rfl (by first|exact .inl rfl|exact .inr rfl) (dR cG.toPass D_hands_in hr (by decide) (by rfl) (aA (pv 0) aB)))
   (aD (aP (i:=2) nA.nd rfl bR (aW D_whole_company hr (by decide) (by rfl) (aA (pv 1) aB)))
   (aD (aP (i:=3) nA.nd rfl (by first|exact .inl rfl|exact .inr rfl) (jX (by rfl) T.cN (by rfl) T.cD rfl (aA aE (aA (aR fP (pv 2) aE) aB))))
   (aD (eB (NB:=["group","many"]) (pick:=[none,some 1]) (i:=4) nA.nd rfl bR (by rfl) (bJ (by with_unfolding_all rfl) (by exact(And.intro rfl trivial)) rfl (by decide +kernel) (by decide +kernel) (by rfl) (by rfl)) rfl
     (bO (pv 3)) (fun _ _ _=>aN (i:=0) (show(["group","many"]:List Str).Nodup from by decide +kernel) rfl bR)
     (fun _ _ _=>bK) (fun _ _ _=>(aW D_marks_of hr (by decide) (by rfl) (aA (pv 0) (aA (pv 1) aB)))))
   (aD (aP (i:=5) nA.nd rfl bR (dR cG.toPass D_weigh hr (by decide) (by rfl) (aA (pv 4) (aA (aR fQ (bU (aA aE aB)) (pv 1)) (aA (i5 rN (pv 0) (kO aE) kN) aB)))))
   (aD (aP (i:=6) nA.nd rfl (by first|exact .inl rfl|exact .inr rfl) (aS bI (pv 5) aE (fun _ _=>rfl)))
   (aD (aP (i:=7) nA.nd rfl bR (aS bI (pv 5) aE (fun _ _=>rfl)))
   (aD (cF (aZ (EL hr.units) (aW D_share_of hr (by decide) (by rfl) (aA (pv 2) (aA (pv 7) aB))) (cI (aA (aS a8 (pv 0) (pv 2) (fun _ _=>rfl)) (aA aE aB))) (aY _)) (aH (aU (cI (aA eJ (aA (pv 7) aB))))) bH)
   (aH (aU (cI (aA eJ (aA (bP (NB:=["group","weight"]) (pick:=[none,none]) (bJ (by with_unfolding_all rfl) (by exact trivial) rfl (by decide +kernel) (by decide +kernel) (by rfl) (by rfl)) rfl
     (gE (by rfl) T.gK (aA (pv 3) (aA (pv 6) aB))) (fun _ _ _=>(show PG _ _ (n6 K 2 (dU (aX 0) (dU (aX 1) n4))) from eL rfl (bF (aN (i:=0) (show(["group","weight"]:List Str).Nodup from by decide +kernel) rfl bR) (bF (aN (i:=1) (show(["group","weight"]:List Str).Nodup from by decide +kernel) rfl bR) c8))))
     (fun _ _ _=>eW (aZ (oM K hr.units) (pv 1) (cI (aA aE (aA aE aB))) (aY _))) (fun _ _ _=>(cI (aA (pv 0) (aA (pv 1) aB))))) aB))))))))))))),?_⟩
  refine⟨_,rfl,p,xs,rfl,hp,pl,hl,k0,fun m' m1' m6' hm' yes H1 s1=>?_⟩;obtain⟨m,n,tb,m1,m6,hn,rfl,t0,st,k⟩:=k yes;rw[aJ,hn] at hm';obtain rfl:m=m':=tL ⟨m,by omega⟩ ⟨m',by omega⟩ hm';have n64:n<=64:=by rw[hn];exact xP m6
  have n2:2<=n:=by rw[hn];exact qBx (n:=2) (i:=1) (by decide) m1
  have cn:(2:Int)^m-1=((n-1:Nat):Int):=by
   have e:((2^m:Nat):Int)=(2:Int)^m:=by push_cast;rfl
   rw[<- e,<- hn];omega
  refine⟨_,rfl,m,rfl,m6,fun H2 s2=>?_⟩;rw[cn];have s2:=s1.trans s2;refine⟨_,rfl,_,_,rfl,rfl,1,_,n-1,rfl,by omega,by omega,by decide,by decide,fun pg hpg=>?_⟩;have u3:=aG.aF (o:=.lst (eD 1 (n-1))) hpg;have e3:upd H2 pg (.lst (eD 1 (n-1))) pg=some (.lst (bB (n-1) fun j=>1+(j:Int))):=aC;generalize upd H2 pg (.lst (eD 1 (n-1)))=H3 at u3 e3|-;have s3:=s2.trans u3;refine⟨_,rfl,pg,rfl,⟨_,aT.of e3⟩,?_⟩;refine jH (xs:=bB (n-1) fun j=>1+(j:Int)) (fun j=>bB m (bt (j+1))) (aT.of e3) (by rw[aJ];exact qAn (aK (by omega))) (fun j y H4 kk kk0 s4 hy g1=>?_) fun pc cs H4 hpc s4 hcs ncs hD=>?_
  ·obtain⟨hj,rfl⟩:=dN hy;exact⟨_,rfl,_,rfl,j+1,m,(by show [V.int (1+(j:Int)),V.int (m:Int)]=[V.int ((j+1:Nat):Int),V.int (m:Int)];rw[show(1:Int)+(j:Int)=((j+1:Nat):Int) by omega]),by omega,m6,fun D H5 hD5 s5 h5=>g1 D H5 s5 hD5 h5⟩
  have hg4:=s4 _ _ e3;have s34:=s4;have s4:=s3.trans s4;refine⟨_,rfl,j6,fun a1 ha1=>?_⟩;have u6:=aG.aF (o:=.lst [.int 1]) ha1;have e6:upd H4 a1 (.lst [.int 1]) a1=some (.lst [.int 1]):=aC;generalize upd H4 a1 (.lst [.int 1])=H6 at u6 e6|-;refine⟨_,rfl,a1,_,_,rfl,rfl,e6,by omega,by omega,?_,fun pd hpd=>?_⟩
  ·show 1*((m:Nat):Int).toNat<=qAj;exact qAn (aK (by omega))
  rw[qBi,fB];have u7:=aG.aF (o:=.lst (bB m fun _=>1)) hpd;have e7:upd H6 pd (.lst (bB m fun _=>1)) pd=_:=aC;generalize upd H6 pd (.lst (bB m fun _=>1))=H7 at u7 e7|-;have s47:=u6.trans u7;have s7:=s4.trans s47;refine⟨_,rfl,_,rfl,p,_,rfl,aT.of (s7 _ _ hp),fun pgn hpgn=>?_⟩;rw[Fp];have u8:=aG.aF (o:=.lst (bB (n-1) fun j=>tb (j+1))) hpgn;have e8:upd H7 pgn (.lst (bB (n-1) fun j=>tb (j+1))) pgn=_:=aC;generalize upd H7 pgn (.lst (bB (n-1) fun j=>tb (j+1)))=H8 at u8 e8|-;have s48:=s47.trans u8;dsimp only[iK,qCl,qCm];refine tI (Fo m1 m6 n64) ⟨s48 _ _ hD,by rw[hcs,aJ],fun j c e=>s48 _ _ (ncs.at_ j c e).2.2,u8 _ _ e7⟩ e8 (fun j=>st (j+1)) fun r H9 s9 told=>?_;have s9':=s7.trans (u8.trans s9);have hp9:=s9' _ _ hp;have hg9:=s9 _ _ (s48 _ _ hg4);rcases told with ⟨lw,lp,ws,ps,d,X,Y,to⟩ | ⟨lp,ps,d,Y,to⟩ | ⟨lw,lp,ws,ps,d,X,Y,to⟩
  ·have a1:gC [V.str "best",V.ref lw,V.ref lp] 1=some (.ref lw):=rfl;have a2:gC [V.str "best",V.ref lw,V.ref lp] 2=some (.ref lp):=rfl;have sd:=vL m6 to.dm (fun j i=>mO (j+1) i) (fun _=>qAg _);have d0:=to.d0;have sm1:(Wg.sm m fun i=>1*Y i)=Wg.sm m Y:=Wg.aV fun i _=>qCj _;have same:=to.same;rw[sm1] at same;refine⟨_,rfl,r,_,_,_,rfl,rfl,cQ.of to.tup,a1,?_⟩;refine⟨_,rfl,r,_,_,_,rfl,rfl,cQ.of to.tup,a2,?_⟩;refine⟨_,rfl,_,rfl,lp,m,n-1,Y,d,ps,rfl,to.fp,m6,by omega,d0,sd,fun j=>(to.sY j).mono (by decide),fun rs H10 s10 h10=>?_⟩;have hp10:=s10 _ _ hp9;refine⟨_,rfl,_,rfl,p,_,_,_,rfl,rfl,aT.of hp10,bN (by omega),lS,fun rt hrt=>?_⟩;have u11:=aG.aF (o:=.tup [.int (tb (n-1)),.int 1]) hrt;have x11:upd H10 rt (.tup [.int (tb (n-1)),.int 1]) rt=_:=aC;generalize upd H10 rt (.tup [.int (tb (n-1)),.int 1])=H11 at u11 x11|-;have s11:=s10.trans u11;refine⟨_,_,tK (u11 _ _ h10),.tup (cQ.of x11) (.cons (.int _) (.cons (.int _) .nil)),fM _ _,fM _ _,_,rfl,?_⟩;rw[vH,vI d0,show n-1=2^m-1 by omega,iD m6,show 2^m-1=n-1 by omega];have colg:∀g,1<=g->g<n->tb g*d<=Wg.sm m fun i=>bt g i*Y i:=fun g h1 h2=>by
    have z:=to.cols (g-1) (by omega);rw[show g-1+1=g by omega] at z;exact z
   refine cP (fun e=>?_) (fun e=>?_)
   ·have e:=of_decide_eq_true e;refine⟨_,rfl,lS,fun r2 hr2=>?_⟩;have u12:=aG.aF (o:=.tup [.str "shares",.ref lp]) hr2;refine k r2 _ (s9'.trans (s11.trans u12)) (.inl ⟨lp,ps,d,Y,aC,(to.fp.same s11).same u12,(s7.trans u8).free to.np,d0,sd,to.sY,fun g hg=>?_,e⟩);rcases qEm g with z | z
    ·subst z;rw[t0,qBc,Wg.bX fun i _=>by rw[show bt 0 i=0 by unfold bt;rw[qLz];rfl,qBc]];exact qCv _
    ·exact colg g z hg
   ·have e:¬(Wg.sm m Y=tb (n-1)*d):=fun z=>e (decide_eq_true z);have more:tb (n-1)*d<Wg.sm m Y:=by
     have z:=colg (n-1) (by omega) (by omega);rw[show n-1=2^m-1 by omega,iD m6,show 2^m-1=n-1 by omega] at z;omega
    have fw11:=to.fw.same s11;refine⟨_,rfl,_,rfl,pg,lw,rfl,⟨_,aT.of (s11 _ _ hg9)⟩,⟨_,aT.of fw11.hr⟩,?_⟩;refine mF (xs:=bB (n-1) fun j=>1+(j:Int)) (xs':=ws.map V.ref) (fun σ'=>∃o0 o1:Option V,σ'=[o0,o1]) (fun i ys H'=>fD H' d ys (Lz i X) ) (fun i ys H1 H2 st h=>h.t st) ⟨_,_,rfl⟩ trivial (aT.of (s11 _ _ hg9)) (aT.of fw11.hr) (by rw[aJ,qAb,to.fw.len]) (by rw[aJ];exact qAn (aK (by omega))) (fun i x y tt σ1 H12 kk kk0 ys hσ s12 hx hy ht iv g1 g2=>?_) fun D ys H12 hD s12 iv hd=>?_
    ·obtain⟨o0,o1,rfl⟩:=hσ;obtain⟨hi,rfl⟩:=dN hx;obtain⟨w',hw',rfl⟩:=cW hy;have hfw:=s12 _ _ (fw11.at_ i w' hw');refine⟨tt,_,rfl,cQ.of ht,rfl,?_⟩;refine⟨_,_,rfl,_,_,rfl,rfl,_,rfl,lS,fun z1 hz1=>?_⟩;have u13:=aG.aF (o:=.tup [.int 0,.int 1]) hz1;have x13:upd H12 z1 (.tup [.int 0,.int 1]) z1=_:=aC;generalize upd H12 z1 (.tup [.int 0,.int 1])=H13 at u13 x13|-;refine⟨_,_,tK (u13 _ _ hfw),.tup (cQ.of x13) (.cons (.int _) (.cons (.int _) .nil)),fM _ _,fM _ _,_,rfl,?_⟩;rw[kG d0];by_cases e:X i≠0
     ·refine cP (fun _=>?_) (fun no=>absurd (decide_eq_true e) no);refine⟨_,rfl,_,rfl,lS,fun z2 hz2=>?_⟩;have u14:=aG.aF (o:=.tup [.int (1+(i:Int)),.ref w']) hz2;refine g1 _ _ _ ⟨_,_,rfl⟩ (u13.trans u14) ?_;rw[vJ,if_pos e];exact fD.app (p:=(1+(i:Int),X i)) aC (u14 _ _ (u13 _ _ hfw)) (iv.t (u13.trans u14).t)
     ·refine cP (fun y=>absurd (of_decide_eq_true y) e) (fun _=>g2 _ _ ⟨_,_,rfl⟩ u13 ?_);rw[vJ,if_neg e];exact iv.t u13.t
    ·rw[aJ] at iv;refine⟨lS,fun r2 hr2=>?_⟩;have u15:=aG.aF (o:=.tup [.str "weighing",.ref D]) hr2;refine k r2 _ (s9'.trans (s11.trans (s12.trans u15))) (.inr ⟨D,ys,d,X,aC,u15 _ _ hd,(s9'.trans s11).free hD,iv.t u15.t,d0,sd,to.sX,to.x0,fun i hi=>?_,?_⟩)
     ·rw[to.meets i hi,qCj]
     ·rw[<- same];exact more
  ·have z:=to.neg;have y:=to.cols (n-2) (by omega);have sm1:(Wg.sm m fun i=>1*Y i)=Wg.sm m Y:=Wg.aV fun i _=>qCj _;rw[sm1] at z;rw[show n-2+1=2^m-1 by omega,iD m6] at y;omega
  ·have z0:∀j,j<n-1->Y j=0:=fun j hj=>by
    obtain⟨i,hi,hb⟩:=rB ⟨m,by omega⟩ ⟨j+1,by omega⟩ (by show 1<=j+1;omega) (by show j+1<2^m;omega);have aw:=to.away i.1 hi;have zz:=pC (fun j' _=>qEc (by rcases qZ (j'+1) i.1 with e | e <;> rw[e] <;> decide) (to.z0 j')) aw j hj
    dsimp only at hb zz;rw[hb,qCj] at zz;exact zz
   have mo:=to.more;rw[Wg.bX fun j hj=>by rw[z0 j hj,qBv]] at mo;exact absurd mo (by decide)
def ON:V->V->Bool
 | .int a,.int b=>decide (1<=b)&&decide (qBo a b=1)
 | _,_=>false
inductive vM (K:qAc) (H:Hp):V->Bool->Prop where
 | other {v:V}{T:String} (ty:i3 K H v (.type T)) (kd:Kd T) (n:(T == "tuple")=false):vM K H v false
 | len {p:Addr}{xs:List V} (h:H p=some (.tup xs)) (n:xs.length≠2):vM K H (.ref p) false
 | two {p:Addr}{x y:V}{b:Bool} (h:H p=some (.tup [x,y])) (px:Pl K H x) (py:Pl K H y) (e:ON x y=b):vM K H (.ref p) b
theorem vM.same {K:qAc}{H H':Hp}{v:V}{b:Bool} (h:vM K H v b) (s:aG H H'):vM K H' v b:=by
 cases h with
 | other ty kd n=>exact .other (s.ty ty) kd n
 | len h n=>exact .len (s _ _ h) n
 | two h px py e=>exact .two (s _ _ h) (px.same s) (py.same s) e
def GA (K:qAc):Sp:=fun vs H Q _=>∃v b,vs=[v]/\vM K H v b/\Q (.bl b) H
theorem Dq:aQ ["thing","top","bottom"] ["thing"] (aI Jn):=by constructor<;>first|rfl|decide +kernel
theorem Kn {f1 f2:Addr}{fd1 fd2:qBk} (t:Tx K mg "is_fraction" Jn ["thing"] f fd) (T:T K mg AL LN FR iF fCh fGM fCC fCA fPL SE NN NG NT NR NS) (D_is_number:Df P w K mg base bY 1 "is_number" ["thing"] (m9 K) f1 fd1) (D_greatest_divisor:Df P w K mg base bY 1 "greatest_divisor" ["one","other"] zF f2 fd2) :
  Df P w K mg base bY 2 "is_fraction" ["thing"] (GA K) f fd:=by
 refine t.gX Dq (fun vs H Q E h=>?_) (fun cdv A outer s H vs Q E hr h=>?_)
 ·obtain⟨v,b,rfl,_⟩:=h;rfl
 ·obtain⟨v,r,rfl,fi,k⟩:=h;refine⟨_,(aD (cF (PW.pt (pw_or (cL (cE (aL cZ (by rfl) T.fK fG (aA (pv 0) (aA (dO (v:=.ty "tuple") (by rfl) T.iM oG rfl) aB))))) (pw_or1 (aZ iZ (aL aO (by rfl) T.bZ bQ (aA (pv 0) aB)) aE (aY _))))) (aH (aU iS)) bH)
   (aD (aP (i:=1) Dq.nd rfl bR (aS bI (pv 0) aE (fun _ _=>rfl)))
   (aD (aP (i:=2) Dq.nd rfl bR (aS bI (pv 0) aE (fun _ _=>rfl)))
   (aD (cF (PW.pt (pw_or (cL (cE (aW D_is_number hr (by decide) (by rfl) (aA (pv 1) aB)))) (pw_or1 (cL (cE (aW D_is_number hr (by decide) (by rfl) (aA (pv 2) aB))))))) (aH (aU iS)) bH)
   (aH (aU (iU (dA Br (pv 2) aE (aY _)) (iT (dA hJ (aW D_greatest_divisor hr (by decide) (by rfl) (aA (pv 1) (aA (pv 2) aB))) aE (aY _)))))))))),?_⟩
  cases fi with
  | other ty kd n =>
   refine⟨_,rfl,v,.ty "tuple",_,_,_,rfl,rfl,.of ty,kd.oH K,_,rfl,?_⟩;rw[n];exact eV (eV k)
  | @len p xs h n =>
   refine⟨_,rfl,.ref p,.ty "tuple",_,_,_,rfl,rfl,.of (.tup h),Kd.tup.oH K,_,rfl,?_⟩;refine dJ ⟨_,rfl,p,_,rfl,.inr (cQ.of h),rfl,_,rfl,?_⟩;refine cP (fun _=>k) (fun h2=>absurd ?_ h2);show(!decide (V.int (xs.length:Int)=V.int 2))=true;rw[decide_eq_false (fun q=>n (by have:=V.int.inj q;omega))];rfl
  | @two p x y _ h px py e =>
   refine⟨_,rfl,.ref p,.ty "tuple",_,_,_,rfl,rfl,.of (.tup h),Kd.tup.oH K,_,rfl,?_⟩;refine dJ ⟨_,rfl,p,_,rfl,.inr (cQ.of h),rfl,_,rfl,?_⟩;refine yK rfl ?_;refine⟨_,rfl,p,_,_,x,rfl,rfl,cQ.of h,rfl,?_⟩;refine⟨_,rfl,p,_,_,y,rfl,rfl,cQ.of h,rfl,?_⟩;refine⟨_,rfl,x,rfl,px,_,rfl,?_⟩;cases e1:jQ x with
   | false =>
    have z:r=false:=by
     rw[<- e];cases x with
     | int a=>cases e1
     | _=>rfl
    subst z;exact eV (eV k)
   | true =>
    refine dJ ⟨_,rfl,y,rfl,py,_,rfl,?_⟩;cases e2:jQ y with
    | false =>
     have z:r=false:=by
      rw[<- e];cases x with
      | int a =>
       cases y with
       | int b=>cases e2
       | _=>rfl
      | _=>rfl
     subst z;exact eV k
    | true =>
     refine dJ ?_;cases x with
     | int a =>
      cases y with
      | int b =>
       have e':(decide (1<=b)&&decide (qBo a b=1))=r:=e;refine⟨_,rfl,_,_,rfl,rfl,_,rfl,?_⟩;refine cP (fun h2=>?_) (fun h2=>?_)
       ·refine⟨_,rfl,_,rfl,a,b,rfl,rfl,?_⟩;have z:decide (V.int ((qBo a b:Nat):Int)=V.int 1)=r:=by
         rw[<- e',h2,qJa];by_cases hg:qBo a b=1
         ·rw[decide_eq_true hg,hg];rfl
         ·rw[decide_eq_false hg,decide_eq_false (fun q=>hg (by have:=V.int.inj q;omega))]
        rw[z];exact k
       ·have z:r=false:=by rw[<- e',Bool.eq_false_iff.mpr h2,qFh]
        subst z;exact k
      | _=>cases e2
     | _=>cases e1
def GB (K:qAc) (H:Hp) (xs:List V) (bs:List Bool):Prop:=bs.length=xs.length/\∀(i:Nat) (x:V) (b:Bool),xs[i]?=some x->bs[i]?=some b->vM K H x b
def nB (m:Nat) (xs:List V) (bs:List Bool):Bool:=decide (xs.length=m)&&bs.all id
def GC (K:qAc) (NS:Addr):Sp:=fun vs H Q E=>∃(q:Addr) (xs:List V) (bs:List Bool) (m:Nat),vs=[.ref q,.int (m:Int)]/\H q=some (.lst xs)/\xs.length<=60/\GB K H xs bs/\(nB m xs bs=false->∀H',aG H H'->E (.ref NS) none H')/\(nB m xs bs=true->∀H',aG H H'->Q .non H')
theorem Nd:aQ ["shares","many"] ["shares","many"] (aI Jp):=by constructor<;>first|rfl|decide +kernel
theorem Ko {f1:Addr}{fd1:qBk} (t:Tx K mg "check_shares" Jp ["shares","many"] f fd) (T:T K mg AL LN FR iF fCh fGM fCC fCA fPL SE NN NG NT NR NS) (D_is_fraction:Df P w K mg base bY 2 "is_fraction" ["thing"] (GA K) f1 fd1) :
  Df P w K mg base (g6 P w) 3 "check_shares" ["shares","many"] (GC K NS) f fd:=by
 refine t.Ec Nd (fun vs H Q E h=>?_) (fun cdv A outer s H vs Q E hr h=>?_)
 ·obtain⟨q,xs,bs,m,rfl,_⟩:=h;rfl
 ·obtain⟨q,xs,bs,m,rfl,hq,hl,fi,k0,k⟩:=h;refine⟨_,(aH (cF (PW.pt (pw_or (cL (cE (aL cZ (by rfl) T.fK fG (aA (pv 0) (aA (dO (v:=.ty "list") (by rfl) T.cN cX rfl) aB))))) (pw_or (aZ iZ (aL aO (by rfl) T.bZ bQ (aA (pv 0) aB)) (pv 1) (aY _)) (pw_or1 (cL (cE (aL (kT rfl) (by rfl) T.mZ rV (aA (bP (NB:=["share"]) (pick:=[none]) (bJ (by with_unfolding_all rfl) (by exact trivial) rfl (by decide +kernel) (by decide +kernel) (by rfl) (by rfl)) rfl
     (bO (pv 0)) (fun _ _ _=>aN (i:=0) (show(["share"]:List Str).Nodup from by decide +kernel) rfl bR)
     (fun _ _ _=>bK) (fun _ _ _=>(aW D_is_fraction hr (by decide) (by rfl) (aA (pv 0) aB)))) aB)))))))) (aH (eX cG rfl (by rfl) T.MC T.MF (aA eJ aB))) bH)),?_⟩
  refine⟨_,rfl,.ref q,.ty "list",_,_,_,rfl,rfl,.of (.lst hq),Kd.lst.p8 K,_,rfl,dJ ?_⟩;refine⟨_,rfl,q,_,rfl,.inl (aT.of hq),_,rfl,rfl,_,rfl,?_⟩;by_cases e:xs.length=m
  ·subst e;refine yK rfl ?_;refine⟨_,rfl,q,rfl,⟨_,aT.of hq⟩,?_⟩;refine cM (xs:=xs) (fun i _=>some (.bl (bs.getD i false))) (aT.of hq) (qAn (aK (by omega))) (fun i x H2 kk kk0 s2 hx h1 h2=>?_) fun D H2 hD s2 hd=>?_
   ·have hi:i<bs.length:=by
     obtain⟨z,_⟩:=List.getElem?_eq_some_iff.mp hx;rw[fi.1];exact z
    have eb:bs[i]?=some (bs.getD i false):=by rw[qAq,qAd hi];rfl
    exact⟨_,rfl,x,_,rfl,(fi.2 i x _ hx eb).same s2,h1 _ rfl _ (.refl _)⟩
   have ed:((qAl xs.length).filterMap fun i=>(xs[i]?).bind fun _=>some (V.bl (bs.getD i false)))=bs.map V.bl:=by
    rw[<- fi.1];refine Eq.trans (cU (g:=fun i=>some (V.bl (bs.getD i false))) fun i hi=>?_) ?_
    ·have hi:=List.mem_range.mp hi;rw[qAd (by rw[<- fi.1];exact hi)];rfl
    ·rw[qDu];refine qNr (by rw[qAb,qAb,qAw]) fun i a b=>?_;rw[qAb] at b;rw[qJp,qJp,qMw,qAq,qAd b];rfl
   rw[ed] at hd;refine⟨D,_,rfl,aT.of hd,_,rfl,?_⟩;have eg:nB xs.length xs bs=bs.all id:=by unfold nB;rw[decide_eq_true rfl,qJa]
   cases ea:bs.all id with
   | false=>exact eV ⟨j6,k0 (eg.trans ea) H2 s2⟩
   | true=>exact dJ (k (eg.trans ea) H2 s2)
  ·have eg:nB m xs bs=false:=by unfold nB;rw[decide_eq_false e];rfl
   rw[decide_eq_false (show ¬V.int (xs.length:Int)=V.int (m:Int) from fun z=>e (by have:=V.int.inj z;omega))];exact eV (eV ⟨j6,k0 eg H (.refl _)⟩)
theorem tM {m n:Nat}{tb:Nat->Int} (m1:1<=m) (m6:m<=6) (hn:n=2^m) (h0:tb 0=0):iO (bB n tb)=true:=by
 rw[lB];have n0:0<n:=by rw[hn];exact Nat.pow_pos (by decide)
 exact Fn (m:=m) ⟨m1,m6,by rw[qAb,qAw,hn],by rw[qAp,qCz n0];exact congrArg some h0⟩
def GD:Sp:=fun vs H Q _=>∃(p q:Addr) (S d e:Int),vs=[.ref p,.ref q]/\H p=some (fL S d)/\H q=some (.tup [.int e,.int 1])/\0<d/\Sm 3000 d/\Sm 400000 S/\Sm 400000 e/\Q (.bl (decide (S<e*d))) H
theorem Nf:aQ ["one","other"] ["one","other"] (aI Jo):=by constructor<;>first|rfl|decide +kernel
theorem Kq {S d e:Int} (d0:0<d):decide (ta S d*1<e*tb S d)=decide (S<e*d):=by
 obtain⟨e1,y1,_,_⟩:=dD (X:=S) d0;rw[qFa];refine decide_eq_decide.mpr ⟨fun h=>?_,fun h=>?_⟩
 ·have z:=qCu h d0;rw[e1,show e*tb S d*d=e*d*tb S d by grind] at z;exact qEj z (by omega)
 ·have z:=qCu h (show 0<tb S d by omega);rw[<- e1,show e*d*tb S d=e*tb S d*d by grind] at z;exact qEj z (by omega)
theorem Kr (t:Tx K mg "under" Jo ["one","other"] f fd) (T:T K mg AL LN FR iF fCh fGM fCC fCA fPL SE NN NG NT NR NS):Df P w K mg base bY 1 "under" ["one","other"] GD f fd:=by
 refine t.gX Nf (fun vs H Q E h=>?_) (fun cdv A outer s H vs Q E hr h=>?_)
 ·obtain⟨p,q,S,d,e,rfl,_⟩:=h;rfl
 ·obtain⟨p,q,S,d,e,rfl,hp,hq,d0,sd,sS,se,k⟩:=h;refine⟨_,(aH (aU (dA hU (aR bM (aS bI (pv 0) aE (fun _ _=>rfl)) (aS bI (pv 1) aE (fun _ _=>rfl))) (aR bM (aS bI (pv 1) aE (fun _ _=>rfl)) (aS bI (pv 0) aE (fun _ _=>rfl))) (aY _)))),?_⟩;refine⟨_,rfl,p,_,_,_,rfl,rfl,cQ.of hp,rfl,_,rfl,q,_,_,_,rfl,rfl,cQ.of hq,rfl,_,_,rfl,rfl,(lH sS).mb (Sm.of (i:=1) 2 (by decide) (qAg _)),_,rfl,q,_,_,_,rfl,rfl,cQ.of hq,rfl,_,rfl,p,_,_,_,rfl,rfl,cQ.of hp,rfl,_,_,rfl,rfl,se.mb (j5 (X:=S) d0 sd),_,_,rfl,rfl,?_⟩;show Q (.bl (decide (ta S d*1<e*tb S d))) H;rw[Kq d0];exact k
theorem Ng {m:Nat}{Y:Nat->Int}{d:Int}{H:Hp}{q:Addr}{ws:List Addr} (d0:0<d) (fl:jA m Y d H q ws):GB K H (ws.map V.ref) (qBj m true):=by
 refine⟨by rw[qGe,qAb,fl.len],fun i x b e1 e2=>?_⟩;obtain⟨w,hw,rfl⟩:=cW e1;have hi:i<m:=by rw[<- fl.len];exact(List.getElem?_eq_some_iff.mp hw).1
 rw[qLe,if_pos hi] at e2;obtain rfl:true=b:=Option.some.inj e2;obtain⟨_,y1,g1,_⟩:=dD (X:=Y i) d0;refine .two (fl.at_ i w hw) (.int _) (.int _) ?_;show(decide (1<=tb (Y i) d)&&decide (qBo (ta (Y i) d) (tb (Y i) d)=1))=true;rw[decide_eq_true y1,decide_eq_true g1];rfl
def lJ (m n:Nat) (tb Y:Nat->Int) (d:Int):List Int:=(qAl n).filterMap fun g=>if (Wg.sm m fun i=>bt g i*Y i)<tb g*d then some (g:Int) else none
theorem Ks (m n:Nat) (tb Y:Nat->Int) (d:Int):((qAl (bB n tb).length).filterMap fun g=>((bB n tb)[g]?).bind fun _=>if (Wg.sm m fun i=>bt g i*Y i)<tb g*d then some (V.int (g:Int)) else none)=(lJ m n tb Y d).map V.int:=by
 unfold lJ;rw[qGz,aJ];refine cU fun i hi=>?_;rw[dB (List.mem_range.mp hi)];show(if _ then _ else _)=_;split <;> rfl
def GF (K:qAc):Sp:=fun vs H Q _=>∃(l q:Addr) (m n:Nat) (tb Y:Nat->Int) (d:Int) (ws:List Addr),vs=[.ref l,.ref q]/\H l=some (.lst (bB n tb))/\1<=m/\m<=6/\n=2^m/\tb 0=0/\(∀j,Sm 90000 (tb j))/\jA m Y d H q ws/\0<d/\Sm 3000 d/\(∀j,Sm 330000 (Y j))/\∀D H',H D=none->aG H H'->H' D=some (.lst ((lJ m n tb Y d).map V.int))->Q (.ref D) H'
theorem GG:aQ ["table","shares","many"] ["table","shares"] (aI Jq):=by constructor<;>first|rfl|decide +kernel
theorem PL {m g:Nat}{Y:Nat->Int} (m6:m<=6) (sY:∀j,Sm 330000 (Y j)):Sm 400000 (Wg.sm m fun i=>bt g i*Y i):=by
 refine(qV (a:=330002) m fun i _=>?_).mono (by omega);exact((pB g i).mul (sY i)).mono (by decide)
theorem Kt {f1 f2 f3 f4:Addr}{fd1 fd2 fd3 fd4:qBk} (t:Tx K mg "bettering" Jq ["table","shares"] f fd) (T:T K mg AL LN FR iF fCh fGM fCC fCA fPL SE NN NG NT NR NS) (D_hands_in:Df P w K mg base (g6 P w) 3 "hands_in" ["table"] (zP K NT) f1 fd1) (D_check_shares:Df P w K mg base (g6 P w) 3 "check_shares" ["shares","many"] (GC K NS) f2 fd2)
  (D_under:Df P w K mg base bY 1 "under" ["one","other"] GD f3 fd3) (D_share_of:Df P w K mg base bY 5 "share_of" ["group","shares"] (Dn K) f4 fd4):Df P w K mg base (g6 P w) 6 "bettering" ["table","shares"] (GF K) f fd:=by
 refine t.Ec GG (fun vs H Q E h=>?_) (fun cdv A outer s H vs Q E hr h=>?_)
 ·obtain⟨l,q,m,n,tb',Y,d,ws,rfl,_⟩:=h;rfl
 ·obtain⟨l,q,m,n,tb',Y,d,ws,rfl,hl,m1,m6,hn,t0,st,fl,d0,sd,sY,k⟩:=h;have n64:n<=64:=by rw[hn];exact xP m6
  have yes:=tM m1 m6 hn t0;refine⟨_,(aD (aP (i:=2) GG.nd rfl bR (dR cG.toPass D_hands_in hr (by decide) (by rfl) (aA (pv 0) aB)))
   (aD (fI (dR cG.toPass D_check_shares hr (by decide) (by rfl) (aA (pv 1) (aA (pv 2) aB))))
   (aH (aU (bP (NB:=["group","earning","shares"]) (pick:=[none,none,some 1]) (bJ (by with_unfolding_all rfl) (by exact(And.intro rfl trivial)) rfl (by decide +kernel) (by decide +kernel) (by rfl) (by rfl)) rfl
     (nQ (by rfl) T.i8 (aA (pv 0) aB)) (fun _ _ _=>(show PG _ _ (n6 K 2 (dU (aX 0) (dU (aX 1) n4))) from eL rfl (bF (aN (i:=0) (show(["group","earning","shares"]:List Str).Nodup from by decide +kernel) rfl bR) (bF (aN (i:=1) (show(["group","earning","shares"]:List Str).Nodup from by decide +kernel) rfl bR) c8))))
     (fun _ _ _=>eW (cE (aW D_under hr (by decide) (by rfl) (aA (aW D_share_of hr (by decide) (by rfl) (aA (pv 0) (aA (pv 2) aB))) (aA (cI (aA (pv 1) (aA aE aB))) aB))))) (fun _ _ _=>(pv 0))))))),?_⟩
  refine⟨_,rfl,l,_,rfl,hl,qY,by rw[aJ];omega,(fun e=>by rw[yes] at e;cases e),fun m' m1' m6' hm _ H1 s1=>?_⟩;rw[aJ,hn] at hm;obtain rfl:m=m':=tL ⟨m,by omega⟩ ⟨m',by omega⟩ hm;have good:nB m (ws.map V.ref) (qBj m true)=true:=by
   unfold nB;rw[decide_eq_true (by rw[qAb,fl.len]),qJa,qJr];intro b hb;rw[List.mem_replicate] at hb;rw[hb.2];rfl
  refine⟨_,rfl,_,rfl,q,ws.map V.ref,_,m,rfl,s1 _ _ fl.hr,by rw[qAb,fl.len];omega,Ng d0 (fl.same s1),(fun e=>by rw[good] at e;cases e),fun _ H2 s2=>?_⟩;have s12:=s1.trans s2;have hl2:=s12 _ _ hl;refine⟨_,rfl,l,rfl,⟨_,aT.of hl2⟩,?_⟩;refine oI (xs:=bB n tb') (fun σ'=>∃o0 o1:Option V,σ'=[o0,o1,some (.ref q)]) (fun i _=>if (Wg.sm m fun h=>bt i h*Y h)<tb' i*d then some (V.int (i:Int)) else none) ⟨_,_,rfl⟩ (aT.of hl2) (by rw[aJ];exact qAn (aK (by omega))) (fun i x t σ1 H3 kk kk0 hσ s3 hx ht g1 g2=>?_) fun D H3 hD s3 hd=>?_
  ·obtain⟨o0,o1,rfl⟩:=hσ;obtain⟨hi,rfl⟩:=dN hx;refine⟨t,_,rfl,cQ.of ht,rfl,_,_,rfl,_,_,rfl,rfl,?_⟩;refine⟨_,rfl,_,rfl,q,m,i,Y,d,ws,rfl,(fl.same s12).same s3,m6,by rw[<- hn];exact hi,d0,sd,sY,fun r H4 s4 h4=>?_⟩;refine⟨_,rfl,lS,fun r2 hr2=>?_⟩;have u5:=aG.aF (o:=.tup [V.int (tb' i),V.int 1]) hr2;refine⟨r,r2,_,d,tb' i,rfl,u5 _ _ h4,aC,d0,sd,PL m6 sY,(st i).mono (by decide),_,rfl,cP (fun z=>?_) (fun z=>?_)⟩
   ·have z:=of_decide_eq_true z;exact⟨_,rfl,g1 _ _ ⟨_,_,rfl⟩ (if_pos z) _ (s4.trans u5)⟩
   ·have z:¬(Wg.sm m fun h=>bt i h*Y h)<tb' i*d:=fun q=>z (decide_eq_true q);exact g2 _ ⟨_,_,rfl⟩ (if_neg z) _ (s4.trans u5)
  ·rw[Ks] at hd;exact k D H3 (s12.free hD) (s12.trans s3) hd
def Dr:Sp:=fun vs H Q _=>∃(p q:Addr) (a b d:Int),vs=[.ref p,.ref q]/\H p=some (fL a d)/\H q=some (fL b d)/\0<d/\Sm 3000 d/\Sm 400000 a/\Sm 400000 b/\∀r H',aG H H'->H' r=some (fL (a-b) d)->Q (.ref r) H'
theorem Nh:aQ ["one","other"] ["one","other"] (aI IS):=by constructor<;>first|rfl|decide +kernel
theorem Ku {f1:Addr}{fd1:qBk} (t:Tx K mg "minus" IS ["one","other"] f fd) (T:T K mg AL LN FR iF fCh fGM fCC fCA fPL SE NN NG NT NR NS) (D_fraction:Df P w K mg base (g6 P w) 2 "fraction" ["top","bottom"] (sU K NN) f1 fd1) :
  Df P w K mg base bY 3 "minus" ["one","other"] Dr f fd:=by
 refine t.gX Nh (fun vs H Q E h=>?_) (fun cdv A outer s H vs Q E hr h=>?_)
 ·obtain⟨p,q,a,b,d,rfl,_⟩:=h;rfl
 ·obtain⟨p,q,a,b,d,rfl,hp,hq,d0,sd,sa,sb,k⟩:=h;obtain⟨e1,y1,_,_⟩:=dD (X:=a) d0;obtain⟨e2,y2,_,_⟩:=dD (X:=b) d0;have n2:1*1<=tb a d*tb b d:=qOs y1 y2 (by decide) (by omega);have s1:=j5 (X:=a) d0 sd;have s2:=j5 (X:=b) d0 sd;refine⟨_,(aH (aU (dR cA D_fraction hr (by decide) (by rfl) (aA (aR eU (aR bM (aS bI (pv 0) aE (fun _ _=>rfl)) (aS bI (pv 1) aE (fun _ _=>rfl))) (aR bM (aS bI (pv 1) aE (fun _ _=>rfl)) (aS bI (pv 0) aE (fun _ _=>rfl)))) (aA (aR bM (aS bI (pv 0) aE (fun _ _=>rfl)) (aS bI (pv 1) aE (fun _ _=>rfl))) aB))))),?_⟩;refine⟨_,rfl,p,_,_,_,rfl,rfl,cQ.of hp,rfl,_,rfl,q,_,_,_,rfl,rfl,cQ.of hq,rfl,_,_,rfl,rfl,(lH sa).mb s2,_,rfl,q,_,_,_,rfl,rfl,cQ.of hq,rfl,_,rfl,p,_,_,_,rfl,rfl,cQ.of hp,rfl,_,_,rfl,rfl,(lH sb).mb s1,_,_,rfl,rfl,_,rfl,p,_,_,_,rfl,rfl,cQ.of hp,rfl,_,rfl,q,_,_,_,rfl,rfl,cQ.of hq,rfl,_,_,rfl,rfl,s1.mb s2,?_⟩;dsimp only[iK,qCl,qCm];refine oZ (by show tb a d*tb b d≠0;omega) ((s1.mul s2).mono (by decide)) fun r hr=>k r _ (.aF hr) ?_;rw[aC];have e:fL (ta a d*tb b d-ta b d*tb a d) (tb a d*tb b d)=fL (a-b) d:=by
   refine kF (by omega) d0 ?_;have z1:(ta a d*tb b d-ta b d*tb a d)*d=(ta a d*d)*tb b d-(ta b d*d)*tb a d:=by grind
   rw[z1,e1,e2];grind
  exact congrArg some e
def Ds:Sp:=fun vs H Q _=>∃(p:Addr) (n:Nat) (g:Nat->Int),vs=[.ref p]/\H p=some (.lst (bB n g))/\n<=100/\∀D H',H D=none->aG H H'->H' D=some (.lst (bB n fun i=>-g i))->Q (.ref D) H'
theorem Ni:aQ ["column"] ["column"] (aI Ja):=by constructor<;>first|rfl|decide +kernel
theorem Kv (t:Tx K mg "below_nought" Ja ["column"] f fd) (T:T K mg AL LN FR iF fCh fGM fCC fCA fPL SE NN NG NT NR NS):Df P w K mg base bY 1 "below_nought" ["column"] Ds f fd:=by
 refine t.gX Ni (fun vs H Q E h=>?_) (fun cdv _A outer s H vs Q E hr h=>?_)
 ·obtain⟨p,n,g,rfl,_⟩:=h;rfl
 ·obtain⟨p,n,g,rfl,hp,hn,k⟩:=h;refine⟨_,(aH (aU (bP (NB:=["number"]) (pick:=[none]) (bJ (by with_unfolding_all rfl) (by exact trivial) rfl (by decide +kernel) (by decide +kernel) (by rfl) (by rfl)) rfl
     (bO (pv 0)) (fun _ _ _=>aN (i:=0) (show(["number"]:List Str).Nodup from by decide +kernel) rfl bR)
     (fun _ _ _=>bK) (fun _ _ _=>(jW g4 (pv 0)))))),?_⟩
  refine⟨_,rfl,p,rfl,⟨_,aT.of hp⟩,?_⟩;refine cM (xs:=bB n g) (fun i _=>some (.int (-g i))) (aT.of hp) (by rw[aJ];exact qAn (aK (by omega))) (fun i x H2 kk kk0 s2 hx g1 g2=>?_) fun D H2 hD s2 hd=>?_
  ·obtain⟨hi,rfl⟩:=dN hx;refine⟨_,rfl,_,rfl,?_⟩;exact g1 _ rfl _ (.refl _)
  ·refine k D H2 hD s2 ?_;rw[hd,aJ,lF _ (aJ _ _)];rfl
theorem Nj (x:Int):(!decide (V.int x=V.int 0))=decide (x≠0):=by
 by_cases e:x=0
 ·rw[decide_eq_true (show V.int x=V.int 0 by rw[e]),decide_eq_false (Classical.not_not.mpr e)];rfl
 ·rw[decide_eq_false (fun z=>e (V.int.inj z)),decide_eq_true e];rfl
def Fq:Nat->Nat
 | 0=>0
 | k+1=>2*Fq k+3
theorem pD:∀{j k:Nat},j<=k->Fq j<=Fq k
 | j,0,h=>by rw[Nat.le_zero.mp h];exact qAg _
 | j,k+1,h=>by
  rcases qAk k j with z | z
  ·rw[show j=k+1 by omega];exact qAg _
  ·have:=pD (j:=j) (k:=k) z;show Fq j<=2*Fq k+3;omega
structure Nk (m:Nat) (rs:List (Nat->Int)) (H:Hp) (q:Addr) (as:List Addr):Prop where
 hq:H q=some (.lst (as.map V.ref))
 len:as.length=rs.length
 at_:∀(k:Nat) (a:Addr) (r:Nat->Int),as[k]?=some a->rs[k]?=some r->H a=some (.lst (bB m r))
theorem Nk.same {m:Nat}{rs:List (Nat->Int)}{H H':Hp}{q:Addr}{as:List Addr} (h:Nk m rs H q as) (s:aG H H'):Nk m rs H' q as:=⟨s _ _ h.hq,h.len,fun k a r e1 e2=>s _ _ (h.at_ k a r e1 e2)⟩
def OO (rs:List (Nat->Int)):Prop:=∀(k:Nat) (r:Nat->Int),rs[k]?=some r->∀i,Sm (2+Fq k) (r i)
theorem xR {m:Nat}{rs:List (Nat->Int)} (h:OO rs){g:Nat->Int} (hg:∀i,Sm 2 (g i)):∀(k:Nat),k<=rs.length->∀i,Sm (2+Fq k) (Cm.c5 m (rs.take k) g i)
 | 0,_,i=>hg i
 | k+1,hk,i=>by
  have e:=qAd (l:=rs) (i:=k) (by omega);have ih:=xR (m:=m) h hg k (by omega);have et:rs.take (k+1)=rs.take k++[rs[k]]:=by rw[qFb,e];rfl
  rw[et,Cm.cR];have a1:=(ih i).mul (h k _ e (Cm.iH m rs[k]));have a2:=(h k _ e i).mul (ih (Cm.iH m rs[k]));refine Sm.mono (a1.sub (a2.mono (by omega))) ?_;show _<=2+(2*Fq k+3);omega
def GH:Sp:=fun vs H Q _=>∃(p q:Addr) (m:Nat) (g:Nat->Int) (rs:List (Nat->Int)) (as:List Addr),vs=[.ref p,.ref q]/\H p=some (.lst (bB m g))/\Nk m rs H q as/\m<=6/\rs.length<=6/\(∀r,r∈rs->Cm.iH m r<m)/\(∀i,Sm 2 (g i))/\OO rs /\
 ∀D H',aG H H'->H' D=some (.lst (bB m (Cm.c5 m rs g)))->Q (.ref D) H'
theorem rC:aQ ["row","rows","rest","lead","place","factor"] ["row","rows"] (aI Jb):=by constructor<;>first|rfl|decide +kernel
theorem Kw (t:Tx K mg "rest_of" Jb ["row","rows"] f fd) (T:T K mg AL LN FR iF fCh fGM fCC fCA fPL SE NN NG NT NR NS):Df P w K mg base bY 1 "rest_of" ["row","rows"] GH f fd:=by
 refine t.gX rC (fun vs H Q E h=>?_) (fun cdv _A outer s H vs Q E hr h=>?_)
 ·obtain⟨p,q,m,g,rs,as,rfl,_⟩:=h;rfl
 ·obtain⟨p,q,m,g,rs,as,rfl,hp,rw_,hm,hl,hpv,sg,sr,k⟩:=h;refine⟨_,(aD (aP (i:=2) rC.nd rfl (by first|exact .inl rfl|exact .inr rfl) (pv 0))
   (aD (c9 PassesOwn.never rfl (bO (pv 1)) (aN (i:=3) rC.nd rfl (by first|exact .inl rfl|exact .inr rfl))
    (aD (aP (i:=4) rC.nd rfl (by first|exact .inl rfl|exact .inr rfl) (Ia K rfl qFp PySem.F.slot_list_index PySem.F.type_list_index (AB K rfl) (bP (NB:=["number"]) (pick:=[none]) (bJ (by with_unfolding_all rfl) (by exact trivial) rfl (by decide +kernel) (by decide +kernel) (by rfl) (by rfl)) rfl
     (bO (pv 3)) (fun _ _ _=>aN (i:=0) (show(["number"]:List Str).Nodup from by decide +kernel) rfl bR)
     (fun _ _ _=>bK) (fun _ _ _=>(dA iZ (pv 0) aE (aY _)))) (aA iS aB)))
    (aD (aP (i:=5) rC.nd rfl (by first|exact .inl rfl|exact .inr rfl) (aS a8 (pv 2) (pv 4) (fun _ _=>rfl)))
    (aH (eB (NB:=["number","other","factor","lead","place"]) (pick:=[none,none,some 5,some 3,some 4]) (i:=2) rC.nd rfl (by first|exact .inl rfl|exact .inr rfl) (by rfl) (bJ (by with_unfolding_all rfl) (by exact(And.intro rfl (And.intro rfl (And.intro rfl trivial)))) rfl (by decide +kernel) (by decide +kernel) (by rfl) (by rfl)) rfl
     (gE (by rfl) T.gK (aA (pv 2) (aA (pv 3) aB))) (fun _ _ _=>(show PG _ _ (n6 K 2 (dU (aX 0) (dU (aX 1) n4))) from eL rfl (bF (aN (i:=0) (show(["number","other","factor","lead","place"]:List Str).Nodup from by decide +kernel) rfl bR) (bF (aN (i:=1) (show(["number","other","factor","lead","place"]:List Str).Nodup from by decide +kernel) rfl bR) c8))))
     (fun _ _ _=>bK) (fun _ _ _=>(aR eU (aR bM (pv 0) (aS (bV K) (pv 3) (pv 4) (fun _ _=>rfl))) (aR bM (pv 1) (pv 2)))))))))
   (aH (aU (pv 2))))),?_⟩
  refine⟨_,rfl,_,rfl,q,rfl,⟨_,aT.of rw_.hq⟩,?_⟩;refine dX (xs:=as.map V.ref) (fun j σ' H'=>aG H H'/\∃(r:Addr) (o3 o4 o5:Option V),H' r=some (.lst (bB m (Cm.c5 m (rs.take j) g)))/\σ'=[some (.ref p),some (.ref q),some (.ref r),o3,o4,o5]) ⟨.refl _,p,_,_,_,hp,rfl⟩ ?_ ?_ ?_
  ·rintro j σ' H' _ ⟨s2,_⟩;exact aT.of (s2 _ _ rw_.hq)
  ·rintro j x σ' H2 hx ⟨s2,r,o3,o4,o5,hr2,rfl⟩;obtain⟨a,ha,rfl⟩:=cW hx;have hj:j<rs.length:=by
    rw[<- rw_.len];exact(List.getElem?_eq_some_iff.mp ha).1
   have er:=qAd hj;have hla:=s2 _ _ (rw_.at_ j a _ ha er);have hpj:=hpv _ (qBe er);generalize rs[j]=lead at er hla hpj;have s1:=xR (m:=m) sr sg j (by omega);have sl:=sr j _ er;have hb:Fq j<=200:=qCx (pD (j:=j) (k:=6) (by omega)) (by decide);have s1':∀i,Sm 202 (Cm.c5 m (rs.take j) g i):=fun i=>(s1 i).mono (by omega);have sl':∀i,Sm 202 (lead i):=fun i=>(sl i).mono (by omega);refine⟨_,rfl,a,rfl,⟨_,aT.of hla⟩,?_⟩;refine cM (xs:=bB m lead) (fun i _=>some (.bl (decide (lead i≠0)))) (aT.of hla) (by rw[aJ];exact qAn (aK (by omega))) (fun i x H3 kk kk0 s3 hx g1 g2=>?_) fun D H3 hD s3 hd=>?_
   ·obtain⟨hi,rfl⟩:=dN hx;refine⟨_,rfl,rfl,?_⟩;exact g1 _ (by rw[Nj]) _ (.refl _)
   ·rw[aJ,lF _ (aJ _ _)] at hd;refine⟨.inl ⟨rfl,_,aT.of hd⟩,D,(qAl m).map fun i=>decide (lead i≠0),Cm.iH m lead,rfl,rfl,?_,?_,fun i hi=>?_,?_⟩
    ·rw[qDb];exact aT.of hd
    ·rw[qAp,qCz hpj];exact congrArg some (decide_eq_true (Cm.mK hpj))
    ·rw[qAp,qCz (by omega)];exact congrArg some (decide_eq_false (Classical.not_not.mpr (Cm.iB hi (by omega))))
    dsimp only[aX];have hr3:=s3 _ _ hr2;have hl3:=s3 _ _ hla;refine⟨_,rfl,_,rfl,r,_,_,_,rfl,rfl,aT.of hr3,bN hpj,?_⟩;dsimp only[aX];refine⟨_,rfl,_,rfl,r,a,rfl,⟨_,aT.of hr3⟩,⟨_,aT.of hl3⟩,?_⟩;refine jG (xs:=bB m (Cm.c5 m (rs.take j) g)) (ys:=bB m lead) (fun σ'=>∃o0 o1:Option V,σ'=[o0,o1,some (.int (Cm.c5 m (rs.take j) g (Cm.iH m lead))),some (.ref a),some (.int (Cm.iH m lead:Nat))]) (fun i _ _=>some (.int (Cm.i6 m lead (Cm.c5 m (rs.take j) g) i))) ⟨_,_,rfl⟩ (aT.of hr3) (aT.of hl3) (by rw[aJ,aJ]) (by rw[aJ];exact qAn (aK (by omega))) (fun i x y tt σ1 H4 kk kk0 hσ s4 hx hy ht h1 h2=>?_) fun D2 H4 hD2 s4 hd4=>?_
    ·obtain⟨o0,o1,rfl⟩:=hσ;obtain⟨hi,rfl⟩:=dN hx;obtain⟨_,rfl⟩:=dN hy;refine⟨tt,_,rfl,cQ.of ht,rfl,_,_,rfl,_,_,rfl,rfl,?_⟩;refine⟨_,rfl,_,rfl,_,rfl,a,_,_,_,rfl,rfl,aT.of (s4 _ _ hl3),bN hpj,_,_,rfl,rfl,(s1' i).mb (sl' _),_,rfl,_,rfl,_,_,rfl,rfl,(sl' i).mb (s1' _),_,_,rfl,rfl,?_⟩;exact h1 _ _ ⟨_,_,rfl⟩ rfl _ (.refl _)
    ·refine⟨s2.trans (s3.trans s4),D2,_,_,_,?_,rfl⟩;have et:rs.take (j+1)=rs.take j++[lead]:=by rw[qFb,er];rfl
     rw[hd4,aJ,sV _ (aJ _ _) (aJ _ _),et,Cm.cR];rfl
  ·rintro σ' H2 ⟨s2,r,o3,o4,o5,hr2,rfl⟩;refine⟨_,rfl,k r H2 s2 ?_⟩;rw[hr2,qAb,rw_.len,qEh]
theorem eF {l:List Nat}{i:Nat}{x:V} (h:(bC l)[i]?=some x):∃g,l[i]?=some g/\x = .int (g:Int):=by
 unfold bC at h;rw[qAp] at h;cases e:l[i]? with
 | none=>rw[e] at h;cases h
 | some g=>rw[e] at h;exact⟨g,rfl,(Option.some.inj h).symm⟩
theorem Du {m:Nat}{vs:List (Nat->Int)} (h:∀v,v∈vs->∀i,Sm 2 (v i)):OO (Cm.g9 m vs):=by
 induction vs using Cm.snocInd with
 | nil=>intro k r e;cases e
 | append_singleton vs v ih =>
  have i1:=ih fun u hu=>h u (qCc _ hu);intro k r e i;rw[Cm.dM] at e;rcases qAk k (Cm.g9 m vs).length with z | z
  ·rw[qBb z] at e;exact i1 k r e i
  ·rw[qAy z] at e;have hk:k-(Cm.g9 m vs).length=0:=by
    have:=(List.getElem?_eq_some_iff.mp e).1;rw[qBf] at this;omega
   rw[hk] at e;obtain rfl:=Option.some.inj e;have q:=xR (m:=m) i1 (h v (qAu _ (List.mem_singleton.mpr rfl))) (Cm.g9 m vs).length (qAg _) i;rw[qEh] at q;exact q.mono (by have:=pD (j:=(Cm.g9 m vs).length) (k:=k) z;omega)
theorem pE {m:Nat}{r:Nat->Int}{as:List Addr} (h:0<m):bB m r≠as.map V.ref:=fun e=>by
 have h0:=dB (f:=r) h;rw[e,qAp] at h0;cases ha:as[0]? with
 | none=>rw[ha] at h0;cases h0
 | some a=>rw[ha] at h0;cases h0
def fN (ks:List Nat):List (Nat->Int):=ks.map bt
def gW (m:Nat) (ks:List Nat) (g:Nat):Bool:=decide (bB m (Cm.c5 m (Cm.g9 m (fN ks)) (bt g))=bB m fun _=>0)
theorem fY {m:Nat}{ks:List Nat}{g:Nat}:gW m ks g=true↔Cm.Told m (fN ks) (bt g):=by
 unfold gW;rw[decide_eq_true_iff];constructor
 ·intro e i hi;have h0:=dB (f:=Cm.c5 m (Cm.g9 m (fN ks)) (bt g)) hi;rw[e,dB hi] at h0;exact(V.int.inj (Option.some.inj h0)).symm
 ·intro h;exact dH fun j hj=>h j hj
theorem GI {ks:List Nat}:∀v,v∈fN ks->∀i,Sm 2 (v i):=fun v hv i=>by
 obtain⟨g,_,rfl⟩:=List.mem_map.mp hv;exact pB g i
theorem Dv {m:Nat}{ks:List Nat} (h:Cm.iC m (fN ks)):∀j,Cm.iC m (fN (ks.take j)):=by
 induction ks using Cm.snocInd with
 | nil=>intro j;rw[List.take_nil];exact h
 | append_singleton ks k ih =>
  intro j;have e:fN (ks++[k])=fN ks++[bt k]:=by unfold fN;rw[qAt];rfl
  rcases qAk ks.length j with z | z
  ·rw[qEt (by rw[qAo,qBf];omega)];exact h
  ·rw[List.take_append_of_le_length z];rw[e] at h;exact ih h.jM.1 j
theorem Kx (m:Nat):(qBj m [V.int 0]).flatten=bB m fun _=>0:=by
 induction m with
 | zero=>rfl
 | succ m ih =>
  unfold bB at ih|-;rw[List.replicate_succ',List.flatten_append,ih,qBm,qAt];rfl
theorem Ky {m:Nat}{u v:Nat->Int}:decide ((qAl m).map u=(qAl m).map v)=decide (bB m u=bB m v):=by
 rw[lB,lB];refine decide_eq_decide.mpr ⟨fun e=>by rw[e],fun e=>?_⟩;exact(List.map_inj_right fun a b h=>V.int.inj h).mp e
theorem vN {α β:Type} (F:α->Option β) (l:List α):((qAl l.length).filterMap fun i=>(l[i]?).bind F)=l.filterMap F:=by
 induction l using Cm.snocInd with
 | nil=>rfl
 | append_singleton l x ih =>
  rw[qAo,qBf,qBm,qCd,qCd,<- ih];congr 1
  ·refine cU fun i hi=>?_;rw[qBb (List.mem_range.mp hi)]
  ·rw[qCg,qCg,qAy (qAg _),qMa];rfl
theorem Bd (gs:List Nat) (b:Nat->Bool):(gs.filterMap fun g=>if b g=true then none else some (V.int (g:Int)))=bC (gs.filter fun g=>!b g):=by
 unfold bC;induction gs with
 | nil=>rfl
 | cons g gs ih =>
  rw[qCg,qEd];cases b g with
  | true=>simpa using ih
  | false=>simpa using ih
theorem Kz (gs:List Nat) (b:Nat->Bool):((qAl (bC gs).length).filterMap fun i=>((bC gs)[i]?).bind fun _=>(gs[i]?).bind fun g=>if b g=true then none else some (V.int (g:Int)))=bC (gs.filter fun g=>!b g):=by
 have e:(bC gs).length=gs.length:=by unfold bC;rw[qAb]
 rw[e];have e2:((qAl gs.length).filterMap fun i=>((bC gs)[i]?).bind fun _=>(gs[i]?).bind fun g=>if b g=true then none else some (V.int (g:Int)))=(qAl gs.length).filterMap fun i=>(gs[i]?).bind fun g=>if b g=true then none else some (V.int (g:Int)):=by
  refine cU fun i hi=>?_;have hi:=List.mem_range.mp hi;unfold bC;rw[qAp,qAd hi];rfl
 rw[e2,vN,Bd]
def Dw:Sp:=fun vs H Q _=>∃(p q:Addr) (m:Nat) (gs ks:List Nat),vs=[.ref p,.ref q,.int (m:Int)]/\H p=some (.lst (bC gs))/\H q=some (.lst (bC ks))/\0<m/\m<=6/\gs.length<=64/\(∀g,g∈gs->g<64)/\(∀k,k∈ks->k<64)/\Cm.iC m (fN ks) /\
 ∀D H',H D=none->aG H H'->H' D=some (.lst (bC (gs.filter fun g=>!gW m ks g)))->Q (.ref D) H'
theorem zS:aQ ["groups","kept","many","rows","group","nothing"] ["groups","kept","many"] (aI Jc):=by constructor<;>first|rfl|decide +kernel
theorem KA {f1 f2:Addr}{fd1 fd2:qBk} (t:Tx K mg "untold" Jc ["groups","kept","many"] f fd) (T:T K mg AL LN FR iF fCh fGM fCC fCA fPL SE NN NG NT NR NS) (D_marks_of:Df P w K mg base bY 1 "marks_of" ["group","many"] rA f1 fd1) (D_rest_of:Df P w K mg base bY 1 "rest_of" ["row","rows"] GH f2 fd2) :
  Df P w K mg base bY 2 "untold" ["groups","kept","many"] Dw f fd:=by
 refine t.gX zS (fun vs H Q E h=>?_) (fun cdv _A outer s H vs Q E hr h=>?_)
 ·obtain⟨p,q,m,gs,ks,rfl,_⟩:=h;rfl
 ·obtain⟨p,q,m,gs,ks,rfl,hp,hq,m0,m6,gl,g64,Ee,ind,k⟩:=h;refine⟨_,(aD (aP (i:=3) zS.nd rfl (by first|exact .inl rfl|exact .inr rfl) (bU aB))
   (aD (c9 PassesOwn.never rfl (bO (pv 1)) (aN (i:=4) zS.nd rfl (by first|exact .inl rfl|exact .inr rfl))
    (aH (fI (t5 qFp qGy qGx j9 (pv 3) (aA (aW D_rest_of hr (by decide) (by rfl) (aA (aW D_marks_of hr (by decide) (by rfl) (aA (pv 4) (aA (pv 2) aB))) (aA (pv 3) aB))) aB)))))
   (aD (aP (i:=5) zS.nd rfl (by first|exact .inl rfl|exact .inr rfl) (aR fQ (bU (aA aE aB)) (pv 2)))
   (aH (aU (bP (NB:=["group","many","nothing","rows"]) (pick:=[none,some 2,some 5,some 3]) (bJ (by with_unfolding_all rfl) (by exact(And.intro rfl (And.intro rfl (And.intro rfl trivial)))) rfl (by decide +kernel) (by decide +kernel) (by rfl) (by rfl)) rfl
     (bO (pv 0)) (fun _ _ _=>aN (i:=0) (show(["group","many","nothing","rows"]:List Str).Nodup from by decide +kernel) rfl bR)
     (fun _ _ _=>eW (aZ (EM K hr.units) (aW D_rest_of hr (by decide) (by rfl) (aA (aW D_marks_of hr (by decide) (by rfl) (aA (pv 0) (aA (pv 1) aB))) (aA (pv 3) aB))) (pv 2) (aY _))) (fun _ _ _=>(pv 0)))))))),?_⟩
  have kl:=ind.len;unfold fN at kl;rw[qAb] at kl;refine⟨by simp[qCf],fun lr hlr=>?_⟩;dsimp only[aX];have u0:aG H (upd H lr (.lst [])):=.aF hlr;refine⟨_,rfl,q,rfl,⟨_,aT.of (u0 _ _ hq)⟩,?_⟩;refine dX (xs:=bC ks) (fun j σ' H'=>aG H H'/\∃(as:List Addr) (o4 o5:Option V),Nk m (Cm.g9 m (fN (ks.take j))) H' lr as/\σ'=[some (.ref p),some (.ref q),some (.int (m:Int)),some (.ref lr),o4,o5]) ⟨u0,[],_,_,⟨aC,rfl,fun k a r e=>by cases e⟩,rfl⟩ ?_ ?_ ?_
  ·rintro j σ' H' _ ⟨s2,_⟩;exact aT.of (s2 _ _ hq)
  ·rintro j x σ' H2 hx ⟨s2,as,o4,o5,rl,rfl⟩;obtain⟨g,hg,rfl⟩:=eF hx;have hgm:g∈ks:=qBe hg;have hj:j<ks.length:=(List.getElem?_eq_some_iff.mp hg).1;have et:ks.take (j+1)=ks.take j++[g]:=by rw[qFb,hg];rfl
   have ev:fN (ks.take (j+1))=fN (ks.take j)++[bt g]:=by rw[et];unfold fN;rw[qAt];rfl
   have elen:(Cm.g9 m (fN (ks.take j))).length=j:=by
    rw[Cm.k9];unfold fN;rw[qAb,qEi];omega
   have hind:Cm.iC m (fN (ks.take j)):=Dv ind j;have hsm:∀v,v∈fN (ks.take j)->∀i,Sm 2 (v i):=GI;dsimp only[aX];refine⟨_,rfl,.inl ⟨rfl,_,aT.of rl.hq⟩,_,rfl,_,rfl,g,m,rfl,Ee g hgm,m6,fun D H3 hD s3 hd=>?_⟩;have rl3:=rl.same s3;refine⟨_,rfl,D,lr,m,bt g,_,as,rfl,hd,rl3,m6,by omega,hind,pB g,Du hsm,fun D2 H4 s4 h4=>?_⟩;have rl4:=rl3.same s4;have hlen:=rl4.len;refine⟨lr,_,_,rfl,rfl,rl4.hq,by rw[qAb];exact qBq (show as.length<=6 by omega) (by rw[qCf];decide),?_⟩;refine⟨(s2.trans (s3.trans s4)).upd_ne' hlr,as++[D2],_,_,⟨?_,?_,fun k' a' r' e1 e2=>?_⟩,rfl⟩
   ·rw[aC,qAt];rfl
   ·rw[ev,Cm.dM,qAo,qAo,hlen];rfl
   ·have hne:∀(b:Addr) (r:Nat->Int),H4 b=some (.lst (bB m r))->b≠lr:=fun b r e z=>by
     rw[z,rl4.hq] at e;exact pE m0 (HO.lst.inj (Option.some.inj e)).symm
    rw[ev,Cm.dM] at e2;rcases qAk k' as.length with z | z
    ·rw[qBb z] at e1;rw[qBb (by omega)] at e2;have q:=rl4.at_ k' a' r' e1 e2;rw[aM (hne _ _ q)];exact q
    ·rw[qAy z] at e1;rw[qAy (by omega)] at e2;have hk:k'-as.length=0:=by
      have:=(List.getElem?_eq_some_iff.mp e1).1;rw[qBf] at this;omega
     rw[hk] at e1;rw[<- hlen,hk] at e2;obtain rfl:=Option.some.inj e1;obtain rfl:=Option.some.inj e2;rw[aM (hne _ _ h4)];exact h4
  ·rintro σ' H2 ⟨s2,as,o4,o5,rl,rfl⟩;refine⟨by simp[qCf],fun l0 h0=>?_⟩;have h2t:((m:Int)).toNat=m:=qBi m;refine⟨_,rfl,l0,_,_,rfl,rfl,aC,by omega,by omega,by rw[h2t,qCf];simp;omega,fun ln hln=>?_⟩;dsimp only[aX];have s3:aG H2 (upd (upd H2 l0 (.lst [V.int 0])) ln (.lst (qBj ((m:Int)).toNat [V.int 0]).flatten)):=(aG.aF h0).trans (.aF hln);have hz:upd (upd H2 l0 (.lst [V.int 0])) ln (.lst (qBj ((m:Int)).toNat [V.int 0]).flatten) ln=some (.lst (bB m fun _=>0)):=by
    rw[aC,h2t,Kx]
   generalize upd (upd H2 l0 (.lst [V.int 0])) ln (.lst (qBj ((m:Int)).toNat [V.int 0]).flatten)=H3 at s3 hz|-;have rl3:=rl.same s3;rw[show(bC ks).length=ks.length by unfold bC;rw[qAb],qEh] at rl3;have elen:(Cm.g9 m (fN ks)).length=ks.length:=by rw[Cm.k9];unfold fN;rw[qAb]
   refine⟨_,rfl,p,rfl,⟨_,aT.of (s3 _ _ (s2 _ _ hp))⟩,?_⟩;refine cM (xs:=bC gs) (fun i _=>(gs[i]?).bind fun g=>if gW m ks g=true then none else some (.int (g:Int))) (aT.of (s3 _ _ (s2 _ _ hp))) (by unfold bC;rw[qAb];exact qAn (aK (by omega))) (fun i x H4 kk kk0 s4 hx g1 g2=>?_) fun D H4 hD s4 hd=>?_
   ·obtain⟨g,hg,rfl⟩:=eF hx;rw[hg] at g1 g2;refine⟨_,rfl,_,rfl,g,m,rfl,g64 g (qBe hg),m6,fun D5 H5 hD5 s5 hd5=>?_⟩;refine⟨_,rfl,D5,lr,m,bt g,_,as,rfl,hd5,(rl3.same s4).same s5,m6,by omega,ind,pB g,Du GI,fun D6 H6 s6 h6=>?_⟩;rw[lB] at h6;have hz6:=s6 _ _ (s5 _ _ (s4 _ _ hz));rw[lB] at hz6;refine⟨_,rfl,D6,ln,_,_,rfl,rfl,aT.of h6,aT.of hz6,_,rfl,?_⟩;have hb:(!decide ((qAl m).map (Cm.c5 m (Cm.g9 m (fN ks)) (bt g))=(qAl m).map fun _=>(0:Int))) = !gW m ks g:=by
     rw[Ky];rfl
    dsimp only;rw[hb];cases ht:gW m ks g with
    | true =>
     rw[if_neg (by simp)];exact g2 (by simp[ht]) _ (s5.trans s6)
    | false =>
     rw[if_pos (by simp)];exact⟨_,rfl,g1 _ (by simp[ht]) _ (s5.trans s6)⟩
   ·have hD0:H D=none:=by
     cases e:H D with
     | none=>rfl
     | some o=>rw[(s2.trans s3) _ _ e] at hD;cases hD
    refine k D H4 hD0 (s2.trans (s3.trans s4)) ?_;rw[hd,Kz]
def pF (m:Nat) (gs:List Nat):List Nat:=gs.foldl (fun acc g=>acc++[g].filter fun g=>!gW m acc g) []
theorem jD (m:Nat) (gs:List Nat) (g:Nat):pF m (gs++[g])=pF m gs++[g].filter fun g'=>!gW m (pF m gs) g':=by
 unfold pF;rw[qHk];rfl
theorem pG (g:Nat) (b:Nat->Bool):[g].filter b=if b g=true then [g] else []:=by
 rw[qEd];rfl
theorem jN (m:Nat) (gs:List Nat):Cm.iC m (fN (pF m gs)):=by
 induction gs using Cm.snocInd with
 | nil=>intro r hr;cases hr
 | append_singleton gs g ih =>
  rw[jD,pG];cases ht:gW m (pF m gs) g with
  | true=>simpa using ih
  | false =>
   have e:fN (pF m gs++if (!false)=true then [g] else [])=fN (pF m gs)++[bt g]:=by unfold fN;rw[qAt];rfl
   rw[e];exact ih.snoc (Cm.qN fun z=>by rw[fY.mpr z] at ht;cases ht)
theorem Fs {m:Nat}{gs:List Nat}:∀g,g∈pF m gs->g∈gs:=by
 induction gs using Cm.snocInd with
 | nil=>intro g hg;cases hg
 | append_singleton gs g ih =>
  intro g' hg';rw[jD] at hg';rcases List.mem_append.mp hg' with z | z
  ·exact qCc _ (ih _ z)
  ·exact qAu _ (List.mem_filter.mp z).1
theorem Dx {m:Nat}{gs:List Nat}:∀g,g∈gs->Cm.Told m (fN (pF m gs)) (bt g):=by
 induction gs using Cm.snocInd with
 | nil=>intro g hg;cases hg
 | append_singleton gs g ih =>
  intro g' hg';have hind:=jN m (gs++[g]);rw[jD,pG] at hind|-;cases ht:gW m (pF m gs) g with
  | true =>
   rw[ht] at hind;simp only[qOt,qFt,if_false,qDp] at hind|-;rcases List.mem_append.mp hg' with z | z
   ·exact ih _ z
   ·rw[List.mem_singleton.mp z];exact fY.mp ht
  | false =>
   rw[ht] at hind;have e:fN (pF m gs++if (!false)=true then [g] else [])=fN (pF m gs)++[bt g]:=by unfold fN;rw[qAt];rfl
   rw[e] at hind|-;rcases List.mem_append.mp hg' with z | z
   ·exact(ih _ z).snoc
   ·rw[List.mem_singleton.mp z];exact Cm.Told.self hind (qAu _ (List.mem_singleton.mpr rfl))
def GJ:Sp:=fun vs H Q _=>∃(p:Addr) (m:Nat) (gs:List Nat),vs=[.ref p,.int (m:Int)]/\H p=some (.lst (bC gs))/\0<m/\m<=6/\gs.length<=64/\(∀g,g∈gs->g<64) /\
 ∀D H',H D=none->aG H H'->H' D=some (.lst (bC (pF m gs)))->Q (.ref D) H'
theorem zT:aQ ["groups","many","found","group"] ["groups","many"] (aI Jd):=by constructor<;>first|rfl|decide +kernel
theorem Dy (a b:List Nat):bC (a++b)=bC a++bC b:=by unfold bC;rw[qAt]
theorem bG (a:List Nat):(bC a).length=a.length:=by unfold bC;rw[qAb]
theorem KC {f1:Addr}{fd1:qBk} (t:Tx K mg "sifted" Jd ["groups","many"] f fd) (T:T K mg AL LN FR iF fCh fGM fCC fCA fPL SE NN NG NT NR NS) (D_untold:Df P w K mg base bY 2 "untold" ["groups","kept","many"] Dw f1 fd1) :
  Df P w K mg base bY 3 "sifted" ["groups","many"] GJ f fd:=by
 refine t.gX zT (fun vs H Q E h=>?_) (fun cdv _A outer s H vs Q E hr h=>?_)
 ·obtain⟨p,m,gs,rfl,_⟩:=h;rfl
 ·obtain⟨p,m,gs,rfl,hp,m0,m6,gl,g64,k⟩:=h;refine⟨_,(aD (aP (i:=2) zT.nd rfl bR (bU aB))
   (aD (c9 PassesOwn.never rfl (bO (pv 0)) (aN (i:=3) zT.nd rfl bR)
    (aH (rK (i:=2) zT.nd rfl bR (aW D_untold hr (by decide) (by rfl) (aA (bU (aA (pv 3) aB)) (aA (pv 2) (aA (pv 1) aB)))) nT)))
   (aH (aU (pv 2))))),?_⟩
  refine⟨by simp[qCf],fun lf hlf=>?_⟩;dsimp only[aX];have u0:aG H (upd H lf (.lst [])):=.aF hlf;refine⟨_,rfl,p,rfl,⟨_,aT.of (u0 _ _ hp)⟩,?_⟩;refine dX (xs:=bC gs) (fun j σ' H'=>aG H H'/\∃(o3:Option V),H' lf=some (.lst (bC (pF m (gs.take j))))/\σ'=[some (.ref p),some (.int (m:Int)),some (.ref lf),o3]) ⟨u0,_,aC,rfl⟩ ?_ ?_ ?_
  ·rintro j σ' H' _ ⟨s2,_⟩;exact aT.of (s2 _ _ hp)
  ·rintro j x σ' H2 hx ⟨s2,o3,hf,rfl⟩;obtain⟨g,hg,rfl⟩:=eF hx;have et:gs.take (j+1)=gs.take j++[g]:=by rw[qFb,hg];rfl
   have hm64:∀k',k'∈pF m (gs.take j)->k'<64:=fun k' hk'=>g64 k' (qMc (Fs k' hk'));have hkl:=(jN m (gs.take j)).len;unfold fN at hkl;rw[qAb] at hkl;dsimp only[aX];refine⟨_,rfl,_,rfl,by simp[qCf],fun l1 h1=>?_⟩;have s3:aG H2 (upd H2 l1 (.lst [V.int (g:Int)])):=.aF h1;have hl1:upd H2 l1 (.lst [V.int (g:Int)]) l1=some (.lst (bC [g])):=aC;generalize upd H2 l1 (.lst [V.int (g:Int)])=H3 at s3 hl1|-;refine⟨_,rfl,_,rfl,l1,lf,m,[g],pF m (gs.take j),rfl,hl1,s3 _ _ hf,m0,m6,by simp,fun g' hg'=>?_,hm64,jN m _,fun D H4 hD s4 hd=>?_⟩
   ·rw[List.mem_singleton.mp hg'];exact g64 g (qBe hg)
   have hf4:=s4 _ _ (s3 _ _ hf);have hfl:([g].filter fun g'=>!gW m (pF m (gs.take j)) g').length<=1:=qGf _ _;refine⟨lf,D,_,_,rfl,rfl,hf4,hd,by rw[bG,bG,qCf];omega,?_⟩;refine⟨(s2.trans (s3.trans s4)).upd_ne' hlf,_,?_,rfl⟩;rw[aC,et,jD,Dy]
  ·rintro σ' H2 ⟨s2,o3,hf,rfl⟩;rw[bG,qEh] at hf;exact⟨_,rfl,k lf H2 hlf s2 hf⟩
def gN (gs:List Nat) (j:Nat):Nat:=gs.getD j 0
theorem iE {gs:List Nat}{j g:Nat} (h:gs[j]?=some g):gN gs j=g:=by unfold gN;rw[qAq,h];rfl
def lK (gs:List Nat) (i:Nat):Int:=Wg.sm gs.length fun j=>bt (gN gs j) i
def wA (gs:List Nat) (j i:Nat):Int:=match j with
 | 0=>lK gs i
 | j+1=>bt (gN gs j) i
def Pf (m:Nat) (gs:List Nat):Prop:=∀y:Nat->Int,(∀g,g∈gs->0<=Wg.sm m fun i=>bt g i*y i)->Wg.sm m y<=0->Wg.sm m y=0/\∀g,g∈gs->(Wg.sm m fun i=>bt g i*y i)=0
def LA (gs:List Nat) (X:Nat->Int) (k:Nat):List (Int×Int):=(qAl k).map fun(j:Nat)=>((gN gs j:Int),X 0+X (j+1))
theorem Ft {n:Nat} (F:Nat->Int):((qAl n).map F).sum=Wg.sm n F:=by
 induction n with
 | zero=>rfl
 | succ n ih=>rw[qBm,qAt,qGn,ih];show _+(F n+0)=_+F n;omega
theorem Dz (gs:List Nat) (i:Nat):0<=lK gs i/\lK gs i<=gs.length:=by
 unfold lK;have h:∀n,0<=(Wg.sm n fun j=>bt (gN gs j) i)/\(Wg.sm n fun j=>bt (gN gs j) i)<=n:=by
  intro n;induction n with
  | zero=>exact⟨qCv _,qCv _⟩
  | succ n ih =>
   have e:(Wg.sm (n+1) fun j=>bt (gN gs j) i)=(Wg.sm n fun j=>bt (gN gs j) i)+bt (gN gs n) i:=rfl;rw[e];rcases qZ (gN gs n) i with z | z <;> rw[z] <;> omega
 exact h _
theorem DB {gs:List Nat} (gl:gs.length<=64) (j i:Nat):(wA gs j i).natAbs<=64:=by
 cases j with
 | zero =>
  have:=Dz gs i;show(lK gs i).natAbs<=64;omega
 | succ j=>exact qCx (mO _ _) (by decide)
theorem Fu {m:Nat}{gs:List Nat} (m0:0<m) (m6:m<=6) (gl:gs.length<=64):Inst m (gs.length+1) (wA gs) (fun _=>1):=⟨m0,by omega,by omega,fun j i=>qBq (DB gl j i) (by decide),fun _=>Sm.of 2 (by decide) (by decide)⟩
theorem KD (n:Nat):([V.int 1]++bB n fun _=>0)=bB (n+1) fun j=>if j=0 then 1 else 0:=by
 have h:=lE 1 n (fun _=>1) (fun _=>0);have e:bB 1 (fun _=>1)=[V.int 1]:=rfl;rw[e] at h;rw[h,qIe];refine dH fun j _=>?_;by_cases z:j=0
 ·rw[if_pos z,if_pos (by omega)]
 ·rw[if_neg z,if_neg (by omega)]
theorem Nl:∀m:_root_.Fin 8,Wg.pP m.1*64^m.1<2^3000:=by decide +kernel
theorem xS {m:Nat}{A:Nat->Nat->Int}{due:Nat->Int}{d:Int} (m7:m<=7) (dm:oX m A due d) (hA:∀j i,(A j i).natAbs<=64) (hd:∀i,(due i).natAbs<=64):Sm 3000 d :=
 qBq (dm 64 (by decide) hA hd) (Nl ⟨m,by omega⟩)
theorem Fv {m:Nat} (gs:List Nat) (Y:Nat->Int):(Wg.sm m fun i=>lK gs i*Y i)=Wg.sm gs.length fun j=>Wg.sm m fun i=>bt (gN gs j) i*Y i:=by
 rw[Wg.jJ];refine Wg.aV fun i _=>?_;unfold lK;rw[qCr,<- Wg.bE];exact Wg.aV fun j _=>qCr _ _
theorem Nm (gs:List Nat) (j i:Nat):0<=wA gs j i:=by
 cases j with
 | zero=>exact(Dz gs i).1
 | succ j=>show 0<=bt _ _;rcases qZ (gN gs j) i with e | e <;> rw[e] <;> decide
theorem GK {f:Nat->Int}:∀{n k:Nat},(∀j,j<n->0<=f j)->k<n->f k<=Wg.sm n f
 | 0,k,_,h=>absurd h (qFw _)
 | n+1,k,h,hk=>by
  show f k<=Wg.sm n f+f n;rcases qAk k n with z | z
  ·have:=GK (n:=n) (k:=k) (fun j hj=>h j (by omega)) z;have:=h n (by omega);omega
  ·have e:k=n:=by omega
   subst e;have:=oR (n:=k) (f:=f) fun j hj=>h j (by omega);omega
theorem vO (f:Nat->Int):∀n,Wg.sm (n+1) f=f 0+Wg.sm n fun j=>f (j+1)
 | 0=>by show 0+f 0=f 0+0;omega
 | n+1=>by
  show Wg.sm (n+1) f+f (n+1)=f 0+(Wg.sm n (fun j=>f (j+1))+f (n+1));rw[vO f n];omega
theorem DD (gs:List Nat) (X:Nat->Int) (k:Nat):LA gs X (k+1)=LA gs X k++[((gN gs k:Int),X 0+X (k+1))]:=by
 unfold LA;rw[qBm,qAt];rfl
def GL:Sp:=fun vs H Q _=>∃(p:Addr) (m:Nat) (gs:List Nat),vs=[.ref p,.int (m:Int)]/\H p=some (.lst (bC gs))/\0<m/\m<=6/\gs.length<=64/\0<gs.length/\(∀g,g∈gs->1<=g/\g<2^m)/\Pf m gs /\
 ∀D H' ys (d:Int) (X:Nat->Int),H D=none->aG H H'->H' D=some (.lst ys)->fD H' d ys (LA gs X gs.length)->0<d->Sm 6000 d->(∀j,Sm 300000 (X j))->0<X 0->(∀j,0<=X j)->(∀i,i<m->(Wg.sm gs.length fun j=>bt (gN gs j) i*(X 0+X (j+1)))=d)->Q (.ref D) H'
theorem vP:aQ ["groups","many","marks","together","told","least"] ["groups","many"] (aI Jg):=by constructor<;>first|rfl|decide +kernel
theorem KG {f1 f2 f3:Addr}{fd1 fd2 fd3:qBk} (t:Tx K mg "weighing_of" Jg ["groups","many"] f fd) (T:T K mg AL LN FR iF fCh fGM fCC fCA fPL SE NN NG NT NR NS) (D_marks_of:Df P w K mg base bY 1 "marks_of" ["group","many"] rA f1 fd1) (D_weigh:Df P w K mg base (g6 P w) 5 "weigh" ["columns","due","gains"] (qX K NR) f2 fd2) (D_plus:Df P w K mg base bY 3 "plus" ["one","other"] Dl f3 fd3) :
  Df P w K mg base bY 6 "weighing_of" ["groups","many"] GL f fd:=by
 refine t.gX vP (fun vs H Q E h=>?_) (fun cdv _A outer s H vs Q E hr h=>?_)
 ·obtain⟨p,m,gs,rfl,_⟩:=h;rfl
 ·obtain⟨p,m,gs,rfl,hp,m0,m6,gl,gp,g64,bal,k⟩:=h;refine⟨_,(aD (aP (i:=2) vP.nd rfl (by first|exact .inl rfl|exact .inr rfl) (bP (NB:=["group","many"]) (pick:=[none,some 1]) (bJ (by with_unfolding_all rfl) (by exact(And.intro rfl trivial)) rfl (by decide +kernel) (by decide +kernel) (by rfl) (by rfl)) rfl
     (bO (pv 0)) (fun _ _ _=>aN (i:=0) (show(["group","many"]:List Str).Nodup from by decide +kernel) rfl bR)
     (fun _ _ _=>bK) (fun _ _ _=>(aW D_marks_of hr (by decide) (by rfl) (aA (pv 0) (aA (pv 1) aB))))))
   (aD (Cb (y0:="hand") (NB:=["hand","marks"]) (pick:=[none,some 2]) (i:=3) vP.nd rfl bR (by rfl) (EH (by with_unfolding_all rfl) (by exact(And.intro rfl trivial)) rfl (fun _=>rfl) (fun _=>rfl) (by decide +kernel) (fun _=>rfl) (by rfl) (by rfl)) rfl
     (cY (by rfl) T.cD (aA (pv 1) aB)) (fun _ _ _=>aN (i:=0) (show(["hand","marks"]:List Str).Nodup from by decide +kernel) rfl (Or.inr rfl))
     (fun _ _ _=>bK) (fun _ _ _=>(aL (Ar K rfl) (by rfl) T.j4 mC (aA (bP (NB:=["mark","hand"]) (pick:=[none,some 0]) (bJ (by with_unfolding_all rfl) (by exact(And.intro rfl trivial)) rfl (by decide +kernel) (by decide +kernel) (by rfl) (by rfl)) rfl
     (BV K (pv 1)) (fun _ _ _=>aN (i:=0) (show(["mark","hand"]:List Str).Nodup from by decide +kernel) rfl bR)
     (fun _ _ _=>bK) (fun _ _ _=>(aS (bV K) (pv 0) (pv 1) (fun _ _=>rfl)))) aB))))
   (aD (aP (i:=4) vP.nd rfl (by first|exact .inl rfl|exact .inr rfl) (dR cA D_weigh hr (by decide) (by rfl) (aA (aR fV (bU (aA (pv 3) aB)) (pv 2)) (aA (aR fQ (bU (aA aE aB)) (pv 1)) (aA (aR fV (bU (aA aE aB)) (aR fQ (bU (aA aE aB)) (aL aO (by rfl) T.bZ bQ (aA (pv 0) aB)))) aB)))))
   (aD (aP (i:=5) vP.nd rfl (by first|exact .inl rfl|exact .inr rfl) (aS a8 (aS bI (pv 4) aE (fun _ _=>rfl)) aE (fun _ _=>rfl)))
   (aH (aU (bP (NB:=["group","more","least"]) (pick:=[none,none,some 5]) (bJ (by with_unfolding_all rfl) (by exact(And.intro rfl trivial)) rfl (by decide +kernel) (by decide +kernel) (by rfl) (by rfl)) rfl
     (gE (by rfl) T.gK (aA (pv 0) (aA (i5 rN (aS bI (pv 4) aE (fun _ _=>rfl)) (kO aE) kN) aB))) (fun _ _ _=>(show PG _ _ (n6 K 2 (dU (aX 0) (dU (aX 1) n4))) from eL rfl (bF (aN (i:=0) (show(["group","more","least"]:List Str).Nodup from by decide +kernel) rfl bR) (bF (aN (i:=1) (show(["group","more","least"]:List Str).Nodup from by decide +kernel) rfl bR) c8))))
     (fun _ _ _=>bK) (fun _ _ _=>(cI (aA (pv 0) (aA (aW D_plus hr (by decide) (by rfl) (aA (pv 2) (aA (pv 1) aB))) aB))))))))))),?_⟩
  have h64:∀g,g∈gs->g<64:=fun g hg=>qAx (g64 g hg).2 (qCx (qBx (by decide) m6) (by decide));refine⟨_,rfl,p,rfl,⟨_,aT.of hp⟩,?_⟩;refine jH (xs:=bC gs) (fun j=>bB m (bt (gN gs j))) (aT.of hp) (by rw[bG];exact qAn (aK (by omega))) (fun j y H4 kk kk0 s4 hy g1=>?_) fun lm cs H1 hlm s1 hcs ncs hD=>?_
  ·obtain⟨g,hg,rfl⟩:=eF hy;refine⟨_,rfl,_,rfl,g,m,rfl,h64 g (qBe hg),m6,fun D H5 hD5 s5 h5=>g1 D H5 s5 hD5 ?_⟩;rw[iE hg];exact h5
  rw[bG] at hcs;have hcA:∀j c,cs[j]?=some c->H1 c=some (.lst (bB m (bt (gN gs j)))):=fun j c e=>(ncs.at_ j c e).2.2;dsimp only[aX];refine⟨_,rfl,m,rfl,by omega,by omega,?_⟩;refine gG (n:=m) (fun i=>some (.int (lK gs i))) (qAn (aK (by omega))) (fun i H2 kk kk0 s2 hi g1 g2=>?_) fun lt H2 hlt s2 hd2=>?_
  ·refine⟨_,rfl,lm,rfl,⟨_,aT.of (s2 _ _ hD)⟩,?_⟩;refine cM (xs:=cs.map V.ref) (fun j _=>some (.int (bt (gN gs j) i))) (aT.of (s2 _ _ hD)) (by rw[qAb,hcs];exact qAn (aK (by omega))) (fun j x H3 kk' kk0' s3 hx g1' g2'=>?_) fun li H3 hli s3 hd3=>?_
   ·obtain⟨c,hc,rfl⟩:=cW hx;have hat:gC (bB m (bt (gN gs j))) ((0:Int)+(i:Int))=some (.int (bt (gN gs j) i)):=by rw[qDj];exact bN hi
    refine⟨_,rfl,_,rfl,c,_,_,_,rfl,rfl,aT.of (s3 _ _ (s2 _ _ (hcA j c hc))),hat,?_⟩;exact g1' _ rfl _ (.refl _)
   ·rw[qAb,hcs,lF _ (by rw[qAb,hcs])] at hd3;refine⟨li,(qAl gs.length).map fun j=>bt (gN gs j) i,rfl,.inl (aT.of (by rw[hd3,qDb];rfl)),?_⟩;exact g1 _ (by rw[Ft];rfl) _ s3
  rw[qDu] at hd2;have hd2:H2 lt=some (.lst (bB m (lK gs))):=hd2;have hp2:=s2 _ _ (s1 _ _ hp);have hD2:=s2 _ _ hD;refine⟨_,rfl,j6,fun l3 hl3=>?_⟩;have u3:=aG.aF (o:=.lst [.ref lt]) hl3;have e3:upd H2 l3 (.lst [.ref lt]) l3=_:=aC;generalize upd H2 l3 (.lst [.ref lt])=H3 at u3 e3|-;refine⟨_,rfl,l3,lm,_,_,rfl,rfl,aT.of e3,aT.of (u3 _ _ hD2),by rw[qAb,hcs,qCf];simp;omega,fun pc hpc=>?_⟩;have u4:=aG.aF (o:=.lst ([V.ref lt]++cs.map V.ref)) hpc;have e4:upd H3 pc (.lst ([V.ref lt]++cs.map V.ref)) pc=some (.lst ((lt::cs).map V.ref)):=aC;generalize upd H3 pc (.lst ([V.ref lt]++cs.map V.ref))=H4 at u4 e4|-;refine⟨j6,fun a1 ha1=>?_⟩;have u5:=aG.aF (o:=.lst [.int 1]) ha1;have e5:upd H4 a1 (.lst [.int 1]) a1=_:=aC;generalize upd H4 a1 (.lst [.int 1])=H5 at u5 e5|-;refine⟨_,rfl,a1,_,_,rfl,rfl,e5,by omega,by omega,?_,fun pd hpd=>?_⟩
  ·show 1*((m:Nat):Int).toNat<=qAj;exact qAn (aK (by omega))
  rw[qBi,fB];have u6:=aG.aF (o:=.lst (bB m fun _=>1)) hpd;have e6:upd H5 pd (.lst (bB m fun _=>1)) pd=_:=aC;generalize upd H5 pd (.lst (bB m fun _=>1))=H6 at u6 e6|-;refine⟨j6,fun b1 hb1=>?_⟩;have u7:=aG.aF (o:=.lst [.int 1]) hb1;have e7:upd H6 b1 (.lst [.int 1]) b1=_:=aC;generalize upd H6 b1 (.lst [.int 1])=H7 at u7 e7|-;refine⟨j6,fun b2 hb2=>?_⟩;have u8:=aG.aF (o:=.lst [.int 0]) hb2;have e8:upd H7 b2 (.lst [.int 0]) b2=_:=aC;generalize upd H7 b2 (.lst [.int 0])=H8 at u8 e8|-;have s28:=u3.trans (u4.trans (u5.trans (u6.trans (u7.trans u8))));refine⟨_,rfl,p,_,rfl,.inl (aT.of (s28 _ _ hp2)),b2,_,_,rfl,rfl,e8,by omega,by rw[bG];omega,?_,fun b3 hb3=>?_⟩
  ·rw[bG];show 1*((gs.length:Nat):Int).toNat<=qAj;exact qAn (aK (by omega))
  rw[bG,qBi,fB];have u9:=aG.aF (o:=.lst (bB gs.length fun _=>0)) hb3;have e9:upd H8 b3 (.lst (bB gs.length fun _=>0)) b3=_:=aC;generalize upd H8 b3 (.lst (bB gs.length fun _=>0))=H9 at u9 e9|-;refine⟨b1,b3,_,_,rfl,rfl,aT.of (u9 _ _ (u8 _ _ e7)),aT.of e9,by rw[aJ,qCf];simp;omega,fun pg hpg=>?_⟩;have u10:=aG.aF (o:=.lst ([V.int 1]++bB gs.length fun _=>0)) hpg;have e10:upd H9 pg (.lst ([V.int 1]++bB gs.length fun _=>0)) pg=some (.lst (bB (gs.length+1) fun j=>if j=0 then 1 else 0)):=by
   rw[aC,KD]
  generalize upd H9 pg (.lst ([V.int 1]++bB gs.length fun _=>0))=H10 at u10 e10|-;have u410:=u5.trans (u6.trans (u7.trans (u8.trans (u9.trans u10))));have s210:=u3.trans (u4.trans u410);dsimp only[iK,qCl,qCm];refine tI (m:=m) (n:=gs.length+1) (A:=wA gs) (due:=fun _=>1) (g:=fun j=>if j=0 then 1 else 0) (Fu m0 m6 gl) (cs:=lt::cs) ⟨u410 _ _ e4,by rw[qCk,hcs],fun j c e=>?_,u10 _ _ (u9 _ _ (u8 _ _ (u7 _ _ e6)))⟩ e10 (fun j=>by split <;> exact Sm.of 2 (by decide) (by decide)) fun r H11 s11 told=>?_
  ·cases j with
   | zero =>
    obtain rfl:=Option.some.inj e;exact s210 _ _ hd2
   | succ j=>exact s210 _ _ (s2 _ _ (hcA j c e))
  have sm1:∀Y:Nat->Int,(Wg.sm m fun i=>1*Y i)=Wg.sm m Y:=fun Y=>Wg.aV fun i _=>qCj _;have gm:∀Z:Nat->Int,(Wg.sm (gs.length+1) fun j=>(if j=0 then 1 else 0)*Z j)=Z 0:=fun Z=>by
   rw[Wg.fR (k:=0) (by omega) fun i _ z=>by rw[if_neg z,qBc]];rw[if_pos rfl,qCj]
  rcases told with ⟨lw,lp,ws,ps,d,X,Y,to⟩ | ⟨lp,ps,d,Y,to⟩ | ⟨lw,lp,ws,ps,d,X,Z,to⟩
  ·have d0:=to.d0;have same:=to.same;rw[sm1,gm] at same;have yg:∀g,g∈gs->0<=Wg.sm m fun i=>bt g i*Y i:=fun g hg=>by
    obtain⟨j,hj,e⟩:=qCy hg;have z:=to.cols (j+1) (by omega);rw[if_neg (by omega),qBc] at z;have e':gN gs j=g:=iE (by rw[qAd hj,e]);have ew:∀i,wA gs (j+1) i=bt g i:=fun i=>by show bt (gN gs j) i=_;rw[e']
    rw[Wg.aV fun i _=>by rw[ew i]] at z;exact z
   have x0:0<X 0:=by
    rcases qNl (to.x0 0) with z | z
    ·exact z
    ·exfalso;obtain⟨_,b2⟩:=bal Y yg (by rw[same,<- z];exact qCv _);have c0:=to.cols 0 (by omega);rw[if_pos rfl,qCj] at c0;have c1:(Wg.sm m fun i=>wA gs 0 i*Y i)=0:=by
      show(Wg.sm m fun i=>lK gs i*Y i)=0;rw[Fv];refine Wg.bX fun j hj=>b2 _ ?_;unfold gN;rw[qAq,qAd hj];exact qEs hj
     omega
   have sd:=xS (by omega) to.dm (DB gl) (fun _=>by decide);have a1:gC [V.str "best",V.ref lw,V.ref lp] 1=some (.ref lw):=rfl;have wl:ws.length=gs.length+1:=to.fw.len;have ew0:ws[0]?=some ws[0]:=qAd (by omega);have a0:gC (ws.map V.ref) 0=some (.ref ws[0]):=fJ (j:=0) (by rw[qAp,ew0];rfl);dsimp only[aX];refine⟨_,rfl,r,_,_,_,rfl,rfl,cQ.of to.tup,a1,lw,_,_,_,rfl,rfl,aT.of to.fw.hr,a0,?_⟩;dsimp only[aX];have hp11:=s11 _ _ (s210 _ _ hp2);refine⟨_,rfl,_,rfl,r,_,_,_,rfl,rfl,cQ.of to.tup,a1,_,rfl,lw,_,rfl,aT.of to.fw.hr,fun lz hlz=>?_⟩;have u12:=aG.aF (o:=.lst (gQ (ws.map V.ref) (some 1) none)) hlz;have e12:upd H11 lz (.lst (gQ (ws.map V.ref) (some 1) none)) lz=some (.lst ((ws.drop 1).map V.ref)):=by
    rw[aC,show(1:Int)=((1:Nat):Int) from rfl,CK,List.map_drop]
   generalize upd H11 lz (.lst (gQ (ws.map V.ref) (some 1) none))=H12 at u12 e12|-;refine⟨p,lz,rfl,⟨_,aT.of (u12 _ _ hp11)⟩,⟨_,aT.of e12⟩,?_⟩;refine mF (xs:=bC gs) (xs':=(ws.drop 1).map V.ref) (fun σ'=>∃o0 o1:Option V,σ'=[o0,o1,some (.ref ws[0])]) (fun i ys H'=>fD H' d ys (LA gs X i)) (fun i ys H1 H2 st h=>h.t st) ⟨_,_,rfl⟩ trivial (aT.of (u12 _ _ hp11)) (aT.of e12) (by rw[bG,qAb,qHq];omega) (by rw[bG];exact qAn (aK (by omega))) (fun i x y tt σ1 H13 kk kk0 ys hσ s13 hx hy ht iv g1 g2=>?_) fun D ys H13 hD13 s13 iv hd13=>?_
   ·obtain⟨o0,o1,rfl⟩:=hσ;obtain⟨g,hg,rfl⟩:=eF hx;obtain⟨w',hw',rfl⟩:=cW hy;have hw1:ws[i+1]?=some w':=by rw[qMx] at hw';rw[qIe];exact hw'
    have hf0:=s13 _ _ (u12 _ _ (to.fw.at_ 0 _ ew0));have hf1:=s13 _ _ (u12 _ _ (to.fw.at_ (i+1) w' hw1));refine⟨tt,_,rfl,cQ.of ht,rfl,_,_,rfl,_,_,rfl,rfl,?_⟩;refine⟨_,rfl,_,rfl,_,rfl,ws[0],w',X 0,X (i+1),d,rfl,hf0,hf1,d0,sd,(to.sX 0).mono (by decide),(to.sX _).mono (by decide),fun rr H14 s14 h14=>?_⟩;refine⟨lS,fun z2 hz2=>?_⟩;have u15:=aG.aF (o:=.tup [.int (g:Int),.ref rr]) hz2;refine g1 _ _ _ ⟨_,_,rfl⟩ (s14.trans u15) ?_;rw[DD,iE hg];exact fD.app (p:=((g:Int),X 0+X (i+1))) aC (u15 _ _ h14) (iv.t (s14.trans u15).t)
   ·rw[bG] at iv;have sA:=s1.trans (s2.trans (s210.trans (s11.trans u12)));refine k D H13 ys d X (sA.free hD13) (sA.trans s13) hd13 iv d0 to.ds to.sX x0 to.x0 fun i hi=>?_;have mt:=to.meets i hi;rw[qCj,vO] at mt;have e1:(Wg.sm gs.length fun j=>bt (gN gs j) i*(X 0+X (j+1)))=lK gs i*X 0+Wg.sm gs.length fun j=>bt (gN gs j) i*X (j+1):=by
     rw[show(fun j=>bt (gN gs j) i*(X 0+X (j+1)))=fun j=>X 0*bt (gN gs j) i+bt (gN gs j) i*X (j+1) from funext fun j=>by grind,Wg.eY,Wg.bE];unfold lK;rw[qCr]
    rw[e1];exact mt
  ·exfalso;have ng:=to.neg;rw[sm1] at ng;have yg:∀g,g∈gs->0<=Wg.sm m fun i=>bt g i*Y i:=fun g hg=>by
    obtain⟨j,hj,e⟩:=qCy hg;have z:=to.cols (j+1) (by omega);have e':gN gs j=g:=iE (by rw[qAd hj,e]);have ew:∀i,wA gs (j+1) i=bt g i:=fun i=>by show bt (gN gs j) i=_;rw[e']
    rw[Wg.aV fun i _=>by rw[ew i]] at z;exact z
   have:=(bal Y yg (by omega)).1;omega
  ·exfalso;have mo:=to.more;rw[gm] at mo;have hg0:gs[0]?=some gs[0]:=qAd gp;obtain⟨q1,q2⟩:=g64 _ (qEs gp);obtain⟨i,hi,hb⟩:=rB ⟨m,by omega⟩ ⟨gs[0],h64 _ (qEs gp)⟩ q1 q2;have zz:=pC (fun j _=>qEc (Nm gs j i.1) (to.z0 j)) (to.away i.1 hi) 0 (by omega);have t1:1<=lK gs i.1:=by
    have z1:=GK (f:=fun j=>bt (gN gs j) i.1) (n:=gs.length) (fun j _=>by rcases qZ (gN gs j) i.1 with e | e <;> rw[e] <;> decide) gp
    have e':gN gs 0=gs[0]:=iE hg0;dsimp only at z1 hb;rw[e',hb] at z1;exact z1
   rcases Int.mul_eq_zero.mp zz with z | z
   ·have z:lK gs i.1=0:=z;omega
   ·omega
def kA (gs:List Nat) (c i:Nat):Int:=if c%2=0 then bt (gN gs (c/2)) i else -bt (gN gs (c/2)) i
theorem xT (gs:List Nat) (c i:Nat):(kA gs c i).natAbs<=1:=by
 unfold kA;split
 ·exact mO _ _
 ·rw[qLa];exact mO _ _
theorem Fw {m:Nat}{gs:List Nat}{h:Nat} (m0:0<m) (m6:m<=6) (gl:gs.length<=6):Inst m (2*gs.length) (kA gs) (bt (2^h)):=⟨m0,by omega,by omega,fun j i=>qBq (xT gs j i) (by decide),fun i=>(pB _ i).mono (by decide)⟩
structure vQ (m k:Nat) (A:Nat->Nat->Int) (H:Hp) (q:Addr) (cs:List Addr):Prop where
 hq:H q=some (.lst (cs.map V.ref))
 len:cs.length=k
 at_:∀(c:Nat) (a:Addr),cs[c]?=some a->H a=some (.lst (bB m (A c)))
theorem vQ.add {m k:Nat}{A:Nat->Nat->Int}{H:Hp}{q a b:Addr}{cs:List Addr} (m0:0<m) (h:vQ m k A H q cs) (ha:H a=some (.lst (bB m (A k)))) (hb:H b=some (.lst (bB m (A (k+1))))) :
  vQ m (k+2) A (upd H q (.lst (cs.map V.ref++[V.ref a,V.ref b]))) q (cs++[a,b]):=by
 have hne:∀(x:Addr) (r:Nat->Int),H x=some (.lst (bB m r))->x≠q:=fun x r e z=>by
  rw[z,h.hq] at e;exact pE m0 (HO.lst.inj (Option.some.inj e)).symm
 refine⟨by rw[aC,qAt];rfl,by rw[qAo,h.len];rfl,fun c x e=>?_⟩;rcases qAk c cs.length with z | z
 ·rw[qBb z] at e;have w:=h.at_ c x e;rw[aM (hne _ _ w)];exact w
 ·rw[qAy z,h.len] at e;rw[h.len] at z;rcases qAk k c with z' | z'
  ·have hc:c-k=1:=by
    have:=(List.getElem?_eq_some_iff.mp e).1;simp only[qCk,qKk] at this;omega
   rw[hc] at e;obtain rfl:b=x:=Option.some.inj e;rw[aM (hne _ _ hb),show c=k+1 by omega];exact hb
  ·rw[show c-k=0 by omega] at e;obtain rfl:a=x:=Option.some.inj e;rw[aM (hne _ _ ha),show c=k by omega];exact ha
theorem vQ.same {m k:Nat}{A:Nat->Nat->Int}{H H':Hp}{q:Addr}{cs:List Addr} (h:vQ m k A H q cs) (s:aG H H'):vQ m k A H' q cs:=⟨s _ _ h.hq,h.len,fun c a e=>s _ _ (h.at_ c a e)⟩
def xU (gs:List Nat) (F:Nat->Int) (k:Nat):List (Int×Int):=((qAl k).filter fun j=>decide (F j≠0)).map fun(j:Nat)=>((gN gs j:Int),F j)
theorem rD (gs:List Nat) (F:Nat->Int) (k:Nat):xU gs F (k+1)=if F k≠0 then xU gs F k++[((gN gs k:Int),F k)] else xU gs F k:=by
 unfold xU;rw[qBm,qHa,qAt,qEd,qHy];by_cases h:F k≠0
 ·rw[if_pos (decide_eq_true h),if_pos h];rfl
 ·rw[if_neg (by rw[decide_eq_false h];exact qAm),if_neg h,qEl,qDp]
theorem nW (gs:List Nat) (j:Nat):kA gs (2*j)=bt (gN gs j):=by
 funext i;unfold kA;rw[if_pos (by omega),show 2*j/2=j by omega]
theorem tN (gs:List Nat) (j:Nat):kA gs (2*j+1)=fun i=>-bt (gN gs j) i:=by
 funext i;unfold kA;rw[if_neg (by omega),show(2*j+1)/2=j by omega]
theorem Be:∀h:_root_.Fin 6,alone h.1=((2^h.1:Nat):Int):=by decide +kernel
theorem vR (f:Nat->Int):∀n,Wg.sm (2*n) f=Wg.sm n fun j=>f (2*j)+f (2*j+1)
 | 0=>rfl
 | n+1=>by
  show Wg.sm (2*n) f+f (2*n)+f (2*n+1)=(Wg.sm n fun j=>f (2*j)+f (2*j+1))+(f (2*n)+f (2*n+1));rw[vR f n];omega
def GN:Sp:=fun vs H Q _=>∃(p:Addr) (h m:Nat) (gs:List Nat),vs=[.int (h:Int),.ref p,.int (m:Int)]/\H p=some (.lst (bC gs))/\h<m/\m<=6/\gs.length=m/\(∀g,g∈gs->g<64)/\Cm.iC m (fN gs) /\
 ∀D H' ys (d:Int) (F:Nat->Int),H D=none->aG H H'->H' D=some (.lst ys)->fD H' d ys (xU gs F gs.length)->0<d->Sm 6000 d->(∀j,Sm 310000 (F j))->(∀i,i<m->(Wg.sm gs.length fun j=>bt (gN gs j) i*F j)=bt (2^h) i*d)->Q (.ref D) H'
theorem pH:aQ ["hand","groups","many","columns","group","column","weights","factors"] ["hand","groups","many"] (aI Jj):=by constructor<;>first|rfl|decide +kernel
theorem KH {f1 f2 f3 f4:Addr}{fd1 fd2 fd3 fd4:qBk} (t:Tx K mg "key_of" Jj ["hand","groups","many"] f fd) (T:T K mg AL LN FR iF fCh fGM fCC fCA fPL SE NN NG NT NR NS) (D_marks_of:Df P w K mg base bY 1 "marks_of" ["group","many"] rA f1 fd1) (D_below_nought:Df P w K mg base bY 1 "below_nought" ["column"] Ds f2 fd2) (D_weigh:Df P w K mg base (g6 P w) 5 "weigh" ["columns","due","gains"] (qX K NR) f3 fd3) (D_minus:Df P w K mg base bY 3 "minus" ["one","other"] Dr f4 fd4) :
  Df P w K mg base bY 6 "key_of" ["hand","groups","many"] GN f fd:=by
 refine t.gX pH (fun vs H Q E h=>?_) (fun cdv _A outer s H vs Q E hr h=>?_)
 ·obtain⟨p,h,m,gs,rfl,_⟩:=h;rfl
 ·obtain⟨p,h,m,gs,rfl,hp,hm,m6,gl,g64,ind,k⟩:=h;refine⟨_,(aD (aP (i:=3) pH.nd rfl bR (bU aB))
   (aD (c9 PassesOwn.never rfl (bO (pv 1)) (aN (i:=4) pH.nd rfl (by first|exact .inl rfl|exact .inr rfl))
    (aD (aP (i:=5) pH.nd rfl bR (aW D_marks_of hr (by decide) (by rfl) (aA (pv 4) (aA (pv 2) aB))))
    (aH (rK (i:=3) pH.nd rfl bR (bU (aA (pv 5) (aA (aW D_below_nought hr (by decide) (by rfl) (aA (pv 5) aB)) aB))) nT))))
   (aD (aP (i:=6) pH.nd rfl (by first|exact .inl rfl|exact .inr rfl) (aS bI (dR cA D_weigh hr (by decide) (by rfl) (aA (pv 3) (aA (aW D_marks_of hr (by decide) (by rfl) (aA (aS bI (fH (v:=.ref AL) (by rfl) T.Ed rfl) (pv 0) (fun _ _=>rfl)) (aA (pv 2) aB))) (aA (aR fQ (bU (aA aE aB)) (aL aO (by rfl) T.bZ bQ (aA (pv 3) aB))) aB)))) aE (fun _ _=>rfl)))
   (aD (eB (NB:=["place","weights"]) (pick:=[none,some 6]) (i:=7) pH.nd rfl (by first|exact .inl rfl|exact .inr rfl) (by rfl) (bJ (by with_unfolding_all rfl) (by exact(And.intro rfl trivial)) rfl (by decide +kernel) (by decide +kernel) (by rfl) (by rfl)) rfl
     (cY (by rfl) T.cD (aA (aL aO (by rfl) T.bZ bQ (aA (pv 1) aB)) aB)) (fun _ _ _=>aN (i:=0) (show(["place","weights"]:List Str).Nodup from by decide +kernel) rfl bR)
     (fun _ _ _=>bK) (fun _ _ _=>(aW D_minus hr (by decide) (by rfl) (aA (aS (bV K) (pv 1) (aR bM aE (pv 0)) (fun _ _=>rfl)) (aA (aS (bV K) (pv 1) (aR fP (aR bM aE (pv 0)) aE) (fun _ _=>rfl)) aB)))))
   (aH (aU (bP (NB:=["group","factor"]) (pick:=[none,none]) (bJ (by with_unfolding_all rfl) (by exact trivial) rfl (by decide +kernel) (by decide +kernel) (by rfl) (by rfl)) rfl
     (gE (by rfl) T.gK (aA (pv 1) (aA (pv 7) aB))) (fun _ _ _=>(show PG _ _ (n6 K 2 (dU (aX 0) (dU (aX 1) n4))) from eL rfl (bF (aN (i:=0) (show(["group","factor"]:List Str).Nodup from by decide +kernel) rfl bR) (bF (aN (i:=1) (show(["group","factor"]:List Str).Nodup from by decide +kernel) rfl bR) c8))))
     (fun _ _ _=>eW (aZ (oM K hr.units) (pv 1) (cI (aA aE (aA aE aB))) (aY _))) (fun _ _ _=>(cI (aA (pv 0) (aA (pv 1) aB))))))))))),?_⟩
  have m0:0<m:=by omega
  refine⟨by simp[qCf],fun lc hlc=>?_⟩;dsimp only[aX];have u0:aG H (upd H lc (.lst [])):=.aF hlc;refine⟨_,rfl,p,rfl,⟨_,aT.of (u0 _ _ hp)⟩,?_⟩;refine dX (xs:=bC gs) (fun j σ' H'=>aG H H'/\∃(cs:List Addr) (o4 o5 o6 o7:Option V),vQ m (2*j) (kA gs) H' lc cs/\σ'=[some (.int (h:Int)),some (.ref p),some (.int (m:Int)),some (.ref lc),o4,o5,o6,o7]) ⟨u0,[],_,_,_,_,⟨aC,rfl,fun c a e=>by cases e⟩,rfl⟩ ?_ ?_ ?_
  ·rintro j σ' H' _ ⟨s2,_⟩;exact aT.of (s2 _ _ hp)
  ·rintro j x σ' H2 hx ⟨s2,cs,o4,o5,o6,o7,kc,rfl⟩;obtain⟨g,hg,rfl⟩:=eF hx;have hj:j<gs.length:=(List.getElem?_eq_some_iff.mp hg).1;dsimp only[aX];refine⟨_,rfl,_,rfl,g,m,rfl,g64 g (qBe hg),m6,fun D H3 hD s3 hd=>?_⟩;dsimp only[aX];refine⟨_,rfl,_,rfl,_,rfl,D,m,bt g,rfl,hd,by omega,fun D2 H4 hD2 s4 hd4=>?_⟩;have eg:gN gs j=g:=iE hg;refine⟨lS,fun l5 h5=>?_⟩;have u5:=aG.aF (o:=.lst [.ref D,.ref D2]) h5;have e5:upd H4 l5 (.lst [.ref D,.ref D2]) l5=_:=aC;generalize upd H4 l5 (.lst [.ref D,.ref D2])=H5 at u5 e5|-;have kc5:=kc.same (s3.trans (s4.trans u5));refine⟨lc,l5,_,_,rfl,rfl,kc5.hq,e5,by rw[qAb,kc5.len,qCf];simp;omega,?_⟩;refine⟨(s2.trans (s3.trans (s4.trans u5))).upd_ne' hlc,cs++[D,D2],_,_,_,_,kc5.add m0 ?_ ?_,rfl⟩
   ·show H5 D=some (.lst (bB m (kA gs (2*j))));rw[nW,eg];exact u5 _ _ (s4 _ _ hd)
   ·show H5 D2=some (.lst (bB m (kA gs (2*j+1))));rw[tN,eg];exact u5 _ _ hd4
  ·rintro σ' H2 ⟨s2,cs,o4,o5,o6,o7,kc,rfl⟩;rw[bG] at kc;have hat:gC (iL.map V.int) (h:Int)=some (.int (alone h)):=by
    have z:=pA (i:=(h:Int)) (by omega) (by omega);simpa using z
   have eal:alone h=((2^h:Nat):Int):=Be ⟨h,by omega⟩;refine⟨_,rfl,_,rfl,AL,_,_,_,rfl,rfl,T.al _,hat,_,rfl,2^h,m,by rw[eal];rfl,Nat.pow_lt_pow_right (n:=6) (by decide) (by omega),m6,fun pd H3 hpd s3 hd3=>?_⟩;refine⟨j6,fun b2 hb2=>?_⟩;have u8:=aG.aF (o:=.lst [.int 0]) hb2;have e8:upd H3 b2 (.lst [.int 0]) b2=_:=aC;generalize upd H3 b2 (.lst [.int 0])=H8 at u8 e8|-;have kc8:=kc.same (s3.trans u8);have cl:(cs.map V.ref).length=2*gs.length:=by rw[qAb,kc.len]
   refine⟨_,rfl,lc,_,rfl,.inl (aT.of kc8.hq),b2,_,_,rfl,rfl,e8,by omega,by rw[cl];omega,?_,fun b3 hb3=>?_⟩
   ·rw[cl];show 1*((2*gs.length:Nat):Int).toNat<=qAj;exact qAn (aK (by omega))
   rw[cl,qBi,fB];have u9:=aG.aF (o:=.lst (bB (2*gs.length) fun _=>0)) hb3;have e9:upd H8 b3 (.lst (bB (2*gs.length) fun _=>0)) b3=_:=aC;generalize upd H8 b3 (.lst (bB (2*gs.length) fun _=>0))=H9 at u9 e9|-;have kc9:=kc8.same u9;dsimp only[iK,qCl,qCm];refine tI (m:=m) (n:=2*gs.length) (A:=kA gs) (due:=bt (2^h)) (g:=fun _=>0) (Fw m0 m6 (by omega)) (cs:=cs) ⟨kc9.hq,kc9.len,kc9.at_,u9 _ _ (u8 _ _ hd3)⟩ e9 (fun j=>Sm.of 2 (by decide) (by decide)) fun r H11 s11 told=>?_;have s211:=s3.trans (u8.trans (u9.trans s11));rcases told with ⟨lw,lp,ws,ps,d,X,Y,to⟩ | ⟨lp,ps,d,Y,to⟩ | ⟨lw,lp,ws,ps,d,X,Z,to⟩
   ·have a1:gC [V.str "best",V.ref lw,V.ref lp] 1=some (.ref lw):=rfl;have d0:=to.d0;have sd:=vL m6 to.dm (fun j i=>xT gs j i) (fun i=>mO _ _);have wl:ws.length=2*gs.length:=to.fw.len;refine⟨r,_,_,_,rfl,rfl,cQ.of to.tup,a1,?_⟩;dsimp only[aX];have hp11:=s211 _ _ (s2 _ _ hp);refine⟨_,rfl,p,_,rfl,.inl (aT.of hp11),gs.length,by rw[bG],by omega,by omega,?_⟩;refine qC (n:=gs.length) (fun i ys H'=>∃fs:List Addr,ys=fs.map V.ref/\fs.length=i/\∀(j:Nat) (w:Addr),fs[j]?=some w->H' w=some (fL (X (2*j)-X (2*j+1)) d)) ?_ ⟨[],rfl,rfl,fun j w e=>by cases e⟩ (qAn (aK (by omega))) (fun i H12 kk kk0 ys s12 hi iv g1 g2=>?_) fun lf ys H12 hlf s12 iv hd12=>?_
    ·rintro i ys H1 H2 st ⟨fs,e1,e2,e3⟩;exact⟨fs,e1,e2,fun j w e=>st _ _ (e3 j w e)⟩
    ·obtain⟨fs,rfl,fl,fa⟩:=iv;have hw:=s12 _ _ to.fw.hr;have at1:∀c:Nat,c<2*gs.length->∃w,ws[c]?=some w/\gC (ws.map V.ref) (c:Int)=some (.ref w)/\H12 w=some (fL (X c) d):=fun c hc=>by
      have e:=qAd (l:=ws) (i:=c) (by omega);exact⟨_,e,fJ (by rw[qAp,e];rfl),s12 _ _ (to.fw.at_ c _ e)⟩
     obtain⟨w1,_,t1,q1⟩:=at1 (2*i) (by omega);obtain⟨w2,_,t2,q2⟩:=at1 (2*i+1) (by omega);have i1:((2*i:Nat):Int)=2*(0+(i:Int)):=by omega
     have i2:((2*i+1:Nat):Int)=2*(0+(i:Int))+1:=by omega
     rw[i1] at t1;rw[i2] at t2;have sm2:Sm 10 (2:Int):=by show(2:Int).natAbs<2^10;decide
     have smi:Sm 10 (0+(i:Int)):=by show(0+(i:Int)).natAbs<2^10;omega
     refine⟨_,rfl,_,rfl,_,_,rfl,rfl,sm2.mb smi,lw,_,_,_,rfl,rfl,aT.of hw,t1,_,rfl,_,rfl,_,_,rfl,rfl,sm2.mb smi,_,_,rfl,rfl,lw,_,_,_,rfl,rfl,aT.of hw,t2,w1,w2,X (2*i),X (2*i+1),d,rfl,q1,q2,d0,sd,(to.sX _).mono (by decide),(to.sX _).mono (by decide),fun rr H13 s13 h13=>?_⟩;refine g1 _ _ s13 ⟨fs++[rr],by rw[qAt];rfl,by rw[qAo,fl];rfl,fun j w e=>?_⟩;rcases qAk j fs.length with z | z
     ·rw[qBb z] at e;exact s13 _ _ (fa j w e)
     ·rw[qAy z] at e;have hj:j-fs.length=0:=by
       have:=(List.getElem?_eq_some_iff.mp e).1;rw[qBf] at this;omega
      rw[hj] at e;obtain rfl:=Option.some.inj e;rw[show j=i by omega];exact h13
    ·obtain⟨fs,rfl,fl,fa⟩:=iv;have hp12:=s12 _ _ hp11;refine⟨_,rfl,_,rfl,p,lf,rfl,⟨_,aT.of hp12⟩,⟨_,aT.of hd12⟩,?_⟩;refine mF (xs:=bC gs) (xs':=fs.map V.ref) (fun σ'=>∃o0 o1:Option V,σ'=[o0,o1]) (fun i ys H'=>fD H' d ys (xU gs (fun j=>X (2*j)-X (2*j+1)) i)) (fun i ys H1 H2 st h=>h.t st) ⟨_,_,rfl⟩ trivial (aT.of hp12) (aT.of hd12) (by rw[bG,qAb,fl]) (by rw[bG];exact qAn (aK (by omega))) (fun i x y tt σ1 H13 kk kk0 ys hσ s13 hx hy ht iv g1 g2=>?_) fun D ys H13 hD13 s13 iv hd13=>?_
     ·obtain⟨o0,o1,rfl⟩:=hσ;obtain⟨g,hg,rfl⟩:=eF hx;obtain⟨w',hw',rfl⟩:=cW hy;have hfw:=s13 _ _ (fa i w' hw');refine⟨tt,_,rfl,cQ.of ht,rfl,?_⟩;refine⟨_,_,rfl,_,_,rfl,rfl,_,rfl,lS,fun z1 hz1=>?_⟩;have u13:=aG.aF (o:=.tup [.int 0,.int 1]) hz1;have x13:upd H13 z1 (.tup [.int 0,.int 1]) z1=_:=aC;generalize upd H13 z1 (.tup [.int 0,.int 1])=H14 at u13 x13|-;refine⟨_,_,tK (u13 _ _ hfw),.tup (cQ.of x13) (.cons (.int _) (.cons (.int _) .nil)),fM _ _,fM _ _,_,rfl,?_⟩;rw[kG d0];by_cases e:X (2*i)-X (2*i+1)≠0
      ·refine cP (fun _=>?_) (fun no=>absurd (decide_eq_true e) no);refine⟨_,rfl,_,rfl,lS,fun z2 hz2=>?_⟩;have u14:=aG.aF (o:=.tup [.int (g:Int),.ref w']) hz2;refine g1 _ _ _ ⟨_,_,rfl⟩ (u13.trans u14) ?_;rw[rD,if_pos e,iE hg];exact fD.app (p:=((g:Int),X (2*i)-X (2*i+1))) aC (u14 _ _ (u13 _ _ hfw)) (iv.t (u13.trans u14).t)
      ·refine cP (fun y=>absurd (of_decide_eq_true y) e) (fun _=>g2 _ _ ⟨_,_,rfl⟩ u13 ?_);rw[rD,if_neg e];exact iv.t u13.t
     ·rw[bG] at iv;have sA:=s2.trans (s211.trans s12);refine k D H13 ys d _ (sA.free hD13) (sA.trans s13) hd13 iv d0 to.ds (fun j=>((to.sX _).sub (to.sX _)).mono (by decide)) fun i hi=>?_;have mt:=to.meets i hi;rw[vR] at mt;rw[<- mt];refine Wg.aV fun j _=>?_;rw[nW,tN];grind
   ·exfalso;have ng:=to.neg;have yz:∀v,v∈fN gs->Cm.dot m Y v=0:=fun v hv=>by
     obtain⟨g,hg,rfl⟩:=List.mem_map.mp hv;obtain⟨j,hj,e⟩:=qCy hg;have e':gN gs j=g:=iE (by rw[qAd hj,e]);have z1:=to.cols (2*j) (by omega);have z2:=to.cols (2*j+1) (by omega);rw[nW,e'] at z1;rw[tN,e'] at z2;have z3:(Wg.sm m fun i=>-bt g i*Y i)=-Wg.sm m fun i=>bt g i*Y i:=by
      have:=Wg.bE m (-1) fun i=>bt g i*Y i;rw[show(-Wg.sm m fun i=>bt g i*Y i)=-1*Wg.sm m fun i=>bt g i*Y i by omega,<- this];exact Wg.aV fun i _=>by grind
     rw[z3] at z2;have z4:Cm.dot m Y (bt g)=Wg.sm m fun i=>bt g i*Y i:=Wg.aV fun i _=>qCr _ _;rw[z4];omega
    have z:=Cm.Told.dot ind (Cm.AU ind (by unfold fN;rw[qAb,gl]) (bt (2^h))) yz;have z4:Cm.dot m Y (bt (2^h))=Wg.sm m fun i=>bt (2^h) i*Y i:=Wg.aV fun i _=>qCr _ _;rw[z4] at z;omega
   ·exfalso;have mo:=to.more;rw[Wg.bX fun j _=>qBc _] at mo;exact absurd mo (by decide)
def vS (m:Nat) (tb Y:Nat->Int) (b:Int) (g:Nat):Int:=tb g*b-Wg.sm m fun i=>bt g i*Y i
def kH (m:Nat) (tb Y:Nat->Int) (b:Int) (k:Nat):List (Key×V):=(qAl k).map fun(j:Nat)=>(Sum.inl ((j+1:Nat):Int),V.int (vS m tb Y b (j+1)))
theorem DE (l:List Int) (F:Int->V):((qAl (l.map V.int).length).filterMap fun i=>((l.map V.int)[i]?).bind fun _=>(l[i]?).map F)=l.map F:=by
 rw[qAb];have e:((qAl l.length).filterMap fun i=>((l.map V.int)[i]?).bind fun _=>(l[i]?).map F)=(qAl l.length).filterMap fun i=>(l[i]?).bind fun h=>some (F h):=by
  refine cU fun i hi=>?_;have hi:=List.mem_range.mp hi;rw[qAp,qAd hi];rfl
 rw[e,vN,qDu]
theorem DF (m:Nat) (tb Y:Nat->Int) (b:Int) (j:Nat):putK (kH m tb Y b j) (Sum.inl ((j+1:Nat):Int):Key) (V.int (tb (j+1)*b-Wg.sm m fun i=>bt (j+1) i*Y i))=kH m tb Y b (j+1):=by
 unfold putK;rw[if_neg]
 ·unfold kH;rw[qBm,qAt];rfl
 ·intro z;obtain⟨kv,hkv,e⟩:=List.any_eq_true.mp z;obtain⟨i,hi,rfl⟩:=List.mem_map.mp hkv;have hi:=List.mem_range.mp hi;have e:=Sum.inl.inj (of_decide_eq_true e);omega
def GO (K:qAc):Sp:=fun vs H Q _=>∃(p q:Addr) (m n:Nat) (tb Y:Nat->Int) (b:Int),vs=[.ref p,.ref q,.int b]/\H p=some (.lst (bB n tb))/\H q=some (.lst (bB m Y))/\1<=m/\m<=6/\n=2^m/\Sm 6000 b/\(∀j,Sm 300000 (Y j))/\(∀j,Sm 80000 (tb j)) /\
 ∀D H' ob,H D=none->aG H H'->H' D=some (.frz ob (.dK (kH m tb Y b (n-2))))->Q (.ref D) H'
theorem DI:aQ ["table","tops","bottom","lacks","group"] ["table","tops","bottom"] (aI Jh):=by constructor<;>first|rfl|decide +kernel
theorem KI {f1:Addr}{fd1:qBk} (t:Tx K mg "lacks_of" Jh ["table","tops","bottom"] f fd) (T:T K mg AL LN FR iF fCh fGM fCC fCA fPL SE NN NG NT NR NS) (D_hands_of:Df P w K mg base (g6 P w) 4 "hands_of" ["group"] (Dg K NG) f1 fd1) :
  Df P w K mg base bY 5 "lacks_of" ["table","tops","bottom"] (GO K) f fd:=by
 refine t.gX DI (fun vs H Q E h=>?_) (fun cdv _A outer s H vs Q E hr h=>?_)
 ·obtain⟨p,q,m,n,tb,Y,b,rfl,_⟩:=h;rfl
 ·obtain⟨p,q,m,n,tb,Y,b,rfl,hp,hq,m1,m6,hn,sb,sY,st,k⟩:=h;refine⟨_,(aD (aP (i:=3) DI.nd rfl bR BL)
   (aD (c9 PassesOwn.never rfl (jE (by rfl) T.cD (aA aE (aA (aR eU (aL aO (by rfl) T.bZ bQ (aA (pv 0) aB)) aE) aB))) (aN (i:=4) DI.nd rfl (by first|exact .inl rfl|exact .inr rfl))
    (aH (yU (BC hr) (pv 3) (pv 4) (aR eU (aR bM (aS a8 (pv 0) (pv 4) (fun _ _=>rfl)) (pv 2)) (aL (hZ rfl) (by rfl) T.j4 mC (aA (bP (NB:=["hand","tops"]) (pick:=[none,some 1]) (bJ (by with_unfolding_all rfl) (by exact(And.intro rfl trivial)) rfl (by decide +kernel) (by decide +kernel) (by rfl) (by rfl)) rfl
     (bO (dR cA D_hands_of hr (by decide) (by rfl) (aA (pv 4) aB))) (fun _ _ _=>aN (i:=0) (show(["hand","tops"]:List Str).Nodup from by decide +kernel) rfl bR)
     (fun _ _ _=>bK) (fun _ _ _=>(aS (bV K) (pv 1) (pv 0) (fun _ _=>rfl)))) aB))) rfl)))
   (aH (aU (ES (pv 3)))))),?_⟩
  refine fun D hD=>?_;dsimp only[aX];have u0:aG H (upd H D (.dK [])):=.aF hD;have n64:n<=64:=by rw[hn];exact xP m6
  have n2:2<=n:=by rw[hn];exact qBx (n:=2) (i:=1) (by decide) m1
  refine⟨_,rfl,p,_,rfl,.inl (aT.of (u0 _ _ hp)),_,_,rfl,rfl,1,_,rfl,?_,?_⟩
  ·rw[aJ];omega
  rw[aJ,show(((n:Nat):Int)-1-1).toNat=n-2 by omega];refine lX (lo:=1) (n:=n-2) (fun j σ' H'=>aG H H'/\∃(o4:Option V),H' D=some (.dK (kH m tb Y b j))/\σ'=[some (.ref p),some (.ref q),some (.int b),some (.ref D),o4]) ⟨u0,_,aC,rfl⟩ ?_ ?_
  ·rintro j σ' H2 hj ⟨s2,o4,hd,rfl⟩;have e1:(1:Int)+(j:Int)=((j+1:Nat):Int):=by omega
   rw[e1];dsimp only[aX];have hp2:=s2 _ _ hp;have hq2:=s2 _ _ hq;have gm:j+1<2^m:=by omega
   have h64:j+1<64:=by omega
   refine⟨_,rfl,_,rfl,p,_,_,_,rfl,rfl,aT.of hp2,bN (by omega),_,rfl,_,_,rfl,rfl,(st _).mb sb,?_⟩;refine⟨_,rfl,_,rfl,.int _,fun no=>?_,fun g' la H3 hv _ hla s3 hl3=>?_⟩
   ·exact absurd no (by rw[zD (m:=6) h64];decide)
   obtain rfl:j+1=g':=by have:=V.int.inj hv;omega
   have hal:∀h∈dG (j+1),0<=h/\h<m:=fun h hh=>sT gm 6 h hh;have hlen:(dG (j+1)).length<=6:=xO (j+1) 6;refine⟨la,rfl,⟨_,aT.of hl3⟩,?_⟩;refine cM (xs:=(dG (j+1)).map V.int) (fun i _=>((dG (j+1))[i]?).map fun h=>V.int (Y h.toNat)) (aT.of hl3) (by rw[qAb];exact qAn (aK (by omega))) (fun i x H4 kk kk0 s4 hx g1 g2=>?_) fun l4 H4 hl4 s4 hd4=>?_
   ·rw[qAp] at hx;cases e:(dG (j+1))[i]? with
    | none=>rw[e] at hx;cases hx
    | some h =>
     rw[e] at hx g1;obtain rfl:V.int h=x:=Option.some.inj hx;obtain⟨z0,zm⟩:=hal h (qBe e);have hat:gC (bB m Y) h=some (.int (Y h.toNat)):=by
      have z:=bN (f:=Y) (n:=m) (j:=h.toNat) (by omega);rw[qDd z0] at z;exact z
     refine⟨_,rfl,_,rfl,q,_,_,_,rfl,rfl,aT.of (s4 _ _ (s3 _ _ hq2)),hat,?_⟩;exact g1 _ rfl _ (.refl _)
   ·rw[DE] at hd4;have es:((dG (j+1)).map fun h=>Y h.toNat).sum=Wg.sm m fun i=>bt (j+1) i*Y i:=by
     unfold dG;rw[Dm];have z:=tJ (Y:=Y) gm (6-m);rw[show m+(6-m)=6 by omega] at z;exact z
    have hdD:=s4 _ _ (s3 _ _ hd);refine⟨l4,(dG (j+1)).map fun h=>Y h.toNat,rfl,.inl (aT.of (by rw[hd4,qDb];rfl)),_,_,rfl,rfl,_,rfl,_,rfl,D,_,rfl,.inl ⟨_,.inl ((j+1:Nat):Int),hdD,rfl,by unfold kH;rw[qAb,qAw,qCf];omega,rfl⟩,(s2.trans (s3.trans s4)).upd_ne' hD,_,?_,rfl⟩;rw[aC,es,DF]
  ·rintro σ' H2 ⟨s2,o4,hd,rfl⟩;refine⟨_,rfl,D,_,rfl,hd,fun ob=>?_⟩;exact k D _ ob hD (s2.upd_ne' hD) aC
theorem pI (x:Int):fL x 1 = .tup [.int x,.int 1]:=by
 have e:dv x 1=1:=by unfold dv;rw[if_neg (by decide),qPt];rfl
 unfold fL;rw[e,qJt,qJt]
theorem Fx {a b y dw L r:Int} (h:a*dw=y*b):a*(dw*(L*r))=r*y*(b*L):=by
 have z:a*(dw*(L*r))=a*dw*(L*r):=by grind
 rw[z,h];grind
structure Kp (ks:List Nat) (X:Nat->Int) (d:Int) (H:Hp) (p:Addr) (ws:List Addr):Prop where
 hd:H p=some (.dK ((ks.zip ws).map fun kw=>(Sum.inl (kw.1:Int),V.ref kw.2)))
 len:ws.length=ks.length
 at_:∀(j:Nat) (w:Addr),ws[j]?=some w->H w=some (fL (X (gN ks j)) d)
theorem Kp.same {ks:List Nat}{X:Nat->Int}{d:Int}{H H':Hp}{p:Addr}{ws:List Addr} (h:Kp ks X d H p ws) (s:aG H H'):Kp ks X d H' p ws:=⟨s _ _ h.hd,h.len,fun j w e=>s _ _ (h.at_ j w e)⟩
theorem Kp.keys {ks:List Nat}{ws:List Addr} (h:ws.length=ks.length):(((ks.zip ws).map fun kw=>((Sum.inl (kw.1:Int):Key),V.ref kw.2)).map fun kv=>kV kv.1)=bC ks:=by
 rw[qDb];unfold bC;have e:(ks.zip ws).map Prod.fst=ks:=List.map_fst_zip (by omega);rw[show((fun kv:Key×V=>kV kv.1)∘fun kw:Nat×Addr=>((Sum.inl (kw.1:Int):Key),V.ref kw.2))=(fun(g:Nat)=>V.int (g:Int))∘Prod.fst from rfl,<- qDb,e]
theorem Kp.vals {ks:List Nat}{ws:List Addr} (h:ws.length=ks.length):(((ks.zip ws).map fun kw=>((Sum.inl (kw.1:Int):Key),V.ref kw.2)).map fun kv=>kv.2)=ws.map V.ref:=by
 rw[qDb];have e:(ks.zip ws).map Prod.snd=ws:=List.map_snd_zip (by omega);rw[show((fun kv:Key×V=>kv.2)∘fun kw:Nat×Addr=>((Sum.inl (kw.1:Int):Key),V.ref kw.2))=V.ref∘Prod.snd from rfl,<- qDb,e]
def sA (m:Nat) (fr ks:List Nat) (c i:Nat):Int:=if c<fr.length then (if i<m then bt (gN fr c) i else if i=m then 1 else 0) else if i<m then kA ks (c-fr.length) i else 0
def sG (tb:Nat->Int) (L:Int) (fr:List Nat) (tp:Nat->Int) (c:Nat):Int:=if c<fr.length then tb (gN fr c)*L else if (c-fr.length)%2=0 then tp ((c-fr.length)/2) else -tp ((c-fr.length)/2)
def sD (m i:Nat):Int:=if i<m then 0 else if i=m then 1 else 0
theorem xV (m:Nat) (fr ks:List Nat) (c i:Nat):(sA m fr ks c i).natAbs<=1:=by
 unfold sA;split
 ·split
  ·exact mO _ _
  ·split <;> decide
 ·split
  ·exact xT _ _ _
  ·decide
theorem xW (m i:Nat):(sD m i).natAbs<=1:=by
 unfold sD;split
 ·decide
 ·split <;> decide
theorem gM (m:Nat) (fr ks:List Nat):Cm.nK m bt fr ks (sA m fr ks) where
 f0:=fun c hc=>⟨fun i hi=>by unfold sA;rw[if_pos hc,if_pos hi];rfl,by unfold sA;rw[if_pos hc,if_neg (qDg _),if_pos rfl]⟩
 k0:=fun j _=>⟨fun i hi=>by unfold sA;rw[if_neg (by omega),if_pos hi,show fr.length+2*j-fr.length=2*j by omega,nW];rfl,by unfold sA;rw[if_neg (by omega),if_neg (qDg _)]⟩
 k1:=fun j _=>⟨fun i hi=>by unfold sA;rw[if_neg (by omega),if_pos hi,show fr.length+(2*j+1)-fr.length=2*j+1 by omega,tN];rfl,by unfold sA;rw[if_neg (by omega),if_neg (qDg _)]⟩
theorem zU (tb:Nat->Int) (L:Int) (fr ks:List Nat) (tp:Nat->Int):Cm.Ov tb L fr ks tp (sG tb L fr tp) where
 f0:=fun c hc=>by unfold sG;rw[if_pos hc];rfl
 k0:=fun j _=>by unfold sG;rw[if_neg (by omega),if_pos (by omega),show(fr.length+2*j-fr.length)/2=j by omega]
 k1:=fun j _=>by unfold sG;rw[if_neg (by omega),if_neg (by omega),show(fr.length+(2*j+1)-fr.length)/2=j by omega]
theorem Fy {m:Nat}{fr ks:List Nat} (m6:m<=6) (h:fr.length+2*ks.length<=70):Inst (m+1) (fr.length+2*ks.length) (sA m fr ks) (sD m) :=
 ⟨by omega,by omega,h,fun j i=>qBq (xV m fr ks j i) (by decide),fun i=>qBq (xW m i) (by decide)⟩
theorem Nn:∀m:_root_.Fin 8,Wg.pP m.1*1^m.1<2^13/\m.1*(Wg.pP m.1*1^m.1)<2^16:=by decide +kernel
theorem DJ {m n:Nat}{A:Nat->Nat->Int}{due:Nat->Int}{d:Int} (m7:m<=7) (dm:oX m A due d) (hA:∀j i,(A j i).natAbs<=1) (hd:∀i,(due i).natAbs<=1):Sm 13 d :=
 qBq (dm 1 (qAg _) hA hd) (Nn ⟨m,by omega⟩).1
theorem DK {m b:Nat}{A:Nat->Nat->Int}{due g Y:Nat->Int}{r:Int} (m7:m<=7) (ps:xQ m A due g Y) (hA:∀j i,(A j i).natAbs<=1) (hd:∀i,(due i).natAbs<=1) (r0:0<r) (hg:∀j,Sm b (r*g j)) (i:Nat):Sm (b+16) (r*Y i):=by
 have h:=ps 1 ((2^b)/r.natAbs) (qAg _) hA hd (fun j=>by
  have z:(r*g j).natAbs<2^b:=hg j;rw[qDq] at z;exact(Nat.le_div_iff_mul_le (by omega)).mpr (by rw[qMb];exact qAn z)) i
 have f:=(Nn ⟨m,by omega⟩).2;show(r*Y i).natAbs<2^(b+16);rw[qDq];have z1:r.natAbs*(2^b/r.natAbs)<=2^b:=Nat.mul_div_le _ _;have z2:r.natAbs*(Y i).natAbs<=r.natAbs*(m*(2^b/r.natAbs*(Wg.pP m*1^m))):=Nat.mul_le_mul_left _ h;have z3:r.natAbs*(m*(2^b/r.natAbs*(Wg.pP m*1^m)))=r.natAbs*(2^b/r.natAbs)*(m*(Wg.pP m*1^m)):=by
  generalize 2^b/r.natAbs=q;generalize Wg.pP m*1^m=u;generalize r.natAbs=a;simp only[qNn,qPa]
 rw[z3] at z2;have z4:r.natAbs*(2^b/r.natAbs)*(m*(Wg.pP m*1^m))<=2^b*(m*(Wg.pP m*1^m)):=qMj _ z1;have z5:2^b*(m*(Wg.pP m*1^m))<2^b*2^16:=Nat.mul_lt_mul_of_pos_left f (qEq b);rw[qPo];exact qBq z2 (qBq z4 z5)
theorem KJ (k:Nat) (g:Nat->Int):bB k g++[.int (g k),.int (g (k+1))]=bB (k+2) g:=by
 unfold bB;rw[qBm,qBm,qAt,qAt,qHl];rfl
theorem xX (m:Nat) (f:Nat->Int):bB m f++[.int (f m)]=bB (m+1) f:=by
 unfold bB;rw[qBm,qAt];rfl
def eS (fr:List Nat) (lam:Nat->Int) (k:Nat):List Nat:=((qAl k).filter fun c=>decide (lam c≠0)).map (gN fr)
theorem rE (fr:List Nat) (lam:Nat->Int) (k:Nat):eS fr lam (k+1)=if lam k≠0 then eS fr lam k++[gN fr k] else eS fr lam k:=by
 unfold eS;rw[qBm,qHa,qAt,qEd,qHy];by_cases h:lam k≠0
 ·rw[if_pos (decide_eq_true h),if_pos h];rfl
 ·rw[if_neg (by rw[decide_eq_false h];exact qAm),if_neg h,qEl,qDp]
theorem gO {fr:List Nat}{lam:Nat->Int}{k g:Nat}:g∈eS fr lam k↔∃c,c<k/\lam c≠0/\gN fr c=g:=by
 unfold eS;rw[qJl];constructor
 ·rintro⟨c,hc,e⟩;obtain⟨a,b⟩:=List.mem_filter.mp hc;exact⟨c,List.mem_range.mp a,of_decide_eq_true b,e⟩
 ·rintro⟨c,a,b,e⟩;exact⟨c,List.mem_filter.mpr ⟨List.mem_range.mpr a,decide_eq_true b⟩,e⟩
def GP:Sp:=fun vs H Q _=>∃(p q r:Addr) (m n c:Nat) (tb X:Nat->Int) (d:Int) (ks fr:List Nat) (ws:List Addr),vs=[.ref p,.int (m:Int),.ref q,.ref r]/\H p=some (.lst (bB n tb))/\Kp ks X d H q ws/\H r=some (.lst (bC fr))/\1<=m/\m<=6/\n=2^m/\0<d/\c<=1000/\Sm c d/\(∀k,Sm (80000+c) (X k))/\(∀j,Sm 80000 (tb j))/\fr.length+2*ks.length<=70/\(∀g,g∈fr->g<n)/\(∀k,k∈ks->k<64)/\Cm.iC m (fN ks) /\
 (∀y:Nat->Int,(∀k,k∈ks->Cm.pt m bt y k=0)->∃g,g∈fr/\Cm.pt m bt y g<=0) /\
 ∀(R lp le lh:Addr) (H':Hp) (ps:List Addr) (dw:Int) (Z lam mu:Nat->Int),H lp=none->aG H H'->H' R=some (.tup [.ref lp,.ref le,.ref lh])->jA m Z (dw*d) H' lp ps->H' le=some (fL (Z m) (dw*d))->H' lh=some (.lst (bC (eS fr lam fr.length)))->Sm 13 dw->(∀i,Sm (80000+c+16) (Z i))->Cm.Cert m bt fr ks (fun g=>tb g*(dw*d)-Cm.pt m bt Z g) dw (Z m) lam mu->(∀k,k∈ks->Cm.pt m bt Z k=dw*X k)->Q (.ref R) H'
theorem iQ:aQ ["table","many","kept","free","bottom","columns","gains","group","top","column","told","prices","holding"] ["table","many","kept","free"] (aI Je):=by constructor<;>first|rfl|decide +kernel
theorem KL {f1 f2 f3 f4 f5 f6:Addr}{fd1 fd2 fd3 fd4 fd5 fd6:qBk} (t:Tx K mg "least_lack" Je ["table","many","kept","free"] f fd) (T:T K mg AL LN FR iF fCh fGM fCC fCA fPL SE NN NG NT NR NS) (D_common_bottom:Df P w K mg base bY 2 "common_bottom" ["fractions"] Dj f1 fd1) (D_marks_of:Df P w K mg base bY 1 "marks_of" ["group","many"] rA f2 fd2) (D_tops_over:Df P w K mg base bY 1 "tops_over" ["bottom","fractions"] Dk f3 fd3) (D_below_nought:Df P w K mg base bY 1 "below_nought" ["column"] Ds f4 fd4) (D_weigh:Df P w K mg base (g6 P w) 5 "weigh" ["columns","due","gains"] (qX K NR) f5 fd5) (D_fraction:Df P w K mg base (g6 P w) 2 "fraction" ["top","bottom"] (sU K NN) f6 fd6) :
  Df P w K mg base bY 6 "least_lack" ["table","many","kept","free"] GP f fd:=by
 refine t.gX iQ (fun vs H Q E h=>?_) (fun cdv _A outer s H vs Q E hr h=>?_)
 ·obtain⟨p,q,r,m,n,c,tbl,X,d,ks,fr,ws,rfl,_⟩:=h;rfl
 ·obtain⟨p,q,r,m,n,c,tbl,X,d,ks,fr,ws,rfl,hp,kp,hfr,m1,m6,hn,d0,c1,sd,sX,st,cnt,frn,Ee,ind,no,k⟩:=h;refine⟨_,(aD (aP (i:=4) iQ.nd rfl (by first|exact .inl rfl|exact .inr rfl) (aW D_common_bottom hr (by decide) (by rfl) (aA (g7 (by rfl) T.cN rfl (pv 2)) aB)))
   (aD (eB (NB:=["group","many"]) (pick:=[none,some 1]) (i:=5) iQ.nd rfl bR (by rfl) (bJ (by with_unfolding_all rfl) (by exact(And.intro rfl trivial)) rfl (by decide +kernel) (by decide +kernel) (by rfl) (by rfl)) rfl
     (bO (pv 3)) (fun _ _ _=>aN (i:=0) (show(["group","many"]:List Str).Nodup from by decide +kernel) rfl bR)
     (fun _ _ _=>bK) (fun _ _ _=>(aR (Ce K) (aW D_marks_of hr (by decide) (by rfl) (aA (pv 0) (aA (pv 1) aB))) (bU (aA aE aB)))))
   (aD (eB (NB:=["group","bottom","table"]) (pick:=[none,some 4,some 0]) (i:=6) iQ.nd rfl bR (by rfl) (bJ (by with_unfolding_all rfl) (by exact(And.intro rfl (And.intro rfl trivial))) rfl (by decide +kernel) (by decide +kernel) (by rfl) (by rfl)) rfl
     (bO (pv 3)) (fun _ _ _=>aN (i:=0) (show(["group","bottom","table"]:List Str).Nodup from by decide +kernel) rfl bR)
     (fun _ _ _=>bK) (fun _ _ _=>(aR bM (aS (bV K) (pv 2) (pv 0) (fun _ _=>rfl)) (pv 1))))
   (aD (c9 PassesOwn.never rfl (gE (by rfl) T.gK (aA (eO (fW rfl) (by rfl) T.cN cX (aA (pv 2) aB)) (aA (aW D_tops_over hr (by decide) (by rfl) (aA (pv 4) (aA (g7 (by rfl) T.cN rfl (pv 2)) aB))) aB))) (eL rfl (bF (aN (i:=7) iQ.nd rfl (by first|exact .inl rfl|exact .inr rfl)) (bF (aN (i:=8) iQ.nd rfl bR) c8)))
    (aD (aP (i:=9) iQ.nd rfl bR (aR fV (aW D_marks_of hr (by decide) (by rfl) (aA (pv 7) (aA (pv 1) aB))) (bU (aA aE aB))))
    (aD (rK (i:=5) iQ.nd rfl bR (bU (aA (pv 9) (aA (aW D_below_nought hr (by decide) (by rfl) (aA (pv 9) aB)) aB))) nT)
    (aH (rK (i:=6) iQ.nd rfl bR (bU (aA (pv 8) (aA (jW g4 (pv 8)) aB))) nT)))))
   (aD (aP (i:=10) iQ.nd rfl (by first|exact .inl rfl|exact .inr rfl) (dR cA D_weigh hr (by decide) (by rfl) (aA (pv 5) (aA (aR fV (aR fQ (bU (aA aE aB)) (pv 1)) (bU (aA aE aB))) (aA (pv 6) aB)))))
   (aD (eB (NB:=["price","bottom"]) (pick:=[none,some 4]) (i:=11) iQ.nd rfl bR (by rfl) (bJ (by with_unfolding_all rfl) (by exact(And.intro rfl trivial)) rfl (by decide +kernel) (by decide +kernel) (by rfl) (by rfl)) rfl
     (bO (aS bI (pv 10) aE (fun _ _=>rfl))) (fun _ _ _=>aN (i:=0) (show(["price","bottom"]:List Str).Nodup from by decide +kernel) rfl bR)
     (fun _ _ _=>bK) (fun _ _ _=>(dR cA D_fraction hr (by decide) (by rfl) (aA (aS (fU K) (pv 0) aE (fun _ _=>rfl)) (aA (aR bM (aS (fU K) (pv 0) aE (fun _ _=>rfl)) (pv 1)) aB)))))
   (aD (eB (NB:=["group","weight"]) (pick:=[none,none]) (i:=12) iQ.nd rfl bR (by rfl) (bJ (by with_unfolding_all rfl) (by exact trivial) rfl (by decide +kernel) (by decide +kernel) (by rfl) (by rfl)) rfl
     (gE (by rfl) T.gK (aA (pv 3) (aA (aS bI (pv 10) aE (fun _ _=>rfl)) aB))) (fun _ _ _=>(show PG _ _ (n6 K 2 (dU (aX 0) (dU (aX 1) n4))) from eL rfl (bF (aN (i:=0) (show(["group","weight"]:List Str).Nodup from by decide +kernel) rfl bR) (bF (aN (i:=1) (show(["group","weight"]:List Str).Nodup from by decide +kernel) rfl bR) c8))))
     (fun _ _ _=>eW (aZ (oM K hr.units) (pv 1) (cI (aA aE (aA aE aB))) (aY _))) (fun _ _ _=>(pv 0)))
   (aH (aU (cI (aA (i5 rN (pv 11) kN (kO (pv 1))) (aA (aS a8 (pv 11) (pv 1) (fun _ _=>rfl)) (aA (pv 12) aB))))))))))))),?_⟩
  have hn64:n<=64:=by rw[hn];exact qBx (n:=2) (by decide) m6
  have f64:∀g,g∈fr->g<64:=fun g hg=>qAx (frn g hg) hn64;refine⟨_,rfl,q,_,rfl,.inl kp.hd,fun l1 hl1=>?_⟩;rw[Kp.vals kp.len];have u1:=aG.aF (o:=.lst (ws.map V.ref)) hl1;have e1:upd H l1 (.lst (ws.map V.ref)) l1=_:=aC;generalize upd H l1 (.lst (ws.map V.ref))=H1 at u1 e1|-;refine⟨l1,ks.length,fun j=>X (gN ks j),d,ws,rfl,⟨e1,kp.len,fun j w e=>u1 _ _ (kp.at_ j w e)⟩,d0,sd.mono (by omega),fun L lo=>?_⟩;have L0:=lo.pos;obtain⟨rr,hrr⟩:=lo.dvd;have r0:0<rr:=by
   refine Int.not_le.mp fun z=>?_;have:=qCp z (qBy L0);rw[<- hrr,qBv] at this;omega
  have sL:Sm c L:=sd.le (by have:=qEn d0 lo.dvd;omega);dsimp only[aX];refine⟨_,rfl,r,rfl,⟨_,aT.of (u1 _ _ hfr)⟩,?_⟩;refine jH (xs:=bC fr) (fun j=>bB (m+1) (sA m fr ks j)) (aT.of (u1 _ _ hfr)) (by rw[bG];exact qAn (aK (by omega))) (fun j y H4 kk kk0 s4 hy g1=>?_) fun lc cs H2 hlc s2 hcs ncs hD=>?_
  ·obtain⟨g,hg,rfl⟩:=eF hy;have hj:j<fr.length:=(List.getElem?_eq_some_iff.mp hg).1;refine⟨_,rfl,_,rfl,g,m,rfl,f64 g (qBe hg),m6,fun D H5 hD5 s5 h5=>?_⟩;refine⟨j6,fun l6 h6=>?_⟩;have u6:=aG.aF (o:=.lst [.int 1]) h6;have e6:upd H5 l6 (.lst [.int 1]) l6=_:=aC;generalize upd H5 l6 (.lst [.int 1])=H6 at u6 e6|-;refine⟨D,l6,_,_,rfl,rfl,aT.of (u6 _ _ h5),aT.of e6,by rw[aJ,qCf];simp;omega,fun l7 h7=>?_⟩;have u7:=aG.aF (o:=.lst (bB m (bt g)++[.int 1])) h7;refine g1 l7 _ (s5.trans (u6.trans u7)) ((s5.trans u6).free h7) ?_;rw[aC];have z:=xX m (sA m fr ks j);rw[((gM m fr ks).f0 j hj).2] at z;rw[<- z];congr 3;refine dH fun i hi=>?_;rw[((gM m fr ks).f0 j hj).1 i hi];show bt g i=bt (gN fr j) i;rw[iE hg]
  rw[bG] at hcs;dsimp only[aX];have s02:=u1.trans s2;refine⟨_,rfl,r,rfl,⟨_,aT.of (s02 _ _ hfr)⟩,?_⟩;refine cM (xs:=bC fr) (fun j _=>some (.int (tbl (gN fr j)*L))) (aT.of (s02 _ _ hfr)) (by rw[bG];exact qAn (aK (by omega))) (fun j y H4 kk kk0 s4 hy g1 g2=>?_) fun lg H3 hlg s3 hdg=>?_
  ·obtain⟨g,hg,rfl⟩:=eF hy;have hgn:=frn g (qBe hg);refine⟨_,rfl,_,rfl,p,_,_,_,rfl,rfl,aT.of (s4 _ _ (s02 _ _ hp)),bN hgn,_,rfl,_,_,rfl,rfl,(st _).mb sL (by decide) (by omega),?_⟩;exact g1 _ (by rw[iE hg]) _ (.refl _)
  rw[bG,lF _ (bG _)] at hdg;have s03:=s02.trans s3;dsimp only[aX];have kp3:=kp.same s03;refine⟨_,rfl,q,_,rfl,.inl kp3.hd,fun la hla=>?_⟩;rw[Kp.keys kp.len];have u4:=aG.aF (o:=.lst (bC ks)) hla;have e4:upd H3 la (.lst (bC ks)) la=_:=aC;generalize upd H3 la (.lst (bC ks))=H4 at u4 e4|-;have kp4:=kp3.same u4;refine⟨_,rfl,_,rfl,q,_,rfl,.inl kp4.hd,fun lb hlb=>?_⟩;rw[Kp.vals kp.len];have u5:=aG.aF (o:=.lst (ws.map V.ref)) hlb;have e5:upd H4 lb (.lst (ws.map V.ref)) lb=_:=aC;generalize upd H4 lb (.lst (ws.map V.ref))=H5 at u5 e5|-;have kp5:=kp4.same u5;have kl:ks.length<=35:=by omega
  refine⟨lb,ks.length,fun j=>X (gN ks j),d,L,ws,rfl,⟨e5,kp.len,kp5.at_⟩,by omega,d0,sd.mono (by omega),fun j=>(sX _).mono (by omega),lo,fun lt H6 tt hlt s6 hd6 htt _=>?_⟩;have sg:∀j,j<ks.length->rr*tt j=X (gN ks j):=fun j hj=>by
   have z:=htt j hj;rw[hrr] at z;have:L*(rr*tt j)=L*X (gN ks j):=by grind
   exact qFi (by omega) this
  let tp:Nat->Int:=fun j=>if j<ks.length then tt j else 0
  have ett:bB ks.length tt=bB ks.length tp:=dH fun j hj=>by show tt j=if j<ks.length then tt j else 0;rw[if_pos hj]
  rw[ett] at hd6;have sG':∀c',Sm (80000+c) (rr*sG tbl L fr tp c'):=fun c'=>by
   unfold sG;have stp:∀j,Sm (80000+c) (rr*tp j):=fun j=>by
    show Sm (80000+c) (rr*if j<ks.length then tt j else 0);split
    ·rename_i hj;rw[sg j hj];exact sX _
    ·rw[qBv];exact Sm.zero
   split
   ·rw[show rr*(tbl (gN fr c')*L)=tbl (gN fr c')*d by rw[hrr];grind];exact(st _).mul sd
   ·split
    ·exact stp _
    ·rw[qMz];exact(stp _).le (by rw[qLa];exact qAg _)
  have sgn:∀c',Sm 90000 (sG tbl L fr tp c'):=fun c'=>Sm.mono (Sm.le (sG' c') (by rw[qDq];exact qLs _ (by omega))) (by omega);have hdg3:H3 lg=some (.lst (bB fr.length (sG tbl L fr tp))):=by
   rw[hdg];exact congrArg (fun l=>some (HO.lst l)) (dH (f:=fun j=>tbl (gN fr j)*L) fun j hj=>by unfold sG;rw[if_pos hj])
  have s36:=u4.trans (u5.trans s6);have lglc:lg≠lc:=fun z=>by rw[z,hD] at hlg;cases hlg
  have lalc:la≠lc:=fun z=>by rw[z,s3 _ _ hD] at hla;cases hla
  have lalg:la≠lg:=fun z=>by rw[z,hdg3] at hla;cases hla
  have ltlc:lt≠lc:=fun z=>by rw[z,u5 _ _ (u4 _ _ (s3 _ _ hD))] at hlt;cases hlt
  have ltlg:lt≠lg:=fun z=>by rw[z,u5 _ _ (u4 _ _ hdg3)] at hlt;cases hlt
  have h0c:H lc=none:=u1.free hlc;have h0g:H lg=none:=s02.free hlg;refine⟨la,lt,rfl,⟨_,aT.of (s6 _ _ (u5 _ _ e4))⟩,⟨_,aT.of hd6⟩,?_⟩;refine rS (xs:=bC ks) (ys:=bB ks.length tp) (fun j σ' H'=>aG H H'/\H' la=some (.lst (bC ks))/\H' lt=some (.lst (bB ks.length tp))/\∃(cs':List Addr) (o7 o8 o9:Option V),vQ (m+1) (fr.length+2*j) (sA m fr ks) H' lc cs'/\(∀a,a∈cs'->a≠lg)/\H' lg=some (.lst (bB (fr.length+2*j) (sG tbl L fr tp)))/\σ'=[some (.ref p),some (.int (m:Int)),some (.ref q),some (.ref r),some (.int L),some (.ref lc),some (.ref lg),o7,o8,o9,none,none,none])
   ⟨s03.trans s36,s6 _ _ (u5 _ _ e4),hd6,cs,_,_,_,⟨s36 _ _ (s3 _ _ hD),by rw[hcs];rfl,fun c' a e=>s36 _ _ (s3 _ _ (ncs.at_ c' a e).2.2)⟩,fun a ha z=>?_,s36 _ _ hdg3,rfl⟩ (fun j σ' H' _ ⟨_,ha,hb,_⟩=>⟨aT.of ha,aT.of hb⟩) (by rw[bG,aJ]) (fun j x y tq σ' H' hx hy ht ⟨s',ha,hb,cs',o7,o8,o9,kc,nlg,hg',eσ⟩=>?_) (fun σ' H' ⟨s',ha,hb,cs',o7,o8,o9,kc,nlg,hg',eσ⟩=>?_)
  ·obtain⟨i,hi,e⟩:=qCy ha;have e:=ncs.at_ i a (by rw[qAd hi,e]);rw[z,hlg] at e;cases e.2.2
  ·subst eσ;obtain⟨g,hg,rfl⟩:=eF hx;obtain⟨hj,rfl⟩:=dN hy;have eg:gN ks j=g:=iE hg;have u7:=aG.aF (o:=.tup [.int (g:Int),.int (tp j)]) ht;have e7:upd H' tq (.tup [.int (g:Int),.int (tp j)]) tq=_:=aC;generalize upd H' tq (.tup [.int (g:Int),.int (tp j)])=H7 at u7 e7|-;refine⟨tq,_,rfl,cQ.of e7,rfl,_,_,rfl,_,_,rfl,rfl,?_⟩;dsimp only[aX];refine⟨_,rfl,_,rfl,g,m,rfl,Ee g (qBe hg),m6,fun D H8 hD8 s8 h8=>?_⟩;refine⟨j6,fun l9 h9=>?_⟩;have u9:=aG.aF (o:=.lst [.int 0]) h9;have e9:upd H8 l9 (.lst [.int 0]) l9=_:=aC;generalize upd H8 l9 (.lst [.int 0])=H9 at u9 e9|-;refine⟨D,l9,_,_,rfl,rfl,aT.of (u9 _ _ h8),aT.of e9,by rw[aJ,qCf];simp;omega,fun l10 h10=>?_⟩;have u10:=aG.aF (o:=.lst (bB m (bt g)++[.int 0])) h10;have e10:upd H9 l10 (.lst (bB m (bt g)++[.int 0])) l10=some (.lst (bB (m+1) (sA m fr ks (fr.length+2*j)))):=by
    rw[aC];have z:=xX m (sA m fr ks (fr.length+2*j));rw[((gM m fr ks).k0 j hj).2] at z;rw[<- z];congr 3;refine dH fun i hi=>?_;rw[((gM m fr ks).k0 j hj).1 i hi];show bt g i=bt (gN ks j) i;rw[eg]
   generalize upd H9 l10 (.lst (bB m (bt g)++[.int 0]))=H10 at u10 e10|-;dsimp only[aX];refine⟨_,rfl,_,rfl,_,rfl,l10,m+1,_,rfl,e10,by omega,fun D2 H11 hD2 s11 hd11=>?_⟩;have e11:H11 D2=some (.lst (bB (m+1) (sA m fr ks (fr.length+(2*j+1))))):=by
    rw[hd11];refine congrArg (fun l=>some (HO.lst l)) (dH fun i hi=>?_);rcases qAk i m with z | z
    ·rw[((gM m fr ks).k0 j hj).1 i z,((gM m fr ks).k1 j hj).1 i z]
    ·rw[show i=m by omega,((gM m fr ks).k0 j hj).2,((gM m fr ks).k1 j hj).2];rfl
   refine⟨lS,fun l12 h12=>?_⟩;have u12:=aG.aF (o:=.lst [.ref l10,.ref D2]) h12;have e12:upd H11 l12 (.lst [.ref l10,.ref D2]) l12=_:=aC;generalize upd H11 l12 (.lst [.ref l10,.ref D2])=H12 at u12 e12|-;have s711:=s8.trans (u9.trans (u10.trans s11));have s12:=u7.trans (s711.trans u12);have kc12:=kc.same s12;have n10:l10≠lg:=fun z=>by rw[z,u9 _ _ (s8 _ _ (u7 _ _ hg'))] at h10;cases h10
   have n11:D2≠lg:=fun z=>by rw[z,u10 _ _ (u9 _ _ (s8 _ _ (u7 _ _ hg')))] at hD2;cases hD2
   refine⟨lc,l12,_,_,rfl,rfl,kc12.hq,e12,by rw[qAb,kc12.len,qCf];simp;omega,?_⟩;have kc13:=kc12.add (by omega) (u12 _ _ (s11 _ _ e10)) (u12 _ _ e11);have s13:aG H (upd H12 lc (.lst (cs'.map V.ref++[V.ref l10,V.ref D2]))):=(s'.trans s12).upd_ne' h0c;have ha13:upd H12 lc (.lst (cs'.map V.ref++[V.ref l10,V.ref D2])) la=some (.lst (bC ks)):=by rw[aM lalc];exact s12 _ _ ha
   have hb13:upd H12 lc (.lst (cs'.map V.ref++[V.ref l10,V.ref D2])) lt=some (.lst (bB ks.length tp)):=by rw[aM ltlc];exact s12 _ _ hb
   have hg13:upd H12 lc (.lst (cs'.map V.ref++[V.ref l10,V.ref D2])) lg=some (.lst (bB (fr.length+2*j) (sG tbl L fr tp))):=by rw[aM lglc];exact s12 _ _ hg'
   generalize upd H12 lc (.lst (cs'.map V.ref++[V.ref l10,V.ref D2]))=H13 at kc13 s13 ha13 hb13 hg13|-;refine⟨_,rfl,_,rfl,_,rfl,_,rfl,lS,fun l14 h14=>?_⟩;have u14:=aG.aF (o:=.lst [.int (tp j),.int (-tp j)]) h14;have e14:upd H13 l14 (.lst [.int (tp j),.int (-tp j)]) l14=_:=aC;generalize upd H13 l14 (.lst [.int (tp j),.int (-tp j)])=H14 at u14 e14|-;refine⟨lg,l14,_,_,rfl,rfl,u14 _ _ hg13,e14,by rw[aJ,qCf];simp;omega,?_⟩;have kc14:=kc13.same u14;have nlg':∀a,a∈cs'++[l10,D2]->a≠lg:=fun a ha z=>by
    rcases List.mem_append.mp ha with q | q
    ·exact nlg a q z
    ·rcases List.mem_cons.mp q with q | q
     ·exact n10 (q.symm.trans z)
     ·exact n11 ((List.mem_singleton.mp q).symm.trans z)
   refine⟨(s13.trans u14).upd_ne' h0g,by rw[aM lalg];exact u14 _ _ ha13,by rw[aM ltlg];exact u14 _ _ hb13,cs'++[l10,D2],_,_,_,⟨by rw[aM (Ne.symm lglc)];exact kc14.hq,kc14.len,fun c' a e=>by rw[aM (nlg' a (qBe e))];exact kc14.at_ c' a e⟩,nlg',?_,rfl⟩;rw[aC];have z:=KJ (fr.length+2*j) (sG tbl L fr tp);rw[(zU tbl L fr ks tp).k0 j hj,show fr.length+2*j+1=fr.length+(2*j+1) by omega,(zU tbl L fr ks tp).k1 j hj] at z;rw[z];rfl
  ·subst eσ;rw[bG] at kc hg';refine⟨_,rfl,j6,fun b2 hb2=>?_⟩;have u8:=aG.aF (o:=.lst [.int 0]) hb2;have e8:upd H' b2 (.lst [.int 0]) b2=_:=aC;generalize upd H' b2 (.lst [.int 0])=H8 at u8 e8|-;refine⟨_,rfl,b2,_,_,rfl,rfl,e8,by omega,by omega,?_,fun b3 hb3=>?_⟩
   ·show 1*((m:Nat):Int).toNat<=qAj;exact qAn (aK (by omega))
   rw[qBi,fB];have u9:=aG.aF (o:=.lst (bB m fun _=>0)) hb3;have e9:upd H8 b3 (.lst (bB m fun _=>0)) b3=_:=aC;generalize upd H8 b3 (.lst (bB m fun _=>0))=H9 at u9 e9|-;refine⟨j6,fun b4 hb4=>?_⟩;have u10:=aG.aF (o:=.lst [.int 1]) hb4;have e10:upd H9 b4 (.lst [.int 1]) b4=_:=aC;generalize upd H9 b4 (.lst [.int 1])=H10 at u10 e10|-;refine⟨b3,b4,_,_,rfl,rfl,aT.of (u10 _ _ e9),aT.of e10,by rw[aJ,qCf];simp;omega,fun pd hpd=>?_⟩;have u11:=aG.aF (o:=.lst ((bB m fun _=>0)++[.int 1])) hpd;have e11:upd H10 pd (.lst ((bB m fun _=>0)++[.int 1])) pd=some (.lst (bB (m+1) (sD m))):=by
    rw[aC];have z:=xX m (sD m);rw[show sD m m=1 by unfold sD;rw[if_neg (qDg _),if_pos rfl]] at z;rw[<- z];congr 3;exact dH fun i hi=>by unfold sD;rw[if_pos hi]
   generalize upd H10 pd (.lst ((bB m fun _=>0)++[.int 1]))=H11 at u11 e11|-;have s811:=u8.trans (u9.trans (u10.trans u11));have kc11:=kc.same s811;refine⟨_,rfl,?_⟩;dsimp only[iK,qCl,qCm];refine tI (m:=m+1) (n:=fr.length+2*ks.length) (A:=sA m fr ks) (due:=sD m) (g:=sG tbl L fr tp) (Fy m6 cnt) (cs:=cs') ⟨kc11.hq,kc11.len,kc11.at_,e11⟩ (s811 _ _ hg') sgn fun R H12 s12 told=>?_;have sd0:∀i,i<m->sD m i=0:=fun i hi=>by unfold sD;rw[if_pos hi]
   have sd1:sD m m=1:=by unfold sD;rw[if_neg (qDg _),if_pos rfl]
   have s812:=s811.trans s12;rcases told with ⟨lw,lp,wts,ps,dw,XX,Y,to⟩ | ⟨lp,ps,dw,Y,to⟩ | ⟨lw,lp,wts,ps,dw,XX,ZZ,to⟩
   ·obtain⟨ce,hk⟩:=Cm.Fb (gM m fr ks) (zU tbl L fr ks tp) r0 to.d0 sd0 sd1 to.x0 to.meets to.cols to.same;have zB:=to.d0;have sdw:Sm 13 dw:=DJ (n:=0) (by omega) to.dm (xV m fr ks) (xW m);have sZ:∀i,Sm (80000+c+16) (rr*Y i):=fun i=>DK (by omega) to.ym (xV m fr ks) (xW m) r0 sG' i;have a1:gC [V.str "best",V.ref lw,V.ref lp] 1=some (.ref lw):=rfl;have a2:gC [V.str "best",V.ref lw,V.ref lp] 2=some (.ref lp):=rfl;have dd0:0<dw*d:=qHr zB d0;dsimp only[aX];refine⟨_,rfl,R,_,_,_,rfl,rfl,cQ.of to.tup,a2,lp,rfl,⟨_,aT.of to.fp.hr⟩,?_⟩;refine AA (xs:=ps.map V.ref) (fun i ys H'=>∃fs:List Addr,ys=fs.map V.ref/\fs.length=i/\∀(j:Nat) (w:Addr),fs[j]?=some w->H' w=some (fL (rr*Y j) (dw*d))) ?_ ⟨[],rfl,rfl,fun j w e=>by cases e⟩ (aT.of to.fp.hr) (by rw[qAb,to.fp.len];exact qAn (aK (by omega))) (fun i y H13 kk kk0 ys s13 hy iv g1 g2=>?_) fun lq ys H13 hlq s13 iv hd13=>?_
    ·rintro i ys H1 H2 st ⟨fs,e1,e2,e3⟩;exact⟨fs,e1,e2,fun j w e=>st _ _ (e3 j w e)⟩
    ·obtain⟨fs,rfl,fl,fa⟩:=iv;obtain⟨wq,hw',rfl⟩:=cW hy;have hf:=s13 _ _ (to.fp.at_ i wq hw');obtain⟨t1,t2,_,t3⟩:=dD (X:=Y i) zB;have stb:Sm 13 (tb (Y i) dw):=j5 (X:=Y i) zB sdw;refine⟨_,rfl,wq,_,_,_,rfl,rfl,cQ.of hf,rfl,_,rfl,wq,_,_,_,rfl,rfl,cQ.of hf,rfl,_,rfl,_,_,rfl,rfl,stb.mb sL (by decide) (by omega),?_⟩;dsimp only[iK,qCl,qCm];have tb0:0<tb (Y i) dw*L:=qHr (by omega) L0;refine oZ (Int.ne_of_gt tb0) ((stb.mul sL).mono (by omega)) fun pf hpf=>?_;have u14:=aG.aF (o:=fL (ta (Y i) dw) (tb (Y i) dw*L)) hpf;refine g1 _ _ u14 ⟨fs++[pf],by rw[qAt];rfl,by rw[qAo,fl];rfl,fun j w e=>?_⟩;rcases qAk j fs.length with z | z
     ·rw[qBb z] at e;exact u14 _ _ (fa j w e)
     ·rw[qAy z] at e;have hj:j-fs.length=0:=by
       have:=(List.getElem?_eq_some_iff.mp e).1;rw[qBf] at this;omega
      rw[hj] at e;obtain rfl:=Option.some.inj e;rw[show j=i by omega,aC];refine congrArg some (kF tb0 dd0 ?_);rw[hrr];exact Fx t1
    ·obtain⟨fs,rfl,fl,fa⟩:=iv;rw[qAb,to.fp.len] at fl;have hfr13:=s13 _ _ (s812 _ _ (s' _ _ hfr));have hw13:=s13 _ _ to.fw.hr;have wl:wts.length=fr.length+2*ks.length:=to.fw.len;refine⟨_,rfl,_,rfl,R,_,_,_,rfl,rfl,cQ.of (s13 _ _ to.tup),a1,r,lw,rfl,⟨_,aT.of hfr13⟩,⟨_,aT.of hw13⟩,?_⟩;refine AJ (xs:=bC fr) (xs':=wts.map V.ref) (fun σ'=>∃o0 o1:Option V,σ'=[o0,o1]) (fun i ys H'=>ys=bC (eS fr XX i)) (fun i ys H1 H2 st h=>h) ⟨_,_,rfl⟩ rfl (aT.of hfr13) (aT.of hw13) (by rw[bG,qAb];omega) (by rw[bG];exact qAn (aK (by omega))) (fun i x y tt' σ1 H14 kk kk0 ys hσ s14 hx hy ht iv g1 g2=>?_) fun lh ys H14 hlh s14 iv hd14=>?_
     ·obtain⟨o0,o1,rfl⟩:=hσ;obtain⟨g,hg,rfl⟩:=eF hx;obtain⟨w',hw',rfl⟩:=cW hy;have hfw:=s14 _ _ (s13 _ _ (to.fw.at_ i w' hw'));refine⟨tt',_,rfl,cQ.of ht,rfl,?_⟩;refine⟨_,_,rfl,_,_,rfl,rfl,_,rfl,lS,fun z1 hz1=>?_⟩;have u15:=aG.aF (o:=.tup [.int 0,.int 1]) hz1;have x15:upd H14 z1 (.tup [.int 0,.int 1]) z1=_:=aC;generalize upd H14 z1 (.tup [.int 0,.int 1])=H15 at u15 x15|-;refine⟨_,_,tK (u15 _ _ hfw),.tup (cQ.of x15) (.cons (.int _) (.cons (.int _) .nil)),fM _ _,fM _ _,_,rfl,?_⟩;rw[kG zB];by_cases e:XX i≠0
      ·refine cP (fun _=>?_) (fun no=>absurd (decide_eq_true e) no);refine⟨_,rfl,g1 _ _ _ ⟨_,_,rfl⟩ u15 ?_⟩;rw[rE,if_pos e,iE hg,iv];unfold bC;rw[qAt];rfl
      ·refine cP (fun y=>absurd (of_decide_eq_true y) e) (fun _=>g2 _ _ ⟨_,_,rfl⟩ u15 ?_);rw[rE,if_neg e];exact iv
     ·rw[bG] at iv;subst iv;have hq14:=s14 _ _ hd13;refine⟨_,rfl,_,rfl,_,rfl,lq,_,rfl,aT.of hq14,fun lz hlz=>?_⟩;have u15:=aG.aF (o:=.lst (gQ (fs.map V.ref) none (some (m:Int)))) hlz;have e15:upd H14 lz (.lst (gQ (fs.map V.ref) none (some (m:Int)))) lz=some (.lst ((fs.take m).map V.ref)):=by
       rw[aC,CL,qOq]
      generalize upd H14 lz (.lst (gQ (fs.map V.ref) none (some (m:Int))))=H15 at u15 e15|-;have efm:fs[m]?=some fs[m]:=qAd (by omega);have am:gC (fs.map V.ref) (m:Int)=some (.ref fs[m]):=fJ (by rw[qAp,efm];rfl);refine⟨_,rfl,_,rfl,lq,_,_,_,rfl,rfl,aT.of (u15 _ _ hq14),am,_,rfl,Nw,fun R2 hR2=>?_⟩;have u16:=aG.aF (o:=.tup [.ref lz,.ref fs[m],.ref lh]) hR2;have s1316:=s14.trans (u15.trans u16);have sAll:=s'.trans (s812.trans (s13.trans s1316));refine k R2 lz fs[m] lh _ (fs.take m) dw (fun i=>rr*Y i) XX (fun j=>XX (fr.length+2*j)-XX (fr.length+(2*j+1))) ((s'.trans (s812.trans (s13.trans s14))).free hlz) sAll aC ⟨u16 _ _ e15,by rw[qEi];omega,fun j w e=>?_⟩ (s1316 _ _ (fa m _ efm)) (u16 _ _ (u15 _ _ hd14)) sdw sZ ?_ fun q' hq'=>?_
      ·have hj:j<m:=by
        have:=(List.getElem?_eq_some_iff.mp e).1;rw[qEi] at this;omega
       rw[qKz hj] at e;exact s1316 _ _ (fa j w e)
      ·rw[hrr];exact ce
      ·obtain⟨j,hj,ej⟩:=qCy hq';have eg:gN ks j=q':=iE (by rw[qAd hj,ej]);have z:=hk j hj;have e2:ks.getD j 0=q':=eg;rw[e2] at z;rw[z,<- eg,<- sg j hj,show tp j=tt j from if_pos hj,qCr (tt j)]
   ·exact(Cm.Fc (gM m fr ks) sd0 sd1 no to.cols to.neg).elim
   ·exact(Cm.IA (gM m fr ks) (zU tbl L fr ks tp) ind to.z0 to.away to.more).elim
theorem DL (m:Nat) (y:Nat->Int) (g:Nat):Cm.pt m bt y g=Cm.dot m y (bt g):=Wg.aV fun i _=>qCr _ _
theorem lL {m:Nat}{ks:List Nat}{g:Nat} (ind:Cm.iC m (fN ks)) (h:gW m ks g=true):Cm.Tl m bt ks g:=fun y hy=>by
 rw[DL];refine Cm.Told.dot ind (fY.mp h) fun v hv=>?_;obtain⟨k,hk,rfl⟩:=List.mem_map.mp hv;rw[<- DL];exact hy k hk
theorem zV:∀(m:_root_.Fin 7) (g:_root_.Fin 64) (i:_root_.Fin 6),g.1<2^m.1->i.1<m.1->bt g.1 i.1=1*bt (2^m.1-1) i.1 + -1*bt (2^m.1-1-g.1) i.1:=by decide +kernel
theorem lM {m:Nat} (m6:m<=6):2^m<=64:=qBx (n:=2) (by decide) m6
theorem pJ {m:Nat}{ks:List Nat}{g:Nat} (m6:m<=6) (hg:g<2^m) (ind:Cm.iC m (fN ks)) (hN:2^m-1∈ks) (h:gW m ks (2^m-1-g)=true):gW m ks g=true:=by
 rw[fY] at h|-;have t:=Cm.Told.PB 1 (-1) (Cm.Told.self ind (v:=bt (2^m-1)) (List.mem_map.mpr ⟨_,hN,rfl⟩)) h;intro i hi;have:=lM m6;rw[Cm.sQ ind (f:=bt g) (g:=fun i=>1*bt (2^m-1) i + -1*bt (2^m-1-g) i) (fun i hi=>zV ⟨m,by omega⟩ ⟨g,by omega⟩ ⟨i,by omega⟩ hg hi) i hi];exact t i hi
def Pr (m g:Nat):Prop:=1<=g/\g<2^m-1
def jS (m:Nat):List Nat:=(qAl (2^m-2)).map (· + 1)
theorem fO {m g:Nat}:g∈jS m↔Pr m g:=by
 unfold jS Pr;rw[qJl];constructor
 ·rintro⟨j,hj,rfl⟩;have:=List.mem_range.mp hj;omega
 ·rintro⟨a,b⟩;exact⟨g-1,List.mem_range.mpr (by omega),by omega⟩
theorem Fz (m:Nat):(jS m).Nodup:=List.pairwise_map.mpr (List.nodup_range.imp fun h e=>h (by omega))
theorem pK {m:Nat} (m6:m<=6):(jS m).length<=62:=by
 unfold jS;rw[qAb,qAw];have:=lM m6;omega
def cV (m:Nat) (ks:List Nat):List Nat:=(jS m).filter fun g=>!gW m ks g
theorem dI {m g:Nat}{ks:List Nat}:g∈cV m ks↔Pr m g/\gW m ks g=false:=by
 unfold cV;rw[qKi,fO];cases gW m ks g <;> simp
theorem FA {l:List Nat} (nd:l.Nodup){p q:Nat->Bool}{a b:Nat} (ab:a≠b) (ha:a∈l) (hb:b∈l) (pa:p a=true) (pb:p b=true) (qa:q a=false) (qb:q b=false) (sub:∀x,q x=true->p x=true):(l.filter q).length+2<=(l.filter p).length:=by
 have h:=Cm.sub_len (l:=a::b::l.filter q) (l':=l.filter p) ?_ ?_
 ·simpa using h
 ·refine List.nodup_cons.mpr ⟨fun z=>?_,List.nodup_cons.mpr ⟨fun z=>?_,nd.filter _⟩⟩
  ·rcases List.mem_cons.mp z with z | z
   ·exact ab z
   ·rw[(List.mem_filter.mp z).2] at qa;cases qa
  ·rw[(List.mem_filter.mp z).2] at qb;cases qb
 ·intro x hx;rcases List.mem_cons.mp hx with rfl | hx
  ·exact List.mem_filter.mpr ⟨ha,pa⟩
  ·rcases List.mem_cons.mp hx with rfl | hx
   ·exact List.mem_filter.mpr ⟨hb,pb⟩
   ·obtain⟨a,b⟩:=List.mem_filter.mp hx;exact List.mem_filter.mpr ⟨a,sub x b⟩
def dZ (m:Nat) (ks hl:List Nat):List Nat:=hl.foldl (fun acc g=>if gW m acc g=true then acc else acc++[g]) ks
theorem fZ (m:Nat) (ks hl:List Nat) (g:Nat):dZ m ks (hl++[g])=if gW m (dZ m ks hl) g=true then dZ m ks hl else dZ m ks hl++[g]:=by
 unfold dZ;rw[qHk];rfl
theorem zW (ks:List Nat) (k:Nat):fN (ks++[k])=fN ks++[bt k]:=by unfold fN;rw[qAt];rfl
theorem lN {m:Nat}{ks:List Nat}{g:Nat} (ind:Cm.iC m (fN ks)) (h:¬gW m ks g=true):Cm.iC m (fN (ks++[g])):=by
 rw[zW];exact ind.snoc (Cm.qN fun z=>h (fY.mpr z))
theorem pL {m:Nat}{ks:List Nat}{g k:Nat} (h:gW m ks g=true):gW m (ks++[k]) g=true:=by
 rw[fY] at h|-;rw[zW];exact h.snoc
theorem pM {m:Nat}{ks:List Nat}{g:Nat} (ind:Cm.iC m (fN ks)) (h:g∈ks):gW m ks g=true:=fY.mpr (Cm.Told.self ind (List.mem_map.mpr ⟨g,h,rfl⟩))
theorem lO (m:Nat) (ks hl:List Nat):∃t,dZ m ks hl=ks++t/\∀k,k∈t->k∈hl:=by
 induction hl using Cm.snocInd with
 | nil=>exact⟨[],(qDp _).symm,fun k hk=>by cases hk⟩
 | append_singleton hl g ih =>
  obtain⟨t,e,h⟩:=ih;rw[fZ];split
  ·exact⟨t,e,fun k hk=>qCc _ (h k hk)⟩
  ·refine⟨t++[g],by rw[e,qHl],fun k hk=>?_⟩;rcases List.mem_append.mp hk with z | z
   ·exact qCc _ (h k z)
   ·exact qAu _ z
theorem lP {m:Nat}{ks:List Nat} (ind:Cm.iC m (fN ks)) (hl:List Nat):Cm.iC m (fN (dZ m ks hl)):=by
 induction hl using Cm.snocInd with
 | nil=>exact ind
 | append_singleton hl g ih =>
  rw[fZ];split
  ·exact ih
  ·rename_i h;exact lN ih h
theorem rF {m:Nat}{ks:List Nat}{g:Nat} (h:gW m ks g=true) (hl:List Nat):gW m (dZ m ks hl) g=true:=by
 induction hl using Cm.snocInd with
 | nil=>exact h
 | append_singleton hl g ih =>
  rw[fZ];split
  ·exact ih
  ·exact pL ih
theorem mP {m:Nat}{ks:List Nat} (ind:Cm.iC m (fN ks)){hl:List Nat}:∀g,g∈hl->gW m (dZ m ks hl) g=true:=by
 induction hl using Cm.snocInd with
 | nil=>intro g hg;cases hg
 | append_singleton hl q ih =>
  intro g hg;have i2:=lP ind (hl++[q]);rw[fZ] at i2|-;rcases List.mem_append.mp hg with z | z
  ·split
   ·exact ih g z
   ·exact pL (ih g z)
  ·obtain rfl:=List.mem_singleton.mp z;split
   ·assumption
   ·rename_i h;rw[if_neg h] at i2;exact pM i2 (qAu _ (List.mem_singleton.mpr rfl))
theorem DM {m:Nat}{ks:List Nat} (m6:m<=6) (ind:Cm.iC m (fN ks)) (hN:2^m-1∈ks) (c:(cV m ks).length+2*ks.length<=64){hl:List Nat} (hp:∀g,g∈hl->Pr m g):(cV m (dZ m ks hl)).length+2*(dZ m ks hl).length<=64:=by
 induction hl using Cm.snocInd with
 | nil=>exact c
 | append_singleton hl g ih =>
  have ih:=ih fun q hq=>hp q (qCc _ hq);have i1:=lP ind hl;obtain⟨t,e,_⟩:=lO m ks hl;have hN1:2^m-1∈dZ m ks hl:=by rw[e];exact qCc _ hN
  rw[fZ];split
  ·exact ih
  ·rename_i no;have pg:Pr m g:=hp g (qAu _ (List.mem_singleton.mpr rfl));have i2:=lN i1 no;have g2:g<2^m:=by have:=pg.2;omega
   have hN2:2^m-1∈dZ m ks hl++[g]:=qCc _ hN1;have self:gW m (dZ m ks hl++[g]) g=true:=pM i2 (qAu _ (List.mem_singleton.mpr rfl));have pc:Pr m (2^m-1-g):=⟨by have:=pg.2;omega,by have:=pg.1;have:=pg.2;omega⟩;have nc:¬gW m (dZ m ks hl) (2^m-1-g)=true:=fun z=>no (pJ m6 g2 i1 hN1 z);have sc:gW m (dZ m ks hl++[g]) (2^m-1-g)=true:=by
    refine pJ m6 (by have:=pc.2;omega) i2 hN2 ?_;rw[show 2^m-1-(2^m-1-g)=g by have:=pg.2;omega];exact self
   have ne:g≠2^m-1-g:=fun z=>by
    have m1:1<=m:=by
     refine qNh fun z=>?_;rw[z] at pg;have:=pg.1;have:=pg.2;omega
    have:=pg.2;obtain⟨u,rfl⟩:∃u,m=u+1:=⟨m-1,by omega⟩;rw[qIb] at z this;omega
   have z:=FA (Fz m) (p:=fun x=>!gW m (dZ m ks hl) x) (q:=fun x=>!gW m (dZ m ks hl++[g]) x) ne (fO.mpr pg) (fO.mpr pc) (by rw[qJu] at no;rw[no];rfl) (by rw[qJu] at nc;rw[nc];rfl) (by rw[self];rfl) (by rw[sc];rfl) fun x hx=>by
    cases q:gW m (dZ m ks hl) x with
    | false=>rfl
    | true=>rw[pL q] at hx;cases hx
   have z:(cV m (dZ m ks hl++[g])).length+2<=(cV m (dZ m ks hl)).length:=z;rw[qAo,qBf];omega
theorem zX {m:Nat}{ks hl:List Nat}:(cV m ks).filter (fun g=>!gW m (dZ m ks hl) g)=cV m (dZ m ks hl):=by
 unfold cV;rw[List.filter_filter];refine qNj fun g _=>?_;cases q:gW m ks g with
 | false=>simp
 | true=>rw[rF q];rfl
theorem Bf:∀(m:_root_.Fin 7) (g:_root_.Fin 64),1<=g.1->g.1<2^m.1-1->Cm.pt m.1 bt (fun i=>bt g.1 i*m.1-Cm.pt m.1 bt (fun _=>1) g.1) (2^m.1-1)=0/\Cm.pt m.1 bt (fun i=>bt g.1 i*m.1-Cm.pt m.1 bt (fun _=>1) g.1) g.1≠0:=by decide +kernel
theorem rG {m g:Nat} (m6:m<=6) (pg:Pr m g):¬Cm.Tl m bt [2^m-1] g:=fun z=>by
 have:=lM m6;obtain⟨a,b⟩:=Bf ⟨m,by omega⟩ ⟨g,by have:=pg.2;omega⟩ pg.1 pg.2;exact b (z _ fun k hk=>by rw[List.mem_singleton.mp hk];exact a)
theorem DN:∀(m:_root_.Fin 7) (g:_root_.Fin 64),1<=g.1->g.1<2^m.1->1<=Cm.pt m.1 bt (fun _=>1) g.1:=by decide +kernel
structure mQ (m:Nat) (tb:Nat->Int) (ks:List Nat) (Z:Nat->Int) (d ev:Int):Prop where
 ind:Cm.iC m (fN ks)
 hN:2^m-1∈ks
 kP:∀k,k∈ks->k=2^m-1\/Pr m k
 cnt:(cV m ks).length+2*ks.length<=64
 d0:0<d
 sd:Sm (24*ks.length) d
 sZ:∀i,Sm (80000+24*ks.length-8) (Z i)
 whole:Cm.pt m bt Z (2^m-1)=tb (2^m-1)*d
 OP:Cm.Ou m bt (2^m-1) (Pr m) ks fun g=>tb g*d-Cm.pt m bt Z g
 low:∀g,g∈cV m ks->tb g*d-Cm.pt m bt Z g<=ev
 old:∀k,k∈ks->k≠2^m-1->ev<=tb k*d-Cm.pt m bt Z k
theorem tO (m:Nat) (y z:Nat->Int) (c:Int) (g:Nat):Cm.pt m bt (fun i=>z i-c*y i) g=Cm.pt m bt z g-c*Cm.pt m bt y g:=by
 have e:Cm.pt m bt (fun i=>z i-c*y i) g=Wg.sm m (fun i=>bt g i*z i + -c*(bt g i*y i)):=Wg.aV fun i _=>by grind
 rw[e,Wg.eY,Wg.bE];unfold Cm.pt;grind
theorem mQ.OQ {m:Nat}{tb:Nat->Int}{ks:List Nat}{Z:Nat->Int}{d ev:Int} (h:mQ m tb ks Z d ev):1<=ks.length:=qGa h.hN
theorem mQ.Ee {m:Nat}{tb:Nat->Int}{ks:List Nat}{Z:Nat->Int}{d ev:Int} (m6:m<=6) (h:mQ m tb ks Z d ev):∀k,k∈ks->k<64:=fun k hk=>by
 have:=lM m6;have:=qEq m;rcases h.kP k hk with z | z
 ·omega
 ·have:=z.2;omega
theorem mQ.sP {m:Nat}{tb:Nat->Int}{ks:List Nat}{Z:Nat->Int}{d ev:Int} (m6:m<=6) (h:mQ m tb ks Z d ev) (g:Nat):Sm (80000+24*ks.length) (Cm.pt m bt Z g):=by
 have l1:=h.OQ;refine(qV (a:=2+(80000+24*ks.length-8)) m fun i _=>(pB g i).mul (h.sZ i)).mono (by omega)
theorem mQ.no {m:Nat}{tb:Nat->Int}{ks:List Nat}{Z:Nat->Int}{d ev:Int} (m6:m<=6) (h:mQ m tb ks Z d ev) (fn:cV m ks≠[]) (y:Nat->Int) (hy:∀k,k∈ks->Cm.pt m bt y k=0):∃g,g∈cV m ks/\Cm.pt m bt y g<=0:=by
 obtain⟨g,hg⟩:=List.exists_mem_of_ne_nil _ fn;obtain⟨pg,tg⟩:=dI.mp hg;have:=lM m6;have g2:g<2^m:=by have:=pg.2;omega
 have pc:Pr m (2^m-1-g):=⟨by have:=pg.2;omega,by have:=pg.1;have:=pg.2;omega⟩;by_cases z:Cm.pt m bt y g<=0
 ·exact⟨g,hg,z⟩
 ·refine⟨2^m-1-g,dI.mpr ⟨pc,?_⟩,?_⟩
  ·cases q:gW m ks (2^m-1-g) with
   | false=>rfl
   | true=>rw[pJ m6 g2 h.ind h.hN q] at tg;cases tg
  ·have e:Cm.pt m bt y g=Cm.pt m bt y (2^m-1) + -1*Cm.pt m bt y (2^m-1-g):=by
    unfold Cm.pt;rw[<- Wg.bE,<- Wg.eY];exact Wg.aV fun i hi=>by rw[zV ⟨m,by omega⟩ ⟨g,by omega⟩ ⟨i,by omega⟩ g2 hi];grind
   rw[hy _ h.hN] at e;omega
theorem pN {gs:List Nat}{j:Nat} (h:j<gs.length):gN gs j∈gs:=Cm.mem_getD h
theorem mQ.grow {m:Nat}{tb:Nat->Int}{ks:List Nat}{Z:Nat->Int}{d ev:Int} (h:mQ m tb ks Z d ev){lk lam mu:Nat->Int}{dw e2:Int} (ce:Cm.Cert m bt (cV m ks) ks lk dw e2 lam mu):ks.length<(dZ m ks (eS (cV m ks) lam (cV m ks).length)).length:=by
 obtain⟨c,hc,ne⟩:=ce.some;have hm:gN (cV m ks) c∈eS (cV m ks) lam (cV m ks).length:=gO.mpr ⟨c,hc,ne,rfl⟩;have t:=mP h.ind _ hm;obtain⟨t',e,_⟩:=lO m ks (eS (cV m ks) lam (cV m ks).length);cases t' with
 | nil =>
  rw[e,qDp,(dI.mp (pN hc)).2] at t;cases t
 | cons x xs=>rw[e,qAo,qCk];omega
theorem mQ.step {m:Nat}{tb:Nat->Int}{ks:List Nat}{Z Z':Nat->Int}{d ev dw:Int}{lam mu:Nat->Int} (m1:1<=m) (m6:m<=6) (h:mQ m tb ks Z d ev) (ce:Cm.Cert m bt (cV m ks) ks (fun g=>tb g*(dw*d)-Cm.pt m bt Z' g) dw (Z' m) lam mu)
  (same:∀k,k∈ks->Cm.pt m bt Z' k=dw*Cm.pt m bt Z k) (sw:Sm 13 dw) (sZ':∀i,Sm (80000+24*ks.length+16) (Z' i)) :
  mQ m tb (dZ m ks (eS (cV m ks) lam (cV m ks).length)) Z' (dw*d) (Z' m):=by
 have hlP:∀g,g∈eS (cV m ks) lam (cV m ks).length->Pr m g:=fun g hg=>by
  obtain⟨c,hc,_,rfl⟩:=gO.mp hg;exact(dI.mp (pN hc)).1
 have gr:=h.grow ce;have told:∀g,g∈eS (cV m ks) lam (cV m ks).length->gW m (dZ m ks (eS (cV m ks) lam (cV m ks).length)) g=true:=mP h.ind;have hmem:∀c,c<(cV m ks).length->lam c≠0->(cV m ks).getD c 0∈eS (cV m ks) lam (cV m ks).length:=fun c hc ne=>gO.mpr ⟨c,hc,ne,rfl⟩;have idx:∀g,g∈eS (cV m ks) lam (cV m ks).length->∃c,c<(cV m ks).length/\lam c≠0/\(cV m ks).getD c 0=g:=fun g hg=>gO.mp hg;have hold:∀g,g∈eS (cV m ks) lam (cV m ks).length->tb g*(dw*d)-Cm.pt m bt Z' g=Z' m:=fun g hg=>by
  obtain⟨c,hc,ne,rfl⟩:=gO.mp hg;exact ce.hold c hc ne
 obtain⟨t,e,ht⟩:=lO m ks (eS (cV m ks) lam (cV m ks).length);have ind':=lP h.ind (eS (cV m ks) lam (cV m ks).length);have cnt':=DM m6 h.ind h.hN h.cnt hlP;have more:=fun g (z:gW m ks g=true)=>rF z (eS (cV m ks) lam (cV m ks).length);generalize dZ m ks (eS (cV m ks) lam (cV m ks).length)=ks' at *;generalize eS (cV m ks) lam (cV m ks).length=hl at *;have sub:∀k,k∈ks->k∈ks':=fun k hk=>by rw[e];exact qCc _ hk
 have new:∀k,k∈ks'->k∈ks\/k∈hl:=fun k hk=>by
  rw[e] at hk;rcases List.mem_append.mp hk with z | z
  ·exact .inl z
  ·exact .inr (ht k z)
 have Iy:Z' m<=dw*ev:=by
  refine ce.Iy (y:=fun i=>Z' i-dw*Z i) (fun k hk=>?_) fun g hg=>?_
  ·rw[tO,same k hk];omega
  ·rw[tO];have:=qCp (h.low g hg) (qBy ce.zB);rw[Int.mul_sub] at this;have e1:tb g*(dw*d)=dw*(tb g*d):=by grind
   show Cm.pt m bt Z' g-dw*Cm.pt m bt Z g+(tb g*(dw*d)-Cm.pt m bt Z' g)<=dw*ev;omega
 have teq:∀g,Cm.Tl m bt ks g->Cm.pt m bt Z' g=dw*Cm.pt m bt Z g:=fun g hg=>by
  have:=hg (fun i=>Z' i-dw*Z i) fun k hk=>by rw[tO,same k hk];omega
  rw[tO] at this;omega
 have lks:∀g,Cm.Tl m bt ks g->tb g*(dw*d)-Cm.pt m bt Z' g=dw*(tb g*d-Cm.pt m bt Z g):=fun g hg=>by rw[teq g hg];grind
 have old1:∀k,k∈ks->k≠2^m-1->Z' m<=tb k*(dw*d)-Cm.pt m bt Z' k:=fun k hk ne=>by
  rw[lks k (Cm.Tl.self hk)];exact qIf Iy (qCp (h.old k hk ne) (qBy ce.zB))
 have p64:=lM m6;refine⟨ind',sub _ h.hN,fun k hk=>?_,cnt',qHr ce.zB h.d0,?_,fun i=>(sZ' i).mono (by omega),?_,?_,fun g hg=>?_,fun k hk ne=>?_⟩
 ·rcases new k hk with z | z
  ·exact h.kP k z
  ·exact .inr (hlP k z)
 ·exact(sw.mul h.sd).mono (by omega)
 ·rw[teq _ (Cm.Tl.self h.hN),h.whole];grind
 ·refine ce.step h.OP sub (fun k hk=>?_) (fun c hc ne=>lL ind' (told _ (hmem c hc ne))) (fun g hg=>(dI.mp hg).1) (fun g pg nt=>?_) (fun g _ tg=>lks g tg) h.kP h.hN old1 (fun g pg=>?_) ?_
  ·rcases new k hk with z | z
   ·exact .inl z
   ·exact .inr (idx k z)
  ·refine dI.mpr ⟨pg,?_⟩;cases q:gW m ks g with
   | false=>rfl
   | true=>exact absurd (lL h.ind q) nt
  ·exact DN ⟨m,by omega⟩ ⟨g,by have:=pg.2;omega⟩ pg.1 (by show g<2^m;have:=pg.2;omega)
  ·have:2<=2^m:=qBx (n:=2) (i:=1) (by decide) m1;have:=DN ⟨m,by omega⟩ ⟨2^m-1,by omega⟩ (by show 1<=2^m-1;omega) (by show 2^m-1<2^m;omega);show 0<Cm.pt m bt (fun _=>1) (2^m-1);exact Int.lt_of_lt_of_le (by decide) this
 ·obtain⟨pg,tg⟩:=dI.mp hg;refine ce.low g (dI.mpr ⟨pg,?_⟩);cases q:gW m ks g with
  | false=>rfl
  | true=>rw[more g q] at tg;cases tg
 ·rcases new k hk with z | z
  ·exact old1 k z ne
  ·rw[hold k z];exact qCv _
theorem FD (m:Nat):eD 1 (2^m-2)=bC (jS m):=by
 unfold eD bC jS;rw[qDb];refine qMk fun j _=>?_;show V.int (1+(j:Int))=V.int ((j+1:Nat):Int);congr 1;omega
theorem Kp.add {ks:List Nat}{X:Nat->Int}{d:Int}{H:Hp}{q w:Addr}{ws:List Addr}{k:Nat} (h:Kp ks X d H q ws) (nk:k∉ks) (hw:H w=some (fL (X k) d)):Kp (ks++[k]) X d (upd H q (.dK (putK ((ks.zip ws).map fun kw=>((Sum.inl (kw.1:Int):Key),V.ref kw.2)) (Sum.inl (k:Int)) (.ref w)))) q (ws++[w]):=by
 have no:¬(((ks.zip ws).map fun kw=>((Sum.inl (kw.1:Int):Key),V.ref kw.2)).any fun kv=>decide (kv.1=Sum.inl (k:Int)))=true:=fun z=>by
  obtain⟨kv,hkv,e⟩:=List.any_eq_true.mp z;obtain⟨kw,hkw,rfl⟩:=List.mem_map.mp hkv;have e:(kw.1:Int)=(k:Int):=Sum.inl.inj (of_decide_eq_true e);have e:kw.1=k:=by omega
  exact nk (e▸(qGo (a:=kw.1) (b:=kw.2) hkw).1)
 have ne:∀(a:Addr) (y:Int),H a=some (fL y d)->a≠q:=fun a y e z=>by rw[z,h.hd] at e;cases e
 refine⟨?_,by rw[qAo,qAo,h.len];rfl,fun j a e=>?_⟩
 ·rw[aC];unfold putK;rw[if_neg no,qKh h.len.symm,qAt];rfl
 ·rcases qAk j ws.length with z | z
  ·rw[qBb z] at e;have w':=h.at_ j a e;rw[aM (ne _ _ w'),w'];unfold gN;rw[qAq,qAq,qBb (by rw[<- h.len];exact z)]
  ·rw[qAy z] at e;have hj:j-ws.length=0:=by
    have:=(List.getElem?_eq_some_iff.mp e).1;rw[qBf] at this;omega
   rw[hj] at e;obtain rfl:=Option.some.inj e;rw[aM (ne _ _ hw),hw];unfold gN;rw[qAq,qAy (by rw[<- h.len];exact z),<- h.len,hj];rfl
def z0 (x:Int) (i:Nat):Int:=if i=0 then x else 0
theorem GQ {m:Nat} (m1:1<=m) (m6:m<=6) (x:Int):Cm.pt m bt (z0 x) (2^m-1)=x:=by
 unfold Cm.pt;rw[Wg.fR (k:=0) (by omega) fun i _ ne=>by show bt _ i*(if i=0 then x else 0)=0;rw[if_neg ne,qBv],lI ⟨m,by omega⟩ ⟨0,by omega⟩ (by show 0<m;omega)];show 1*(if 0=0 then x else 0)=x;rw[if_pos rfl,qCj]
theorem OR {m:Nat}{tb:Nat->Int} (m1:1<=m) (m6:m<=6) (st:∀j,Sm 80000 (tb j)):∃ev,mQ m tb [2^m-1] (z0 (tb (2^m-1))) 1 ev:=by
 obtain⟨ev,hev⟩:∃ev,∀g,g∈cV m [2^m-1]->tb g*1-Cm.pt m bt (z0 (tb (2^m-1))) g<=ev:=by
  by_cases e:cV m [2^m-1]=[]
  ·exact⟨0,fun g hg=>by rw[e] at hg;cases hg⟩
  ·obtain⟨g,_,mx⟩:=Cm.mI (fun g=>tb g*1-Cm.pt m bt (z0 (tb (2^m-1))) g) e;exact⟨_,mx⟩
 have ind:Cm.iC m (fN [2^m-1]):=lN (ks:=[]) (fun r hr=>by cases hr) fun z=>by
  have z:=fY.mp z 0 (by omega);have z:bt (2^m-1) 0=0:=z;rw[lI ⟨m,by omega⟩ ⟨0,by omega⟩ (by show 0<m;omega)] at z;cases z
 refine⟨ev,ind,List.mem_singleton.mpr rfl,fun k hk=>.inl (List.mem_singleton.mp hk),?_,by decide,Sm.of 2 (by decide) (by show 2<=24*1;decide),fun i=>?_,by rw[GQ m1 m6,qFa],?_,hev,fun k hk ne=>absurd (List.mem_singleton.mp hk) ne⟩
 ·have:=qGf (fun g=>!gW m [2^m-1] g) (jS m);have:=pK m6;show(List.filter (fun g=>!gW m [2^m-1] g) (jS m)).length+2*1<=64;omega
 ·show Sm _ (if i=0 then tb (2^m-1) else 0);split
  ·exact(st _).mono (by show 80000<=80000+24*1-8;decide)
  ·exact Sm.zero
 ·intro S _ y _ _ g pg tg _;exact absurd tg (rG m6 pg)
theorem FE {m:Nat} (m1:1<=m) (m6:m<=6) (ind:Cm.iC m (fN [2^m-1])) (e:cV m [2^m-1]=[]):m=1:=by
 rcases qAk 1 m with z | z
 ·have h2:2^2<=2^m:=qBx (by decide) z;have p1:Pr m 1:=⟨by decide,by omega⟩;have:1∈cV m [2^m-1]:=dI.mpr ⟨p1,by
   cases q:gW m [2^m-1] 1 with
   | false=>rfl
   | true=>exact absurd (lL ind q) (rG m6 p1)⟩
  rw[e] at this;cases this
 ·omega
def GR:Sp:=fun vs H Q _=>∃(p:Addr) (m n:Nat) (tb:Nat->Int),vs=[.ref p,.int (m:Int)]/\H p=some (.lst (bB n tb))/\1<=m/\m<=6/\n=2^m/\(∀j,Sm 80000 (tb j)) /\
 ∀(l:Addr) (H':Hp) (ps:List Addr) (ks:List Nat) (Z:Nat->Int) (d ev:Int),H l=none->aG H H'->jA m Z d H' l ps->mQ m tb ks Z d ev->cV m ks=[]->Q (.ref l) H'
theorem lQ:aQ ["table","many","whole","kept","shares","free","found","group"] ["table","many"] (aI Jf):=by constructor<;>first|rfl|decide +kernel
theorem KN {f1 f2 f3 f4:Addr}{fd1 fd2 fd3 fd4:qBk} (t:Tx K mg "calm_shares" Jf ["table","many"] f fd) (T:T K mg AL LN FR iF fCh fGM fCC fCA fPL SE NN NG NT NR NS) (D_whole_company:Df P w K mg base bY 1 "whole_company" ["many"] De f1 fd1) (D_untold:Df P w K mg base bY 2 "untold" ["groups","kept","many"] Dw f2 fd2) (D_least_lack:Df P w K mg base bY 6 "least_lack" ["table","many","kept","free"] GP f3 fd3) (D_minus:Df P w K mg base bY 3 "minus" ["one","other"] Dr f4 fd4) :
  Df P w K mg base bY 7 "calm_shares" ["table","many"] GR f fd:=by
 refine t.gX lQ (fun vs H Q E h=>?_) (fun cdv _A outer s H vs Q E hr h=>?_)
 ·obtain⟨p,m,n,tbl,rfl,_⟩:=h;rfl
 ·obtain⟨p,m,n,tbl,rfl,hp,m1,m6,hn,st,k⟩:=h;refine⟨_,(aD (aP (i:=2) lQ.nd rfl bR (aW D_whole_company hr (by decide) (by rfl) (aA (pv 1) aB)))
   (aD (aP (i:=3) lQ.nd rfl bR (Cr (pv 2) (cI (aA (aS a8 (pv 0) (pv 2) (fun _ _=>rfl)) (aA aE aB)))))
   (aD (aP (i:=4) lQ.nd rfl bR (bU (aA (cI (aA (aS a8 (pv 0) (pv 2) (fun _ _=>rfl)) (aA aE aB))) aB)))
   (aD (aP (i:=5) lQ.nd rfl bR (aW D_untold hr (by decide) (by rfl) (aA (jX (by rfl) T.cN (by rfl) T.cD rfl (aA aE (aA (pv 2) aB))) (aA (eO (fW rfl) (by rfl) T.cN cX (aA (pv 3) aB)) (aA (pv 1) aB)))))
   (aD (kL PassesOwn.never (aZ tY (aL aO (by rfl) T.bZ bQ (aA (pv 5) aB)) aE (aY _))
    (aD (aP (i:=6) lQ.nd rfl bR (aW D_least_lack hr (by decide) (by rfl) (aA (pv 0) (aA (pv 1) (aA (pv 3) (aA (pv 5) aB))))))
    (aD (aP (i:=4) lQ.nd rfl bR (aS bI (pv 6) aE (fun _ _=>rfl)))
    (aD (c9 PassesOwn.never rfl (bO (aS bI (pv 6) aE (fun _ _=>rfl))) (aN (i:=7) lQ.nd rfl bR)
     (aH (cF (aZ tY (aL aO (by rfl) T.bZ bQ (aA (aW D_untold hr (by decide) (by rfl) (aA (bU (aA (pv 7) aB)) (aA (eO (fW rfl) (by rfl) T.cN cX (aA (pv 3) aB)) (aA (pv 1) aB)))) aB)) aE (aY _)) (aH (yU (BC hr) (pv 3) (pv 7) (aW D_minus hr (by decide) (by rfl) (aA (cI (aA (aS a8 (pv 0) (pv 7) (fun _ _=>rfl)) (aA aE aB))) (aA (aS bI (pv 6) aE (fun _ _=>rfl)) aB))) rfl)) bH)))
    (aH (aP (i:=5) lQ.nd rfl bR (aW D_untold hr (by decide) (by rfl) (aA (pv 5) (aA (eO (fW rfl) (by rfl) T.cN cX (aA (pv 3) aB)) (aA (pv 1) aB))))))))))
   (aH (aU (pv 4)))))))),?_⟩
  have n2:2<=n:=by rw[hn];exact qBx (n:=2) (i:=1) (by decide) m1
  have eN:((2^m:Int)-1)=((n-1:Nat):Int):=by
   have:((2^m:Nat):Int)=2^m:=by exact_mod_cast rfl
   rw[<- this,<- hn];omega
  refine⟨_,rfl,m,rfl,m6,fun H1 s1=>?_⟩;rw[eN];dsimp only[aX];have hp1:=s1 _ _ hp;refine fun q hq=>?_;have u1:=aG.aF (o:=.dK []) hq;have e1:upd H1 q (.dK []) q=_:=aC;generalize upd H1 q (.dK [])=H1' at u1 e1|-;refine⟨_,rfl,_,rfl,_,rfl,p,_,_,_,rfl,rfl,aT.of (u1 _ _ hp1),bN (by omega),lS,fun l2 hl2=>?_⟩;have u2:=aG.aF (o:=.tup [.int (tbl (n-1)),.int 1]) hl2;have e2:upd H1' l2 (.tup [.int (tbl (n-1)),.int 1]) l2=_:=aC;generalize upd H1' l2 (.tup [.int (tbl (n-1)),.int 1])=H2 at u2 e2|-;refine⟨u2 _ _ e1,_,rfl,?_⟩;dsimp only[aX];have h0q:H q=none:=s1.free hq;have s02:aG H H2:=s1.trans (u1.trans u2);have s3:aG H (upd H2 q (.dK [(Sum.inl ((n-1:Nat):Int),.ref l2)])):=s02.upd_ne' h0q;have l2q:l2≠q:=fun z=>by rw[z,e1] at hl2;cases hl2
  have e3:upd H2 q (.dK [(Sum.inl ((n-1:Nat):Int),.ref l2)]) q=_:=aC;have e32:upd H2 q (.dK [(Sum.inl ((n-1:Nat):Int),.ref l2)]) l2=_:=(aM l2q).trans e2;generalize upd H2 q (.dK [(Sum.inl ((n-1:Nat):Int),.ref l2)])=H3 at s3 e3 e32|-;refine⟨_,rfl,_,rfl,p,_,_,_,rfl,rfl,aT.of (s3 _ _ hp),bN (by omega),lS,fun l4 hl4=>?_⟩;have u4:=aG.aF (o:=.tup [.int (tbl (n-1)),.int 1]) hl4;have e4:upd H3 l4 (.tup [.int (tbl (n-1)),.int 1]) l4=_:=aC;generalize upd H3 l4 (.tup [.int (tbl (n-1)),.int 1])=H4 at u4 e4|-;refine⟨j6,fun l5 hl5=>?_⟩;have u5:=aG.aF (o:=.lst [.ref l4]) hl5;have e5:upd H4 l5 (.lst [.ref l4]) l5=_:=aC;generalize upd H4 l5 (.lst [.ref l4])=H5 at u5 e5|-;dsimp only[aX];have s5:aG H H5:=s3.trans (u4.trans u5);have n64:n<=64:=by rw[hn];exact lM m6
  refine⟨_,rfl,1,_,n-2,rfl,by omega,by omega,by decide,by decide,fun l6 hl6=>?_⟩;rw[show n-2=2^m-2 by rw[hn],FD];have u6:=aG.aF (o:=.lst (bC (jS m))) hl6;have e6:upd H5 l6 (.lst (bC (jS m))) l6=_:=aC;generalize upd H5 l6 (.lst (bC (jS m)))=H6 at u6 e6|-;have hq6:=u6 _ _ (u5 _ _ (u4 _ _ e3));refine⟨_,rfl,q,_,rfl,.inl hq6,fun l7 hl7=>?_⟩;have u7:=aG.aF (o:=.lst (bC [n-1])) hl7;have e7:upd H6 l7 (.lst (bC [n-1])) l7=_:=aC;show Bx _ _ _ (upd H6 l7 (.lst (bC [n-1]))) _;generalize upd H6 l7 (.lst (bC [n-1]))=H7 at u7 e7|-;obtain⟨ev,cs0⟩:=OR m1 m6 st;rw[hn] at e7;refine⟨_,rfl,l6,l7,m,jS m,[2^m-1],rfl,u7 _ _ e6,e7,by omega,m6,by have:=pK m6;omega,fun g hg=>by have:=(fO.mp hg).2;omega,cs0.Ee m6,cs0.ind,fun l8 H8 hl8 s8 e8=>?_⟩;dsimp only[aX];have s38:=u4.trans (u5.trans (u6.trans (u7.trans s8)));refine⟨fun μ σ' H'=>∃(ks:List Nat) (Z:Nat->Int) (d ev:Int) (ws:List Addr) (lsh lfr:Addr) (o6 o7:Option V),μ=(cV m ks).length/\aG H H'/\mQ m tbl ks Z d ev/\Kp ks (Cm.pt m bt Z) d H' q ws/\H' lfr=some (.lst (bC (cV m ks)))/\H lsh=none/\(cV m ks=[]->∃ps,jA m Z d H' lsh ps)/\σ'=[some (.ref p),some (.int (m:Int)),some (.int ((n-1:Nat):Int)),some (.ref q),some (.ref lsh),some (.ref lfr),o6,o7],
   ⟨_,[2^m-1],_,_,_,[l2],l5,l8,_,_,rfl,s3.trans s38,cs0,⟨?_,rfl,fun j w e=>?_⟩,e8,(s3.trans u4).free hl5,fun fe=>⟨[l4],?_,?_,fun j w e=>?_⟩,rfl⟩,?_⟩
  ·rw[s38 _ _ e3,<- hn];rfl
  ·have hj:j=0:=by have:=(List.getElem?_eq_some_iff.mp e).1;rw[qBf] at this;omega
   subst hj;obtain rfl:=Option.some.inj e;rw[s38 _ _ e32];show _=some (fL (Cm.pt m bt (z0 (tbl (2^m-1))) (2^m-1)) 1);rw[GQ m1 m6,pI,hn]
  ·exact s8 _ _ (u7 _ _ (u6 _ _ e5))
  ·rw[FE m1 m6 cs0.ind fe];rfl
  ·have hj:j=0:=by have:=(List.getElem?_eq_some_iff.mp e).1;rw[qBf] at this;omega
   subst hj;obtain rfl:=Option.some.inj e;rw[s8 _ _ (u7 _ _ (u6 _ _ (u5 _ _ e4)))];show _=some (fL (tbl (2^m-1)) 1);rw[pI,hn]
  rintro μ σ' H' ⟨ks,Z,d,ev,ws,lsh,lfr,o6,o7,rfl,s',cst,kp,hfr,hsh,fin,rfl⟩;refine⟨_,rfl,lfr,_,rfl,.inl (aT.of hfr),_,_,rfl,rfl,_,rfl,?_⟩;rw[bG];refine cP (fun h1=>?_) (fun h1=>?_)
  ·have fn:cV m ks≠[]:=fun z=>by rw[z] at h1;exact absurd h1 (by decide)
   refine⟨fun σ' H'=>∃(ks':List Nat) (Z:Nat->Int) (d ev:Int) (ws:List Addr) (lsh lfr:Addr) (o6 o7:Option V),(cV m ks').length<(cV m ks).length/\aG H H'/\mQ m tbl ks' Z d ev/\Kp ks' (Cm.pt m bt Z) d H' q ws/\H' lfr=some (.lst (bC (cV m ks')))/\H lsh=none/\(cV m ks'=[]->∃ps,jA m Z d H' lsh ps)/\σ'=[some (.ref p),some (.int (m:Int)),some (.int ((n-1:Nat):Int)),some (.ref q),some (.ref lsh),some (.ref lfr),o6,o7],
    fun σ' H' ⟨ks',Z,d,ev,ws,lsh,lfr,o6,o7,lt,r⟩=>⟨_,lt,ks',Z,d,ev,ws,lsh,lfr,o6,o7,rfl,r⟩,?_⟩
   have kl:ks.length<=32:=by have:=cst.cnt;omega
   have hp':=s' _ _ hp;refine⟨_,rfl,_,rfl,_,rfl,_,rfl,?_⟩;dsimp only[iK,qCl,qCm];refine⟨p,q,lfr,m,n,24*ks.length,tbl,Cm.pt m bt Z,d,ks,cV m ks,ws,rfl,hp',kp,hfr,m1,m6,hn,cst.d0,by omega,cst.sd,cst.sP m6,st,by have:=cst.cnt;omega,fun g hg=>by have:=(dI.mp hg).1.2;omega,cst.Ee m6,cst.ind,cst.no m6 fn,fun R lp le lh H9 ps dw Z' lam mu hlp s9 hR fl he hh sdw sZ' ce same=>?_⟩;have cst':=cst.step m1 m6 ce same sdw sZ';have dd0:=cst'.d0;have a0:gC [V.ref lp,V.ref le,V.ref lh] 0=some (.ref lp):=rfl;have a1:gC [V.ref lp,V.ref le,V.ref lh] 1=some (.ref le):=rfl;have a2:gC [V.ref lp,V.ref le,V.ref lh] 2=some (.ref lh):=rfl;dsimp only[aX];refine⟨_,rfl,R,_,_,_,rfl,rfl,cQ.of hR,a0,?_⟩;dsimp only[aX];refine⟨_,rfl,R,_,_,_,rfl,rfl,cQ.of hR,a2,lh,rfl,⟨_,aT.of hh⟩,?_⟩;have kp9:Kp ks (Cm.pt m bt Z') (dw*d) H9 q ws:=⟨s9 _ _ kp.hd,kp.len,fun j w e=>by
    rw[s9 _ _ (kp.at_ j w e)];have hj:j<ks.length:=by rw[<- kp.len];exact(List.getElem?_eq_some_iff.mp e).1
    refine congrArg some (kF cst.d0 dd0 ?_);rw[same _ (pN hj)];grind⟩
   have hlP:∀g,g∈eS (cV m ks) lam (cV m ks).length->Pr m g/\tbl g*(dw*d)-Cm.pt m bt Z' g=Z' m:=fun g hg=>by
    obtain⟨c,hc,ne,rfl⟩:=gO.mp hg;exact⟨(dI.mp (pN hc)).1,ce.hold c hc ne⟩
   have grow:=cst.grow ce;have ind0:=cst.ind;have s09:=s'.trans s9;have nR:R≠q:=fun z=>by rw[z,kp9.hd] at hR;cases hR
   have nlh:lh≠q:=fun z=>by rw[z,kp9.hd] at hh;cases hh
   have nle:le≠q:=fun z=>by rw[z,kp9.hd] at he;cases he
   have nlf:lfr≠q:=fun z=>by rw[z,kp.hd] at hfr;cases hfr
   have np:p≠q:=fun z=>by rw[z,kp.hd] at hp';cases hp'
   have told:=mP (m:=m) cst.ind (hl:=eS (cV m ks) lam (cV m ks).length);have sdd:Sm 3000 (dw*d):=(sdw.mul cst.sd).mono (by omega);generalize hhl:eS (cV m ks) lam (cV m ks).length=hl at *;refine dX (xs:=bC hl) (fun j σ' H'=>SameBut q H9 H'/\aG H H'/\∃(ws':List Addr) (o7:Option V),Kp (dZ m ks (hl.take j)) (Cm.pt m bt Z') (dw*d) H' q ws'/\σ'=[some (.ref p),some (.int (m:Int)),some (.int ((n-1:Nat):Int)),some (.ref q),some (.ref lp),some (.ref lfr),some (.ref R),o7]) ⟨(aG.refl _).but q,s09,ws,_,kp9,rfl⟩ ?_ ?_ ?_
   ·rintro j σ' H' _ ⟨sb,_⟩;exact aT.of (sb _ _ nlh hh)
   ·rintro j x σ' H10 hx ⟨sb,s10,ws',o7,kp10,rfl⟩;obtain⟨g,hg,rfl⟩:=eF hx;obtain⟨pg,hold⟩:=hlP g (qBe hg);have et:hl.take (j+1)=hl.take j++[g]:=by rw[qFb,hg];rfl
    have i10:=lP ind0 (hl.take j);rw[et,fZ];dsimp only[aX];generalize hks:dZ m ks (hl.take j)=kj at *;have kjl:kj.length<=6:=by
     have z:=i10.len;unfold fN at z;rw[qAb] at z;omega
    have Ee:∀k,k∈kj->k<64:=fun k hk=>by
     obtain⟨t',e',ht'⟩:=lO m ks (hl.take j);rw[hks] at e';rw[e'] at hk;rcases List.mem_append.mp hk with z | z
     ·exact cst.Ee m6 k z
     ·have:=(hlP k (qMc (ht' k z))).1.2;omega
    refine⟨_,rfl,j6,fun l11 h11=>?_⟩;have u11:=aG.aF (o:=.lst (bC [g])) h11;have e11:upd H10 l11 (.lst (bC [g])) l11=_:=aC;show Bx _ _ _ (upd H10 l11 (.lst (bC [g]))) _;generalize upd H10 l11 (.lst (bC [g]))=H11 at u11 e11|-;have kp11:=kp10.same u11;refine⟨_,rfl,q,_,rfl,.inl kp11.hd,fun l12 h12=>?_⟩;rw[Kp.keys kp11.len];have u12:=aG.aF (o:=.lst (bC kj)) h12;have e12:upd H11 l12 (.lst (bC kj)) l12=_:=aC;generalize upd H11 l12 (.lst (bC kj))=H12 at u12 e12|-;refine⟨_,rfl,l11,l12,m,[g],kj,rfl,u12 _ _ e11,e12,by omega,m6,by show 1<=64;decide,fun k hk=>by rw[List.mem_singleton.mp hk];have:=pg.2;omega,Ee,i10,fun l13 H13 h13 s13 e13=>?_⟩;have s1013:=u11.trans (u12.trans s13);have kp13:=kp10.same s1013;refine⟨l13,_,rfl,.inl (aT.of e13),_,_,rfl,rfl,_,rfl,?_⟩;rw[bG];by_cases tg:gW m kj g=true
    ·rw[if_pos tg];refine cP (fun z=>?_) fun _=>⟨sb.then s1013,s10.trans s1013,ws',_,kp13,rfl⟩;rw[qEd,tg] at z;simp at z
    ·rw[if_neg tg];refine cP (fun _=>?_) fun z=>?_
     ·have sb13:=sb.then s1013;have hgn:g<n:=by have:=pg.2;omega
      have hp13:=(s10.trans s1013) _ _ hp;refine⟨_,rfl,_,rfl,p,_,_,_,rfl,rfl,aT.of hp13,bN hgn,lS,fun l14 h14=>?_⟩;have u14:=aG.aF (o:=.tup [.int (tbl g),.int 1]) h14;have e14:upd H13 l14 (.tup [.int (tbl g),.int 1]) l14=_:=aC;generalize upd H13 l14 (.tup [.int (tbl g),.int 1])=H14 at u14 e14|-;have f14:H14 l14=some (fL (tbl g*(dw*d)) (dw*d)):=by
       rw[e14,<- pI];exact congrArg some (kF (by decide) dd0 (by rw[qFa]))
      refine⟨_,rfl,R,_,_,_,rfl,rfl,cQ.of (u14 _ _ (sb13 _ _ nR hR)),a1,?_⟩;dsimp only[iK,qCl,qCm];refine⟨l14,le,_,_,dw*d,rfl,f14,u14 _ _ (sb13 _ _ nle he),dd0,sdd,((st g).mul sdd).mono (by decide),(sZ' m).mono (by omega),fun l15 H15 s15 e15=>?_⟩;rw[show tbl g*(dw*d)-Z' m=Cm.pt m bt Z' g by omega] at e15;have kp15:=kp13.same (u14.trans s15);have nk:g∉kj:=fun z=>tg (pM i10 z);refine⟨_,rfl,_,rfl,q,_,rfl,.inl ⟨_,.inl (g:Int),kp15.hd,rfl,?_,rfl⟩,(sb13.then (u14.trans s15)).nG _,((s10.trans s1013).trans (u14.trans s15)).upd_ne' h0q,ws'++[l15],_,kp15.add nk e15,rfl⟩;rw[qAb,List.length_zip,kp15.len,qCf];omega
     ·rw[qEd] at z;rw[qJu] at tg;rw[tg] at z;exact absurd (by simp) z
   ·rintro σ' H10 ⟨sb,s10,ws',o7,kp10,rfl⟩;rw[bG,qEh] at kp10;rw[<- hhl] at kp10;have hfr10:=sb _ _ nlf (s9 _ _ hfr);refine⟨_,rfl,_,rfl,q,_,rfl,.inl kp10.hd,fun l12 h12=>?_⟩;rw[Kp.keys kp10.len];have u12:=aG.aF (o:=.lst (bC (dZ m ks (eS (cV m ks) lam (cV m ks).length)))) h12;have e12:upd H10 l12 (.lst (bC (dZ m ks (eS (cV m ks) lam (cV m ks).length)))) l12=_:=aC;generalize upd H10 l12 (.lst (bC (dZ m ks (eS (cV m ks) lam (cV m ks).length))))=H12 at u12 e12|-;rw[<- hhl] at cst' grow told;refine⟨_,rfl,lfr,l12,m,cV m ks,_,rfl,u12 _ _ hfr10,e12,by omega,m6,by have:=cst.cnt;omega,fun g hg=>by have:=(dI.mp hg).1.2;omega,cst'.Ee m6,cst'.ind,fun l13 H13 h13 s13 e13=>?_⟩;rw[zX] at e13;have s1013:=u12.trans s13;refine⟨_,Z',dw*d,Z' m,ws',lp,l13,_,_,?_,s10.trans s1013,cst',kp10.same s1013,e13,s'.free hlp,fun _=>⟨ps,?_⟩,rfl⟩
    ·obtain⟨c,hc,ne⟩:=ce.some;have hm:gN (cV m ks) c∈eS (cV m ks) lam (cV m ks).length:=gO.mpr ⟨c,hc,ne,rfl⟩;have z:=told _ hm;rw[<- zX];refine List.length_filter_lt_length_iff_exists.mpr ⟨_,pN hc,?_⟩;rw[z];decide
    ·have nlp:lp≠q:=fun z=>by rw[z,kp.hd] at hlp;cases hlp
     refine⟨s1013 _ _ (sb _ _ nlp fl.hr),fl.len,fun j w e=>?_⟩;have hw:=fl.at_ j w e;have nw:w≠q:=fun z=>by rw[z,kp9.hd] at hw;cases hw
     exact s1013 _ _ (sb _ _ nw hw)
  ·have fe:cV m ks=[]:=by
    cases e:cV m ks with
    | nil=>rfl
    | cons a b=>rw[e] at h1;exact absurd (by simp) h1
   obtain⟨ps,fl⟩:=fin fe;exact⟨_,rfl,k lsh H' ps ks Z d ev hsh s' fl cst fe⟩
def tS (m:Nat) (lk:Nat->Int) (l:Int):List Nat:=(jS m).filter fun g=>decide (l<=lk g)
theorem jO {m g:Nat}{lk:Nat->Int}{l:Int}:g∈tS m lk l↔Pr m g/\l<=lk g:=by
 unfold tS;rw[qKi,fO,decide_eq_true_iff]
theorem KO {m:Nat}{tb:Nat->Int}{ks:List Nat}{Z:Nat->Int}{d ev:Int} (m6:m<=6) (h:mQ m tb ks Z d ev) (fr:cV m ks=[]){l:Int}{g0:Nat} (hg0:Pr m g0) (hl0:l<=tb g0*d-Cm.pt m bt Z g0):Pf m (tS m (fun g=>tb g*d-Cm.pt m bt Z g) l):=by
 intro y y0 yN;have tl:∀g,Pr m g->Cm.Tl m bt ks g:=fun g pg=>by
  cases q:gW m ks g with
  | true=>exact lL h.ind q
  | false =>
   have:=dI.mpr ⟨pg,q⟩;rw[fr] at this;cases this
 have wh:=iD m6 y;have st:=h.OP (fun g=>l<=tb g*d-Cm.pt m bt Z g) (fun g h _ _ _ _ a b=>qIf a b) y (by unfold Cm.pt;rw[wh];exact yN) fun g pg _ sg=>y0 g (jO.mpr ⟨pg,sg⟩);refine⟨?_,fun g hg=>?_⟩
 ·have:=(st g0 hg0 (tl g0 hg0) hl0).1;unfold Cm.pt at this;rw[wh] at this;exact this
 ·obtain⟨pg,sg⟩:=jO.mp hg;exact(st g pg (tl g pg) sg).2
theorem FF (m:Nat) (gs:List Nat):(pF m gs).Sublist gs:=by
 induction gs using Cm.snocInd with
 | nil=>exact List.Sublist.refl _
 | append_singleton gs g ih =>
  rw[jD];exact ih.append List.filter_sublist
theorem KP:∀(p i:_root_.Fin 6),bt (2^p.1) i.1=Cm.e1 p.1 i.1:=by decide +kernel
theorem DO {m:Nat}{gs:List Nat} (m6:m<=6) (h:∀p,p<m->2^p∈gs):(pF m gs).length=m:=by
 have z:=Cm.AV (jN m gs) fun p hp i hi=>by
  have t:=Dx (m:=m) (2^p) (h p hp);rw[Cm.sQ (jN m gs) (f:=Cm.e1 p) (g:=bt (2^p)) (fun i hi=>(KP ⟨p,by omega⟩ ⟨i,by omega⟩).symm) i hi];exact t i hi
 unfold fN at z;rw[qAb] at z;exact z
theorem DQ {m:Nat}{tb tt Z:Nat->Int}{d L:Int} (e:∀j,j<m->tt j*d=Z j*L) (g:Nat):vS m tb tt L g*d=(tb g*d-Cm.pt m bt Z g)*L:=by
 have z:=CY (n:=m) (a:=bt g) (t:=tt) (X:=Z) (d:=d) (L:=L) e;unfold vS;rw[qMy,z,qMy];unfold Cm.pt;grind
def KQ (m:Nat) (lk:Nat->Int) (ds:List Int):Prop:=ds.Pairwise (· < ·)/\∀k,k∈ds↔∃g,Pr m g/\lk g=k
theorem KQ.back {m:Nat}{lk lk':Nat->Int}{d L:Int}{ss:List Int} (d0:0<d) (L0:0<L) (h:KQ m lk' ss) (e:∀g,lk' g*d=lk g*L):KQ m lk (ss.map fun s=>s*d/L):=by
 have key:∀g,lk' g*d/L=lk g:=fun g=>by rw[e g];exact qNa _ (by omega)
 refine⟨List.pairwise_map.mpr ?_,fun k=>?_⟩
 ·have:∀{l:List Int},l.Pairwise (· < ·)->(∀a,a∈l->∃g,lk' g=a)->l.Pairwise fun a b=>a*d/L<b*d/L:=by
   intro l hl hm;induction hl with
   | nil=>exact .nil
   | cons ha _ ih =>
    refine .cons (fun b hb=>?_) (ih fun a h=>hm a (qCi _ h));obtain⟨g1,rfl⟩:=hm _ (qDh ..);obtain⟨g2,rfl⟩:=hm b (qCi _ hb);rw[key,key];have z:=qCu (ha _ hb) d0;rw[e,e] at z;exact qEj z (qBy L0)
  exact this h.1 fun a ha=>by
   obtain⟨g,_,e⟩:=(h.2 a).mp ha;exact⟨g,e⟩
 ·rw[qJl];constructor
  ·rintro⟨a,ha,rfl⟩;obtain⟨g,pg,rfl⟩:=(h.2 a).mp ha;exact⟨g,pg,(key g).symm⟩
  ·rintro⟨g,pg,rfl⟩;exact⟨lk' g,(h.2 _).mpr ⟨g,pg,rfl⟩,key g⟩
theorem Bg {m:Nat}{lk lk':Nat->Int}{d L s l:Int} (d0:0<d) (L0:0<L) (e:∀g,lk' g*d=lk g*L) (h:s*d=l*L):tS m lk' s=tS m lk l:=by
 unfold tS;refine qNj fun g _=>decide_eq_decide.mpr ?_;constructor
 ·intro z;have z:=qCe z (qBy d0);rw[e,h] at z;exact qKu z L0
 ·intro z;have z:=qCe z (qBy L0);rw[<- e,<- h] at z;exact qKu z d0
theorem FG {m:Nat} (m6:m<=6) (lk:Nat->Int) (l:Int):(tS m lk l).length<=62:=qCx (qGf _ _) (pK m6)
theorem xY {m p:Nat} (m2:2<=m) (hp:p<m):Pr m (2^p):=by
 have h0:=qEq p;have h1:2^p<=2^(m-1):=qBx (by decide) (by omega);have h2:2^1<=2^(m-1):=qBx (by decide) (by omega);have h3:2^m=2^(m-1)*2:=by rw[<- qIb,show(m-1).succ=m by omega]
 exact⟨h0,by omega⟩
def FH (m:Nat) (lk:Nat->Int) (d:Int) (H:Hp) (D:Addr) (l:Int) (e:Addr):Prop:=∃(fa wa:Addr) (ys:List V) (dx:Int) (X:Nat->Int),H e=some (.tup [.ref fa,.ref wa])/\H fa=some (fL l d)/\H wa=some (.lst ys)/\wa≠D/\fD H dx ys (LA (tS m lk l) X (tS m lk l).length)/\0<dx/\Sm 6000 dx/\(∀j,Sm 300000 (X j))/\0<X 0/\(∀j,0<=X j)/\∀i,i<m->(Wg.sm (tS m lk l).length fun j=>bt (gN (tS m lk l) j) i*(X 0+X (j+1)))=dx
theorem FH.same {m:Nat}{lk:Nat->Int}{d:Int}{H H':Hp}{D:Addr}{l:Int}{e:Addr} (h:FH m lk d H D l e) (s:aG H H'):FH m lk d H' D l e:=by
 obtain⟨fa,wa,ys,dx,X,a,b,c,n,r,q⟩:=h;exact⟨fa,wa,ys,dx,X,s _ _ a,s _ _ b,s _ _ c,n,r.t s.t,q⟩
theorem FH.upd {m:Nat}{lk:Nat->Int}{d:Int}{H:Hp}{D:Addr}{l:Int}{e:Addr}{xs ys:List V} (h:FH m lk d H D l e) (hD:H D=some (.lst xs)):FH m lk d (upd H D (.lst ys)) D l e:=by
 obtain⟨fa,wa,zs,dx,X,a,b,c,n,r,q⟩:=h;refine⟨fa,wa,zs,dx,X,?_,?_,?_,n,r.t (.lst hD),q⟩
 ·rw[aM fun z=>by rw[z,hD] at a;cases a];exact a
 ·rw[aM fun z=>by rw[z,hD] at b;cases b];exact b
 ·rw[aM n];exact c
structure DR (m:Nat) (lk:Nat->Int) (d:Int) (ds:List Int) (H:Hp) (D:Addr) (es:List Addr) (tl:List Nat):Prop where
 hl:H D=some (.lst (es.map V.ref))
 le:es.length<=ds.length
 at_:∀(i:Nat) (e:Addr),es[i]?=some e->∃l,ds[ds.length-1-i]?=some l/\FH m lk d H D l e
 t0:es=[]->tl=[2^m-1]
 t1:∀l,es≠[]->ds[ds.length-es.length]?=some l->tl=pF m (tS m lk l)
theorem DR.same {m:Nat}{lk:Nat->Int}{d:Int}{ds:List Int}{H H':Hp}{D:Addr}{es:List Addr}{tl:List Nat} (h:DR m lk d ds H D es tl) (s:aG H H'):DR m lk d ds H' D es tl :=
 ⟨s _ _ h.hl,h.le,fun i e z=>by obtain⟨l,a,b⟩:=h.at_ i e z;exact⟨l,a,b.same s⟩,h.t0,h.t1⟩
theorem DR.more {m:Nat}{lk:Nat->Int}{d:Int}{ds:List Int}{H:Hp}{D:Addr}{es:List Addr}{tl:List Nat} (h:DR m lk d ds H D es tl){l:Int}{e:Addr} (hl:ds[ds.length-1-es.length]?=some l) (lt:es.length<ds.length) (he:FH m lk d H D l e) :
  DR m lk d ds (upd H D (.lst (es.map V.ref++[.ref e]))) D (es++[e]) (pF m (tS m lk l)):=by
 refine⟨by rw[aC,qAt];rfl,by rw[qAo,qBf];omega,fun i x z=>?_,fun z=>by simp at z,fun l' _ z=>?_⟩
 ·rcases qAk i es.length with q | q
  ·rw[qBb q] at z;obtain⟨l,a,b⟩:=h.at_ i x z;exact⟨l,a,b.upd h.hl⟩
  ·rw[qAy q] at z;have hi:i-es.length=0:=by
    have:=(List.getElem?_eq_some_iff.mp z).1;rw[qBf] at this;omega
   rw[hi] at z;obtain rfl:e=x:=Option.some.inj z;rw[show i=es.length by omega];exact⟨l,hl,he.upd h.hl⟩
 ·rw[qAo,qBf,show ds.length-(es.length+1)=ds.length-1-es.length by omega,hl] at z;rw[Option.some.inj z]
theorem Bh (m:Nat) (tb Y:Nat->Int) (b:Int) (k:Nat):((kH m tb Y b k).map fun kv=>kv.2)=((qAl k).map fun j=>vS m tb Y b (j+1)).map V.int:=by
 unfold kH;rw[qDb,qDb];rfl
theorem vT:∀{l l':List Int},l.Nodup->(∀x,x∈l->x∈l')->l.length<=l'.length
 | [],_,_,_=>qBr _
 | x::l,l',hn,h=>by
  obtain⟨n1,n2⟩:=List.nodup_cons.mp hn;have hx:=h x (.head _);have z:=vT (l:=l) (l':=l'.erase x) n2 fun y hy=>(qMd (fun e=>by subst e;exact n1 hy)).mpr (h y (.tail _ hy));rw[qKy hx] at z;have:=qGa hx;rw[qCk];omega
theorem DS {m:Nat}{tb Y:Nat->Int}{b:Int}{k j:Nat} (hj:j<k):nH (kH m tb Y b k) (Sum.inl ((j+1:Nat):Int):Key)=some (V.int (vS m tb Y b (j+1))):=by
 unfold nH kH;have e:((qAl k).map fun(j:Nat)=>((Sum.inl ((j+1:Nat):Int):Key),V.int (vS m tb Y b (j+1)))).find? (fun kv=>decide (kv.1=(Sum.inl ((j+1:Nat):Int):Key)))=some (Sum.inl ((j+1:Nat):Int),V.int (vS m tb Y b (j+1))):=by
  induction k with
  | zero=>omega
  | succ k ih =>
   rw[qBm,qAt,List.find?_append];rcases qAk j k with z | z
   ·rw[ih z];rfl
   ·obtain rfl:j=k:=by omega
    rw[List.find?_eq_none.mpr]
    ·rw[qDf,qEl,qEx];simp
    ·intro kv hkv;obtain⟨i,hi,rfl⟩:=List.mem_map.mp hkv;have hi:=List.mem_range.mp hi;intro z;have z:=Sum.inl.inj (of_decide_eq_true z);omega
 rw[e];rfl
theorem FI {m:Nat}{tb Y:Nat->Int}{b:Int}{k i:Nat}{kv:Key×V} (h:(kH m tb Y b k)[i]?=some kv):i<k/\kv=(Sum.inl ((i+1:Nat):Int),V.int (vS m tb Y b (i+1))):=by
 unfold kH at h;rw[qAp] at h;rcases qAk i k with z | z
 ·rw[qCz z] at h;exact⟨z,(Option.some.inj h).symm⟩
 ·rw[qBn (by rw[qAw];exact z)] at h;cases h
def KR (lk:Nat->Int) (l:Int) (k:Nat):List Nat:=((qAl k).map (· + 1)).filter fun g=>decide (l<=lk g)
theorem vU (lk:Nat->Int) (l:Int) (k:Nat):KR lk l (k+1)=if l<=lk (k+1) then KR lk l k++[k+1] else KR lk l k:=by
 unfold KR;rw[qBm,qAt,qHa];by_cases z:l<=lk (k+1)
 ·rw[if_pos z,qDf,qEl,qEd,if_pos (decide_eq_true z)];rfl
 ·rw[if_neg z,qDf,qEl,qEd,if_neg (by rw[decide_eq_false z];exact qAm),qHy,qDp]
def GS (K:qAc):Sp:=fun vs H Q _=>∃(p q:Addr) (m n:Nat) (tb Z:Nat->Int) (d ev:Int) (ks:List Nat) (ps:List Addr),vs=[.ref p,.int (m:Int),.ref q]/\H p=some (.lst (bB n tb))/\n=2^m/\1<=m/\m<=6/\(∀j,Sm 80000 (tb j))/\mQ m tb ks Z d ev/\cV m ks=[]/\jA m Z d H q ps /\
 ∀(R lv lt:Addr) (H':Hp) (es:List Addr) (ds:List Int) (tl:List Nat),aG H H'->H lv=none->H' R=some (.tup [.ref lv,.ref lt])->KQ m (fun g=>tb g*d-Cm.pt m bt Z g) ds->DR m (fun g=>tb g*d-Cm.pt m bt Z g) d ds H' lv es tl->H' lt=some (.lst (bC tl))->tl.length=m->Q (.ref R) H'
theorem nC:aQ ["table","many","shares","bottom","lacks","levels","telling","lack","groups"] ["table","many","shares"] (aI Ji):=by constructor<;>first|rfl|decide +kernel
theorem KS {f1 f2 f3 f4 f5 f6 f7:Addr}{fd1 fd2 fd3 fd4 fd5 fd6 fd7:qBk} (t:Tx K mg "levels_of" Ji ["table","many","shares"] f fd) (T:T K mg AL LN FR iF fCh fGM fCC fCA fPL SE NN NG NT NR NS) (D_common_bottom:Df P w K mg base bY 2 "common_bottom" ["fractions"] Dj f1 fd1) (D_tops_over:Df P w K mg base bY 1 "tops_over" ["bottom","fractions"] Dk f2 fd2) (D_lacks_of:Df P w K mg base bY 5 "lacks_of" ["table","tops","bottom"] (GO K) f3 fd3) (D_whole_company:Df P w K mg base bY 1 "whole_company" ["many"] De f4 fd4) (D_fraction:Df P w K mg base (g6 P w) 2 "fraction" ["top","bottom"] (sU K NN) f5 fd5) (D_weighing_of:Df P w K mg base bY 6 "weighing_of" ["groups","many"] GL f6 fd6) (D_sifted:Df P w K mg base bY 3 "sifted" ["groups","many"] GJ f7 fd7) :
  Df P w K mg base bY 7 "levels_of" ["table","many","shares"] (GS K) f fd:=by
 refine t.gX nC (fun vs H Q E h=>?_) (fun cdv _A outer s H vs Q E hr h=>?_)
 ·obtain⟨p,q,m,n,tbl,Z,d,ev,ks,ps,rfl,_⟩:=h;rfl
 ·obtain⟨p,q,m,n,tbl,Z,d,ev,ks,ps,rfl,hp,hn,m1,m6,st,cst,fe,fl,k⟩:=h;refine⟨_,(aD (aP (i:=3) nC.nd rfl bR (aW D_common_bottom hr (by decide) (by rfl) (aA (pv 2) aB)))
   (aD (aP (i:=4) nC.nd rfl (by first|exact .inl rfl|exact .inr rfl) (aW D_lacks_of hr (by decide) (by rfl) (aA (pv 0) (aA (aW D_tops_over hr (by decide) (by rfl) (aA (pv 3) (aA (pv 2) aB))) (aA (pv 3) aB)))))
   (aD (aP (i:=5) nC.nd rfl bR (bU aB))
   (aD (aP (i:=6) nC.nd rfl bR (bU (aA (aW D_whole_company hr (by decide) (by rfl) (aA (pv 1) aB)) aB)))
   (aD (c9 PassesOwn.never rfl (Ij (by rfl) T.gL (aA (r9 (by rfl) T.i9 (by rfl) T.vA rfl (aA (g7 (by rfl) T.cN rfl (pv 4)) aB)) aB)) (aN (i:=7) nC.nd rfl (by first|exact .inl rfl|exact .inr rfl))
    (aD (cF (aZ hJ (aL aO (by rfl) T.bZ bQ (aA (pv 6) aB)) (pv 1) (aY _)) (aH Bn) bH)
    (aD (eB (NB:=["group","lack","lacks"]) (pick:=[none,some 7,some 4]) (i:=8) nC.nd rfl bR (by rfl) (bJ (by with_unfolding_all rfl) (by exact(And.intro rfl (And.intro rfl trivial))) rfl (by decide +kernel) (by decide +kernel) (by rfl) (by rfl)) rfl
     (Cp (pv 4)) (fun _ _ _=>aN (i:=0) (show(["group","lack","lacks"]:List Str).Nodup from by decide +kernel) rfl bR)
     (fun _ _ _=>eW (aZ Br (EG (BC hr) (pv 2) (pv 0) (fun _ _=>rfl)) (pv 1) (aY _))) (fun _ _ _=>(pv 0)))
    (aD (fI (t5 qFp qGy qGx j9 (pv 5) (aA (cI (aA (dR cA D_fraction hr (by decide) (by rfl) (aA (pv 7) (aA (pv 3) aB))) (aA (aW D_weighing_of hr (by decide) (by rfl) (aA (pv 8) (aA (pv 1) aB))) aB))) aB)))
    (aH (aP (i:=6) nC.nd rfl bR (aW D_sifted hr (by decide) (by rfl) (aA (pv 8) (aA (pv 1) aB)))))))))
   (aH (aU (cI (aA (pv 5) (aA (pv 6) aB)))))))))),?_⟩
  have d0:=cst.d0;have kl:ks.length<=32:=by have:=cst.cnt;omega
  have sd:Sm 6000 d:=cst.sd.mono (by omega);have sZ:∀i,Sm 300000 (Z i):=fun i=>(cst.sZ i).mono (by omega);have n64:n<=64:=by rw[hn];exact lM m6
  have n2:2<=n:=by rw[hn];exact qBx (n:=2) (i:=1) (by decide) m1
  refine⟨_,rfl,q,m,Z,d,ps,rfl,fl,d0,sd,fun L lo=>?_⟩;have L0:=lo.pos;have sL:Sm 6000 L:=sd.le (by have:=qEn d0 lo.dvd;omega);dsimp only[aX];refine⟨_,rfl,_,rfl,_,rfl,q,m,Z,d,L,ps,rfl,fl,by omega,d0,sd,sZ,lo,fun lt H1 tt hlt s1 hd1 htt stt=>?_⟩;obtain⟨tp,etp⟩:∃tp:Nat->Int,∀j,tp j=if j<m then tt j else 0:=⟨_,fun _=>rfl⟩;have stt':∀j,Sm 300000 (tp j):=fun j=>by
   rw[etp];split
   ·rename_i hj;refine(sZ j).le ?_;have z:=htt j hj;obtain⟨rr,hrr⟩:=lo.dvd;have r0:rr≠0:=fun z=>by rw[z,qBv] at hrr;omega
    have:rr*tt j=Z j:=by
     have:L*(rr*tt j)=L*Z j:=by rw[hrr] at z;grind
     exact qFi (by omega) this
    rw[<- this,qDq];exact qLs _ (by omega)
   ·exact Sm.zero
  refine⟨_,rfl,p,lt,m,n,tbl,tp,L,rfl,s1 _ _ hp,?_,m1,m6,hn,sL,stt',st,fun ld H2 ob hld s2 hd2=>?_⟩
  ·rw[hd1];exact congrArg (fun l=>some (HO.lst l)) (dH fun j hj=>by rw[etp,if_pos hj])
  have htt':∀j,j<m->tp j*d=Z j*L:=fun j hj=>by rw[etp,if_pos hj];exact htt j hj
  have sc:=DQ (tb:=tbl) htt';have s02:=s1.trans s2;dsimp only[aX];refine⟨by simp[qCf],fun lv hlv=>?_⟩;have u3:=aG.aF (o:=.lst []) hlv;have e3:upd H2 lv (.lst []) lv=_:=aC;generalize upd H2 lv (.lst [])=H3 at u3 e3|-;dsimp only[aX];refine⟨_,rfl,m,rfl,m6,fun H4 s4=>?_⟩;have eN:((2^m:Int)-1)=((n-1:Nat):Int):=by
   have:((2^m:Nat):Int)=2^m:=by exact_mod_cast rfl
   rw[<- this,<- hn];omega
  rw[eN];refine⟨j6,fun l5 hl5=>?_⟩;have u5:=aG.aF (o:=.lst (bC [n-1])) hl5;have e5:upd H4 l5 (.lst (bC [n-1])) l5=_:=aC;show aX _ _ _ (upd H4 l5 (.lst (bC [n-1]))) _;generalize upd H4 l5 (.lst (bC [n-1]))=H5 at u5 e5|-;dsimp only[aX];have s25:=u3.trans (s4.trans u5);have hd5:=s25 _ _ hd2;refine⟨_,rfl,ld,_,rfl,.inr ⟨ob,hd5⟩,fun l6 hl6=>?_⟩;rw[Bh];have u6:=aG.aF (o:=.lst (((qAl (n-2)).map fun j=>vS m tbl tp L (j+1)).map V.int)) hl6;have e6:upd H5 l6 (.lst (((qAl (n-2)).map fun j=>vS m tbl tp L (j+1)).map V.int)) l6=_:=aC;generalize upd H5 l6 (.lst (((qAl (n-2)).map fun j=>vS m tbl tp L (j+1)).map V.int))=H6 at u6 e6|-;refine⟨l6,_,rfl,aT.of e6,by rw[qAb,qAw];omega,fun l7 ss hl7 ms up=>?_⟩;have u7:=aG.aF (o:=.lst (ss.map V.int)) hl7;have e7:upd H6 l7 (.lst (ss.map V.int)) l7=_:=aC;generalize upd H6 l7 (.lst (ss.map V.int))=H7 at u7 e7|-;have ls:KQ m (vS m tbl tp L) ss:=⟨up,fun kk=>by
   rw[ms,qJl];constructor
   ·rintro⟨j,hj,rfl⟩;have hj:=List.mem_range.mp hj;exact⟨j+1,⟨by omega,by omega⟩,rfl⟩
   ·rintro⟨g,pg,rfl⟩;refine⟨g-1,List.mem_range.mpr (by have:=pg.1;have:=pg.2;omega),?_⟩;rw[show g-1+1=g by have:=pg.1;omega]⟩
  have ldd:=ls.back d0 L0 sc;have ssl:ss.length<=62:=by
   have z:=vT (up.imp fun h=>Int.ne_of_lt h) fun a ha=>(ms a).mp ha;rw[qAb,qAw] at z;omega
  refine⟨l7,_,rfl,aT.of e7,?_⟩;have s27:=s25.trans (u6.trans u7);have h0v:H lv=none:=s02.free hlv;have n5:l5≠lv:=fun z=>by rw[z,s4 _ _ e3] at hl5;cases hl5
  have nd:ld≠lv:=fun z=>by rw[z] at hd2;rw[hd2] at hlv;cases hlv
  have n7:l7≠lv:=fun z=>by rw[z,u6 _ _ (u5 _ _ (s4 _ _ e3))] at hl7;cases hl7
  refine ET (xs:=ss.map V.int) (fun j σ' H'=>SameBut lv H7 H'/\aG H H'/\∃(es:List Addr) (tl:List Nat) (lt':Addr) (o7 o8:Option V),es.length=j/\DR m (fun g=>tbl g*d-Cm.pt m bt Z g) d (ss.map fun s=>s*d/L) H' lv es tl/\H' lt'=some (.lst (bC tl))/\σ'=[some (.ref p),some (.int (m:Int)),some (.ref q),some (.int L),some (.ref ld),some (.ref lv),some (.ref lt'),o7,o8]) ⟨(aG.refl _).but lv,s02.trans s27,[],[2^m-1],l5,_,_,rfl,⟨(u7 _ _ (u6 _ _ (u5 _ _ (s4 _ _ e3)))),qBr _,(fun i e z=>by cases z),fun _=>rfl,fun l z=>absurd rfl z⟩,by rw[u7 _ _ (u6 _ _ e5),hn],rfl⟩ (fun j σ' H' _ ⟨sb,_⟩=>aT.of (sb _ _ n7 e7)) (fun j x σ' H8 hx hj ⟨sb,s8,es,tl,lt',o7,o8,el,DT,ht,eσ⟩=>?_) (fun σ' H8 ⟨sb,s8,es,tl,lt',o7,o8,el,DT,ht,eσ⟩=>?_)
  ·subst eσ;rw[qAb] at hx hj;obtain⟨sv,hsv,rfl⟩:∃sv,ss[ss.length-1-j]?=some sv/\x = .int sv:=by
    rw[qAp] at hx;cases e:ss[ss.length-1-j]? with
    | none=>rw[e] at hx;cases hx
    | some sv=>rw[e] at hx;exact⟨sv,rfl,(Option.some.inj hx).symm⟩
   dsimp only[aX];refine⟨_,rfl,lt',_,rfl,.inl (aT.of ht),_,rfl,rfl,_,rfl,?_⟩;rw[bG];refine cP (fun h1=>?_) (fun h1=>?_)
   ·have full:tl.length=m:=by
     have z:=V.int.inj (of_decide_eq_true h1);omega
    refine⟨_,rfl,_,rfl,lS,fun R hR=>?_⟩;have u9:=aG.aF (o:=.tup [.ref lv,.ref lt']) hR;exact k R lv lt' _ es _ tl (s8.trans u9) h0v aC ldd (DT.same u9) (u9 _ _ ht) full
   ·have hd8:=sb _ _ nd (u7 _ _ (u6 _ _ hd5));refine⟨_,rfl,ld,ob,_,rfl,hd8,?_⟩;refine xE (fun i ys H'=>ys=bC (KR (vS m tbl tp L) sv i)) (fun i ys H1 H2 st h=>h) rfl hd8 (by unfold kH;rw[qAb,qAw,qCf];omega) (fun i kv H9 kk kk0 ys s9 hkv iv g1 g2=>?_) fun lg ys H9 hlg s9 iv hd9=>?_
    ·obtain⟨hi,rfl⟩:=FI hkv;refine⟨_,rfl,_,rfl,ld,_,rfl,.inl ⟨_,_,.inr ⟨ob,s9 _ _ hd8⟩,rfl,(DS hi).symm⟩,_,rfl,_,_,rfl,rfl,_,rfl,?_⟩;refine cP (fun z=>?_) (fun z=>?_)
     ·refine⟨_,rfl,g1 _ _ (.refl _) ?_⟩;rw[vU,if_pos (of_decide_eq_true z),iv];unfold bC;rw[qAt];rfl
     ·refine g2 _ (.refl _) ?_;rw[vU,if_neg fun y=>z (decide_eq_true y)];exact iv
    ·obtain⟨g0,pg0,eg0⟩:=(ls.2 sv).mp (qBe hsv);have hbal:=KO m6 cst fe pg0 (qCv _);have hsd:sv*d=(tbl g0*d-Cm.pt m bt Z g0)*L:=by rw[<- eg0];exact sc g0
     have eG:KR (vS m tbl tp L) sv (n-2)=tS m (fun g=>tbl g*d-Cm.pt m bt Z g) (tbl g0*d-Cm.pt m bt Z g0):=by
      have z:KR (vS m tbl tp L) sv (n-2)=tS m (vS m tbl tp L) sv:=by rw[hn];rfl
      rw[z];exact Bg d0 L0 sc hsd
     have eK:(kH m tbl tp L (n-2)).length=n-2:=by unfold kH;rw[qAb,qAw]
     rw[eK,eG] at iv;subst iv;have hat:(ss.map fun s=>s*d/L)[(ss.map fun s=>s*d/L).length-1-es.length]?=some (tbl g0*d-Cm.pt m bt Z g0):=by
      rw[qAb,qAp,el,hsv];show some (sv*d/L)=_;rw[hsd,qNa _ (by omega)]
     have efr:fL sv L=fL (tbl g0*d-Cm.pt m bt Z g0) d:=kF L0 d0 hsd;have gm:g0∈tS m (fun g=>tbl g*d-Cm.pt m bt Z g) (tbl g0*d-Cm.pt m bt Z g0):=jO.mpr ⟨pg0,qCv _⟩;have gl:=FG m6 (fun g=>tbl g*d-Cm.pt m bt Z g) (tbl g0*d-Cm.pt m bt Z g0);have gP:∀g,g∈tS m (fun g=>tbl g*d-Cm.pt m bt Z g) (tbl g0*d-Cm.pt m bt Z g0)->Pr m g:=fun g hg=>(jO.mp hg).1;have lvs9:=DT.same s9;generalize hGs:tS m (fun g=>tbl g*d-Cm.pt m bt Z g) (tbl g0*d-Cm.pt m bt Z g0)=gs at *;refine⟨_,rfl,.inl ⟨rfl,_,aT.of lvs9.hl⟩,_,rfl,_,rfl,?_⟩;dsimp only[iK,qCl,qCm];refine oZ (by omega) (sL.mono (by decide)) fun fa hfa=>?_;have u10:=aG.aF (o:=fL sv L) hfa;have e10:upd H9 fa (fL sv L) fa=some (fL (tbl g0*d-Cm.pt m bt Z g0) d):=by rw[aC,efr]
     generalize upd H9 fa (fL sv L)=H10 at u10 e10|-;refine⟨_,rfl,_,rfl,lg,m,gs,rfl,u10 _ _ hd9,by omega,m6,by omega,qGa gm,fun g hg=>⟨(gP g hg).1,by have:=(gP g hg).2;omega⟩,hbal,fun wa H11 ys dx X hwa s11 hd11 rw11 dx0 sdx sX x0 xn hsum=>?_⟩;refine⟨lS,fun te hte=>?_⟩;have u12:=aG.aF (o:=.tup [.ref fa,.ref wa]) hte;have e12:upd H11 te (.tup [.ref fa,.ref wa]) te=_:=aC;generalize upd H11 te (.tup [.ref fa,.ref wa])=H12 at u12 e12|-;have s912:=u10.trans (s11.trans u12);have lvs12:=lvs9.same s912;have nwa:wa≠lv:=fun z=>by rw[z,u10 _ _ lvs9.hl] at hwa;cases hwa
     have ele:es.length<(ss.map fun s=>s*d/L).length:=by rw[qAb];omega
     have lve:FH m (fun g=>tbl g*d-Cm.pt m bt Z g) d H12 lv (tbl g0*d-Cm.pt m bt Z g0) te:=⟨fa,wa,ys,dx,X,e12,u12 _ _ (s11 _ _ e10),u12 _ _ hd11,nwa,by rw[hGs];exact rw11.t u12.t,dx0,sdx,sX,x0,xn,by rw[hGs];exact hsum⟩;refine⟨lv,_,_,rfl,rfl,lvs12.hl,by rw[qAb];exact qAx ele (by rw[qAb,qCf];omega),?_⟩;have lvs13:=lvs12.more hat ele lve;rw[hGs] at lvs13;have nlg:lg≠lv:=fun z=>by rw[z,DT.hl] at hlg;cases hlg
     refine⟨_,rfl,_,rfl,lg,m,gs,rfl,?_,by omega,m6,by omega,fun g hg=>by have:=(gP g hg).2;omega,fun lt2 H14 hlt2 s14 hd14=>?_⟩
     ·show upd _ _ _ lg=_;rw[aM nlg];exact s912 _ _ hd9
     refine⟨(((sb.then s9).then s912).nG _).then s14,((s8.trans (s9.trans s912)).upd_ne' h0v).trans s14,es++[te],pF m gs,lt2,_,_,by rw[qAo,el];rfl,lvs13.same s14,hd14,rfl⟩
  ·subst eσ;rw[qAb] at el;have full:tl.length=m:=by
    rcases qAk 1 m with z | z
    ·have ne:ss≠[]:=fun e=>by
      have:=(ls.2 (vS m tbl tp L (2^0))).mpr ⟨2^0,xY z (by omega),rfl⟩;rw[e] at this;cases this
     have sl:0<ss.length:=List.length_pos_iff.mpr ne;obtain⟨l0,hl0⟩:∃l0,(ss.map fun s=>s*d/L)[0]?=some l0:=⟨_,qAd (by rw[qAb];exact sl)⟩;have tle:=DT.t1 l0 (fun e=>by rw[e] at el;simp at el;omega) (by rw[qAb,el,qMa];exact hl0);rw[tle];refine DO m6 fun p' hp'=>jO.mpr ⟨xY z hp',?_⟩;have hmem:=(ldd.2 _).mpr ⟨2^p',xY z hp',rfl⟩;obtain⟨i,hi,ei⟩:=qCy hmem;refine qIf ?_ (qFq ei);have hl0':=(List.getElem?_eq_some_iff.mp hl0);obtain⟨h0,e0⟩:=hl0';rw[<- e0];rcases qEm i with y | y
     ·subst y;exact qCv _
     ·exact qBy (List.pairwise_iff_getElem.mp ldd.1 0 i h0 hi y)
    ·have e1:ss=[]:=by
      cases e:ss with
      | nil=>rfl
      | cons a b =>
       obtain⟨g,pg,_⟩:=(ls.2 a).mp (by rw[e];exact qDh ..);have:=pg.1;have:=pg.2;rw[show m=1 by omega] at this;omega
     have ee:es=[]:=qJq (by rw[el,e1];rfl);rw[DT.t0 ee];show 1=m;omega
   refine⟨_,rfl,_,rfl,lS,fun R hR=>?_⟩;have u9:=aG.aF (o:=.tup [.ref lv,.ref lt']) hR;exact k R lv lt' _ es _ tl (s8.trans u9) h0v aC ldd (DT.same u9) (u9 _ _ ht) full
section
variable {lo:Int}{n:Nat}{σ0:St}{H1:Hp}{i0:Nat}{c:TT}{te:TE}{Q:Addr->Hp->Prop}
theorem Bi (Iv:Addr->Nat->List V->Hp->Prop) (mono:∀D i ys xs H o,H D=some (.lst xs)->Iv D i ys H->Iv D i ys (upd H D (.lst o))) (h0:∀D H,Iv D 0 [] H) (hn:n<=qAj)
  (step:∀(D:Addr) (i:Nat) (H2:Hp) (k:VK) (k0:Hp->Prop) (ys:List V),aG H1 H2->i<n->H2 D=some (.lst ys)->Iv D i ys H2->(∀y H3,aG H2 H3->Iv D (i+1) (ys++[y]) H3->k y H3)->(∀H3,aG H2 H3->Iv D (i+1) ys H3->k0 H3) ->
   c (σ0.set i0 (some (.int (lo+(i:Int))))) H2 fun b H4=>if b=true then te (σ0.set i0 (some (.int (lo+(i:Int))))) H4 k else k0 H4)
  (h:∀D ys H2,H1 D=none->aG H1 H2->Iv D n ys H2->H2 D=some (.lst ys)->Q D H2) :
  ∀D,H1 D=none->∃W:Nat->Nat->St->Hp->Prop,(∃m,W 0 m σ0 (upd H1 D (.lst [])))/\∀i m σ1 H2,W i m σ1 H2 ->
   ((pO lo n).stop i H2/\Q D H2)\/((pO lo n).go i H2/\∃N:St->Hp->Prop,(∀σ' H',N σ' H'->∃m',m'<m/\W (i+1) m' σ' H') /\
    ∀x H',(pO lo n).pR i H2 x H'->aX i0 x σ1 H' fun σ2 H3=>c σ2 H3 fun b H4=>if b=true then te σ2 H4 fun y H5=>∃xs,H5 D=some (.lst xs)/\xs.length<qAj/\N σ2 (upd H5 D (.lst (xs++[y]))) else N σ2 H4):=by
 intro D hD;refine⟨fun i m σ1 H2=>σ1.set i0 none=σ0.set i0 none/\aG H1 H2/\(∃ys,ys.length<=i/\Iv D i ys H2/\H2 D=some (.lst ys))/\i<=n/\m=n-i,⟨n,rfl,.aF hD,⟨[],qAg _,h0 _ _,aC⟩,qBr _,rfl⟩,?_⟩;rintro i m σ1 H2 ⟨hσ,hs,⟨ys,hy,hR,hd⟩,hi,rfl⟩;have hset:∀v:Option V,σ1.set i0 v=σ0.set i0 v:=fun v=>by
  have z:=congrArg (fun l=>qHn l i0 v) hσ;simpa using z
 rcases qAk i n with hlt | hge
 ·right
  refine⟨hlt,fun σ' H'=>σ'.set i0 none=σ0.set i0 none/\aG H1 H'/\∃ys,ys.length<=i+1/\Iv D (i+1) ys H'/\H' D=some (.lst ys),fun σ' H' ⟨a,b,c⟩=>⟨n-(i+1),by omega,a,b,c,hlt,rfl⟩,?_⟩;rintro x H' ⟨rfl,rfl⟩;show c (σ1.set i0 (some (.int (lo+(i:Int))))) _ _;rw[hset];refine step D i _ _ _ ys hs hlt hd hR (fun y H3 hs3 hR3=>⟨_,hs3 _ _ hd,by omega,?_,(hs.trans hs3).upd_ne' hD,ys++[y],by rw[qAo];show _+1<=_;omega,mono _ _ _ _ _ _ (hs3 _ _ hd) hR3,aC⟩) fun H3 hs3 hR3=>⟨?_,hs.trans hs3,ys,by omega,hR3,hs3 _ _ hd⟩
  ·simp
  ·simp
 ·left
  obtain rfl:i=n:=qCt hi hge;exact⟨qAg _,h D ys _ hD hs hR hd⟩
end
def KU (m:Nat) (tl:List Nat) (H:Hp) (D:Addr) (h:Nat) (e:Addr):Prop:=∃(ys:List V) (d:Int) (F:Nat->Int),H e=some (.lst ys)/\e≠D/\fD H d ys (xU tl F tl.length)/\0<d/\Sm 6000 d/\(∀j,Sm 310000 (F j))/\∀i,i<m->(Wg.sm tl.length fun j=>bt (gN tl j) i*F j)=bt (2^h) i*d
theorem KU.same {m:Nat}{tl:List Nat}{H H':Hp}{D:Addr}{h:Nat}{e:Addr} (k:KU m tl H D h e) (s:aG H H'):KU m tl H' D h e:=by
 obtain⟨ys,d,F,a,b,c,r⟩:=k;exact⟨ys,d,F,s _ _ a,b,c.t s.t,r⟩
theorem KU.upd {m:Nat}{tl:List Nat}{H:Hp}{D:Addr}{h:Nat}{e:Addr}{xs o:List V} (k:KU m tl H D h e) (hD:H D=some (.lst xs)):KU m tl (upd H D (.lst o)) D h e:=by
 obtain⟨ys,d,F,a,b,c,r⟩:=k;exact⟨ys,d,F,by rw[aM b];exact a,b,c.t (.lst hD),r⟩
structure Pg (m k:Nat) (tl:List Nat) (H:Hp) (D:Addr) (es:List Addr):Prop where
 len:es.length=k
 at_:∀(j:Nat) (e:Addr),es[j]?=some e->KU m tl H D j e
structure GU (m:Nat) (tb:Nat->Int) (H H':Hp) (R lp lv lk:Addr) (ps es kes:List Addr) (Z:Nat->Int) (d ev:Int) (ks:List Nat) (ds:List Int) (tl:List Nat):Prop where
 tup:H' R=some (.tup [.ref lp,.ref lv,.ref lk])
 np:H lp=none
 nv:H lv=none
 nk:H lk=none
 fl:jA m Z d H' lp ps
 cst:mQ m tb ks Z d ev
 fe:cV m ks=[]
 NH:KQ m (fun g=>tb g*d-Cm.pt m bt Z g) ds
 DT:DR m (fun g=>tb g*d-Cm.pt m bt Z g) d ds H' lv es tl
 OS:tl.length=m
 hk:H' lk=some (.lst (kes.map V.ref))
 PN:Pg m m tl H' lk kes
theorem DR.KW {m:Nat}{tb:Nat->Int}{Z:Nat->Int}{d:Int}{ds:List Int}{H:Hp}{D:Addr}{es:List Addr}{tl:List Nat} (m1:1<=m) (m6:m<=6) (NH:KQ m (fun g=>tb g*d-Cm.pt m bt Z g) ds) (h:DR m (fun g=>tb g*d-Cm.pt m bt Z g) d ds H D es tl):Cm.iC m (fN tl)/\∀g,g∈tl->g<64:=by
 have p64:=lM m6;have:=qEq m;by_cases e:es=[]
 ·rw[h.t0 e];refine⟨?_,fun g hg=>by rw[List.mem_singleton.mp hg];omega⟩;refine lN (ks:=[]) (fun r hr=>by cases hr) fun z=>?_;have z:=fY.mp z 0 (by omega);have z:bt (2^m-1) 0=0:=z;rw[lI ⟨m,by omega⟩ ⟨0,by omega⟩ (by show 0<m;omega)] at z;cases z
 ·have hl:=List.length_pos_iff.mpr e;have le:=h.le;obtain⟨l,hl⟩:∃l,ds[ds.length-es.length]?=some l:=⟨_,qAd (by omega)⟩;rw[h.t1 l e hl];refine⟨jN m _,fun g hg=>?_⟩;have:=(jO.mp ((FF m _).subset hg)).1.2;omega
def DU (K:qAc) (NT:Addr):Sp:=fun vs H Q E=>∃(p:Addr) (xs:List V),vs=[.ref p]/\H p=some (.lst xs)/\(∀v∈xs,Pl K H v)/\xs.length<=1000/\(iO xs=false->∀H',aG H H'->E (.ref NT) none H') /\
 (iO xs=true->∃(m n:Nat) (tb:Nat->Int),1<=m/\m<=6/\n=2^m/\xs=bB n tb/\(∀j,Sm 80000 (tb j))/\∀(R lp lv lk:Addr) (H':Hp) (ps es kes:List Addr) (Z:Nat->Int) (d ev:Int) (ks:List Nat) (ds:List Int) (tl:List Nat),aG H H'->GU m tb H H' R lp lv lk ps es kes Z d ev ks ds tl->Q (.ref R) H')
theorem zY:aQ ["table","many","shares","told"] ["table"] (aI Jk):=by constructor<;>first|rfl|decide +kernel
theorem KY {f1 f2 f3 f4:Addr}{fd1 fd2 fd3 fd4:qBk} (t:Tx K mg "calm" Jk ["table"] f fd) (T:T K mg AL LN FR iF fCh fGM fCC fCA fPL SE NN NG NT NR NS) (D_hands_in:Df P w K mg base (g6 P w) 3 "hands_in" ["table"] (zP K NT) f1 fd1) (D_calm_shares:Df P w K mg base bY 7 "calm_shares" ["table","many"] GR f2 fd2) (D_levels_of:Df P w K mg base bY 7 "levels_of" ["table","many","shares"] (GS K) f3 fd3) (D_key_of:Df P w K mg base bY 6 "key_of" ["hand","groups","many"] GN f4 fd4) :
  Df P w K mg base (g6 P w) 8 "calm" ["table"] (DU K NT) f fd:=by
 refine t.Ec zY (fun vs H Q E h=>?_) (fun cdv _A outer s H vs Q E hr h=>?_)
 ·obtain⟨p,xs,rfl,_⟩:=h;rfl
 ·obtain⟨p,xs,rfl,hp,pl,hl,k0,k⟩:=h;refine⟨_,(aD (aP (i:=1) zY.nd rfl (by first|exact .inl rfl|exact .inr rfl) (dR cG.toPass D_hands_in hr (by decide) (by rfl) (aA (pv 0) aB)))
   (aD (aP (i:=2) zY.nd rfl bR (aW D_calm_shares hr (by decide) (by rfl) (aA (pv 0) (aA (pv 1) aB))))
   (aD (aP (i:=3) zY.nd rfl (by first|exact .inl rfl|exact .inr rfl) (aW D_levels_of hr (by decide) (by rfl) (aA (pv 0) (aA (pv 1) (aA (pv 2) aB)))))
   (aH (aU (cI (aA (pv 2) (aA (aS bI (pv 3) aE (fun _ _=>rfl)) (aA (bP (NB:=["hand","many","told"]) (pick:=[none,some 1,some 3]) (bJ (by with_unfolding_all rfl) (by exact(And.intro rfl (And.intro rfl trivial))) rfl (by decide +kernel) (by decide +kernel) (by rfl) (by rfl)) rfl
     (cY (by rfl) T.cD (aA (pv 1) aB)) (fun _ _ _=>aN (i:=0) (show(["hand","many","told"]:List Str).Nodup from by decide +kernel) rfl bR)
     (fun _ _ _=>bK) (fun _ _ _=>(aW D_key_of hr (by decide) (by rfl) (aA (pv 0) (aA (aS (fU K) (pv 2) aE (fun _ _=>rfl)) (aA (pv 1) aB)))))) aB))))))))),?_⟩
  refine⟨_,rfl,p,xs,rfl,hp,pl,hl,k0,fun m' m1' m6' hm' yes H1 s1=>?_⟩;obtain⟨m,n,tbl,m1,m6,hn,rfl,st,k⟩:=k yes;rw[aJ,hn] at hm';obtain rfl:m=m':=tL ⟨m,by omega⟩ ⟨m',by omega⟩ hm';dsimp only[aX];have hp1:=s1 _ _ hp;refine⟨_,rfl,_,rfl,p,m,n,tbl,rfl,hp1,m1,m6,hn,st,fun lp H2 ps ks Z d ev hlp s2 fl cst fe=>?_⟩;dsimp only[aX];refine⟨_,rfl,_,rfl,_,rfl,p,lp,m,n,tbl,Z,d,ev,ks,ps,rfl,s2 _ _ hp1,hn,m1,m6,st,cst,fe,fl,fun R lv lt H3 es ds tl s3 hlv hR NH DT ht OS=>?_⟩;dsimp only[aX];obtain⟨ind,t64⟩:=DT.KW m1 m6 NH;have a0:gC [V.ref lv,V.ref lt] 0=some (.ref lv):=rfl;have a1:gC [V.ref lv,V.ref lt] 1=some (.ref lt):=rfl;refine⟨_,rfl,_,rfl,R,_,_,_,rfl,rfl,cQ.of hR,a0,_,rfl,m,rfl,by omega,by omega,?_⟩;refine Bi (n:=m) (fun D i ys H'=>∃kes:List Addr,ys=kes.map V.ref/\Pg m i tl H' D kes) ?_ (fun D H=>⟨[],rfl,rfl,fun j e z=>by cases z⟩) (qAn (aK (by omega))) (fun D i H4 kk kk0 ys s4 hi hD iv g1 g2=>?_) fun lk ys H4 hlk s4 iv hd4=>?_
  ·rintro D i ys xs H o hD ⟨kes,e,ky⟩;exact⟨kes,e,ky.len,fun j e z=>(ky.at_ j e z).upd hD⟩
  ·obtain⟨kes,rfl,ky⟩:=iv;refine⟨_,rfl,_,rfl,R,_,_,_,rfl,rfl,cQ.of (s4 _ _ hR),a1,_,rfl,lt,i,m,tl,by rw[qDj];rfl,s4 _ _ ht,hi,m6,OS,t64,ind,fun D2 H5 ys2 d2 F hD2 s5 hd5 rw5 d20 sd2 sF hs=>?_⟩;have ne:D2≠D:=fun z=>by rw[z,hD] at hD2;cases hD2
   refine g1 _ _ s5 ⟨kes++[D2],by rw[qAt];rfl,by rw[qAo,ky.len];rfl,fun j e z=>?_⟩;rcases qAk j kes.length with q | q
   ·rw[qBb q] at z;exact(ky.at_ j e z).same s5
   ·rw[qAy q] at z;have hj:j-kes.length=0:=by
     have:=(List.getElem?_eq_some_iff.mp z).1;rw[qBf] at this;omega
    rw[hj] at z;obtain rfl:=Option.some.inj z;rw[show j=i by have:=ky.len;omega];exact⟨ys2,d2,F,hd5,ne,rw5,d20,sd2,sF,hs⟩
  ·obtain⟨kes,rfl,ky⟩:=iv;refine⟨Nw,fun R2 hR2=>?_⟩;have u5:=aG.aF (o:=.tup [.ref lp,.ref lv,.ref lk]) hR2;have s45:=s4.trans u5;exact k R2 lp lv lk _ ps es kes Z d ev ks ds tl (s1.trans (s2.trans (s3.trans s45))) ⟨aC,s1.free hlp,(s1.trans s2).free hlv,(s1.trans (s2.trans s3)).free hlk,fl.same (s3.trans s45),cst,fe,NH,DT.same s45,OS,u5 _ _ hd4,ky.len,fun j e z=>(ky.at_ j e z).same u5⟩
theorem mQ.tl {m:Nat}{tb:Nat->Int}{ks:List Nat}{Z:Nat->Int}{d ev:Int} (h:mQ m tb ks Z d ev) (fr:cV m ks=[]):∀g,Pr m g->Cm.Tl m bt ks g:=fun g pg=>by
 cases q:gW m ks g with
 | true=>exact lL h.ind q
 | false =>
  have:=dI.mpr ⟨pg,q⟩;rw[fr] at this;cases this
theorem mQ.word {m:Nat}{tb:Nat->Int}{ks:List Nat}{Z:Nat->Int}{d ev:Int} (h:mQ m tb ks Z d ev) (fr:cV m ks=[]){c l:Int} (c0:0<c){y:Nat->Int} (yN:Cm.pt m bt y (2^m-1)<=0) (y0:∀g,Pr m g->l<=(tb g*d-Cm.pt m bt Z g)*c->0<=Cm.pt m bt y g){g:Nat} (pg:Pr m g) (lg:l<=(tb g*d-Cm.pt m bt Z g)*c):Cm.pt m bt y g=0 :=
 (h.OP (fun g=>l<=(tb g*d-Cm.pt m bt Z g)*c) (fun g h _ _ _ _ a b=>qIf a (qCe b (qBy c0))) y yN (fun g pg _ sg=>y0 g pg sg) g pg (h.tl fr g pg) lg).2
theorem DV (m:Nat) (y z:Nat->Int) (a b:Int) (g:Nat):Cm.pt m bt (fun i=>z i*a-y i*b) g=Cm.pt m bt z g*a-Cm.pt m bt y g*b:=by
 have e:Cm.pt m bt (fun i=>z i*a-y i*b) g=Wg.sm m (fun i=>a*(bt g i*z i) + -b*(bt g i*y i)):=Wg.aV fun i _=>by grind
 rw[e,Wg.eY,Wg.bE,Wg.bE];unfold Cm.pt;grind
theorem mQ.best {m:Nat}{tb:Nat->Int}{ks:List Nat}{Z z:Nat->Int}{d ev c:Int} (h:mQ m tb ks Z d ev) (fr:cV m ks=[]) (c0:0<c) (zN:Cm.pt m bt z (2^m-1)=tb (2^m-1)*c) (no:∀g,Pr m g->tb g*c<=Cm.pt m bt z g):∀g,Pr m g->tb g*d<=Cm.pt m bt Z g:=by
 have d0:=h.d0;refine qAz fun bad=>?_;have ne:jS m≠[]:=fun e=>bad fun g pg=>by
  have:=fO.mpr pg;rw[e] at this;cases this
 obtain⟨q,hq,mx⟩:=Cm.mI (fun g=>tb g*d-Cm.pt m bt Z g) ne;have pq:=fO.mp hq;have pos:0<tb q*d-Cm.pt m bt Z q:=by
  refine Int.not_le.mp fun z=>bad fun g pg=>?_;have:=mx g (fO.mpr pg);omega
 have up:∀g,Pr m g->tb q*d-Cm.pt m bt Z q<=tb g*d-Cm.pt m bt Z g->0<Cm.pt m bt (fun i=>z i*d-Z i*c) g:=fun g pg lg=>by
  rw[DV];have a:=qCe (no g pg) (qBy d0);have b:=qCu (show 0<tb g*d-Cm.pt m bt Z g by omega) c0;rw[qBc,qMy] at b;have e:tb g*d*c=tb g*c*d:=by grind
  omega
 have:=h.word fr (c:=1) (l:=tb q*d-Cm.pt m bt Z q) (by decide) (y:=fun i=>z i*d-Z i*c) (by rw[DV,zN,h.whole];grind) (fun g pg lg=>by rw[qFa] at lg;exact qBy (up g pg lg)) pq (by rw[qFa];exact qCv _);have:=up q pq (qCv _);omega
theorem Np:aQ ["_law_found"] ["_law_found"] (aI Js):=by constructor<;>first|rfl|decide +kernel
theorem KZ (t:Tx K mg "_law_whole" Js ["_law_found"] f fd) (T:T K mg AL LN FR iF fCh fGM fCC fCA fPL SE NN NG NT NR NS):Df P w K mg base bY 1 "_law_whole" ["_law_found"] (m9 K) f fd:=by
 refine t.gX Np (fun vs H Q E h=>?_) (fun cdv A outer s H vs Q E hr h=>?_)
 ·obtain⟨v,rfl,_⟩:=h;rfl
 ·obtain⟨v,rfl,pl,k⟩:=h;obtain⟨Ty,ty,kd⟩:=pl.ex;refine⟨_,aH (aU (iU (aL cZ (by rfl) T.fK fG (aA (pv 0) (aA (dO (v:=.ty "int") (by rfl) T.qQ BN rfl) aB)))
   (iT (Bm (aL cZ (by rfl) T.fK fG (aA (pv 0) (aA (dO (v:=.ty "bool") (by rfl) T.mM yQ rfl) aB))))))),?_⟩
  refine⟨_,rfl,v,.ty "int",_,_,_,rfl,rfl,.of ty,kd.Mh K,_,rfl,?_⟩;refine cP (fun h1=>?_) (fun h1=>?_)
  ·refine⟨_,rfl,v,.ty "bool",_,_,_,rfl,rfl,.of ty,kd.FW K,_,rfl,?_⟩;have e:(!(Ty == "bool"))=jQ v:=by
    rw[Pl.jQ ty];cases kd <;> first | rfl | (exact absurd h1 (by decide))
   rw[e];exact k
  ·have e:false=jQ v:=by
    rw[Pl.jQ ty];cases kd <;> first | rfl | (exact absurd rfl h1)
   rw[e];exact k
theorem GV:aQ ["_law_one","_law_other"] ["_law_one","_law_other"] (aI Jt):=by constructor<;>first|rfl|decide +kernel
theorem FJ (a:Int){b:Int}:qBo b (a%b)=qBo a b:=by
 have z:=Int.gcd_mul_right_add_left b (a%b) (a/b);rw[qCr,Int.mul_ediv_add_emod] at z;rw[qMg b,z]
def DW:Sp:=fun vs H Q _=>∃(a:Int) (b:Int),vs=[.int a,.int b]/\0<=b/\Q (.int (qBo a b:Int)) H
theorem La (t:Tx K mg "_law_divisor" Jt ["_law_one","_law_other"] f fd) (T:T K mg AL LN FR iF fCh fGM fCC fCA fPL SE NN NG NT NR NS):Df P w K mg base bY 1 "_law_divisor" ["_law_one","_law_other"] DW f fd:=by
 refine t.gX GV (fun vs H Q E h=>?_) (fun cdv A outer s H vs Q E hr h=>?_)
 ·obtain⟨a,b,rfl,_⟩:=h;rfl
 ·obtain⟨a,b,rfl,hb,k⟩:=h;refine⟨_,(aD (kL PassesOwn.never (aZ iZ (pv 1) aE (aY _))
    (aH (Hv (i:=0) (j:=1) rfl GV.nd rfl rfl (by decide) rfl rfl (aA (pv 1) (aA (aR gB (pv 0) (pv 1)) aB)) (by rfl))))
   (aH (aU (aL n8 (by rfl) T.oU wR (aA (pv 0) aB))))),?_⟩
  refine⟨fun m σ H2=>H2=H/\∃(x:Int) (r:Nat),m=r/\σ=[some (.int x),some (.int (r:Int))]/\qBo x r=qBo a b,⟨b.toNat,rfl,a,b.toNat,rfl,by rw[qDd hb];rfl,by rw[qDd hb]⟩,?_⟩;rintro m σ H2 ⟨rfl,x,r,rfl,rfl,hg⟩;refine⟨_,rfl,rfl,_,rfl,?_⟩;refine cP (fun h1=>?_) (fun h1=>?_)
  ·have hr0:=oV h1;refine⟨fun σ' H'=>H'=H2/\∃(x':Int) (r':Nat),r'<m/\σ'=[some (.int x'),some (.int (r':Int))]/\qBo x' r'=qBo a b,fun σ' H' ⟨e,x',r',h1,h2,h3⟩=>⟨r',h1,e,x',r',rfl,h2,h3⟩,?_⟩;refine⟨_,rfl,_,rfl,_,rfl,_,_,rfl,rfl,(by show(0:Int)<(m:Int);omega),_,_,rfl,rfl,(m:Int),(x%(m:Int)).toNat,?_,?_,?_⟩
   ·have:=qEo x (show(0:Int)<m by omega);omega
   ·rw[qDd (qEr _ (by omega))];rfl
   ·rw[qDd (qEr _ (by omega)),FJ x];exact hg
  ·have hr0:=zG h1;subst hr0;refine⟨_,rfl,x,rfl,?_⟩;have e:qBo x ((0:Nat):Int)=x.natAbs:=by show qBo x 0=_;rw[Int.gcd_zero_right]
   rw[e] at hg;rw[abs_eq,hg];exact k
def GW:Sp:=fun vs H Q _=>∃(p:Addr) (X d:Int),vs=[.ref p]/\H p=some (fL X d)/\0<d/\Q (.bl true) H
theorem Nq:aQ ["_law_found"] ["_law_found"] (aI Ju):=by constructor<;>first|rfl|decide +kernel
theorem Lb {f1 f2:Addr}{fd1 fd2:qBk} (t:Tx K mg "_law_fraction" Ju ["_law_found"] f fd) (T:T K mg AL LN FR iF fCh fGM fCC fCA fPL SE NN NG NT NR NS) (D_law_whole:Df P w K mg base bY 1 "_law_whole" ["_law_found"] (m9 K) f1 fd1) (D_law_divisor:Df P w K mg base bY 1 "_law_divisor" ["_law_one","_law_other"] DW f2 fd2) :
  Df P w K mg base bY 2 "_law_fraction" ["_law_found"] GW f fd:=by
 refine t.gX Nq (fun vs H Q E h=>?_) (fun cdv A outer s H vs Q E hr h=>?_)
 ·obtain⟨p,X,d,rfl,_⟩:=h;rfl
 ·obtain⟨p,X,d,rfl,hp,d0,k⟩:=h;refine⟨_,(aD (cF (PW.pt (pw_or (cL (cE (aL cZ (by rfl) T.fK fG (aA (pv 0) (aA (dO (v:=.ty "tuple") (by rfl) T.iM oG rfl) aB))))) (pw_or1 (aZ iZ (aL aO (by rfl) T.bZ bQ (aA (pv 0) aB)) aE (aY _))))) (aH (aU iS)) bH)
   (aD (cF (PW.pt (pw_or (cL (cE (aW D_law_whole hr (by decide) (by rfl) (aA (aS bI (pv 0) aE (fun _ _=>rfl)) aB)))) (pw_or (cL (cE (aW D_law_whole hr (by decide) (by rfl) (aA (aS bI (pv 0) aE (fun _ _=>rfl)) aB)))) (pw_or1 (aZ hU (aS bI (pv 0) aE (fun _ _=>rfl)) aE (aY _)))))) (aH (aU iS)) bH)
   (aH (aU (dA hJ (aW D_law_divisor hr (by decide) (by rfl) (aA (aS bI (pv 0) aE (fun _ _=>rfl)) (aA (aS bI (pv 0) aE (fun _ _=>rfl)) aB))) aE (aY _)))))),?_⟩
  obtain⟨_,y1,g1,_⟩:=dD (X:=X) d0;refine⟨_,rfl,.ref p,.ty "tuple",_,_,_,rfl,rfl,.of (.tup hp),Kd.tup.oH K,_,rfl,?_⟩;refine dJ ⟨_,rfl,p,_,rfl,.inr (cQ.of hp),rfl,_,rfl,?_⟩;refine yK rfl ?_;refine⟨_,rfl,p,_,_,_,rfl,rfl,cQ.of hp,rfl,_,rfl,.int _,_,rfl,?_⟩;refine dJ ⟨_,rfl,p,_,_,_,rfl,rfl,cQ.of hp,rfl,_,rfl,.int _,_,rfl,?_⟩;refine dJ ⟨_,rfl,p,_,_,_,rfl,rfl,cQ.of hp,rfl,_,_,rfl,rfl,_,rfl,?_⟩;rw[decide_eq_false (show ¬(tb X d<1) by omega)];refine dJ ?_;refine⟨_,rfl,p,_,_,_,rfl,rfl,cQ.of hp,rfl,_,rfl,p,_,_,_,rfl,rfl,cQ.of hp,rfl,_,_,rfl,(show 0<=tb X d by omega),rfl,?_⟩;show Q (V.bl (decide (V.int ((qBo (ta X d) (tb X d):Nat):Int)=V.int 1))) H;rw[g1,show decide (V.int ((1:Nat):Int)=V.int 1)=true from by decide];exact k
def GX:Sp:=fun vs H Q _=>∃(l:Addr) (n:Nat) (X:Nat->Int) (d:Int) (ws:List Addr),vs=[.ref l,.int (n:Int)]/\jA n X d H l ws/\0<d/\Q (.bl true) H
theorem GY:aQ ["_law_found","_law_many","_law_one"] ["_law_found","_law_many"] (aI Jv):=by constructor<;>first|rfl|decide +kernel
theorem Lc {f1:Addr}{fd1:qBk} (t:Tx K mg "_law_fractions" Jv ["_law_found","_law_many"] f fd) (T:T K mg AL LN FR iF fCh fGM fCC fCA fPL SE NN NG NT NR NS) (D_law_fraction:Df P w K mg base bY 2 "_law_fraction" ["_law_found"] GW f1 fd1) :
  Df P w K mg base bY 3 "_law_fractions" ["_law_found","_law_many"] GX f fd:=by
 refine t.gX GY (fun vs H Q E h=>?_) (fun cdv A outer s H vs Q E hr h=>?_)
 ·obtain⟨l,n,X,d,ws,rfl,_⟩:=h;rfl
 ·obtain⟨l,n,X,d,ws,rfl,fl,d0,k⟩:=h;refine⟨_,(aD (cF (PW.pt (pw_or (cL (cE (aL cZ (by rfl) T.fK fG (aA (pv 0) (aA (dO (v:=.ty "list") (by rfl) T.cN cX rfl) aB))))) (pw_or1 (aZ iZ (aL aO (by rfl) T.bZ bQ (aA (pv 0) aB)) (pv 1) (aY _))))) (aH (aU iS)) bH)
   (aD (c9 PassesOwn.never rfl (bO (pv 0)) (aN (i:=2) GY.nd rfl bR)
    (aH (cF (cL (cE (aW D_law_fraction hr (by decide) (by rfl) (aA (pv 2) aB)))) (aH (aU iS)) bH)))
   (aH (aU iS)))),?_⟩
  refine⟨_,rfl,.ref l,.ty "list",_,_,_,rfl,rfl,.of (.lst fl.hr),Kd.lst.p8 K,_,rfl,?_⟩;refine dJ ⟨_,rfl,l,_,rfl,.inl (aT.of fl.hr),_,rfl,rfl,_,rfl,?_⟩;refine yK (by rw[qAb,fl.len]) ?_;refine⟨_,rfl,l,rfl,⟨_,aT.of fl.hr⟩,?_⟩;refine dX (xs:=ws.map V.ref) (fun i σ H2=>H2=H/\∃o:Option V,σ=[some (.ref l),some (.int (n:Int)),o]) ⟨rfl,_,rfl⟩ (fun i σ H2 _ ⟨e,_⟩=>by rw[e];exact aT.of fl.hr) (fun i y σ H2 hy ⟨eH,o,eσ⟩=>?_) (fun σ H2 ⟨eH,o,eσ⟩=>?_)
  ·subst eH eσ;obtain⟨p,hp,rfl⟩:=cW hy;exact⟨_,rfl,p,_,d,rfl,fl.at_ i p hp,d0,_,rfl,dJ ⟨rfl,_,rfl⟩⟩
  ·subst eH;exact k
def GZ:Sp:=fun vs H Q _=>∃(l:Addr) (n:Nat) (X:Nat->Int) (d:Int) (ws:List Addr),vs=[.ref l]/\jA n X d H l ws/\0<d/\Sm 6000 d/\∀L,Gw n X d L->Q (.int L) H
theorem zZ:aQ ["_law_numbers","_law_low_here","_law_number_here"] ["_law_numbers"] (aI Jw):=by constructor<;>first|rfl|decide +kernel
theorem Ld {f1:Addr}{fd1:qBk} (t:Tx K mg "_law_low" Jw ["_law_numbers"] f fd) (T:T K mg AL LN FR iF fCh fGM fCC fCA fPL SE NN NG NT NR NS) (D_law_divisor:Df P w K mg base bY 1 "_law_divisor" ["_law_one","_law_other"] DW f1 fd1) :
  Df P w K mg base bY 2 "_law_low" ["_law_numbers"] GZ f fd:=by
 refine t.gX zZ (fun vs H Q E h=>?_) (fun cdv A outer s H vs Q E hr h=>?_)
 ·obtain⟨l,n,X,d,ws,rfl,_⟩:=h;rfl
 ·obtain⟨l,n,X,d,ws,rfl,fl,d0,sd,k⟩:=h;refine⟨_,(aD (aP (i:=1) zZ.nd rfl bR aE)
   (aD (c9 PassesOwn.never rfl (bO (pv 0)) (aN (i:=2) zZ.nd rfl bR)
    (aH (aP (i:=1) zZ.nd rfl bR (aR bM (aR gD (pv 1) (aW D_law_divisor hr (by decide) (by rfl) (aA (pv 1) (aA (aS bI (pv 2) aE (fun _ _=>rfl)) aB)))) (aS bI (pv 2) aE (fun _ _=>rfl))))))
   (aH (aU (pv 1))))),?_⟩
  refine⟨_,rfl,l,rfl,⟨_,aT.of fl.hr⟩,?_⟩;refine dX (xs:=ws.map V.ref) (fun i σ H2=>H2=H/\∃(L:Int) (o:Option V),σ=[some (.ref l),some (.int L),o]/\Gw i X d L) ⟨rfl,1,_,rfl,by decide,qPq _,fun j hj=>by omega⟩ (fun i σ H2 _ ⟨e,_⟩=>by rw[e];exact aT.of fl.hr) (fun i y σ H2 hy ⟨eH,L,o,eσ,lo⟩=>?_) (fun σ H2 ⟨eH,L,o,eσ,lo⟩=>?_)
  ·subst eH eσ;obtain⟨p,hp,rfl⟩:=cW hy;have hpt:=fl.at_ i p hp;obtain⟨_,y1,_,yd⟩:=dD (X:=X i) d0;have sL:Sm 6000 L:=sd.le (by have:=qEn d0 lo.dvd;have:=lo.pos;omega);have sb:=j5 (X:=X i) d0 sd;have g0:(qBo L (tb (X i) d):Int)≠0:=by
    have:=qGs (tb (X i) d) (show L≠0 by have:=lo.pos;omega);omega
   have sg:Sm 6000 ((qBo L (tb (X i) d):Nat):Int):=sL.le (by
    rw[qNk];exact qJe (by have:=lo.pos;omega) (qJx _ _))
   refine⟨_,rfl,_,rfl,_,rfl,p,_,_,_,rfl,rfl,cQ.of hpt,rfl,_,_,rfl,(show 0<=tb (X i) d by omega),?_⟩;refine⟨_,_,rfl,rfl,sg.db g0,_,rfl,p,_,_,_,rfl,rfl,cQ.of hpt,rfl,_,_,rfl,rfl,sL.fdiv.mb sb,rfl,_,_,rfl,vG d0 lo⟩
  ·subst eH eσ;rw[qAb,fl.len] at lo;exact⟨_,rfl,k L lo⟩
def Ha:Sp:=fun vs H Q _=>∃(l:Addr) (n:Nat) (X:Nat->Int) (d L:Int) (ws:List Addr),vs=[.ref l,.int L]/\jA n X d H l ws/\n<=100/\0<d/\Sm 6000 d/\(∀j,Sm 310000 (X j))/\Gw n X d L /\
 ∀(D:Addr) (H':Hp) (tt:Nat->Int),H D=none->aG H H'->H' D=some (.lst (bB n tt))->(∀j,j<n->tt j*d=X j*L)->(∀j,Sm 320000 (tt j))->Q (.ref D) H'
theorem Nr:aQ ["_law_numbers","_law_low_here"] ["_law_numbers","_law_low_here"] (aI Jx):=by constructor<;>first|rfl|decide +kernel
theorem Le (t:Tx K mg "_law_tops" Jx ["_law_numbers","_law_low_here"] f fd) (T:T K mg AL LN FR iF fCh fGM fCC fCA fPL SE NN NG NT NR NS):Df P w K mg base bY 1 "_law_tops" ["_law_numbers","_law_low_here"] Ha f fd:=by
 refine t.gX Nr (fun vs H Q E h=>?_) (fun cdv A outer s H vs Q E hr h=>?_)
 ·obtain⟨l,n,X,d,L,ws,rfl,_⟩:=h;rfl
 ·obtain⟨l,n,X,d,L,ws,rfl,fl,n1,d0,sd,sX,lo,k⟩:=h;refine⟨_,(aH (aU (bP (NB:=["_law_number_here","_law_low_here"]) (pick:=[none,some 1]) (bJ (by with_unfolding_all rfl) (by exact(And.intro rfl trivial)) rfl (by decide +kernel) (by decide +kernel) (by rfl) (by rfl)) rfl
     (bO (pv 0)) (fun _ _ _=>aN (i:=0) (show(["_law_number_here","_law_low_here"]:List Str).Nodup from by decide +kernel) rfl bR)
     (fun _ _ _=>bK) (fun _ _ _=>(aR bM (aS (fU K) (pv 0) aE (fun _ _=>rfl)) (aR gD (pv 1) (aS (fU K) (pv 0) aE (fun _ _=>rfl)))))))),?_⟩
  have sL:Sm 6000 L:=sd.le (by have:=qEn d0 lo.dvd;have:=lo.pos;omega);refine⟨_,rfl,l,rfl,⟨_,aT.of fl.hr⟩,?_⟩;refine cM (xs:=ws.map V.ref) (fun j _=>some (.int (ta (X j) d*L.fdiv (tb (X j) d)))) (aT.of fl.hr) (by rw[qAb,fl.len];exact qAn (aK (by omega))) (fun j y H2 kk kk0 s2 hy g1 g2=>?_) fun D H2 hD s2 hd=>?_
  ·obtain⟨p,hp,rfl⟩:=cW hy;have hpt:=s2 _ _ (fl.at_ j p hp);obtain⟨_,y1,_,yd⟩:=dD (X:=X j) d0;exact⟨_,rfl,p,_,_,_,rfl,rfl,cQ.of hpt,rfl,_,rfl,_,rfl,p,_,_,_,rfl,rfl,cQ.of hpt,rfl,_,_,rfl,rfl,(j5 (X:=X j) d0 sd).db (show tb (X j) d≠0 by omega),_,_,rfl,rfl,(lH (sX j)).mb sL.fdiv,g1 _ rfl _ (.refl _)⟩
  ·refine k D H2 (fun j=>ta (X j) d*L.fdiv (tb (X j) d)) hD s2 ?_ (fun j hj=>?_) fun j=>((lH (sX j)).mul sL.fdiv).mono (by decide)
   ·rw[hd,qAb,fl.len,lF _ (by rw[qAb,fl.len])];rfl
   ·obtain⟨e,y1,_,yd⟩:=dD (X:=X j) d0;obtain⟨c,hc⟩:=lo.all j hj;have e2:L.fdiv (tb (X j) d)=c:=by
     rw[hc];exact qCn _ (by omega)
    rw[e2,hc];generalize ta (X j) d=a at e;generalize tb (X j) d=b at e;grind
theorem Lf (g i:Nat):qEk ((g:Int)/2^i) 1=((g/2^i%2:Nat):Int):=by
 have e:(g:Int)/2^i=((g/2^i:Nat):Int):=by push_cast;rfl
 rw[e];show((g/2^i &&& 1:Nat):Int)=_;rw[Nat.and_one_is_mod]
theorem DX {a b:TS}{D:Ends}{σ:St}{H:Hp} (R:St->Hp->Prop) (h1:(∀σ' H',R σ' H'->b D σ' H')->a { D with nx:=b D } σ H) (h2:∀σ' H',R σ' H'->b D σ' H'):Ho a b D σ H:=h1 h2
def NI (n g:Nat) (w:Nat->Int):List Int:=(qAl n).filterMap fun i=>if g/2^i%2=1 then some (w i) else none
theorem Lg (n g:Nat) (w:Nat->Int):((qAl n).filterMap fun i=>if g/2^i%2=1 then some (V.int (w i)) else none)=(NI n g w).map V.int:=by
 unfold NI;rw[qGz];refine cU fun i _=>?_;split <;> rfl
theorem z6 (g:Nat) (w:Nat->Int):∀n,(NI n g w).sum=Wg.sm n fun i=>bt g i*w i
 | 0=>rfl
 | n+1=>by
  have ih:=z6 g w n;unfold NI at ih|-;rw[qBm,qCd,qGn,ih];show _=(Wg.sm n fun i=>bt g i*w i)+bt g n*w n;congr 1;rw[qCg,List.filterMap_nil];unfold bt;by_cases z:g/2^n%2=1
  ·rw[if_pos z,z];simp
  ·have z0:g/2^n%2=0:=by omega
   rw[if_neg z,z0];simp
def Hb (K:qAc):Sp:=fun vs H Q _=>∃(q:Addr) (n g:Nat) (w:Nat->Int),vs=[.ref q,.int (g:Int)]/\H q=some (.lst (bB n w))/\n<=60/\∀H',aG H H'->Q (.int (Wg.sm n fun i=>bt g i*w i)) H'
theorem Nt:aQ ["_law_tops_here","_law_group"] ["_law_tops_here","_law_group"] (aI Jz):=by constructor<;>first|rfl|decide +kernel
theorem Lh (t:Tx K mg "_law_share" Jz ["_law_tops_here","_law_group"] f fd) (T:T K mg AL LN FR iF fCh fGM fCC fCA fPL SE NN NG NT NR NS):Df P w K mg base bY 1 "_law_share" ["_law_tops_here","_law_group"] (Hb K) f fd:=by
 refine t.gX Nt (fun vs H Q E h=>?_) (fun cdv A outer s H vs Q E hr h=>?_)
 ·obtain⟨q,n,g,w',rfl,_⟩:=h;rfl
 ·obtain⟨q,n,g,w',rfl,hq,hn,k⟩:=h;refine⟨_,(aH (aU (aL (hZ rfl) (by rfl) T.j4 mC (aA (bP (NB:=["_law_hand","_law_group","_law_tops_here"]) (pick:=[none,some 1,some 0]) (bJ (by with_unfolding_all rfl) (by exact(And.intro rfl (And.intro rfl trivial))) rfl (by decide +kernel) (by decide +kernel) (by rfl) (by rfl)) rfl
     (cY (by rfl) T.cD (aA (aL aO (by rfl) T.bZ bQ (aA (pv 0) aB)) aB)) (fun _ _ _=>aN (i:=0) (show(["_law_hand","_law_group","_law_tops_here"]:List Str).Nodup from by decide +kernel) rfl bR)
     (fun _ _ _=>eW (aZ hJ (aR wB (aR HA (pv 1) (pv 0)) aE) aE (aY _))) (fun _ _ _=>(aS (bV K) (pv 2) (pv 0) (fun _ _=>rfl)))) aB)))),?_⟩
  refine⟨_,rfl,q,_,rfl,.inl (aT.of hq),?_⟩;rw[aJ];refine⟨n,rfl,by omega,by omega,?_⟩;refine gG (n:=n) (fun i=>if g/2^i%2=1 then some (V.int (w' i)) else none) (qAn (aK (by omega))) (fun i H2 kk kk0 s2 hi h1 h2=>?_) fun D H2 hD s2 hd=>?_
  ·rw[qDj (i:Int)];have eb:qEk ((g:Int)/2^(i:Int).toNat) 1=((g/2^i%2:Nat):Int):=by rw[qBi,Lf]
   refine⟨_,rfl,_,rfl,_,_,rfl,rfl,(by show 0<=(i:Int);omega),_,_,rfl,rfl,rfl,_,rfl,cP (fun h3=>?_) (fun h3=>h2 ?_ _ (.refl _))⟩
   ·have z:=V.int.inj (of_decide_eq_true h3);rw[eb] at z;exact⟨_,rfl,_,rfl,q,_,_,_,rfl,rfl,aT.of (s2 _ _ hq),bN hi,h1 _ (if_pos (by omega)) _ (.refl _)⟩
   ·refine if_neg fun z=>h3 ?_;show decide (V.int (qEk ((g:Int)/2^(i:Int).toNat) 1)=V.int 1)=true;rw[eb,z];rfl
  ·rw[Lg] at hd;refine⟨D,_,rfl,.inl (aT.of hd),?_⟩;rw[z6];exact k H2 s2
theorem vV {C:List Int}{j:Nat} (h:j<C.length):gC (C.map V.int) (j:Int)=some (.int (C.getD j 0)):=fJ (by rw[qAp,qAq,qAd h];rfl)
def DY (K:qAc):Sp:=fun vs H Q _=>∃(a:Addr) (ns:List Int) (k:Nat),vs=[.ref a,.int (k:Int)]/\aT K H a (ns.map V.int)/\∀c:Int,Q (.int c) H
theorem Nu:aQ ["_law_script","_law_k"] ["_law_script","_law_k"] (aI Jr):=by constructor<;>first|rfl|decide +kernel
theorem Li (t:Tx K mg "_law_cell" Jr ["_law_script","_law_k"] f fd) (T:T K mg AL LN FR iF fCh fGM fCC fCA fPL SE NN NG NT NR NS):Df P w K mg base bY 1 "_law_cell" ["_law_script","_law_k"] (DY K) f fd:=by
 refine t.gX Nu (fun vs H Q E h=>?_) (fun cdv A outer s H vs Q E hr h=>?_)
 ·obtain⟨a,ns,k,rfl,_⟩:=h;rfl
 ·obtain⟨a,ns,j,rfl,hq,k⟩:=h;refine⟨_,(aD (cF (aZ hU (pv 1) (aL aO (by rfl) T.bZ bQ (aA (pv 0) aB)) (aY _)) (aH (aU (aS a8 (pv 0) (pv 1) (fun _ _=>rfl)))) bH)
   (aH (aU aE))),?_⟩
  refine⟨_,rfl,_,rfl,a,_,rfl,.inl hq,_,_,rfl,rfl,_,rfl,cP (fun h=>?_) (fun _=>k 0)⟩;have hlt:j<ns.length:=by
   have z:=of_decide_eq_true h;rw[qAb] at z;omega
  exact⟨_,rfl,_,rfl,a,_,_,_,rfl,rfl,hq,vV hlt,k _⟩
def Hc:Sp:=fun vs H Q _=>∃c:Int,vs=[.int c]/\∀n:Int,Sm 64 n->Q (.int n) H
theorem Nv:aQ ["_law_cell_here"] ["_law_cell_here"] (aI Jy):=by constructor<;>first|rfl|decide +kernel
theorem Lj (t:Tx K mg "_law_number" Jy ["_law_cell_here"] f fd) (T:T K mg AL LN FR iF fCh fGM fCC fCA fPL SE NN NG NT NR NS):Df P w K mg base bY 1 "_law_number" ["_law_cell_here"] Hc f fd:=by
 refine t.gX Nv (fun vs H Q E h=>?_) (fun cdv A outer s H vs Q E hr h=>?_)
 ·obtain⟨c,rfl,_⟩:=h;rfl
 ·obtain⟨c,rfl,k⟩:=h;refine⟨_,(aD (cF (aZ hU (aR gB (pv 0) aE) aE (aY _)) (aH (aU (aR eU (aR gB (aR jF (pv 0) aE) aE) aE))) bH)
   (aD (cF (aZ hJ (aR gB (pv 0) aE) aE (aY _)) (aH (aU (aR eU (aR gB (aR jF (pv 0) aE) aE) aE))) bH)
   (aH (aU (aR eU (aR gB (aR Bo (aR jF (pv 0) aE) aE) (aR fP (aR Bo aE (aR Bp aE aE)) aE)) (aR Bp aE aE)))))),?_⟩
  refine⟨_,rfl,_,_,rfl,rfl,(by show(0:Int)<4;decide),_,_,rfl,rfl,_,rfl,cP (fun _=>?_) (fun _=>?_)⟩
  ·refine⟨_,rfl,_,_,rfl,rfl,⟨by decide,by decide⟩,_,_,rfl,rfl,(by show(0:Int)<7;decide),_,_,rfl,rfl,k _ ?_⟩;have h0:=qEr (c/4) (b:=7) (by decide);have h1:=qEo (c/4) (b:=7) (by decide);exact Sm.of 10 (by omega) (by decide)
  ·refine⟨_,rfl,_,_,rfl,rfl,(by show(0:Int)<4;decide),rfl,_,rfl,cP (fun _=>?_) (fun _=>?_)⟩
   ·refine⟨_,rfl,_,_,rfl,rfl,⟨by decide,by decide⟩,_,_,rfl,rfl,(by show(0:Int)<2001;decide),_,_,rfl,rfl,k _ ?_⟩;have h0:=qEr (c/4) (b:=2001) (by decide);have h1:=qEo (c/4) (b:=2001) (by decide);exact Sm.of 11 (by omega) (by decide)
   ·refine⟨_,rfl,_,_,rfl,rfl,⟨by decide,by decide⟩,_,_,rfl,rfl,.inr ⟨by decide,by decide⟩,?_⟩;refine⟨_,_,rfl,rfl,⟨by decide,by decide,by decide⟩,_,_,rfl,rfl,.inl ⟨by decide,by decide⟩,_,_,rfl,rfl,_,_,rfl,rfl,(by show(0:Int)<2*10^18+1;decide),_,_,rfl,rfl,⟨by decide,by decide,by decide⟩,_,_,rfl,rfl,k _ ?_⟩;have h0:=qEr (c/4*48271) (b:=2*10^18+1) (by decide);have h1:=qEo (c/4*48271) (b:=2*10^18+1) (by decide);show Sm 64 (c/4*48271%(2*10^18+1)-10^18);exact Sm.of 64 (by omega) (by decide)
theorem Lk {m n:Nat}{tb:Nat->Int}{H:Hp}{p:Addr}{R:VK}{E:XK} (m1:1<=m) (m6:m<=6) (hn:n=2^m) (h0:tb 0=0) (st:∀j,Sm 80000 (tb j)) (hp:H p=some (.lst (bB n tb))) (k:∀(R' lp lv lk:Addr) (H':Hp) (ps es kes:List Addr) (Z:Nat->Int) (d ev:Int) (ks:List Nat) (ds:List Int) (tl:List Nat),aG H H'->GU m tb H H' R' lp lv lk ps es kes Z d ev ks ds tl->R (.ref R') H'):DU K NT [.ref p] H R E:=by
 have n64:n<=64:=by rw[hn];exact xP m6
 refine⟨p,_,rfl,hp,qY,by rw[aJ];omega,fun no=>?_,fun _=>⟨m,n,tb,m1,m6,hn,rfl,st,k⟩⟩;rw[tM m1 m6 hn h0] at no;cases no
theorem xZ {n:Nat}{tb:Nat->Int}{g b:Nat}{v:Int} (h:∀j,Sm b (tb j)) (hv:Sm b v):∀j,Sm b (if j=g then v else tb j):=fun j=>by
 split
 ·exact hv
 ·exact h j
def Hd (K:qAc):Sp:=fun vs H Q _=>∃(a:Addr) (ns:List Int) (m:Nat),vs=[.ref a,.int (m:Int)]/\aT K H a (ns.map V.int)/\ns.length<=127/\2<=m/\m<=4/\∀(D:Addr) (H':Hp) (tb:Nat->Int),H D=none->aG H H'->H' D=some (.lst (bB (2^m) tb))->tb 0=0->(∀j,Sm 500 (tb j))->Q (.ref D) H'
theorem rH:aQ ["_law_script","_law_many","_law_table","_law_k","_law_at","_law_way","_law_last"] ["_law_script","_law_many"] (aI JA):=by constructor<;>first|rfl|decide +kernel
theorem Ll {f1 f2:Addr}{fd1 fd2:qBk} (t:Tx K mg "_law_drawn" JA ["_law_script","_law_many"] f fd) (T:T K mg AL LN FR iF fCh fGM fCC fCA fPL SE NN NG NT NR NS) (D_law_cell:Df P w K mg base bY 1 "_law_cell" ["_law_script","_law_k"] (DY K) f2 fd2) (D_law_number:Df P w K mg base bY 1 "_law_number" ["_law_cell_here"] Hc f1 fd1) :
  Df P w K mg base bY 2 "_law_drawn" ["_law_script","_law_many"] (Hd K) f fd:=by
 refine t.gX rH (fun vs H Q E h=>?_) (fun cdv A outer s H vs Q E hr h=>?_)
 ·obtain⟨a,ns,m,rfl,_⟩:=h;rfl
 ·obtain⟨a,ns,m,rfl,ha,hns,m2,m4,k⟩:=h;have n64:2^m<=64:=xP (by omega);have n2:4<=2^m:=qBx (n:=2) (i:=2) (by decide) (by omega);have e2:(1:Int)*2^((m:Nat):Int).toNat=((2^m:Nat):Int):=by rw[qBi,qCj];push_cast;rfl
  generalize hN:2^m=n at *;refine⟨_,(aD (aP (i:=2) rH.nd rfl (by first|exact .inl rfl|exact .inr rfl) (aR fQ (bU (aA aE aB)) (aR Hz aE (pv 1))))
   (aD (c9 PassesOwn.never rfl (jE (by rfl) T.cD (aA aE (aA (aL aO (by rfl) T.bZ bQ (aA (pv 0) aB)) aB))) (aN (i:=3) rH.nd rfl bR)
    (aD (aP (i:=4) rH.nd rfl bR (aR eU (aR eU (aL aO (by rfl) T.bZ bQ (aA (pv 2) aB)) aE) (aR gB (aR eU (pv 3) aE) (aR eU (aL aO (by rfl) T.bZ bQ (aA (pv 2) aB)) aE))))
    (aH (iJ (aR fP (aS a8 (pv 2) (pv 4) (fun _ _=>rfl)) (aW D_law_number hr (by decide) (by rfl) (aA (aS a8 (pv 0) (pv 3) (fun _ _=>rfl)) aB))) (iI (pv 2) (pv 4) set_list)))))
   (aD (aP (i:=5) rH.nd rfl bR (aR gB (aR jF (aW D_law_cell hr (by decide) (by rfl) (aA (pv 0) (aA aE aB))) aE) aE))
   (aD (aP (i:=6) rH.nd rfl (by first|exact .inl rfl|exact .inr rfl) (aR eU (aL aO (by rfl) T.bZ bQ (aA (pv 2) aB)) aE))
   (aD (cF (aZ hU (pv 5) aE (aY _)) (aD (iJ (aL (AK rfl) (by rfl) T.qR BU (aA (bP (NB:=["_law_group","_law_last","_law_table"]) (pick:=[none,some 6,some 2]) (bJ (by with_unfolding_all rfl) (by exact(And.intro rfl (And.intro rfl trivial))) rfl (by decide +kernel) (by decide +kernel) (by rfl) (by rfl)) rfl
     (jE (by rfl) T.cD (aA aE (aA (pv 6) aB))) (fun _ _ _=>aN (i:=0) (show(["_law_group","_law_last","_law_table"]:List Str).Nodup from by decide +kernel) rfl bR)
     (fun _ _ _=>bK) (fun _ _ _=>(aR fP (aS (bV K) (pv 2) (pv 0) (fun _ _=>rfl)) (aS (bV K) (pv 2) (aR eU (pv 1) (pv 0)) (fun _ _=>rfl))))) aB)) (iI (pv 2) (pv 6) set_list))
    (aH (iJ (aR fP (aS a8 (pv 2) (pv 6) (fun _ _=>rfl)) (aR gB (aR jF (aW D_law_cell hr (by decide) (by rfl) (aA (pv 0) (aA aE aB))) aE) aE)) (iI (pv 2) (pv 6) set_list)))) bH)
   (aD (cF (PW.pt (pw_and (aZ hJ (pv 5) aE (aY _)) (pw_and1 (aZ hJ (pv 1) aE (aY _))))) (aH (iJ (aL (Af rfl) (by rfl) T.qR BU (aA (aS a8 (pv 2) (pv 6) (fun _ _=>rfl)) (aA (aR jF (aR fP (aR fP (aR fP (aS a8 (pv 2) aE (fun _ _=>rfl)) (aS a8 (pv 2) aE (fun _ _=>rfl))) (aS a8 (pv 2) aE (fun _ _=>rfl))) aE) aE) aB))) (iI (pv 2) (pv 6) set_list))) bH)
   (aH (aU (pv 2))))))))),?_⟩
  refine⟨j6,fun a1 ha1=>?_⟩;have u1:=aG.aF (o:=.lst [.int 0]) ha1;have x1:upd H a1 (.lst [.int 0]) a1=some (.lst [.int 0]):=aC;generalize upd H a1 (.lst [.int 0])=H1 at u1 x1|-;refine⟨_,rfl,_,_,rfl,rfl,⟨by omega,by omega,by decide⟩,?_⟩;dsimp only;rw[e2];refine⟨a1,_,_,rfl,rfl,x1,by omega,by omega,?_,fun D hD=>?_⟩
  ·show 1*((n:Nat):Int).toNat<=qAj;exact qAn (aK (by omega))
  rw[qBi,fB];have u2:=aG.aF (o:=.lst (bB n fun _=>0)) hD;have x2:upd H1 D (.lst (bB n fun _=>0)) D=_:=aC;generalize upd H1 D (.lst (bB n fun _=>0))=H2 at u2 x2|-;have hD0:=u1.free hD;have s2:=u1.trans u2;refine⟨_,rfl,a,_,rfl,.inl (s2.seq ha),?_⟩;rw[qAb];refine⟨1,(ns.length:Int),rfl,⟨by omega,by omega,by omega,by omega⟩,?_⟩;refine lX (n:=((ns.length:Int)-1).toNat) (fun i σ H'=>aG H H'/\∃(tb:Nat->Int) (o3 o4:Option V),H' D=some (.lst (bB n tb))/\tb 0=0/\(∀j,Sm (64+i) (tb j))/\σ=[some (.ref a),some (.int (m:Int)),some (.ref D),o3,o4,none,none]) ⟨s2,fun _=>0,_,_,x2,rfl,fun _=>Sm.zero,rfl⟩ (fun i σ H' hi ⟨s',tb,o3,o4,hd,t0,ht,eσ⟩=>?_) (fun σ H' ⟨s',tb,o3,o4,hd,t0,ht,eσ⟩=>?_)
  ·subst eσ;refine⟨_,rfl,D,_,rfl,.inl (aT.of hd),_,_,rfl,rfl,_,rfl,_,_,rfl,rfl,_,rfl,D,_,rfl,.inl (aT.of hd),_,_,rfl,rfl,_,_,rfl,rfl,?_⟩;rw[aJ];refine⟨(by show(0:Int)<((n:Nat):Int)-1;omega),_,_,rfl,rfl,?_⟩;have q0:=qEr ((1:Int)+(i:Int)-1) (b:=((n:Nat):Int)-1) (by omega);have q1:=qEo ((1:Int)+(i:Int)-1) (b:=((n:Nat):Int)-1) (by omega);obtain⟨g,eg⟩:∃g:Nat,((n:Nat):Int)-1-((1:Int)+(i:Int)-1)%(((n:Nat):Int)-1)=(g:Int):=⟨_,(qDd (by omega)).symm⟩;try dsimp only
   rw[eg];have hg1:1<=g:=by omega
   have hgn:g<n:=by omega
   have hk:gC (ns.map V.int) ((1:Int)+(i:Int))=some (.int (ns.getD (1+i) 0)):=by
    have z:=vV (C:=ns) (j:=1+i) (by omega);rw[<- z];congr 1
   refine⟨_,rfl,_,rfl,D,_,_,_,rfl,rfl,aT.of hd,bN hgn,_,rfl,_,rfl,a,_,_,_,rfl,rfl,s'.seq ha,hk,_,rfl,fun nb snb=>⟨_,_,rfl,rfl,_,rfl,_,rfl,D,_,_,g,rfl,rfl,hd,(by rw[aJ];exact iN hgn),?_⟩⟩;refine⟨s'.upd_ne' hD0,_,_,_,by rw[aC,lD],?_,fun j=>?_,rfl⟩
   ·show(if 0=g then _ else tb 0)=0;rw[if_neg (by omega)];exact t0
   ·show Sm (64+(i+1)) (if j=g then tb g+nb else tb j);split
    ·exact(ht g).add (snb.mono (by omega))
    ·exact(ht j).mono (by omega)
  ·subst eσ;dsimp only;refine⟨_,rfl,a,ns,0,rfl,s'.seq ha,fun c0=>⟨_,_,rfl,rfl,⟨by decide,by decide⟩,_,_,rfl,rfl,(by show(0:Int)<4;decide),?_⟩⟩;dsimp only[aX];generalize c0/8%4=way;refine⟨_,rfl,D,_,rfl,.inl (aT.of hd),_,_,rfl,rfl,?_⟩;rw[aJ];dsimp only[aX];have ht:∀j,Sm 200 (tb j):=fun j=>(ht j).mono (by omega);have e1:((n:Nat):Int)-1=((n-1:Nat):Int):=by omega
   rw[e1];have hx:Bj n ((n-1:Nat):Int)=some (n-1):=iN (by omega);have hat:∀tb:Nat->Int,gC (bB n tb) ((n-1:Nat):Int)=some (.int (tb (n-1))):=fun tb=>bN (by omega);have z0:∀(tb:Nat->Int) (v:Int),tb 0=0->(if 0=n-1 then v else tb 0)=0:=fun tb v h=>by rw[if_neg (by omega)];exact h
   refine DX (fun σ H''=>aG H H''/\∃tb:Nat->Int,H'' D=some (.lst (bB n tb))/\tb 0=0/\(∀j,Sm 300 (tb j))/\σ=[some (.ref a),some (.int (m:Int)),some (.ref D),o3,o4,some (.int way),some (.int ((n-1:Nat):Int))]) (fun kk=>?_) ?_
   ·refine⟨_,rfl,_,_,rfl,rfl,_,rfl,cP (fun _=>?_) (fun _=>kk _ _ ⟨s',tb,hd,t0,fun j=>(ht j).mono (by decide),rfl⟩)⟩;refine⟨_,rfl,1,((n-1:Nat):Int),rfl,⟨by omega,by omega,by omega,by omega⟩,?_⟩;refine qC (n:=(((n-1:Nat):Int)-1).toNat) (fun i ys _=>∃vs:List Int,ys=vs.map V.int/\vs.length=i/\∀v,v∈vs->Sm 201 v) (fun _ _ _ _ _ h=>h) ⟨[],rfl,rfl,fun v hv=>by cases hv⟩ (qAn (aK (by omega))) (fun i H2 k1 k10 ys s2 hi iv g1 g2=>?_) fun D2 ys H2 hD2 s2 iv hd2=>?_
    ·obtain⟨vs,rfl,vl,sv⟩:=iv;have q1:gC (bB n tb) ((1:Int)+(i:Int))=some (.int (tb (1+i))):=by rw[show(1:Int)+(i:Int)=((1+i:Nat):Int) by omega];exact bN (by omega)
     have q2:gC (bB n tb) (((n-1:Nat):Int)-((1:Int)+(i:Int)))=some (.int (tb (n-1-(1+i)))):=by rw[show((n-1:Nat):Int)-((1:Int)+(i:Int))=((n-1-(1+i):Nat):Int) by omega];exact bN (by omega)
     refine⟨_,rfl,_,rfl,D,_,_,_,rfl,rfl,aT.of (s2 _ _ hd),q1,_,rfl,_,rfl,_,rfl,_,_,rfl,rfl,D,_,_,_,rfl,rfl,aT.of (s2 _ _ hd),q2,_,_,rfl,rfl,g1 _ _ (.refl _) ⟨vs++[_],by rw[qAt];rfl,by rw[qAo,vl];rfl,fun y hy=>?_⟩⟩;rcases List.mem_append.mp hy with z | z
     ·exact sv y z
     ·rw[List.mem_singleton.mp z];exact(ht _).add (ht _)
    obtain⟨vs,rfl,vl,sv⟩:=iv;refine⟨D2,vs,rfl,aT.of hd2,by omega,fun M hM=>⟨_,rfl,_,rfl,D,_,_,n-1,rfl,rfl,s2 _ _ hd,(by rw[aJ];exact hx),?_⟩⟩;rw[lD];have s3:=(s'.trans s2).upd_ne' (o:=.lst (bB n fun j=>if j=n-1 then M else tb j)) hD0;have x3:upd H2 D (.lst (bB n fun j=>if j=n-1 then M else tb j)) D=_:=aC;generalize upd H2 D (.lst (bB n fun j=>if j=n-1 then M else tb j))=H3 at s3 x3|-;have ht3:∀j,Sm 201 (if j=n-1 then M else tb j):=xZ (n:=n) (fun j=>(ht j).mono (by decide)) (sv M hM);refine⟨_,rfl,_,rfl,D,_,_,_,rfl,rfl,aT.of x3,hat _,_,rfl,a,ns,0,rfl,s3.seq ha,fun c=>⟨_,_,rfl,rfl,⟨by decide,by decide⟩,_,_,rfl,rfl,(by show(0:Int)<13;decide),_,_,rfl,rfl,_,rfl,_,rfl,D,_,_,n-1,rfl,rfl,x3,(by rw[aJ];exact hx),?_⟩⟩;have c3:=qEr (c/32) (b:=13) (by decide);have c4:=qEo (c/32) (b:=13) (by decide);refine kk _ _ ⟨s3.upd_ne' hD0,_,by rw[aC,lD],z0 (fun j=>if j=n-1 then M else tb j) _ (z0 tb M t0),xZ (n:=n) (fun j=>(ht3 j).mono (by decide)) ?_,rfl⟩;exact((ht3 _).add (Sm.of 64 (by omega) (by decide))).mono (by decide)
   ·rintro σ H'' ⟨s3,tb,hd,t0,ht,rfl⟩;refine DX (fun σ H''=>aG H H''/\∃tb:Nat->Int,H'' D=some (.lst (bB n tb))/\tb 0=0/\(∀j,Sm 500 (tb j))/\σ=[some (.ref a),some (.int (m:Int)),some (.ref D),o3,o4,some (.int way),some (.int ((n-1:Nat):Int))]) (fun kk=>?_) ?_
    ·refine⟨_,rfl,rfl,_,rfl,cP (fun _=>?_) (fun _=>dJ (kk _ _ ⟨s3,tb,hd,t0,fun j=>(ht j).mono (by decide),rfl⟩))⟩;refine⟨_,rfl,rfl,_,rfl,cP (fun hm=>?_) (fun _=>kk _ _ ⟨s3,tb,hd,t0,fun j=>(ht j).mono (by decide),rfl⟩)⟩;have hm:(m:Int)=3:=V.int.inj (of_decide_eq_true hm);have h8:n=8:=by rw[<- hN,show m=3 by omega]
     have at3:gC (bB n tb) 3=some (.int (tb 3)):=bN (j:=3) (by omega);have at5:gC (bB n tb) 5=some (.int (tb 5)):=bN (j:=5) (by omega);have at6:gC (bB n tb) 6=some (.int (tb 6)):=bN (j:=6) (by omega);refine⟨_,rfl,_,rfl,D,_,_,_,rfl,rfl,aT.of hd,hat _,_,rfl,D,_,_,_,rfl,rfl,aT.of hd,at3,_,rfl,D,_,_,_,rfl,rfl,aT.of hd,at5,_,_,rfl,rfl,_,rfl,D,_,_,_,rfl,rfl,aT.of hd,at6,_,_,rfl,rfl,_,_,rfl,rfl,_,_,rfl,rfl,⟨by decide,by decide⟩,_,_,rfl,_,rfl,_,rfl,D,_,_,n-1,rfl,rfl,hd,(by rw[aJ];exact hx),?_⟩;refine kk _ _ ⟨s3.upd_ne' hD0,_,by rw[aC,lD],z0 _ _ t0,xZ (n:=n) (fun j=>(ht j).mono (by decide)) ?_,rfl⟩;have sS:=Sm.add (a:=302) (((ht 3).add (ht 5)).add ((ht 6).mono (by decide))) (Sm.of (i:=1) 2 (by decide) (by decide));split
     ·refine Sm.mono (a:=303) (Sm.le sS ?_) (by decide);generalize tb 3+tb 5+tb 6+1=u;omega
     ·exact(ht _).mono (by decide)
    ·rintro σ H4 ⟨s4,tb,hd,t0,ht,rfl⟩;exact⟨_,rfl,k D H4 tb hD0 s4 hd t0 ht⟩
theorem DZ {m n:Nat}{tb Y T:Nat->Int}{d L:Int} (h0:tb 0=0) (n1:1<=n) (e:∀g,g<n->((Wg.sm m fun i=>bt g i*T i)<tb g*L↔(Wg.sm m fun i=>bt g i*Y i)<tb g*d)):((qAl ((n:Int)-1).toNat).filterMap fun i=>if (Wg.sm m fun h=>bt (1+i) h*T h)<tb (1+i)*L then some ((1:Int)+(i:Int)) else none)=lJ m n tb Y d:=by
 obtain⟨k,rfl⟩:∃k,n=k+1:=⟨n-1,by omega⟩;unfold lJ;rw[show(((k+1:Nat):Int)-1).toNat=k by omega,qHu,qCg];have z:¬(Wg.sm m fun i=>bt 0 i*Y i)<tb 0*d:=by
  rw[h0,qBc,Wg.bX fun i _=>by unfold bt;rw[qLz];exact qBc _];omega
 rw[if_neg z,qHb];refine cU fun i hi=>?_;have hi:=List.mem_range.mp hi;have q:=e (1+i) (by omega);show(if _ then _ else _)=if (Wg.sm m fun h=>bt (i+1) h*Y h)<tb (i+1)*d then some ((i+1:Nat):Int) else none;rw[qIe 1 i] at q|-;by_cases u:(Wg.sm m fun h=>bt (i+1) h*T h)<tb (i+1)*L
 ·rw[if_pos u,if_pos (q.mp u)];congr 1;omega
 ·rw[if_neg u,if_neg fun v=>u (q.mpr v)]
theorem vW {m n:Nat}{tb Y:Nat->Int}{d:Int}:lJ m n tb Y d=[]↔∀g,g<n->tb g*d<=Wg.sm m fun i=>bt g i*Y i:=by
 unfold lJ;rw[List.filterMap_eq_nil_iff];refine⟨fun h g hg=>?_,fun h g hg=>?_⟩
 ·have z:=h g (List.mem_range.mpr hg);refine Int.not_lt.mp fun u=>?_;rw[if_pos u] at z;cases z
 ·have:=h g (List.mem_range.mp hg);exact if_neg (by omega)
theorem FK {m n:Nat}{tb X Z:Nat->Int}{d' d:Int} (m6:m<=6) (hn:n=2^m) (d0:0<d) (h:Nc m n tb d' X) (all:Cm.pt m bt Z (2^m-1)=tb (2^m-1)*d) (no:∀g,g<n->tb g*d<=Wg.sm m fun i=>bt g i*Z i):False:=by
 have n0:0<n:=by rw[hn];exact qEq m
 have a1:(Wg.sm (n-1) fun j=>tb (j+1)*X j*d)<=Wg.sm (n-1) fun j=>Wg.sm m fun i=>bt (j+1) i*Z i*X j:=by
  refine Wg.qH fun j hj=>?_;have z:=qCe (no (j+1) (by omega)) (h.x0 j);rw[show tb (j+1)*X j*d=tb (j+1)*d*X j by grind];refine qIf z (qFq ?_);rw[qCr,<- Wg.bE];exact Wg.aV fun i _=>by grind
 rw[Wg.jJ] at a1;have a2:(Wg.sm m fun i=>Wg.sm (n-1) fun j=>bt (j+1) i*Z i*X j)=tb (n-1)*d*d':=by
  rw[hn,<- all];unfold Cm.pt;rw[iD m6,qCr,<- Wg.bE];refine Wg.aV fun i hi=>?_;rw[<- h.dG i hi,qCr,<- Wg.bE,hn];exact Wg.aV fun j _=>by grind
 have a3:(Wg.sm (n-1) fun j=>tb (j+1)*X j*d)=d*Wg.sm (n-1) fun j=>tb (j+1)*X j:=by
  rw[<- Wg.bE];exact Wg.aV fun j _=>by grind
 rw[a2,a3] at a1;have z:=Int.mul_lt_mul_of_pos_left h.more d0;rw[show tb (n-1)*d*d'=d*(tb (n-1)*d') by grind] at a1;omega
theorem Ea {m n:Nat}{tb Z:Nat->Int}{H0 H:Hp}{r:Addr}{d ev:Int}{ks:List Nat} (m1:1<=m) (m6:m<=6) (hn:n=2^m) (t0:tb 0=0) (told:vK m n tb H0 H r) (h:mQ m tb ks Z d ev) (fr:cV m ks=[]):∃(w:Str) (v:V),H r=some (.tup [.str w,v])/\decide (V.str w=V.str "shares")=decide (lJ m n tb Z d=[]):=by
 have n0:=qEq m;rcases told with ⟨lp,ps,d',Y,e,_,_,s⟩ | ⟨lz,ys,d',X,e,_,_,_,s⟩
 ·refine⟨_,_,e,?_⟩;have b:=h.best fr s.d0 (z:=Y) (by show(Wg.sm m fun i=>bt (2^m-1) i*Y i)=_;rw[iD m6,s.all,hn]) fun g pg=>s.no g (by have:=pg.2;omega);rw[decide_eq_true rfl,decide_eq_true];refine vW.mpr fun g hg=>?_;rcases(show g=0\/g=2^m-1\/Pr m g from by unfold Pr;omega) with rfl | rfl | z
  ·rw[t0,qBc,Wg.bX fun i _=>by unfold bt;rw[qLz];exact qBc _];exact qCv _
  ·exact qFq h.whole.symm
  ·exact b g z
 ·refine⟨_,_,e,?_⟩;rw[decide_eq_false (fun no=>(FK m6 hn h.d0 s h.whole (vW.mp no)).elim)];decide
def z7 (K:qAc):Sp:=fun vs H Q _=>∃(a:Addr) (ns:List Int),vs=[.ref a]/\aT K H a (ns.map V.int)/\ns.length<=63/\∀H',Q (.bl true) H'
theorem lR:aQ ["_law_script","_law_many","_law_table","_law_told","_law_shares","_law_low_here","_law_tops_here","_law_due","_law_found"] ["_law_script"] (aI JB):=by constructor<;>first|rfl|decide +kernel
theorem Lm {f1 f2 f3 f4 f5 f6 f7 f8 f9:Addr}{fd1 fd2 fd3 fd4 fd5 fd6 fd7 fd8 fd9:qBk} (t:Tx K mg "law" JB ["_law_script"] f fd) (T:T K mg AL LN FR iF fCh fGM fCC fCA fPL SE NN NG NT NR NS) (D_law_cell:Df P w K mg base bY 1 "_law_cell" ["_law_script","_law_k"] (DY K) f1 fd1) (D_law_drawn:Df P w K mg base bY 2 "_law_drawn" ["_law_script","_law_many"] (Hd K) f2 fd2) (D_stable:Df P w K mg base (g6 P w) 6 "stable" ["table"] (Gz K NT) f3 fd3) (D_calm:Df P w K mg base (g6 P w) 8 "calm" ["table"] (DU K NT) f4 fd4) (D_law_fractions:Df P w K mg base bY 3 "_law_fractions" ["_law_found","_law_many"] GX f5 fd5) (D_law_low:Df P w K mg base bY 2 "_law_low" ["_law_numbers"] GZ f6 fd6) (D_law_tops:Df P w K mg base bY 1 "_law_tops" ["_law_numbers","_law_low_here"] Ha f7 fd7) (D_law_share:Df P w K mg base bY 1 "_law_share" ["_law_tops_here","_law_group"] (Hb K) f8 fd8) (D_bettering:Df P w K mg base (g6 P w) 6 "bettering" ["table","shares"] (GF K) f9 fd9) :
  Df P w K mg base bY 10 "law" ["_law_script"] (z7 K) f fd:=by
 refine t.gX lR (fun vs H Q E h=>?_) (fun cdv _A outer s H vs Q E hr h=>?_)
 ·obtain⟨a,ns,rfl,_⟩:=h;rfl
 ·obtain⟨a,ns,rfl,hq,hns,k⟩:=h;refine⟨_,(aD (aP (i:=1) lR.nd rfl bR (aS a8 (bU (aA aE (aA aE (aA aE (aA aE (aA aE (aA aE (aA aE (aA aE aB))))))))) (aR gB (aW D_law_cell hr (by decide) (by rfl) (aA (pv 0) (aA aE aB))) aE) (fun _ _=>rfl)))
   (aD (aP (i:=2) lR.nd rfl (by first|exact .inl rfl|exact .inr rfl) (aW D_law_drawn hr (by decide) (by rfl) (aA (pv 0) (aA (pv 1) aB))))
   (aD (aP (i:=3) lR.nd rfl bR (dR cA D_stable hr (by decide) (by rfl) (aA (eO fT (by rfl) T.cN cX (aA (pv 2) aB)) aB)))
   (aD (aP (i:=4) lR.nd rfl bR (aS bI (dR cA D_calm hr (by decide) (by rfl) (aA (eO fT (by rfl) T.cN cX (aA (pv 2) aB)) aB)) aE (fun _ _=>rfl)))
   (aD (cF (PW.pt (pw_or (cL (cE (aL cZ (by rfl) T.fK fG (aA (pv 3) (aA (dO (v:=.ty "tuple") (by rfl) T.iM oG rfl) aB))))) (pw_or1 (cL (cE (aW D_law_fractions hr (by decide) (by rfl) (aA (pv 4) (aA (pv 1) aB)))))))) (aH (aU iS)) bH)
   (aD (aP (i:=5) lR.nd rfl (by first|exact .inl rfl|exact .inr rfl) (aW D_law_low hr (by decide) (by rfl) (aA (pv 4) aB)))
   (aD (aP (i:=6) lR.nd rfl (by first|exact .inl rfl|exact .inr rfl) (aW D_law_tops hr (by decide) (by rfl) (aA (pv 4) (aA (pv 5) aB))))
   (aD (eB (NB:=["_law_group","_law_low_here","_law_table","_law_tops_here"]) (pick:=[none,some 5,some 2,some 6]) (i:=7) lR.nd rfl bR (by rfl) (bJ (by with_unfolding_all rfl) (by exact(And.intro rfl (And.intro rfl (And.intro rfl trivial)))) rfl (by decide +kernel) (by decide +kernel) (by rfl) (by rfl)) rfl
     (jE (by rfl) T.cD (aA aE (aA (aL aO (by rfl) T.bZ bQ (aA (pv 2) aB)) aB))) (fun _ _ _=>aN (i:=0) (show(["_law_group","_law_low_here","_law_table","_law_tops_here"]:List Str).Nodup from by decide +kernel) rfl bR)
     (fun _ _ _=>eW (aZ hU (aW D_law_share hr (by decide) (by rfl) (aA (pv 3) (aA (pv 0) aB))) (aR bM (aS (bV K) (pv 2) (pv 0) (fun _ _=>rfl)) (pv 1)) (aY _))) (fun _ _ _=>(pv 0)))
   (aD (aP (i:=8) lR.nd rfl bR (dR cA D_bettering hr (by decide) (by rfl) (aA (eO fT (by rfl) T.cN cX (aA (pv 2) aB)) (aA (eO fT (by rfl) T.cN cX (aA (pv 4) aB)) aB))))
   (aH (aU (iU (aL cZ (by rfl) T.fK fG (aA (pv 8) (aA (dO (v:=.ty "list") (by rfl) T.cN cX rfl) aB))) (iU (dA (BK hr.units) (pv 8) (pv 7) (aY _)) (iT (dA hJ (dA hJ (aS bI (pv 3) aE (fun _ _=>rfl)) eJ (aY _)) (dA (BK hr.units) (pv 7) (bU aB) (aY _)) (aY _)))))))))))))))),?_⟩
  refine⟨by show 8<=qAj;decide,fun a0 ha0=>?_⟩;have u0:=aG.aF (o:=.lst [.int 2,.int 3,.int 3,.int 3,.int 3,.int 3,.int 3,.int 4]) ha0;have x0:upd H a0 (.lst [.int 2,.int 3,.int 3,.int 3,.int 3,.int 3,.int 3,.int 4]) a0=_:=aC;generalize upd H a0 (.lst [.int 2,.int 3,.int 3,.int 3,.int 3,.int 3,.int 3,.int 4])=H0 at u0 x0|-;refine⟨_,rfl,a,ns,0,rfl,u0.seq hq,fun c0=>⟨_,_,rfl,rfl,(by show(0:Int)<8;decide),?_⟩⟩;have b0:=qEr c0 (b:=8) (by decide);have b1:=qEo c0 (b:=8) (by decide);obtain⟨j,hj⟩:∃j:Nat,c0%8=(j:Int):=⟨_,(qDd b0).symm⟩;obtain⟨m,m2,m4,hm⟩:∃m:Nat,2<=m/\m<=4/\gC [V.int 2,.int 3,.int 3,.int 3,.int 3,.int 3,.int 3,.int 4] (j:Int)=some (.int (m:Int)):=by
   have hj8:j<8:=by omega
   match j,hj8 with
   | 0,_=>exact⟨2,by decide,by decide,rfl⟩
   | 1,_=>exact⟨3,by decide,by decide,rfl⟩
   | 2,_=>exact⟨3,by decide,by decide,rfl⟩
   | 3,_=>exact⟨3,by decide,by decide,rfl⟩
   | 4,_=>exact⟨3,by decide,by decide,rfl⟩
   | 5,_=>exact⟨3,by decide,by decide,rfl⟩
   | 6,_=>exact⟨3,by decide,by decide,rfl⟩
   | 7,_=>exact⟨4,by decide,by decide,rfl⟩
  dsimp only;rw[hj];refine⟨a0,_,_,_,rfl,rfl,aT.of x0,hm,?_⟩;dsimp only[aX];refine⟨_,rfl,_,rfl,a,ns,m,rfl,u0.seq hq,by omega,m2,m4,fun D H1 tb hD s1 hd t0 st=>?_⟩;dsimp only[aX];obtain⟨n,hN⟩:∃n,n=2^m:=⟨_,rfl⟩;rw[<- hN] at hd;have n64:n<=64:=by rw[hN];exact xP (by omega)
  refine⟨_,rfl,D,_,rfl,.inl (aT.of hd),fun l1 hl1=>?_⟩;have u1:=aG.aF (o:=.lst (bB n tb)) hl1;have e1:upd H1 l1 (.lst (bB n tb)) l1=_:=aC;generalize upd H1 l1 (.lst (bB n tb))=H2 at u1 e1|-;have yes:=tM (by omega) (by omega) hN t0;dsimp only[iK,qCl,qCm];refine⟨l1,_,rfl,e1,qY,by rw[aJ];omega,(fun e=>by rw[yes] at e;cases e),fun _=>⟨m,n,tb,by omega,by omega,hN,rfl,t0,fun j=>(st j).mono (by decide),fun r H3 s3 told=>?_⟩⟩;dsimp only[aX];have hd3:=s3 _ _ (u1 _ _ hd);refine⟨_,rfl,D,_,rfl,.inl (aT.of hd3),fun l2 hl2=>?_⟩;have u2:=aG.aF (o:=.lst (bB n tb)) hl2;have e2:upd H3 l2 (.lst (bB n tb)) l2=_:=aC;generalize upd H3 l2 (.lst (bB n tb))=H4 at u2 e2|-;dsimp only[iK,qCl,qCm];refine Lk (m:=m) (n:=n) (tb:=tb) (by omega) (by omega) hN t0 (fun j=>(st j).mono (by decide)) e2 fun R lp lv lk H5 ps es kes Z d ev ks ds tl s5 c=>?_;have a0':gC [V.ref lp,V.ref lv,V.ref lk] 0=some (.ref lp):=rfl;refine⟨R,_,_,_,rfl,rfl,cQ.of c.tup,a0',?_⟩;dsimp only[aX];have told:=told.same (u2.trans s5);have hd5:=s5 _ _ (u2 _ _ hd3);have d0:=c.cst.d0;have kl:2*ks.length<=64:=by have:=c.cst.cnt;omega
  have sZ:∀i,Sm 90000 (Z i):=fun i=>(c.cst.sZ i).mono (by omega);have sd:Sm 1000 d:=c.cst.sd.mono (by omega);obtain⟨w0,rest,hw0,ew⟩:=Ea (by omega) (by omega) hN t0 told c.cst c.fe;refine⟨_,rfl,.ref r,.ty "tuple",_,_,_,rfl,rfl,.of (.tup hw0),Kd.tup.oH K,_,rfl,dJ ⟨_,rfl,_,rfl,lp,m,Z,d,ps,rfl,c.fl,d0,_,rfl,dJ ?_⟩⟩;dsimp only[FL];refine⟨_,rfl,lp,m,Z,d,ps,rfl,c.fl,d0,sd.mono (by decide),fun L low=>?_⟩;dsimp only[aX];refine⟨_,rfl,_,rfl,lp,m,Z,d,L,ps,rfl,c.fl,by omega,d0,sd.mono (by decide),fun j=>(sZ j).mono (by decide),low,fun Dt H6 tt hDt s6 hdt ett stt=>?_⟩;dsimp only[aX];have L0:=low.pos;have sL:Sm 1000 L:=Sm.le sd (by have:=qEn d0 low.dvd;omega);have hd6:=s6 _ _ hd5;refine⟨_,rfl,D,_,rfl,.inl (aT.of hd6),?_⟩;rw[aJ];refine⟨1,(n:Int),rfl,⟨by omega,by omega,by omega,by omega⟩,?_⟩;refine gG (n:=((n:Int)-1).toNat) (fun i=>if (Wg.sm m fun h=>bt (1+i) h*tt h)<tb (1+i)*L then some (V.int ((1:Int)+(i:Int))) else none) (qAn (aK (by omega))) (fun i H7 kk kk0 s7 hi h1 h2=>?_) fun Dd H7 hDd s7 hdd=>?_
  ·have e1i:(1:Int)+(i:Int)=((1+i:Nat):Int):=by omega
   have q1:gC (bB n tb) ((1:Int)+(i:Int))=some (.int (tb (1+i))):=by rw[e1i];exact bN (by omega)
   refine⟨_,rfl,_,rfl,Dt,m,1+i,tt,by rw[<- e1i];rfl,s7 _ _ hdt,by omega,fun H8 s8=>⟨_,rfl,_,rfl,D,_,_,_,rfl,rfl,aT.of (s8 _ _ (s7 _ _ hd6)),q1,_,rfl,_,_,rfl,rfl,(st _).mb sL,_,_,rfl,rfl,_,rfl,cP (fun z=>?_) (fun z=>?_)⟩⟩
   ·exact⟨_,rfl,h1 _ (if_pos (of_decide_eq_true z)) _ s8⟩
   ·exact h2 (if_neg fun q=>z (decide_eq_true q)) _ s8
  have edd:((qAl ((n:Int)-1).toNat).filterMap fun i=>if (Wg.sm m fun h=>bt (1+i) h*tt h)<tb (1+i)*L then some (V.int ((1:Int)+(i:Int))) else none)=(lJ m n tb Z d).map V.int:=by
   rw[<- DZ (T:=tt) (L:=L) t0 (by rw[hN];exact qEq m) fun g hg=>?_,qGz]
   ·refine cU fun i _=>?_;split <;> rfl
   ·have es:(Wg.sm m fun i=>bt g i*tt i)*d=(Wg.sm m fun i=>bt g i*Z i)*L:=by
     rw[qCr,<- Wg.bE,qCr _ L,<- Wg.bE];exact Wg.aV fun i hi=>by have:=ett i hi;grind
    generalize (Wg.sm m fun i=>bt g i*tt i)=S at es|-;generalize (Wg.sm m fun i=>bt g i*Z i)=S' at es|-;refine⟨fun h=>?_,fun h=>?_⟩
    ·have z:=qCu h d0;rw[es,show tb g*L*d=tb g*d*L by grind] at z;exact qEj z (by omega)
    ·have z:=qCu h L0;rw[<- es,show tb g*d*L=tb g*L*d by grind] at z;exact qEj z (by omega)
  rw[edd] at hdd;dsimp only;have s57:=s6.trans s7;have fl7:=c.fl.same s57;refine⟨_,rfl,D,_,rfl,.inl (aT.of (s7 _ _ hd6)),fun l8 hl8=>?_⟩;have u8:=aG.aF (o:=.lst (bB n tb)) hl8;have e8:upd H7 l8 (.lst (bB n tb)) l8=_:=aC;generalize upd H7 l8 (.lst (bB n tb))=H8 at u8 e8|-;have fl8:=fl7.same u8;refine⟨_,rfl,lp,_,rfl,.inl (aT.of fl8.hr),fun l9 hl9=>?_⟩;have u9:=aG.aF (o:=.lst (ps.map V.ref)) hl9;have e9:upd H8 l9 (.lst (ps.map V.ref)) l9=_:=aC;generalize upd H8 l9 (.lst (ps.map V.ref))=H9 at u9 e9|-;have fl9:=fl8.same u9;dsimp only[iK,qCl,qCm];refine⟨l8,l9,m,n,tb,Z,d,ps,rfl,u9 _ _ e8,by omega,by omega,hN,t0,fun j=>(st j).mono (by decide),⟨e9,fl9.len,fl9.at_⟩,d0,sd.mono (by decide),fun j=>(sZ j).mono (by decide),fun Df H10 hDf s10 hdf=>?_⟩;dsimp only[aX];have s710:=u8.trans (u9.trans s10);refine⟨_,rfl,.ref Df,.ty "list",_,_,_,rfl,rfl,.of (.lst hdf),Kd.lst.p8 K,?_⟩;refine⟨_,rfl,eV ⟨_,rfl,_,rfl,Df,Dd,lJ m n tb Z d,lJ m n tb Z d,rfl,rfl,aT.of hdf,aT.of (s710 _ _ hdd),_,rfl,?_⟩⟩;show if decide (lJ m n tb Z d=lJ m n tb Z d)=true then _ else _;rw[decide_eq_true rfl];refine eV ⟨_,rfl,r,_,_,_,rfl,rfl,cQ.of (s710 _ _ (s57 _ _ hw0)),rfl,rfl,_,rfl,by show 0<=qAj;decide,fun l11 hl11=>?_⟩;have u11:=aG.aF (o:=.lst []) hl11;have e11:upd H10 l11 (.lst []) l11=_:=aC;generalize upd H10 l11 (.lst [])=H11 at u11 e11|-;refine⟨Dd,l11,lJ m n tb Z d,[],rfl,rfl,aT.of (u11 _ _ (s710 _ _ hdd)),aT.of e11,rfl,?_⟩;have z:∀b c:Bool,b=c->Q (.bl (decide (V.bl b=V.bl c))) H11:=fun b c e=>by rw[e,decide_eq_true rfl];exact k _
  exact z _ _ ew
end
end K46
namespace PySem.W.Fast
def tw16250633836836865029:Unit:=()
def tw9933244938183370929:Unit:=()
def tw15092302036912759361:Unit:=()
def tw12929412918535343111:Unit:=()
def tw9262687566879360576:Unit:=()
def tw5044206240660805104:Unit:=()
def tw7710328562741685674:Unit:=()
def tw10815746855388877601:Unit:=()
def tw1396148966309919239:Unit:=()
def tw17681482121440604088:Unit:=()
def tw15767595052771637665:Unit:=()
def tw16793838757897388142:Unit:=()
def tw1951562895608527859:Unit:=()
def tw15091863548169889575:Unit:=()
def tw9051785206563997063:Unit:=()
def tw3946944747126089848:Unit:=()
def tw9052417475181098470:Unit:=()
def tw16293350294331912780:Unit:=()
def tw16384054628836203526:Unit:=()
def tw5141790655135267334:Unit:=()
def tw2622497492279834063:Unit:=()
def tw5397059541008670922:Unit:=()
def tw3212944102758002985:Unit:=()
def tw8221301816231548556:Unit:=()
def tw1287672296949904981:Unit:=()
def tw3596246045310006871:Unit:=()
def tw13974456293438169050:Unit:=()
def tw9492215042588531150:Unit:=()
def tw8728890805840065552:Unit:=()
def tw3285704758251524674:Unit:=()
def tw17837379428029764667:Unit:=()
def tw10324594785016240609:Unit:=()
def tw15127236501690978510:Unit:=()
def tw13476742361321388533:Unit:=()
def tw5400402338753550785:Unit:=()
def tw4260689606345877424:Unit:=()
def tw17596888652109700231:Unit:=()
def tw1665593471211346115:Unit:=()
def tw512726356134566445:Unit:=()
def tw9047163641297906184:Unit:=()
def tw5312692426131447282:Unit:=()
def tw16675982777353642655:Unit:=()
def tw779864142272916860:Unit:=()
def tw8030609574396690265:Unit:=()
def tw4517642119809081478:Unit:=()
def tw8154867645918510877:Unit:=()
def tw1267351308542750504:Unit:=()
def tw17804404636211318065:Unit:=()
def tw3564658308061365766:Unit:=()
def tw5135177372132428217:Unit:=()
def tw11359168928170707681:Unit:=()
def tw9330839335763050:Unit:=()
def tw17528617224255761807:Unit:=()
def tw12131410394719424799:Unit:=()
def tw13049469141447834466:Unit:=()
def tw3800050050600649844:Unit:=()
def tw12644778769392624991:Unit:=()
def tw11382560572955282238:Unit:=()
def tw3511262678154051676:Unit:=()
def tw1492897738359440691:Unit:=()
def tw179314076133263699:Unit:=()
def tw6073978375717123350:Unit:=()
def tw4299941367851347454:Unit:=()
def tw1971888226608273126:Unit:=()
def tw7025717237309501081:Unit:=()
def tw12919986339476343524:Unit:=()
def tw6672299279517230151:Unit:=()
def tw7986507872767630125:Unit:=()
def tw14407084667783064516:Unit:=()
def tw11668974185432883276:Unit:=()
def tw12592306099081865874:Unit:=()
def tw7747466749672955575:Unit:=()
def tw15103502292169231417:Unit:=()
def tw5595675018929625153:Unit:=()
def tw6123437659415922486:Unit:=()
def tw8345030221242134599:Unit:=()
def tw13323678421863593637:Unit:=()
def tw8563267575694887012:Unit:=()
def tw4920560236158346835:Unit:=()
def tw3686150633410822113:Unit:=()
def tw16915393931208463173:Unit:=()
def tw5404585946823947262:Unit:=()
def tw10303940508386103640:Unit:=()
def tw11973463283552926605:Unit:=()
def tw13873994738588927843:Unit:=()
def tw1996448618032555632:Unit:=()
def tw1693134122703889600:Unit:=()
def tw6842656366384321303:Unit:=()
def tw8395212376524596681:Unit:=()
def tw1797815820789847249:Unit:=()
def tw13071368509396027138:Unit:=()
def tw18015721833645034042:Unit:=()
def tw17678878518493251050:Unit:=()
def tw9773100302731863505:Unit:=()
def tw18287758139656375809:Unit:=()
def tw12775237042765874801:Unit:=()
def tw15259756561397207661:Unit:=()
def tw3755952681624328393:Unit:=()
def tw13379897177507817187:Unit:=()
def tw14893978768100515644:Unit:=()
def tw9403493633727633837:Unit:=()
def tw1751261589307350023:Unit:=()
def tw3770955099007841140:Unit:=()
def tw4973970395323404251:Unit:=()
def tw6612064792559376756:Unit:=()
def tw8646297030761035806:Unit:=()
def tw7326902591213798840:Unit:=()
def tw18274857972275352775:Unit:=()
def tw1102439014977925393:Unit:=()
def tw48987559711067935:Unit:=()
def tw4580083761641435810:Unit:=()
def tw109213627381934389:Unit:=()
def tw2749910761000616657:Unit:=()
def tw7668290604924774443:Unit:=()
def tw9947849163637730632:Unit:=()
def tw3968823016553921204:Unit:=()
def tw7947193070518253947:Unit:=()
def tw16807849804692597840:Unit:=()
def tw344626924430094968:Unit:=()
def tw5892061767260777920:Unit:=()
def tw3407862790071369:Unit:=()
def tw4972978443320515760:Unit:=()
def tw5615366153162352504:Unit:=()
def tw8811488427366722367:Unit:=()
def tw11284000669203277613:Unit:=()
def tw16393135424766015239:Unit:=()
def tw14822708840170117118:Unit:=()
def tw6146268780178265292:Unit:=()
def tw10350164118349007707:Unit:=()
def tw1682262884667039810:Unit:=()
def tw13183827700257452211:Unit:=()
def tw16975186379444057808:Unit:=()
def tw15621846634818048201:Unit:=()
def tw97214942068664986:Unit:=()
def tw12368183520366985179:Unit:=()
def tw17799095414659199095:Unit:=()
def tw15706261560368980476:Unit:=()
def tw1612874209065281724:Unit:=()
def tw8499524543652816620:Unit:=()
def tw1271542058807857186:Unit:=()
def tw15466859481061621899:Unit:=()
def tw509226138166299855:Unit:=()
def tw1217117665054340561:Unit:=()
def tw16025303030897215714:Unit:=()
def tw11934572702087190200:Unit:=()
def tw9619645597168649704:Unit:=()
def tw11000671244064264277:Unit:=()
def tw1844875481507707895:Unit:=()
def tw14446975010644463100:Unit:=()
def tw4965029315995891854:Unit:=()
def tw8055887858297941104:Unit:=()
def tw11371528644212314548:Unit:=()
def tw4756453340413718596:Unit:=()
def tw8102889507292004502:Unit:=()
def tw7855302373696419639:Unit:=()
def tw1768400698364915892:Unit:=()
def tw11649179925956198058:Unit:=()
def tw1395488927454802660:Unit:=()
def tw11539742606548035024:Unit:=()
def tw527067094793773695:Unit:=()
def tw9996066596415904197:Unit:=()
def tw8789492794767788320:Unit:=()
def tw8387434709516866664:Unit:=()
def tw1529249219357567517:Unit:=()
def tw2146260714662796737:Unit:=()
def tw7346152664757813893:Unit:=()
def tw1031610924830755414:Unit:=()
def tw13111317578977025969:Unit:=()
def tw13091504684503929313:Unit:=()
def tw16032623843525971305:Unit:=()
def tw1399348582771962503:Unit:=()
def tw3013872586524335115:Unit:=()
def tw14837874954047708688:Unit:=()
def tw7744609510263965228:Unit:=()
def tw1432331253701521089:Unit:=()
def tw10436229015016331777:Unit:=()
def tw4616435517250657934:Unit:=()
def tw14814848186577134764:Unit:=()
def tw6337286822624822437:Unit:=()
def tw15829810185856521773:Unit:=()
def tw14467578261537716199:Unit:=()
end PySem.W.Fast
set_option maxHeartbeats 8000000
namespace K46
open PySem L2
theorem OT {K:qAc}{mg:Str->Option qAf}{h:Heap}{AL LN FR iF fCh fGM fCC fCA fPL SE NN NG NT NR NS:Addr}  {n_AL:Nat}{osl_AL:Array (Option qAf)}{t_AL0 t_AL1 t_AL2 t_AL3 t_AL4 t_AL5:Tok}  {n_LN:Nat}{osl_LN:Array (Option qAf)}{t_LN0 t_LN1 t_LN2 t_LN3 t_LN4 t_LN5 t_LN6:Tok}  {tk_mp:Tok}{tk_mc:Tok}    {oc_FI kV_FI doc_FI pm_FI cdv_FI ct_FI:qAf}{od_FI an_FI:Option Addr}{osl_FI:Array (Option qAf)}{oc_Cho kV_Cho doc_Cho pm_Cho cdv_Cho ct_Cho:qAf}{od_Cho an_Cho:Option Addr}{osl_Cho:Array (Option qAf)}{oc_GMo kV_GMo doc_GMo pm_GMo cdv_GMo ct_GMo:qAf}{od_GMo an_GMo:Option Addr}{osl_GMo:Array (Option qAf)}{oc_CTC kV_CTC doc_CTC pm_CTC cdv_CTC ct_CTC:qAf}{od_CTC an_CTC:Option Addr}{osl_CTC:Array (Option qAf)}{oc_CAh kV_CAh doc_CAh pm_CAh cdv_CAh ct_CAh:qAf}{od_CAh an_CAh:Option Addr}{osl_CAh:Array (Option qAf)}{oc_PTL kV_PTL doc_PTL pm_PTL cdv_PTL ct_PTL:qAf}{od_PTL an_PTL:Option Addr}{osl_PTL:Array (Option qAf)} (X:K.In h) (G:h.Ns qBh mg)
  (fK:qBu K qBh "isinstance"=some none)
  (qQ:qBu K qBh "int"=some none)
  (mM:qBu K qBh "bool"=some none)
  (cD:qBu K qBh "range"=some none)
  (bZ:qBu K qBh "len"=some none)
  (cN:qBu K qBh "list"=some none)
  (j4:qBu K qBh "sum"=some none)
  (mZ:qBu K qBh "all"=some none)
  (uZ:qBu K qBh "any"=some none)
  (iM:qBu K qBh "tuple"=some none)
  (gK:qBu K qBh "zip"=some none)
  (oU:qBu K qBh "abs"=some none)
  (i8:qBu K qBh "enumerate"=some none)
  (qR:qBu K qBh "max"=some none)
  (zE:qBu K qBh "str"=some none)
  (i9:qBu K qBh "sorted"=some none)
  (vA:qBu K qBh "set"=some none)
  (gL:qBu K qBh "reversed"=some none)
  (Ed:qBu K qBh "ALONE"=some (some (.ref AL)))
  (lkAL:K.lookup AL=some ⟨.type "tuple",none,.seq #[.int 1 t_AL0,.int 2 t_AL1,.int 4 t_AL2,.int 8 t_AL3,.int 16 t_AL4,.int 32 t_AL5] n_AL,osl_AL⟩)
  (Lw:qBu K qBh "LENGTHS"=some (some (.ref LN)))
  (lkLN:K.lookup LN=some ⟨.type "tuple",none,.seq #[.int 1 t_LN0,.int 2 t_LN1,.int 4 t_LN2,.int 8 t_LN3,.int 16 t_LN4,.int 32 t_LN5,.int 64 t_LN6] n_LN,osl_LN⟩)
  (mp:qBu K qBh "MOST_PLACES"=some (some (.int 8 tk_mp)))
  (mc:qBu K qBh "MOST_COLUMNS"=some (some (.int 70 tk_mc)))
  (Mz:qBu K qBh "Frame"=some (some (.ref FR)))
  (pgFR:qGb K FR Str.empty=true)
  (hdFR:qGw K FR=true)
  (poFR:qIq K FR=true)
  (saFR:qBa K (.ref FR) "__setattr__"=some (some (.builtin "object.__setattr__")))
  (caFR:qBa K (.ref FR) "__class__"=some (some (.builtin "object.__class__")))
  (moFR:qDw K FR (.type "object")=some true)
  (nmFR:qBa K (.ref FR) "many"=some none)
  (nbFR:qBa K (.ref FR) "bottom"=some none)
  (nrFR:qBa K (.ref FR) "rows"=some none)
  (ncFR:qBa K (.ref FR) "chosen"=some none)
  (f1FR:qBa K (.ref FR) "choose"=some (some (.ref fCh)))
  (f2FR:qBa K (.ref FR) "gains_more"=some (some (.ref fGM)))
  (f3FR:qBa K (.ref FR) "column_to_choose"=some (some (.ref fCC)))
  (f4FR:qBa K (.ref FR) "comes_ahead"=some (some (.ref fCA)))
  (f5FR:qBa K (.ref FR) "place_to_leave"=some (some (.ref fPL)))
  (mkFR:qJj K FR=true)
  (fiFR:qBa K (.ref FR) "__init__"=some (some (.ref iF)))
  (kkFR:qCs K (.ref FR)=true)
  (lFI:K.lookup iF=some ⟨oc_FI,od_FI,.func (qDk "__init__" "Frame.__init__" (dP Lv) (cO Lv) (aI Lv) .none kV_FI doc_FI pm_FI an_FI cdv_FI ct_FI),osl_FI⟩)
  (cdFI:qDy K cdv_FI "Frame.__init__"=true)
  (kpFI:qCs K (.ref iF)=true)
  (fnFI:qEu K (.ref iF)=true)
  (lCho:K.lookup fCh=some ⟨oc_Cho,od_Cho,.func (qDk "choose" "Frame.choose" (dP AW) (cO AW) (aI AW) .none kV_Cho doc_Cho pm_Cho an_Cho cdv_Cho ct_Cho),osl_Cho⟩)
  (cdCho:qDy K cdv_Cho "Frame.choose"=true)
  (kpCho:qCs K (.ref fCh)=true)
  (fnCho:qEu K (.ref fCh)=true)
  (lGMo:K.lookup fGM=some ⟨oc_GMo,od_GMo,.func (qDk "gains_more" "Frame.gains_more" (dP AX) (cO AX) (aI AX) .none kV_GMo doc_GMo pm_GMo an_GMo cdv_GMo ct_GMo),osl_GMo⟩)
  (cdGMo:qDy K cdv_GMo "Frame.gains_more"=true)
  (kpGMo:qCs K (.ref fGM)=true)
  (fnGMo:qEu K (.ref fGM)=true)
  (lCTC:K.lookup fCC=some ⟨oc_CTC,od_CTC,.func (qDk "column_to_choose" "Frame.column_to_choose" (dP AY) (cO AY) (aI AY) .none kV_CTC doc_CTC pm_CTC an_CTC cdv_CTC ct_CTC),osl_CTC⟩)
  (cdCTC:qDy K cdv_CTC "Frame.column_to_choose"=true)
  (kpCTC:qCs K (.ref fCC)=true)
  (fnCTC:qEu K (.ref fCC)=true)
  (lCAh:K.lookup fCA=some ⟨oc_CAh,od_CAh,.func (qDk "comes_ahead" "Frame.comes_ahead" (dP AZ) (cO AZ) (aI AZ) .none kV_CAh doc_CAh pm_CAh an_CAh cdv_CAh ct_CAh),osl_CAh⟩)
  (cdCAh:qDy K cdv_CAh "Frame.comes_ahead"=true)
  (kpCAh:qCs K (.ref fCA)=true)
  (fnCAh:qEu K (.ref fCA)=true)
  (lPTL:K.lookup fPL=some ⟨oc_PTL,od_PTL,.func (qDk "place_to_leave" "Frame.place_to_leave" (dP Ba) (cO Ba) (aI Ba) .none kV_PTL doc_PTL pm_PTL an_PTL cdv_PTL ct_PTL),osl_PTL⟩)
  (cdPTL:qDy K cdv_PTL "Frame.place_to_leave"=true)
  (kpPTL:qCs K (.ref fPL)=true)
  (fnPTL:qEu K (.ref fPL)=true)
  (NF:qBu K qBh "ShareError"=some (some (.ref SE)))
  (Lx:qBu K qBh "NoNumber"=some (some (.ref NN)))
  (MA:qBu K qBh "NoGroup"=some (some (.ref NG)))
  (MB:qBu K qBh "NoTable"=some (some (.ref NT)))
  (Gd:qBu K qBh "NoRows"=some (some (.ref NR)))
  (MC:qBu K qBh "NoShares"=some (some (.ref NS)))
  (c6:qEv K (.builtin "object.__class__") "__get__"=some (some (.builtin "getset_descriptor.__get__")))
  (c7:qFn K (.builtin "object.__class__")=some true)
  (SE2:qHw K (.ref SE)=some (.type "type"))
  (SE3:qBa K (.ref SE) "__getattribute__"=some (some (.builtin "BaseException.__getattribute__")))
  (SE4:qBa K (.ref SE) "__getattr__"=some none)
  (SE5:qBa K (.ref SE) "__class__"=some (some (.builtin "object.__class__")))
  (SE8:qDw K SE (.type "object")=some true)
  (SE9:qDw K SE (.type "BaseException")=some true)
  (Ly:qDn K NN BG "ValueError.__new__"=true)
  (Ge:qDn K NR BG "ValueError.__new__"=true)
  (MD:qDn K NG BG "ValueError.__new__"=true)
  (ME:qDn K NT BG "ValueError.__new__"=true)
  (MF:qDn K NS BG "ValueError.__new__"=true) :
  ∃AL LN FR iF fCh fGM fCC fCA fPL SE NN NG NT NR NS,T K mg AL LN FR iF fCh fGM fCC fCA fPL SE NN NG NT NR NS :=
 ⟨AL,LN,FR,iF,fCh,fGM,fCC,fCA,fPL,SE,NN,NG,NT,NR,NS,qBw X G fK,qBw X G qQ,qBw X G mM,qBw X G cD,qBw X G bZ,qBw X G cN,qBw X G j4,qBw X G mZ,qBw X G uZ,qBw X G iM,qBw X G gK,qBw X G oU,qBw X G i8,qBw X G qR,qBw X G zE,qBw X G i9,qBw X G vA,qBw X G gL,qDx X G Ed,fun _=>.inr ⟨_,_,_,lkAL,rfl,rfl,by show 6<=qAj;decide,.cons ⟨_,rfl⟩ (.cons ⟨_,rfl⟩ (.cons ⟨_,rfl⟩ (.cons ⟨_,rfl⟩ (.cons ⟨_,rfl⟩ (.cons ⟨_,rfl⟩ .nil)))))⟩,qDx X G Lw,fun _=>.inr ⟨_,_,_,lkLN,rfl,rfl,by show 7<=qAj;decide,.cons ⟨_,rfl⟩ (.cons ⟨_,rfl⟩ (.cons ⟨_,rfl⟩ (.cons ⟨_,rfl⟩ (.cons ⟨_,rfl⟩ (.cons ⟨_,rfl⟩ (.cons ⟨_,rfl⟩ .nil))))))⟩,⟨_,lkLN,rfl,rfl⟩,⟨tk_mp,qDx X G mp⟩,⟨tk_mc,qDx X G mc⟩,qDx X G Mz,⟨⟨⟨pgFR,hdFR,poFR,saFR⟩,caFR,c6,c7,moFR⟩,nmFR,nbFR,nrFR,ncFR,⟨f1FR,fnCho,kpCho⟩,⟨f2FR,fnGMo,kpGMo⟩,⟨f3FR,fnCTC,kpCTC⟩,⟨f4FR,fnCAh,kpCAh⟩,⟨f5FR,fnPTL,kpPTL⟩⟩,⟨mkFR,fiFR,fnFI,kkFR⟩,p9 lFI cdFI kpFI (fun _ _ _ _ _ _ us hl=>match us,hl with | [_,_,_],_=>rfl),p9 lCho cdCho kpCho (fun _ _ _ _ _ _ us hl=>match us,hl with | [_,_,_],_=>rfl),p9 lGMo cdGMo kpGMo (fun _ _ _ _ _ _ us hl=>match us,hl with | [_,_,_],_=>rfl),p9 lCTC cdCTC kpCTC (fun _ _ _ _ _ _ us hl=>match us,hl with | [_,_],_=>rfl),p9 lCAh cdCAh kpCAh (fun _ _ _ _ _ _ us hl=>match us,hl with | [_,_,_,_],_=>rfl),p9 lPTL cdPTL kpPTL (fun _ _ _ _ _ _ us hl=>match us,hl with | [_,_],_=>rfl),qDx X G NF,qDx X G Lx,qDx X G MA,qDx X G MB,qDx X G Gd,qDx X G MC,HS SE2 SE3 SE4 SE5 c6 c7 SE8 SE9,Ly,Ge,MD,ME,MF⟩
theorem walk {l:qMr}{q:qBl}{loose:List Str}{XP:(Str->Option qAf)->Heap->Prop}{YP:qCw->Heap->Prop}{d:DefRec}{K:Params->qAc} (hn:l.most=some 63) (hdf:d.params.defaults=[])
  (hY:∀(w:qCw) (h:Heap),YP w h->(K w.params).In h)
  (F:∀(w:qCw) (mg:Str->Option qAf) (fa:Addr) (h:Heap),(K w.params).In h->h.Ns qBh mg->mg d.name=some (.ref fa) ->
   ∃fd:qBk,(∀(s:qAh) (u:qAf),qNg s fd ⟨[u],[]⟩ [("_law_script",u)])/\∀base:Heap,(K w.params).In base->base.Ns qBh mg->i4 l.prog w (K w.params) mg base bY 10 fa fd ["_law_script"] (z7 (K w.params))) :
  qNm q loose XP YP l.row.toRowW d [] (fun f vs=>PySem.call f vs) :=
 L2.Ez (n:=63) (k:=10) (x:="_law_script") (CX:=fun _=>bY) (sp:=fun w=>z7 (K w.params)) hn (by decide) hdf ⟨rfl,by decide,by decide⟩ hY F (fun _ _ a ns hl _ hS=>⟨a,ns,rfl,hS,hl,fun _=>rfl⟩) fun _ _ _ _ _ z=>z
theorem Ln {P:qBl}{w:qCw}{K:qAc}{mg:Str->Option qAf}{fa:Addr} (hfa:mg "law"=some (.ref fa)) (hT:∃AL LN FR iF fCh fGM fCC fCA fPL SE NN NG NT NR NS,T K mg AL LN FR iF fCh fGM fCC fCA fPL SE NN NG NT NR NS)
  (t_sNum:∃f fd,Tx K mg "is_number" IB ["thing"] f fd)
  (t_sGcd:∃f fd,Tx K mg "greatest_divisor" IC ["one","other"] f fd)
  (t_sFr:∃f fd,Tx K mg "fraction" Ow ["top","bottom"] f fd)
  (t_sAreN:∃f fd,Tx K mg "are_numbers" CF ["thing","least","most"] f fd)
  (t_sCkR:∃f fd,Tx K mg "check_rows" ID ["columns","due","gains"] f fd)
  (t_sSgn:∃f fd,Tx K mg "sign_of" IE ["number"] f fd)
  (t_sFRw:∃f fd,Tx K mg "first_row" IF ["columns","due","place"] f fd)
  (t_sClr:∃f fd,Tx K mg "cleared" IG ["row","lead","column","bottom"] f fd)
  (t_sClb:∃f fd,Tx K mg "climb" IH ["frame","gains"] f fd)
  (t_sSpP:∃f fd,Tx K mg "spare_places" II ["frame"] f fd)
  (t_sLvS:∃f fd,Tx K mg "leave_spares" IJ ["frame"] f fd)
  (t_sWtO:∃f fd,Tx K mg "weights_of" IK ["frame"] f fd)
  (t_sPrO:∃f fd,Tx K mg "prices_of" IL ["frame","gains","due"] f fd)
  (t_sWyO:∃f fd,Tx K mg "way_of" IM ["frame","growing"] f fd)
  (t_sWgh:∃f fd,Tx K mg "weigh" IP ["columns","due","gains"] f fd)
  (t_sWith:∃f fd,Tx K mg "is_number_within" CG ["thing","least","most"] f fd)
  (t_sPlu:∃f fd,Tx K mg "plus" IQ ["one","other"] f fd)
  (t_sMin:∃f fd,Tx K mg "minus" IS ["one","other"] f fd)
  (t_sCBt:∃f fd,Tx K mg "common_bottom" IT ["fractions"] f fd)
  (t_sTpO:∃f fd,Tx K mg "tops_over" IU ["bottom","fractions"] f fd)
  (t_sWC:∃f fd,Tx K mg "whole_company" Ox ["many"] f fd)
  (t_sChk:∃f fd,Tx K mg "check_group" IV ["group","many"] f fd)
  (t_sHnd:∃f fd,Tx K mg "hands_of" IW ["group"] f fd)
  (t_sMrk:∃f fd,Tx K mg "marks_of" IX ["group","many"] f fd)
  (t_sIsT:∃f fd,Tx K mg "is_table" IY ["thing"] f fd)
  (t_sHin:∃f fd,Tx K mg "hands_in" IZ ["table"] f fd)
  (t_sBel:∃f fd,Tx K mg "below_nought" Ja ["column"] f fd)
  (t_sRst:∃f fd,Tx K mg "rest_of" Jb ["row","rows"] f fd)
  (t_sUnt:∃f fd,Tx K mg "untold" Jc ["groups","kept","many"] f fd)
  (t_sSif:∃f fd,Tx K mg "sifted" Jd ["groups","many"] f fd)
  (t_sLLa:∃f fd,Tx K mg "least_lack" Je ["table","many","kept","free"] f fd)
  (t_sCaS:∃f fd,Tx K mg "calm_shares" Jf ["table","many"] f fd)
  (t_sWgO:∃f fd,Tx K mg "weighing_of" Jg ["groups","many"] f fd)
  (t_sLac:∃f fd,Tx K mg "lacks_of" Jh ["table","tops","bottom"] f fd)
  (t_sLvl:∃f fd,Tx K mg "levels_of" Ji ["table","many","shares"] f fd)
  (t_sKey:∃f fd,Tx K mg "key_of" Jj ["hand","groups","many"] f fd)
  (t_sCal:∃f fd,Tx K mg "calm" Jk ["table"] f fd)
  (t_sSho:∃f fd,Tx K mg "share_of" Jl ["group","shares"] f fd)
  (t_sSta:∃f fd,Tx K mg "stable" Jm ["table"] f fd)
  (t_sIsF:∃f fd,Tx K mg "is_fraction" Jn ["thing"] f fd)
  (t_sUnd:∃f fd,Tx K mg "under" Jo ["one","other"] f fd)
  (t_sCks:∃f fd,Tx K mg "check_shares" Jp ["shares","many"] f fd)
  (t_sBet:∃f fd,Tx K mg "bettering" Jq ["table","shares"] f fd)
  (t_sCel:∃f fd,Tx K mg "_law_cell" Jr ["_law_script","_law_k"] f fd)
  (t_sWho:∃f fd,Tx K mg "_law_whole" Js ["_law_found"] f fd)
  (t_sDiv:∃f fd,Tx K mg "_law_divisor" Jt ["_law_one","_law_other"] f fd)
  (t_sLFr:∃f fd,Tx K mg "_law_fraction" Ju ["_law_found"] f fd)
  (t_sLFs:∃f fd,Tx K mg "_law_fractions" Jv ["_law_found","_law_many"] f fd)
  (t_sLow:∃f fd,Tx K mg "_law_low" Jw ["_law_numbers"] f fd)
  (t_sTop:∃f fd,Tx K mg "_law_tops" Jx ["_law_numbers","_law_low_here"] f fd)
  (t_sNmb:∃f fd,Tx K mg "_law_number" Jy ["_law_cell_here"] f fd)
  (t_sShr:∃f fd,Tx K mg "_law_share" Jz ["_law_tops_here","_law_group"] f fd)
  (t_sDrn:∃f fd,Tx K mg "_law_drawn" JA ["_law_script","_law_many"] f fd)
  (t_sLaw:∃f fd,Tx K mg "law" JB ["_law_script"] f fd)
  : ∃fd:qBk,(∀(s:qAh) (u:qAf),qNg s fd ⟨[u],[]⟩ [("_law_script",u)])/\∀base:Heap,K.In base->base.Ns qBh mg->i4 P w K mg base bY 10 fa fd ["_law_script"] (z7 K):=by
 obtain⟨AL,LN,FR,iF,fCh,fGM,fCC,fCA,fPL,SE,NN,NG,NT,NR,NS,T⟩:=hT;obtain⟨f_sNum,fd_sNum,t_sNum⟩:=t_sNum;obtain⟨f_sGcd,fd_sGcd,t_sGcd⟩:=t_sGcd;obtain⟨f_sFr,fd_sFr,t_sFr⟩:=t_sFr;obtain⟨f_sAreN,fd_sAreN,t_sAreN⟩:=t_sAreN;obtain⟨f_sCkR,fd_sCkR,t_sCkR⟩:=t_sCkR;obtain⟨f_sSgn,fd_sSgn,t_sSgn⟩:=t_sSgn;obtain⟨f_sFRw,fd_sFRw,t_sFRw⟩:=t_sFRw;obtain⟨f_sClr,fd_sClr,t_sClr⟩:=t_sClr;obtain⟨f_sClb,fd_sClb,t_sClb⟩:=t_sClb;obtain⟨f_sSpP,fd_sSpP,t_sSpP⟩:=t_sSpP;obtain⟨f_sLvS,fd_sLvS,t_sLvS⟩:=t_sLvS;obtain⟨f_sWtO,fd_sWtO,t_sWtO⟩:=t_sWtO;obtain⟨f_sPrO,fd_sPrO,t_sPrO⟩:=t_sPrO;obtain⟨f_sWyO,fd_sWyO,t_sWyO⟩:=t_sWyO;obtain⟨f_sWgh,fd_sWgh,t_sWgh⟩:=t_sWgh;obtain⟨f_sWith,fd_sWith,t_sWith⟩:=t_sWith;obtain⟨f_sPlu,fd_sPlu,t_sPlu⟩:=t_sPlu;obtain⟨f_sMin,fd_sMin,t_sMin⟩:=t_sMin;obtain⟨f_sCBt,fd_sCBt,t_sCBt⟩:=t_sCBt;obtain⟨f_sTpO,fd_sTpO,t_sTpO⟩:=t_sTpO;obtain⟨f_sWC,fd_sWC,t_sWC⟩:=t_sWC;obtain⟨f_sChk,fd_sChk,t_sChk⟩:=t_sChk;obtain⟨f_sHnd,fd_sHnd,t_sHnd⟩:=t_sHnd;obtain⟨f_sMrk,fd_sMrk,t_sMrk⟩:=t_sMrk;obtain⟨f_sIsT,fd_sIsT,t_sIsT⟩:=t_sIsT;obtain⟨f_sHin,fd_sHin,t_sHin⟩:=t_sHin;obtain⟨f_sBel,fd_sBel,t_sBel⟩:=t_sBel;obtain⟨f_sRst,fd_sRst,t_sRst⟩:=t_sRst;obtain⟨f_sUnt,fd_sUnt,t_sUnt⟩:=t_sUnt;obtain⟨f_sSif,fd_sSif,t_sSif⟩:=t_sSif;obtain⟨f_sLLa,fd_sLLa,t_sLLa⟩:=t_sLLa;obtain⟨f_sCaS,fd_sCaS,t_sCaS⟩:=t_sCaS;obtain⟨f_sWgO,fd_sWgO,t_sWgO⟩:=t_sWgO;obtain⟨f_sLac,fd_sLac,t_sLac⟩:=t_sLac;obtain⟨f_sLvl,fd_sLvl,t_sLvl⟩:=t_sLvl;obtain⟨f_sKey,fd_sKey,t_sKey⟩:=t_sKey;obtain⟨f_sCal,fd_sCal,t_sCal⟩:=t_sCal;obtain⟨f_sSho,fd_sSho,t_sSho⟩:=t_sSho;obtain⟨f_sSta,fd_sSta,t_sSta⟩:=t_sSta;obtain⟨f_sIsF,fd_sIsF,t_sIsF⟩:=t_sIsF;obtain⟨f_sUnd,fd_sUnd,t_sUnd⟩:=t_sUnd;obtain⟨f_sCks,fd_sCks,t_sCks⟩:=t_sCks;obtain⟨f_sBet,fd_sBet,t_sBet⟩:=t_sBet;obtain⟨f_sCel,fd_sCel,t_sCel⟩:=t_sCel;obtain⟨f_sWho,fd_sWho,t_sWho⟩:=t_sWho;obtain⟨f_sDiv,fd_sDiv,t_sDiv⟩:=t_sDiv;obtain⟨f_sLFr,fd_sLFr,t_sLFr⟩:=t_sLFr;obtain⟨f_sLFs,fd_sLFs,t_sLFs⟩:=t_sLFs;obtain⟨f_sLow,fd_sLow,t_sLow⟩:=t_sLow;obtain⟨f_sTop,fd_sTop,t_sTop⟩:=t_sTop;obtain⟨f_sNmb,fd_sNmb,t_sNmb⟩:=t_sNmb;obtain⟨f_sShr,fd_sShr,t_sShr⟩:=t_sShr;obtain⟨f_sDrn,fd_sDrn,t_sDrn⟩:=t_sDrn;obtain⟨f_sLaw,fd_sLaw,t_sLaw⟩:=t_sLaw;have e:=hfa.symm.trans t_sLaw.at_;cases e;refine⟨fd_sLaw,fun s u=>.of_eq (t_sLaw.bd [u] rfl),fun base _ _=>?_⟩;obtain⟨m1,x1⟩:=T.PK;obtain⟨m2,x2⟩:=T.Oy;obtain⟨m3,x3⟩:=T.Oz;obtain⟨m4,x4⟩:=T.OA;obtain⟨m5,x5⟩:=T.OB;obtain⟨m6,x6⟩:=T.OC;have d0:=JC (P:=P) (w:=w) (base:=base) t_sNum T;have d1:=JD (P:=P) (w:=w) (base:=base) t_sGcd T;have d2:=MH t_sFr T d0 d1;have d3:=Ff t_sAreN T d0;have d4:=JY t_sCkR T d3;have d5:=JG (mg:=mg) (P:=P) (w:=w) (base:=base) t_sSgn;have d6:=JH t_sFRw T d5;have d7:=JI (P:=P) (w:=w) (base:=base) t_sClr T;have eI:=ML x1 T d6;have eC:=JK x2 T d5 d7;have eG:=JL (P:=P) (w:=w) (base:=base) x3 T;have eT:=JM x4 T eG;have eA:=JN (P:=P) (w:=w) (base:=base) x5 T;have eP:=JO x6 T eA;have d8:=JP t_sClb T eT eP eC;have d9:=JQ (P:=P) (w:=w) (base:=base) t_sSpP T;have d10:=JS t_sLvS T d9 eC;have d11:=JU t_sWtO T d2;have d12:=JW t_sPrO T d2 d5;have d13:=JV t_sWyO T d2;have dW:=JZ t_sWgh T d4 eI d8 d9 d10 d11 d12 d13;have v0:=Fh (P:=P) (w:=w) (base:=base) t_sWith d0;have v1:=Kf t_sIsT T d0;have v2:=Kg t_sHin T v1;have v3:=Kh (P:=P) (w:=w) (base:=base) t_sMrk T;have v4:=MT (P:=P) (w:=w) (base:=base) t_sWC T;have v5:=Kc t_sChk T v0 v4;have v6:=Ke t_sHnd T v5;have v7:=Kk t_sPlu T d2;have v9:=Ku t_sMin T d2;have v10:=Ki t_sCBt T d1;have v11:=Kj (P:=P) (w:=w) (base:=base) t_sTpO T;have b1:=Kv (P:=P) (w:=w) (base:=base) t_sBel T;have b2:=Kw (P:=P) (w:=w) (base:=base) t_sRst T;have b3:=KA t_sUnt T v3 b2;have b4:=KC t_sSif T b3;have b5:=KG t_sWgO T v3 dW v7;have b6:=KH t_sKey T v3 b1 dW v9;have b7:=KI t_sLac T v6;have b8:=KL t_sLLa T v10 v3 v11 b1 dW d2;have b9:=KN t_sCaS T v4 b3 b8 v9;have b10:=KS t_sLvl T v10 v11 b7 v4 d2 b5 b4;have dC:=KY t_sCal T v2 b9 b10 b6;have v8:=Kl t_sSho T v6 v7;have dS:=Km t_sSta T v2 v4 v3 dW v8;have e5:=Kt t_sBet T v2 (Ko t_sCks T (Kn t_sIsF T d0 d1)) (Kr (P:=P) (w:=w) (base:=base) t_sUnd T) v8;have c1:=Li (P:=P) (w:=w) (base:=base) t_sCel T;have l1:=KZ (P:=P) (w:=w) (base:=base) t_sWho T;have l2:=La (P:=P) (w:=w) (base:=base) t_sDiv T;have l3:=Lb t_sLFr T l1 l2;have l4:=Lc t_sLFs T l3;have l5:=Ld t_sLow T l2;have l6:=Le (P:=P) (w:=w) (base:=base) t_sTop T;have c4:=Lh (P:=P) (w:=w) (base:=base) t_sShr T;exact(Lm t_sLaw T c1 (Ll t_sDrn T c1 (Lj (P:=P) (w:=w) (base:=base) t_sNmb T)) dS dC l4 l5 l6 c4 e5).ok
end K46
open PySem PySem.W PyProof.Rows
theorem L2.uu1{α}{P:List α->Prop}(h:∀ a,P [a]):∀us,us.length=1->P us
|[a],_=>h a
theorem L2.uu2{α}{P:List α->Prop}(h:∀ a b,P [a,b]):∀us,us.length=2->P us
|[a,b],_=>h a b
theorem L2.uu3{α}{P:List α->Prop}(h:∀ a b c,P [a,b,c]):∀us,us.length=3->P us
|[a,b,c],_=>h a b c
theorem L2.uu4{α}{P:List α->Prop}(h:∀ a b c d,P [a,b,c,d]):∀us,us.length=4->P us
|[a,b,c,d],_=>h a b c d
set_option maxRecDepth 100000 in
set_option maxHeartbeats 0 in
theorem PySem.Challenge.cw_shareparley_k46_calm_and_stable_holds : PySem.Challenge.rw_shareparley_k46_calm_and_stable.Holds := by
 w_on;o_law;k_head;(case hw=>w_witness2)
 k_fill
 refine K46.walk (l:=PySem.Challenge.rw_shareparley_k46_calm_and_stable) rfl rfl (fun w h Y=>PySem.W.kIn_of Y) ?F
 case F =>
  intro w mg fa h KX G hmg;refine K46.Ln hmg ?T ?t_sNum ?t_sGcd ?t_sFr ?t_sAreN ?t_sCkR ?t_sSgn ?t_sFRw ?t_sClr ?t_sClb ?t_sSpP ?t_sLvS ?t_sWtO ?t_sPrO ?t_sWyO ?t_sWgh ?t_sWith ?t_sPlu ?t_sMin ?t_sCBt ?t_sTpO ?t_sWC ?t_sChk ?t_sHnd ?t_sMrk ?t_sIsT ?t_sHin ?t_sBel ?t_sRst ?t_sUnt ?t_sSif ?t_sLLa ?t_sCaS ?t_sWgO ?t_sLac ?t_sLvl ?t_sKey ?t_sCal ?t_sSho ?t_sSta ?t_sIsF ?t_sUnd ?t_sCks ?t_sBet ?t_sCel ?t_sWho ?t_sDiv ?t_sLFr ?t_sLFs ?t_sLow ?t_sTop ?t_sNmb ?t_sShr ?t_sDrn ?t_sLaw
  case T=>
   refine' K46.OT KX G ?fK ?qQ ?mM ?cD ?bZ ?cN ?j4 ?mZ ?uZ ?iM ?gK ?oU ?i8 ?qR ?zE ?i9 ?vA ?gL ?Ed ?lkAL ?Lw ?lkLN ?mp ?mc ?Mz ?pgFR ?hdFR ?poFR ?saFR ?caFR ?moFR ?nmFR ?nbFR ?nrFR ?ncFR ?f1FR ?f2FR ?f3FR ?f4FR ?f5FR ?mkFR ?fiFR ?kkFR ?lFI ?cdFI ?kpFI ?fnFI ?lCho ?cdCho ?kpCho ?fnCho ?lGMo ?cdGMo ?kpGMo ?fnGMo ?lCTC ?cdCTC ?kpCTC ?fnCTC ?lCAh ?cdCAh ?kpCAh ?fnCAh ?lPTL ?cdPTL ?kpPTL ?fnPTL ?NF ?Lx ?MA ?MB ?Gd ?MC ?c6 ?c7 ?SE2 ?SE3 ?SE4 ?SE5 ?SE8 ?SE9 ?Ly ?Ge ?MD ?ME ?MF
   case fK|qQ|mM|cD|bZ|cN|j4|mZ|uZ|iM|gK|oU|i8|qR|zE|i9|vA|gL|Ed|lkAL|Lw|lkLN|mp|mc|Mz|pgFR|hdFR|poFR|saFR|caFR|moFR|nmFR|nbFR|nrFR|ncFR|f1FR|f2FR|f3FR|f4FR|f5FR|mkFR|fiFR|kkFR|lFI|cdFI|kpFI|fnFI|lCho|cdCho|kpCho|fnCho|lGMo|cdGMo|kpGMo|fnGMo|lCTC|cdCTC|kpCTC|fnCTC|lCAh|cdCAh|kpCAh|fnCAh|lPTL|cdPTL|kpPTL|fnPTL|NF|Lx|MA|MB|Gd|MC|c6|c7|SE2|SE3|SE4|SE5|SE8|SE9=>k_is
   case Ly|Ge|MD|ME|MF=>k_exc
  case t_sNum|t_sSgn|t_sSpP|t_sLvS|t_sWtO|t_sCBt|t_sWC|t_sHnd|t_sIsT|t_sHin|t_sBel|t_sCal|t_sSta|t_sIsF|t_sWho|t_sLFr|t_sLow|t_sNmb|t_sLaw=>
   refine' L2.bL KX G ?a ?l ?c ?k (fun _ _ _ _ _ _=>L2.uu1 fun _=>rfl)
   case a|l|c|k=>k_is
  case t_sGcd|t_sFr|t_sClb|t_sWyO|t_sPlu|t_sMin|t_sTpO|t_sChk|t_sMrk|t_sRst|t_sSif|t_sCaS|t_sWgO|t_sSho|t_sUnd|t_sCks|t_sBet|t_sCel|t_sDiv|t_sLFs|t_sTop|t_sShr|t_sDrn=>
   refine' L2.bL KX G ?a ?l ?c ?k (fun _ _ _ _ _ _=>L2.uu2 fun _ _=>rfl)
   case a|l|c|k=>k_is
  case t_sAreN|t_sCkR|t_sFRw|t_sPrO|t_sWgh|t_sWith|t_sUnt|t_sLac|t_sLvl|t_sKey=>
   refine' L2.bL KX G ?a ?l ?c ?k (fun _ _ _ _ _ _=>L2.uu3 fun _ _ _=>rfl)
   case a|l|c|k=>k_is
  case t_sClr|t_sLLa=>
   refine' L2.bL KX G ?a ?l ?c ?k (fun _ _ _ _ _ _=>L2.uu4 fun _ _ _ _=>rfl)
   case a|l|c|k=>k_is
