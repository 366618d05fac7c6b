import PyProof.Rows.All
import Wide.All
import OpenK.AllK
import Wide.FinOn
import Lean
import PyProof.EqAt
import PyProof.EqKinds
import PyProof.TupleCall
import PySem.Challenge.RW_shareparley_k13_words_read
import KE.IntBitsLaws
import OpenK.KEqL
import KE.LcSums
import KE.KTupSum
import PyProof.Rows.EqDataRows
import PyProof.EnumMake
import PyProof.Rows.Range3
import PyProof.Rows.SortShell
import PyProof.Rows.SortWalk
import PyProof.ListRange
import KE.KSortTup
import KE.KDictOf
import KE.KMinKey
import KE.KDictList
import PyProof.Rows.SetFrom
import PyProof.SetScanFacts
import KE.KRevIter
import PyProof.FString
import PyProof.Rows.StrJoin2
import KE.KIntText
import PyProof.Draws
import PyProof.StrLawsTight
import PyProof.StrLawsIdx
set_option autoImplicit true
open List renaming length_map->qAa,getElem?_eq_getElem->qAc,getElem?_map->qAj,length_append->qAn,mem_append_right->qAp,range->qAq,getD_eq_getElem?_getD->qAs,mem_of_getElem?->qAu,size_toArray->qAw,mem_cons_of_mem->qBf,map_cons->qBi,length_cons->qBj,not_mem_nil->qBq,map_map->qBt,filterMap_append->qBu,filterMap_eq_map'->qBx,getElem?_append_right->qBy,getElem?_append_left->qCa,mem_cons_self->qCb,map_append->qCc,getElem_mem->qCh,filterMap_cons->qCj,filterMap_map->qCn,append_nil->qCr,length_range->qCt,range_succ->qCx,mem_cons->qDb,length_drop->qDc,length_filterMap_le->qDh,getElem?_eq_none->qDi,append_assoc->qDj,take_of_length_le->qDn,mem_append_left->qDs,toArray->qDy,map_nil->qDz,filterMap_eq_map->qEa,getElem?_cons_succ->qEp,find?_cons->qEq,filter_cons_of_pos->qEr,filter_cons_of_neg->qEs,length_take->qFa,nil_append->qFh,map_congr_left->qFi,lookup->qFj,filterMap_cons_some->qFy,filterMap_cons_none->qFz,sum_cons->qGb,map_drop->qGc,any_cons->qGd,getElem?_set_self->qGj,mem_append->qGp,set->qGs,filterMap->qGy,length_reverse->qHa,pairwise_cons->qHf,take_length->qHt,getElem_map->qHu,all_eq_true->qHv,of_mem_zip->qIf,nodup_nil->qIt,drop_left->qIu,drop_drop->qIv,getElem?_take_of_lt->qIy,map_take->qIz,getElem?_cons_zero->qJa,range_succ_eq_map->qJf,drop_of_length_le->qJg,length_singleton->qJp,all_map->qJq,getElem?_set_ne->qJu,getElem?_of_mem->qJv,length->qKa,getElem_of_mem->qKb,getElem?_range->qKc,mem_singleton->qKn,map_filterMap->qKo,getElem?_drop->qKp,reverse_cons->qKu,range'_succ->qKy,getElem_inj->qKz,ext_getElem->qLa,sum_append->qLg,nodup_cons->qLh,length_set->qLi,take_zero->qLl,take_left->qLm,drop_zero->qLn,drop_nil->qLr,all_cons->qLs,map_id->qMp
open PySem.W renaming Frag->qAb,findIn->qAd,keepIn->qAm,codeIn->qAz,fnOf->qBe,nsIn->qBg,isFn->qBl,mg_none_of->qBv,mroIn->qCe,mg_of->qCf,kitOne->qCq,plainGet->qCv,hasDictIn->qCy,plainOver->qDd,emptyDict->qDe,makesIn->qDo,specialIn->qDt,instObj->qDu,excIn->qEe,takesIn->qEm,callWith_K->qEn,Looks->qEo,looks_findIn->qEz,methodCall_KW->qGe,typeIn->qGm,lookIn->qGn,plainGet_of->qGq,methodObj->qHb,takerIn->qHk,hideAll->qHl,clsIn->qIh,cellsFrom_some->qIp,looks_mroIn->qJd,hideAll_get->qJe,of_hideAll->qJo,kitx_list->qJs,kitx_dict->qJt,handedIn->qJw,readsIn->qKg,findCls->qKh,OpenLaw->qKi,WalkO->qKw,KitX->qLc
open PySem renaming wpAny_bind->qAe,Value->qAf,sizeLine->qAg,Shared->qAk,wpAny_pure->qAv,mainGlobals->qAx,Program->qBc,FuncData->qBd,starEach->qBk,wpAny->qBs,model->qBz,World->qCd,wpAny_truthy_bool->qCi,bootBuiltins->qCk,wpAny_holding->qCs,Around->qCu,sliceBounds->qDm,compareOp->qDp,wpAny_pyIter_list->qDw,wpAny_Call_Name_kw->qEd,keywordEach->qEg,binaryOp->qEi,backTo->qEj,wpAny_passesOwn->qEl,wpAny_of_eq->qEu,sizeLine_eq->qEv,codeAny_mono->qEw,wpAny_newObj_type->qFb,wpAny_mono->qFc,wpAny_call->qFd,sysModules->qFe,wpAny_tryCatch->qFg,codeAny_call_builtin->qFn,PyData->qFo,backToKw->qFq,wpAny_ite_false->qFt,wpAny_execs_nil->qFu,holding->qFv,codeAny_builtin->qFw,codeAny->qGh,wpAny_pyIter_enum->qGk,foldedSetIterable->qGl,behindInMarks->qGt,letOwnedTupleGo->qHc,getMethod->qHd,call_meets->qHh,assignEach->qHi,wpAny_standAt->qIa,plainId_quiet->qIb,attributeBase->qIc,IsPart->qId,standAt->qIl,getItem->qIm,Scope->qIn,NameKind->qJc,wpAny_letGo->qJk,tupleKind->qJl,swapsWith->qJm,callerA->qJn,assign->qKe,valueAt->qKq,callWith->qKr,bindArgs->qKs,BindsTo->qKt,slicePick->qLb,relabel->qLp,pyNext->qLy,GenState->qLz,cLine->qMc,bindL->qMd,bindC->qMe,atKey->qMf,typeOf->qMu,isTrue->qMv,Result->qMw,Keyword->qMx
open PySem.Heap renaming get?_push_of_some->qAh,lt_size->qAy,get?_push_size->qBa,get?_update_ne->qFk,size_update->qGg,get?_none_of_le->qGv,SameBut->qHp,size_push->qIx,get?_update_other->qJi,get?_push_ne->qKv,MadeExcOf->qLo
open Nat renaming le_refl->qAi,lt_of_lt_of_le->qAo,le_trans->qAt,le_of_lt->qBb,lt_or_ge->qBh,zero_le->qBm,ne_of_lt->qBn,lt_of_le_of_lt->qBo,pow_le_pow_right->qBr,le_antisymm->qDa,eq_zero_or_pos->qEb,lt_irrefl->qEk,one_le_two_pow->qFr,lt_trans->qFs,pow_pos->qGf,lt_succ_self->qGi,toDigits->qGr,sub_le->qGu,add_le_add->qGz,lt_succ_of_lt->qHo,sub_self->qHr,le_of_eq->qHs,succ_le_succ->qHx,le_add_right->qHy,div_eq_of_lt->qHz,le_succ->qIj,mul_le_mul_right->qJy,add_le_add_right->qJz,mul_le_mul_left->qKl,add_le_add_left->qKm,lt_trichotomy->qKx,succ_ne_self->qLd,min_eq_right->qLe,le_of_not_lt->qLf,strongRecOn->qLj,min_eq_left->qLk,succ_pos->qMl,sub_zero->qMm,ne_of_gt->qMn,le_total->qMo,one_mul->qMq,log2_lt->qMr,add_mul->qMs
open Bool renaming false_ne_true->qAl,and_eq_true->qAr,or_eq_true->qDq,eq_iff_iff->qEt,false_and->qEx,and_false->qEy,false_eq_true->qHg,or_false->qLu,false_or->qLv,and_true->qLw,or_true->qMb
open PySem.F renaming plainAttrs_str->qBp,type_str_join->qCl,slot_str_join->qCm,plainAttrs_list->qCz,type_list_append->qDf,slot_list_append->qDg,plain_min_loop->qDl,entry_min_loop->qGa,type_str_startswith->qHm,slot_str_startswith->qHn,args_tuple_add_2->qIe,entry_tuple_add->qIi,type_str_split->qIq,slot_tuple_add->qIr,slot_str_split->qIs
open PySem.Builtin renaming bitAnd->qBw,bitOr->qCg
open Array renaming length_toList->qCo,toList_append->qCw,getD->qFf,getElem?_eq_getElem->qFp,getElem?_toList->qJj,append_assoc->qKd,toList->qLx
open Classical renaming byContradiction->qCp
open PyProof.Rows renaming seqObj->qDk,get?_update_seq->qFx,kindOf->qGw,envOfC->qGx,AllBare->qHe,IntsAre->qHq,sortedHeap->qIo,size_push'->qKf
open Int renaming natCast_nonneg->qDr,toNat_natCast->qDv,emod_lt_of_pos->qEc,emod_nonneg->qEh,toNat_of_nonneg->qFl,negSucc->qFm,natAbs_natCast->qHj,zero_add->qHw,one_mul->qIk,fdiv_eq_ediv_of_nonneg->qIw,ofNat_sub->qJh,mul_nonneg->qLt,le_refl->qMt
open PyProof.Rows renaming slot_tuple_getitem->qDx,callWith_type1->qEf,toString_length_le->qGo,ofString_length->qMg,lt_int->qMh,len_le_of_split->qMi,evalArgs_kw2->qMj,callWith_builtin1->qMk
open PySem.Calls renaming Name_function_global->qIg,callWith_builtin->qJb,evalArgs_plain->qJr
open Option renaming isSome_map->qJx,getD_some->qKj,getD_none->qKk,none->qLq,map->qMa
theorem cK{α:Sort _}{a:α}{b:Prop}:a=a\/b:=.inl rfl
set_option Elab.async false
set_option linter.all false
set_option maxRecDepth 100000
namespace L2
open PySem PySem.Spec PyProof.Rows
theorem nK:1<=qAg:=by decide
theorem zD:2<=qAg:=by decide
theorem Iv:3<=qAg:=by decide
abbrev Key:=Sum Int Str
def oA:Key->qAf->Bool
 | .inl k,v=>Value.isInt k v
 | .inr x,v=>Value.isStrOf x v
def KS(w:qCd):Key->Int
 | .inl k=>hashInt k
 | .inr x=>hashStr w x
theorem cU:∀{k:Key}{v:qAf},oA k v=true->(∃i t,k=Sum.inl i/\v=Value.int i t)\/(∃x t,k=Sum.inr x/\v=Value.str x t)
 | .inl i,v,h=>by
  obtain⟨t,e⟩:=Value.isInt_shape (k:=i) (v:=v) h;exact .inl ⟨i,t,rfl,e⟩
 | .inr x,v,h=>by
  obtain⟨t,e⟩:=Value.isStrOf_shape (x:=x) (v:=v) h;exact .inr ⟨x,t,rfl,e⟩
theorem wQ(i:Int)(t:Tok):oA (.inl i) (.int i t)=true:=by simp[oA,Value.isInt]
theorem wU(x:Str)(t:Tok):oA (.inr x) (.str x t)=true:=by simp[oA,Value.isStrOf]
theorem Ee(a b:Int):decide ((Sum.inl a:Key)=Sum.inl b)=(a == b):=by
 by_cases e:a=b
 ·subst e;simp
 ·have h:¬(Sum.inl a:Key)=Sum.inl b:=fun q=>e (Sum.inl.inj q);rw[decide_eq_false h];exact(beq_eq_false_iff_ne.mpr e).symm
theorem Ef(a b:Str):decide ((Sum.inr a:Key)=Sum.inr b)=decide (a=b):=by
 by_cases e:a=b
 ·subst e;simp
 ·have h:¬(Sum.inr a:Key)=Sum.inr b:=fun q=>e (Sum.inr.inj q);rw[decide_eq_false h,decide_eq_false e]
theorem Eg(a:Int)(b:Str):decide ((Sum.inl a:Key)=Sum.inr b)=false:=decide_eq_false (fun q=>nomatch q)
theorem Eh(a:Str)(b:Int):decide ((Sum.inr a:Key)=Sum.inl b)=false:=decide_eq_false (fun q=>nomatch q)
def dM(prog:qBc)(w:qCd):PySem.KeyKind prog w Key where
 is:=oA
 hash:=KS w
 inj:=fun v a b ha hb=>by
  rcases cU ha with ⟨i,t,rfl,rfl⟩ | ⟨x,t,rfl,rfl⟩
  ·rcases cU hb with ⟨j,u,rfl,e⟩ | ⟨y,u,rfl,e⟩
   ·injection e with e1 _;rw[e1]
   ·exact nomatch e
  ·rcases cU hb with ⟨j,u,rfl,e⟩ | ⟨y,u,rfl,e⟩
   ·exact nomatch e
   ·injection e with e1 _;rw[e1]
 byValue:=fun k v h=>by
  rcases cU h with ⟨i,t,rfl,rfl⟩ | ⟨x,t,rfl,rfl⟩ <;> rfl
 pyHash:=fun hv h=>by
  rcases cU hv with ⟨i,t,rfl,rfl⟩ | ⟨x,t,rfl,rfl⟩
  ·exact wpAny_pyHash_int h
  ·exact wpAny_pyHash_str h
 eqBool:=fun hu hv h=>by
  rcases cU hu with ⟨i,t,rfl,rfl⟩ | ⟨x,t,rfl,rfl⟩
  ·rcases cU hv with ⟨j,u,rfl,rfl⟩ | ⟨y,u,rfl,rfl⟩
   ·rw[Ee] at h;exact wpAny_eqBool_int h
   ·rw[Eg] at h;exact SeqAt.EqAt.int_str i t y u _ _ _ _ h
  ·rcases cU hv with ⟨j,u,rfl,rfl⟩ | ⟨y,u,rfl,rfl⟩
   ·rw[Eh] at h;exact SeqAt.EqAt.str_int x t j u _ _ _ _ h
   ·rw[Ef] at h;exact wpAny_eqBool_str h
 «strs»:=fun k x t v h=>by
  rcases cU h with ⟨i,u,rfl,e⟩ | ⟨y,u,rfl,e⟩
  ·exact nomatch e
  ·injection e with e1 _
   subst e1;cases v <;> rfl
theorem rJ(prog:qBc)(w:qCd)(i:Int)(t:Tok):(dM prog w).is (.inl i) (.int i t)=true:=wQ i t
theorem rK(prog:qBc)(w:qCd)(x:Str)(t:Tok):(dM prog w).is (.inr x) (.str x t)=true:=wU x t
inductive V where
 | non | bl (b:Bool) | int (i:Int) | str (x:Str) | byt (b:Array UInt8) | flt (b:UInt64) | ref (a:Addr) | ty (n:String)
 deriving DecidableEq
def RelV:V->qAf->Prop
 | .non,u=>u=Value.none
 | .bl b,u=>u=Value.bool b
 | .int i,u=>∃t,u=Value.int i t
 | .str x,u=>∃t,u=Value.str x t
 | .byt b,u=>∃t,u=Value.bytes b t
 | .flt b,u=>∃t,u=Value.float b t
 | .ref a,u=>u=Value.ref a
 | .ty n,u=>u=Value.type n
abbrev Vals:List V->List qAf->Prop:=Paired RelV
theorem Vals.length(r:Vals xs us):xs.length=us.length:=Paired.length r
theorem Vals.get:∀{xs:List V}{us:List qAf}{i:Nat}{x:V},Vals xs us->xs[i]?=some x->∃u,us[i]?=some u/\RelV x u
 | _,_,_,_,.nil,e=>by simp at e
 | _,_,0,_,.cons r _,e=>by simp at e;subst e;exact⟨_,rfl,r⟩
 | _,_,i+1,x,.cons _ t,e=>by
  obtain⟨u,h1,h2⟩:=Vals.get (i:=i) (x:=x) t (by simpa using e);exact⟨u,by simpa using h1,h2⟩
theorem Vals.set(r:RelV x u):∀{xs:List V}{us:List qAf} (i:Nat),Vals xs us->Vals (xs.set i x) (us.set i u)
 | _,_,_,.nil=>.nil
 | _,_,0,.cons _ t=>.cons r t
 | _,_,i+1,.cons q t=>.cons q (Vals.set r i t)
theorem Vals.append:∀{xs ys:List V}{us ws:List qAf},Vals xs us->Vals ys ws->Vals (xs++ys) (us++ws)
 | _,_,_,_,.nil,s=>s
 | _,_,_,_,.cons r t,s=>.cons r (Vals.append t s)
theorem Vals.take:∀{xs:List V}{us:List qAf} (n:Nat),Vals xs us->Vals (xs.take n) (us.take n)
 | _,_,0,_=>.nil
 | _,_,_+1,.nil=>.nil
 | _,_,n+1,.cons r t=>.cons r (Vals.take n t)
theorem Vals.drop:∀{xs:List V}{us:List qAf} (n:Nat),Vals xs us->Vals (xs.drop n) (us.drop n)
 | _,_,0,r=>r
 | _,_,_+1,.nil=>.nil
 | _,_,n+1,.cons _ t=>Vals.drop n t
def jI:Option V->Option qAf->Prop
 | some v,some u=>RelV v u
 | none,none=>True
 | _,_=>False
def KV{κ:Type}:List (κ×V)->List (κ×qAf)->Prop:=Paired fun(p:κ×V) (q:κ×qAf)=>p.1=q.1/\RelV p.2 q.2
def kV:Key->V
 | .inl i=>.int i
 | .inr x=>.str x
inductive HO where
 | lst (xs:List V)
 | tup (xs:List V)
 | dK (kvs:List (Key×V)) | dT (kvs:List (List Key×V))
 | set (S:Int->Bool) (n:Nat)
 | ins (C dx:Addr) (fs:List (Str×V))
 | own (x:Addr)
 | xd (fs:List (Str×V))
 | met (f x:Addr)
 | rng (lo hi:Int)
 | frz (o:Obj) (u:HO)
 | tbl (ps:Array qAf)
 | ext (φ:Heap->Prop)
abbrev Hp:=Addr->Option HO
def upd(H:Hp)(a:Addr)(o:HO):Hp:=fun b=>if b=a then some o else H b
theorem aC:upd H a o a=some o:=by unfold upd;rw[if_pos rfl]
theorem aL(h:b≠a):upd H a o b=H b:=by unfold upd;rw[if_neg h]
theorem BJ:upd (upd H a o) a u=upd H a u:=by
 funext b;unfold upd;split <;> rfl
theorem e8{H:Hp}{a b:Addr}{o u:HO}(h:H a=some o)(h':H b=some u)(d:o≠u):a≠b:=by
 intro e;subst e;rw[h] at h';exact d (Option.some.inj h')
theorem aT{H:Hp}{a b:Addr}{o:HO}(h:H a=some o)(h':H b=none):a≠b:=by
 intro e;subst e;rw[h] at h';cases h'
section
variable (P:qBc) (w:qCd)
def cZ(H:Hp)(h:Heap)(a:Addr):HO->Prop
 | .lst xs=>xs.length<=qAg/\∃(its:List qAf) (n:Nat),Vals xs its/\h.get? a=some { cls:=.type "list",data:=.seq its.toArray n }
 | .tup xs=>xs.length<=qAg/\∃its:List qAf,Vals xs its/\IsTup h a its.toArray
 | .dK kvs=>kvs.length<=qAg/\(a == qFe)=false/\∃vs,KV kvs vs/\h.DictOf (dM P w) a vs
 | .dT kvs=>kvs.length<=qAg/\(a == qFe)=false/\∃xs:List (List Key×Addr×qAf),
   Paired (fun(p:List Key×V) (q:List Key×Addr×qAf)=>p.1=q.1/\H q.2.1=some (.tup (p.1.map kV))/\RelV p.2 q.2.2) kvs xs /\
   ∃o es ep,h.get? a=some o/\o.ExactDict/\o.data = .dict es ep/\es.toList=xs.map (entryOfKey (qJl (dM P w)))/\(xs.map (·.1)).Nodup
 | .set S n=>h.SetOf (intKind P w) a S n
 | .ins C dx fs=>H dx=some (.own a)/\fs.length<=1000/\dx≠a/\h.get? a=some (qDu C dx) /\
   ∃mA,h.Ns1 dx mA/\(∀f,jI (fs.lookup f) (mA f))/\PySem.Within mA (fs.map (·.1))
 | .own _=>∃o,h.get? a=some o
 | .xd fs=>∃mA,h.Ns1 a mA/\∀f,jI (fs.lookup f) (mA f)
 | .rng lo hi=>∃t u v,h.get? a=some { cls:=.type "range",data:=.fields #[.int lo t,.int hi u,.int 1 v] }
 | .frz o u=>h.get? a=some o/\cZ H h a u
 | .tbl ps=>h.get? a=some { cls:=.none,data:=.fields ps }
 | .met f x=>h.get? a=some (qHb (.ref f) (.ref x))
 | .ext φ=>φ h/\(∃o,h.get? a=some o)/\∀h1 h2:Heap,φ h1->(∀o,h1.get? a=some o->h2.get? a=some o)->φ h2
def jD(H:Hp)(h:Heap):Prop:=∀a o,H a=some o->cZ P w H h a o
end
section
variable {P:qBc}{w:qCd}{H H':Hp}{h h':Heap}{a:Addr}{o:HO}
theorem cZ.lt(x:cZ P w H h a o):a<h.objs.size:=by
 cases o with
 | lst xs=>obtain⟨_,_,_,_,e⟩:=x;exact qAy e
 | tup xs=>obtain⟨_,_,_,p⟩:=x;exact p.lt
 | dK kvs=>obtain⟨_,_,_,_,o,_,_,e,_⟩:=x;exact qAy e
 | dT kvs=>obtain⟨_,_,_,_,o,_,_,e,_⟩:=x;exact qAy e
 | set S n=>obtain⟨o,_,_,_,e,_⟩:=x;exact qAy e
 | ins C dx fs=>obtain⟨_,_,_,e,_⟩:=x;exact qAy e
 | own y=>obtain⟨_,e⟩:=x;exact qAy e
 | xd fs=>obtain⟨_,⟨_,_,_,e,_⟩,_⟩:=x;exact qAy e
 | rng lo hi=>obtain⟨_,_,_,e⟩:=x;exact qAy e
 | frz ob u=>obtain⟨e,_⟩:=x;exact qAy e
 | tbl ps=>exact qAy (show h.get? a=some _ from x)
 | met f y=>exact qAy (show h.get? a=some _ from x)
 | ext φ=>obtain⟨_,⟨_,e⟩,_⟩:=x;exact qAy e
theorem Paired.Ei:∀{l₁:List α}{l₂:List β},Paired F l₁ l₂->(∀a b,F a b->G a b)->Paired G l₁ l₂
 | _,_,.nil,_=>.nil
 | _,_,.cons r t,f=>.cons (f _ _ r) (Paired.Ei t f)
theorem cZ.lA(x:cZ P w H h a o)(k:∀b u,(b=a\/H b=some (.own a))->h.get? b=some u->h'.get? b=some u)
  (ho:∀b,H b=some (.own a)->H' b=some (.own a)) (ht:∀b xs,H b=some (.tup xs)->H' b=some (.tup xs)):cZ P w H' h' a o:=by
 induction o with
 | lst xs=>obtain⟨z,its,n,r,e⟩:=x;exact⟨z,its,n,r,k _ _ (.inl rfl) e⟩
 | tup xs=>obtain⟨z,its,r,ob,e,c⟩:=x;exact⟨z,its,r,ob,k _ _ (.inl rfl) e,c⟩
 | dK kvs=>obtain⟨z,y,vs,r,ob,es,ep,e,c⟩:=x;exact⟨z,y,vs,r,ob,es,ep,k _ _ (.inl rfl) e,c⟩
 | dT kvs =>
  obtain⟨z,y,xs,r,ob,es,ep,e,c⟩:=x;exact⟨z,y,xs,Paired.Ei r fun p q z=>⟨z.1,ht _ _ z.2.1,z.2.2⟩,ob,es,ep,k _ _ (.inl rfl) e,c⟩
 | set S n=>obtain⟨ob,es,ep,t,e,c⟩:=x;exact⟨ob,es,ep,t,k _ _ (.inl rfl) e,c⟩
 | ins C dx fs =>
  obtain⟨d,z,ne,e,mA,⟨od,es,ep,e2,c⟩,r⟩:=x;exact⟨ho _ d,z,ne,k _ _ (.inl rfl) e,mA,⟨od,es,ep,k _ _ (.inr d) e2,c⟩,r⟩
 | own y=>obtain⟨ob,e⟩:=x;exact⟨ob,k _ _ (.inl rfl) e⟩
 | xd fs=>obtain⟨mA,⟨od,es,ep,e,c⟩,r⟩:=x;exact⟨mA,⟨od,es,ep,k _ _ (.inl rfl) e,c⟩,r⟩
 | rng lo hi=>obtain⟨t,u,v,e⟩:=x;exact⟨t,u,v,k _ _ (.inl rfl) e⟩
 | frz ob u ih=>obtain⟨e,q⟩:=x;exact⟨k _ _ (.inl rfl) e,ih q⟩
 | tbl ps =>
  have e:h.get? a=some { cls:=.none,data:=.fields ps }:=x;show h'.get? a=some { cls:=.none,data:=.fields ps };exact k a _ (.inl rfl) e
 | met f y =>
  have e:h.get? a=some (qHb (.ref f) (.ref y)):=x;show h'.get? a=some (qHb (.ref f) (.ref y));exact k a _ (.inl rfl) e
 | ext φ=>obtain⟨p,⟨o,e⟩,st⟩:=x;exact⟨st _ _ p fun o q=>k _ _ (.inl rfl) q,⟨o,k _ _ (.inl rfl) e⟩,st⟩
theorem jD.lt(x:jD P w H h)(e:H a=some o):a<h.objs.size:=(x a o e).lt
theorem jD.fresh(x:jD P w H h)(e:h.objs.size<=a):H a=none:=by
 cases q:H a with
 | none=>rfl
 | some u=>exact absurd (qAo (x.lt q) e) (qEk _)
theorem jD.kept(x:jD P w H h)(k:∀b u,h.get? b=some u->h'.get? b=some u):jD P w H h':=fun a o e =>
 (x a o e).lA (fun b u _ q=>k b u q) (fun _ q=>q) fun _ _ q=>q
theorem jD.laid(x:jD P w H h)(k:∀b u,h.get? b=some u->h'.get? b=some u)(hp:h.objs.size<=a)(new:cZ P w (upd H a o) h' a o):jD P w (upd H a o) h':=fun b u e=>by
 have hn:=x.fresh hp;by_cases hb:b=a
 ·subst hb;rw[aC] at e;cases e;exact new
 ·rw[aL hb] at e;exact(x b u e).lA (fun c v _ q=>k c v q) (fun c q=>by rw[aL (aT q hn)];exact q) fun c xs q=>by rw[aL (aT q hn)];exact q
end
def Rd(H:Hp)(a:Addr)(u:HO):Prop:=H a=some u\/∃o,H a=some (.frz o u)
theorem Rd.ok(r:Rd H a u)(x:jD P w H h):cZ P w H h a u:=by
 rcases r with r | ⟨o,r⟩
 ·exact x a u r
 ·obtain⟨_,q⟩:=x a _ r;exact q
def Iw:Option HO->Prop
 | some (.lst _)=>True
 | some (.dK _)=>True
 | some (.dT _)=>True
 | some (.set _ _)=>True
 | some (.ins _ _ _)=>True
 | some (.ext _)=>True
 | _=>False
section
variable {P:qBc}{w:qCd}{H:Hp}{h h':Heap}{x e:Addr}{o':HO}
theorem jD.write(ok:jD P w H h)(mu:Iw (H x))(he:e=x\/H e=some (.own x))(k:∀b u,b≠e->h.get? b=some u->h'.get? b=some u)(heo:∃u,h'.get? e=some u)
  (new:cZ P w (upd H x o') h' x o'):jD P w (upd H x o') h':=fun b u q=>by
 have nown:∀c y,H c=some (.own y)->c≠x:=fun c y r z=>by subst z;rw[r] at mu;exact mu
 have ntup:∀c xs,H c=some (.tup xs)->c≠x:=fun c xs r z=>by subst z;rw[r] at mu;exact mu
 by_cases hb:b=x
 ·subst hb;rw[aC] at q;cases q;exact new
 ·rw[aL hb] at q;by_cases hbe:b=e
  ·have q':H b=some (.own x):=by
    rcases he with z | z
    ·exact absurd (hbe.trans z) hb
    ·rw[hbe];exact z
   rw[q] at q';cases q';obtain⟨v,hv⟩:=heo;exact⟨v,by rw[hbe];exact hv⟩
  ·refine(ok b u q).lA (fun c v hc r=>k c v ?_ r) (fun c r=>by rw[aL (nown c b r)];exact r) fun c xs r=>by rw[aL (ntup c xs r)];exact r
   rcases hc with rfl | hc
   ·exact hbe
   ·rintro rfl;rcases he with z | z
    ·exact nown c b hc z
    ·rw[hc] at z;cases z;exact hb rfl
end
structure Un (fs ex:List Addr) (H H':Hp) (h h':Heap):Prop where
 keep:∀b o,h.get? b=some o->H b=none->b∉fs->b∉ex->h'.get? b=some o
 slot:∀b o,h.get? b=some o->H b=none->b∈fs->b∉ex->∃sl,h'.get? b=some { o with slots:=sl }
 free:∀b o,h.get? b=some o->H b=none->b∉ex->H' b=none
 there:∀b o,h.get? b=some o->b∉ex->∃o',h'.get? b=some o'
 g7:∀b xs,H b=some (.tup xs)->H' b=some (.tup xs)
 jJ:∀b o u,H b=some (.frz o u)->H' b=some (.frz o u)
 j8:∀b ps,H b=some (.tbl ps)->∃more,H' b=some (.tbl (ps++more))
section
variable {fs fs' ex ex':List Addr}{H H1 H2:Hp}{h h1 h2 h':Heap}{a x e:Addr}{o:HO}
theorem Un.any(u:Un fs ex H H1 h h1){b:Addr}{ob:Obj}(q:h.get? b=some ob)(n:H b=none)(hx:b∉ex):∃sl,h1.get? b=some { ob with slots:=sl }:=by
 by_cases hb:b∈fs
 ·exact u.slot b ob q n hb hx
 ·exact⟨ob.slots,u.keep b ob q n hb hx⟩
theorem Un.kept(k:∀b u,h.get? b=some u->h'.get? b=some u):Un fs ex H H h h' :=
 ⟨fun b ob q _ _ _=>k b ob q,fun b ob q _ _ _=>⟨ob.slots,k b ob q⟩,fun _ _ _ n _=>n,fun b ob q _=>⟨ob,k b ob q⟩,fun _ _ q=>q,fun _ _ _ q=>q,fun _ ps q=>⟨#[],by rw[q];simp⟩⟩
theorem Un.refl:Un fs ex H H h h:=Un.kept fun _ _ q=>q
theorem Un.laid(k:∀b u,h.get? b=some u->h'.get? b=some u)(hp:h.objs.size<=a)(hn:H a=none):Un fs ex H (upd H a o) h h' where
 keep:=fun b u q _ _ _=>k b u q
 slot:=fun b u q _ _ _=>⟨u.slots,k b u q⟩
 free:=fun b u q n _=>by rw[aL (qBn (qAo (qAy q) hp))];exact n
 there:=fun b u q _=>⟨u,k b u q⟩
 g7:=fun b xs q=>by rw[aL (aT q hn)];exact q
 jJ:=fun b u xs q=>by rw[aL (aT q hn)];exact q
 j8:=fun b ps q=>⟨#[],by rw[aL (aT q hn),q];simp⟩
theorem Un.write(mu:Iw (H x))(he:e=x\/H e=some (.own x))(k:∀b u,b≠e->h.get? b=some u->h'.get? b=some u)(heo:∃u,h'.get? e=some u):Un fs ex H (upd H x o) h h':=by
 have hx:∀b,H b=none->b≠x:=fun b n z=>by subst z;rw[n] at mu;exact mu
 have hb:∀b,H b=none->b≠e:=fun b n z=>by
  subst z;rcases he with r | r
  ·exact hx b n r
  ·rw[n] at r;cases r
 have hm:∀b u,H b=some u->¬Iw (some u)->b≠x:=fun b u q nm z=>by subst z;rw[q] at mu;exact nm mu
 refine⟨fun b u q n _ _=>k b u (hb b n) q,fun b u q n _ _=>⟨u.slots,k b u (hb b n) q⟩,fun b u q n _=>by rw[aL (hx b n)];exact n,fun b u q _=>?_,
  fun b xs q=>by rw[aL (hm b _ q fun z=>z)];exact q,fun b u xs q=>by rw[aL (hm b _ q fun z=>z)];exact q,fun b ps q=>⟨#[],by rw[aL (hm b _ q fun z=>z),q];simp⟩⟩
 by_cases hbe:b=e
 ·subst hbe;exact heo
 ·exact⟨u,k b u hbe q⟩
end
def KL(h:Heap)(H:Hp):List Addr:=(qAq h.objs.size).filter fun a=>(H a).isSome
def pO(h:Heap)(H:Hp):Heap:=qHl h (KL h H)
theorem wW(h:Heap)(H:Hp):(pO h H).objs.size=h.objs.size:=PySem.W.hideAll_size _ _
theorem zG(e:h.get? b=some o)(n:H b=none):(pO h H).get? b=some o :=
 qJe _ e fun hm=>by
  have q:(H b).isSome=true:=(List.mem_filter.mp hm).2;rw[n] at q;simp at q
theorem BK(e:(pO h H).get? b=some o):h.get? b=some o/\H b=none:=by
 have e':h.get? b=some o:=qJo (KL h H) e;refine⟨e',?_⟩;cases q:H b with
 | none=>rfl
 | some x =>
  have hm:b∈KL h H:=List.mem_filter.mpr ⟨List.mem_range.mpr (qAy e'),by simp[q]⟩;have z:(pO h H).get? b=none:=PySem.W.hideAll_none (KL h H) hm;rw[z] at e;cases e
def BL(g h:Heap)(L:Addr):List (Addr×Obj):=(qAq h.objs.size).filterMap fun a=>if a=L\/(g.get? a).isSome=true then none else (h.get? a).map fun o=>(a,o)
def rest(g h:Heap)(L d:Addr):List (Addr×Obj):=(BL g h L).filter fun p=>decide (p.1≠d)
structure Mod (K:qAb) (mg:Str->Option qAf) (base:Heap):Prop where
 Dp:K.In base
 glob:base.Ns qAx mg
 blt:∃mb,base.Ns builtinsNs mb/\∀x:Str,x≠"__name__"->mb x=qCk x
 nolimit:base.NoLimit
structure Cx where
 prog:qBc
 w:qCd
 K:qAb
 mg:Str->Option qAf
 base:Heap
 A:qCu
 N:List Str
 s₀:qAk
 H₀:Hp
 env:Env
 outer:List Env
 stack:List Env
 ex:List Addr
 fn:Str->Bool
 calm:Bool
 pn:List (Addr×Obj)
 xe:qAf->qAk->Prop
def nL(l:List Env):List Addr:=l.filterMap (·.frame)
abbrev Cx.fs(X:Cx):List Addr:=nL X.outer
def KU(sc:qIn)(x:Str):Prop:=sc.names.lookup x=some .local\/sc.names.lookup x=some .cell\/sc.names.lookup x=some .free
def Loc(sc:qIn)(x:Str):Prop:=sc.names.lookup x=some .local\/sc.names.lookup x=some .cell
def Look(env:Env)(h:Heap)(m:Str->Option qAf)(x:Str)(u:qAf):Prop :=
 (env.kindOf x=some .local/\m x=some u)\/((env.kindOf x=some .cell\/env.kindOf x=some .free)/\∃c,env.cells.lookup x=some c/\h.IsCell c (some u))
structure Cx.Ok (X:Cx):Prop where
 mod:Mod X.K X.mg X.base
 kind:X.env.scope.kind = .function
 glob:X.env.globals=qAx
 blt:X.env.builtins=builtinsNs
 above:X.s₀.heap.objs.size<=X.env.locals
 inj:∀x y c,X.env.cells.lookup x=some c->X.env.cells.lookup y=some c->x=y
 has:∀x,(X.env.kindOf x=some .cell\/X.env.kindOf x=some .free)->∃c,X.env.cells.lookup x=some c
 Iy:∀x c,X.fn x=true->X.env.cells.lookup x=some c->X.s₀.heap.objs.size<=c
 hd:X.calm=true->X.A.handled=none
 frames:X.A.frames=some X.stack
 KN:X.stack=X.outer\/(X.stack=X.env::X.outer/\X.env.frame=some X.env.locals)
 MG:∀b∈X.ex,b≠X.env.locals/\∀x c,X.env.cells.lookup x=some c->c≠b
 bs:∀b o,X.base.get? b=some o->X.s₀.heap.get? b=some o/\X.H₀ b=none
 BM:X.base.objs.size<=X.s₀.heap.objs.size
 zH:∀b o,X.base.get? b=some o->b∉X.ex
 BN:∀b∈X.ex,b∉X.fs
 jE:X.s₀.heap.FunFrames X.base X.outer
 Dq:∀b∈X.fs,X.H₀ b=none
structure Inv (X:Cx) (pins:List (Addr×Obj)) (σ:List (Option V)) (H:Hp) (s:qAk):Prop where
 ok:X.Ok
 os:s.os=X.s₀.os
 bare:qHe s.gens
 base:Un X.fs X.ex X.H₀ H X.s₀.heap s.heap
 loc:∃m,s.heap.Ns X.env.locals m/\∀(i:Nat) (x:Str) (v:V),X.N[i]?=some x->σ[i]?=some (some v)->KU X.env.scope x->∃u,RelV v u/\Look X.env s.heap m x u
 cell:∀x c,X.env.cells.lookup x=some c->∃v,s.heap.IsCell c v
 free:H X.env.locals=none
 g8:∀x c,X.env.cells.lookup x=some c->H c=none
 pin:∀p∈X.pn++pins,s.heap.get? p.1=some p.2/\H p.1=none/\p.1≠X.env.locals/\p.1∉X.fs/\∀v,p.2.data≠.cell v
 cQ:jD X.prog X.w H s.heap
 len:σ.length=X.N.length
section
variable {X:Cx}{pins:List (Addr×Obj)}{σ:List (Option V)}{H H':Hp}{s:qAk}{h':Heap}
theorem Cx.Ok.KW(ok:X.Ok){b:Addr}{o:Obj}(e:X.base.get? b=some o):b∉X.fs:=fun hb=>by
 have:=(ok.jE.mem hb).1;rw[e] at this;cases this
theorem Inv.bs(I:Inv X pins σ H s):∀b o,X.base.get? b=some o->s.heap.get? b=some o/\H b=none:=fun b o e =>
 ⟨I.base.keep b o (I.ok.bs b o e).1 (I.ok.bs b o e).2 (I.ok.KW e) (I.ok.zH b o e),I.base.free b o (I.ok.bs b o e).1 (I.ok.bs b o e).2 (I.ok.zH b o e)⟩
theorem Inv.bk(I:Inv X pins σ H s):∀b o,X.base.get? b=some o->s.heap.get? b=some o:=fun b o e=>(I.bs b o e).1
theorem Inv.mod(I:Inv X pins σ H s):Mod X.K X.mg X.base:=I.ok.mod
theorem Inv.nM(I:Inv X pins σ H s):X.K.In s.heap:=I.ok.mod.Dp.keeps I.bk
theorem Inv.lt(I:Inv X pins σ H s):X.env.locals<s.heap.objs.size:=let ⟨_,hn,_⟩:=I.loc;hn.lt
theorem Inv.sz(I:Inv X pins σ H s):X.s₀.heap.objs.size<=s.heap.objs.size:=qAt I.ok.above (qBb I.lt)
theorem Inv.Ej(I:Inv X pins σ H s){a:Addr}(h:s.heap.objs.size<=a):a∉X.fs:=fun hb=>by
 obtain⟨_,o,ho,_⟩:=I.ok.jE.mem hb;exact absurd (qAo (qAy ho) (qAt I.sz h)) (qEk _)
theorem Inv.Ek(I:Inv X pins σ H s):∀x c,X.env.cells.lookup x=some c->c≠X.env.locals:=fun x c e z=>by
 obtain⟨v,o,ho,hd⟩:=I.cell x c e;obtain⟨m,⟨o',es,ep,ho',hd',_⟩,_⟩:=I.loc;rw[z,ho'] at ho;cases ho;rw[hd'] at hd;cases hd
theorem Inv.jE(I:Inv X pins σ H s):s.heap.FunFrames X.base X.outer:=by
 have all:∀(l:List Env),(∀b∈nL l,b∈X.fs)->X.s₀.heap.FunFrames X.base l->s.heap.FunFrames X.base l:=by
  intro l;induction l with
  | nil=>intro _ _;trivial
  | cons env r ih =>
   intro hs hl;obtain⟨hk,⟨L,o,hf,hn,ho,hd⟩,hr⟩:=hl;have hL:L∈X.fs:=hs L (by unfold nL;rw[qCj,hf];exact qCb);obtain⟨sl,e⟩:=I.base.slot L o ho (I.ok.Dq L hL) hL fun z=>I.ok.BN L z hL;exact⟨hk,⟨L,_,hf,hn,e,hd⟩,ih (fun b hb=>hs b (by unfold nL;rw[qCj,hf];exact qBf _ hb)) hr⟩
 exact all X.outer (fun _ hb=>hb) I.ok.jE
theorem Inv.stack(I:Inv X pins σ H s):s.heap.FunFrames X.base X.stack:=by
 rcases I.ok.KN with e | ⟨e,hf⟩
 ·rw[e];exact I.jE
 ·rw[e];obtain⟨m,hn,_⟩:=I.loc;refine .cons (by rw[I.ok.kind];decide) hf hn ?_ I.jE;exact qGv (qAt I.ok.BM I.ok.above)
theorem Inv.lU(I:Inv X pins σ H s):∀b∈nL X.stack,b∈X.env.locals::X.fs:=fun b hb=>by
 rcases I.ok.KN with e | ⟨e,hf⟩
 ·rw[e] at hb;exact qBf _ hb
 ·rw[e] at hb;unfold nL at hb;rw[qCj,hf] at hb;exact hb
theorem Inv.pP(I:Inv X pins σ H s):∀b∈nL X.stack,H b=none:=fun b hb=>by
 rcases List.mem_cons.mp (I.lU b hb) with e | hb
 ·rw[e];exact I.free
 ·obtain⟨_,o,ho,_⟩:=I.ok.jE.mem hb;exact I.base.free b o ho (I.ok.Dq b hb) fun z=>I.ok.BN b z hb
theorem Inv.step{g':Array qLz}{t':Nat}{d':Drawn}{ch:List Addr}(I:Inv X pins σ H s)
  (hch:∀b∈ch,(b∈X.ex\/X.s₀.heap.objs.size<=b)/\b≠X.env.locals/\(∀x c,X.env.cells.lookup x=some c->c≠b)/\∀p∈X.pn++pins,p.1≠b)
  (keep:∀b o,b≠X.env.locals->b∉X.fs->b∉ch->s.heap.get? b=some o->H b=none->h'.get? b=some o)
  (slot:∀b o,b≠X.env.locals->b∈X.fs->b∉ch->s.heap.get? b=some o->H b=none->∃sl,h'.get? b=some { o with slots:=sl }) (free:∀b o,b∉ch->s.heap.get? b=some o->H b=none->H' b=none)
  (there:∀b o,b∉ch->s.heap.get? b=some o->∃o',h'.get? b=some o')
  (g7:∀b xs,H b=some (.tup xs)->H' b=some (.tup xs)) (jJ:∀b o u,H b=some (.frz o u)->H' b=some (.frz o u)) (j8:∀b ps,H b=some (.tbl ps)->∃more,H' b=some (.tbl (ps++more)))
  (ns:∀m,s.heap.Ns X.env.locals m->h'.Ns X.env.locals m) (cQ:jD X.prog X.w H' h') (hg:qHe g') :
  Inv X pins σ H' { s with heap:=h',gens:=g',drawn:=d',toks:=t' }:=by
 have neL:∀b o,X.s₀.heap.get? b=some o->b≠X.env.locals:=fun b o e=>qBn (qAo (qAy e) I.ok.above);have neC:∀b o,X.s₀.heap.get? b=some o->b∉X.ex->b∉ch:=fun b o e hx hb=>by
  rcases(hch b hb).1 with z | z
  ·exact hx z
  ·exact absurd (qAo (qAy e) z) (qEk _)
 have cellK:∀x c,X.env.cells.lookup x=some c->∀v,s.heap.IsCell c v->h'.IsCell c v:=fun x c e v ⟨o,ho,hd⟩=>by
  have nch:c∉ch:=fun z=>(hch c z).2.2.1 x c e rfl;by_cases hc:c∈X.fs
  ·obtain⟨sl,q⟩:=slot c o (I.Ek x c e) hc nch ho (I.g8 x c e);exact⟨_,q,hd⟩
  ·exact⟨o,keep c o (I.Ek x c e) hc nch ho (I.g8 x c e),hd⟩
 refine⟨I.ok,I.os,hg,⟨fun b o e n hb hx=>?_,fun b o e n hb hx=>?_,fun b o e n hx=>?_,fun b o e hx=>?_,fun b xs e=>g7 b xs (I.base.g7 b xs e),fun b o xs e=>jJ b o xs (I.base.jJ b o xs e),fun b ps e=>?_⟩,?_,fun x c e=>?_,?_,fun x c e=>?_,fun p hp=>?_,cQ,I.len⟩
 ·exact keep b o (neL b o e) hb (neC b o e hx) (I.base.keep b o e n hb hx) (I.base.free b o e n hx)
 ·obtain⟨sl,e1⟩:=I.base.slot b o e n hb hx;obtain⟨sl',e2⟩:=slot b _ (neL b o e) hb (neC b o e hx) e1 (I.base.free b o e n hx);exact⟨sl',e2⟩
 ·obtain⟨o',e1⟩:=I.base.there b o e hx;exact free b o' (neC b o e hx) e1 (I.base.free b o e n hx)
 ·obtain⟨o',e1⟩:=I.base.there b o e hx;exact there b o' (neC b o e hx) e1
 ·obtain⟨m1,e1⟩:=I.base.j8 b ps e;obtain⟨m2,e2⟩:=j8 b _ e1;exact⟨m1++m2,by rw[e2,qKd]⟩
 ·obtain⟨m,hn,hl⟩:=I.loc;refine⟨m,ns m hn,fun i x v e1 e2 e3=>?_⟩;obtain⟨u,r,l⟩:=hl i x v e1 e2 e3;refine⟨u,r,?_⟩;rcases l with l | ⟨k,c,e,z⟩
  ·exact .inl l
  ·exact .inr ⟨k,c,e,cellK x c e _ z⟩
 ·obtain⟨v,z⟩:=I.cell x c e;exact⟨v,cellK x c e v z⟩
 ·obtain⟨m,⟨o,_,_,ho,_⟩,_⟩:=I.loc;exact free _ o (fun z=>(hch _ z).2.1 rfl) ho I.free
 ·obtain⟨v,o,ho,hd⟩:=I.cell x c e;exact free c o (fun z=>(hch c z).2.2.1 x c e rfl) ho (I.g8 x c e)
 ·obtain⟨e,n,ne,nf,d⟩:=I.pin p hp;have nch:p.1∉ch:=fun z=>(hch p.1 z).2.2.2 p hp rfl;exact⟨keep p.1 p.2 ne nf nch e n,free p.1 p.2 nch e n,ne,nf,d⟩
theorem Inv.un{t':Nat}(I:Inv X pins σ H s)(u:Un X.fs [] H H' s.heap h')(cQ:jD X.prog X.w H' h'):Inv X pins σ H' { s with heap:=h',toks:=t' }:=by
 obtain⟨m,⟨o,es,ep,ho,r⟩,_⟩:=id I.loc;obtain⟨sl,hL⟩:=u.any ho I.free (by simp);exact I.step (g':=s.gens) (d':=s.drawn) (ch:=[]) (fun _ z=>nomatch z) (fun b o _ hb _ e n=>u.keep b o e n hb (by simp)) (fun b o _ hb _ e n=>u.slot b o e n hb (by simp)) (fun b o _ e n=>u.free b o e n (by simp)) (fun b o _ e=>u.there b o e (by simp)) u.g7 u.jJ u.j8 (fun m' hm=>by
  obtain⟨o',es',ep',ho',r'⟩:=hm;rw[ho] at ho';cases ho';exact⟨_,es',ep',hL,r'⟩) cQ I.bare
theorem Inv.call{g':Array qLz}{t':Nat}{d':Drawn}{ch:List Addr}(I:Inv X pins σ H s)(u:Un (nL X.stack) ch H H' s.heap h')(cQ:jD X.prog X.w H' h')(hg:qHe g')
  (hch:∀b∈ch,(b∈X.ex\/X.s₀.heap.objs.size<=b)/\b≠X.env.locals/\(∀x c,X.env.cells.lookup x=some c->c≠b)/\∀p∈X.pn++pins,p.1≠b) :
  Inv X pins σ H' { s with heap:=h',gens:=g',drawn:=d',toks:=t' }:=by
 obtain⟨m,⟨o,es,ep,ho,r⟩,_⟩:=id I.loc;obtain⟨sl,hL⟩:=u.any ho I.free fun z=>(hch _ z).2.1 rfl;exact I.step (ch:=ch) hch (fun b o hL hb hc e n=>u.keep b o e n (fun z=>(List.mem_cons.mp (I.lU b z)).elim hL hb) hc) (fun b o _ _ hc e n=>u.any e n hc) (fun b o hc e n=>u.free b o e n hc) (fun b o hc e=>u.there b o e hc) u.g7 u.jJ u.j8 (fun m' hm=>by
  obtain⟨o',es',ep',ho',r'⟩:=hm;rw[ho] at ho';cases ho';exact⟨_,es',ep',hL,r'⟩) cQ hg
theorem Inv.turned{t':Nat}{it:Addr}(I:Inv X pins σ H s)(k:∀b o,b≠it->s.heap.get? b=some o->h'.get? b=some o)(hn:H it=none)(hL:it≠X.env.locals)
  (h1:it∈X.ex\/X.s₀.heap.objs.size<=it) (h2:∀x c,X.env.cells.lookup x=some c->c≠it) (h3:∀p∈X.pn++pins,p.1≠it):Inv X pins σ H { s with heap:=h',toks:=t' }:=by
 have nit:∀b u,H b=some u->b≠it:=fun b u e z=>by rw[z,hn] at e;cases e
 refine I.step (g':=s.gens) (d':=s.drawn) (ch:=[it]) (fun b hb=>?_) (fun b o _ _ hc e _=>k b o (fun z=>hc (by simp[z])) e) (fun b o _ _ hc e _=>⟨o.slots,k b o (fun z=>hc (by simp[z])) e⟩) (fun _ _ _ _ n=>n)
  (fun b o hc e=>⟨o,k b o (fun z=>hc (by simp[z])) e⟩) (fun _ _ e=>e) (fun _ _ _ e=>e) (fun b ps e=>⟨#[],by rw[e];simp⟩) (fun m hm=>?_) (fun b u e=>?_) I.bare
 ·have e:b=it:=by simpa using hb
  subst e;exact⟨h1,hL,h2,h3⟩
 ·obtain⟨o,es,ep,ho,r⟩:=hm;exact⟨o,es,ep,k _ o (Ne.symm hL) ho,r⟩
 ·refine(I.cQ b u e).lA (fun c v hc q=>k c v ?_ q) (fun _ q=>q) fun _ _ q=>q;rcases hc with z | z
  ·rw[z];exact nit b u e
  ·exact nit c _ z
theorem Inv.tok(I:Inv X pins σ H s)(t:Nat):Inv X pins σ H { s with toks:=t }:=I.un (h':=s.heap) (t':=t) Un.refl I.cQ
theorem Inv.kept(I:Inv X pins σ H s)(k:∀b u,s.heap.get? b=some u->h'.get? b=some u):Inv X pins σ H { s with heap:=h',toks:=t' }:=I.un (Un.kept k) (I.cQ.kept k)
theorem Inv.laid(I:Inv X pins σ H s)(k:∀b u,s.heap.get? b=some u->h'.get? b=some u)(hp:s.heap.objs.size<=a)(new:cZ X.prog X.w (upd H a o) h' a o):
  Inv X pins σ (upd H a o) { s with heap:=h',toks:=t' }:=I.un (Un.laid k hp (I.cQ.fresh hp)) (I.cQ.laid k hp new)
theorem Inv.write(I:Inv X pins σ H s)(mu:Iw (H x))(he:e=x\/H e=some (.own x))(k:∀b u,b≠e->s.heap.get? b=some u->h'.get? b=some u)(heo:∃u,h'.get? e=some u)
  (new:cZ X.prog X.w (upd H x o) h' x o):Inv X pins σ (upd H x o) { s with heap:=h',toks:=t' }:=I.un (Un.write mu he k heo) (I.cQ.write mu he k heo new)
theorem Inv.pQ(I:Inv X pins σ H s)(h:∀p∈pins',s.heap.get? p.1=some p.2/\H p.1=none/\p.1≠X.env.locals/\p.1∉X.fs/\∀v,p.2.data≠.cell v):Inv X pins' σ H s :=
 ⟨I.ok,I.os,I.bare,I.base,I.loc,I.cell,I.free,I.g8,fun p hp=>(List.mem_append.mp hp).elim (fun z=>I.pin p (qDs _ z)) (h p),I.cQ,I.len⟩
theorem rL{N:List Str}(hN:N.Nodup){i j:Nat}{x:Str}(a:N[i]?=some x)(b:N[j]?=some x):i=j:=by
 obtain⟨h1,e1⟩:=List.getElem?_eq_some_iff.mp a;obtain⟨h2,e2⟩:=List.getElem?_eq_some_iff.mp b;exact(qKz hN).mp (e1.trans e2.symm)
theorem oB{M:Model}{A:qCu}{E:qAf->qAk->Prop}{i:Nat}{x:Str}{v:V}{u:qAf}{Q:Unit->qAk->Prop}(I:Inv X pins σ H s)(hN:X.N.Nodup)(hi:X.N[i]?=some x)(hx:Loc X.env.scope x)(r:RelV v u)
  (h:∀s',Inv X pins (σ.set i (some v)) H s'->(∃a,qHp a s.heap s'.heap/\(a=X.env.locals\/X.env.cells.lookup x=some a))->Q () s') (hf:X.fn x=true\/X.env.scope.names.lookup x=some .local:=by first|exact .inl rfl | exact .inr rfl | assumption):qBs M A (storeName X.env x u) Q E s:=by
 obtain⟨m,hn,hl⟩:=id I.loc;have hcls:(X.env.scope.kind == .class||(X.env.scope.kind == .module&&X.env.locals != X.env.globals))=false:=by rw[I.ok.kind];rfl
 have hiσ:i<σ.length:=by rw[I.len];exact(List.getElem?_eq_some_iff.mp hi).1
 have Ek:=I.Ek;have tracked:∀{a:Addr}{h':Heap},(∃o,s.heap.get? a=some o/\H a=none)->qHp a s.heap h'->jD X.prog X.w H h':=fun {a h'} ha hs b ob e=>by
  obtain⟨_,_,hfree⟩:=ha;refine(I.cQ b ob e).lA (fun c w' hc q=>(hs.2 c ?_).trans q) (fun _ q=>q) fun _ _ q=>q;rintro rfl;rcases hc with rfl | hc
  ·rw[hfree] at e;cases e
  ·rw[hfree] at hc;cases hc
 rcases hx with hk | hk
 ·refine wpAny_storeName_local hk hn (fun h' hn' hs=>?_) hcls;obtain⟨oL,_,_,hoL,_⟩:=id hn;refine h _ ⟨I.ok,I.os,I.bare,⟨fun b o e n hb hx=>?_,fun b o e n hb hx=>?_,I.base.free,fun b o e hx=>?_,I.base.g7,I.base.jJ,I.base.j8⟩,⟨_,hn',fun j y v' e1 e2 e3=>?_⟩,fun y c e=>?_,I.free,I.g8,fun p hp=>?_,tracked ⟨oL,hoL,I.free⟩ hs,by simpa using I.len⟩ ⟨_,hs,.inl rfl⟩
  ·exact(hs.2 b (qBn (qAo (qAy e) I.ok.above))).trans (I.base.keep b o e n hb hx)
  ·obtain⟨sl,e1⟩:=I.base.slot b o e n hb hx;exact⟨sl,(hs.2 b (qBn (qAo (qAy e) I.ok.above))).trans e1⟩
  ·obtain⟨o',e1⟩:=I.base.there b o e hx;exact⟨o',(hs.2 b (qBn (qAo (qAy e) I.ok.above))).trans e1⟩
  ·by_cases hj:j=i
   ·subst hj;rw[hi] at e1;cases e1;rw[qGj hiσ] at e2;cases e2;exact⟨u,r,.inl ⟨hk,by simp⟩⟩
   ·rw[qJu (Ne.symm hj)] at e2;obtain⟨u',r',q⟩:=hl j y v' e1 e2 e3;refine⟨u',r',?_⟩;rcases q with ⟨k,e⟩ | ⟨k,c,e,z⟩
    ·refine .inl ⟨k,?_⟩;have:y≠x:=fun e=>hj (rL hN e1 (e▸hi));simp[this,e]
    ·exact .inr ⟨k,c,e,z.sameBut hs (Ek y c e)⟩
  ·obtain⟨w',z⟩:=I.cell y c e;exact⟨w',z.sameBut hs (Ek y c e)⟩
  ·obtain⟨e,n,ne,nf,d⟩:=I.pin p hp;exact⟨(hs.2 p.1 ne).trans e,n,ne,nf,d⟩
 ·have hfn:X.fn x=true:=by
   rcases hf with z | z
   ·exact z
   ·rw[z] at hk;cases hk
  obtain⟨c,hc⟩:=I.ok.has x (.inl hk);obtain⟨w',z⟩:=I.cell x c hc;refine wpAny_storeName_cell I.ok.kind hk hc z (fun h' hc' hs=>?_);obtain⟨oc,hoc,hocd⟩:=id z;refine h { s with heap:=h' } ⟨I.ok,I.os,I.bare,⟨fun b o e n hb hx=>?_,fun b o e n hb hx=>?_,I.base.free,fun b o e hx=>?_,I.base.g7,I.base.jJ,I.base.j8⟩,⟨m,hn.sameBut hs (Ne.symm (Ek x c hc)),fun j y v' e1 e2 e3=>?_⟩,fun y c' e=>?_,I.free,I.g8,fun p hp=>?_,tracked ⟨oc,hoc,I.g8 x c hc⟩ hs,by simpa using I.len⟩ ⟨c,hs,.inr hc⟩
  ·exact(hs.2 b (qBn (qAo (qAy e) (I.ok.Iy x c hfn hc)))).trans (I.base.keep b o e n hb hx)
  ·obtain⟨sl,e1⟩:=I.base.slot b o e n hb hx;exact⟨sl,(hs.2 b (qBn (qAo (qAy e) (I.ok.Iy x c hfn hc)))).trans e1⟩
  ·obtain⟨o',e1⟩:=I.base.there b o e hx;exact⟨o',(hs.2 b (qBn (qAo (qAy e) (I.ok.Iy x c hfn hc)))).trans e1⟩
  ·by_cases hj:j=i
   ·subst hj;rw[hi] at e1;cases e1;rw[qGj hiσ] at e2;cases e2;exact⟨u,r,.inr ⟨.inl hk,c,hc,hc'⟩⟩
   ·rw[qJu (Ne.symm hj)] at e2;obtain⟨u',r',q⟩:=hl j y v' e1 e2 e3;refine⟨u',r',?_⟩;rcases q with q | ⟨k,c',e,z'⟩
    ·exact .inl q
    ·refine .inr ⟨k,c',e,z'.sameBut hs ?_⟩;rintro rfl;exact hj (rL hN e1 (I.ok.inj _ _ _ e hc▸hi))
  ·by_cases hcc:c'=c
   ·subst hcc;exact⟨_,hc'⟩
   ·obtain⟨w2,z2⟩:=I.cell y c' e;exact⟨w2,z2.sameBut hs hcc⟩
  ·obtain⟨e,n,ne,nf,d⟩:=I.pin p hp;refine⟨(hs.2 p.1 ?_).trans e,n,ne,nf,d⟩;intro q;rw[q,hoc] at e;have q':oc=p.2:=Option.some.inj e;exact d w' (by rw[<- q'];exact hocd)
theorem rQ(I:Inv X pins σ H s)(hN:X.N.Nodup)(hi:X.N[i]?=some x)(hx:Loc X.env.scope x)(r:RelV v u)
  (h:∀s',Inv X pins (σ.set i (some v)) H s'->Q () s') (hf:X.fn x=true\/X.env.scope.names.lookup x=some .local:=by first|exact .inl rfl | exact .inr rfl | assumption):qBs M A (storeName X.env x u) Q E s :=
 oB I hN hi hx r (fun s' I' _=>h s' I') hf
theorem Inv.call'(I:Inv X pins σ H s)(ho:s'.os=s.os)(u:Un (nL X.stack) ch H H' s.heap s'.heap)(cQ:jD X.prog X.w H' s'.heap)(hg:qHe s'.gens)
  (hch:∀b∈ch,(b∈X.ex\/X.s₀.heap.objs.size<=b)/\b≠X.env.locals/\(∀x c,X.env.cells.lookup x=some c->c≠b)/\∀p∈X.pn++pins,p.1≠b):Inv X pins σ H' s':=by
 obtain⟨h',g',d',t',o'⟩:=s';have e:o'=s.os:=ho;subst e;exact I.call (g':=g') (t':=t') (d':=d') u cQ hg hch
end
abbrev XK:=qAf->Option Addr->Hp->Prop
abbrev St:=List (Option V)
abbrev VK:=V->Hp->Prop
abbrev TE:=St->Hp->VK->Prop
abbrev TT:=St->Hp->(Bool->Hp->Prop)->Prop
abbrev TA:=St->Hp->(List V->Hp->Prop)->Prop
structure Ends where
 nx:St->Hp->Prop
 rt:VK
 bk:St->Hp->Prop:=fun _ _=>False
 ct:St->Hp->Prop:=fun _ _=>False
abbrev TS:=Ends->St->Hp->Prop
def EP(X:Cx)(pins:List (Addr×Obj))(σ:St)(Q:VK)(u:qAf)(s':qAk):Prop:=∃v H',Inv X pins σ H' s'/\RelV v u/\Q v H'
def TP(X:Cx)(pins:List (Addr×Obj))(σ:St)(Q:Bool->Hp->Prop)(b:Bool)(s':qAk):Prop:=∃H',Inv X pins σ H' s'/\Q b H'
def AP(X:Cx)(pins:List (Addr×Obj))(σ:St)(Q:List V->Hp->Prop)(us:List qAf)(s':qAk):Prop:=∃vs H',Inv X pins σ H' s'/\Vals vs us/\Q vs H'
def SP(X:Cx)(pins:List (Addr×Obj))(D:Ends)(f:Flow)(s':qAk):Prop :=
 match f with
 | .next=>∃σ' H',Inv X pins σ' H' s'/\D.nx σ' H'
 | .brk=>∃σ' H',Inv X pins σ' H' s'/\D.bk σ' H'
 | .cont=>∃σ' H',Inv X pins σ' H' s'/\D.ct σ' H'
 | .ret u=>∃v σ' H',Inv X pins σ' H' s'/\RelV v u/\D.rt v H'
def PE(X:Cx)(e:Expr)(t:TE):Prop :=
 ∀(pins:List (Addr×Obj)) (s:qAk) (σ:St) (H:Hp) (Q:VK),Inv X pins σ H s->t σ H Q->qBs (qBz X.prog X.w) X.A (eval e X.env) (EP X pins σ Q) X.xe s
def PT(X:Cx)(e:Expr)(t:TT):Prop :=
 ∀(pins:List (Addr×Obj)) (s:qAk) (σ:St) (H:Hp) (Q:Bool->Hp->Prop),Inv X pins σ H s->t σ H Q->qBs (qBz X.prog X.w) X.A (qMv e X.env (eval e X.env)) (TP X pins σ Q) X.xe s
def PW(X:Cx)(e:Expr)(t:TT):Prop :=
 ∀(whole:Sem qAf) (pins:List (Addr×Obj)) (s:qAk) (σ:St) (H:Hp) (Q:Bool->Hp->Prop),Inv X pins σ H s->t σ H Q->qBs (qBz X.prog X.w) X.A (qMv e X.env whole) (TP X pins σ Q) X.xe s
theorem PW.pt(h:PW X e t):PT X e t:=h _
def PA(X:Cx)(es:List Expr)(t:TA):Prop :=
 ∀(pos:Pos) (pins:List (Addr×Obj)) (s:qAk) (σ:St) (H:Hp) (Q:List V->Hp->Prop),Inv X pins σ H s->t σ H Q->qBs (qBz X.prog X.w) X.A (spliced (qEj pos (qBk es X.env))) (AP X pins σ Q) X.xe s
def PS(X:Cx)(st:Stmt)(t:TS):Prop :=
 ∀(pins:List (Addr×Obj)) (s:qAk) (σ:St) (H:Hp) (D:Ends),Inv X pins σ H s->t D σ H->qBs (qBz X.prog X.w) X.A (exec st X.env) (SP X pins D) X.xe s
def oC(X:Cx)(st:List Stmt)(t:TS):Prop :=
 ∀(pins:List (Addr×Obj)) (s:qAk) (σ:St) (H:Hp) (D:Ends),Inv X pins σ H s->t D σ H->qBs (qBz X.prog X.w) X.A (execs st X.env) (SP X pins D) X.xe s
theorem bX(h:qBs M A t Q E s)(hQ:∀a s,Q a s->Q' a s):qBs M A t Q' E s:=qFc h hQ fun _ _ x=>x
section
variable {X:Cx}
def rS(i:Nat):TE:=fun σ H Q=>∃v,σ[i]?=some (some v)/\Q v H
def tC(v:V):TE:=fun _ H Q=>Q v H
theorem El(hN:X.N[i]?=some x)(hv:KU X.env.scope x)(hd:(x == ("__debug__":Str))=false:=by decide)(hcd:(x == ("__classdict__":Str))=false:=by decide):PE X (.Name x pos) (rS i):=by
 intro pins s σ H Q I h;obtain⟨v,e,h⟩:=h;obtain⟨m,hn,hl⟩:=I.loc;obtain⟨u,r,l⟩:=hl i x v hN e hv;have fin:EP X pins σ Q u s:=⟨v,H,I,r,h⟩;rcases l with ⟨hk,hm⟩ | ⟨hk,c,hc,hcell⟩
 ·exact wpAny_Name (wpAny_loadName_local I.ok.kind hk hn hm fin) hd
 ·rcases hk with hk | hk
  ·exact wpAny_Name (wpAny_loadName_cell I.ok.kind hk hc hcell fin) hd
  ·exact wpAny_Name (wpAny_loadName_free I.ok.kind hk hc hcell fin hcd) hd
theorem aG{i j pos}:PE X (.Constant (.int i) j pos) (tC (.int i)):=fun _ _ _ H _ I h=>wpAny_Constant_int ⟨.int i,H,I.tok _,⟨_,rfl⟩,h⟩
theorem iZ{b j pos}:PE X (.Constant (.bool b) j pos) (tC (.bl b)):=fun _ _ _ H _ I h=>Constant_bool ⟨.bl b,H,I,rfl,h⟩
theorem aU{x j pos}:PE X (.Constant (.str x) j pos) (tC (.str x)):=fun _ _ _ H _ I h=>Calls.Constant_str ⟨.str x,H,I.tok _,⟨_,rfl⟩,h⟩
def Gl(X:Cx)(x:Str):Prop:=X.env.kindOf x=some .globalImplicit
theorem jK(I:Inv X pins σ H s)(hg:Gl X x)(hm:X.mg x=some u)(h:Q u s)
  (hd:(x == ("__debug__":Str))=false:=by decide):qBs (qBz X.prog X.w) X.A (eval (.Name x pos) X.env) Q E s :=
 qIg I.ok.kind hg (Calls.loadGlobal_global (by rw[I.ok.glob];exact I.mod.glob.keeps I.bk) hm h) hd
theorem g9(I:Inv X pins σ H s)(hg:Gl X x)(hm:X.mg x=none)(hv:qCk x=some u)(h:Q u s)
  (hn:x≠"__name__":=by decide) (hd:(x == ("__debug__":Str))=false:=by decide):qBs (qBz X.prog X.w) X.A (eval (.Name x pos) X.env) Q E s:=by
 obtain⟨mb,h1,h2⟩:=I.mod.blt;exact qIg I.ok.kind hg (Calls.loadGlobal_builtin (by rw[I.ok.glob];exact I.mod.glob.keeps I.bk) hm (by rw[I.ok.blt];exact h1.keeps I.bk) ((h2 x hn).trans hv) h) hd
theorem bP(hg:Gl X x)(hm:X.mg x=some u)(r:RelV v u)(hd:(x == ("__debug__":Str))=false:=by decide):PE X (.Name x pos) (tC v) :=
 fun _ _ _ H _ I h=>jK I hg hm ⟨v,H,I,r,h⟩ hd
theorem gH(hg:Gl X x)(hm:X.mg x=none)(hv:qCk x=some u)(r:RelV v u)(hn:x≠"__name__":=by decide)(hd:(x == ("__debug__":Str))=false:=by decide):PE X (.Name x pos) (tC v) :=
 fun _ _ _ H _ I h=>g9 I hg hm hv ⟨v,H,I,r,h⟩ hn hd
variable {a b:Expr}{ta tb:TE}{pos:Pos}
def PC(X:Cx)(op:CmpOp)(a b:Expr)(t:TE):Prop :=
 ∀(pins:List (Addr×Obj)) (s:qAk) (σ:St) (H:Hp) (Q:VK),Inv X pins σ H s->t σ H Q ->
  qBs (qBz X.prog X.w) X.A (eval a X.env) (fun v s₁=>qBs (qBz X.prog X.w) X.A (eval b X.env) (fun u s₂=>qBs (qBz X.prog X.w) X.A (qDp op v u) (EP X pins σ Q) X.xe s₂) X.xe s₁) X.xe s
def tB(t:TE):TT:=fun σ H Q=>t σ H fun x H1=>∃c,x = .bl c/\Q c H1
theorem Em(h:PC X op a b t)(h1:qGt op b=false:=by first|exact nobehind _ (by decide) (by decide) | rfl):PT X (.Compare a [op] [b] pos) (tB t):=by
 intro pins s σ H Q I hw;refine wpAny_isTrue_Compare1 (bX (h pins s σ H _ I hw) fun v s1 h1=>bX h1 fun u s2 h2=>bX h2 fun c s3 ⟨x,H1,I1,r1,q1⟩=>?_) h1;obtain⟨d,rfl,q⟩:=q1;cases r1;exact qCi ⟨H1,I1,q⟩
theorem cY(h:PE X e t)(he:∀whole,qMv e X.env whole=(do let v <- whole;qIl e.pos;qFv [v] (truthy v)):=by intro _;rfl):PT X e (tB t):=by
 intro pins s σ H Q I hw;refine isTrue_plain (bX (h pins s σ H _ I hw) fun v s1 ⟨x,H1,I1,r1,q1⟩=>?_) (he _);obtain⟨d,rfl,q⟩:=q1;cases r1;exact qCi ⟨H1,I1,q⟩
variable {tA tB':TT}{rest:List Expr}
def KY(t u:TT):TT:=fun σ H Q=>t σ H fun c H1=>if c=true then u σ H1 Q else Q false H1
def MZ(t u:TT):TT:=fun σ H Q=>t σ H fun c H1=>if c=true then Q true H1 else u σ H1 Q
def KZ(t:TT):TT:=fun σ H Q=>t σ H fun c H1=>Q (!c) H1
theorem pw_and1(ha:PT X a tA):PW X (.BoolOp .And [a] pos) tA:=by
 intro wh pins s σ H Q I h;refine isTrue_and (bX (ha pins s σ H Q I h) fun c s1 e=>?_);cases c with
 | true=>exact isTrue_and_nil e
 | false=>exact e
theorem pw_or1(ha:PT X a tA):PW X (.BoolOp .Or [a] pos) tA:=by
 intro wh pins s σ H Q I h;refine isTrue_or (bX (ha pins s σ H Q I h) fun c s1 e=>?_);cases c with
 | false=>exact isTrue_or_nil e
 | true=>exact e
theorem pw_and(ha:PT X a tA)(hb:PW X (.BoolOp .And (b::rest) pos) tB'):PW X (.BoolOp .And (a::b::rest) pos) (KY tA tB'):=by
 intro wh pins s σ H Q I h;refine isTrue_and (bX (ha pins s σ H _ I h) fun c s1 ⟨H1,I1,q1⟩=>?_);cases c with
 | true=>exact hb wh pins s1 σ H1 Q I1 q1
 | false=>exact⟨H1,I1,q1⟩
theorem pw_or(ha:PT X a tA)(hb:PW X (.BoolOp .Or (b::rest) pos) tB'):PW X (.BoolOp .Or (a::b::rest) pos) (MZ tA tB'):=by
 intro wh pins s σ H Q I h;refine isTrue_or (bX (ha pins s σ H _ I h) fun c s1 ⟨H1,I1,q1⟩=>?_);cases c with
 | true=>exact⟨H1,I1,q1⟩
 | false=>exact hb wh pins s1 σ H1 Q I1 q1
theorem dR(ha:PT X a tA):PT X (.UnaryOp .Not a pos) (KZ tA):=by
 intro pins s σ H Q I h;exact isTrue_not (ha pins s σ H (fun c H1=>Q (!c) H1) I h)
def Iz(ta tb:TE):TE:=fun σ H Q=>ta σ H fun x H1=>∃c,x = .bl c/\if c=true then tb σ H1 Q else Q (.bl false) H1
def IA(ta:TE):TE:=fun σ H Q=>ta σ H fun x H1=>∃c,x = .bl c/\Q (.bl (!c)) H1
theorem j9{op}{t:TE}(h:PE X a t):PE X (.BoolOp op [a] pos) t:=fun pins s σ H Q I hw=>BoolOp_one (h pins s σ H Q I hw)
theorem jF(ha:PE X a ta)(hb:PE X (.BoolOp .And (b::rest) pos) tb):PE X (.BoolOp .And (a::b::rest) pos) (Iz ta tb):=by
 intro pins s σ H Q I h;refine BoolOp_and (bX (ha pins s σ H _ I h) fun v s1 ⟨x,H1,I1,r1,q1⟩=>?_);obtain⟨c,rfl,q1⟩:=q1;cases r1;refine qCi ?_;cases c with
 | true=>exact hb pins s1 σ H1 Q I1 q1
 | false=>exact⟨.bl false,H1,I1,rfl,q1⟩
theorem zI(ha:PE X a ta):PE X (.UnaryOp .Not a pos) (IA ta):=by
 intro pins s σ H Q I h;refine UnaryOp_ (bX (ha pins s σ H _ I h) fun v s1 ⟨x,H1,I1,r1,q1⟩=>?_);obtain⟨c,rfl,q1⟩:=q1;cases r1;exact not_of (qCi ⟨.bl (!c),H1,I1,rfl,q1⟩)
def Na(t:TT)(ta tb:TE):TE:=fun σ H Q=>t σ H fun c H1=>if c=true then ta σ H1 Q else tb σ H1 Q
theorem rT(hc:PT X c tA)(ha:PE X a ta)(hb:PE X b tb):PE X (.IfExp c a b pos) (Na tA ta tb):=by
 intro pins s σ H Q I h;refine wpAny_IfExp (bX (hc pins s σ H _ I h) fun d s1 ⟨H1,I1,q1⟩=>?_);cases d with
 | true=>exact ha pins s1 σ H1 Q I1 q1
 | false=>exact hb pins s1 σ H1 Q I1 q1
end
def aY(K:qAb)(H:Hp)(a:Addr)(xs:List V):Prop :=
 Rd H a (.lst xs) \/
  ∃(o:Obj) (its:Array qAf) (n:Nat),K.lookup a=some o/\o.cls = .type "list"/\o.dict=none/\o.data = .seq its n/\its.size<=qAg/\Vals xs its.toList
def dG(K:qAb)(H:Hp)(a:Addr)(xs:List V):Prop :=
 Rd H a (.tup xs) \/
  ∃(o:Obj) (its:Array qAf) (n:Nat),K.lookup a=some o/\o.cls = .type "tuple"/\o.data = .seq its n/\its.size<=qAg/\Vals xs its.toList
def La:qAf->Option V
 | .none=>some .non
 | .bool b=>some (.bl b)
 | .int i _=>some (.int i)
 | .str x _=>some (.str x)
 | .bytes b _=>some (.byt b)
 | .float b _=>some (.flt b)
 | .ref a=>some (.ref a)
 | .type n=>some (.ty n)
 | _=>none
theorem RelV.abs(r:RelV x u):La u=some x:=by
 cases x with
 | non=>cases r;rfl
 | bl _=>cases r;rfl
 | int _=>obtain⟨t,rfl⟩:=r;rfl
 | str _=>obtain⟨t,rfl⟩:=r;rfl
 | byt _=>obtain⟨t,rfl⟩:=r;rfl
 | flt _=>obtain⟨t,rfl⟩:=r;rfl
 | ref _=>cases r;rfl
 | ty _=>cases r;rfl
theorem RelV.inj(r:RelV x u)(q:RelV y u):x=y:=Option.some.inj (r.abs.symm.trans q.abs)
theorem Vals.inj:∀{xs ys:List V}{us:List qAf},Vals xs us->Vals ys us->xs=ys
 | _,_,_,.nil,.nil=>rfl
 | _,_,_,.cons r t,.cons r' t'=>by rw[r.inj r',Vals.inj t t']
section
variable {X:Cx}{pins:List (Addr×Obj)}{σ:St}{H:Hp}{s:qAk}{a:Addr}{xs ys:List V}
theorem aY.of{K:qAb}(h:H a=some (.lst xs)):aY K H a xs:=.inl (.inl h)
theorem dG.of{K:qAb}(h:H a=some (.tup xs)):dG K H a xs:=.inl (.inl h)
theorem Inv.list(I:Inv X pins σ H s)(h:aY X.K H a xs):∃its:List qAf,Vals xs its/\PlainL s.heap a its.toArray/\xs.length<=qAg:=by
 rcases h with h | ⟨o,its,n,hk,hc,hd,hs,hz,r⟩
 ·obtain⟨z,its,n,r,e⟩:=h.ok I.cQ;exact⟨its,r,⟨_,n,e,rfl,rfl,rfl⟩,z⟩
 ·refine⟨its.toList,r,⟨o,n,I.nM a o hk,hc,hd,by simpa using hs⟩,?_⟩;have e:=r.length;simp only[qCo] at e;lia
theorem Inv.tuple(I:Inv X pins σ H s)(h:dG X.K H a xs):∃its:List qAf,Vals xs its/\IsTup s.heap a its.toArray/\xs.length<=qAg:=by
 rcases h with h | ⟨o,its,n,hk,hc,hs,hz,r⟩
 ·obtain⟨z,its,r,p⟩:=h.ok I.cQ;exact⟨its,r,p,z⟩
 ·refine⟨its.toList,r,⟨o,I.nM a o hk,hc,n,by simpa using hs⟩,?_⟩;have e:=r.length;simp only[qCo] at e;lia
theorem Inv.lV(I:Inv X pins σ H s)(h:aY X.K H a xs)(h':aY X.K H a ys):xs=ys:=by
 obtain⟨its,r,⟨o,n,e,_,_,d⟩,_⟩:=I.list h;obtain⟨its',r',⟨o',n',e',_,_,d'⟩,_⟩:=I.list h';rw[e] at e';cases e';rw[d] at d';injection d' with d1 _;have:its=its':=by simpa using congrArg qLx d1
 subst this;exact r.inj r'
theorem Inv.wX(I:Inv X pins σ H s)(h:dG X.K H a xs)(h':dG X.K H a ys):xs=ys:=by
 obtain⟨its,r,⟨o,e,_,n,d⟩,_⟩:=I.tuple h;obtain⟨its',r',⟨o',e',_,n',d'⟩,_⟩:=I.tuple h';rw[e] at e';cases e';rw[d] at d';injection d' with d1 _;have:its=its':=by simpa using congrArg qLx d1
 subst this;exact r.inj r'
end
abbrev Cx.nN(X:Cx)(E:qAf->qAk->Prop):Cx:={ X with xe:=E }
abbrev Cx.HD(X:Cx):Cx:=X.nN fun _ _=>False
theorem Cx.Ok.nN{X:Cx}(ok:X.Ok)(E:qAf->qAk->Prop):(X.nN E).Ok :=
 ⟨ok.mod,ok.kind,ok.glob,ok.blt,ok.above,ok.inj,ok.has,ok.Iy,ok.hd,ok.frames,ok.KN,ok.MG,ok.bs,ok.BM,ok.zH,ok.BN,ok.jE,ok.Dq⟩
theorem Cx.Ok.hU{X:Cx}{E:qAf->qAk->Prop}(ok:(X.nN E).Ok):X.Ok :=
 ⟨ok.mod,ok.kind,ok.glob,ok.blt,ok.above,ok.inj,ok.has,ok.Iy,ok.hd,ok.frames,ok.KN,ok.MG,ok.bs,ok.BM,ok.zH,ok.BN,ok.jE,ok.Dq⟩
section
variable {X:Cx}{pins:List (Addr×Obj)}{σ:St}{H:Hp}{s:qAk}{E:qAf->qAk->Prop}
theorem Inv.nN(I:Inv X pins σ H s)(E:qAf->qAk->Prop):Inv (X.nN E) pins σ H s:=⟨I.ok.nN E,I.os,I.bare,I.base,I.loc,I.cell,I.free,I.g8,I.pin,I.cQ,I.len⟩
theorem Inv.hU(I:Inv (X.nN E) pins σ H s):Inv X pins σ H s:=⟨I.ok.hU,I.os,I.bare,I.base,I.loc,I.cell,I.free,I.g8,I.pin,I.cQ,I.len⟩
theorem SP.hU(h:SP (X.nN E) pins D f s'):SP X pins D f s':=by
 cases f with
 | next=>obtain⟨σ',H',I,q⟩:=h;exact⟨σ',H',I.hU,q⟩
 | brk=>obtain⟨σ',H',I,q⟩:=h;exact⟨σ',H',I.hU,q⟩
 | cont=>obtain⟨σ',H',I,q⟩:=h;exact⟨σ',H',I.hU,q⟩
 | ret u=>obtain⟨v,σ',H',I,r,q⟩:=h;exact⟨v,σ',H',I.hU,r,q⟩
theorem oC.HD{st:List Stmt}{t:TS}(h:oC X.HD st t):oC X st t:=fun pins s σ H D I hw =>
 qFc (h pins s σ H D (I.nN _) hw) (fun _ _ q=>q.hU) fun _ _ z=>False.elim z
end
section
variable {X:Cx}{st:Stmt}{rest:List Stmt}{t u:TS}{e:Expr}{te:TE}{pos:Pos}
def bH:TS:=fun D σ H=>D.nx σ H
def BO(t u:TS):TS:=fun D σ H=>t { D with nx:=u D } σ H
theorem aX:oC X [] bH:=fun _ _ σ H _ I h=>qFu ⟨σ,H,I,h⟩
theorem aD(h1:PS X st t)(h2:oC X rest u):oC X (st::rest) (BO t u):=by
 intro pins s σ H D I h;refine wpAny_execs_cons (bX (h1 pins s σ H { D with nx:=u D } I h) fun f s1 q=>?_);cases f with
 | next =>
  obtain⟨σ',H',I',q⟩:=q;exact h2 pins s1 σ' H' D I' q
 | ret v=>exact q
 | brk=>exact q
 | cont=>exact q
theorem aH(h1:PS X st t):oC X [st] t:=by
 intro pins s σ H D I h;refine wpAny_execs_cons (bX (h1 pins s σ H D I h) fun f s1 q=>?_);cases f with
 | next=>exact qFu q
 | ret v=>exact q
 | brk=>exact q
 | cont=>exact q
theorem Inv.quiet(I:Inv X pins σ H s):interactive X.env=false:=by simp[interactive,I.ok.kind]
def Dr(te:TE):TS:=fun D σ H=>te σ H fun _ H1=>D.nx σ H1
theorem bN(he:PE X e te)(hs:qJm e none pos.line X.env=pure false:=by rfl):PS X (.Expr e pos) (Dr te):=by
 intro pins s σ H D I h;exact wpAny_Expr_any (bX (he pins s σ H _ I h) fun v s1 ⟨x,H1,I1,r1,q1⟩=>⟨σ,H1,I1,q1⟩) I.quiet hs
def IB(te:TE):TS:=fun D σ H=>te σ H D.rt
theorem aN(he:PE X e te):PS X (.Return (some e) pos) (IB te):=by
 intro pins s σ H D I h;exact wpAny_Return_some (bX (he pins s σ H _ I h) fun v s1 ⟨x,H1,I1,r1,q1⟩=>⟨x,σ,H1,I1,r1,q1⟩)
def En(c:TT)(t u:TS):TS:=fun D σ H=>c σ H fun b H1=>if b=true then t D σ H1 else u D σ H1
theorem bK(hc:PT X c tc)(ha:oC X a t)(hb:oC X b u):PS X (.If c a b pos) (En tc t u):=by
 intro pins s σ H D I h;refine wpAny_If (bX (hc pins s σ H _ I h) fun d s1 ⟨H1,I1,q1⟩=>?_);cases d with
 | true=>exact ha pins s1 σ H1 D I1 q1
 | false=>exact hb pins s1 σ H1 D I1 q1
end
abbrev TG:=V->St->Hp->(St->Hp->Prop)->Prop
abbrev IC:=List V->St->Hp->(St->Hp->Prop)->Prop
def PG(X:Cx)(target:Expr)(t:TG):Prop :=
 ∀(pins:List (Addr×Obj)) (s:qAk) (σ:St) (H:Hp) (v:V) (u:qAf) (Q:St->Hp->Prop),Inv X pins σ H s->RelV v u->t v σ H Q ->
  qBs (qBz X.prog X.w) X.A (qKe target X.env u) (fun _ s'=>∃σ' H',Inv X pins σ' H' s'/\Q σ' H') X.xe s
def ID(X:Cx)(ts:List Expr)(t:IC):Prop :=
 ∀(pins:List (Addr×Obj)) (s:qAk) (σ:St) (H:Hp) (vs:List V) (us:List qAf) (Q:St->Hp->Prop),Inv X pins σ H s->Vals vs us->t vs σ H Q ->
  qBs (qBz X.prog X.w) X.A (assignInOrder ((qHi ts X.env).map (·.2)) us) (fun _ s'=>∃σ' H',Inv X pins σ' H' s'/\Q σ' H') X.xe s
abbrev IE:=V->V->V->Hp->(Hp->Prop)->Prop
def Eo(X:Cx)(t:IE):Prop :=
 ∀(pins:List (Addr×Obj)) (s:qAk) (σ:St) (H:Hp) (o i v:V) (ov iv u:qAf) (Q:Hp->Prop),Inv X pins σ H s->RelV o ov->RelV i iv->RelV v u->t o i v H Q ->
  qBs (qBz X.prog X.w) X.A (setItem ov iv u) (fun _ s'=>∃H',Inv X pins σ H' s'/\Q H') X.xe s
abbrev Nb:=V->V->Hp->VK->Prop
def Nc(X:Cx)(op:Operator)(t:Nb):Prop :=
 ∀(pins:List (Addr×Obj)) (s:qAk) (σ:St) (H:Hp) (x y:V) (v u:qAf) (Q:VK),Inv X pins σ H s->RelV x v->RelV y u->t x y H Q ->
  qBs (qBz X.prog X.w) X.A (inplaceOp op v u) (EP X pins σ Q) X.xe s
section
variable {X:Cx}{pos:Pos}
def bE(i:Nat):TG:=fun v σ H Q=>Q (σ.set i (some v)) H
theorem aP(hN:X.N.Nodup)(hi:X.N[i]?=some x)(hx:Loc X.env.scope x)(hf:X.fn x=true\/X.env.scope.names.lookup x=some .local:=by first|exact .inl rfl | exact .inr rfl | assumption):PG X (.Name x pos) (bE i):=by
 intro pins s σ H v u Q I r h;exact wpAny_assign_Name (rQ I hN hi hx r (fun s' I'=>⟨_,H,I',h⟩) hf)
def pR:IC:=fun vs σ H Q=>vs=[]/\Q σ H
def dO(t:TG)(u:IC):IC:=fun vs σ H Q=>∃v r,vs=v::r/\t v σ H fun σ' H'=>u r σ' H' Q
theorem dZ:ID X [] pR:=by
 intro pins s σ H vs us Q I r h;obtain⟨e,h⟩:=h;subst e;cases r;exact assignInOrder_nil ⟨σ,H,I,h⟩
theorem bB(h1:PG X e t)(h2:ID X es u)
  (hs:(qHi (e::es) X.env).map (·.2)=qKe e X.env::(qHi es X.env).map (·.2):=by rfl):ID X (e::es) (dO t u):=by
 intro pins s σ H vs us Q I r h;obtain⟨v,vr,e1,h⟩:=h;subst e1;cases r with
 | cons r rr =>
  rw[hs];refine assignInOrder_cons (bX (h1 pins s σ H _ _ _ I r h) fun _ s1 ⟨σ1,H1,I1,q1⟩=>?_);exact h2 pins s1 σ1 H1 _ _ Q I1 rr q1
def pS(K:qAb)(n:Nat)(t:IC):TG:=fun v σ H Q=>∃a xs,v = .ref a/\dG K H a xs/\xs.length=n/\t xs σ H Q
theorem fB(hc:X.calm=true)(h:ID X es t)
  (hn:(qHi es X.env).length=n:=by rfl) (hst:(qHi es X.env).findIdx? (·.1)=none:=by rfl):PG X (.Tuple es k pos) (pS X.K n t):=by
 intro pins s σ H v u Q I r hw;obtain⟨a,xs,e1,hq,hl,hw⟩:=hw;subst e1;cases r;obtain⟨its,rv,ht,hz⟩:=I.tuple hq;refine assign_Tuple_tuple (I.ok.hd hc) ht (by simp[hn,<- hl,rv.length]) hst fun h' hx=>?_;have I1:Inv X pins σ H { s with heap:=h' }:=I.kept (t':=s.toks) fun b o e=>hx b o (qBn (qAy e)) e;exact h pins _ σ H xs _ Q I1 (by simpa using rv) hw
def Lb(to ti:TE)(t:IE):TG:=fun v σ H Q=>to σ H fun o H1=>ti σ H1 fun i H2=>t o i v H2 fun H3=>Q σ H3
theorem tQ(ho:PE X o to)(hi:PE X i ti)(hs:Eo X t)
  (ha:∀v,qKe (.Subscript o i pos) X.env v=(do
   let ov <- qFv [v] (eval o X.env)
   let iv <- qFv [v,ov] (eval i X.env)
   qIl pos
   qFv [v,ov,iv] (setItem ov iv v)
   release [v,ov,iv] []):=by intro _;rfl):PG X (.Subscript o i pos) (Lb to ti t):=by
 intro pins s σ H v u Q I r h;rw[ha];refine qAe (qCs (bX (ho pins s σ H _ I h) fun ov s1 ⟨x,H1,I1,r1,q1⟩=>?_));refine qAe (qCs (bX (hi pins s1 σ H1 _ I1 q1) fun iv s2 ⟨y,H2,I2,r2,q2⟩=>?_));refine qAe (qIa (qAe (qCs (bX (hs pins s2 σ H2 x y v ov iv u _ I2 r1 r2 r q2) fun _ s3 ⟨H3,I3,q3⟩=>?_))));exact wpAny_release ⟨σ,H3,I3,q3⟩
def IF(te:TE)(g:TG):TS:=fun D σ H=>te σ H fun x H1=>g x σ H1 D.nx
theorem lW(he:PE X e te)(hg:PG X tg g)(hs:swapsWithSole [tg] e pos.line X.env=pure false:=by rfl)(hw:swappedStores [tg] e X.env=pure none:=by rfl)
  (h1:(qHi [tg] X.env).map (·.2)=[qKe tg X.env]:=by rfl):PS X (.Assign [tg] e pos) (IF te g):=by
 intro pins s σ H D I h;refine wpAny_Assign_stores (bX (he pins s σ H _ I h) fun v s1 ⟨x,H1,I1,r1,q1⟩=>?_) hs hw;rw[h1];exact bX (hg pins s1 σ H1 x v _ I1 r1 q1) fun _ s2 q=>q
theorem bF(hN:X.N.Nodup)(hi:X.N[i]?=some x)(hx:Loc X.env.scope x)(he:PE X e te)(hs:qJm e (some (.Name x pos')) pos.line X.env=pure false:=by rfl)(hf:X.fn x=true\/X.env.scope.names.lookup x=some .local:=by first|exact .inl rfl | exact .inr rfl | assumption):
  PS X (.Assign [.Name x pos'] e pos) (IF te (bE i)):=by
 intro pins s σ H D I h;refine wpAny_Assign_Name (bX (he pins s σ H _ I h) fun v s1 ⟨y,H1,I1,r1,q1⟩=>?_) hs;exact rQ I1 hN hi hx r1 (fun s2 I2=>⟨_,H1,I2,q1⟩) hf
def Lc(X:Cx)(t:V->V->Hp->VK->Prop):Prop :=
 ∀(pins:List (Addr×Obj)) (s:qAk) (σ:St) (H:Hp) (o i:V) (ov iv:qAf) (Q:VK),Inv X pins σ H s->RelV o ov->RelV i iv->t o i H Q ->
  qBs (qBz X.prog X.w) X.A (qIm ov iv) (EP X pins σ Q) X.xe s
end
section
variable {X:Cx}{pos:Pos}
def Ep(c:TT)(tb:TS):TS:=fun D σ H=>∃W:Nat->St->Hp->Prop,(∃m,W m σ H)/\∀m σ H,W m σ H ->
 c σ H fun b H1=>if b=true then ∃N:St->Hp->Prop,(∀σ' H',N σ' H'->∃m',m'<m/\W m' σ' H')/\tb { D with nx:=N,ct:=N,bk:=D.nx } σ H1 else D.nx σ H1
theorem rW(hp:PassesOwn (qBz X.prog X.w) X.A X.env X.xe)(hc:PT X c tc)(hb:oC X body tb):PS X (.While c body [] pos) (Ep tc tb):=by
 intro pins s σ H D I h;obtain⟨W,⟨m0,w0⟩,turn⟩:=h;refine wpAny_While (codeAny_whileLoop (fun n s'=>∃σ' H',Inv X pins σ' H' s'/\W n σ' H') ?_ m0 ⟨σ,H,I,w0⟩);rintro n s1 ⟨σ1,H1,I1,w1⟩;refine qEl hp (bX (hc pins s1 σ1 H1 _ I1 (turn n σ1 H1 w1)) fun b s2 ⟨H2,I2,q2⟩=>?_);cases b with
 | true =>
  obtain⟨N,hN,q2⟩:=q2;rw[if_pos rfl];refine qEl hp (bX (hb pins s2 σ1 H2 _ I2 q2) fun f s3 q3=>?_);cases f with
  | next =>
   obtain⟨σ3,H3,I3,n3⟩:=q3;obtain⟨m',hm,w3⟩:=hN σ3 H3 n3;exact⟨m',hm,σ3,H3,I3,w3⟩
  | cont =>
   obtain⟨σ3,H3,I3,n3⟩:=q3;obtain⟨m',hm,w3⟩:=hN σ3 H3 n3;exact⟨m',hm,σ3,H3,I3,w3⟩
  | brk=>exact q3
  | ret v=>exact q3
 | false =>
  rw[if_neg qAl];exact qFu ⟨σ1,H2,I2,q2⟩
end
structure It where
 go:Nat->Hp->Prop
 rF:Nat->Hp->V->Hp->Prop
 stop:Nat->Hp->Prop
def gW(X:Cx)(pins:List (Addr×Obj))(H:Hp)(b:Addr):Prop :=
 H b=none/\b≠X.env.locals/\b∉X.fs/\(b∈X.ex\/X.s₀.heap.objs.size<=b)/\(∀x c,X.env.cells.lookup x=some c->c≠b)/\∀p∈X.pn++pins,p.1≠b
theorem Inv.pT(I:Inv X pins σ H s)(hb:s.heap.objs.size<=b)(hn:H' b=none):gW X pins H' b:=by
 refine⟨hn,qMn (qAo I.lt hb),I.Ej hb,.inr (qAt I.sz hb),fun x c e z=>?_,fun p hp z=>?_⟩
 ·obtain⟨v,q⟩:=I.cell x c e;exact absurd (qAo q.lt (by rw[z];exact hb)) (qEk _)
 ·exact absurd (qAo (qAy (I.pin p hp).1) (by rw[z];exact hb)) (qEk _)
structure Turn (P:qBc) (w:qCd) (K:qAb) (tg:Expr) (J:It) (fp:List Addr) (it:Addr) (tn:Nat->Heap->Prop):Prop where
 mem:it∈fp
 obj:∀i h,tn i h->∀b∈fp,∃o,h.get? b=some o/\∀v,o.data≠.cell v
 keep:∀i h h',tn i h->(∀b∈fp,∀o,h.get? b=some o->h'.get? b=some o)->tn i h'
 item:∀(X:Cx),X.prog=P->X.w=w->X.K=K->X.calm=true->∀(i:Nat) (pins:List (Addr×Obj)) (s:qAk) (σ:St) (H:Hp) (E:qAf->qAk->Prop),Inv X pins σ H s->(∀b∈fp,gW X pins H b)->tn i s.heap->J.go i H ->
  qBs (qBz P w) X.A (qLy (.ref it)) (fun r s1=>∃u,r=some u /\
   qBs (qBz P w) X.A (qHc tg (.ref it) u) (fun _ s2=>∃x H',Inv X pins σ H' s2/\RelV x u/\J.rF i H x H'/\tn (i+1) s2.heap/\∀b∈fp,H' b=none) E s1) E s
 done:∀(X:Cx),X.prog=P->X.w=w->X.K=K->X.calm=true->∀(i:Nat) (pins:List (Addr×Obj)) (s:qAk) (σ:St) (H:Hp) (E:qAf->qAk->Prop),Inv X pins σ H s->(∀b∈fp,gW X pins H b)->tn i s.heap->J.stop i H ->
  qBs (qBz P w) X.A (qLy (.ref it)) (fun r s1=>r=none/\Inv X pins σ H s1) E s
 self:∀(A:qCu) (i:Nat) (s:qAk) (Q:qAf->qAk->Prop) (E:qAf->qAk->Prop),tn i s.heap->Q (.ref it) s->qBs (qBz P w) A (pyIter (.ref it)) Q E s
abbrev TI:=St->Hp->(It->Hp->Prop)->Prop
def MH(X:Cx)(pins:List (Addr×Obj))(σ:St)(tg:Expr)(R:It->Hp->Prop)(itv:qAf)(s2:qAk):Prop :=
 ∃(it:Addr) (fp:List Addr) (tn:Nat->Heap->Prop) (J:It) (H':Hp),itv = .ref it/\Inv X pins σ H' s2/\Turn X.prog X.w X.K tg J fp it tn/\tn 0 s2.heap/\(∀b∈fp,gW X pins H' b)/\R J H'
def PI(X:Cx)(tg iter:Expr)(wi:TI):Prop :=
 ∀(pins:List (Addr×Obj)) (s:qAk) (σ:St) (H:Hp) (R:It->Hp->Prop),Inv X pins σ H s->wi σ H R ->
  qBs (qBz X.prog X.w) X.A (eval iter X.env) (fun v s1=>qBs (qBz X.prog X.w) X.A (pyIter v) (MH X pins σ tg R) X.xe s1) X.xe s
theorem vC(ho:s.heap.get? it=some o)(hc:o.cls = .type n)(hd:o.data = .fields vs)
    (hn:["enumerate","zip","dict_itemiterator","dict_reverseitemiterator","odict_iterator","itertools.zip_longest","itertools.pairwise"].contains n=false) (hQ:Q () s):qBs M A (qHc tg (.ref it) u) Q E s:=by
  unfold qHc
  cases tg <;> first
    | exact qAv hQ
    | (cases u <;> first
        | exact qAv hQ
        | (refine qAe (wpAny_load ho ?_)
           rw[hc,hd]
           show qBs M A (if (["enumerate","zip","dict_itemiterator","dict_reverseitemiterator","odict_iterator","itertools.zip_longest","itertools.pairwise"].contains n&&vs[0]? == some (rawInt _))=true then _ else _) Q E s
           rw[if_neg (by intro h;rw[hn,qEx] at h;cases h)]
           exact qAv hQ))
def nO(K:qAb)(a:Addr):It :=
 ⟨fun i H=>∃xs x,aY K H a xs/\xs[i]?=some x,fun i H x H'=>H'=H/\∀xs,aY K H a xs->xs[i]?=some x,fun i H=>∃xs,aY K H a xs/\xs.length<=i⟩
def IG(K:qAb)(a:Addr):It :=
 ⟨fun i H=>∃xs x,dG K H a xs/\xs[i]?=some x,fun i H x H'=>H'=H/\∀xs,dG K H a xs->xs[i]?=some x,fun i H=>∃xs,dG K H a xs/\xs.length<=i⟩
def tO(lo:Int)(n:Nat):It:=⟨fun i _=>i<n,fun i H x H'=>H'=H/\x = .int (lo+i),fun i _=>n<=i⟩
theorem oE{P:qBc}{w:qCd}{K:qAb}{tg:Expr}(a it:Addr):Turn P w K tg (nO K a) [it] it (fun i h=>h.IsListIter it a i) where
 mem:=by simp
 obj:=fun i h st b hb=>by
  have e:b=it:=by simpa using hb
  subst e;obtain⟨o,e,c,d⟩:=st;exact⟨o,e,fun v z=>by rw[d] at z;cases z⟩
 keep:=fun i h h' st k=>st.at fun o e=>k it (by simp) o e
 item:=by
  intro X hP hw hK hc i pins s σ H E I hf st hg;subst hP hw hK;obtain⟨xs,x,hq,hx⟩:=hg;obtain⟨its,rv,p,hz⟩:=I.list hq;obtain⟨u,hu,ru⟩:=rv.get hx;obtain⟨f0,f1,f2,f3,f4,f5⟩:=hf it (by simp);refine wpAny_pyNext_list_item st p.isList (x:=u) (by simpa using hu) fun h' st' sb=>?_;have I1:Inv X pins σ H { s with heap:=h' }:=I.turned (t':=s.toks) (fun b o hb e=>(sb.2 b hb).trans e) f0 f1 f3 f4 f5;obtain⟨o,e,c,d⟩:=id st';exact⟨u,rfl,vC (s:={ s with heap:=h' }) e c d (by decide) ⟨x,H,I1,ru,⟨rfl,fun ys hy=>by rw[I.lV hy hq];exact hx⟩,st',fun b hb=>(hf b hb).1⟩⟩
 done:=by
  intro X hP hw hK hc i pins s σ H E I hf st hg;subst hP hw hK;obtain⟨xs,hq,hx⟩:=hg;obtain⟨its,rv,p,hz⟩:=I.list hq;obtain⟨f0,f1,f2,f3,f4,f5⟩:=hf it (by simp);have hl:=rv.length;exact wpAny_pyNext_list_end (I.ok.hd hc) st p.isList (by simp;lia) fun h' eb=>⟨rfl,I.turned (t':=s.toks) (fun b o hb e=>eb b o hb e) f0 f1 f3 f4 f5⟩
 self:=fun _ _ _ _ _ st h=>wpAny_pyIter_listiter st h
theorem tR{P:qBc}{w:qCd}{K:qAb}{tg:Expr}(a it:Addr):Turn P w K tg (IG K a) [it] it (fun i h=>h.IsTupleIter it a i) where
 mem:=by simp
 obj:=fun i h st b hb=>by
  have e:b=it:=by simpa using hb
  subst e;obtain⟨o,e,c,d⟩:=st;exact⟨o,e,fun v z=>by rw[d] at z;cases z⟩
 keep:=fun i h h' st k=>st.at fun o e=>k it (by simp) o e
 item:=by
  intro X hP hw hK hc i pins s σ H E I hf st hg;subst hP hw hK;obtain⟨xs,x,hq,hx⟩:=hg;obtain⟨its,rv,p,hz⟩:=I.tuple hq;obtain⟨u,hu,ru⟩:=rv.get hx;obtain⟨f0,f1,f2,f3,f4,f5⟩:=hf it (by simp);refine wpAny_pyNext_tuple_item st (show s.heap.IsTuple a its.toArray from p) (x:=u) (by simpa using hu) fun h' st' sb=>?_;have I1:Inv X pins σ H { s with heap:=h' }:=I.turned (t':=s.toks) (fun b o hb e=>(sb.2 b hb).trans e) f0 f1 f3 f4 f5;obtain⟨o,e,c,d⟩:=id st';exact⟨u,rfl,vC (s:={ s with heap:=h' }) e c d (by decide) ⟨x,H,I1,ru,⟨rfl,fun ys hy=>by rw[I.wX hy hq];exact hx⟩,st',fun b hb=>(hf b hb).1⟩⟩
 done:=by
  intro X hP hw hK hc i pins s σ H E I hf st hg;subst hP hw hK;obtain⟨xs,hq,hx⟩:=hg;obtain⟨its,rv,p,hz⟩:=I.tuple hq;obtain⟨f0,f1,f2,f3,f4,f5⟩:=hf it (by simp);have hl:=rv.length;exact wpAny_pyNext_tuple_end (I.ok.hd hc) st (show s.heap.IsTuple a its.toArray from p) (by simp;lia) fun h' eb=>⟨rfl,I.turned (t':=s.toks) (fun b o hb e=>eb b o hb e) f0 f1 f3 f4 f5⟩
 self:=fun _ _ _ _ _ st h=>wpAny_pyIter_tupleiter st h
theorem tS{P:qBc}{w:qCd}{K:qAb}{tg:Expr}(it:Addr)(lo:Int)(n:Nat):Turn P w K tg (tO lo n) [it] it (fun i h=>IsRangeIter h it (lo+(i:Nat)*1) ((n:Int)-(i:Nat)) 1) where
 mem:=by simp
 obj:=fun i h st b hb=>by
  have e:b=it:=by simpa using hb
  subst e;exact⟨_,st,fun v z=>by
   have z':Data.fields _=Data.cell v:=z;cases z'⟩
 keep:=fun i h h' st k=>k it (by simp) _ st
 item:=by
  intro X hP hw hK hc i pins s σ H E I hf st hg;subst hP hw hK;obtain⟨f0,f1,f2,f3,f4,f5⟩:=hf it (by simp);have W:=Walks.range (prog:=X.prog) (w:=X.w) (I.ok.hd hc) it lo 1 n;refine W.item i s _ _ hg st fun v h' tk hv st' kk=>?_;obtain⟨t,rfl⟩:=hv;have I1:Inv X pins σ H { s with heap:=h',toks:=tk }:=I.turned (fun b o hb e=>kk b o (by simpa using hb) e) f0 f1 f3 f4 f5;refine⟨_,rfl,vC (s:={ s with heap:=h',toks:=tk }) (n:="range_iterator") st' rfl rfl (by decide) ⟨.int (lo+i),H,I1,⟨t,?_⟩,⟨rfl,rfl⟩,st',fun b hb=>(hf b hb).1⟩⟩;rw[Int.mul_one]
 done:=by
  intro X hP hw hK hc i pins s σ H E I hf st hg;subst hP hw hK;obtain⟨f0,f1,f2,f3,f4,f5⟩:=hf it (by simp);exact wpAny_pyNext_range_end (I.ok.hd hc) st (by have:n<=i:=hg;lia) fun h' eb=>⟨rfl,I.turned (t':=s.toks) (fun b o hb e=>eb b o hb e) f0 f1 f3 f4 f5⟩
 self:=fun _ _ _ _ _ st h=>wpAny_pyIter_rangeiter st h
section
variable {X:Cx}{tg:Expr}
def IH(K:qAb)(tl:TE):TI:=fun σ H R=>tl σ H fun x H1=>∃a,x = .ref a/\(∃xs,aY K H1 a xs)/\R (nO K a) H1
theorem bL{l:Expr}{tl:TE}(hl:PE X l tl):PI X tg l (IH X.K tl):=by
 intro pins s σ H R I h;refine bX (hl pins s σ H _ I h) fun v s1 ⟨x,H1,I1,r1,q1⟩=>?_;obtain⟨a,e,⟨xs,hq⟩,q⟩:=q1;subst e;cases r1;obtain⟨its,rv,p,hz⟩:=I1.list hq;refine qDw p.isList ?_;refine⟨s1.heap.objs.size,[s1.heap.objs.size],_,_,H1,rfl,I1.kept (t':=s1.toks) fun b o e=>qAh _ e,oE a _,⟨_,qBa _ rfl,rfl,rfl⟩,fun b hb=>?_,q⟩;have e:b=s1.heap.objs.size:=by simpa using hb
 subst e;exact I1.pT (qAi _) (I1.cQ.fresh (qAi _))
theorem rX{pins:List (Addr×Obj)}{σ:St}{H:Hp}{s:qAk}{R:It->Hp->Prop}{E:qAf->qAk->Prop}{lo hi:Int}{t u v:Tok}{tk:Nat}(I:Inv X pins σ H s)(h1:-(2^62)<=lo)(h2:lo<2^62)(h3:-(2^62)<=hi)(h4:hi<2^62)
  (q:R (tO lo (hi-lo).toNat) H):qBs (qBz X.prog X.w) X.A (pyIter (.ref s.heap.objs.size)) (MH X pins σ tg R) E { s with heap:=s.heap.push { cls:=.type "range",data:=.fields #[.int lo t,.int hi u,.int 1 v] },toks:=tk }:=by
 refine wpAny_pyIter_range (IsRange.new ..) (small_one h1 h2 h3 h4) ?_;have I1:Inv X pins σ H { s with heap:=s.heap.push { cls:=.type "range",data:=.fields #[.int lo t,.int hi u,.int 1 v] },toks:=tk }:=I.kept fun b o e=>qAh _ e;refine⟨(s.heap.push { cls:=.type "range",data:=.fields #[.int lo t,.int hi u,.int 1 v] }).objs.size,[(s.heap.push { cls:=.type "range",data:=.fields #[.int lo t,.int hi u,.int 1 v] }).objs.size],_,_,H,rfl,
  I1.kept (t':=tk) fun b o e=>qAh _ e,tS _ lo (hi-lo).toNat,?_,fun b hb=>?_,q⟩
 ·have e1:lo+((0:Nat):Int)*1=lo:=by simp
  have e2:(((hi-lo).toNat:Nat):Int)-((0:Nat):Int)=Builtin.Range.rangeSize lo hi 1:=by rw[rangeSize_one];split <;> lia
  show IsRangeIter _ _ (lo+((0:Nat):Int)*1) ((((hi-lo).toNat:Nat):Int)-((0:Nat):Int)) 1;rw[e1,e2];exact qBa _ rfl
 ·have e:b=(s.heap.push { cls:=.type "range",data:=.fields #[.int lo t,.int hi u,.int 1 v] }).objs.size:=by simpa using hb
  subst e;exact I1.pT (qAi _) (I1.cQ.fresh (qAi _))
def II(ta:TA):TI:=fun σ H R=>ta σ H fun vs H1=>∃j:Int,vs=[.int j]/\-(2^62)<=j/\j<2^62/\R (tO 0 j.toNat) H1
def IJ(ta:TA):TI:=fun σ H R=>ta σ H fun vs H1=>∃i j:Int,vs=[.int i,.int j]/\(-(2^62)<=i/\i<2^62/\-(2^62)<=j/\j<2^62)/\R (tO i (j-i).toNat) H1
theorem iL{a:Expr}{ta:TA}{p pos:Pos}(hg:Gl X "range")(hm:X.mg "range"=none)(ha:PA X [a] ta)(hs:qBk [a] X.env=[(false,eval a X.env)]:=by rfl):PI X tg (.Call (.Name "range" p) [a] [] pos) (II ta):=by
 intro pins s σ H R I h;refine Call_ (g9 I hg hm boot_range (qEf (bX (ha pos pins s σ H _ I h) fun us s1 ⟨vs,H1,I1,r1,q1⟩=>?_) hs rfl));obtain⟨j,e,q1,q2,q⟩:=q1;subst e;cases r1 with
 | cons r rr =>
  cases rr
  obtain⟨t,rfl⟩:=r;exact call_range_1 (rX I1 (by lia) (by lia) q1 q2 (by simpa using q))
theorem kA(hg:Gl X "range")(hm:X.mg "range"=none)(ha:PA X [a,b] ta)(hs:qBk [a,b] X.env=[(false,eval a X.env),(false,eval b X.env)]:=by rfl)(hs2:qBk [b] X.env=[(false,eval b X.env)]:=by rfl):
  PI X tg (.Call (.Name "range" p) [a,b] [] pos) (IJ ta):=by
 intro pins s σ H R I h;refine Call_ (g9 I hg hm boot_range (qEf (bX (ha pos pins s σ H _ I h) fun us s1 ⟨vs,H1,I1,r1,q1⟩=>?_) (by rw[hs,hs2]) (by rw[hs2];rfl)));obtain⟨i,j,e,⟨q1,q2,q3,q4⟩,q⟩:=q1;subst e;cases r1 with
 | cons r rr =>
  cases rr with
  | cons r' rr =>
   cases rr
   obtain⟨t,rfl⟩:=r;obtain⟨t',rfl⟩:=r';exact call_range_2 (rX I1 q1 q2 q3 q4 q)
def Ld(wi:TI)(g:TG)(tb:TS):TS:=fun D σ H=>wi σ H fun J H1=>∃W:Nat->Nat->St->Hp->Prop,(∃m,W 0 m σ H1)/\∀i m σ H,W i m σ H ->
 (J.stop i H/\D.nx σ H)\/(J.go i H/\∃N:St->Hp->Prop,(∀σ' H',N σ' H'->∃m',m'<m/\W (i+1) m' σ' H')/\∀x H',J.rF i H x H'->g x σ H' fun σ2 H2=>tb { D with nx:=N,ct:=N,bk:=D.nx } σ2 H2)
def lX(fp:List Addr)(h:Heap):List (Addr×Obj):=fp.filterMap fun b=>(h.get? b).map fun o=>(b,o)
theorem gJ(hb:b∈fp)(e:h.get? b=some o):(b,o)∈lX fp h:=List.mem_filterMap.mpr ⟨b,hb,by rw[e];rfl⟩
theorem wY(hp:p∈lX fp h):p.1∈fp/\h.get? p.1=some p.2:=by
 obtain⟨b,hb,e⟩:=List.mem_filterMap.mp hp;cases q:h.get? b with
 | none=>rw[q] at e;cases e
 | some o =>
  rw[q] at e;have e':(b,o)=p:=Option.some.inj e;subst e';exact⟨hb,q⟩
theorem Inv.pinned(I:Inv X pins σ H s)(hf:∀b∈fp,gW X pins H b)(ho:∀b∈fp,∃o,s.heap.get? b=some o/\∀v,o.data≠.cell v):Inv X (pins++lX fp s.heap) σ H s :=
 I.pQ fun p hp=>(List.mem_append.mp hp).elim (fun z=>I.pin p (qAp _ z)) fun z=>by
  obtain⟨hb,e⟩:=wY z;obtain⟨f0,f1,f2,_⟩:=hf p.1 hb;obtain⟨o,e',d⟩:=ho p.1 hb;rw[e] at e';cases e';exact⟨e,f0,f1,f2,d⟩
theorem Inv.e9(I:Inv X (pins++pl) σ H s):Inv X pins σ H s:=I.pQ fun p hp=>I.pin p (qAp _ (qDs _ hp))
theorem gK(hp:PassesOwn (qBz X.prog X.w) X.A X.env X.xe)(hc:X.calm=true)(hi:PI X tg iter wi)(hg:PG X tg g)(hb:oC X body tb)
  (hs:∀x,qGl iter X.env x=pure x:=by intro _;rfl):PS X (.For tg iter body [] pos) (Ld wi g tb):=by
 intro pins s σ H D I h;refine wpAny_For (bX (hi pins s σ H _ I h) fun v s1 h1=>bX h1 fun itv s2 h2=>?_) hs;obtain⟨it,fp,tn,J,H2,e,I2,T,st2,f2,W,⟨m0,w0⟩,turn⟩:=h2;subst e;have stat:∀{H':Hp},(∀b∈fp,H' b=none)->∀b∈fp,gW X pins H' b:=fun hn b hb=>⟨hn b hb,(f2 b hb).2⟩;refine codeAny_forLoop_any (fun n s'=>∃i σ' H',Inv X pins σ' H' s'/\tn i s'.heap/\(∀b∈fp,H' b=none)/\W i n σ' H') ?_ m0 ⟨0,σ,H2,I2,st2,fun b hb=>(f2 b hb).1,w0⟩;rintro n s3 ⟨i,σ3,H3,I3,st3,fr3,w3⟩;rcases turn i n σ3 H3 w3 with ⟨stop,qn⟩ | ⟨go,N,hN,step⟩
 ·refine qEl hp (bX (T.done X rfl rfl rfl hc i pins s3 σ3 H3 X.xe I3 (stat fr3) st3 stop) fun r s4 ⟨hr,I4⟩=>?_);subst hr;exact qFu ⟨σ3,H3,I4,qn⟩
 ·refine qEl hp (bX (T.item X rfl rfl rfl hc i pins s3 σ3 H3 X.xe I3 (stat fr3) st3 go) fun r s4 ⟨u,hr,h4⟩=>?_);subst hr;refine qEl hp (bX h4 fun _ s5 ⟨x,H5,I5,r5,y5,st5,fr5⟩=>?_);have I5':=I5.pinned (stat fr5) (T.obj _ _ st5);refine qEl hp (bX (hg _ s5 σ3 H5 x u _ I5' r5 (step x H5 y5)) fun _ s6 ⟨σ6,H6,I6,q6⟩=>?_);refine qEl hp (bX (hb _ s6 σ6 H6 _ I6 q6) fun f s7 q7=>?_);have again:∀{σ7:St}{H7:Hp},Inv X (pins++lX fp s5.heap) σ7 H7 s7->N σ7 H7->∃m,m<n/\∃i σ' H',Inv X pins σ' H' s7/\tn i s7.heap/\(∀b∈fp,H' b=none)/\W i m σ' H':=fun {σ7 H7} I7 n7=>by
   obtain⟨m',hm,w7⟩:=hN σ7 H7 n7;refine⟨m',hm,i+1,σ7,H7,I7.e9,T.keep _ _ _ st5 fun b hb o e=>(I7.pin (b,o) (qAp _ (qAp _ (gJ hb e)))).1,fun b hb=>?_,w7⟩;obtain⟨o,e,d⟩:=T.obj _ _ st5 b hb;exact(I7.pin (b,o) (qAp _ (qAp _ (gJ hb e)))).2.1
  cases f with
  | next=>obtain⟨σ7,H7,I7,n7⟩:=q7;exact again I7 n7
  | cont=>obtain⟨σ7,H7,I7,n7⟩:=q7;exact again I7 n7
  | brk=>obtain⟨σ7,H7,I7,q7⟩:=q7;exact⟨σ7,H7,I7.e9,q7⟩
  | ret v=>obtain⟨x7,σ7,H7,I7,r7,q7⟩:=q7;exact⟨x7,σ7,H7,I7.e9,r7,q7⟩
end
theorem jL{K:qAb}{a:Addr}{xs:List V}{g:TG}{tb:TS}{D:Ends}{σ:St}{H:Hp}(Pv:Nat->St->Hp->Prop)(h0:Pv 0 σ H)(hl:∀i σ H,i<=xs.length->Pv i σ H->aY K H a xs)
  (hs:∀i x σ H,xs[i]?=some x->Pv i σ H->g x σ H fun σ2 H2=>tb { D with nx:=Pv (i+1),ct:=Pv (i+1),bk:=D.nx } σ2 H2) (hd:∀σ H,Pv xs.length σ H->D.nx σ H) :
  ∃W:Nat->Nat->St->Hp->Prop,(∃m,W 0 m σ H)/\∀i m σ H,W i m σ H ->
   ((nO K a).stop i H/\D.nx σ H)\/((nO K a).go i H/\∃N:St->Hp->Prop,(∀σ' H',N σ' H'->∃m',m'<m/\W (i+1) m' σ' H')/\∀x H',(nO K a).rF i H x H'->g x σ H' fun σ2 H2=>tb { D with nx:=N,ct:=N,bk:=D.nx } σ2 H2):=by
 refine⟨fun i m σ H=>m=xs.length-i/\i<=xs.length/\Pv i σ H,⟨xs.length,by simp,qBm _,h0⟩,?_⟩;rintro i m σ H ⟨rfl,hi,p⟩;have q:=hl i σ H hi p;by_cases hlt:i<xs.length
 ·refine .inr ⟨⟨xs,xs[i],q,by simp[hlt]⟩,Pv (i+1),fun σ' H' p'=>⟨xs.length-(i+1),by lia,rfl,hlt,p'⟩,fun x H' y=>?_⟩;obtain⟨e,y⟩:=y;subst e;exact hs i x σ _ (y xs q) p
 ·have e:i=xs.length:=by lia
  subst e;exact .inl ⟨⟨xs,q,qAi _⟩,hd σ H p⟩
theorem iQ{lo:Int}{n:Nat}{g:TG}{tb:TS}{D:Ends}{σ:St}{H:Hp}(Pv:Nat->St->Hp->Prop)(h0:Pv 0 σ H)
  (hs:∀i σ H,i<n->Pv i σ H->g (.int (lo+i)) σ H fun σ2 H2=>tb { D with nx:=Pv (i+1),ct:=Pv (i+1),bk:=D.nx } σ2 H2) (hd:∀σ H,Pv n σ H->D.nx σ H) :
  ∃W:Nat->Nat->St->Hp->Prop,(∃m,W 0 m σ H)/\∀i m σ H,W i m σ H ->
   ((tO lo n).stop i H/\D.nx σ H)\/((tO lo n).go i H/\∃N:St->Hp->Prop,(∀σ' H',N σ' H'->∃m',m'<m/\W (i+1) m' σ' H')/\∀x H',(tO lo n).rF i H x H'->g x σ H' fun σ2 H2=>tb { D with nx:=N,ct:=N,bk:=D.nx } σ2 H2):=by
 refine⟨fun i m σ H=>m=n-i/\i<=n/\Pv i σ H,⟨n,by simp,qBm _,h0⟩,?_⟩;rintro i m σ H ⟨rfl,hi,p⟩;by_cases hlt:i<n
 ·refine .inr ⟨hlt,Pv (i+1),fun σ' H' p'=>⟨n-(i+1),by lia,rfl,hlt,p'⟩,fun x H' y=>?_⟩;obtain⟨e,y⟩:=y;subst e y;exact hs i σ _ hlt p
 ·have e:i=n:=by lia
  subst e;exact .inl ⟨qAi _,hd σ H p⟩
abbrev R2:=V->V->Hp->VK->Prop
def gX(X:Cx)(f:qAf->qAf->Sem qAf)(r:R2):Prop :=
 ∀(pins:List (Addr×Obj)) (s:qAk) (σ:St) (H:Hp) (x y:V) (v u:qAf) (Q:VK),Inv X pins σ H s->RelV x v->RelV y u->r x y H Q ->
  qBs (qBz X.prog X.w) X.A (f v u) (EP X pins σ Q) X.xe s
def KO(X:Cx)(f:qAf->Sem qAf)(r:V->Hp->VK->Prop):Prop :=
 ∀(pins:List (Addr×Obj)) (s:qAk) (σ:St) (H:Hp) (x:V) (v:qAf) (Q:VK),Inv X pins σ H s->RelV x v->r x H Q ->
  qBs (qBz X.prog X.w) X.A (f v) (EP X pins σ Q) X.xe s
def eQ(X:Cx)(f:qAf)(r:List V->Hp->VK->Prop):Prop :=
 ∀(pins:List (Addr×Obj)) (s:qAk) (σ:St) (H:Hp) (xs:List V) (us:List qAf) (Q:VK),Inv X pins σ H s->Vals xs us->r xs H Q ->
  qBs (qBz X.prog X.w) X.A (call f us) (EP X pins σ Q) X.xe s
def HE(r:R2)(ta tb:TE):TE:=fun σ H Q=>ta σ H fun x H1=>tb σ H1 fun y H2=>r x y H2 Q
def Nd(r:V->Hp->VK->Prop)(ta:TE):TE:=fun σ H Q=>ta σ H fun x H1=>r x H1 Q
def rI(C:Int->Int->Prop)(g:Int->Int->V):R2:=fun x y H Q=>∃i j,x = .int i/\y = .int j/\C i j/\Q (g i j) H
def zJ(g:Int->Int->V):R2:=fun x y H Q=>∃i j,x = .int i/\y = .int j/\Q (g i j) H
def rU(g:Int->V):V->Hp->VK->Prop:=fun x H Q=>∃i,x = .int i/\Q (g i) H
section
variable {X:Cx}{a b c:Expr}{ta tb tc:TE}{pos:Pos}
theorem Er(ha:PE X a ta)(hb:PE X b tb){pins:List (Addr×Obj)}{s:qAk}{σ:St}{H:Hp}{R:V->V->Hp->Prop}(I:Inv X pins σ H s)
  (h:ta σ H fun x H1=>tb σ H1 fun y H2=>R x y H2){Q:qAf->qAk->Prop}{f:qAf->qAf->Sem qAf}
  (hf:∀v u s2 x y H2,Inv X pins σ H2 s2->RelV x v->RelV y u->R x y H2->qBs (qBz X.prog X.w) X.A (f v u) Q X.xe s2) :
  qBs (qBz X.prog X.w) X.A (eval a X.env) (fun v s₁=>qBs (qBz X.prog X.w) X.A (eval b X.env) (fun u s₂=>qBs (qBz X.prog X.w) X.A (f v u) Q X.xe s₂) X.xe s₁) X.xe s:=by
 refine bX (ha pins s σ H _ I h) fun v s1 ⟨x,H1,I1,r1,q1⟩=>?_;refine bX (hb pins s1 σ H1 _ I1 q1) fun u s2 ⟨y,H2,I2,r2,q2⟩=>?_;exact hf v u s2 x y H2 I2 r1 r2 q2
theorem aM(ho:gX X (qEi op) r)(ha:PE X a ta)(hb:PE X b tb):PE X (.BinOp a op b pos) (HE r ta tb):=by
 intro pins s σ H Q I h;exact wpAny_BinOp (Er ha hb I h fun v u s2 x y H2 I2 rx ry q=>ho pins s2 σ H2 x y v u Q I2 rx ry q)
theorem gD(ho:KO X (unaryOp op) r)(ha:PE X a ta):PE X (.UnaryOp op a pos) (Nd r ta):=by
 intro pins s σ H Q I h;exact UnaryOp_ (bX (ha pins s σ H _ I h) fun v s1 ⟨x,H1,I1,r1,q1⟩=>ho pins s1 σ H1 x v Q I1 r1 q1)
theorem Es{f:qAf->qAf->Sem qAf}{C:Int->Int->Prop}{g:Int->Int->Int}
  (rule:∀(i j:Int) (t u:Tok) (s:qAk) (Q:qAf->qAk->Prop) (E:qAf->qAk->Prop),C i j->Q (.int (g i j) s.toks) { s with toks:=s.toks+1 }->qBs (qBz X.prog X.w) X.A (f (.int i t) (.int j u)) Q E s) :
  gX X f (rI C fun i j=>.int (g i j)):=by
 intro pins s σ H x y v u Q I rx ry h;obtain⟨i,j,rfl,rfl,hc,q⟩:=h;obtain⟨t,rfl⟩:=rx;obtain⟨t',rfl⟩:=ry;exact rule i j t t' s _ _ hc ⟨.int (g i j),H,I.tok _,⟨_,rfl⟩,q⟩
theorem BP{f:qAf->qAf->Sem qAf}{g:Int->Int->Int}
  (rule:∀(i j:Int) (t u:Tok) (s:qAk) (Q:qAf->qAk->Prop) (E:qAf->qAk->Prop),Q (.int (g i j) s.toks) { s with toks:=s.toks+1 }->qBs (qBz X.prog X.w) X.A (f (.int i t) (.int j u)) Q E s) :
  gX X f (zJ fun i j=>.int (g i j)):=by
 intro pins s σ H x y v u Q I rx ry h;obtain⟨i,j,rfl,rfl,q⟩:=h;obtain⟨t,rfl⟩:=rx;obtain⟨t',rfl⟩:=ry;exact rule i j t t' s _ _ ⟨.int (g i j),H,I.tok _,⟨_,rfl⟩,q⟩
theorem BQ{f:qAf->qAf->Sem qAf}{g:Int->Int->Bool}
  (rule:∀(i j:Int) (t u:Tok) (s:qAk) (Q:qAf->qAk->Prop) (E:qAf->qAk->Prop),Q (.bool (g i j)) s->qBs (qBz X.prog X.w) X.A (f (.int i t) (.int j u)) Q E s) :
  gX X f (zJ fun i j=>.bl (g i j)):=by
 intro pins s σ H x y v u Q I rx ry h;obtain⟨i,j,rfl,rfl,q⟩:=h;obtain⟨t,rfl⟩:=rx;obtain⟨t',rfl⟩:=ry;exact rule i j t t' s _ _ ⟨.bl (g i j),H,I,rfl,q⟩
def Le(i j:Int):Prop:=0<j/\j<1073741824
def IK(i j:Int):Prop:=0<=j/\j<=1000000/\i.natAbs<2^64
def BR(i j:Int):Prop:=(-(2^64)<i/\i<2^64)\/(-(2^64)<j/\j<2^64)
theorem BR.ok(h:BR i j):IntMulOk i j:=by
 rcases h with ⟨h1,h2⟩ | ⟨h1,h2⟩
 ·exact .of_left (intBits_le_64 h1 h2)
 ·exact .of_right (intBits_le_64 h1 h2)
theorem tT(k:Nat):(0:Int)<=2^k:=by
 rw[two_pow_cast];exact qDr _
theorem cL:gX X (qEi .Add) (zJ fun i j=>.int (i+j)):=BP fun _ _ _ _ _ _ _ q=>add_int q
theorem fP:gX X (qEi .Sub) (zJ fun i j=>.int (i-j)):=BP fun _ _ _ _ _ _ _ q=>sub_int q
theorem hV:gX X (qEi .Mult) (rI BR fun i j=>.int (i*j)):=Es fun _ _ _ _ _ _ _ hc q=>mul_int q hc.ok
theorem fY:gX X (qEi .FloorDiv) (rI Le fun i j=>.int (i/j)):=Es fun i j _ _ _ _ _ hc q=>by
 have h1:(0:Int)<j:=hc.1;have h2:j<1073741824:=hc.2;exact floordiv_int (by lia) (by rw[qIw i (by lia)];exact q) (.inl (PyProof.noPylong_small (by lia)))
theorem c9:gX X (qEi .Mod) (rI (fun _ j=>0<j) fun i j=>.int (i%j)):=Es fun i j _ _ _ _ _ hc q=>by
 have h1:(0:Int)<j:=hc;exact mod_int' (by lia) (by rw[Int.fmod_eq_emod_of_nonneg i (by lia)];exact q)
theorem zK:gX X (qEi .Pow) (rI IK fun i j=>.int (i^j.toNat)):=Es fun _ _ _ _ _ _ _ hc q=>pow_int_small hc.1 hc.2.1 hc.2.2 q
theorem tU:gX X (qEi .LShift) (rI IK fun i j=>.int (i*2^j.toNat)):=Es fun _ _ _ _ _ _ _ hc q=>lshift_int_small hc.1 hc.2.1 hc.2.2 q
theorem lY:gX X (qEi .RShift) (rI (fun _ j=>0<=j) fun i j=>.int (i/2^j.toNat)):=Es fun i j _ _ _ _ _ hc q =>
 rshift_int hc (by rw[qIw i (tT _)];exact q)
theorem gA:gX X (qEi .BitAnd) (zJ fun i j=>.int (qBw i j)):=BP fun _ _ _ _ _ _ _ q=>and_int q
theorem rY:gX X (qEi .BitOr) (zJ fun i j=>.int (qCg i j)):=BP fun _ _ _ _ _ _ _ q=>or_int q
theorem Nf{f:qAf->Sem qAf}{g:Int->Int}
  (rule:∀(i:Int) (t:Tok) (s:qAk) (Q:qAf->qAk->Prop) (E:qAf->qAk->Prop),Q (.int (g i) s.toks) { s with toks:=s.toks+1 }->qBs (qBz X.prog X.w) X.A (f (.int i t)) Q E s) :
  KO X f (rU fun i=>.int (g i)):=by
 intro pins s σ H x v Q I rx h;obtain⟨i,rfl,q⟩:=h;obtain⟨t,rfl⟩:=rx;exact rule i t s _ _ ⟨.int (g i),H,I.tok _,⟨_,rfl⟩,q⟩
theorem eV:KO X (unaryOp .USub) (rU fun i=>.int (-i)):=Nf fun _ _ _ _ _ q=>neg_int q
end
def IL:V->V->Bool
 | .non,.non=>true | .non,.int _=>true | .int _,.non=>true | .non,.bl _=>true | .bl _,.non=>true | .non,.str _=>true | .str _,.non=>true
 | .int _,.int _=>true | .bl _,.bl _=>true | .str _,.str _=>true | .byt _,.byt _=>true
 | .int _,.str _=>true | .str _,.int _=>true | .bl _,.str _=>true | .str _,.bl _=>true
 | _,_=>false
def Ng:R2:=fun x y H Q=>IL x y=true/\Q (.bl (decide (x=y))) H
def MJ:R2:=fun x y H Q=>IL x y=true/\Q (.bl (!decide (x=y))) H
theorem vD:decide (V.int i=V.int j)=(i == j):=by
 rw[qEt];simp
theorem zL:decide (V.bl i=V.bl j)=(i == j):=by
 rw[qEt];simp
theorem vE:decide (V.str i=V.str j)=(i == j):=by
 rw[qEt];simp
theorem vF:decide (V.byt i=V.byt j)=(i.toList == j.toList):=by
 rw[qEt];cases i;cases j;simp
section
variable {X:Cx}{a b c:Expr}{ta tb tc:TE}{pos:Pos}
theorem bT(I:Inv X pins σ H s)(q:Q (.bl k) H)(e:k=k'):EP X pins σ Q (.bool k') s:=by
 subst e;exact⟨.bl k,H,I,rfl,q⟩
theorem bU:gX X (qDp .Eq) Ng:=by
 intro pins s σ H x y v u Q I rx ry h;obtain⟨hs,q⟩:=h;cases x with
 | non =>
  cases rx
  cases y with
  | non=>cases ry;exact PySem.EqNone.eq_none_none (bT I q (by simp))
  | bl j=>cases ry;exact PySem.EqNone.eq_none_bool (bT I q (by simp))
  | int j=>obtain⟨t',rfl⟩:=ry;exact PySem.EqNone.eq_none_int (bT I q (by simp))
  | str j=>obtain⟨t',rfl⟩:=ry;exact PySem.EqNone.eq_none_str (bT I q (by simp))
  | _=>exact absurd (show false=true from hs) qAl
 | bl i =>
  cases rx
  cases y with
  | non=>cases ry;exact PySem.EqNone.eq_bool_none (bT I q (by simp))
  | bl j=>cases ry;exact eq_bool (bT I q zL)
  | str j=>obtain⟨t',rfl⟩:=ry;exact PySem.EqMixed.eq_bool_str (bT I q (by simp))
  | _=>exact absurd (show false=true from hs) qAl
 | int i =>
  obtain⟨t,rfl⟩:=rx;cases y with
  | non=>cases ry;exact PySem.EqNone.eq_int_none (bT I q (by simp))
  | int j=>obtain⟨t',rfl⟩:=ry;exact eq_int (bT I q vD)
  | str j=>obtain⟨t',rfl⟩:=ry;exact PySem.EqMixed.eq_int_str (bT I q (by simp))
  | _=>exact absurd (show false=true from hs) qAl
 | str i =>
  obtain⟨t,rfl⟩:=rx;cases y with
  | non=>cases ry;exact PySem.EqNone.eq_str_none (bT I q (by simp))
  | bl j=>cases ry;exact PySem.EqMixed.eq_str_bool (bT I q (by simp))
  | int j=>obtain⟨t',rfl⟩:=ry;exact PySem.EqMixed.eq_str_int (bT I q (by simp))
  | str j=>obtain⟨t',rfl⟩:=ry;exact eq_str (bT I q vE)
  | _=>exact absurd (show false=true from hs) qAl
 | byt i =>
  obtain⟨t,rfl⟩:=rx;cases y with
  | byt j=>obtain⟨t',rfl⟩:=ry;exact PySem.W.eq_bytes (bT I q vF)
  | _=>exact absurd (show false=true from hs) qAl
 | _=>cases y <;> exact absurd (show false=true from hs) qAl
theorem gR:gX X (qDp .NotEq) MJ:=by
 intro pins s σ H x y v u Q I rx ry h;obtain⟨hs,q⟩:=h;cases x with
 | non =>
  cases rx
  cases y with
  | non=>cases ry;exact PySem.EqNone.ne_none_none (bT I q (by simp))
  | bl j=>cases ry;exact PySem.EqNone.ne_none_bool (bT I q (by simp))
  | int j=>obtain⟨t',rfl⟩:=ry;exact PySem.EqNone.ne_none_int (bT I q (by simp))
  | str j=>obtain⟨t',rfl⟩:=ry;exact PySem.EqNone.ne_none_str (bT I q (by simp))
  | _=>exact absurd (show false=true from hs) qAl
 | bl i =>
  cases rx
  cases y with
  | non=>cases ry;exact PySem.EqNone.ne_bool_none (bT I q (by simp))
  | bl j=>cases ry;exact ne_bool (bT I q (congrArg not zL))
  | str j=>obtain⟨t',rfl⟩:=ry;exact PySem.EqMixed.ne_bool_str (bT I q (by simp))
  | _=>exact absurd (show false=true from hs) qAl
 | int i =>
  obtain⟨t,rfl⟩:=rx;cases y with
  | non=>cases ry;exact PySem.EqNone.ne_int_none (bT I q (by simp))
  | int j=>obtain⟨t',rfl⟩:=ry;exact ne_int (bT I q (congrArg not vD))
  | str j=>obtain⟨t',rfl⟩:=ry;exact PySem.EqMixed.ne_int_str (bT I q (by simp))
  | _=>exact absurd (show false=true from hs) qAl
 | str i =>
  obtain⟨t,rfl⟩:=rx;cases y with
  | non=>cases ry;exact PySem.EqNone.ne_str_none (bT I q (by simp))
  | bl j=>cases ry;exact PySem.EqMixed.ne_str_bool (bT I q (by simp))
  | int j=>obtain⟨t',rfl⟩:=ry;exact PySem.EqMixed.ne_str_int (bT I q (by simp))
  | str j=>obtain⟨t',rfl⟩:=ry;exact ne_str (bT I q (congrArg not vE))
  | _=>exact absurd (show false=true from hs) qAl
 | byt i =>
  obtain⟨t,rfl⟩:=rx;cases y with
  | byt j=>obtain⟨t',rfl⟩:=ry;exact PySem.W.ne_bytes (bT I q (congrArg not vF))
  | _=>exact absurd (show false=true from hs) qAl
 | _=>cases y <;> exact absurd (show false=true from hs) qAl
theorem jM:gX X (qDp .Lt) (zJ fun i j=>.bl (decide (i<j))):=BQ fun _ _ _ _ _ _ _ q=>lt_int q
theorem rZ:gX X (qDp .LtE) (zJ fun i j=>.bl (decide (i<=j))):=BQ fun _ _ _ _ _ _ _ q=>le_int q
theorem lZ:gX X (qDp .Gt) (zJ fun i j=>.bl (decide (j<i))):=BQ fun _ _ _ _ _ _ _ q=>gt_int q
theorem zM:gX X (qDp .GtE) (zJ fun i j=>.bl (decide (j<=i))):=BQ fun _ _ _ _ _ _ _ q=>ge_int q
theorem wZ:gX X (qDp .In) (fun x y H Q=>∃i j,x = .str i/\y = .str j/\Q (.bl (!(Builtin.Str.occurrences j i 0 j.length 1).isEmpty)) H):=by
 intro pins s σ H x y v u Q I rx ry h;obtain⟨i,j,rfl,rfl,q⟩:=h;obtain⟨t,rfl⟩:=rx;obtain⟨t',rfl⟩:=ry;exact in_str (bT I q rfl)
theorem aV(b:Expr){op:CmpOp}(h:op≠.In:=by decide)(h2:op≠.NotIn:=by decide):qGt op b=false:=by
 have e1:(op == CmpOp.In)=false:=by cases op <;> first | rfl | exact absurd rfl h
 have e2:(op == CmpOp.NotIn)=false:=by cases op <;> first | rfl | exact absurd rfl h2
 cases b <;> simp[qGt,e1,e2]
theorem eJ(ho:gX X (qDp op) r)(ha:PE X a ta)(hb:PE X b tb)(hm:qGt op b=false):PE X (.Compare a [op] [b] pos) (HE r ta tb):=by
 intro pins s σ H Q I h;exact wpAny_Compare1 (Er ha hb I h fun v u s2 x y H2 I2 rx ry q=>ho pins s2 σ H2 x y v u Q I2 rx ry q) hm
def Ds(t:TE):TT:=fun σ H Q=>t σ H fun x H'=>∃k,x = .bl k/\Q k H'
theorem aS(ho:gX X (qDp op) r)(ha:PE X a ta)(hb:PE X b tb)(hm:qGt op b=false):PT X (.Compare a [op] [b] pos) (Ds (HE r ta tb)):=by
 intro pins s σ H Q I h;refine wpAny_isTrue_Compare1 (bX (ha pins s σ H _ I h) fun v s1 ⟨x,H1,I1,r1,q1⟩=>bX (hb pins s1 σ H1 _ I1 q1) fun u s2 ⟨y,H2,I2,r2,q2⟩ =>
  bX (ho pins s2 σ H2 x y v u _ I2 r1 r2 q2) fun c s3 ⟨z,H3,I3,r3,k,e,q3⟩=>?_) hm
 subst e;cases r3;exact qCi ⟨H3,I3,q3⟩
def zN(r r':R2)(ta tb tc:TE):TE:=fun σ H Q=>ta σ H fun x H1=>tb σ H1 fun y H2=>r x y H2 fun z H3=>∃k,z = .bl k /\
 (if k=true then tc σ H3 fun w' H4=>r' y w' H4 Q else Q (.bl false) H3)
theorem zO(ho:gX X (qDp op) r)(ho':gX X (qDp op') r')(ha:PE X a ta)(hb:PE X b tb)(hc:PE X c tc)
  (hm:lastMarks [op,op'] [b,c]=false:=by with_unfolding_all rfl):PE X (.Compare a [op,op'] [b,c] pos) (zN r r' ta tb tc):=by
 intro pins s σ H Q I h;refine Compare_chain (bX (ha pins s σ H _ I h) fun v s1 ⟨x,H1,I1,r1,q1⟩=>chain_link (bX (hb pins s1 σ H1 _ I1 q1) fun u s2 ⟨y,H2,I2,r2,q2⟩ =>
  bX (ho pins s2 σ H2 x y v u _ I2 r1 r2 q2) fun d s3 ⟨z,H3,I3,r3,k,e,q3⟩=>?_)) hm
 subst e;cases r3;refine qCi ?_;cases k with
 | false=>exact ite_ff ⟨.bl false,H3,I3,rfl,q3⟩
 | true=>exact ite_tt (chain_last (bX (hc pins s3 σ H3 _ I3 q3) fun w' s4 ⟨z',H4,I4,r4,q4⟩=>ho' pins s4 σ H4 y z' u w' Q I4 r2 r4 q4))
theorem zP(ho:gX X (qDp op) r)(ho':gX X (qDp op') r')(ha:PE X a ta)(hb:PE X b tb)(hc:PE X c tc)
  (hm:lastMarks [op,op'] [b,c]=false:=by with_unfolding_all rfl):PT X (.Compare a [op,op'] [b,c] pos) (Ds (zN r r' ta tb tc)):=by
 intro pins s σ H Q I h;refine isTrue_chain (bX (ha pins s σ H _ I h) fun v s1 ⟨x,H1,I1,r1,q1⟩=>test_link (bX (hb pins s1 σ H1 _ I1 q1) fun u s2 ⟨y,H2,I2,r2,q2⟩ =>
  bX (ho pins s2 σ H2 x y v u _ I2 r1 r2 q2) fun d s3 ⟨z,H3,I3,r3,k,e,q3⟩=>?_)) hm
 subst e;cases r3;refine qCi ?_;cases k with
 | false =>
  obtain⟨k',e',q'⟩:=q3;cases e';exact ite_ff ⟨H3,I3,q'⟩
 | true =>
  refine ite_tt (test_last (bX (hc pins s3 σ H3 _ I3 q3) fun w' s4 ⟨z',H4,I4,r4,q4⟩=>bX (ho' pins s4 σ H4 y z' u w' _ I4 r2 r4 q4) fun d' s5 ⟨z2,H5,I5,r5,k2,e2,q5⟩=>?_));subst e2;cases r5;exact qCi ⟨H5,I5,q5⟩
theorem kB:(qAg:Nat)<2^63:=by rw[qEv];decide
theorem tV:gX X (qEi .Add) (fun x y H Q=>∃i j,x = .str i/\y = .str j/\i.length+j.length<=qAg/\Q (.str (i++j)) H):=by
 intro pins s σ H x y v u Q I rx ry h;obtain⟨i,j,rfl,rfl,hz,q⟩:=h;obtain⟨t,rfl⟩:=rx;obtain⟨t',rfl⟩:=ry;exact add_str (fun t' tk=>⟨.str (i++j),H,I.tok _,⟨_,rfl⟩,q⟩) hz
theorem vals1(r:Vals [x] us):∃u,us=[u]/\RelV x u:=by
 cases r with
 | cons r1 r2=>cases r2;exact⟨_,rfl,r1⟩
theorem vals2(r:Vals [x,y] us):∃u w',us=[u,w']/\RelV x u/\RelV y w':=by
 cases r with
 | cons r1 r2 =>
  cases r2 with
  | cons r3 r4=>cases r4;exact⟨_,_,rfl,r1,r3⟩
theorem l8:eQ X (.builtin "abs") (fun xs H Q=>∃i,xs=[.int i]/\Q (.int (if i<0 then -i else i)) H):=by
 intro pins s σ H xs us Q I r h;obtain⟨i,rfl,q⟩:=h;obtain⟨u,rfl,t,rfl⟩:=vals1 r;exact call_abs_int fun u tk=>⟨.int (if i<0 then -i else i),H,I.tok _,⟨_,rfl⟩,q⟩
theorem w8(hc:X.calm=true):eQ X (.builtin "max") (fun xs H Q=>∃i j,xs=[.int i,.int j]/\Q (.int (if j>i then j else i)) H):=by
 intro pins s σ H xs us Q I r h;obtain⟨i,j,rfl,q⟩:=h;obtain⟨u,w',rfl,⟨t,rfl⟩,⟨t',rfl⟩⟩:=vals2 r;refine max_two_ints (I.ok.hd hc) fun h' tk k=>⟨_,H,I.kept k,?_,q⟩;by_cases hj:j>i
 ·rw[if_pos hj,if_pos hj];exact⟨_,rfl⟩
 ·rw[if_neg hj,if_neg hj];exact⟨_,rfl⟩
theorem xA(hc:X.calm=true):eQ X (.builtin "min") (fun xs H Q=>∃i j,xs=[.int i,.int j]/\Q (.int (if j<i then j else i)) H):=by
 intro pins s σ H xs us Q I r h;obtain⟨i,j,rfl,q⟩:=h;obtain⟨u,w',rfl,⟨t,rfl⟩,⟨t',rfl⟩⟩:=vals2 r;refine min_two_ints (I.ok.hd hc) fun h' tk k=>⟨_,H,I.kept k,?_,q⟩;by_cases hj:j<i
 ·rw[if_pos hj,if_pos hj];exact⟨_,rfl⟩
 ·rw[if_neg hj,if_neg hj];exact⟨_,rfl⟩
theorem kC:eQ X (.type "int") (fun xs H Q=>(∃i,xs=[.int i]/\Q (.int i) H)\/∃k,xs=[.bl k]/\Q (.int (if k then 1 else 0)) H):=by
 intro pins s σ H xs us Q I r h;rcases h with ⟨i,rfl,q⟩ | ⟨k,rfl,q⟩
 ·obtain⟨u,rfl,t,rfl⟩:=vals1 r;exact call_int_int ⟨.int i,H,I,⟨_,rfl⟩,q⟩
 ·obtain⟨u,rfl,r1⟩:=vals1 r;cases r1;exact call_int_bool ⟨.int (if k then 1 else 0),H,I.tok _,⟨_,rfl⟩,q⟩
theorem gL:eQ X (.type "str") (fun xs H Q=>∃i,xs=[.int i]/\i.natAbs.log2<1920/\Q (.str (toString i)) H):=by
 intro pins s σ H xs us Q I r h;obtain⟨i,rfl,hz,q⟩:=h;obtain⟨u,rfl,t,rfl⟩:=vals1 r;exact PySem.P.str_of_int hz ⟨.str _,H,I.tok _,⟨_,rfl⟩,q⟩
end
structure tW (h:Heap) (x dx C:Addr) (mA:Str->Option qAf):Prop where
 obj:h.get? x=some (qDu C dx)
 ns:h.Ns1 dx mA
 ne:dx≠x
theorem xB{h:Heap}{dx:Addr}{mA:Str->Option qAf}(n:h.Ns1 dx mA):∃od,h.get? dx=some od/\∀name,qGn name od=some (mA name):=by
 obtain⟨o,es,ep,ho,hd,hk,_,hm⟩:=n;refine⟨o,ho,fun name=>?_⟩;have e:=hm name;unfold nsFind findBy at e;rw[<- Array.find?_toList] at e;unfold qGn;rw[hd];dsimp only;split
 ·rename_i y q;rw[q] at e;exact congrArg some e
 ·rename_i q;rw[q] at e;have a:es.toList.any (·.refKey)=false:=by
   rw[List.any_eq_false];intro y hy;obtain⟨z,t,hkey⟩:=hk y (Array.mem_toList_iff.mp hy);simp[DictEntry.refKey,hkey]
  have a':¬es.toList.any (·.refKey)=true:=by rw[a];exact qAl
  rw[if_neg a'];exact congrArg some e
theorem tW.look(I:tW h x dx C mA):∃od,PySem.W.InstAt h x (qDu C dx) C (some od)/\∀name,qGn name od=some (mA name) :=
 let ⟨od,ho,hl⟩:=xB I.ns
 ⟨od,⟨I.obj,rfl,rfl,ho⟩,hl⟩
section
variable {prog:qBc}{w:qCd}{A:qCu}{E:qAf->qAk->Prop}{s:qAk}{K:qAb}{x dx C f:Addr}{mA:Str->Option qAf}{name:Str}{v:qAf}
theorem get_map(X:K.In s.heap)(I:tW s.heap x dx C mA)(hg:qCv K C name=true)(hh:qCy K C=true)
  (ha:qAd K (.ref C) name=some none) (hv:mA name=some v) (hv':qJw v=true) (h:Q v { s with toks:=s.toks+1 }) :
  qBs (qBz prog w) A (getAttr (.ref x) name expr) Q E s:=by
 obtain⟨od,J,hl⟩:=I.look;exact PySem.W.get_value X J (qGq hg).1 (PySem.W.findObj_own hh ha rfl (by rw[hl,hv])) hv' h
theorem zQ(X:K.In s.heap)(I:tW s.heap x dx C mA)(hg:qCv K C name=true)
  (hf:qAd K (.ref C) name=some (some (.ref f))) (ht:qBl K (.ref f)=true) (hv:mA name=none) (h:Q (.ref f,[.ref x]) s) :
  qBs (qBz prog w) A (qHd (.ref x) name pl) Q E s:=by
 obtain⟨od,J,hl⟩:=I.look;exact PySem.W.method_fn X J (qGq hg).1 (qGq hg).2 hf (beq_iff_eq.mp ht) (by show(qGn name od).map (·.isSome)=some false;rw[hl,hv];rfl) h
theorem BS(X:K.In s.heap)(I:tW s.heap x dx C mA)
  (hs:qAd K (.ref C) "__setattr__"=some (some (.builtin "object.__setattr__"))) (hp:qDd K C=true) (ht:qHk K C name=some none) (hh:qCy K C=true)
  (hw:PySem.Within mA ns) (hsz:ns.length<=qAg)
  (h:∀h',tW h' x dx C (fun y=>if y=name then some v else mA y)->qHp dx s.heap h'->Q () { s with heap:=h',toks:=s.toks+2 }) :
  qBs (qBz prog w) A (setAttr (.ref x) name v) Q E s:=by
 obtain⟨od,J,hl⟩:=I.look;refine PySem.W.set_plain X J hs (PySem.W.osa_open (s:={ s with toks:=s.toks+1 }) (r:=none) X J hp ht fun b=>?_);obtain⟨cd,hc,hd'⟩:=PySem.W.any_some hh;have hx:s.heap.get? x=some ⟨.ref C,some dx,.plain,#[]⟩:=I.obj;refine qAe (qAv (qAe (qAe (wpAny_loadPart hx (qAe (PySem.W.Looks.here (s:={ s with toks:=s.toks+1 }) (PySem.W.looks_clsIn X hc) ?_))))));rw[hd'];refine qAv (a:=some dx) (qAe (qAv (qAe ?_)));refine wpAny_nsSet1 (s:={ s with toks:=s.toks+1 }) I.ns fun h' hn2 hs2=>?_;obtain⟨oD,esD,epD,hoD,hdD,hcD⟩:=hn2.count (PySem.Within.cons name v hw);refine qAe (wpAny_lookBehind hoD (by rw[hdD];exact pastItsLine_dict (qAt hcD (by rw[qBj];lia))) ?_);exact qAv (h _ ⟨(hs2.2 _ (Ne.symm I.ne)).trans I.obj,hn2,I.ne⟩ hs2)
theorem zR(X:K.In s.heap)(hm:qDo K C=true)
  (hi:qAd K (.ref C) "__init__"=some (some (.ref f))) (hf:qGm K (.ref f)=some (.type "function"))
  (h:qGh (qBz prog w) (A.under (.builtin "type.__call__" ⟨.ref C::vs,kw⟩)) (.call (.ref f) ⟨.ref (s.heap.objs.size+1)::vs,kw⟩) (PySem.W.InitBack (s.heap.objs.size+1) R)
   { s with heap:=(s.heap.push qDe).push (qDu C s.heap.objs.size) }) :
  qGh (qBz prog w) A (.call (.ref C) ⟨vs,kw⟩) R s:=by
 obtain⟨hh,g,d,t,os⟩:=s;exact PySem.W.make_core (PySem.W.makes_of X hm) (qEz X hi) (fun self=>PySem.W.bind_fn X self hf) (.inl rfl) h
end
def gY(f:Str)(v:V):List (Str×V)->List (Str×V)
 | []=>[(f,v)]
 | (g,x)::r=>if g=f then (g,v)::r else (g,x)::gY f v r
theorem kQ(f g:Str)(v:V):∀fs:List (Str×V),(gY f v fs).lookup g=if g=f then some v else fs.lookup g
 | []=>by
  show qFj g [(f,v)]=_;by_cases h:g=f
  ·have hb:(g == f)=true:=beq_iff_eq.mpr h;simp only[qFj,hb,if_pos h]
  ·have hb:(g == f)=false:=beq_eq_false_iff_ne.mpr h;simp only[qFj,hb,if_neg h]
 | (k,x)::r=>by
  have ih:=kQ f g v r;rw[show gY f v ((k,x)::r)=(if k=f then (k,v)::r else (k,x)::gY f v r) from rfl];by_cases hk:k=f
  ·rw[if_pos hk];by_cases h:g=k
   ·have hb:(g == k)=true:=beq_iff_eq.mpr h;simp only[qFj,hb,if_pos (h.trans hk)]
   ·have hb:(g == k)=false:=beq_eq_false_iff_ne.mpr h;simp only[qFj,hb,if_neg (fun e:g=f=>h (e.trans hk.symm))]
  ·rw[if_neg hk];by_cases h:g=k
   ·have hb:(g == k)=true:=beq_iff_eq.mpr h;simp only[qFj,hb,if_neg (fun e:g=f=>hk (h.symm.trans e))]
   ·have hb:(g == k)=false:=beq_eq_false_iff_ne.mpr h;simp only[qFj,hb];exact ih
theorem kD(f:Str)(v:V):∀fs:List (Str×V),f∈(gY f v fs).map (·.1)/\∀g,g∈fs.map (·.1)->g∈(gY f v fs).map (·.1)
 | []=>⟨by simp[gY],fun g h=>by simp at h⟩
 | (k,x)::r=>by
  obtain⟨i1,i2⟩:=kD f v r;rw[show gY f v ((k,x)::r)=(if k=f then (k,v)::r else (k,x)::gY f v r) from rfl];by_cases hk:k=f
  ·rw[if_pos hk];subst hk;exact⟨by simp,fun g h=>by simpa using h⟩
  ·rw[if_neg hk];refine⟨?_,fun g h=>?_⟩
   ·rw[qBi];exact qBf _ i1
   ·rw[qBi] at h|-;rcases List.mem_cons.mp h with e | e
    ·exact List.mem_cons.mpr (.inl e)
    ·exact qBf _ (i2 g e)
theorem kR(f:Str)(v:V):∀fs:List (Str×V),(gY f v fs).length<=fs.length+1
 | []=>by simp[gY]
 | (k,x)::r=>by
  have ih:=kR f v r;rw[show gY f v ((k,x)::r)=(if k=f then (k,v)::r else (k,x)::gY f v r) from rfl];by_cases hk:k=f
  ·rw[if_pos hk,qBj,qBj];lia
  ·rw[if_neg hk,qBj,qBj];lia
theorem jI.some_of(r:jI (some v) o):∃u,o=some u/\RelV v u:=by
 cases o with
 | none=>exact(show False from r).elim
 | some u=>exact⟨u,rfl,r⟩
theorem jI.none_of(r:jI none o):o=none:=by
 cases o with
 | none=>rfl
 | some u=>exact(show False from r).elim
theorem xC(r:RelV v u):qJw u=true:=by
 cases v with
 | non=>cases (show u=Value.none from r);rfl
 | bl b=>cases (show u=Value.bool b from r);rfl
 | int i=>obtain⟨t,e⟩:=(show ∃t,u=Value.int i t from r);cases e;rfl
 | str x=>obtain⟨t,e⟩:=(show ∃t,u=Value.str x t from r);cases e;rfl
 | byt b=>obtain⟨t,e⟩:=(show ∃t,u=Value.bytes b t from r);cases e;rfl
 | flt b=>obtain⟨t,e⟩:=(show ∃t,u=Value.float b t from r);cases e;rfl
 | ref a=>cases (show u=Value.ref a from r);rfl
 | ty n=>cases (show u=Value.type n from r);rfl
section
variable {P:qBc}{w:qCd}{H H':Hp}{h h':Heap}{a C dx:Addr}{fs fs':List (Str×V)}
theorem lL(cQ:jD P w H h)(e:H a=some (.ins C dx fs)):∃mA,tW h a dx C mA/\(∀f,jI (fs.lookup f) (mA f))/\PySem.Within mA (fs.map (·.1))/\fs.length<=1000/\H dx=some (.own a):=by
 obtain⟨d,z,ne,ob,mA,n,r,q⟩:=(show cZ P w H h a (.ins C dx fs) from cQ a _ e);exact⟨mA,⟨ob,n,ne⟩,r,q,z,d⟩
end
structure xD (K:qAb) (C:Addr):Prop where
 pg:qCv K C Str.empty=true
 hd:qCy K C=true
 po:qDd K C=true
 sa:qAd K (.ref C) "__setattr__"=some (some (.builtin "object.__setattr__"))
theorem xD.get{K:qAb}{C:Addr}(c:xD K C)(f:Str):qCv K C f=true:=c.pg
def cS(K:qAb)(C:Addr)(f:Str):Prop:=qAd K (.ref C) f=some none
theorem cS.IM{K:qAb}{C:Addr}{f:Str}(n:cS K C f):qHk K C f=some none:=by
 unfold qHk;rw[show qAd K (.ref C) f=some none from n];rfl
structure Meth (K:qAb) (C:Addr) (m:Str) (f:Addr):Prop where
 at_:qAd K (.ref C) m=some (some (.ref f))
 fn:qBl K (.ref f)=true
 kp:qAm K (.ref f)=true
section
variable {X:Cx}{pins:List (Addr×Obj)}{σ:St}{H:Hp}{s:qAk}{a C dx:Addr}{fs:List (Str×V)}{f:Str}{v:V}{A:qCu}{E:qAf->qAk->Prop}
theorem tX(I:Inv X pins σ H s)(e:H a=some (.ins C dx fs))(c:xD X.K C)(n:cS X.K C f)(l:fs.lookup f=some v)
  (h:∀u s',Inv X pins σ H s'->RelV v u->Q u s'):qBs (qBz X.prog X.w) A (getAttr (.ref a) f b) Q E s:=by
 obtain⟨mA,O,r,_,_,_⟩:=lL I.cQ e;obtain⟨u,hu,ru⟩:=jI.some_of (v:=v) (o:=mA f) (by rw[<- l];exact r f);exact get_map I.nM O (c.get f) c.hd n hu (xC ru) (h u _ (I.tok _) ru)
theorem l9(I:Inv X pins σ H s)(e:H a=some (.ins C dx fs))(c:xD X.K C)(k:Meth X.K C m g)(l:fs.lookup m=none)
  (h:Q (.ref g,[.ref a]) s):qBs (qBz X.prog X.w) A (qHd (.ref a) m pl) Q E s:=by
 obtain⟨mA,O,r,_,_,_⟩:=lL I.cQ e;have hn:mA m=none:=jI.none_of (by rw[<- l];exact r m);exact zQ I.nM O (c.get m) k.at_ k.fn hn h
theorem tY(I:Inv X pins σ H s)(e:H a=some (.ins C dx fs))(c:xD X.K C)(n:cS X.K C f)(hl:fs.length<1000)(ry:RelV y u)
  (h:∀s',Inv X pins σ (upd H a (.ins C dx (gY f y fs))) s'->Q () s'):qBs (qBz X.prog X.w) A (setAttr (.ref a) f u) Q E s:=by
 obtain⟨mA,O,r,wi,_,ho⟩:=lL I.cQ e;have hz:(fs.map (·.1)).length<=qAg:=by rw[qAa,qEv];lia
 refine BS I.nM O c.sa c.po n.IM c.hd wi hz fun h' O' sb=>h _ ?_;have hd:∃o,h'.get? dx=some o:=let ⟨o,_,_,e',_⟩:=O'.ns;⟨o,e'⟩;refine I.write (x:=a) (e:=dx) (by rw[e];exact True.intro) (.inr ho) (fun b q hb z=>(sb.2 b hb).trans z) hd ?_;refine⟨by rw[aL O.ne];exact ho,?_,O.ne,O'.obj,_,O'.ns,fun g=>?_,fun g hg=>?_⟩
 ·have:=kR f y fs;lia
 ·show jI ((gY f y fs).lookup g) (if g=f then some u else mA g);rw[kQ];by_cases q:g=f
  ·rw[if_pos q,if_pos q];exact ry
  ·rw[if_neg q,if_neg q];exact r g
 ·by_cases q:g=f
  ·rw[q];exact(kD f y fs).1
  ·refine(kD f y fs).2 g (wi g fun z=>hg ?_);show(if g=f then some u else mA g)=none;rw[if_neg q];exact z
theorem Inv.made(I:Inv X pins σ H s):Inv X pins σ (upd (upd H s.heap.objs.size (.own (s.heap.objs.size+1))) (s.heap.objs.size+1) (.ins C s.heap.objs.size []))
  { s with heap:=(s.heap.push qDe).push (qDu C s.heap.objs.size) }:=by
 have e1:(s.heap.push qDe).get? s.heap.objs.size=some qDe:=qBa s.heap rfl;have e2:((s.heap.push qDe).push (qDu C s.heap.objs.size)).get? (s.heap.objs.size+1)=some (qDu C s.heap.objs.size):=by
  have:=qBa (s.heap.push qDe) (o:=qDu C s.heap.objs.size) rfl;rwa [qIx] at this
 have e3:(s.heap.push qDe).Ns s.heap.objs.size (fun _=>none):=⟨qDe,#[],_,e1,rfl,(fun e he=>absurd he (by simp)),fun _=>rfl⟩;have I1:=I.laid (a:=s.heap.objs.size) (o:=.own (s.heap.objs.size+1)) (h':=s.heap.push qDe) (t':=s.toks) (fun b u q=>qAh _ q) (qAi _) ⟨_,e1⟩;refine I1.laid (a:=s.heap.objs.size+1) (o:=.ins C s.heap.objs.size []) (t':=s.toks) (fun b u q=>qAh _ q) (qHs (qIx _ _)) ?_;have ne:s.heap.objs.size≠s.heap.objs.size+1:=qBn (qGi _);refine⟨by rw[aL ne,aC],qBm _,ne,e2,fun _=>none,(Heap.Ns1.of_empty e3).at fun o q=>qAh _ q,fun _=>True.intro,fun y hy=>absurd rfl hy⟩
theorem BU(hb:qIc e f env (eval e env)=eval e env)
  (h:qBs (qBz prog w) A (eval e env) (fun o s₁=>qBs (qBz prog w) A (getAttr o f true) Q E s₁) E s):qBs (qBz prog w) A (eval (.Attribute e f pos) env) Q E s :=
 Attribute_any_ h (by rw[arm_eval_Attribute,hb])
end
def Lf(K:qAb)(ta:TE)(f:Str):TE:=fun σ H Q=>ta σ H fun x H1=>∃a C dx fs v,x = .ref a/\H1 a=some (.ins C dx fs)/\xD K C/\cS K C f/\fs.lookup f=some v/\Q v H1
def Lg(K:qAb)(ta tv:TE)(f:Str):TS:=fun D σ H=>tv σ H fun y H1=>ta σ H1 fun x H2=>∃a C dx fs,x = .ref a/\H2 a=some (.ins C dx fs)/\xD K C/\cS K C f/\fs.length<1000 /\
 D.nx σ (upd H2 a (.ins C dx (gY f y fs)))
section
variable {X:Cx}{o e value:Expr}{f:Str}{pos pos' tpos:Pos}{ta tv:TE}
theorem bY(he:PE X e ta)(hb:qIc e f X.env (eval e X.env)=eval e X.env):PE X (.Attribute e f pos) (Lf X.K ta f):=by
 intro pins s σ H Q I h;refine BU hb (bX (he pins s σ H _ I h) fun u s1 ⟨x,H1,I1,rx,a,C,dx,fs,v,ex,ea,c,n,l,q⟩=>?_);subst ex;obtain rfl:u=Value.ref a:=rx;exact tX I1 ea c n l fun u' s2 I2 ru=>⟨v,H1,I2,ru,q⟩
theorem eW(ha:PE X o ta)(hv:PE X value tv)(hs:qJm value (some (.Attribute o f pos')) pos.line X.env=pure false):PS X (.Assign [.Attribute o f pos'] value pos) (Lg X.K ta tv f):=by
 intro pins s σ H D I h;refine plainObj_wpAny_Assign_Attribute (bX (hv pins s σ H _ I h) fun u s1 ⟨y,H1,I1,ry,q⟩=>bX (ha pins s1 σ H1 _ I1 q) fun ov s2 ⟨x,H2,I2,rx,a,C,dx,fs,ex,ea,c,n,l,q2⟩=>?_) hs;subst ex;obtain rfl:ov=Value.ref a:=rx;exact tY I2 ea c n l ry fun s3 I3=>⟨σ,_,I3,q2⟩
end
section
variable {X:Cx}{pins:List (Addr×Obj)}{σ:St}{H:Hp}{s:qAk}{A:qCu}{E:qAf->qAk->Prop}{Q:qAf->qAk->Prop}{c:qAf}{b:Bool}
inductive iX (K:qAb) (H:Hp):V->qAf->Prop where
 | non:iX K H .non (.type "NoneType")
 | bl (x:Bool):iX K H (.bl x) (.type "bool")
 | int (i:Int):iX K H (.int i) (.type "int")
 | str (x:Str):iX K H (.str x) (.type "str")
 | flt (x:UInt64):iX K H (.flt x) (.type "float")
 | lst {a:Addr}{xs:List V} (e:H a=some (.lst xs)):iX K H (.ref a) (.type "list")
 | frz {a:Addr}{o:Obj}{xs:List V} (e:H a=some (.frz o (.lst xs))):iX K H (.ref a) (.type "list")
 | tup {a:Addr}{xs:List V} (e:H a=some (.tup xs)):iX K H (.ref a) (.type "tuple")
 | dK {a:Addr}{kvs:List (Key×V)} (e:H a=some (.dK kvs)):iX K H (.ref a) (.type "dict")
 | dT {a:Addr}{kvs:List (List Key×V)} (e:H a=some (.dT kvs)):iX K H (.ref a) (.type "dict")
 | ins {a C dx:Addr}{fs:List (Str×V)} (e:H a=some (.ins C dx fs)) (cl:xD K C) (ha:qAd K (.ref C) "__class__"=some (some (.builtin "object.__class__")))
   (hn:qDt K (.builtin "object.__class__") "__get__"=some (some (.builtin "getset_descriptor.__get__"))) (htk:qEm K (.builtin "object.__class__")=some true)
   (hm:qCe K C (.type "object")=some true):iX K H (.ref a) (.ref C)
end
structure cV (k:Nat) (A:qCu):Prop where
 hd:A.handled=none
 dp:A.depth+3*k+5<recursionLimit
 un:A.units+16*k+200<qMc
theorem cV.mono(r:cV k A)(h:j<=k):cV j A:=⟨r.hd,by have:=r.dp;lia,by have:=r.un;lia⟩
theorem cV.deeper(r:cV (k+1) A)(env:Env):cV k (A.deeper env) :=
 ⟨r.hd,by have:=r.dp;show A.depth+1+3*k+5<_;lia,by have:=r.un;show A.units+3+16*k+200<_;lia⟩
theorem cV.in1(r:cV (k+1) A):cV k A.in1 :=
 ⟨r.hd,by have:=r.dp;show A.depth+3*k+5<_;lia,by have:=r.un;show A.units+1+16*k+200<_;lia⟩
theorem tZ{A:qCu}{C:Addr}{us:List qAf}{kw:List (Str×qAf)}:(A.under (.builtin "type.__call__" ⟨.ref C::us,kw⟩)).depth=A.depth+1:=by
 first | rfl | simp[Around.under,Code.weight,Code.isCreation,Code.isGuard,Code.isCaller,Code.frames,Code.isFrame,guardIds]
theorem t4{A:qCu}{C:Addr}{us:List qAf}{kw:List (Str×qAf)}:(A.under (.builtin "type.__call__" ⟨.ref C::us,kw⟩)).units=A.units+1:=by
 first | rfl | simp[Around.under,Code.cUnits,Code.frames,Code.isFrame]
theorem cV.make(r:cV (k+1) A)(C:Addr)(us:List qAf)(kw:List (Str×qAf)):cV k (A.under (.builtin "type.__call__" ⟨.ref C::us,kw⟩)) :=
 ⟨r.hd,by have:=r.dp;rw[tZ];lia,by have:=r.un;rw[t4];lia⟩
theorem cV.depth(r:cV k A):A.depth<recursionLimit:=by have:=r.dp;lia
theorem cV.units(r:cV k A):A.units+64<qMc:=by have:=r.un;lia
def t5:TA:=fun _ H Q=>Q [] H
def oF(ta:TE)(tr:TA):TA:=fun σ H Q=>ta σ H fun x H1=>tr σ H1 fun xs H2=>Q (x::xs) H2
section
variable {X:Cx}{e:Expr}{es:List Expr}{te:TE}{t:TA}{pos:Pos}
theorem aB:PA X [] t5:=fun _ _ _ _ H Q I h=>Calls.spliced_nil ⟨[],H,I,.nil,h⟩
theorem aA(ha:PE X e te)(hr:PA X es t)(hs:qBk (e::es) X.env=(false,eval e X.env)::qBk es X.env:=by rfl):PA X (e::es) (oF te t):=by
 intro pos pins s σ H Q I h;rw[hs];show qBs _ _ (spliced ((false,eval e X.env)::qEj pos (qBk es X.env))) _ _ s;refine Calls.spliced_cons (bX (ha pins s σ H _ I h) fun u s1 ⟨x,H1,I1,r1,q1⟩=>?_);exact bX (hr pos pins s1 σ H1 _ I1 q1) fun us s2 ⟨xs,H2,I2,r2,q2⟩=>⟨x::xs,H2,I2,.cons r1 r2,q2⟩
def Lh(t:TA):TE:=fun σ H Q=>t σ H fun xs H1=>xs.length<=qAg/\∀p,H1 p=none->Q (.ref p) (upd H1 p (.tup xs))
def Li(t:TA):TE:=fun σ H Q=>t σ H fun xs H1=>xs.length<=qAg/\∀p,H1 p=none->Q (.ref p) (upd H1 p (.lst xs))
theorem fQ{x1}(h:PA X es t):PE X (.Tuple es x1 pos) (Lh t):=by
 intro pins s σ H Q I hq;refine wpAny_Tuple_spliced (bX (h pos pins s σ H _ I hq) fun us s1 ⟨xs,H1,I1,r,z,q⟩=>⟨by rw[<- r.length];exact z,?_⟩);have hf:H1 s1.heap.objs.size=none:=I1.cQ.fresh (qAi _);refine⟨.ref s1.heap.objs.size,upd H1 s1.heap.objs.size (.tup xs),I1.laid (t':=s1.toks) (fun b u e=>qAh _ e) (qAi _) ?_,rfl,q _ hf⟩;exact⟨z,us,r,⟨_,qBa _ rfl,rfl,_,rfl⟩⟩
theorem bZ(h:PA X es t):PE X (.List es pos) (Li t):=by
 intro pins s σ H Q I hq;refine wpAny_List_spliced (bX (h pos pins s σ H _ I hq) fun us s1 ⟨xs,H1,I1,r,z,q⟩=>⟨by rw[<- r.length];exact z,?_⟩);have hf:H1 s1.heap.objs.size=none:=I1.cQ.fresh (qAi _);refine⟨.ref s1.heap.objs.size,upd H1 s1.heap.objs.size (.lst xs),I1.laid (t':=s1.toks) (fun b u e=>qAh _ e) (qAi _) ?_,rfl,q _ hf⟩;exact⟨z,us,0,r,qBa _ rfl⟩
end
abbrev Sp:=List V->Hp->VK->XK->Prop
abbrev vG:=List Env->Hp->qAk->XK->qAf->qAk->Prop
structure nP (P:qBc) (w:qCd) (K:qAb) (mg:Str->Option qAf) (base:Heap) (A:qCu) (outer:List Env) (s:qAk) (H:Hp):Prop where
 frames:A.frames=some outer
 mod:Mod K mg base
 bs:∀b o,base.get? b=some o->s.heap.get? b=some o/\H b=none
 BM:base.objs.size<=s.heap.objs.size
 jE:s.heap.FunFrames base outer
 Dq:∀b∈nL outer,H b=none
 cQ:jD P w H s.heap
 bare:qHe s.gens
def CE(outer:List Env)(P:qBc)(w:qCd)(H:Hp)(s:qAk)(Q:VK)(u:qAf)(s':qAk):Prop :=
 ∃v H',s'.os=s.os/\qHe s'.gens/\Un (nL outer) [] H H' s.heap s'.heap/\jD P w H' s'.heap/\RelV v u/\Q v H'
def CR(CX:vG)(outer:List Env)(P:qBc)(w:qCd)(H:Hp)(s:qAk)(Q:VK)(E:XK)(r:qMw)(s':qAk):Prop :=
 match r with
 | .ok (.ret u)=>CE outer P w H s Q u s'
 | .ok _=>False
 | .error e=>CX outer H s E e s'
structure fR (P:qBc) (w:qCd) (K:qAb) (mg:Str->Option qAf) (base:Heap) (CX:vG) (k:Nat) (f:Addr) (fd:qBd) (ps:List Str) (sp:Sp):Prop where
 len:∀vs H Q E,sp vs H Q E->vs.length=ps.length
 run:∀(A:qCu) (outer:List Env) (s:qAk) (H:Hp) (args:Args) (us:List qAf) (vs:List V) (Q:VK) (E:XK),cV k A->nP P w K mg base A outer s H->qKt s fd args (ps.zip us)->Vals vs us->sp vs H Q E ->
  qGh (qBz P w) A (.call (.ref f) args) (CR CX outer P w H s Q E) s
theorem fR.imp{P:qBc}{w:qCd}{K:qAb}{mg:Str->Option qAf}{base:Heap}{CX:vG}{k:Nat}{f:Addr}{fd:qBd}{ps:List Str}{sp sp':Sp}(F:fR P w K mg base CX k f fd ps sp)
  (h:∀vs H Q E,sp' vs H Q E->sp vs H Q E):fR P w K mg base CX k f fd ps sp' :=
 ⟨fun vs H Q E q=>F.len vs H Q E (h _ _ _ _ q),fun A outer s H args us vs Q E hr he hb hv hs=>F.run A outer s H args us vs Q E hr he hb hv (h _ _ _ _ hs)⟩
theorem nP.make{P:qBc}{w:qCd}{K:qAb}{mg:Str->Option qAf}{base:Heap}{A:qCu}{outer:List Env}{s:qAk}{H:Hp}(e:nP P w K mg base A outer s H)(C:Addr)(us:List qAf)(kw:List (Str×qAf)):
  nP P w K mg base (A.under (.builtin "type.__call__" ⟨.ref C::us,kw⟩)) outer s H:=⟨by first|exact e.frames | (simpa [Around.under,Code.envs,Code.isFrame,pushEnvs] using e.frames),e.mod,e.bs,e.BM,e.jE,e.Dq,e.cQ,e.bare⟩
theorem nP.in1{P:qBc}{w:qCd}{K:qAb}{mg:Str->Option qAf}{base:Heap}{A:qCu}{outer:List Env}{s:qAk}{H:Hp}(e:nP P w K mg base A outer s H):
  nP P w K mg base A.in1 outer s H:=⟨e.frames,e.mod,e.bs,e.BM,e.jE,e.Dq,e.cQ,e.bare⟩
section
variable {X:Cx}{pins:List (Addr×Obj)}{σ:St}{H:Hp}{s s':qAk}
theorem Inv.BV(I:Inv X pins σ H s):nP X.prog X.w X.K X.mg X.base X.A X.stack s H :=
 ⟨I.ok.frames,I.ok.mod,I.bs,qAt I.ok.BM I.sz,I.stack,I.pP,I.cQ,I.bare⟩
theorem Inv.after(I:Inv X pins σ H s)(h:CE X.stack X.prog X.w H s Q u s'):EP X pins σ Q u s':=by
 obtain⟨v,H',os,bare,un,cQ,r,q⟩:=h;obtain⟨hh,g,d,t,os'⟩:=s';obtain rfl:os'=s.os:=os;exact⟨v,H',I.call (h':=hh) (g':=g) (d':=d) (t':=t) (ch:=[]) un cQ bare (fun b z=>absurd z (by simp)),r,q⟩
end
def zS(sp:Sp)(dvs:List V)(E:XK)(t:TA):TE:=fun σ H Q=>t σ H fun vs H1=>sp (vs++dvs) H1 Q E
def Binds(K:qAb)(fd:qBd)(ps:List Str)(ds:List qAf):Prop :=
 ∀(s:qAk) (us:List qAf),K.In s.heap->(us++ds).length=ps.length->qKt s fd ⟨us,[]⟩ (ps.zip (us++ds))
theorem Binds.all{K:qAb}{fd:qBd}{ps:List Str}(h:∀us:List qAf,us.length=ps.length->qKs fd ⟨us,[]⟩=pure (ps.zip us)):Binds K fd ps []:=fun s us _ hl=>by
 rw[qCr] at hl|-;exact .of_eq (h us hl)
def Passes(CX:vG)(X:Cx)(E:XK):Prop:=∀(pins:List (Addr×Obj)) (σ:St) (H:Hp) (s:qAk) (e:qAf) (s':qAk),Inv X pins σ H s->CX X.stack H s E e s'->X.xe e s'
section
variable {X:Cx}{CX:vG}{k:Nat}{f C:Addr}{fd:qBd}{ps:List Str}{sp:Sp}{dvs:List V}{ds:List qAf}{E:XK}{x m:Str}{p pos apos:Pos}{e o:Expr}{es:List Expr}{ta:TE}{t:TA}
theorem Et(F:fR X.prog X.w X.K X.mg X.base CX k f fd ps sp)(hr:cV k X.A)(hb:Binds X.K fd ps ds)(hd:Vals dvs ds)(hx:Passes CX X E)
  (I:Inv X pins σ H s) (r:Vals vs us) (h:sp (vs++dvs) H Q E):qBs (qBz X.prog X.w) X.A (call (.ref f) us) (EP X pins σ Q) X.xe s:=by
 have r2:Vals (vs++dvs) (us++ds):=r.append hd;have hl:(us++ds).length=ps.length:=by rw[<- r2.length];exact F.len _ _ _ _ h
 refine qFd (qEw (F.run X.A X.stack s H ⟨us,[]⟩ (us++ds) (vs++dvs) Q E hr I.BV (hb s us I.nM hl) r2 h) fun r s' hq=>?_);cases r with
 | error e=>exact hx pins σ H s e s' I hq
 | ok fl =>
  cases fl with
  | ret u=>exact I.after hq
  | next=>exact False.elim hq
  | brk=>exact False.elim hq
  | cont=>exact False.elim hq
theorem BW(F:fR X.prog X.w X.K X.mg X.base CX k f fd ps sp)(hr:cV k X.A)(hg:Gl X x)(hm:X.mg x=some (.ref f))(hk:qAm X.K (.ref f)=true)(hb:Binds X.K fd ps ds)(hd:Vals dvs ds)(hx:Passes CX X E)
  (ha:PA X (e::es) t) (hdb:(x == ("__debug__":Str))=false:=by decide) (he:qBk (e::es) X.env=(false,eval e X.env)::qBk es X.env:=by rfl) (hpl:(qEj pos (qBk es X.env)).any (·.1)=false:=by rfl) :
  PE X (.Call (.Name x p) (e::es) [] pos) (zS sp dvs E t):=by
 intro pins s σ H Q I h;refine qEd (jK I hg hm ?_ hdb);refine qEn (h₀:=X.base) I.ok.mod.Dp hk (bX (ha pos pins s σ H _ I h) fun us s1 ⟨vs,H1,I1,r,q⟩=>⟨I1.nM,?_⟩) he hpl;exact Et F hr hb hd hx I1 r q
structure Mk (K:qAb) (C f:Addr):Prop where
 makes:qDo K C=true
 init:qAd K (.ref C) "__init__"=some (some (.ref f))
 fn:qBl K (.ref f)=true
 kp:qAm K (.ref C)=true
end
def PK(X:Cx)(kws:List qMx)(t:TA):Prop :=
 ∀(pos:Pos) (pins:List (Addr×Obj)) (s:qAk) (σ:St) (H:Hp) (Q:List V->Hp->Prop),Inv X pins σ H s->t σ H Q->qBs (qBz X.prog X.w) X.A (evalAll ((qFq pos (qEg kws X.env)).map (·.2))) (AP X pins σ Q) X.xe s
section
variable {X:Cx}{CX:vG}{k:Nat}{f C:Addr}{fd:qBd}{ps ks:List Str}{sp:Sp}{E:XK}{x m:Str}{p pos apos kpos:Pos}{e o:Expr}{es:List Expr}{kws:List qMx}{te ta:TE}{t tk:TA}{nm:Option Str}
theorem Eu:PK X [] t5:=fun _ _ _ _ H Q I h=>wpAny_evalAll_nil ⟨[],H,I,.nil,h⟩
theorem BX(ha:PE X e te)(hr:PK X kws t):PK X (⟨nm,e,kpos⟩::kws) (oF te t):=by
 intro pos pins s σ H Q I h;show qBs _ _ (evalAll ((do let v <- eval e X.env;qIl pos;pure v)::(qFq pos (qEg kws X.env)).map (·.2))) _ _ s;refine wpAny_evalAll_cons (qAe (bX (ha pins s σ H _ I h) fun u s1 ⟨x,H1,I1,r1,q1⟩=>qAe (qIa (qAv ?_))));exact bX (hr pos pins s1 σ H1 _ I1 q1) fun us s2 ⟨xs,H2,I2,r2,q2⟩=>⟨x::xs,H2,I2,.cons r1 r2,q2⟩
variable {g:List qAf->List qAf->List qAf}{gV:List V->List V->List V}
end
structure aK (N P:List Str) (sc:qIn):Prop where
 kind:sc.kind = .function
 co:sc.isCoroutine=false
 gen:sc.isGenerator=false
 nd:N.Nodup
 pre:N.take P.length=P
 par:∀x∈P,sc.names.lookup x=some .local\/sc.names.lookup x=some .cell
 Ew:∀y∈sc.names,y.2≠.free
theorem oG{qGw:Str->Option qJc}{x:Str}:∀{binds:List (Str×qAf)}{m:Str->Option qAf},(∀v,(x,v)∉binds)->qMd qGw binds m x=m x
 | [],_,_=>rfl
 | (n,v)::r,m,h=>by
  unfold qMd;rw[oG fun w hw=>h w (qBf _ hw)];split
  ·have:x≠n:=by rintro rfl;exact h v qCb
   simp[this]
  ·rfl
theorem oH{qGw:Str->Option qJc}{x:Str}:∀{binds:List (Str×qAf)}{m:Str->Option qAf},(∀v,(x,v)∉binds)->qMe qGw binds m x=m x
 | [],_,_=>rfl
 | (n,v)::r,m,h=>by
  unfold qMe;rw[oH fun w hw=>h w (qBf _ hw)];split
  ·rfl
  ·have:x≠n:=by rintro rfl;exact h v qCb
   simp[this]
theorem oJ{qGw:Str->Option qJc}{x:Str}{v:qAf}:∀{P:List Str}{vs:List qAf}{i:Nat}{m:Str->Option qAf},P.Nodup->P[i]?=some x->vs[i]?=some v->qGw x=some .local ->
  qMd qGw (P.zip vs) m x=some v
 | [],_,_,_,_,h,_,_=>by simp at h
 | _::_,[],_,_,_,_,h,_=>by simp at h
 | p::P,w::vs,0,m,nd,h1,h2,hk=>by
  simp at h1 h2;subst h1;subst h2;show qMd qGw ((p,w)::P.zip vs) m p=_;unfold qMd;rw[oG fun v hv=>(List.nodup_cons.mp nd).1 (qIf hv).1,if_pos hk];simp
 | p::P,w::vs,i+1,m,nd,h1,h2,hk=>by
  show qMd qGw ((p,w)::P.zip vs) m x=_;unfold qMd;exact oJ (i:=i) (List.nodup_cons.mp nd).2 (by simpa using h1) (by simpa using h2) hk
theorem oK{qGw:Str->Option qJc}{x:Str}{v:qAf}:∀{P:List Str}{vs:List qAf}{i:Nat}{m:Str->Option qAf},P.Nodup->P[i]?=some x->vs[i]?=some v->qGw x≠some .local ->
  qMe qGw (P.zip vs) m x=some v
 | [],_,_,_,_,h,_,_=>by simp at h
 | _::_,[],_,_,_,_,h,_=>by simp at h
 | p::P,w::vs,0,m,nd,h1,h2,hk=>by
  simp at h1 h2;subst h1;subst h2;show qMe qGw ((p,w)::P.zip vs) m p=_;unfold qMe;rw[oH fun v hv=>(List.nodup_cons.mp nd).1 (qIf hv).1,if_neg hk];simp
 | p::P,w::vs,i+1,m,nd,h1,h2,hk=>by
  show qMe qGw ((p,w)::P.zip vs) m x=_;unfold qMe;exact oK (i:=i) (List.nodup_cons.mp nd).2 (by simpa using h1) (by simpa using h2) hk
def start(N:List Str)(vs:List V):St:=vs.map some++List.replicate (N.length-vs.length) none
def lB(CX:vG)(P:qBc)(w:qCd)(K:qAb)(mg:Str->Option qAf)(base:Heap)(N:List Str)(qual:Str)(scope:qIn)(f:Addr)(cd:qAf)(A:qCu)(outer:List Env)(s:qAk)(H:Hp)(E:XK):Cx where
 prog:=P
 w:=w
 K:=K
 mg:=mg
 base:=base
 A:=A.deeper (qGx qual scope s.heap.objs.size f cd)
 N:=N
 s₀:=s
 H₀:=H
 env:=qGx qual scope s.heap.objs.size f cd
 outer:=outer
 stack:=qGx qual scope s.heap.objs.size f cd::outer
 ex:=[]
 calm:=true
 fn:=fun _=>true
 pn:=[]
 xe:=fun e s'=>qBs (qBz P w) (A.deeper (qGx qual scope s.heap.objs.size f cd)) (leaving (qGx qual scope s.heap.objs.size f cd) e) (fun _ s''=>CX outer H s E e s'') (fun e' s''=>CX outer H s E e' s'') s'
theorem r8{sc:qIn}{n:Nat}{x:Str}(h:sc.names.lookup x=some .cell):∃c,(cellsFrom n sc.names []).lookup x=some c:=by
 have q:=qIp sc.names n [] (.inl h);exact Option.isSome_iff_exists.mp q
theorem xF{CX:vG}{P:qBc}{w:qCd}{K:qAb}{mg:Str->Option qAf}{base:Heap}{N ps:List Str}{qual:Str}{scope:qIn}{f:Addr}{cd:qAf}{A:qCu}{outer:List Env}{s s1:qAk}{H:Hp}{E:XK}{us:List qAf}{vs:List V}
  (S:aK N ps scope) (hd:A.handled=none) (e0:nP P w K mg base A outer s H) (hl:vs.length=ps.length) (r:Vals vs us)
  (x:InCallC s s.heap.objs.size (qMd (qGx qual scope s.heap.objs.size f cd).kindOf (ps.zip us) fun _=>none) (cellsFrom (s.heap.objs.size+1) scope.names []) (qMe (qGx qual scope s.heap.objs.size f cd).kindOf (ps.zip us) fun _=>none) s1) :
  Inv (lB CX P w K mg base N qual scope f cd A outer s H E) [] (start N vs) H s1:=by
 have hpl:ps.length<=N.length:=by have:=congrArg qKa S.pre;rw[qFa] at this;lia
 obtain⟨h1,tk,rfl,hk⟩:=x.done;have noA:∀b:Addr,b∉(lB CX P w K mg base N qual scope f cd A outer s H E).ex:=fun b z=>absurd (show b∈([]:List Addr) from z) (by simp);refine⟨⟨e0.mod,S.kind,rfl,rfl,qAi _,fun y z c h1 h2=>?_,fun y hy=>?_,fun y c _ h=>?_,fun _=>hd,Around.frames_deeper e0.frames,.inr ⟨rfl,rfl⟩,fun b z=>absurd z (noA b),e0.bs,e0.BM,fun b _ _=>noA b,fun b z=>absurd z (noA b),e0.jE,e0.Dq⟩,
  rfl,e0.bare,Un.kept hk,⟨_,x.toInCall.ns,fun i y v h1 h2 h3=>?_⟩,fun y c h=>⟨_,x.cell y c h⟩,e0.cQ.fresh (qAi _),fun y c h=>?_,fun p hp=>absurd (show p∈([]:List (Addr×Obj)) from hp) (by simp),e0.cQ.kept hk,?_⟩
 ·exact name_of_addr x.apart (PySem.mem_of_lookup h1) (PySem.mem_of_lookup h2)
 ·have hy:scope.names.lookup y=some .cell\/scope.names.lookup y=some .free:=hy;rcases hy with hy | hy
  ·exact r8 hy
  ·exact absurd rfl (S.Ew _ (PySem.mem_of_lookup hy))
 ·exact qBb (x.above y c (PySem.mem_of_lookup h))
 ·have hi:i<vs.length:=by
   unfold start at h2;by_cases hi:i<vs.length
   ·exact hi
   ·rw[qBy (by simpa using hi)] at h2;rw[List.getElem?_replicate] at h2;split at h2 <;> cases h2
  have ha:vs[i]?=some v:=by
   unfold start at h2;rw[qCa (by simpa using hi),qAj] at h2;cases e:vs[i]? with
   | none=>rw[e] at h2;cases h2
   | some a=>rw[e] at h2;cases h2;rfl
  obtain⟨u,hu,rv⟩:=r.get ha;have hp:ps[i]?=some y:=by
   rw[<- S.pre,qIy (by lia)];exact h1
  have ndP:ps.Nodup:=by rw[<- S.pre];exact S.nd.sublist (List.take_sublist _ _)
  refine⟨u,rv,?_⟩;rcases S.par y (qAu hp) with k | k
  ·exact .inl ⟨k,oJ ndP hp hu k⟩
  ·obtain⟨c,e⟩:=r8 (n:=s.heap.objs.size+1) k;refine .inr ⟨.inl k,c,e,?_⟩;have q:=x.cell y c e;rw[oK ndP hp hu (by show scope.names.lookup y≠_;rw[k];decide)] at q;exact q
 ·exact e0.cQ.fresh (qBb (x.above y c (PySem.mem_of_lookup h)))
 ·unfold start;show _=N.length;rw[qAn,qAa,List.length_replicate];lia
theorem Dt{CX:vG}{P:qBc}{w:qCd}{K:qAb}{mg:Str->Option qAf}{base:Heap}{k:Nat}{f:Addr}{name qual:Str}{params:Arguments}{body:List Stmt}{scope:qIn}{dV kV doc pm cdv ct oc:qAf}{an od:Option Addr}
  {osl:Array (Option qAf)}{N ps:List Str}{sp:Sp} (lk:K.lookup f=some ⟨oc,od,.func (qBe name qual params body scope dV kV doc pm an cdv ct),osl⟩) (hcd:qAz K cdv qual=true) (S:aK N ps scope)
  (len:∀vs H Q E,sp vs H Q E->vs.length=ps.length)
  (hbody:∀(A:qCu) (outer:List Env) (s:qAk) (H:Hp) (vs:List V) (Q:VK) (E:XK),cV k (A.deeper (qGx qual scope s.heap.objs.size f cdv))->sp vs H Q E ->
   ∃t,oC (lB CX P w K mg base N qual scope f cdv A outer s H E) body t/\t { nx:=fun _ H'=>Q .non H',rt:=Q } (start N vs) H) :
  fR P w K mg base CX (k+1) f (qBe name qual params body scope dV kV doc pm an cdv ct) ps sp:=by
 refine⟨len,fun A outer s H args us vs Q E hr e0 hb r hsp=>?_⟩;have hl:=len _ _ _ _ hsp;have KX:K.In s.heap:=e0.mod.Dp.keeps fun b o e=>(e0.bs b o e).1;have lim:s.heap.NoLimit:=e0.mod.nolimit.keeps fun b o e=>(e0.bs b o e).1;have hkind:∀y∈ps.zip us,scope.names.lookup y.1=some .local\/(scope.names.lookup y.1=some .cell/\((cellsFrom (s.heap.objs.size+1) scope.names []).lookup y.1).isSome=true):=fun⟨n,v⟩ hy=>by
  rcases S.par n (qIf hy).1 with q | q
  ·exact .inl q
  ·exact .inr ⟨q,qIp _ _ _ (.inl q)⟩
 refine codeAny_call_function hr.depth (KX _ _ lk) rfl S.co S.gen rfl (PySem.W.codeRec_of KX hcd) (hb _ _ _ _ ?_);refine wpAny_newFunctionEnv_cells S.kind hkind fun env he s1 x=>?_;subst he;refine⟨lim.keeps x.toInCall.keep,codeAny_func ?_⟩;obtain⟨t,ht,hq⟩:=hbody A outer s H vs Q E (hr.deeper _) hsp;have I:Inv (lB CX P w K mg base N qual scope f cdv A outer s H E) [] (start N vs) H s1:=xF S hr.hd e0 hl r x;refine qFc (ht [] s1 (start N vs) H _ I hq) (fun fl s' hs=>?_) fun e s' hs=>hs;have fin:∀{σ':St}{H':Hp}{v:V}{u:qAf},Inv (lB CX P w K mg base N qual scope f cdv A outer s H E) [] σ' H' s'->RelV v u->Q v H'->CE outer P w H s Q u s' :=
  fun {σ' H' v u} J rv q=>⟨v,H',J.os,J.bare,J.base,J.cQ,rv,q⟩
 cases fl with
 | ret u =>
  obtain⟨v,σ',H',J,rv,q⟩:=hs;exact fin J rv q
 | next =>
  obtain⟨σ',H',J,q⟩:=hs;exact fin (v:=V.non) (u:=Value.none) J rfl q
 | brk =>
  obtain⟨_,_,_,q⟩:=hs;exact False.elim q
 | cont =>
  obtain⟨_,_,_,q⟩:=hs;exact False.elim q
section
variable {X:Cx}{x:Str}{p pos:Pos}{e:Expr}{es:List Expr}{t:TA}{id T:String}{r:List V->Hp->VK->Prop}
def MK(r:List V->Hp->VK->Prop)(t:TA):TE:=fun σ H Q=>t σ H fun vs H1=>r vs H1 Q
theorem aO(hc:eQ X (.builtin id) r)(hg:Gl X x)(hm:X.mg x=none)(hv:qCk x=some (.builtin id))(ha:PA X (e::es) t)(hn:x≠"__name__":=by decide)(hdb:(x == ("__debug__":Str))=false:=by decide)
  (he:qBk (e::es) X.env=(false,eval e X.env)::qBk es X.env:=by rfl) (hpl:(qEj pos (qBk es X.env)).any (·.1)=false:=by rfl):PE X (.Call (.Name x p) (e::es) [] pos) (MK r t):=by
 intro pins s σ H Q I h;refine qEd (g9 I hg hm hv ?_ hn hdb);exact qMk (bX (ha pos pins s σ H _ I h) fun us s1 ⟨vs,H1,I1,r1,q1⟩=>hc pins s1 σ H1 vs us Q I1 r1 q1) he hpl
theorem cG(hc:eQ X (.type T) r)(hg:Gl X x)(hm:X.mg x=none)(hv:qCk x=some (.type T))(ha:PA X (e::es) t)(hn:x≠"__name__":=by decide)(hdb:(x == ("__debug__":Str))=false:=by decide)
  (he:qBk (e::es) X.env=(false,eval e X.env)::qBk es X.env:=by rfl) (hpl:(qEj pos (qBk es X.env)).any (·.1)=false:=by rfl):PE X (.Call (.Name x p) (e::es) [] pos) (MK r t):=by
 intro pins s σ H Q I h;refine qEd (g9 I hg hm hv ?_ hn hdb);exact qEf (bX (ha pos pins s σ H _ I h) fun us s1 ⟨vs,H1,I1,r1,q1⟩=>hc pins s1 σ H1 vs us Q I1 r1 q1) he hpl
end
end L2
namespace HT
open PySem PyProof.Rows
def lexLt:List Int->List Int->Bool
 | [],[]=>false
 | [],_::_=>true
 | _::_,[]=>false
 | x::xs,y::ys=>if x=y then lexLt xs ys else decide (x<y)
theorem gM(x y:Int)(xs ys:List Int):lexLt (x::xs) (y::ys)=if x=y then lexLt xs ys else decide (x<y):=rfl
section
open PySem.SeqAt
open PySem.AutoSeq1 (wpAny_loadPart')
open PySem.MeetsSeq PySem.MeetsSeq2 PySem.MeetsSeq3
end
section
variable {prog:qBc}{w:qCd}{A:qCu}{E:qAf->qAk->Prop}{s:qAk}
theorem BY(ht:IsTup s.heap t vs.toArray)(hb:IsTup s.heap b ws.toArray)(hv:vs≠[])
  (h1:ws=[]->Q (.ref t) s) (h2:ws≠[]->Q (.ref s.heap.objs.size) { s with heap:=s.heap.push { cls:=.type "tuple",data:=.seq (vs++ws).toArray } })
  (hsz:vs.length+ws.length<=qAg):qBs (qBz prog w) A (qEi .Add (.ref t) (.ref b)) Q E s:=by
 obtain⟨⟨cls,dd,data,sl⟩,ho,hc,n,hd⟩:=id ht;obtain⟨⟨cls2,dd2,data2,sl2⟩,ho2,hc2,n2,hd2⟩:=id hb;simp only at hc hd hc2 hd2;subst hc hd hc2 hd2;have e:vs.toArray++ws.toArray=(vs++ws).toArray:=by simp
 by_cases hw:ws=[]
 ·exact concat_meets ⟨_,ho,rfl⟩ ⟨_,ho2,rfl⟩ noFill_tuple_add seq_tuple_add qIr qIi (qIe _ _)
   (tuple_addW1 t b vs.toArray ws.toArray n n2 dd dd2 sl sl2 (by simpa using hv) (by simp[hw])) ⟨ho,ho2,h1 hw⟩
 ·refine concat_meets ⟨_,ho,rfl⟩ ⟨_,ho2,rfl⟩ noFill_tuple_add seq_tuple_add qIr qIi (qIe _ _)
   (tuple_addW2 t b vs.toArray ws.toArray n n2 dd dd2 sl sl2 (by simpa using hv) (by simpa using hw) (by rw[qAw,qAw];exact hsz)) ⟨ho,ho2,?_⟩
  rw[e];exact h2 hw
def eC(n d:Nat):Option Int->Nat
 | none=>d
 | some v=>if v<0 then (v+(n:Int)).toNat else min v.toNat n
theorem r9(n d:Nat):eC n d none=d:=rfl
theorem vH(n d k:Nat):eC n d (some (k:Int))=min k n:=by
 show(if (k:Int)<0 then ((k:Int)+(n:Int)).toNat else min (k:Int).toNat n)=min k n;rw[if_neg (by lia),qDv]
theorem Ey(n d:Nat)(hd:d<=n)(o:Option Int):eC n d o<=n:=by
 cases o with
 | none=>exact hd
 | some v =>
  show(if v<0 then (v+(n:Int)).toNat else min v.toNat n)<=n;by_cases hv:v<0
  ·rw[if_pos hv];lia
  ·rw[if_neg hv];exact Nat.min_le_right _ _
theorem vI(v:Int)(n d:Nat):(if v<0 then max (v+(n:Int)) 0 else min v (n:Int))=((eC n d (some v):Nat):Int):=by
 show(if v<0 then max (v+(n:Int)) 0 else min v (n:Int))=(((if v<0 then (v+(n:Int)).toNat else min v.toNat n):Nat):Int);by_cases hv:v<0
 ·simp only[if_pos hv];lia
 ·simp only[if_neg hv];lia
theorem t7(lo hi:Option Int)(n:Nat):Builtin.Slice.sliceAdjust lo hi 1 (n:Int)=(((eC n 0 lo:Nat):Int),((eC n n hi:Nat):Int)):=by
 have h1:¬((1:Int)<0):=by lia
 unfold Builtin.Slice.sliceAdjust;simp only[h1,if_false];refine Prod.ext ?_ ?_
 ·cases lo with
  | none=>rfl
  | some v=>exact vI v n 0
 ·cases hi with
  | none=>rfl
  | some v=>exact vI v n n
theorem t8(i j:Nat):Builtin.Slice.slicePlaces (i:Int) (j:Int) 1=j-i:=by
 unfold Builtin.Slice.slicePlaces;have h1:(1:Int)>0:=by lia
 simp only[h1,if_true,Int.ediv_one];split <;> lia
theorem mB(p:qId v o)(h:Q o s):qBs (qBz prog w) A (Builtin.Slice.slicePartIndex v) Q E s:=by
 cases p with
 | none=>exact slicePart_none h
 | int i t=>exact slicePart_int h
theorem gE{sl:Addr}{vl vu:qAf}{lo hi:Option Int}{n:Nat}{Q:Int×Int×Nat->qAk->Prop}(hs:s.heap.IsSliceOf sl vl vu .none)(pl:qId vl lo)(pu:qId vu hi)
  (h:Q (((eC n 0 lo:Nat):Int),1,eC n n hi-eC n 0 lo) s):qBs (qBz prog w) A (Builtin.Slice.sliceApplied (.ref sl) (pure (n:Int))) Q E s:=by
 obtain⟨os,hos,hcs,hds⟩:=id hs;unfold Builtin.Slice.sliceApplied Builtin.Slice.sliceFields;refine qAe (qAe (wpAny_field hos hds (x:=vl) rfl (qAe (wpAny_field hos hds (x:=vu) rfl (qAe (wpAny_field hos hds (x:=.none) rfl (qAv ?_)))))));refine qAe (slicePart_none ?_);show qBs _ _ (if ((1:Int) == 0)=true then _ else _) _ _ s;rw[if_neg (by decide)];refine qAe (mB pl (qAe (mB pu (qAe (qAv ?_)))));show qBs _ _ (match Builtin.Slice.sliceAdjust lo hi 1 (n:Int) with | (lo,hi)=>pure (lo,(1:Int),Builtin.Slice.slicePlaces lo hi 1)) _ _ s
 rw[t7 lo hi n];show qBs _ _ (pure (((eC n 0 lo:Nat):Int),(1:Int),Builtin.Slice.slicePlaces ((eC n 0 lo:Nat):Int) ((eC n n hi:Nat):Int) 1)) _ _ s;rw[t8];exact qAv h
theorem zT(xs:Array qAf)(i k:Nat):((qAq k).filterMap fun(m:Nat)=>xs[((i:Int)+(m:Int)*1).toNat]?).toArray=((xs.toList.drop i).take k).toArray:=by
 have e:(fun(m:Nat)=>xs[((i:Int)+(m:Int)*1).toNat]?)=fun m=>xs[i+m]?:=by
  funext m
  have:((i:Int)+(m:Int)*1).toNat=i+m:=by lia
  rw[this]
 rw[e];have:=pick_run xs i k;rw[qCn] at this;have e2:((fun x=>xs[x]?)∘fun x=>i+x)=fun m=>xs[i+m]?:=rfl;rw[e2] at this;rw[this]
theorem jN{t sl:Addr}{items:Array qAf}{vl vu:qAf}{lo hi:Option Int}{Q:qAf->qAk->Prop}(ht:IsTup s.heap t items)(hs:s.heap.IsSliceOf sl vl vu .none)(pl:qId vl lo)(pu:qId vu hi)
  (hw:¬(eC items.size 0 lo=0/\eC items.size items.size hi=items.size))
  (h:Q (.ref s.heap.objs.size) { s with heap:=s.heap.push { cls:=.type "tuple",data:=.seq ((items.toList.drop (eC items.size 0 lo)).take (eC items.size items.size hi-eC items.size 0 lo)).toArray } })
  (hsz:items.size<=qAg):qBs (qBz prog w) A (qIm (.ref t) (.ref sl)) Q E s:=by
 have htake:sizeOk (.seq ((items.toList.drop (eC items.size 0 lo)).take (eC items.size items.size hi-eC items.size 0 lo)).toArray):=by
  show((items.toList.drop (eC items.size 0 lo)).take (eC items.size items.size hi-eC items.size 0 lo)).toArray.size<=qAg;rw[qAw,qFa,qDc,qCo];lia
 have hj:eC items.size items.size hi<=items.size:=Ey _ _ (qAi _) hi;obtain⟨os,hos,hcs,hds⟩:=id hs;have hTs:s.TypeIs (.ref sl) "slice":=⟨os,hos,hcs⟩;unfold qIm;try with_reducible refine qCs ?_
 first | refine qAe (qAv ?_) | skip
 refine qAe (wpAny_sequenceKey ht.typeIs (by decide) ?_);refine qAe (wpAny_callSpecial?_slot (name:=Str.ofString "__getitem__") ht.typeIs qDx
  (wpAny_call_entry qDx ht.typeIs entry_tuple_getitem ?_ (args_tuple_getitem _ _)))
 show qBs _ _ (Builtin.Tuple.tupleItemsOf (.ref t) >>= _) _ _ s;refine qAe (tupleItemsOf_ ht ?_);refine qAe (wpAny_typeOf hTs ?_);rw[if_pos (by decide)];refine qAe (gE hs pl pu ?_);have hno:¬((((eC items.size 0 lo:Nat):Int) == 0&&(1:Int) == 1&&(eC items.size items.size hi-eC items.size 0 lo) == items.size)=true):=by
  intro q;rw[qAr,qAr] at q;have q1:((eC items.size 0 lo:Nat):Int)=0:=eq_of_beq q.1.1;have q2:eC items.size items.size hi-eC items.size 0 lo=items.size:=eq_of_beq q.2;exact hw ⟨by lia,by lia⟩
 show qBs _ _ (if (((eC items.size 0 lo:Nat):Int) == 0&&(1:Int) == 1&&(eC items.size items.size hi-eC items.size 0 lo) == items.size)=true then _ else _) _ _ s;rw[if_neg hno,zT];first
  | exact qAe (m:=Builtin.Tuple.tupleExact _) (qFb (qAv ⟨_,rfl,qAv h⟩) htake)
  | exact qAe (m:=Builtin.Tuple.tupleExact _) (qFb (qAe (qAv (qAv ⟨_,rfl,qAv h⟩))) htake)
  | exact qAe (qAe (m:=Builtin.Tuple.tupleExact _) (qFb (qAv (qAv ⟨_,rfl,qAv h⟩)) htake))
  | exact qAe (qAe (m:=Builtin.Tuple.tupleExact _) (qFb (qAv ⟨_,rfl,qAv h⟩) htake))
end
end HT
namespace L2
open PySem PySem.Spec PyProof.Rows
abbrev TO:=St->Hp->(Option Int->Hp->Prop)->Prop
def PO(X:Cx)(e:Option Expr)(t:TO):Prop :=
 ∀(pins:List (Addr×Obj)) (s:qAk) (σ:St) (H:Hp) (Q:Option Int->Hp->Prop),Inv X pins σ H s->t σ H Q ->
  qBs (qBz X.prog X.w) X.A (evalPart e X.env) (fun u s'=>∃o H',Inv X pins σ H' s'/\qId u o/\Q o H') X.xe s
def BZ:TO:=fun _ H Q=>Q none H
def IP(t:TE):TO:=fun σ H Q=>t σ H fun x H1=>∃i,x = .int i/\Q (some i) H1
theorem intsAre_of:∀{us:List qAf},Vals (ns.map V.int) us->qHq us ns:=by
 induction ns with
 | nil=>intro us r;rw[qDz] at r;cases r;exact .nil
 | cons n ns ih =>
  intro us r;rw[qBi] at r;cases r with
  | cons r1 r2 =>
   obtain⟨t,e⟩:=r1;subst e;exact .cons n t (ih r2)
section
variable {X:Cx}{e:Expr}{te:TE}{lo hi:Option Expr}{tl th:TO}{pos p2:Pos}
theorem c8:PO X none BZ:=by
 intro pins s σ H Q I h;rw[evalPart_none];exact qAv ⟨none,H,I,.none,h⟩
theorem dA(h:PE X e te):PO X (some e) (IP te):=by
 intro pins s σ H Q I hw;rw[evalPart_some];refine bX (h pins s σ H _ I hw) fun u s1 ⟨x,H1,I1,r1,q1⟩=>?_;obtain⟨i,rfl,q⟩:=q1;obtain⟨t,rfl⟩:=r1;exact⟨some i,H1,I1,.int i t,q⟩
def HF(X:Cx)(r:V->Option Int->Option Int->Hp->VK->Prop):Prop :=
 ∀(pins:List (Addr×Obj)) (s:qAk) (σ:St) (H:Hp) (x:V) (v vl vu:qAf) (lo hi:Option Int) (sl:Addr) (Q:VK),Inv X pins σ H s->RelV x v->s.heap.IsSliceOf sl vl vu .none->qId vl lo->qId vu hi->r x lo hi H Q ->
  ∃T id,typeLookup (.type T) "__getitem__"=pure (some (.builtin id))/\s.TypeIs v T/\qBs (qBz X.prog X.w) X.A (qIm v (.ref sl)) (EP X pins σ Q) X.xe s
def Nh(r:V->Option Int->Option Int->Hp->VK->Prop)(te:TE)(tl th:TO):TE:=fun σ H Q=>te σ H fun x H1=>tl σ H1 fun l H2=>th σ H2 fun u H3=>r x l u H3 Q
theorem cX(hr:HF X r)(he:PE X e te)(hl:PO X lo tl)(hu:PO X hi th):PE X (.Subscript e (.Slice lo hi none p2) pos) (Nh r te tl th):=by
 intro pins s σ H Q I h;refine Subscript_ (bX (he pins s σ H _ I h) fun v s1 ⟨x,H1,I1,r1,q1⟩=>?_);refine wpAny_Slice (bX (hl pins s1 σ H1 _ I1 q1) fun vl s2 ⟨l,H2,I2,pl,q2⟩=>bX (hu pins s2 σ H2 _ I2 q2) fun vu s3 ⟨u,H3,I3,pu,q3⟩=>?_);rw[evalPart_none];refine qAv ?_;have I4:Inv X pins σ H3 { s3 with heap:=s3.heap.push { cls:=.type "slice",data:=.fields #[vl,vu,.none] } }:=I3.kept (t':=s3.toks) fun b ob q=>qAh _ q;obtain⟨T,id,hT,ht,hg⟩:=hr pins { s3 with heap:=s3.heap.push { cls:=.type "slice",data:=.fields #[vl,vu,.none] } } σ H3 x v vl vu l u s3.heap.objs.size Q I4 r1 (Heap.IsSliceOf.new ..) pl pu q3;show qBs (qBz X.prog X.w) X.A (subscriptTail e (.Slice lo hi none p2) v (.ref s3.heap.objs.size)) (EP X pins σ Q) X.xe { s3 with heap:=s3.heap.push { cls:=.type "slice",data:=.fields #[vl,vu,.none] } };exact tail_any (ops:=[.ref s3.heap.objs.size,v]) ht hT hg (by with_unfolding_all rfl)
def fT(xs:List V)(lo hi:Option Int):List V:=(xs.drop (HT.eC xs.length 0 lo)).take (HT.eC xs.length xs.length hi-HT.eC xs.length 0 lo)
theorem kS(xs:List V)(lo hi:Option Int):(fT xs lo hi).length<=xs.length:=by
 unfold fT;rw[qFa,qDc];lia
def Lj(K:qAb):V->Option Int->Option Int->Hp->VK->Prop:=fun x lo hi H Q=>∃a xs,x = .ref a/\dG K H a xs /\
 ¬(HT.eC xs.length 0 lo=0/\HT.eC xs.length xs.length hi=xs.length)/\∀p,H p=none->Q (.ref p) (upd H p (.tup (fT xs lo hi)))
theorem Ez:HF X (Lj X.K):=by
 intro pins s σ H x v vl vu lo hi sl Q I rx hs pl pu h;obtain⟨a,xs,rfl,hx,hw,q⟩:=h;cases rx;obtain⟨its,r,ht,hz⟩:=I.tuple hx;have hlen:its.toArray.size=xs.length:=by rw[qAw];exact r.length.symm
 refine⟨"tuple",_,PyProof.Rows.slot_tuple_getitem.lookup,ht.typeIs,?_⟩;refine HT.jN ht hs pl pu (by rw[hlen];exact hw) ?_ (by rw[hlen];exact hz);rw[hlen];refine⟨.ref s.heap.objs.size,_,I.laid (t':=s.toks) (o:=.tup (fT xs lo hi)) (fun b ob q=>qAh _ q) (qAi _) ?_,rfl,q _ (I.cQ.fresh (qAi _))⟩;exact⟨qAt (kS xs lo hi) hz,_,(r.drop (HT.eC xs.length 0 lo)).take (HT.eC xs.length xs.length hi-HT.eC xs.length 0 lo),IsTup.new _ _⟩
def IQ(K:qAb):R2:=fun x y H Q=>∃a b xs ys,x = .ref a/\y = .ref b/\dG K H a xs/\dG K H b ys/\xs≠[]/\xs.length+ys.length<=qAg /\
 (ys=[]->Q (.ref a) H)/\(ys≠[]->∀p,H p=none->Q (.ref p) (upd H p (.tup (xs++ys))))
theorem Vals.pU(r:Vals xs us):us=[]↔xs=[]:=by
 cases r with
 | nil=>simp
 | cons _ _=>simp
theorem Ca:gX X (qEi .Add) (IQ X.K):=by
 intro pins s σ H x y v u Q I rx ry h;obtain⟨a,b,xs,ys,rfl,rfl,ha,hb,hx,hz,q1,q2⟩:=h;cases rx;cases ry;obtain⟨its,r1,p1,_⟩:=I.tuple ha;obtain⟨its2,r2,p2,_⟩:=I.tuple hb;refine HT.BY p1 p2 (fun z=>hx (r1.pU.mp z)) (fun z=>⟨.ref a,H,I,rfl,q1 (r2.pU.mp z)⟩) (fun z=>?_) (by rw[<- r1.length,<- r2.length];exact hz);refine⟨.ref s.heap.objs.size,_,I.laid (t':=s.toks) (o:=.tup (xs++ys)) (fun b ob q=>qAh _ q) (qAi _) ?_,rfl,q2 (fun w=>z (r2.pU.mpr w)) _ (I.cQ.fresh (qAi _))⟩;exact⟨by rw[qAn];exact hz,_,r1.append r2,IsTup.new _ _⟩
end
def xG(n:Nat)(i:Int):Option Nat:=if 0<=i then (if i<n then some i.toNat else none) else if -(n:Int)<=i then some (i+n).toNat else none
def fK{α:Type}(xs:List α)(i:Int):Option α:=(xG xs.length i).bind fun j=>xs[j]?
theorem vJ(h:xG n i=some j):seqIndex? i n=some j/\j<n/\-(n:Int)<=i/\i<n:=by
 unfold xG at h;by_cases h0:0<=i
 ·rw[if_pos h0] at h;by_cases h1:i<n
  ·rw[if_pos h1] at h;have e:i.toNat=j:=Option.some.inj h;exact⟨by rw[seqIndex_of h0 h1,e],by lia,by lia,h1⟩
  ·rw[if_neg h1] at h;cases h
 ·rw[if_neg h0] at h;by_cases h1:-(n:Int)<=i
  ·rw[if_pos h1] at h;have e:(i+n).toNat=j:=Option.some.inj h;exact⟨by rw[seqIndex_neg (by lia) h1,e],by lia,h1,by lia⟩
  ·rw[if_neg h1] at h;cases h
theorem pV(h:fK xs i=some v):∃j,seqIndex? i xs.length=some j/\xs[j]?=some v/\j<xs.length/\-(xs.length:Int)<=i/\i<xs.length:=by
 unfold fK at h;cases e:xG xs.length i with
 | none=>rw[e] at h;cases h
 | some j =>
  rw[e] at h;obtain⟨h1,h2,h3,h4⟩:=vJ e;exact⟨j,h1,h,h2,h3,h4⟩
theorem bO{α:Type}{xs:List α}{j:Nat}{v:α}(h:xs[j]?=some v):fK xs (j:Int)=some v:=by
 have hj:j<xs.length:=(List.getElem?_eq_some_iff.mp h).1;have e:xG xs.length (j:Int)=some j:=by
  unfold xG;rw[if_pos (by lia),if_pos (by lia)];simp
 unfold fK;rw[e];exact h
def Cb(b:Expr):Prop:=∀o i,subscripted b false o i=operate [o,i] (qIm o i)
def EA(X:Cx)(r:R2):Prop :=
 ∀(value slice:Expr) (pins:List (Addr×Obj)) (s:qAk) (σ:St) (H:Hp) (x y:V) (v u:qAf) (Q:VK),Inv X pins σ H s->RelV x v->RelV y u->r x y H Q ->
  subscripted slice false v u=operate [v,u] (qIm v u)->qBs (qBz X.prog X.w) X.A (subscriptTail value slice v u) (EP X pins σ Q) X.xe s
def Cc(X:Cx)(id:String)(r:V->List V->Hp->VK->Prop):Prop :=
 ∀(pins:List (Addr×Obj)) (s:qAk) (σ:St) (H:Hp) (x:V) (xs:List V) (v:qAf) (us:List qAf) (Q:VK),Inv X pins σ H s->RelV x v->Vals xs us->r x xs H Q ->
  qBs (qBz X.prog X.w) X.A (call (.builtin id) (v::us)) (EP X pins σ Q) X.xe s
section
variable {X:Cx}{a b:Expr}{ta tb:TE}{pos:Pos}
theorem a9(hr:EA X r)(ha:PE X a ta)(hb:PE X b tb)(hs:Cb b):PE X (.Subscript a b pos) (HE r ta tb):=by
 intro pins s σ H Q I h;exact Subscript_ (Er ha hb I h fun v u s2 x y H2 I2 rx ry q=>hr a b pins s2 σ H2 x y v u Q I2 rx ry q (hs _ _))
def IS(K:qAb):R2:=fun x y H Q=>∃p xs i v,x = .ref p/\y = .int i/\aY K H p xs/\fK xs i=some v/\Q v H
def IT(K:qAb):R2:=fun x y H Q=>∃p xs i v,x = .ref p/\y = .int i/\dG K H p xs/\fK xs i=some v/\Q v H
def Lk:R2:=fun x y H Q=>∃z i c,x = .str z/\y = .int i/\z.length<=qAg/\fK z.cps.toList i=some c/\Q (.str ⟨#[c]⟩) H
theorem bJ:EA X (IS X.K):=by
 intro value slice pins s σ H x y v u Q I rx ry h hs;obtain⟨p,xs,i,z,rfl,rfl,hq,he,q⟩:=h;cases rx;obtain⟨t,rfl⟩:=ry;obtain⟨its,r,pl,hz⟩:=I.list hq;obtain⟨j,h1,h2,h3,h4,h5⟩:=pV he;obtain⟨w,ew,rw'⟩:=r.get h2;have hl:=r.length;have hn:=kB;have fin:EP X pins σ Q w s:=⟨z,H,I,rw',q⟩;by_cases h0:0<=i
 ·have hj:i.toNat=j:=by
   rw[seqIndex_of h0 h5] at h1;exact Option.some.inj h1
  exact item_listR pl.isList h0 (by lia) (by rw[hj];simpa using ew) fin hs
 ·have hj:(i+(its.toArray.size:Int)).toNat=j:=by
   rw[seqIndex_neg (by lia) h4] at h1;rw[qAw,<- hl];exact Option.some.inj h1
  exact subscriptTail_builtinR (x:=w) pl.isList.typeIs slot_list_getitem.lookup
   (wpAny_getItem_list_neg (Q:=fun r s'=>r=w/\EP X pins σ Q r s') pl.isList (by lia) (by rw[qAw] <;> lia) (by lia) (by rw[hj];simpa using ew) ⟨rfl,fin⟩) hs
theorem cB:EA X (IT X.K):=by
 intro value slice pins s σ H x y v u Q I rx ry h hs;obtain⟨p,xs,i,z,rfl,rfl,hq,he,q⟩:=h;cases rx;obtain⟨t,rfl⟩:=ry;obtain⟨its,r,pl,hz⟩:=I.tuple hq;obtain⟨j,h1,h2,h3,h4,h5⟩:=pV he;obtain⟨w,ew,rw'⟩:=r.get h2;have hl:=r.length;have hn:=kB;have fin:EP X pins σ Q w s:=⟨z,H,I,rw',q⟩;exact subscriptTail_builtinR (x:=w) pl.typeIs slot_tuple_getitem.lookup
  (getItem_tuple (j:=j) (Q:=fun r s'=>r=w/\EP X pins σ Q r s') pl (by lia) (by lia) (by rw[qAw,<- hl];exact h1) (by simpa using ew) ⟨rfl,fin⟩) hs
theorem pX:EA X Lk:=by
 intro value slice pins s σ H x y v u Q I rx ry h hs;obtain⟨z,i,c,rfl,rfl,hz,he,q⟩:=h;obtain⟨t,rfl⟩:=rx;obtain⟨t',rfl⟩:=ry;obtain⟨j,h1,h2,h3,h4,h5⟩:=pV he;have hl:z.cps.toList.length=z.length:=by simp[Str.length]
 rw[hl] at h1 h4 h5;have hn:=kB;exact tail_any (typeIs_str s z t) slot_str_getitem.lookup (getItem_str (c:=c) (by
  have e1:decide (i < -(2^63:Int))=false:=decide_eq_false (by lia);have e2:decide (i≥2^63)=false:=decide_eq_false (by lia);rw[e1,e2,qLu]) (by rw[h1];simpa using h2) ⟨.str ⟨#[c]⟩,H,I.tok _,⟨_,rfl⟩,q⟩) hs
theorem t9(its:List qAf)(n j:Nat)(u:qAf):Obj.mapSeq (·.setIfInBounds j u) { cls:=.type "list",data:=.seq its.toArray n }={ cls:=.type "list",data:=.seq (its.set j u).toArray n }:=by
 simp[Obj.mapSeq]
theorem Inv.lst(I:Inv X pins σ H s)(h:H p=some (.lst xs)):
  ∃(its:List qAf) (n:Nat),Vals xs its/\s.heap.get? p=some { cls:=.type "list",data:=.seq its.toArray n }/\xs.length<=qAg:=by
 obtain⟨z,its,n,r,e⟩:=I.cQ p _ h;exact⟨its,n,r,e,z⟩
theorem Inv.EB{pins:List (Addr×Obj)}{σ:St}{H:Hp}{s:qAk}{p:Addr}{xs ys:List V}{its its':List qAf}{n n':Nat}{f:Obj->Obj}(I:Inv X pins σ H s)(h:H p=some (.lst xs))
  (ho:s.heap.get? p=some { cls:=.type "list",data:=.seq its.toArray n }) (hf:f { cls:=.type "list",data:=.seq its.toArray n }={ cls:=.type "list",data:=.seq its'.toArray n' }) (r:Vals ys its') (hz:ys.length<=qAg) (t:Nat) :
  Inv X pins σ (upd H p (.lst ys)) { s with heap:=s.heap.update p f,toks:=t }:=by
 have e:(s.heap.update p f).get? p=some { cls:=.type "list",data:=.seq its'.toArray n' }:=by
  rw[Heap.get?_update_self f ho (by rw[hf] <;> rfl),hf]
 refine I.write (x:=p) (e:=p) (by rw[h];trivial) (.inl rfl) (fun b u hb q=>(qJi _ _ (Ne.symm hb)).trans q) ⟨_,e⟩ ?_;exact⟨hz,its',n',r,e⟩
def IU:V->V->V->Hp->(Hp->Prop)->Prop:=fun o i v H Q=>∃p xs k j,o = .ref p/\i = .int k/\H p=some (.lst xs)/\xG xs.length k=some j/\Q (upd H p (.lst (xs.set j v)))
theorem set_list:Eo X IU:=by
 intro pins s σ H o i v ov iv u Q I ro ri rv h;obtain⟨p,xs,k,j,rfl,rfl,hp,hj,q⟩:=h;cases ro;obtain⟨t,rfl⟩:=ri;obtain⟨its,n,r,ho,hz⟩:=I.lst hp;obtain⟨h1,h2,h3,h4⟩:=vJ hj;have hl:=r.length;have hn:=kB;have I':Inv X pins σ (upd H p (.lst (xs.set j v))) { s with heap:=s.heap.update p (Obj.mapSeq (·.setIfInBounds j u)) } :=
  I.EB hp ho (t9 its n j u) (r.set rv j) (by rw[qLi];exact hz) s.toks
 by_cases h0:0<=k
 ·have hk:k.toNat=j:=by
   rw[seqIndex_of h0 h4] at h1;exact Option.some.inj h1
  exact PySem.W.ki_setAt ho h0 (by lia) (by rw[qAw,<- hl];exact h4) (by rw[hk];exact⟨_,I',q⟩)
 ·have hk:(k+(its.toArray.size:Int)).toNat=j:=by
   rw[seqIndex_neg (by lia) h3] at h1;rw[qAw,<- hl];exact Option.some.inj h1
  exact PySem.W.ki_setBack ho (by lia) (by rw[qAw,<- hl];exact h3) (by lia) (by rw[hk];exact⟨_,I',q⟩)
theorem pY(lo hi:Option Int)(n:Nat):(qDm lo hi none n).1=((HT.eC n 0 lo:Nat):Int)/\(qDm lo hi none n).2.1=((HT.eC n n hi:Nat):Int)/\(qDm lo hi none n).2.2=1:=by
 refine⟨?_,?_,rfl⟩
 ·cases lo with
  | none=>simp[qDm,HT.eC]
  | some i =>
   simp only[qDm,HT.eC,qKk,show(1:Int)>0 by decide,if_true];by_cases h:i<0
   ·simp only[h,if_true] <;> lia
   ·simp only[h,if_false] <;> lia
 ·cases hi with
  | none=>simp[qDm,HT.eC]
  | some i =>
   simp only[qDm,HT.eC,qKk,show(1:Int)>0 by decide,if_true];by_cases h:i<0
   ·simp only[h,if_true] <;> lia
   ·simp only[h,if_false] <;> lia
theorem nQ(its:List qAf)(lo hi:Option Int):qLb its.toArray lo hi none=((its.drop (HT.eC its.length 0 lo)).take (HT.eC its.length its.length hi-HT.eC its.length 0 lo)).toArray:=by
 obtain⟨h1,h2,h3⟩:=pY lo hi its.toArray.size;unfold qLb;rw[h1,h2,h3];simp only[sliceRange_one,pick_run,qAw] <;> rfl
def Lm(K:qAb):V->Option Int->Option Int->Hp->VK->Prop:=fun x lo hi H Q=>∃a xs,x = .ref a/\aY K H a xs/\∀p,H p=none->Q (.ref p) (upd H p (.lst (fT xs lo hi)))
theorem eZ:HF X (Lm X.K):=by
 intro pins s σ H x v vl vu lo hi sl Q I rx hs pl pu h;obtain⟨a,xs,rfl,hx,q⟩:=h;cases rx;obtain⟨its,r,ht,hz⟩:=I.list hx;have hlen:=r.length;refine⟨"list",_,slot_list_getitem.lookup,ht.isList.typeIs,?_⟩;refine wpAny_getItem_list_slice ht.isList hs pl pu .none (by simp) ?_ (by rw[qAw] <;> lia);rw[nQ,<- hlen];refine⟨.ref s.heap.objs.size,_,I.laid (t':=s.toks) (o:=.lst (fT xs lo hi)) (fun b ob q=>qAh _ q) (qAi _) ?_,rfl,q _ (I.cQ.fresh (qAi _))⟩;exact⟨qAt (kS xs lo hi) hz,_,0,(r.drop (HT.eC xs.length 0 lo)).take (HT.eC xs.length xs.length hi-HT.eC xs.length 0 lo),qBa _ rfl⟩
def kT:V->Bool
 | .non=>true
 | .bl _=>true
 | .int _=>true
 | .str _=>true
 | _=>false
def Cd:V->V->Bool
 | .non,.non=>true
 | .bl a,.bl b=>a == b
 | .bl a,.int b=>(if a then 1 else 0) == b
 | .int a,.bl b=>a == (if b then 1 else 0)
 | .int a,.int b=>a == b
 | .str a,.str b=>a == b
 | _,_=>false
theorem EC(ry:RelV y u)(rx:RelV x v)(fy:kT y=true)(fx:kT x=true):SeqAt.EqAt A s u v (Cd y x):=by
 cases y with
 | non =>
  cases ry
  cases x with
  | non=>cases rx;exact SeqAt.EqAt.same _
  | bl b=>cases rx;exact SeqAt.EqAt.none_bool b
  | int b=>obtain⟨t,rfl⟩:=rx;exact SeqAt.EqAt.none_int b t
  | str b=>obtain⟨t,rfl⟩:=rx;exact SeqAt.EqAt.none_str b t
  | _=>exact absurd (show false=true from fx) qAl
 | bl a =>
  cases ry
  cases x with
  | non=>cases rx;exact SeqAt.EqAt.bool_none a
  | bl b=>cases rx;exact SeqAt.EqAt.bool_bool a b
  | int b=>obtain⟨t,rfl⟩:=rx;exact SeqAt.EqAt.bool_int a b t
  | str b=>obtain⟨t,rfl⟩:=rx;exact SeqAt.EqAt.bool_str a b t
  | _=>exact absurd (show false=true from fx) qAl
 | int a =>
  obtain⟨t',rfl⟩:=ry;cases x with
  | non=>cases rx;exact SeqAt.EqAt.int_none a t'
  | bl b=>cases rx;exact SeqAt.EqAt.int_bool a t' b
  | int b=>obtain⟨t,rfl⟩:=rx;exact SeqAt.EqAt.int_int a t' b t
  | str b=>obtain⟨t,rfl⟩:=rx;exact SeqAt.EqAt.int_str a t' b t
  | _=>exact absurd (show false=true from fx) qAl
 | str a =>
  obtain⟨t',rfl⟩:=ry;cases x with
  | non=>cases rx;exact SeqAt.EqAt.str_none a t'
  | bl b=>cases rx;exact SeqAt.EqAt.str_bool a t' b
  | int b=>obtain⟨t,rfl⟩:=rx;exact SeqAt.EqAt.str_int a t' b t
  | str b=>obtain⟨t,rfl⟩:=rx;exact SeqAt.EqAt.str_str a t' b t
  | _=>exact absurd (show false=true from fx) qAl
 | _=>exact absurd (show false=true from fy) qAl
def Ce(x:V)(u:qAf):Bool:=match u with
 | .none=>Cd .non x
 | .bool b=>Cd (.bl b) x
 | .int i _=>Cd (.int i) x
 | .str z _=>Cd (.str z) x
 | _=>false
theorem zU(r:RelV y u)(f:kT y=true):Ce x u=Cd y x:=by
 cases y with
 | non=>cases r;rfl
 | bl b=>cases r;rfl
 | int i=>obtain⟨t,rfl⟩:=r;rfl
 | str z=>obtain⟨t,rfl⟩:=r;rfl
 | _=>exact absurd (show false=true from f) qAl
theorem pZ:∀{xs:List V}{us:List qAf},Vals xs us->xs.all kT=true->us.any (Ce x)=xs.any fun y=>Cd y x
 | _,_,.nil,_=>rfl
 | y::xs,u::us,.cons r t,f=>by
  rw[qLs,qAr] at f;rw[qGd,qGd,zU r f.1,pZ t f.2]
theorem mC(rx:RelV x v)(fx:kT x=true):∀{xs:List V}{us:List qAf},Vals xs us->xs.all kT=true->∀u∈us,SeqAt.EqAt A s u v (Ce x u)
 | _,_,.nil,_=>fun u hu=>by cases hu
 | y::xs,u::us,.cons r t,f=>fun u' hu=>by
  rw[qLs,qAr] at f;rcases List.mem_cons.mp hu with rfl | hu
  ·rw[zU r f.1];exact EC r rx f.1 fx
  ·exact mC rx fx t f.2 u' hu
def IV(x:V)(xs:List V):Bool:=xs.any fun y=>Cd y x
def Ni(K:qAb)(neg:Bool):R2:=fun x y H Q=>∃p xs,y = .ref p/\(aY K H p xs\/dG K H p xs)/\kT x=true/\xs.all kT=true/\Q (.bl (if neg then !IV x xs else IV x xs)) H
theorem p0:gX X (qDp .NotIn) (Ni X.K true):=by
 intro pins s σ H x y v u Q I rx ry h;obtain⟨p,xs,rfl,hq,fx,fs,q⟩:=h;cases ry;rcases hq with hq | hq
 ·obtain⟨its,r,pl,hz⟩:=I.list hq;refine SeqAt.notIn_listAt (Ce x) pl.isList (fun w hw=>mC rx fx r fs w (by simpa using hw)) ⟨.bl _,H,I,rfl,?_⟩;rw[show its.toArray.any (Ce x)=its.any (Ce x) by simp,pZ r fs];exact q
 ·obtain⟨its,r,pl,hz⟩:=I.tuple hq;refine SeqAt.notIn_tupleAt (Ce x) pl (fun w hw=>mC rx fx r fs w (by simpa using hw)) ⟨.bl _,H,I,rfl,?_⟩;rw[show its.toArray.any (Ce x)=its.any (Ce x) by simp,pZ r fs];exact q
theorem aZ:eQ X (.builtin "len") (fun xs H Q=>∃p ys,xs=[.ref p]/\(aY X.K H p ys\/dG X.K H p ys)/\Q (.int ys.length) H):=by
 intro pins s σ H xs us Q I r h;obtain⟨p,ys,rfl,hq,q⟩:=h;obtain⟨u,rfl,rx⟩:=vals1 r;cases rx;have hn:=kB;rcases hq with hq | hq
 ·obtain⟨its,r',pl,hz⟩:=I.list hq;have hlen:=r'.length;exact Calls.call_len_list pl.isList (by simp only[qAw] <;> lia) ⟨.int ys.length,H,I.tok _,⟨s.toks+1,by rw[qAw,hlen]⟩,q⟩
 ·obtain⟨its,r',pl,hz⟩:=I.tuple hq;have hlen:=r'.length;exact len_tuple pl (by simp only[qAw] <;> lia) ⟨.int ys.length,H,I.tok _,⟨s.toks+1,by rw[qAw,hlen]⟩,q⟩
theorem jO:eQ X (.builtin "len") (fun xs H Q=>∃z,xs=[.str z]/\z.length<=qAg/\Q (.int z.length) H):=by
 intro pins s σ H xs us Q I r h;obtain⟨z,rfl,hz,q⟩:=h;obtain⟨u,rfl,t,rfl⟩:=vals1 r;have hn:=kB;exact len_str (by lia) ⟨.int z.length,H,I.tok _,⟨_,rfl⟩,q⟩
theorem dB:eQ X (.type "list") (fun xs H Q=>∃p ys,xs=[.ref p]/\(aY X.K H p ys\/dG X.K H p ys)/\∀l,H l=none->Q (.ref l) (upd H l (.lst ys))):=by
 intro pins s σ H xs us Q I r h;obtain⟨p,ys,rfl,hq,q⟩:=h;obtain⟨u,rfl,rx⟩:=vals1 r;cases rx;have fin:∀(its:List qAf),Vals ys its->ys.length<=qAg->∀(h':Heap) (c':Nat),(∀b o',s.heap.get? b=some o'->h'.get? b=some o') ->
   h'.get? s.heap.objs.size=some { cls:=.type "list",dict:=none,data:=.seq its.toArray c',slots:=#[] }->EP X pins σ Q (.ref s.heap.objs.size) { s with heap:=h' }:=fun its r' hz h' c' kp e =>
  ⟨.ref s.heap.objs.size,_,I.laid (t':=s.toks) kp (qAi _) (show cZ X.prog X.w _ h' _ (.lst ys) from⟨hz,its,c',r',e⟩),rfl,q _ (I.cQ.fresh (qAi _))⟩
 rcases hq with hq | hq
 ·obtain⟨its,r',pl,hz⟩:=I.list hq;have hlen:=r'.length;obtain⟨o,ho,hc,n,hd⟩:=pl.isList;exact call_list_seq p (.inl rfl) ho hc hd (fun h' c' kp e=>fin its r' hz h' c' kp e) (by simp only[qAw] <;> lia)
 ·obtain⟨its,r',pl,hz⟩:=I.tuple hq;have hlen:=r'.length;obtain⟨o,ho,hc,n,hd⟩:=pl;exact call_list_seq p (.inr rfl) ho hc hd (fun h' c' kp e=>fin its r' hz h' c' kp e) (by simp only[qAw] <;> lia)
def Ln(K:qAb)(T:String)(x:V)(H:Hp):Prop:=match x with
 | .str _=>T="str"
 | .int _=>T="int"
 | .ref p=>(T="list"/\∃xs,aY K H p xs)\/(T="tuple"/\∃o,K.lookup p=some o/\o.cls = .type "tuple"/\o.dict=none) \/
   (T="dict"/\((∃kvs,H p=some (.dK kvs))\/∃kvs,H p=some (.dT kvs)))\/(T="set"/\∃S n,H p=some (.set S n))
 | _=>False
theorem zV(I:Inv X pins σ H s)(r:RelV x v)(ty:Ln X.K T x H):
  s.TypeIs v T/\∀a,v = .ref a->∃ob,s.heap.get? a=some ob/\ob.dict=none:=by
 cases x with
 | str z =>
  obtain⟨t,rfl⟩:=r;cases (show T="str" from ty);exact⟨typeIs_str s z t,fun _ e=>nomatch e⟩
 | int i =>
  obtain⟨t,rfl⟩:=r;cases (show T="int" from ty);exact⟨typeIs_int s i t,fun _ e=>nomatch e⟩
 | ref p =>
  cases r
  rcases ty with ⟨rfl,xs,hq⟩ | ⟨rfl,o,hk,hc,hd⟩ | ⟨rfl,hk⟩ | ⟨rfl,S,n,hk⟩
  ·obtain⟨its,_,pl,_⟩:=I.list hq;refine⟨pl.isList.typeIs,fun a e=>?_⟩;cases e;obtain⟨o,n,e,c,hd,_⟩:=pl;exact⟨o,e,hd⟩
  ·refine⟨⟨o,I.nM p o hk,hc⟩,fun a e=>?_⟩;cases e;exact⟨o,I.nM _ o hk,hd⟩
  ·have z:∃o,s.heap.get? p=some o/\o.ExactDict:=by
    rcases hk with ⟨kvs,hk⟩ | ⟨kvs,hk⟩
    ·obtain⟨_,_,_,_,o,_,_,e,ex,_⟩:=I.cQ p _ hk;exact⟨o,e,ex⟩
    ·obtain⟨_,_,_,_,o,_,_,e,ex,_⟩:=I.cQ p _ hk;exact⟨o,e,ex⟩
   obtain⟨o,e,ex⟩:=z;refine⟨⟨o,e,ex.1⟩,fun a e2=>?_⟩;cases e2;exact⟨o,e,ex.2.1⟩
  ·obtain⟨o,_,_,_,e,ex,_⟩:=I.cQ p _ hk;refine⟨⟨o,e,ex.1⟩,fun a e2=>?_⟩;cases e2;exact⟨o,e,ex.2.1⟩
 | _=>exact False.elim ty
def Lo(K:qAb)(T:String)(r:V->List V->Hp->VK->Prop)(to:TE):TE:=fun σ H Q=>to σ H fun x H1=>Ln K T x H1/\r x [] H1 Q
def Lp(K:qAb)(T:String)(r:V->List V->Hp->VK->Prop)(to:TE)(t:TA):TE:=fun σ H Q=>to σ H fun x H1=>Ln K T x H1/\t σ H1 fun xs H2=>r x xs H2 Q
variable {o e:Expr}{es:List Expr}{to:TE}{t:TA}{name:Str}{apos cpos:Pos}{T id:String}{r:V->List V->Hp->VK->Prop}
theorem ED(pa:PlainAttrs T)(slot:Slot T name id)(hty:qMu (.builtin id)=pure (.type "method_descriptor"))(hm:Cc X id r)(ho:PE X o to)
  (hbase:qIc o name X.env (eval o X.env)=eval o X.env:=by rfl) (hline:(apos.endLine == cpos.line)=true:=by rfl):PE X (.Call (.Attribute o name apos) [] [] cpos) (Lo X.K T r to):=by
 intro pins s σ H Q I h;refine wpAny_Call_method0_late hbase hline (bX (ho pins s σ H _ I h) fun v s1 ⟨x,H1,I1,r1,ty,q1⟩=>?_);obtain⟨h1,h2⟩:=zV I1 r1 ty;exact⟨T,id,pa,slot,hty,h1,h2,qJb rfl (PySem.evalArgs_none (hm pins s1 σ H1 x [] v [] Q I1 r1 .nil q1))⟩
theorem dP(pa:PlainAttrs T)(slot:Slot T name id)(hty:qMu (.builtin id)=pure (.type "method_descriptor"))(hm:Cc X id r)(ho:PE X o to)(ha:PA X (e::es) t)
  (hbase:qIc o name X.env (eval o X.env)=eval o X.env:=by rfl)
  (hfew:((qEj cpos (qBk (e::es) X.env)).all (fun x=>!x.1)&&(qFq cpos (qEg [] X.env)).all (fun x=>x.1.isSome)
   && decide ((e::es).length+([]:List qMx).length+(if ([]:List qMx).isEmpty then 0 else 1)<30))=true:=by rfl)
  (hline:(apos.endLine == cpos.line)=true:=by rfl) (hs:qBk (e::es) X.env=(false,eval e X.env)::qBk es X.env:=by rfl) (hplain:(qEj cpos (qBk es X.env)).any (·.1)=false:=by rfl) :
  PE X (.Call (.Attribute o name apos) (e::es) [] cpos) (Lp X.K T r to t):=by
 intro pins s σ H Q I h;refine wpAny_Call_method_late hbase hfew hline rfl (bX (ho pins s σ H _ I h) fun v s1 ⟨x,H1,I1,r1,ty,q1⟩=>?_);obtain⟨h1,h2⟩:=zV I1 r1 ty;refine⟨T,id,pa,slot,hty,h1,h2,?_⟩;have hA:=ha cpos pins s1 σ H1 _ I1 q1;rw[hs] at hA|-;refine qJb (by show(false||(qEj cpos (qBk es X.env)).any (·.1))=false;rw[hplain] <;> rfl) (qJr ?_)
 exact bX hA fun us s2 ⟨vs,H2,I2,r2,q2⟩=>hm pins s2 σ H2 x vs v us Q I2 r1 r2 q2
end
def Lq(X:Cx)(id:String)(r:V->List V->Hp->VK->Prop):Prop :=
 ∀(pins:List (Addr×Obj)) (s:qAk) (σ:St) (H:Hp) (x:V) (xs:List V) (v:qAf) (us:List qAf) (Q:VK),Inv X pins σ H s->RelV x v->Vals xs us->r x xs H Q ->
  qBs (qBz X.prog X.w) X.A (call (.builtin id) (v::us)) (EP X pins σ Q) X.xe s
theorem Vals.one:∀{x:V}{us:List qAf},Vals [x] us->∃u,us=[u]/\RelV x u
 | _,_,.cons r .nil=>⟨_,rfl,r⟩
theorem Vals.zero:∀{us:List qAf},Vals [] us->us=[]
 | _,.nil=>rfl
section
variable {X:Cx}{pins:List (Addr×Obj)}{σ:St}{H:Hp}{s:qAk}{l b:Addr}{xs ys zs:List V}
theorem Inv.IW{its its':List qAf}{n:Nat}{f:Array qAf->Array qAf}{t':Nat}(I:Inv X pins σ H s)(hH:H l=some (.lst xs))
  (e:s.heap.get? l=some { cls:=.type "list",data:=.seq its.toArray n }) (hf:f its.toArray=its'.toArray) (hv:Vals ys its') (hz:ys.length<=qAg) :
  Inv X pins σ (upd H l (.lst ys)) { s with heap:=s.heap.update l (Obj.mapSeq f),toks:=t' }:=by
 have q:=PySem.IsL.update e f;rw[hf] at q;refine I.write (x:=l) (e:=l) (by rw[hH];exact trivial) (.inl rfl) (fun b' u hb hu=>(qJi s.heap (Obj.mapSeq f) (Ne.symm hb)).trans hu) ⟨_,q⟩ ?_;exact⟨hz,its',_,hv,q⟩
theorem Inv.Lr(I:Inv X pins σ H s)(hv:Vals ys its)(hz:ys.length<=qAg):
  Inv X pins σ (upd H s.heap.objs.size (.lst ys)) { s with heap:=s.heap.push { cls:=.type "list",data:=.seq its.toArray },toks:=t' } :=
 I.laid (fun _ _ q=>qAh _ q) (qAi _) ⟨hz,its,0,hv,qBa _ rfl⟩
theorem Inv.fresh(I:Inv X pins σ H s):H s.heap.objs.size=none:=I.cQ.fresh (qAi _)
theorem Inv.IX(I:Inv X pins σ H s)(hH:H l=some (.lst xs)):xs.length<=qAg/\∃(its:List qAf) (n:Nat),Vals xs its/\xs.length=its.length/\s.heap.get? l=some { cls:=.type "list",data:=.seq its.toArray n }:=by
 obtain⟨z,its,n,r,e⟩:=I.cQ l _ hH;exact⟨z,its,n,r,r.length,e⟩
end
section
variable {X:Cx}
def p7:V->List V->Hp->VK->Prop:=fun x vs H Q=>∃l xs y,x = .ref l/\vs=[y]/\H l=some (.lst xs)/\xs.length<qAg/\Q .non (upd H l (.lst (xs++[y])))
theorem oM:Lq X "list.append" p7:=by
 intro pins s σ H x vs v us Q I rx rv h;obtain⟨l,xs,y,rfl,rfl,hH,hz,q⟩:=h;cases rx;obtain⟨u,rfl,ru⟩:=rv.one;obtain⟨z,its,n,r,hl,e⟩:=I.IX hH;refine qHh F.slot_list_append ⟨_,e,rfl⟩ F.entry_list_append (F.args_list_append_2 _ _) (PySem.list_append l its.toArray n u (by rw[qAw];lia)) ⟨e,?_⟩;refine⟨.non,_,I.IW (its':=its++[u]) hH e (by simp) (r.append (.cons ru .nil)) ?_,rfl,q⟩;rw[qAn,qJp];lia
def zW:V->List V->Hp->VK->Prop:=fun x vs H Q=>∃l xs,x = .ref l/\vs=[]/\H l=some (.lst xs)/\Q .non (upd H l (.lst []))
theorem zX:Lq X "list.clear" zW:=by
 intro pins s σ H x vs v us Q I rx rv h;obtain⟨l,xs,rfl,rfl,hH,q⟩:=h;cases rx;have hus:=rv.zero;subst hus;obtain⟨z,its,n,r,hl,e⟩:=I.IX hH;refine qHh F.slot_list_clear ⟨_,e,rfl⟩ F.entry_list_clear (F.args_list_clear_1 _) (AutoSeq1.list_clear_list_0 l its.toArray n (by rw[qAw];lia)) ⟨e,?_⟩;exact⟨.non,_,I.IW (its':=[]) (ys:=[]) hH e rfl .nil (qBm _),rfl,q⟩
end
section
variable {prog:qBc}{w:qCd}{A:qCu}{E:qAf->qAk->Prop}{s:qAk}
set_option maxRecDepth 100000 in
end
section
variable {X:Cx}
end
end L2
namespace Att
open PySem PySem.W PySem.Calls PyProof.Rows
theorem lC:∀(ns:List Int) (vs:List qAf),WellAll P h vs (ns.map WData.int)->qHq vs ns:=by
 intro ns;induction ns with
 | nil =>
  intro vs w;rw[qDz] at w;cases w;exact .nil
 | cons n ns ih =>
  intro vs w;rw[qBi] at w;cases w with
  | cons a b =>
   cases a
   exact .cons _ _ (ih _ b)
theorem xI{l:OpenLaw}{n:Nat}(hn:l.most=some n){P:Params}{h:Heap}{args:List WData}{vals:List qAf}
  (hpre:l.row.toRowW.claim.pre args=true) (hwl:WellAll P h vals args) :
  ∃a vs ns,vals=[Value.ref a]/\args=[WData.list (ns.map WData.int)]/\h.get? a=some { cls:=.type "list",data:=.seq vs.toArray }/\qHq vs ns/\ns.length<=n:=by
 have hsh:WShape.hasAll [] args [.list .int]=true:=(pre_splitW hpre).1;have hc:l.pre.holds [] { args:=args }=true:=(pre_splitW hpre).2;obtain⟨d,r,rfl,h1,h2⟩:=hasAllW_cons hsh;obtain rfl:=hasAllW_nil h2;obtain⟨xs,rfl,h3⟩:=hasW_list h1;obtain⟨ns,rfl⟩:=items_int h3;have hlen:ns.length<=n:=by
  unfold OpenLaw.pre at hc;have h4:(WTm.not (.lt (.lit (.int (n:Int))) (.len (.arg 0)))).holds [] { args:=[.list (ns.map .int)] }=true:=by
   have h4:=(holds_andW hc).1;rw[hn] at h4;exact h4
  have h5:=condW_of h4 (w_not (w_lt w_lit (w_len_list (w_arg rfl))));rw[qAa] at h5;refine qLf fun q=>?_;have q':(n:Int)<((ns.length:Nat):Int):=by lia
  first
   | (rw[decide_eq_true q'] at h5;exact absurd h5 (by decide))
   | (simp at h5;lia)
 cases hwl with
 | cons w1 w2 =>
  cases w2
  cases w1 with
  | list ho hall=>exact⟨_,_,ns,rfl,rfl,ho,lC ns _ hall,hlen⟩
theorem xJ(l:OpenLaw)(args:List WData):l.row.toRowW.claim.post args (.bool true) args=true :=
 postW_of (r:=l.row.toRowW) (X:=(true == true))
  (show WShape.has [] (.bool true) .bool=true by first | rfl | decide | simp[WShape.has,WShape.arms,WShape.armsAll])
  (show(WTm.eq .res (.lit (.bool true))).value [] { args:=args,res:=some (.bool true),after:=args }=some (.bool (true == true)) from w_eq_bool (w_res rfl) w_lit) rfl
section
variable {prog:qBc}{w:qCd}{A:qCu}{E:qAf->qAk->Prop}{s:qAk}{K:Frag}
end
end Att
namespace L2
open PySem PySem.Spec PyProof.Rows
theorem oN:∀{vs:List qAf}{ns:List Int},qHq vs ns->Vals (ns.map V.int) vs
 | _,_,.nil=>.nil
 | _,_,.cons n t h=>.cons ⟨t,rfl⟩ (oN h)
def EE(H:Hp):Prop:=∀b,H b=none\/∃o xs,H b=some (.frz o (.lst xs))
theorem zY{P:qBc}{w:qCd}{K:qAb}{mg mb:Str->Option qAf}{CX:vG}{k:Nat}{fa a:Addr}{fd:qBd}{x:Str}{sp:Sp}{s₁:qAk}{vs:List qAf}{ns:List Int}
  (KX:K.In s₁.heap) (hns:s₁.heap.Ns qAx mg) (hb:s₁.heap.Ns builtinsNs mb) (hbb:∀x:Str,x≠"__name__"->mb x=qCk x) (hlim:s₁.heap.NoLimit) (hg:s₁.gens=#[])
  (ha:s₁.heap.get? a=some { cls:=.type "list",data:=.seq vs.toArray }) (hi:qHq vs ns) (hl:ns.length<=qAg) (hr:cV k qJn)
  (F:∀base:Heap,K.In base->base.Ns qAx mg->fR P w K mg base CX k fa fd [x] sp) (hbind:∀(s:qAk) (u:qAf),qKt s fd ⟨[u],[]⟩ [(x,u)])
  (hsp:∀H:Hp,EE H->aY K H a (ns.map V.int)->sp [.ref a] H (fun v _=>v = .bl true) fun _ _ _=>False)
  (hCX:∀H e s',CX [] H s₁ (fun _ _ _=>False) e s'->False) :
  qGh (qBz P w) qJn (.call (.ref fa) ⟨[.ref a],[]⟩) (fun r s'=>r = .ok (.ret (.bool true))/\OldK s₁.heap s'.heap/\s'.os=s₁.os/\qHe s'.gens) s₁:=by
 have rv:=oN hi;have lenV:=hi.length;have core:∀H:Hp,EE H->aY K H a (ns.map V.int)->jD P w H s₁.heap->(∀b,H b≠none->b=a)->(H a≠none->K.lookup a=none) ->
   qGh (qBz P w) qJn (.call (.ref fa) ⟨[.ref a],[]⟩) (fun r s'=>r = .ok (.ret (.bool true))/\OldK s₁.heap s'.heap/\s'.os=s₁.os/\qHe s'.gens) s₁:=by
  intro H hO hS cQ hA hK;have base_of:∀{b:Addr}{o:Obj},s₁.heap.get? b=some o->H b=none->(pO s₁.heap H).get? b=some o:=fun e n=>zG e n;have noA:∀{b:Addr}{o:Obj}{es:Array DictEntry}{ep:Nat},s₁.heap.get? b=some o->o.data = .dict es ep->H b=none:=fun {b o es ep} e d=>by
   cases q:H b with
   | none=>rfl
   | some u =>
    have e':b=a:=hA b (by rw[q];simp);subst e';rw[ha] at e;cases e;have d':Data.seq vs.toArray _=Data.dict es ep:=d;cases d'
  have nsK:∀{b:Addr}{m:Str->Option qAf},s₁.heap.Ns b m->(pO s₁.heap H).Ns b m:=fun {b m} ⟨o,es,ep,e,d,r⟩=>⟨o,es,ep,base_of e (noA e d),d,r⟩;have hKb:K.In (pO s₁.heap H):=fun b o e=>base_of (KX b o e) (by
   cases q:H b with
   | none=>rfl
   | some u =>
    have e':b=a:=hA b (by rw[q];simp);subst e';rw[hK (by rw[q];simp)] at e;cases e)
  have hM:Mod K mg (pO s₁.heap H):=⟨hKb,nsK hns,⟨mb,nsK hb,hbb⟩,let ⟨mc,h1,h2⟩:=hlim;⟨mc,nsK h1,h2⟩⟩;have e0:nP P w K mg (pO s₁.heap H) qJn [] s₁ H:=⟨rfl,hM,fun b o e=>BK e,qHs (wW _ _),trivial,fun b hb=>absurd (show b∈([]:List Addr) from hb) (by simp),cQ,.of_eq hg⟩;refine qEw ((F _ hKb (nsK hns)).run qJn [] s₁ H ⟨[.ref a],[]⟩ [.ref a] [.ref a] _ _ hr e0 (hbind s₁ (.ref a)) (.cons rfl .nil) (hsp H hO hS)) fun r s' h=>?_;cases r with
  | error e=>exact(hCX H e s' h).elim
  | ok fl =>
   cases fl with
   | next=>exact False.elim h
   | brk=>exact False.elim h
   | cont=>exact False.elim h
   | ret u =>
    obtain⟨v,H',os,bare,un,hok',r',q⟩:=h;have q':v = .bl true:=q;subst q';obtain rfl:u=Value.bool true:=r';refine⟨rfl,OldK.of_keep fun b o e=>?_,os,bare⟩;cases q:H b with
    | none=>exact un.keep b o e q (by intro z;exact absurd (show b∈([]:List Addr) from z) (by simp)) (by simp)
    | some u =>
     rcases hO b with z | ⟨ob,xs,z⟩
     ·rw[q] at z;cases z
     ·have z2:=un.jJ b ob _ z;obtain⟨e1,_⟩:=cQ b _ z;obtain⟨e2,_⟩:=hok' b _ z2;rw[e] at e1;cases e1;exact e2
 cases hk:K.lookup a with
 | some o =>
  have e:=KX a o hk;rw[ha] at e;cases e;refine core (fun _=>none) (fun _=>.inl rfl) (.inr ⟨_,vs.toArray,_,hk,rfl,rfl,rfl,by rw[qAw,lenV];exact hl,by simpa using rv⟩) (fun b u z=>by have z':(none:Option HO)=some u:=z;cases z') (fun b z=>absurd rfl z) fun z=>absurd rfl z
 | none =>
  refine core (fun b=>if b=a then some (.frz { cls:=.type "list",data:=.seq vs.toArray } (.lst (ns.map V.int))) else none) (fun b=>?_) (.inl (.inr ⟨{ cls:=.type "list",data:=.seq vs.toArray },if_pos rfl⟩)) (fun b u z=>?_) (fun b z=>?_) fun _=>hk
  ·by_cases hb:b=a
   ·exact .inr ⟨_,_,if_pos hb⟩
   ·exact .inl (if_neg hb)
  ·by_cases hb:b=a
   ·have z':=(if_pos hb).symm.trans z;cases z';subst hb;exact⟨ha,by rw[qAa];exact hl,vs,_,rv,ha⟩
   ·have z':=(if_neg hb).symm.trans z;cases z'
  ·by_cases hb:b=a
   ·exact hb
   ·exact absurd (if_neg hb) z
def inClass(s:Stmt)(j:Nat):Stmt:=match s with
 | .ClassDef _ _ _ body _ _ _ _ _ _ _=>body.getD j (.Pass ⟨0,0,0,0⟩)
 | _=>.Pass ⟨0,0,0,0⟩
def bI(s:Stmt):Arguments:=match s with
 | .FunctionDef _ a _ _ _ _ _ _ _ _=>a
 | _=>{ posonlyargs:=[],args:=[],vararg:=none,kwonlyargs:=[],kw_defaults:=[],kwarg:=none,defaults:=[] }
def bC(s:Stmt):List Stmt:=match s with
 | .FunctionDef _ _ b _ _ _ _ _ _ _=>b
 | _=>[]
def aE(s:Stmt):qIn:=match s with
 | .FunctionDef _ _ _ _ _ _ sc _ _ _=>sc
 | _=>{ kind:=.function,names:=[],isGenerator:=false,isCoroutine:=false }
abbrev cM:vG:=fun _ _ _ _ _ _=>False
abbrev E0:XK:=fun _ _ _=>False
theorem IY:Passes cM X E0:=fun _ _ _ _ _ _ _ h=>h.elim
structure EF (K:qAb) (x qual:Str) (st:Stmt) (f:Addr) (fd:qBd):Prop where
 ex:∃(oc:qAf) (od:Option Addr) (kV doc pm:qAf) (an:Option Addr) (cdv ct:qAf) (osl:Array (Option qAf)),
  fd=qBe x qual (bI st) (bC st) (aE st) .none kV doc pm an cdv ct/\K.lookup f=some ⟨oc,od,.func fd,osl⟩/\qAz K cdv qual=true
 kp:qAm K (.ref f)=true
section
variable {P:qBc}{w:qCd}{K:qAb}{mg:Str->Option qAf}{base:Heap}
theorem EF.ok{x qual:Str}{st:Stmt}{f:Addr}{fd:qBd}{N ps:List Str}{k:Nat}{sp:Sp}(F:EF K x qual st f fd)(S:aK N ps (aE st))(len:∀vs H Q E,sp vs H Q E->vs.length=ps.length)
  (hbody:∀(cdv:qAf) (A:qCu) (outer:List Env) (s:qAk) (H:Hp) (vs:List V) (Q:VK) (E:XK),cV k (A.deeper (qGx qual (aE st) s.heap.objs.size f cdv))->sp vs H Q E ->
   ∃t,oC (lB cM P w K mg base N qual (aE st) f cdv A outer s H E).HD (bC st) t/\t { nx:=fun _ H'=>Q .non H',rt:=Q } (start N vs) H):fR P w K mg base cM (k+1) f fd ps sp:=by
 obtain⟨oc,od,kV,doc,pm,an,cdv,ct,osl,rfl,lk,hcd⟩:=F.ex;refine Dt lk hcd S len fun A outer s H vs Q E hr hsp=>?_;obtain⟨t,h,q⟩:=hbody cdv A outer s H vs Q E hr hsp;exact⟨t,h.HD,q⟩
theorem zZ{x qual:Str}{st:Stmt}{f:Addr}{oc:qAf}{od an:Option Addr}{osl:Array (Option qAf)}{kV doc pm cdv ct:qAf}(l:K.lookup f=some ⟨oc,od,.func (qBe x qual (bI st) (bC st) (aE st) .none kV doc pm an cdv ct),osl⟩)
  (c:qAz K cdv qual=true) (k:qAm K (.ref f)=true):EF K x qual st f (qBe x qual (bI st) (bC st) (aE st) .none kV doc pm an cdv ct):=⟨⟨oc,od,kV,doc,pm,an,cdv,ct,osl,rfl,l,c⟩,k⟩
end
theorem Du(hr:cV k A):A.units+1<qMc:=qBo (qKm (by decide:1<=64) _) hr.units
theorem aQ(h:n<=1000):n<qAg:=qBo h (by decide)
section
variable {X:Cx}
theorem pv(i:Nat){x:Str}{pos:Pos}(hN:X.N[i]?=some x:=by rfl)(hv:KU X.env.scope x:=by first|exact Or.inl rfl | exact Or.inr cK | exact Or.inr (Or.inr rfl))(hd:(x == ("__debug__":Str))=false:=by decide)
  (hcd:(x == ("__classdict__":Str))=false:=by decide):PE X (.Name x pos) (rS i):=El hN hv hd hcd
end
theorem bG{A B:Prop}(h:B):if false=true then A else B:=by
 rw[if_neg qAl];exact h
theorem cT{A B:Prop}(h:A):if true=true then A else B:=by
 rw[if_pos rfl];exact h
theorem dE{c A B:Prop} [Decidable c] (h1:c->A)(h2:¬c->B):if c then A else B:=by
 by_cases h:c
 ·rw[if_pos h];exact h1 h
 ·rw[if_neg h];exact h2 h
theorem z5{c A B:Prop} [Decidable c] (hc:c)(h:B):if (!decide c)=true then A else B:=by
 rw[decide_eq_true hc];exact bG h
def aI(H H':Hp):Prop:=∀b o,H b=some o->H' b=some o
theorem aI.refl(H:Hp):aI H H:=fun _ _ h=>h
theorem aI.trans(a:aI H H1)(b:aI H1 H2):aI H H2:=fun c o h=>b c o (a c o h)
theorem aI.free(e:aI H H'){l:Addr}(h:H' l=qLq):H l=qLq:=by
 cases q:H l with
 | none=>rfl
 | some o =>
  rw[e l o q] at h;cases h
theorem aI.seq{K:qAb}{H H':Hp}{a:Addr}{xs:List V}(e:aI H H')(h:aY K H a xs):aY K H' a xs:=by
 rcases h with (h | ⟨o,h⟩) | h
 ·exact .inl (.inl (e _ _ h))
 ·exact .inl (.inr ⟨o,e _ _ h⟩)
 ·exact .inr h
def oO(cells:List (Str×Addr)):List (Str×Addr)->Prop
 | []=>True
 | p::r=>cells.lookup p.1=some p.2/\oO cells r
theorem oO.of:∀{cl:List (Str×Addr)},oO cells cl->∀x c,cl.lookup x=some c->cells.lookup x=some c
 | [],_,x,c,h=>by cases h
 | (y,d)::r,hl,x,c,h=>by
  rw[List.lookup_cons] at h;cases hx:x == y with
  | true =>
   rw[hx] at h;have e:x=y:=by simpa using hx
   subst e;cases h;exact hl.1
  | false =>
   rw[hx] at h;exact oO.of hl.2 x c h
def p8(X:Cx)(NB:List Str)(sc:qIn)(cl:List (Str×Addr))(s₃:qAk)(H₃:Hp)(fp:List Addr):Cx :=
 { X with N:=NB,s₀:=s₃,H₀:=H₃,env:=compEnvC sc cl s₃.heap.objs.size X.env,outer:=X.stack,stack:=X.stack,ex:=fp,fn:=fun _=>false,pn:=[],xe:=fun _ _=>False }
structure HG (X:Cx) (NB:List Str) (pick:List (Option Nat)) (sc:qIn) (cl:List (Str×Addr)):Prop where
 EG:closureFor sc X.env=pure cl
 kind:sc.kind = .function
 uA:∀y∈sc.names,y.2≠.cell
 names:∀y∈sc.names,y.2 = .local->sc.names.lookup y.1=some .local
 sub:oO X.env.cells cl
 has:∀x,((qLp sc X.env).names.lookup x=some .cell\/(qLp sc X.env).names.lookup x=some .free)->∃c,cl.lookup x=some c
 len:pick.length=NB.length
 got:∀(j i:Nat) (x:Str),pick[j]?=some (some i)->NB[j]?=some x->X.N[i]?=some x/\(X.env.kindOf x=some .cell\/X.env.kindOf x=some .free)/\(qLp sc X.env).names.lookup x=some .cell
def hasB(cl:List (Str×Addr))(L:List (Str×qJc)):Bool:=L.all fun p=>!(p.2 == .cell||p.2 == .free)||(cl.lookup p.1).isSome
theorem Cf(h:hasB cl L=true)(x:Str)(hx:L.lookup x=some .cell\/L.lookup x=some .free):∃c,cl.lookup x=some c:=by
 have get:∀k,L.lookup x=some k->(k == NameKind.cell||k == NameKind.free)=true->∃c,cl.lookup x=some c:=fun k hk hb=>by
  have z:=List.all_eq_true.mp h (x,k) (PySem.mem_of_lookup hk);dsimp only at z;rw[hb] at z;exact Option.isSome_iff_exists.mp z
 rcases hx with hx | hx
 ·exact get _ hx rfl
 ·exact get _ hx rfl
def uB(N:List Str)(k1 k2:List (Str×qJc)):List (Option Nat)->List Str->Bool
 | some i::p,x::r=>decide (N[i]?=some x)&&(decide (k1.lookup x=some .cell)||decide (k1.lookup x=some .free))&&decide (k2.lookup x=some .cell)&&uB N k1 k2 p r
 | none::p,_::r=>uB N k1 k2 p r
 | [],[]=>true
 | _,_=>false
theorem mD:∀{p:List (Option Nat)}{r:List Str},uB N k1 k2 p r=true->p.length=r.length
 | [],[],_=>rfl
 | [],_::_,h=>by cases h
 | none::_,[],h=>by cases h
 | some _::_,[],h=>by cases h
 | none::p,_::r,h=>congrArg Nat.succ (mD (p:=p) (r:=r) h)
 | some i::p,x::r,h=>by
  have h':(decide (N[i]?=some x)&&(decide (k1.lookup x=some .cell)||decide (k1.lookup x=some .free))&&decide (k2.lookup x=some .cell)&&uB N k1 k2 p r)=true:=h
  rw[qAr] at h';exact congrArg Nat.succ (mD h'.2)
theorem p9:∀{p:List (Option Nat)}{r:List Str},uB N k1 k2 p r=true->∀(j i:Nat) (x:Str),p[j]?=some (some i)->r[j]?=some x ->
  N[i]?=some x/\(k1.lookup x=some .cell\/k1.lookup x=some .free)/\k2.lookup x=some .cell
 | [],_,_,j,i,x,h1,_=>by simp at h1
 | none::_,[],h,_,_,_,_,_=>by cases h
 | some _::_,[],h,_,_,_,_,_=>by cases h
 | none::p,_::r,h,j,i,x,h1,h2=>by
  cases j with
  | zero=>simp at h1
  | succ j=>exact p9 (p:=p) (r:=r) h j i x (by simpa using h1) (by simpa using h2)
 | some i'::p,x'::r,h,j,i,x,h1,h2=>by
  have h':(decide (N[i']?=some x')&&(decide (k1.lookup x'=some .cell)||decide (k1.lookup x'=some .free))&&decide (k2.lookup x'=some .cell)&&uB N k1 k2 p r)=true:=h
  rw[qAr,qAr,qAr,qDq] at h';obtain⟨⟨⟨a,b⟩,c⟩,d⟩:=h';cases j with
  | zero =>
   simp at h1 h2;subst h1 h2;exact⟨of_decide_eq_true a,b.elim (fun z=>.inl (of_decide_eq_true z)) fun z=>.inr (of_decide_eq_true z),of_decide_eq_true c⟩
  | succ j=>exact p9 d j i x (by simpa using h1) (by simpa using h2)
theorem bR(EG:closureFor sc X.env=pure cl)(sub:oO X.env.cells cl)(kind:sc.kind = .function)(uA:∀y∈sc.names,y.2≠.cell)
  (names:∀y∈sc.names,y.2 = .local->sc.names.lookup y.1=some .local) (has:hasB cl (qLp sc X.env).names=true) (got:uB X.N X.env.scope.names (qLp sc X.env).names pick NB=true):HG X NB pick sc cl :=
 ⟨EG,kind,uA,names,sub,Cf has,mD got,fun j i x h1 h2=>p9 got j i x h1 h2⟩
def vK(pick:List (Option Nat))(σ:St):St:=pick.map fun o=>o.bind fun i=>(σ[i]?).join
section
variable {X:Cx}{NB:List Str}{pick:List (Option Nat)}{sc:qIn}{cl:List (Str×Addr)}{pins:List (Addr×Obj)}{σ:St}{H:Hp}{s:qAk}{fp:List Addr}
theorem EH(I:Inv X pins σ H s)(B:HG X NB pick sc cl)(hf:∀b∈fp,gW X pins H b)(hex:∀b∈fp,∃o,s.heap.get? b=some o):(p8 X NB sc cl s H fp).Ok:=by
 have nfs:∀b∈fp,b∉nL X.stack:=fun b hb z=>by
  rcases List.mem_cons.mp (I.lU b z) with e | e
  ·exact(hf b hb).2.1 e
  ·exact(hf b hb).2.2.1 e
 refine⟨I.ok.mod,B.kind,I.ok.glob,I.ok.blt,qAi _,fun x y c h1 h2=>?_,fun x hx=>B.has x hx,fun x c h _=>(qAl h).elim,I.ok.hd,I.ok.frames,.inl rfl,fun b hb=>⟨?_,fun x c h e=>?_⟩,I.bs,qAt I.ok.BM I.sz,fun b o e hb=>?_,nfs,I.stack,I.pP⟩
 ·exact I.ok.inj x y c (B.sub.of x c h1) (B.sub.of y c h2)
 ·obtain⟨o,ho⟩:=hex b hb;exact qBn (qAy ho)
 ·exact(hf b hb).2.2.2.2.1 x c (B.sub.of x c h) e
 ·rcases(hf b hb).2.2.2.1 with z | z
  ·exact I.ok.zH b o e z
  ·exact absurd (qAo (qAy (I.ok.bs b o e).1) z) (qEk _)
theorem xK(I:Inv X pins σ H s)(B:HG X NB pick sc cl)(hf:∀b∈fp,gW X pins H b)(hex:∀b∈fp,∃o,s.heap.get? b=some o)
  (hn:h'.Ns s.heap.objs.size (fun _=>none)) (hs:∀b o,s.heap.get? b=some o->h'.get? b=some o) (t:Nat):Inv (p8 X NB sc cl s H fp) [] (vK pick σ) H { s with heap:=h',toks:=t }:=by
 refine⟨EH I B hf hex,rfl,I.bare,Un.kept hs,⟨_,hn,fun j x v h1 h2 h3=>?_⟩,fun x c e=>?_,I.cQ.fresh (qAi _),fun x c e=>I.g8 x c (B.sub.of x c e),fun p hp=>absurd (show p∈([]:List (Addr×Obj)) from hp) (by simp),I.cQ.kept hs,?_⟩
 ·have h2':(pick.map fun o=>o.bind fun i=>(σ[i]?).join)[j]?=some (some v):=h2;rw[qAj] at h2';cases hp:pick[j]? with
  | none=>rw[hp] at h2';cases h2'
  | some o =>
   rw[hp] at h2';cases o with
   | none=>cases h2'
   | some i =>
    have h2'':(σ[i]?).join=some v:=Option.some.inj h2';obtain⟨g1,g2,g3⟩:=B.got j i x hp h1;have hσ:σ[i]?=some (some v):=by
     cases hq:σ[i]? with
     | none=>rw[hq] at h2'';cases h2''
     | some z=>rw[hq] at h2'';have e:z=some v:=h2'';rw[e]
    obtain⟨m,_,hl⟩:=I.loc;obtain⟨u,r,L⟩:=hl i x v g1 hσ (.inr g2);refine⟨u,r,?_⟩;rcases L with ⟨k,_⟩ | ⟨_,c,hc,⟨o,ho,hd⟩⟩
    ·rcases g2 with g2 | g2 <;> rw[k] at g2 <;> cases g2
    ·obtain⟨c',hc'⟩:=B.has x (.inl g3);have e:c'=c:=Option.some.inj ((B.sub.of x c' hc').symm.trans hc);subst e;exact .inr ⟨.inl g3,c',hc',o,hs _ _ ho,hd⟩
 ·obtain⟨v,o,ho,hd⟩:=I.cell x c (B.sub.of x c e);exact⟨v,o,hs _ _ ho,hd⟩
 ·show(vK pick σ).length=NB.length;unfold vK;rw[qAa];exact B.len
theorem Cg(I:Inv X pins σ H s)(hf:∀b∈fp,gW X pins H b)(J:Inv (p8 X NB sc cl s H fp) [] σ' H' s'):Inv X pins σ H' s':=by
 refine I.call' (ch:=fp) J.os J.base J.cQ J.bare fun b hb=>?_;obtain⟨_,f1,_,f3,f4,f5⟩:=hf b hb;exact⟨f3,f1,f4,f5⟩
end
def z6(wi:TI)(pick:List (Option Nat))(g:TG)(c:TT)(te:TE):St->Hp->(Addr->Hp->Prop)->Prop:=fun σ H Q =>
 wi σ H fun J H1=>∀D,H1 D=none->∃W:Nat->Nat->St->Hp->Prop,(∃m,W 0 m (vK pick σ) (upd H1 D (.lst [])))/\∀i m σ1 H2,W i m σ1 H2 ->
  (J.stop i H2/\Q D H2)\/(J.go i H2/\∃N:St->Hp->Prop,(∀σ' H',N σ' H'->∃m',m'<m/\W (i+1) m' σ' H') /\
   ∀x H',J.rF i H2 x H'->g x σ1 H' fun σ2 H3=>c σ2 H3 fun b H4=>if b=true then te σ2 H4 fun y H5=>∃xs,H5 D=some (.lst xs)/\xs.length<qAg/\N σ2 (upd H5 D (.lst (xs++[y]))) else N σ2 H4)
section
variable {prog:qBc}{w:qCd}{A:qCu}{R:qMw->qAk->Prop}{s:qAk}
theorem qA(W:Nat->qAk->Prop)
  (turn:∀n s,W n s->qBs (qBz prog w) A (qLy it) (fun r s₁=>match r with
   | none=>R (.ok .next) s₁
   | some v=>qBs (qBz prog w) A (qHc target it v) (fun _ s₀=>qBs (qBz prog w) A (qKe target env v) (fun _ s₂ =>
     qBs (qBz prog w) A (forIn ifs true fun c r=>if r=true then do let ok <- qMv c env (eval c env);pure (ForInStep.yield ok) else pure (ForInStep.yield r)) (fun ok s₃ =>
      if ok=true then qBs (qBz prog w) A (eval elt env) (fun x s₄ =>
       qBs (qBz prog w) A (call (.builtin "list.append") [acc,x]) (fun _ s₅=>∃m,m<n/\W m s₅) (fun _ _=>False) s₄) (fun _ _=>False) s₃
      else ∃m,m<n/\W m s₃) (fun _ _=>False) s₂) (fun _ _=>False) s₀) (fun _ _=>False) s₁) (fun _ _=>False) s)
  (n:Nat) (h:W n s) :
  qGh (qBz prog w) A (.compLoop (.ListComp elt [⟨target,iter,ifs,0⟩] scope pos) 0 it acc env) R s:=by
 refine codeAny_loop rfl W (fun n s hI=>?_) n h;show qBs _ A ((compTurn (.ListComp elt [⟨target,iter,ifs,0⟩] scope pos) 0 it acc env).onRaise (fun x=>do noteFrame x env;theTreesLotGoes x)) _ _ s;refine wpAny_noted (wpAny_noRaise ?_);rw[compTurn_list];refine qAe (qIa (qAe (bX (turn n s hI) fun r s₁ h₁=>?_)));cases r with
 | none=>exact qAv h₁
 | some v =>
  refine qAe (bX h₁ fun _ s₀ h₀=>qAe (bX h₀ fun _ s₂ h₂=>qAe (bX h₂ fun ok s₃ h₃=>?_)));cases ok with
  | false=>exact qAv ⟨rfl,h₃⟩
  | true=>exact qAe (qAe (bX h₃ fun x s₄ h₄=>qAe (bX h₄ fun _ s₅ h₅=>qAv (qAv ⟨rfl,h₅⟩))))
end
def xM(X:Cx)(ifs:List Expr)(c:TT):Prop :=
 ∀(pins:List (Addr×Obj)) (s:qAk) (σ:St) (H:Hp) (Q:Bool->Hp->Prop),Inv X pins σ H s->c σ H Q ->
  qBs (qBz X.prog X.w) X.A (forIn ifs true fun c r=>if r=true then do let ok <- qMv c X.env (eval c X.env);pure (ForInStep.yield ok) else pure (ForInStep.yield r)) (TP X pins σ Q) X.xe s
def Ls:TT:=fun _ H Q=>Q true H
theorem bS:xM X [] Ls:=fun pins s σ H Q I h=>qAv ⟨H,I,h⟩
theorem gN(hc:PT X e c):xM X [e] c:=fun pins s σ H Q I h=>wpAny_tests_one (hc pins s σ H Q I h)
section
variable {X:Cx}{NB:List Str}{pick:List (Option Nat)}{sc:qIn}{cl:List (Str×Addr)}{elt target iter:Expr}{ifs:List Expr}{pos:Pos}{wi:TI}{g:TG}{c:TT}{te:TE}
theorem sA(B:HG X NB pick sc cl)(hc:X.calm=true)(hi:PI X target iter wi)
  (hg:∀s₃ H₃ fp,PG (p8 X NB sc cl s₃ H₃ fp) target g) (ht:∀s₃ H₃ fp,xM (p8 X NB sc cl s₃ H₃ fp) ifs c) (he:∀s₃ H₃ fp,PE (p8 X NB sc cl s₃ H₃ fp) elt te)
  (hs:∀x,qGl iter X.env x=pure x) (I:Inv X pins σ H s) (h:z6 wi pick g c te σ H Q)
  (fin:∀(D C:Addr) (s':qAk) (H':Hp),Inv X pins σ H' s'->Q D H'->H' C=none->C≠X.env.locals->X.s₀.heap.objs.size<=C->(∀x a,X.env.cells.lookup x=some a->a≠C)->(∀p∈X.pn++pins,p.1≠C)->(∃m,s'.heap.Ns C m) ->
   compPost (qBz X.prog X.w) X.A X.xe use QV (.ref D) C (.ok .next) s') :
  qBs (qBz X.prog X.w) X.A (comprehension (.ListComp elt [⟨target,iter,ifs,0⟩] sc pos) sc X.env (firstIterPos [⟨target,iter,ifs,0⟩] pos) (newList []) false (eval iter X.env) use) QV X.xe s:=by
 refine wpAny_comprehension_free rfl hs B.EG B.kind B.names (bX (hi pins s σ H _ I h) fun v s1 h1=>bX h1 fun itv s2 h2=>?_);obtain⟨it,fp,tn,J,H2,e,I2,T,st2,f2,h2⟩:=h2;subst e;refine qFb ?_;have I3:Inv X pins σ (upd H2 s2.heap.objs.size (.lst [])) { s2 with heap:=s2.heap.push { cls:=.type "list",dict:=none,data:=.seq ([]:List qAf).toArray } } :=
  I2.laid (t':=s2.toks) (fun b u e=>qAh _ e) (qAi _) ⟨qBm _,[],0,.nil,qBa _ rfl⟩
 have hf:H2 s2.heap.objs.size=none:=I2.cQ.fresh (qAi _);have lt:∀b∈fp,b≠s2.heap.objs.size:=fun b hb=>by
  obtain⟨o,ho,_⟩:=T.obj _ _ st2 b hb;exact qBn (qAy ho)
 have f3:∀b∈fp,gW X pins (upd H2 s2.heap.objs.size (.lst [])) b:=fun b hb=>⟨by rw[aL (lt b hb)];exact(f2 b hb).1,(f2 b hb).2⟩;generalize hs3:({ s2 with heap:=s2.heap.push { cls:=.type "list",dict:=none,data:=.seq ([]:List qAf).toArray } }:qAk)=s3 at I3|-;have kp3:∀b o,s2.heap.get? b=some o->s3.heap.get? b=some o:=fun b o e=>by
  rw[<- hs3];exact qAh _ e
 have hex:∀b∈fp,∃o,s3.heap.get? b=some o:=fun b hb=>by
  obtain⟨o,ho,_⟩:=T.obj _ _ st2 b hb;exact⟨o,kp3 b o ho⟩
 have st3:tn 0 s3.heap:=T.keep _ _ _ st2 fun b _ o e=>kp3 b o e;obtain⟨W,⟨m0,w0⟩,turn⟩:=h2 _ hf;refine wpAny_newFunctionEnv B.uA (by intro y hy;simp at hy) (fun h₁ hns₁ hsb₁=>?_) B.kind;have kp4:∀b o,s3.heap.get? b=some o->h₁.get? b=some o:=fun b o e=>(hsb₁.2 b (qBn (qAy e))).trans (qAh _ e);have J4:=xK I3 B f3 hex hns₁ kp4 (s3.toks+([]:List (Str×qAf)).length);have st4:tn 0 h₁:=T.keep _ _ _ st3 fun b _ o e=>kp4 b o e;have stat:∀{H':Hp},(∀b∈fp,H' b=none)->∀b∈fp,gW (p8 X NB sc cl s3 (upd H2 s2.heap.objs.size (.lst [])) fp) [] H' b:=fun {H'} hn b hb=>by
  obtain⟨o,ho⟩:=hex b hb;refine⟨hn b hb,qBn (qAy ho),fun z=>?_,.inl hb,fun x a e=>(f2 b hb).2.2.2.2.1 x a (B.sub.of x a e),fun p hp=>absurd (show p∈([]:List (Addr×Obj)) from hp) (by simp)⟩;rcases List.mem_cons.mp (I2.lU b z) with e | e
  ·exact(f2 b hb).2.1 e
  ·exact(f2 b hb).2.2.1 e
 have loop:qGh (qBz X.prog X.w) X.A (.compLoop (.ListComp elt [⟨target,iter,ifs,0⟩] sc pos) 0 (.ref it) (.ref s2.heap.objs.size) (p8 X NB sc cl s3 (upd H2 s2.heap.objs.size (.lst [])) fp).env)
   (compPost (qBz X.prog X.w) X.A X.xe use QV (.ref s2.heap.objs.size) s3.heap.objs.size) { s3 with heap:=h₁,toks:=s3.toks+([]:List (Str×qAf)).length }:=by
  refine qA (fun n s'=>∃i σ' H',Inv (p8 X NB sc cl s3 (upd H2 s2.heap.objs.size (.lst [])) fp) [] σ' H' s'/\tn i s'.heap/\(∀b∈fp,H' b=none)/\W i n σ' H') ?_ m0 ⟨0,_,_,J4,st4,fun b hb=>(f3 b hb).1,w0⟩;rintro n s5 ⟨i,σ5,H5,I5,st5,fr5,w5⟩;rcases turn i n σ5 H5 w5 with ⟨stop,qn⟩ | ⟨go,N,hN,step⟩
  ·refine bX (T.done (p8 X NB sc cl s3 (upd H2 s2.heap.objs.size (.lst [])) fp) rfl rfl rfl hc i [] s5 σ5 H5 _ I5 (stat fr5) st5 stop) fun r s6 ⟨hr,I6⟩=>?_;subst hr;refine fin s2.heap.objs.size s3.heap.objs.size s6 H5 (Cg I3 f3 I6) qn I6.free (qBn I3.lt).symm I3.sz (fun x a e=>?_) (fun p hp=>?_) ?_
   ·obtain⟨v,o,ho,_⟩:=I3.cell x a e;exact qBn (qAy ho)
   ·exact qBn (qAy (I3.pin p hp).1)
   ·obtain⟨m,hn,_⟩:=I6.loc;exact⟨m,hn⟩
  ·refine bX (T.item (p8 X NB sc cl s3 (upd H2 s2.heap.objs.size (.lst [])) fp) rfl rfl rfl hc i [] s5 σ5 H5 _ I5 (stat fr5) st5 go) fun r s6 ⟨u,hr,h6⟩=>?_;subst hr;refine bX h6 fun _ s7 ⟨x,H7,I7,r7,y7,st7,fr7⟩=>?_;have I7':=I7.pinned (stat fr7) (T.obj _ _ st7);have again:∀{s9:qAk}{σ9:St}{H9:Hp},Inv (p8 X NB sc cl s3 (upd H2 s2.heap.objs.size (.lst [])) fp) ([]++lX fp s7.heap) σ9 H9 s9->N σ9 H9 ->
     ∃m,m<n/\∃i σ' H',Inv (p8 X NB sc cl s3 (upd H2 s2.heap.objs.size (.lst [])) fp) [] σ' H' s9/\tn i s9.heap/\(∀b∈fp,H' b=none)/\W i m σ' H':=fun {s9 σ9 H9} I9 n9=>by
    obtain⟨m',hm,w9⟩:=hN σ9 H9 n9;refine⟨m',hm,i+1,σ9,H9,I9.e9,T.keep _ _ _ st7 fun b hb o e=>(I9.pin (b,o) (qAp _ (qAp _ (gJ hb e)))).1,fun b hb=>?_,w9⟩;obtain⟨o,e,d⟩:=T.obj _ _ st7 b hb;exact(I9.pin (b,o) (qAp _ (qAp _ (gJ hb e)))).2.1
   refine bX (hg _ _ _ _ s7 σ5 H7 x u _ I7' r7 (step x H7 y7)) fun _ s8 ⟨σ8,H8,I8,q8⟩=>?_;refine bX (ht _ _ _ _ s8 σ8 H8 _ I8 q8) fun b s9 ⟨H9,I9,q9⟩=>?_;cases b with
   | false =>
    rw[if_neg qAl];exact again I9 (by rw[if_neg qAl] at q9;exact q9)
   | true =>
    rw[if_pos rfl] at q9|-;refine bX (he _ _ _ _ s9 σ8 H9 _ I9 q9) fun y s10 ⟨vy,H10,I10,r10,xs,hD,hl,q10⟩=>?_;refine bX (oM _ s10 σ8 H10 (.ref s2.heap.objs.size) [vy] (.ref s2.heap.objs.size) [y] (fun _ H'=>N σ8 H') I10 rfl (.cons r10 .nil) ⟨_,xs,vy,rfl,rfl,hD,hl,q10⟩) fun _ s11 ⟨_,H11,I11,_,q11⟩=>?_;exact again I11 q11
 refine codeAny_compStart_list loop (T.self _ 0 _ _ _ st4 loop)
theorem bM(B:HG X NB pick sc cl)(hc:X.calm=true)(hi:PI X target iter wi)
  (hg:∀s₃ H₃ fp,PG (p8 X NB sc cl s₃ H₃ fp) target g) (ht:∀s₃ H₃ fp,xM (p8 X NB sc cl s₃ H₃ fp) ifs c) (he:∀s₃ H₃ fp,PE (p8 X NB sc cl s₃ H₃ fp) elt te)
  (hs:∀x,qGl iter X.env x=pure x:=by intro _;rfl):PE X (.ListComp elt [⟨target,iter,ifs,0⟩] sc pos) (fun σ H Q=>z6 wi pick g c te σ H fun D H'=>Q (.ref D) H'):=by
 intro pins s σ H Q I h;rw[eval_ListComp];refine sA (use:=none) (QV:=EP X pins σ Q) B hc hi hg ht he hs I h fun D C s' H' I' q c0 c1 c2 c3 c4 hn=>?_;obtain⟨m,hm⟩:=hn;exact⟨m,hm,fun hh hsb=>⟨.ref D,H',I'.turned (t':=s'.toks) (fun b o hb e=>(hsb.2 b hb).trans e) c0 c1 (.inr c2) c3 c4,rfl,q⟩⟩
theorem lM(hN:X.N.Nodup)(hx1:X.N[i]?=some x)(hx2:Loc X.env.scope x)
  (hsw:qJm (.ListComp elt [⟨target,iter,ifs,0⟩] sc pos) (some (.Name x pos')) spos.line X.env=pure true) (B:HG X NB pick sc cl) (hc:X.calm=true) (hi:PI X target iter wi)
  (hg:∀s₃ H₃ fp,PG (p8 X NB sc cl s₃ H₃ fp) target g) (ht:∀s₃ H₃ fp,xM (p8 X NB sc cl s₃ H₃ fp) ifs c) (he:∀s₃ H₃ fp,PE (p8 X NB sc cl s₃ H₃ fp) elt te)
  (hs:∀x,qGl iter X.env x=pure x:=by intro _;rfl) (hfn:X.fn x=true\/X.env.scope.names.lookup x=some .local:=by first|exact .inl rfl | exact .inr rfl | assumption) :
  PS X (.Assign [.Name x pos'] (.ListComp elt [⟨target,iter,ifs,0⟩] sc pos) spos) (fun D σ H=>z6 wi pick g c te σ H fun l H'=>D.nx (σ.set i (some (.ref l))) H'):=by
 intro pins s σ H D I h;rw[exec_Assign_Name_used _ _ _ _ hsw];refine qAe (qIa (qAe ?_));show qBs _ _ (do let _ <- comprehension (.ListComp elt [⟨target,iter,ifs,0⟩] sc pos) sc X.env _ (newList []) false (eval iter X.env) (some (qKe (.Name x pos') X.env))) _ _ s;refine qAe (bX (sA (use:=some (qKe (.Name x pos') X.env)) (QV:=fun _ s'=>SP X pins D .next s') B hc hi hg ht he hs I h fun l C s' H' I' q c0 c1 c2 c3 c4 hn=>?_) fun _ s' hq=>qAv (qAv hq));obtain⟨m,hm⟩:=hn;show qBs _ _ (qKe (.Name x pos') X.env (.ref l)) _ _ _;refine wpAny_assign_Name (oB (v:=.ref l) I' hN hx1 hx2 rfl (fun s'' I'' ⟨a,hsb,ha⟩=>?_) hfn);have ne:C≠a:=by
  rcases ha with e | e
  ·rw[e];exact c1
  ·exact(c3 x a e).symm
 refine⟨m,hm.sameBut hsb ne,fun hh hsb2=>?_⟩;exact⟨_,H',I''.turned (t':=s''.toks) (fun b o hb e=>(hsb2.2 b hb).trans e) c0 c1 (.inr c2) c3 c4,q⟩
end
structure HH (P:qBc) (w:qCd) (outer:List Env) (H:Hp) (s:qAk) (e C:Addr) (H':Hp) (s':qAk):Prop where
 os:s'.os=s.os
 bare:qHe s'.gens
 ex:∃(a0:qAf) (B:Heap),Heap.FlyingW B outer e (.ref C) a0 s'.heap/\jD P w H' B/\(∀b o,s.heap.get? b=some o->b∉nL outer->∃o',B.get? b=some o') /\
  ∀b o,s.heap.get? b=some o->H b=none->b∉nL outer->B.get? b=some o
 slot:∀b o,s.heap.get? b=some o->H b=none->b∈nL outer->∃sl,s'.heap.get? b=some { o with slots:=sl }
 free:∀b o,s.heap.get? b=some o->H b=none->H' b=none
 g7:∀b xs,H b=some (.tup xs)->H' b=some (.tup xs)
 jJ:∀b o u,H b=some (.frz o u)->H' b=some (.frz o u)
 j8:∀b ps,H b=some (.tbl ps)->∃more,H' b=some (.tbl (ps++more))
def gZ(P:qBc)(w:qCd):vG:=fun outer H s E ev s'=>∃(e C:Addr) (H':Hp),ev = .ref e/\HH P w outer H s e C H' s'/\E (.ref C) none H'
section
variable {X:Cx}{pins:List (Addr×Obj)}{σ:St}{H H':Hp}{s s':qAk}{e C:Addr}
end
structure Own (X:Cx):Prop where
 st:X.stack=X.env::X.outer
 fr:X.env.frame=some X.env.locals
 ex:X.ex=[]
section
variable {X:Cx}{pins:List (Addr×Obj)}{σ:St}{H H':Hp}{s s':qAk}{e C:Addr}{Q:Unit->qAk->Prop}{E:qAf->qAk->Prop}{M:Model}
theorem Own.sub(O:Own X){b:Addr}(h:b∈X.fs):b∈nL X.stack:=by
 rw[O.st];unfold nL;rw[qCj,O.fr];exact qBf _ h
theorem Own.not(O:Own X)(I:Inv X pins σ H s){b:Addr}{o:Obj}(q:X.s₀.heap.get? b=some o)(h:b∉X.fs):b∉nL X.stack:=fun z=>by
 rcases List.mem_cons.mp (I.lU b z) with r | r
 ·exact absurd (qAo (qAy q) I.ok.above) (by rw[r];exact qEk _)
 ·exact h r
theorem Own.z7(O:Own X)(b:Addr):b∉X.ex:=by
 rw[O.ex];simp
theorem sC(O:Own X)(I:Inv X pins σ H s)(hx:qLo s.heap h' e (.ref C) vs)
  (k:∀h'',HH X.prog X.w X.outer X.H₀ X.s₀ e C H { s with heap:=h'' }->Q () { s with heap:=h'' }):qBs M X.A (leaving X.env (.ref e)) Q E { s with heap:=h' }:=by
 have hst:=I.stack;have hfr:=I.ok.frames;rw[O.st] at hst hfr;have hin:∀env∈(X.env::X.outer),∀b,env.frame=some b->b∈nL X.stack:=fun env he b hb=>by
  rw[O.st];exact List.mem_filterMap.mpr ⟨env,he,hb⟩
 have get:∀{b:Addr}{o:Obj},s.heap.get? b=some o->b∉nL X.stack->(qHl s.heap (nL X.stack)).get? b=some o:=fun q hb=>qJe _ q hb;refine wpAny_leaves_madeW (base:=qHl s.heap (nL X.stack)) (h:=s.heap) (s:={ s with heap:=h' }) hfr O.fr (fun b o q=>qJo _ q) (PySem.W.funFrames_hide hst hin) hx fun h'' t x1 _ _ x4=>k h'' ⟨I.os,I.bare,⟨_,_,x1,fun a o q=>?_,fun b o q hb=>?_,fun b o q n hb=>?_⟩,fun b o q n hb=>?_,fun b o q n=>I.base.free b o q n (O.z7 b),I.base.g7,I.base.jJ,I.base.j8⟩
 ·refine(I.cQ a o q).lA (fun b u hb z=>get z fun hm=>?_) (fun _ z=>z) fun _ _ z=>z;have hn:=I.pP b hm;rcases hb with rfl | hb
  ·rw[hn] at q;cases q
  ·rw[hn] at hb;cases hb
 ·obtain⟨o',z⟩:=I.base.there b o q (O.z7 b);exact⟨o',get z (O.not I q hb)⟩
 ·exact get (I.base.keep b o q n hb (O.z7 b)) (O.not I q hb)
 ·obtain⟨sl,z⟩:=I.base.slot b o q n hb (O.z7 b);obtain⟨_,o',ho',hnf⟩:=I.ok.jE.mem hb;rw[q] at ho';cases ho';obtain⟨sl',z'⟩:=x4 b _ (hx.keeps b _ z) hnf;exact⟨sl',z'⟩
theorem xN(O:Own X)(I:Inv X pins σ H s)(F:HH X.prog X.w X.stack H s e C H' s')
  (k:∀h'',HH X.prog X.w X.outer X.H₀ X.s₀ e C H' { s' with heap:=h'' }->Q () { s' with heap:=h'' }):qBs M X.A (leaving X.env (.ref e)) Q E s':=by
 obtain⟨a0,B,fl,cQ,th,kp⟩:=F.ex;have hfr:=I.ok.frames;rw[O.st] at fl hfr;refine wpAny_leaves_onW hfr O.fr fl fun h'' x1 x2=>k h'' ⟨F.os.trans I.os,F.bare,⟨a0,B,x1,cQ,fun b o q hb=>?_,fun b o q n hb=>?_⟩,fun b o q n hb=>?_,fun b o q n=>?_,fun b xs q=>F.g7 b xs (I.base.g7 b xs q),fun b o u q=>F.jJ b o u (I.base.jJ b o u q),fun b ps q=>?_⟩
 ·obtain⟨o',z⟩:=I.base.there b o q (O.z7 b);exact th b o' z (O.not I q hb)
 ·exact kp b o (I.base.keep b o q n hb (O.z7 b)) (I.base.free b o q n (O.z7 b)) (O.not I q hb)
 ·obtain⟨sl,z⟩:=I.base.slot b o q n hb (O.z7 b);obtain⟨sl',z'⟩:=F.slot b _ z (I.base.free b o q n (O.z7 b)) (O.sub hb);obtain⟨_,o',ho',hnf⟩:=I.ok.jE.mem hb;rw[q] at ho';cases ho';obtain⟨sl2,z2⟩:=x2 b _ z' hnf;exact⟨sl2,z2⟩
 ·obtain⟨o',z⟩:=I.base.there b o q (O.z7 b);exact F.free b o' z (I.base.free b o q n (O.z7 b))
 ·obtain⟨m1,e1⟩:=I.base.j8 b ps q;obtain⟨m2,e2⟩:=F.j8 b _ e1;exact⟨m1++m2,by rw[e2,qKd]⟩
end
abbrev XS:=qAf->St->Hp->Prop
structure Pass (X:Cx) (Ex:XS):Prop where
 on:∀(pins:List (Addr×Obj)) (σ:St) (H:Hp) (s:qAk) (e C:Addr) (H':Hp) (s':qAk),Inv X pins σ H s->HH X.prog X.w X.stack H s e C H' s'->Ex (.ref C) σ H'->X.xe (.ref e) s'
structure IZ (X:Cx) (Ex:XS):Prop extends Pass X Ex where
 nw:∀(pins:List (Addr×Obj)) (σ:St) (H:Hp) (s:qAk) (e C:Addr) (h':Heap) (vs:List qAf),Inv X pins σ H s->qLo s.heap h' e (.ref C) vs->Ex (.ref C) σ H->X.xe (.ref e) { s with heap:=h' }
 own:PassesOwn (qBz X.prog X.w) X.A X.env X.xe
theorem bA{P:qBc}{w:qCd}{K:qAb}{mg:Str->Option qAf}{base:Heap}{N:List Str}{qual:Str}{scope:qIn}{f:Addr}{cd:qAf}{A:qCu}{outer:List Env}{s:qAk}{H:Hp}{E:XK}:
  IZ (lB (gZ P w) P w K mg base N qual scope f cd A outer s H E) (fun c _ H'=>E c none H') where
 on:=fun pins σ H1 s1 e C H' s' I F q=>xN ⟨rfl,rfl,rfl⟩ I F fun h'' F'=>⟨e,C,H',rfl,F',q⟩
 nw:=fun pins σ H1 s1 e C h' vs I hx q=>sC ⟨rfl,rfl,rfl⟩ I hx fun h'' F'=>⟨e,C,H1,rfl,F',q⟩
 own:=PassesOwn.leaving
section
variable {P:qBc}{w:qCd}{K:qAb}{mg:Str->Option qAf}{base:Heap}
theorem EF.Ci{x qual:Str}{st:Stmt}{f:Addr}{fd:qBd}{N ps:List Str}{k:Nat}{sp:Sp}(F:EF K x qual st f fd)(S:aK N ps (aE st))(len:∀vs H Q E,sp vs H Q E->vs.length=ps.length)
  (hbody:∀(cdv:qAf) (A:qCu) (outer:List Env) (s:qAk) (H:Hp) (vs:List V) (Q:VK) (E:XK),cV k (A.deeper (qGx qual (aE st) s.heap.objs.size f cdv))->sp vs H Q E ->
   ∃t,oC (lB (gZ P w) P w K mg base N qual (aE st) f cdv A outer s H E) (bC st) t/\t { nx:=fun _ H'=>Q .non H',rt:=Q } (start N vs) H):fR P w K mg base (gZ P w) (k+1) f fd ps sp:=by
 obtain⟨oc,od,kV,doc,pm,an,cdv,ct,osl,rfl,lk,hcd⟩:=F.ex;exact Dt lk hcd S len fun A outer s H vs Q E hr hsp=>hbody cdv A outer s H vs Q E hr hsp
end
def uC(sp:Sp)(dvs:List V)(Ex:XS)(t:TA):TE:=fun σ H Q=>t σ H fun vs H1=>sp (vs++dvs) H1 Q fun c _ H'=>Ex c σ H'
section
variable {X:Cx}{Ex:XS}{k:Nat}{f C:Addr}{fd:qBd}{ps:List Str}{sp:Sp}{dvs:List V}{ds:List qAf}{x m:Str}{p pos apos:Pos}{e o:Expr}{es:List Expr}{ta:TE}{t:TA}
theorem lN(R:Pass X Ex)(F:fR X.prog X.w X.K X.mg X.base (gZ X.prog X.w) k f fd ps sp)(hr:cV k X.A)(hb:Binds X.K fd ps ds)(hd:Vals dvs ds)
  (I:Inv X pins σ H s) (r:Vals vs us) (h:sp (vs++dvs) H Q fun c _ H'=>Ex c σ H'):qBs (qBz X.prog X.w) X.A (call (.ref f) us) (EP X pins σ Q) X.xe s:=by
 have r2:Vals (vs++dvs) (us++ds):=r.append hd;have hl:(us++ds).length=ps.length:=by rw[<- r2.length];exact F.len _ _ _ _ h
 refine qFd (qEw (F.run X.A X.stack s H ⟨us,[]⟩ (us++ds) (vs++dvs) Q _ hr I.BV (hb s us I.nM hl) r2 h) fun r s' hq=>?_);cases r with
 | error ev =>
  obtain⟨e,C,H',rfl,Fl,q⟩:=hq;exact R.on pins σ H s e C H' s' I Fl q
 | ok fl =>
  cases fl with
  | ret u=>exact I.after hq
  | next=>exact False.elim hq
  | brk=>exact False.elim hq
  | cont=>exact False.elim hq
theorem z8(R:Pass X Ex)(F:fR X.prog X.w X.K X.mg X.base (gZ X.prog X.w) k f fd ps sp)(hr:cV k X.A)(hg:Gl X x)(hm:X.mg x=some (.ref f))(hk:qAm X.K (.ref f)=true)(hb:Binds X.K fd ps ds)(hd:Vals dvs ds)
  (ha:PA X (e::es) t) (hdb:(x == ("__debug__":Str))=false:=by decide) (he:qBk (e::es) X.env=(false,eval e X.env)::qBk es X.env:=by rfl) (hpl:(qEj pos (qBk es X.env)).any (·.1)=false:=by rfl) :
  PE X (.Call (.Name x p) (e::es) [] pos) (uC sp dvs Ex t):=by
 intro pins s σ H Q I h;refine qEd (jK I hg hm ?_ hdb);refine qEn (h₀:=X.base) I.ok.mod.Dp hk (bX (ha pos pins s σ H _ I h) fun us s1 ⟨vs,H1,I1,r,q⟩=>⟨I1.nM,?_⟩) he hpl;exact lN R F hr hb hd I1 r q
end
abbrev EI:List qAf:=[.type "ValueError",.type "Exception",.type "BaseException",.type "object"]
structure mE (K:qAb) (C:Addr):Prop where
 cls:(qIh K C).isSome=true
 ty:qGm K (.ref C)=some (.type "type")
 ga:qAd K (.ref C) "__getattribute__"=some (some (.builtin "BaseException.__getattribute__"))
 gx:qAd K (.ref C) "__getattr__"=some none
 ca:qAd K (.ref C) "__class__"=some (some (.builtin "object.__class__"))
 cg:qDt K (.builtin "object.__class__") "__get__"=some (some (.builtin "getset_descriptor.__get__"))
 ct:qEm K (.builtin "object.__class__")=some true
 mo:qCe K C (.type "object")=some true
 mb:qCe K C (.type "BaseException")=some true
theorem Cj{K:qAb}{h:Heap}{C:Addr}{bmB:List qAf}{newId:String}(X:K.In h)(q:qEe K C bmB newId=true):
  ∃bm N nm q bs hdct sn sub ab col dd k0 k1 k2 k3 k5 mN,h.get? C=some (excClassObj nm q C N bs bm hdct sn sub ab col dd k0 k1 k2 k3 k5 newId)/\h.Ns N mN/\mN "__init__"=none/\OwnTail h bmB bm:=by
 unfold qEe at q;split at q
 ·rename_i dd cd sl ho;split at q
  ·rename_i C' bm k0 k1 k2 k3 n k5 hm hs;rw[qAr,qAr,qAr,qAr,qAr] at q;obtain⟨⟨⟨⟨⟨q1,q2⟩,q3⟩,ht⟩,cQ⟩,hni⟩:=q;obtain rfl:=beq_iff_eq.mp q1;obtain rfl:=beq_iff_eq.mp q2;have hdel:cd.hasDel=false:=by
    cases z:cd.hasDel with
    | false=>rfl
    | true=>rw[z] at q3;cases q3
   have hni':=beq_iff_eq.mp hni;obtain⟨nm,bs,mro,ns,qn,hd,sn,sub,ab,col,del⟩:=cd;dsimp only at hm hdel cQ hni';subst hm hdel;obtain⟨l⟩:=sl;dsimp only at hs;subst hs;exact⟨bm,ns,nm,qn,bs,hd,sn,sub,ab,col,dd,k0,k1,k2,k3,k5,_,X _ _ ho,.of_isNs (PySem.W.isNs_of_in X cQ),PySem.W.nsMap_none_of_in X cQ hni',PySem.W.tail_of_in X ht⟩
  ·cases q
 ·cases q
def EJ(C:Addr)(Ex:XS)(t:TA):TS:=fun _ σ H=>t σ H fun vs H1=>vs.length<=qAg/\Ex (.ref C) σ H1
section
variable {X:Cx}{Ex:XS}{x:Str}{C:Addr}{e₀:Expr}{rest:List Expr}{np cpos pos:Pos}{t:TA}
theorem dH(R:IZ X Ex)(hc:X.calm=true)(hg:Gl X x)(hm:X.mg x=some (.ref C))(q:qEe X.K C EI "ValueError.__new__"=true)(ha:PA X (e₀::rest) t)
  (he:qBk (e₀::rest) X.env=(false,eval e₀ X.env)::qBk rest X.env:=by rfl) (hplain:(qEj cpos (qBk rest X.env)).any (·.1)=false:=by rfl) (hd:(x == ("__debug__":Str))=false:=by decide) :
  PS X (.Raise (some (.Call (.Name x np) (e₀::rest) [] cpos)) none pos) (EJ C Ex t):=by
 intro pins s σ H D I h;obtain⟨tl,N,nm,qn,bs,hdct,sn,sub,ab,col,dd,k0,k1,k2,k3,k5,mN,hC,hN,hni,T⟩:=Cj I.mod.Dp q;have FB:=PySem.F.excBase_ValueError;refine wpAny_Raise_call_subT (C:=C) (nm:=nm) (q:=qn) (N:=N) (bs:=bs) (bm:=tl) (hdct:=hdct) (sn:=sn) (sub:=sub) (ab:=ab) (col:=col) (dd:=dd) (k0:=k0) (k1:=k1) (k2:=k2) (k3:=k3) (k5:=k5)
  FB (mN:=mN) (T.hasType FB.hasBase) (I.ok.hd hc) (by rw[he];show(false||(qEj cpos (qBk rest X.env)).any (·.1))=false;rw[hplain];rfl) hni (jK I hg hm ⟨rfl,?_⟩ hd)
 have hs:=ha cpos pins s σ H _ I h;rw[he] at hs|-;refine qJr (bX hs fun us s2 ⟨vs,H2,I2,r,z,q2⟩=>?_);have kb:∀b o,X.base.get? b=some o->s2.heap.get? b=some o:=I2.bk;exact⟨rfl,by show us.length<=qAg;rw[<- r.length];exact z,kb _ _ hC,hN.keeps kb,T.keeps kb,fun h' e hx=>R.nw pins σ H2 s2 e C h' us I2 hx q2⟩
end
def Lu(e C:Addr):HO:=.ext fun h=>∃oe,h.get? e=some oe/\oe.cls = .ref C
section
variable {X:Cx}{pins:List (Addr×Obj)}{σ:St}{H H':Hp}{s s':qAk}{e C:Addr}
theorem Inv.Dv(I:Inv X pins σ H s)(hn:H e=none)(h0:X.s₀.heap.get? e=none)(hL:e≠X.env.locals)(hc:∀x c,X.env.cells.lookup x=some c->c≠e)(hp:∀p∈X.pn++pins,p.1≠e)(hfs:e∉X.fs)
  (new:cZ X.prog X.w (upd H e o) s.heap e o):Inv X pins σ (upd H e o) s:=by
 have ne:∀b u,H b=some u->b≠e:=fun b u q=>aT q hn;refine⟨I.ok,I.os,I.bare,⟨I.base.keep,I.base.slot,fun b ob q n hx=>?_,I.base.there,fun b xs q=>?_,fun b ob u q=>?_,fun b ps q=>?_⟩,I.loc,I.cell,?_,fun x c q=>?_,fun p q=>?_,fun b u q=>?_,I.len⟩
 ·rw[aL (fun z=>by rw[z,h0] at q;cases q)];exact I.base.free b ob q n hx
 ·have z:=I.base.g7 b xs q;rw[aL (ne _ _ z)];exact z
 ·have z:=I.base.jJ b ob u q;rw[aL (ne _ _ z)];exact z
 ·obtain⟨m,z⟩:=I.base.j8 b ps q;exact⟨m,by rw[aL (ne _ _ z)];exact z⟩
 ·rw[aL hL.symm];exact I.free
 ·rw[aL (hc x c q)];exact I.g8 x c q
 ·obtain⟨z1,z2,z3⟩:=I.pin p q;exact⟨z1,by rw[aL (hp p q)];exact z2,z3⟩
 ·by_cases hb:b=e
  ·subst hb;rw[aC] at q;cases q;exact new
  ·rw[aL hb] at q;exact(I.cQ b u q).lA (fun c v _ z=>z) (fun c z=>by rw[aL (ne _ _ z)];exact z) fun c xs z=>by rw[aL (ne _ _ z)];exact z
end
def Ck(X:Cx)(pins:List (Addr×Obj))(Ex:XS):Cx :=
 { X with pn:=X.pn++pins,xe:=fun ev s'=>∃e C σ H s H',ev=Value.ref e/\Inv X pins σ H s/\HH X.prog X.w X.stack H s e C H' s'/\Ex (.ref C) σ H' }
section
variable {X:Cx}{pins:List (Addr×Obj)}{σ:St}{H H':Hp}{s s':qAk}{e C:Addr}{Ex:XS}
theorem Inv.Ja(I:Inv X pins σ H s)(Ex:XS):Inv (Ck X pins Ex) [] σ H s:=by
 obtain⟨⟨o1,o2,o3,o4,o5,o6,o7,o8,o9,o10,o11,o12,o13,o14,o15,o16,o17,o18⟩,i2,i3,i4,i5,i6,i7,i8,i9,i10,i11⟩:=I;exact⟨⟨o1,o2,o3,o4,o5,o6,o7,o8,o9,o10,o11,o12,o13,o14,o15,o16,o17,o18⟩,i2,i3,i4,i5,i6,i7,i8,fun p hp=>i9 p (by simpa [Ck] using hp),i10,i11⟩
theorem Inv.qB(I:Inv (Ck X pins Ex) pins2 σ H s):Inv X pins σ H s:=by
 obtain⟨⟨o1,o2,o3,o4,o5,o6,o7,o8,o9,o10,o11,o12,o13,o14,o15,o16,o17,o18⟩,i2,i3,i4,i5,i6,i7,i8,i9,i10,i11⟩:=I;exact⟨⟨o1,o2,o3,o4,o5,o6,o7,o8,o9,o10,o11,o12,o13,o14,o15,o16,o17,o18⟩,i2,i3,i4,i5,i6,i7,i8,fun p hp=>i9 p (qDs _ hp),i10,i11⟩
end
section
open Builtin Builtin.ObjectAttr Builtin.Getset_descriptor
theorem z9{K:qAb}{M:Model}{h:Heap}{e C:Addr}{name:Str}{a g:qAf}(X:K.In h)(h1:qAd K (.ref C) name=some (some a))(h2:qDt K a "__get__"=some (some g))(h3:qEm K a=some true):
  qEo M h (find (.ref e) (.ref C) name) (.bind g a):=by
 have L1:=qEz (M:=M) X h1;have L2:qEo M h (getOf (some a)) (some g):=PySem.W.looks_specialIn X h2;have L3:=PySem.W.looks_takesIn (M:=M) X h3;exact L1.andThen (L2.andThen ((show qEo M h (dataDescriptor? (some a) (some g)) (some (g,a)) from L3.andThen .now).andThen (PySem.W.Looks.tag .now)))
theorem nR{prog:qBc}{w:qCd}{A:qCu}{s:qAk}{K:qAb}{x C:Addr}{R:qMw->qAk->Prop}{tp:qAf}(X:K.In s.heap)(I:∀M,qEo M s.heap (qMu (.ref x)) (.ref C))
  (hm:qCe K C (.type "object")=some true) (h:R (.ok (.ret (.ref C))) s):qGh (qBz prog w) A (.call (.builtin "getset_descriptor.__get__") ⟨[.builtin "object.__class__",.ref x,tp],[]⟩) R s:=by
 obtain⟨hh,g,dr,t,os⟩:=s;have L0:=I (qBz prog w);have L1:=qJd (M:=qBz prog w) X hm;refine qFn PySem.W.KF.slot_gs.plain PySem.W.KF.entry_gs (PySem.W.KF.slot_gs.check _ _ _ _ _ _ _ _ PySem.W.KF.type_class (PySem.W.KF.args_gs _ _ _) ?_);unfold Builtin.«getset_descriptor.__get__» descrGet;rw[PySem.W.dga_obj];refine qAe (qAv ?_);unfold descrGetter descrCheckInstance descrNameAndClass isInstance;simp only[PySem.W.KF.owner_class];repeat lk
 refine⟨Code.quiet_builtin _ (by decide +kernel),qFw PySem.W.KF.entry_class ?_⟩;unfold Builtin.«object.__class__» shownTypeOf;repeat lk
 exact h
end
theorem qC{M:Model}{A:qCu}{E:qAf->qAk->Prop}{s:qAk}{K:qAb}{x C:Addr}{nameV:qAf}{Q:Unit->qAk->Prop}(X:K.In s.heap)(I:qEo M s.heap (qMu (.ref x)) (.ref C))
  (hm:qCe K C (.type "BaseException")=some true) (hq:Q () s):qBs M A (checkBuiltinCall "BaseException.__getattribute__" ⟨[.ref x,nameV],[]⟩) Q E s:=by
 have hk:builtinKind "BaseException.__getattribute__"=some .slot:=by decide +kernel
 have hsplit:splitId "BaseException.__getattribute__"=some ("BaseException","__getattribute__"):=by decide +kernel
 have L1:=qJd (M:=M) X hm;have L2:qEo M s.heap (isInstance (.ref x) (.type "BaseException")) true:=I.andThen L1;have ha:=F.args_bexc_ga (.ref x) nameV;obtain⟨hh,g,dr,t,os⟩:=s;simp only[checkBuiltinCall,hk,hsplit];refine qAe (L2.at ?_);repeat (first | assumption | wp_step)
section
open Builtin Builtin.ObjectAttr Builtin.Getset_descriptor
theorem EK{prog:qBc}{w:qCd}{A:qCu}{E:qAf->qAk->Prop}{s:qAk}{K:qAb}{x C:Addr}{Q:Option qAf->qAk->Prop}(X:K.In s.heap)(c:mE K C)(I:∀M,qEo M s.heap (qMu (.ref x)) (.ref C))
  (h:Q (some (.ref C)) { s with toks:=s.toks+1 }):qBs (qBz prog w) A (getAttr? (.ref x) "__class__") Q E s:=by
 obtain⟨hh,g,d,t,os⟩:=s;have L0:=I (qBz prog w);have L1:=qEz (M:=qBz prog w) X c.ga;have L2:=qEz (M:=qBz prog w) X c.gx;have L3:=z9 (M:=qBz prog w) (e:=x) X c.ca c.cg c.ct;have hx2:(Value.builtin "BaseException.__getattribute__" == Value.builtin "object.__getattribute__")=false:=by decide +kernel
 have f3:=F.excAttr_ValueError.ga.bind (.ref x);unfold getAttr? getAttrBy? getAttrBy;refine qAe (wpAny_mkText (qAe (wpAny_attempt (qCs (qAe (L0.at (qAe (L1.at ?_))))))));dsimp only;rw[if_neg (by rw[hx2,qEy];exact qAl)];unfold getAttrByItsOwn hookBefore;rw[if_pos (show onTheHeap (Value.ref C)=true from rfl)];refine qAe (L2.at ?_);refine qAe (wpAny_attempt (qCs ?_));unfold callGetattribute;rw[if_neg (by decide)];unfold boundAndCalled;refine qAe (qEu f3 ?_);refine qFd (qFn F.excAttr_ValueError.ga.plain F.entry_bexc_ga (qC X L0 c.mb ?_));show qBs _ _ (Builtin.«object.__getattribute__» ⟨[.ref x,.str "__class__" t],[]⟩) _ _ _;unfold Builtin.«object.__getattribute__»;refine qAe (qEu (a:=(Value.ref x,[Value.str "__class__" t])) rfl ?_);refine qAe (qEu (a:=("__class__":Str)) rfl ?_);refine qAe (L0.at (qAe (L3.at ?_)));show qBs _ _ (qFv [Value.builtin "object.__class__"] (call (.builtin "getset_descriptor.__get__") [.builtin "object.__class__",.ref x,.ref C]) >>= ret) _ _ _;refine qAe (qCs (qFd (nR (s:=⟨hh,g,d,t+1,os⟩) X I c.mo ?_)));show qBs _ _ (ret (Value.ref C)) _ _ _;refine qAv ?_;show qBs _ _ (handedOut (Value.ref C)) _ _ _;exact PySem.W.handed_on rfl (qAv h)
end
inductive HI (K:qAb) (H:Hp):V->qAf->Prop where
 | of {v:V}{t:qAf} (h:iX K H v t):HI K H v t
 | exc {e C:Addr} (h:H e=some (Lu e C)) (c:mE K C):HI K H (.ref e) (.ref C)
theorem Aa{K:qAb}{e C:Addr}(c:mE K C):qLc K (.ref e) (.ref C) (fun h=>∃oe,h.get? e=some oe/\oe.cls = .ref C) where
 ty:=fun M h _ ⟨oe,h1,h2⟩=>h2▸(PySem.W.Looks.ld h1).andThen .now
 it:=fun _ _ X _=>by
  have z:=c.cls;unfold qIh at z;split at z
  ·rename_i c' d' cd' sl' ho;intro A' Q' E' s' k q;unfold isType loadHead;exact qAe (wpAny_loadPart (k _ _ (X _ _ ho)) (qAv q))
  ·cases z
 ne:=fun h tp dd its n sl X htp=>by
  refine Bool.eq_false_iff.mpr fun q=>?_;have e:C=tp:=Value.ref.inj (beq_iff_eq.mp q);subst e;have z:=c.cls;unfold qIh at z;split at z
  ·rename_i c' d' cd' sl' ho;have z:=(X _ _ ho).symm.trans htp;cases z
  ·cases z
 ca:=fun X ⟨oe,h1,h2⟩ k=>EK X c (fun M=>h2▸(PySem.W.Looks.ld h1).andThen .now) k
section
variable {X:Cx}{pins:List (Addr×Obj)}{σ:St}{H:Hp}{s:qAk}
theorem HI.Nj{x:V}{u t:qAf}(I:Inv X pins σ H s)(rx:RelV x u)(ty:HI X.K H x t):∃φ:Heap->Prop,qLc X.K u t φ/\φ s.heap/\u≠.builtin "__main__.__loader__#opaque":=by
 cases ty with
 | exc h c =>
  rename_i e C;cases (show u=Value.ref e from rx);obtain⟨z,_⟩:=I.cQ e _ h;exact⟨_,Aa c,z,fun z=>nomatch z⟩
 | of ty =>
  cases ty with
  | non=>cases (show u=Value.none from rx);exact⟨_,PySem.W.kitx_none,True.intro,fun z=>nomatch z⟩
  | bl y=>cases (show u=Value.bool y from rx);exact⟨_,PySem.W.kitx_bool,True.intro,fun z=>nomatch z⟩
  | int i=>obtain⟨t,q⟩:=(show ∃t,u=Value.int i t from rx);cases q;exact⟨_,PySem.W.kitx_int,True.intro,fun z=>nomatch z⟩
  | str y=>obtain⟨t,q⟩:=(show ∃t,u=Value.str y t from rx);cases q;exact⟨_,PySem.W.kitx_str,True.intro,fun z=>nomatch z⟩
  | flt y=>obtain⟨t,q⟩:=(show ∃t,u=Value.float y t from rx);cases q;exact⟨_,PySem.W.kitx_float,True.intro,fun z=>nomatch z⟩
  | @lst a xs ea =>
   cases (show u=Value.ref a from rx)
   obtain⟨_,_,n,_,h1⟩:=(show cZ X.prog X.w H s.heap a (.lst xs) from I.cQ a _ ea);exact⟨_,qJs,⟨_,h1,rfl⟩,fun z=>nomatch z⟩
  | @frz a ob xs ea =>
   cases (show u=Value.ref a from rx)
   obtain⟨_,_,_,n,_,h1⟩:=(show cZ X.prog X.w H s.heap a (.frz ob (.lst xs)) from I.cQ a _ ea);exact⟨_,qJs,⟨_,h1,rfl⟩,fun z=>nomatch z⟩
  | @tup a xs ea =>
   cases (show u=Value.ref a from rx)
   obtain⟨_,_,_,p⟩:=(show cZ X.prog X.w H s.heap a (.tup xs) from I.cQ a _ ea);obtain⟨o,h1,h2,_⟩:=p;exact⟨_,PySem.W.kitx_tuple,⟨o,h1,h2⟩,fun z=>nomatch z⟩
  | @dK a kvs ea =>
   cases (show u=Value.ref a from rx)
   obtain⟨_,_,vs,_,p⟩:=(show cZ X.prog X.w H s.heap a (.dK kvs) from I.cQ a _ ea);obtain⟨o,es,ep,h1,h2,_⟩:=p;exact⟨_,qJt,⟨o,h1,h2.1⟩,fun z=>nomatch z⟩
  | @dT a kvs ea =>
   cases (show u=Value.ref a from rx)
   obtain⟨_,_,xs,_,o,es,ep,h1,h2,_⟩:=(show cZ X.prog X.w H s.heap a (.dT kvs) from I.cQ a _ ea);exact⟨_,qJt,⟨o,h1,h2.1⟩,fun z=>nomatch z⟩
  | @ins a C dx fs ea cl ha hn htk hm =>
   cases (show u=Value.ref a from rx)
   obtain⟨mA,O,_⟩:=lL I.cQ ea;obtain⟨od,J,_⟩:=O.look;exact⟨_,PySem.W.kitx_own (cl.get _) cl.hd ha hn htk hm,J,fun z=>nomatch z⟩
def Jb:V->Option qAf
 | .ty n=>some (.type n)
 | .ref a=>some (.ref a)
 | _=>none
theorem Ab(h:Jb c=some cv)(r:RelV c u):u=cv:=by
 cases c <;> first | (cases h;exact r) | cases h
theorem fA:eQ X (.builtin "isinstance") (fun xs H Q=>∃v c t cv b,xs=[v,c]/\Jb c=some cv/\HI X.K H v t/\qCq X.K t cv=some b/\Q (.bl b) H):=by
 intro pins s σ H xs us Q I r h;obtain⟨v,c,t,cv,b,rfl,hc,ty,hk,q⟩:=h;obtain⟨u,cu,rfl,ru,rc⟩:=vals2 r;obtain rfl:=Ab hc rc;obtain⟨φ,Z,p,ne⟩:=ty.Nj I ru;exact PySem.W.kia_one Z I.nM p hk ne fun tk=>⟨.bl b,H,I.tok tk,rfl,q⟩
end
section
variable {X:Cx}
theorem Ac(K:qAb)(h:X.K=K:=by rfl):EA X (IS K):=h▸bJ
theorem e7(K:qAb)(h:X.K=K:=by rfl):EA X (IT K):=h▸cB
end
section
variable {X:Cx}
def Jc(K:qAb):R2:=fun x y H Q=>∃l b xs zs,x = .ref l/\y = .ref b/\aY K H l xs/\aY K H b zs/\xs.length+zs.length<=qAg/\∀p,H p=none->Q (.ref p) (upd H p (.lst (xs++zs)))
theorem cO:gX X (qEi .Add) (Jc X.K):=by
 intro pins s σ H x y v u Q I rx ry h;obtain⟨l,b,xs,zs,rfl,rfl,hH,hB,hz,q⟩:=h;cases rx;cases ry;obtain⟨its,r,pl,hl⟩:=I.list hH;obtain⟨its2,r2,pl2,hl2⟩:=I.list hB;obtain⟨⟨cls,dd,data,sl⟩,n,ho,hc,_,hd⟩:=pl;obtain⟨⟨cls2,dd2,data2,sl2⟩,n2,ho2,hc2,_,hd2⟩:=pl2;dsimp only at hc hd hc2 hd2;subst hc hd hc2 hd2;have ea:its.toArray++its2.toArray=(its++its2).toArray:=by simp
 refine concat_meets ⟨_,ho,rfl⟩ ⟨_,ho2,rfl⟩ noFill_list_add seq_list_add PySem.F.slot_list_add PySem.F.entry_list_add (PySem.F.args_list_add_2 _ _) (list_addW l b its.toArray its2.toArray n n2 dd dd2 sl sl2 (by rw[qAw,qAw,<- r.length,<- r2.length];exact hz)) ⟨ho,ho2,?_⟩;rw[ea];exact⟨.ref _,_,I.Lr (t':=s.toks) (r.append r2) (by rw[qAn];exact hz),rfl,q _ I.fresh⟩
def vL(i j:Int):Prop:=BR i j\/(i.natAbs<2^2000000/\j.natAbs<2^2000000)
theorem vL.ok(h:vL i j):IntMulOk i j:=by
 rcases h with h | ⟨h1,h2⟩
 ·exact h.ok
 ·exact IntMulOk.of_le (m:=2000000) (n:=2000000) (intBits_le_iff.mpr h1) (intBits_le_iff.mpr h2) (by decide)
theorem vM:gX X (qEi .Mult) (rI vL fun i j=>.int (i*j)):=Es fun i j t u s Q E hc h=>mul_int h hc.ok
theorem Inv.big(I:Inv X pins σ H s):qFe<s.heap.objs.size:=by
 have h:qAx<s.heap.objs.size:=(I.mod.glob.keeps I.bk).lt;exact qFs (by decide) h
end
structure Tx (K:qAb) (mg:Str->Option qAf) (x:Str) (st:Stmt) (ps:List Str) (f:Addr) (fd:qBd):Prop where
 fn:EF K x x st f fd
 at_:mg x=some (.ref f)
 bd:∀us:List qAf,us.length=ps.length->qKs fd ⟨us,[]⟩=pure (ps.zip us)
theorem bV{K:qAb}{mg:Str->Option qAf}{h:Heap}{x:Str}{st:Stmt}{ps:List Str}{f:Addr}{oc:qAf}{od an:Option Addr}{osl:Array (Option qAf)}{kV doc pm cdv ct:qAf}(X:K.In h)(G:h.Ns qAx mg)
  (a:qBg K qAx x=some (some (.ref f))) (l:K.lookup f=some ⟨oc,od,.func (qBe x x (bI st) (bC st) (aE st) .none kV doc pm an cdv ct),osl⟩)
  (c:qAz K cdv x=true) (k:qAm K (.ref f)=true)
  (hb:∀(kV doc pm:qAf) (an:Option Addr) (cdv ct:qAf) (us:List qAf),us.length=ps.length->qKs (qBe x x (bI st) (bC st) (aE st) .none kV doc pm an cdv ct) ⟨us,[]⟩=pure (ps.zip us)) :
  ∃f fd,Tx K mg x st ps f fd:=⟨f,_,zZ l c k,qCf X G a,hb kV doc pm an cdv ct⟩
structure Df (P:qBc) (w:qCd) (K:qAb) (mg:Str->Option qAf) (base:Heap) (CX:vG) (k:Nat) (x:Str) (ps:List Str) (sp:Sp) (f:Addr) (fd:qBd):Prop where
 at_:mg x=some (.ref f)
 kp:qAm K (.ref f)=true
 ok:fR P w K mg base CX k f fd ps sp
 bd:Binds K fd ps []
section
variable {P:qBc}{w:qCd}{K:qAb}{mg:Str->Option qAf}{base:Heap}{x:Str}{st:Stmt}{ps N:List Str}{f:Addr}{fd:qBd}{k:Nat}{sp:Sp}
theorem Tx.jA(t:Tx K mg x st ps f fd)(S:aK N ps (aE st))(len:∀vs H Q E,sp vs H Q E->vs.length=ps.length)
  (hbody:∀(cdv:qAf) (A:qCu) (outer:List Env) (s:qAk) (H:Hp) (vs:List V) (Q:VK) (E:XK),cV k (A.deeper (qGx x (aE st) s.heap.objs.size f cdv))->sp vs H Q E ->
   ∃t,oC (lB cM P w K mg base N x (aE st) f cdv A outer s H E).HD (bC st) t/\t { nx:=fun _ H'=>Q .non H',rt:=Q } (start N vs) H):Df P w K mg base cM (k+1) x ps sp f fd :=
 ⟨t.at_,t.fn.kp,t.fn.ok S len hbody,.all t.bd⟩
theorem Tx.Dw(t:Tx K mg x st ps f fd)(S:aK N ps (aE st))(len:∀vs H Q E,sp vs H Q E->vs.length=ps.length)
  (hbody:∀(cdv:qAf) (A:qCu) (outer:List Env) (s:qAk) (H:Hp) (vs:List V) (Q:VK) (E:XK),cV k (A.deeper (qGx x (aE st) s.heap.objs.size f cdv))->sp vs H Q E ->
   ∃t,oC (lB (gZ P w) P w K mg base N x (aE st) f cdv A outer s H E) (bC st) t/\t { nx:=fun _ H'=>Q .non H',rt:=Q } (start N vs) H):Df P w K mg base (gZ P w) (k+1) x ps sp f fd :=
 ⟨t.at_,t.fn.kp,t.fn.Ci S len hbody,.all t.bd⟩
end
section
variable {X:Cx}{Ex:XS}{k j:Nat}{f:Addr}{fd:qBd}{ps:List Str}{sp:Sp}{x:Str}{p pos:Pos}{e:Expr}{es:List Expr}{t:TA}
theorem bD(D:Df X.prog X.w X.K X.mg X.base cM k x ps sp f fd)(hr:cV j X.A)(hj:k<=j)(hg:Gl X x)(ha:PA X (e::es) t)(hdb:(x == ("__debug__":Str))=false:=by decide)(he:qBk (e::es) X.env=(false,eval e X.env)::qBk es X.env:=by rfl)(hpl:(qEj pos (qBk es X.env)).any (·.1)=false:=by rfl):
  PE X (.Call (.Name x p) (e::es) [] pos) (zS sp [] E0 t):=BW D.ok (hr.mono hj) hg D.at_ D.kp D.bd .nil IY ha hdb he hpl
theorem eK(R:Pass X Ex)(D:Df X.prog X.w X.K X.mg X.base (gZ X.prog X.w) k x ps sp f fd)(hr:cV j X.A)(hj:k<=j)(hg:Gl X x)(ha:PA X (e::es) t)(hdb:(x == ("__debug__":Str))=false:=by decide)(he:qBk (e::es) X.env=(false,eval e X.env)::qBk es X.env:=by rfl)(hpl:(qEj pos (qBk es X.env)).any (·.1)=false:=by rfl):
  PE X (.Call (.Name x p) (e::es) [] pos) (uC sp [] Ex t):=z8 R D.ok (hr.mono hj) hg D.at_ D.kp D.bd .nil ha hdb he hpl
end
theorem bQ:Pass X (fun _ _ _=>False):=⟨fun _ _ _ _ _ _ _ _ _ _ q=>q.elim⟩
theorem Ad{n:Nat}{σ0:St}{H1:Hp}{i0:Nat}{c:TT}{te:TE}{Q:Addr->Hp->Prop}(f:Nat->Option V)(hn:n<=qAg)
  (step:∀(i:Nat) (H2:Hp) (k:VK) (k0:Hp->Prop),i<n->(∀y,f i=some y->k y H2)->(f i=none->k0 H2) ->
   c (σ0.set i0 (some (.int (0+(i:Int))))) H2 fun b H4=>if b=true then te (σ0.set i0 (some (.int (0+(i:Int))))) H4 k else k0 H4)
  (h:∀D,H1 D=none->Q D (upd H1 D (.lst ((qAq n).filterMap f)))) :
  ∀D,H1 D=none->∃W:Nat->Nat->St->Hp->Prop,(∃m,W 0 m σ0 (upd H1 D (.lst [])))/\∀i m σ1 H2,W i m σ1 H2 ->
   ((tO 0 n).stop i H2/\Q D H2)\/((tO 0 n).go i H2/\∃N:St->Hp->Prop,(∀σ' H',N σ' H'->∃m',m'<m/\W (i+1) m' σ' H') /\
    ∀x H',(tO 0 n).rF i H2 x H'->bE i0 x σ1 H' fun σ2 H3=>c σ2 H3 fun b H4=>if b=true then te σ2 H4 fun y H5=>∃xs,H5 D=some (.lst xs)/\xs.length<qAg/\N σ2 (upd H5 D (.lst (xs++[y]))) else N σ2 H4):=by
 intro D hD;refine⟨fun i m σ1 H2=>σ1.set i0 none=σ0.set i0 none/\H2=upd H1 D (.lst ((qAq i).filterMap f))/\i<=n/\m=n-i,⟨n,rfl,rfl,qBm _,rfl⟩,?_⟩;rintro i m σ1 H2 ⟨hσ,rfl,hi,rfl⟩;have hset:∀v:Option V,σ1.set i0 v=σ0.set i0 v:=fun v=>by
  have z:=congrArg (fun l=>qGs l i0 v) hσ;simpa using z
 rcases qBh i n with hlt | hge
 ·right
  refine⟨hlt,fun σ' H'=>σ'.set i0 none=σ0.set i0 none/\H'=upd H1 D (.lst ((qAq (i+1)).filterMap f)),fun σ' H' ⟨a,b⟩=>⟨n-(i+1),by lia,a,b,hlt,rfl⟩,?_⟩;rintro x H' ⟨rfl,rfl⟩;show c (σ1.set i0 (some (.int (0+(i:Int))))) _ _;rw[hset];refine step i _ _ _ hlt (fun y hy=>⟨_,aC,?_,?_,?_⟩) fun hno=>⟨?_,?_⟩
  ·refine qBo (qDh _ _) ?_;rw[qCt];lia
  ·simp
  ·rw[BJ,qCx,qBu];simp[hy]
  ·simp
  ·rw[qCx,qBu];simp[hno]
 ·left
  obtain rfl:i=n:=qDa hi hge;exact⟨qAi _,h D hD⟩
theorem EL(h0:0<=i)(h1:i<xs.length):∃v,fK xs i=some v/\v∈xs:=by
 have hn:i.toNat<xs.length:=by lia
 refine⟨xs[i.toNat],?_,qCh hn⟩;have z:=bO (xs:=xs) (j:=i.toNat) (qAc hn);rw[qFl h0] at z;exact z
theorem aI.aJ(h:H p=none):aI H (upd H p o):=fun b u e=>by
 rw[aL (aT e h)];exact e
theorem aI.ty{K:qAb}{H H':Hp}{v:V}{t:qAf}(s:aI H H')(h:iX K H v t):iX K H' v t:=by
 cases h with
 | non=>exact .non
 | bl x=>exact .bl x
 | int i=>exact .int i
 | str x=>exact .str x
 | flt x=>exact .flt x
 | lst e=>exact .lst (s _ _ e)
 | frz e=>exact .frz (s _ _ e)
 | tup e=>exact .tup (s _ _ e)
 | dK e=>exact .dK (s _ _ e)
 | dT e=>exact .dT (s _ _ e)
 | ins e cl ha hn htk hm=>exact .ins (s _ _ e) cl ha hn htk hm
theorem hW:qCk "isinstance"=some (.builtin "isinstance"):=by decide +kernel
theorem kE:qCk "int"=some (.type "int"):=by decide +kernel
theorem vN:qCk "bool"=some (.type "bool"):=by decide +kernel
theorem fZ:qCk "list"=some (.type "list"):=by decide +kernel
theorem Ae:qCk "tuple"=some (.type "tuple"):=by decide +kernel
theorem cC:qCk "len"=some (.builtin "len"):=by decide +kernel
theorem uD:qCk "abs"=some (.builtin "abs"):=by decide +kernel
theorem EM{K:qAb}{C:Addr}(h2:qGm K (.ref C)=some (.type "type"))(h3:qAd K (.ref C) "__getattribute__"=some (some (.builtin "BaseException.__getattribute__")))(h4:qAd K (.ref C) "__getattr__"=some none)
  (h5:qAd K (.ref C) "__class__"=some (some (.builtin "object.__class__"))) (h6:qDt K (.builtin "object.__class__") "__get__"=some (some (.builtin "getset_descriptor.__get__"))) (h7:qEm K (.builtin "object.__class__")=some true)
  (h8:qCe K C (.type "object")=some true) (h9:qCe K C (.type "BaseException")=some true):mE K C:=by
 refine⟨?_,h2,h3,h4,h5,h6,h7,h8,h9⟩;unfold qCe at h8;obtain⟨cd,a,_⟩:=Option.bind_eq_some_iff.mp h8;rw[a];rfl
inductive Kd:String->Prop where
 | non:Kd "NoneType"
 | bl:Kd "bool"
 | int:Kd "int"
 | str:Kd "str"
 | tup:Kd "tuple"
 | lst:Kd "list"
 | dic:Kd "dict"
theorem Kd.Jd(K:qAb){T:String}(h:Kd T):qCq K (.type T) (.type "int")=some (T == "int" || T == "bool"):=by
 cases h <;> rfl
theorem Kd.Dx(K:qAb){T:String}(h:Kd T):qCq K (.type T) (.type "bool")=some (T == "bool"):=by
 cases h <;> rfl
theorem Kd.Je(K:qAb){T:String}(h:Kd T):qCq K (.type T) (.type "list")=some (T == "list"):=by
 cases h <;> rfl
theorem Kd.EN(K:qAb){T:String}(h:Kd T):qCq K (.type T) (.type "tuple")=some (T == "tuple"):=by
 cases h <;> rfl
def hX:V->Bool
 | .int _=>true
 | _=>false
structure Pl (K:qAb) (H:Hp) (v:V):Prop where
 ex:∃T,iX K H v (.type T)/\Kd T
theorem Pl.int{K:qAb}{H:Hp}(i:Int):Pl K H (.int i):=⟨_,.int i,.int⟩
theorem Pl.hX{K:qAb}{H:Hp}{v:V}{T:String}(h:iX K H v (.type T)):hX v=(T == "int"):=by
 cases h <;> rfl
theorem Pl.same{K:qAb}{H H':Hp}{v:V}(h:Pl K H v)(s:aI H H'):Pl K H' v:=let ⟨T,a,b⟩:=h.ex;⟨T,s.ty a,b⟩
def kF(lo hi:Int):V->Bool
 | .int i=>decide (lo<=i)&&decide (i<=hi)
 | _=>false
section
variable {X:Cx}{pins:List (Addr×Obj)}{σ:St}{H H':Hp}{s:qAk}{h':Heap}
theorem Inv.lO{t':Nat}{fp:List Addr}(I:Inv X pins σ H s)(k:∀b o,b∉fp->s.heap.get? b=some o->h'.get? b=some o)(hf:∀b∈fp,gW X pins H b):Inv X pins σ H { s with heap:=h',toks:=t' }:=by
 have nit:∀b u,H b=some u->b∉fp:=fun b u e z=>by rw[(hf b z).1] at e;cases e
 refine I.step (g':=s.gens) (d':=s.drawn) (ch:=fp) (fun b hb=>?_) (fun b o _ _ hc e _=>k b o hc e) (fun b o _ _ hc e _=>⟨o.slots,k b o hc e⟩) (fun _ _ _ _ n=>n)
  (fun b o hc e=>⟨o,k b o hc e⟩) (fun _ _ e=>e) (fun _ _ _ e=>e) (fun b ps e=>⟨#[],by rw[e];simp⟩) (fun m hm=>?_) (fun b u e=>?_) I.bare
 ·obtain⟨_,f1,_,f3,f4,f5⟩:=hf b hb;exact⟨f3,f1,f4,f5⟩
 ·obtain⟨o,es,ep,ho,r⟩:=hm;exact⟨o,es,ep,k _ o (fun z=>(hf _ z).2.1 rfl) ho,r⟩
 ·refine(I.cQ b u e).lA (fun c v hc q=>k c v ?_ q) (fun _ q=>q) fun _ _ q=>q;rcases hc with z | z
  ·rw[z];exact nit b u e
  ·exact nit c _ z
end
@[reducible] def ML (A:qCu):qCu:={ A with handled:=none }
section
variable {X:Cx}{k j:Nat}{f:Addr}{fd:qBd}{ps:List Str}{sp:Sp}{x:Str}{p pos:Pos}{e:Expr}{es:List Expr}{t:TA}
end
end L2
namespace L2
open PySem PySem.Spec PyProof.Rows PySem.W PySem.Calls
def Sm(n:Nat)(i:Int):Prop:=i.natAbs<2^n
theorem w_all:∀{ns:List Int}{m:Nat},WData.weightAll (ns.map WData.int)<=m->∀n∈ns,n.natAbs<2^(m+1)
 | [],_,_,n,h=>by cases h
 | x::r,m,h,n,hn=>by
  have h':WData.weight (WData.int x)+1+WData.weightAll (r.map WData.int)<=m:=by
   simpa [WData.weightAll] using h
  rcases List.mem_cons.mp hn with rfl | hn
  ·have hx:WData.weight (WData.int n)<=m:=by lia
   have hw:(if n == 0 then 0 else n.natAbs.log2+1)<=m:=by simpa [WData.weight] using hx
   by_cases h0:n=0
   ·subst h0;exact Nat.two_pow_pos _
   ·have hb:(n == 0)=false:=by simpa using h0
    rw[hb] at hw;have hw2:n.natAbs.log2+1<=m:=by simpa using hw
    have hn0:n.natAbs≠0:=by lia
    exact(qMr hn0).mp (by lia)
  ·exact w_all (m:=m) (by lia) n hn
theorem Lv{ns:List Int}(h:WData.layableAll [WData.list (ns.map WData.int)]=true):∀n∈ns,Sm 1048577 n:=by
 have h1:WData.layable (WData.list (ns.map WData.int))=true:=by
  have:=List.all_eq_true.mp h _ (List.mem_singleton.mpr rfl);exact this
 have h2:=(layableW_iff.mp h1).2.2;have h3:WData.weightAll (ns.map WData.int)<=1048576:=by simpa [WData.weight] using h2
 exact w_all h3
theorem qD{l:OpenLaw}{n:Nat}{q:qBc}{loose:List Str}{XP:(Str->Option qAf)->Heap->Prop}{YP:qCd->Heap->Prop}{d:DefRec}
  (hn:l.most=some n) (hdf:d.params.defaults=[])
  (call:∀(w:qCd) (s₀ s₁:qAk) (mg mb:Str->Option qAf) (fa:Addr) (o:Obj) (pm cd doc:qAf) (a:Addr) (vs:List qAf) (ns:List Int),
   Ground q loose [] XP w s₀ mg mb s₁.heap->YP w s₁.heap ->
   s₁.heap.get? fa=some o->o.data = .func (docDef d.name d.params d.body d.scope pm cd doc)->s₁.heap.CodeRec cd d.name->mg d.name=some (.ref fa) ->
   s₁.heap.get? a=some { cls:=.type "list",data:=.seq vs.toArray }->qHq vs ns->ns.length<=n->(∀i∈ns,Sm 1048577 i)->s₁.gens=#[] ->
   qGh (qBz l.prog w) qJn (.call (.ref fa) ⟨[.ref a],[]⟩) (fun r s'=>r = .ok (.ret (.bool true))/\OldK s₁.heap s'.heap/\s'.os=s₁.os/\qHe s'.gens) s₁) :
  WalkO q loose XP YP l.row.toRowW d [] (fun f vs=>PySem.call f vs):=by
 intro w s₀ s₁ mg mb G Y fa o pm cd doc dV kV ho hd hcd hD hmg hg args vals as hpre hlay hrd hwl hlo;obtain rfl:dV = .none:=Dflts.none hD hdf;obtain rfl:kV = .none:=Dflts.noKw hD;obtain⟨a,vs,ns,rfl,rfl,hobj,hints,hlen⟩:=Att.xI hn hpre hwl;refine enter_call (qEw (call w s₀ s₁ mg mb fa o pm cd doc a vs ns G Y ho (fd_plain hd) hcd hmg hobj hints hlen (Lv hlay) hg) fun r s' hq=>?_);obtain⟨rfl,h2,h3,h4⟩:=hq;exact⟨.inl ⟨.bool true,.bool true,[],rfl,fun _=>rfl,.bool true,Att.xJ l _,fun _=>⟨List.Pairwise.nil,fun _ hm=>(nomatch hm)⟩⟩,h2,h3,h4⟩
theorem Af{l:qKi}{n k:Nat}{q:qBc}{loose:List Str}{XP:(Str->Option qAf)->Heap->Prop}{YP:qCd->Heap->Prop}{d:DefRec}{K:Params->qAb}{CX:qCd->vG}{sp:qCd->Sp}{x:Str}
  (hn:l.most=some n) (hn2:n<=qAg) (hdf:d.params.defaults=[]) (hr:cV k qJn)
  (hY:∀(w:qCd) (h:Heap),YP w h->(K w.params).In h)
  (F:∀(w:qCd) (mg:Str->Option qAf) (fa:Addr) (h:Heap),(K w.params).In h->h.Ns qAx mg->mg d.name=some (.ref fa) ->
   ∃fd:qBd,(∀(s:qAk) (u:qAf),qKt s fd ⟨[u],[]⟩ [(x,u)]) /\
    ∀base:Heap,(K w.params).In base->base.Ns qAx mg->fR l.prog w (K w.params) mg base (CX w) k fa fd [x] (sp w))
  (hsp:∀(w:qCd) (H:Hp) (a:Addr) (ns:List Int),ns.length<=n->(∀i∈ns,Sm 1048577 i)->EE H->aY (K w.params) H a (ns.map V.int)->sp w [.ref a] H (fun v _=>v = .bl true) fun _ _ _=>False)
  (hCX:∀(w:qCd) (H:Hp) (s:qAk) (e:qAf) (s':qAk),CX w [] H s (fun _ _ _=>False) e s'->False) :
  qKw q loose XP YP l.row.toRowW d [] (fun f vs=>PySem.call f vs):=by
 refine qD hn hdf fun w s₀ s₁ mg mb fa o pm cd doc a vs ns G Y ho hd hcd hmg hobj hints hlen hw hg=>?_;have KX:=hY w _ Y;obtain⟨fd,hb,hF⟩:=F w mg fa _ KX G.T.g hmg;exact zY KX G.T.g G.T.b G.T.builtins G.T.nolimit hg hobj hints (qAt hlen hn2) hr hF hb (fun H hO hS=>hsp w H a ns hlen hw hO hS) fun H e s'=>hCX w H s₁ e s'
theorem Ah(P:St->Hp->Prop)(hk:∀σ H,P σ H->u D σ H)(h:(∀σ H,P σ H->u D σ H)->En c t e { D with nx:=u D } (σ.set i (some v)) H):bE i v σ H (BO (En c t e) u D):=h hk
theorem Sm.mono(h:Sm a i)(hab:a<=b):Sm b i:=qAo h (qBr (by decide) hab)
theorem Sm.le(h:Sm a i)(hij:j.natAbs<=i.natAbs):Sm a j:=qBo hij h
theorem Sm.of(a:Nat){b:Nat}(h:i.natAbs<2^a)(hab:a<=b):Sm b i:=Sm.mono (a:=a) h hab
theorem Sm.mb(h1:Sm m i)(h2:Sm n j)(hm:m<=2000000:=by decide)(hn:n<=2000000:=by decide):vL i j:=.inr ⟨h1.mono hm,h2.mono hn⟩
end L2
namespace PySem.SeqAt
open AutoSeq1 (wpAny_loadPart')
open MeetsSeq MeetsSeq2 MeetsSeq3 SeqRoads2
theorem lD(f:Nat->β->Sem (ForInStep β))(I:Nat->β->qAk->Prop)(Q:β->qAk->Prop)(n:Nat)
  (turn:∀i b s,i<n->I i b s->qBs M A (f i b) (fun r s'=>match r with | .yield b'=>I (i+1) b' s' | .done b'=>Q b' s') E s)
  (fin:∀b s,I n b s->Q b s) (b:β) (h:I 0 b s):qBs M A (forIn [0:n] b f) Q E s:=by
 rw[Std.Legacy.Range.forIn_eq_forIn_range'];refine wpAny_forIn_list f (fun rest b s=>∃i,i<=n/\rest=List.range' i (n-i)/\I i b s) Q ?_ ?_ _ b ⟨0,qBm _,?_,h⟩
 ·rintro x rest b s ⟨i,hi,hr,hI⟩;have hlt:i<n:=by
   rcases qBh i n with z | z
   ·exact z
   ·rw[show n-i=0 by lia] at hr;cases hr
  obtain⟨k,hk⟩:∃k,n-i=k+1:=⟨n-i-1,by lia⟩;rw[hk,qKy] at hr;obtain⟨rfl,rfl⟩:=List.cons.inj hr;refine qFc (turn x b s hlt hI) (fun r s' hr=>?_) fun _ _ z=>z;cases r with
  | done b'=>exact hr
  | yield b'=>exact⟨x+1,hlt,by rw[show n-(x+1)=k by lia],hr⟩
 ·rintro b s ⟨i,hi,hr,hI⟩;have:i=n:=by
   rcases qBh i n with z | z
   ·obtain⟨k,hk⟩:∃k,n-i=k+1:=⟨n-i-1,by lia⟩;rw[hk,qKy] at hr;cases hr
   ·lia
  subst this;exact fin _ _ hI
 ·simp[Std.Legacy.Range.size]
theorem nT(l:Addr)(items:Array qAf)(n:Nat)(dd:Option Addr)(sl:Array (Option qAf))(x:qAf)(e:qAf->Bool)(j:Nat)(hj:j<items.size)
  (hit:e items[j]=true) (hno:∀m (hm:m<items.size),m<j->e items[m]=false) :
  Meets (Builtin.«tuple.index» ⟨[.ref l,x],[]⟩)
   (fun A R s=>s.heap.get? l=some { cls:=.type "tuple",dict:=dd,data:=.seq items n,slots:=sl }/\(∀y,y∈items->EqAt A.in1 s y x (e y))/\R (.ok (.ret (.int (j:Nat) s.toks))) { s with toks:=s.toks+1 }) :=
 .of_wp fun prog w A R s h=>by
  obtain⟨hp,g,d,tk,os⟩:=s;obtain⟨hl,he,h⟩:=h;wp_walk using wpAny_loadPart' hl,lD _ (fun i b s'=>b.1=none/\s'=⟨hp,g,d,tk,os⟩/\i<=j) _ _
  case turn =>
   rintro i b s' hi ⟨hb,rfl,hij⟩;have hi':i<items.size:=by lia
   rw[qFp hi'];refine qAe (he _ (Array.getElem_mem hi') prog w _ _ ?_);rcases qBh i j with z | z
   ·rw[hno i hi' z];wp_walk;exact⟨rfl,rfl,z⟩
   ·obtain rfl:i=j:=by lia
    rw[hit];wp_walk;exact⟨_,rfl,h⟩
  case fin =>
   rintro⟨b1,b2⟩ s' ⟨hb,rfl,hij⟩;lia
  case h =>
   exact⟨rfl,rfl,qBm _⟩
end PySem.SeqAt
namespace L2
open PySem PySem.Spec PyProof.Rows
theorem aI.KP{K:qAb}{H H':Hp}{a:Addr}{xs:List V}(e:aI H H')(h:dG K H a xs):dG K H' a xs:=by
 rcases h with (h | ⟨o,h⟩) | h
 ·exact .inl (.inl (e _ _ h))
 ·exact .inl (.inr ⟨o,e _ _ h⟩)
 ·exact .inr h
theorem aI.upd_ne'(s:aI H H')(h:H D=none):aI H (upd H' D o):=fun b u e=>by
 rw[aL (aT e h)];exact s b u e
theorem qE(F:α->β):∀xs:List α,((qAq xs.length).filterMap fun i=>(xs[i]?).bind fun x=>some (F x))=xs.map F
 | []=>rfl
 | x::r=>by
  rw[qBj,qJf,qCj,qCn];show F x::_=F x::r.map F;rw[<- qE F r];rfl
theorem cJ(f:α->Option β):∀xs:List α,((qAq xs.length).filterMap fun i=>(xs[i]?).bind f)=xs.filterMap f
 | []=>rfl
 | x::r=>by
  rw[qBj,qJf,qCj,qCn,qCj,<- cJ f r];rfl
theorem Pl.jP{K:qAb}{H:Hp}{x C dx C' dx':Addr}{fs fs':List (Str×V)}{v:V}(h:Pl K H v)(hx:H x=some (.ins C dx fs)):Pl K (upd H x (.ins C' dx' fs')) v:=by
 obtain⟨T,ty,kd⟩:=h.ex;refine⟨T,?_,kd⟩;have at_:∀b o,H b=some o->(∀C dx fs,o≠.ins C dx fs)->upd H x (.ins C' dx' fs') b=some o:=fun b o e n=>by
  rw[aL]
  ·exact e
  ·rintro rfl;rw[hx] at e;exact n _ _ _ (Option.some.inj e).symm
 cases ty with
 | non=>exact .non
 | bl x=>exact .bl x
 | int i=>exact .int i
 | str x=>exact .str x
 | flt x=>exact .flt x
 | lst e=>exact .lst (at_ _ _ e (by intro _ _ _ z;cases z))
 | frz e=>exact .frz (at_ _ _ e (by intro _ _ _ z;cases z))
 | tup e=>exact .tup (at_ _ _ e (by intro _ _ _ z;cases z))
 | dK e=>exact .dK (at_ _ _ e (by intro _ _ _ z;cases z))
 | dT e=>exact .dT (at_ _ _ e (by intro _ _ _ z;cases z))
def SameBut(x:Addr)(H H':Hp):Prop:=∀b o,b≠x->H b=some o->H' b=some o
theorem aI.but(s:aI H H')(x:Addr):SameBut x H H':=fun b o _ e=>s b o e
theorem SameBut.then(a:SameBut x H H1)(b:aI H1 H2):SameBut x H H2:=fun c o n e=>b c o (a c o n e)
theorem SameBut.gO(a:SameBut x H H1)(u:HO):SameBut x H (upd H1 x u):=fun c o n e=>by rw[aL n];exact a c o n e
theorem SameBut.made(hx:H x=none)(hd:H dx=none)(ne:dx≠x)(s:SameBut x (upd (upd H dx (.own x)) x (.ins C dx [])) H'):aI H H':=fun b o e=>by
 have n1:b≠x:=aT e hx;have n2:b≠dx:=aT e hd;exact s b o n1 (by rw[aL n1,aL n2];exact e)
theorem fR.up{P:qBc}{w:qCd}{K:qAb}{mg:Str->Option qAf}{base:Heap}{k:Nat}{f:Addr}{fd:qBd}{ps:List Str}{sp:Sp}(F:fR P w K mg base cM k f fd ps sp):fR P w K mg base (gZ P w) k f fd ps sp :=
 ⟨F.len,fun A outer s H args us vs Q E hr he hb hv hs=>qEw (F.run A outer s H args us vs Q E hr he hb hv hs) fun r s' h=>by
  cases r with
  | error e=>exact False.elim h
  | ok fl=>cases fl <;> exact h⟩
structure Mx (K:qAb) (x qual:Str) (st:Stmt) (ps:List Str) (f:Addr) (fd:qBd):Prop where
 fn:EF K x qual st f fd
 bd:∀us:List qAf,us.length=ps.length->qKs fd ⟨us,[]⟩=pure (ps.zip us)
theorem c5{K:qAb}{x qual:Str}{st:Stmt}{ps:List Str}{f:Addr}{oc:qAf}{od an:Option Addr}{osl:Array (Option qAf)}{kV doc pm cdv ct:qAf}
  (l:K.lookup f=some ⟨oc,od,.func (qBe x qual (bI st) (bC st) (aE st) .none kV doc pm an cdv ct),osl⟩)
  (c:qAz K cdv qual=true) (k:qAm K (.ref f)=true)
  (hb:∀(kV doc pm:qAf) (an:Option Addr) (cdv ct:qAf) (us:List qAf),us.length=ps.length->qKs (qBe x qual (bI st) (bC st) (aE st) .none kV doc pm an cdv ct) ⟨us,[]⟩=pure (ps.zip us)) :
  ∃fd,Mx K x qual st ps f fd:=⟨_,zZ l c k,hb kV doc pm an cdv ct⟩
structure Md (P:qBc) (w:qCd) (K:qAb) (mg:Str->Option qAf) (base:Heap) (k:Nat) (ps:List Str) (sp:Sp) (f:Addr):Prop where
 ex:∃fd,fR P w K mg base (gZ P w) k f fd ps sp/\Binds K fd ps []
section
variable {P:qBc}{w:qCd}{K:qAb}{mg:Str->Option qAf}{base:Heap}{x qual:Str}{st:Stmt}{ps N:List Str}{f:Addr}{fd:qBd}{k j:Nat}{sp sp':Sp}
theorem Mx.rG(t:Mx K x qual st ps f fd)(S:aK N ps (aE st))(len:∀vs H Q E,sp vs H Q E->vs.length=ps.length)
  (hbody:∀(cdv:qAf) (A:qCu) (outer:List Env) (s:qAk) (H:Hp) (vs:List V) (Q:VK) (E:XK),cV k (A.deeper (qGx qual (aE st) s.heap.objs.size f cdv))->sp vs H Q E ->
   ∃t,oC (lB cM P w K mg base N qual (aE st) f cdv A outer s H E).HD (bC st) t/\t { nx:=fun _ H'=>Q .non H',rt:=Q } (start N vs) H):Md P w K mg base (k+1) ps sp f :=
 ⟨fd,(t.fn.ok S len hbody).up,.all t.bd⟩
theorem Mx.BG(t:Mx K x qual st ps f fd)(S:aK N ps (aE st))(len:∀vs H Q E,sp vs H Q E->vs.length=ps.length)
  (hbody:∀(cdv:qAf) (A:qCu) (outer:List Env) (s:qAk) (H:Hp) (vs:List V) (Q:VK) (E:XK),cV k (A.deeper (qGx qual (aE st) s.heap.objs.size f cdv))->sp vs H Q E ->
   ∃t,oC (lB (gZ P w) P w K mg base N qual (aE st) f cdv A outer s H E) (bC st) t/\t { nx:=fun _ H'=>Q .non H',rt:=Q } (start N vs) H):Md P w K mg base (k+1) ps sp f :=
 ⟨fd,t.fn.Ci S len hbody,.all t.bd⟩
theorem Md.up(M:Md P w K mg base k ps sp f)(h:k<=j):Md P w K mg base j ps sp f:=let ⟨fd,F,b⟩:=M.ex;⟨fd,⟨F.len,fun A outer s H args us vs Q E hr he hb hv hs=>F.run A outer s H args us vs Q E (hr.mono h) he hb hv hs⟩,b⟩
theorem Md.imp(M:Md P w K mg base k ps sp f)(h:∀vs H Q E,sp' vs H Q E->sp vs H Q E):Md P w K mg base k ps sp' f:=let ⟨fd,F,b⟩:=M.ex;⟨fd,F.imp h,b⟩
end
structure Dy (K:qAb) (C:Addr) (m:Str) (f:Addr):Prop where
 ga:qDt K (.ref C) "__getattribute__"=some (some (.builtin "type.__getattribute__"))
 rd:qKg K C (.type "type")=true
 at_:qKh K (.ref C) (.type "type") m=some (.val (.ref f))
 kp:qAm K (.ref f)=true
section
variable {X:Cx}{Ex:XS}{k j:Nat}{f C:Addr}{ps:List Str}{sp:Sp}{x m:Str}{p pos apos:Pos}{e o:Expr}{es:List Expr}{ta:TE}{t:TA}
theorem oP(R:Pass X Ex)(hg:Gl X x)(hm:X.mg x=some (.ref C))(M:Dy X.K C m f)(F:Md X.prog X.w X.K X.mg X.base k ps sp f)(hr:cV j X.A)(hj:k<=j)(ha:PA X (e::es) t)
  (hdb:(x == ("__debug__":Str))=false:=by decide)
  (hst:qBk (e::es) X.env=(false,eval e X.env)::qBk es X.env:=by rfl) (hpl:(qEj pos (qBk es X.env)).any (·.1)=false:=by rfl)
  (ht:eval (.Call (.Attribute (.Name x p) m apos) (e::es) [] pos) X.env=(do
   let ov <- eval (.Name x p) X.env
   qIl apos.atName
   let (f,first) <- qFv [ov] (qHd ov m pl)
   qKr pos f first (qEj pos (qBk (e::es) X.env)) (qFq pos (qEg [] X.env))):=by rfl) :
  PE X (.Call (.Attribute (.Name x p) m apos) (e::es) [] pos) (uC sp [] Ex t):=by
 intro pins s σ H Q I h;obtain⟨fd,F,hb⟩:=F.ex;refine qGe (pl:=pl) (bX (bP (v:=.ref C) hg hm rfl hdb pins s σ H (fun v H'=>v = .ref C/\H'=H) I ⟨rfl,rfl⟩) fun u s1 ⟨x,H1,I1,rx,ex,eH⟩=>?_) ht;subst ex eH;obtain rfl:u=Value.ref C:=rx;refine PySem.W.method_cls I1.nM M.ga (PySem.W.cls_value I1.nM M.rd M.at_ rfl ?_);refine qEn (first:=[]) (h₀:=X.base) I.ok.mod.Dp M.kp (bX (ha pos pins _ σ _ _ (I1.tok _) h) fun us s2 ⟨vs,H2,I2,r,q2⟩=>⟨I2.nM,?_⟩) hst hpl;exact lN R F (hr.mono hj) hb .nil I2 r q2
def qF(K:qAb)(MO:Addr->Sp->Prop)(m:Str)(Ex:XS)(ta:TE)(t:TA):TE:=fun σ H Q=>ta σ H fun x H1=>∃a C dx fs g sp,x = .ref a/\H1 a=some (.ins C dx fs)/\fs.lookup m=none/\xD K C/\Meth K C m g/\MO g sp /\
 t σ H1 fun vs H2=>sp (x::vs) H2 Q fun c _ H'=>Ex c σ H'
theorem jQ(R:Pass X Ex)(he:PE X o ta)(hr:cV j X.A)(hj:k<=j)(ha:PA X (e::es) t)
  (hst:qBk (e::es) X.env=(false,eval e X.env)::qBk es X.env:=by rfl) (hpl:(qEj pos (qBk es X.env)).any (·.1)=false:=by rfl)
  (ht:eval (.Call (.Attribute o m apos) (e::es) [] pos) X.env=(do
   let ov <- eval o X.env
   qIl apos.atName
   let (f,first) <- qFv [ov] (qHd ov m pl)
   qKr pos f first (qEj pos (qBk (e::es) X.env)) (qFq pos (qEg [] X.env))):=by rfl) :
  PE X (.Call (.Attribute o m apos) (e::es) [] pos) (qF X.K (fun g sp=>∃ps,Md X.prog X.w X.K X.mg X.base k ps sp g) m Ex ta t):=by
 intro pins s σ H Q I h;refine qGe (pl:=pl) (bX (he pins s σ H _ I h) fun u s1 ⟨x,H1,I1,rx,a,C,dx,fs,g,sp,ex,ea,l,c,hm,⟨ps,F⟩,q⟩=>?_) ht;subst ex;obtain rfl:u=Value.ref a:=rx;obtain⟨fd,F,hb⟩:=F.ex;refine l9 I1 ea c hm l ?_;refine qEn (first:=[.ref a]) (h₀:=X.base) I.ok.mod.Dp hm.kp (bX (ha pos pins s1 σ H1 _ I1 q) fun us s2 ⟨vs,H2,I2,r,q2⟩=>⟨I2.nM,?_⟩) hst hpl;exact lN (us:=.ref a::us) (vs:=.ref a::vs) R F (hr.mono hj) hb .nil I2 (.cons rfl r) (by rw[qCr];exact q2)
theorem iS(R:Pass X Ex)(he:PE X o ta)(hr:cV j X.A)(hj:k<=j)
  (ht:eval (.Call (.Attribute o m apos) [] [] pos) X.env=(do
   let ov <- eval o X.env
   qIl apos.atName
   let (f,first) <- qFv [ov] (qHd ov m pl)
   qKr pos f first (qEj pos (qBk [] X.env)) (qFq pos (qEg [] X.env))):=by rfl) :
  PE X (.Call (.Attribute o m apos) [] [] pos) (qF X.K (fun g sp=>∃ps,Md X.prog X.w X.K X.mg X.base k ps sp g) m Ex ta t5):=by
 intro pins s σ H Q I h;refine qGe (pl:=pl) (bX (he pins s σ H _ I h) fun u s1 ⟨x,H1,I1,rx,a,C,dx,fs,g,sp,ex,ea,l,c,hm,⟨ps,F⟩,q⟩=>?_) ht;subst ex;obtain rfl:u=Value.ref a:=rx;obtain⟨fd,F,hb⟩:=F.ex;refine l9 I1 ea c hm l ?_;exact PySem.W.callWith_K0 (first:=[.ref a]) I1.nM hm.kp (lN (us:=[.ref a]) (vs:=[.ref a]) R F (hr.mono hj) hb .nil I1 (.cons rfl .nil) q)
def EO(C:Addr)(sp:Sp)(Ex:XS)(t:TA):TE:=fun σ H Q=>t σ H fun vs H1=>∀x dx,H1 x=none->H1 dx=none->dx≠x ->
 sp (.ref x::vs) (upd (upd H1 dx (.own x)) x (.ins C dx [])) (fun v H2=>v = .non/\Q (.ref x) H2) fun c _ H'=>Ex c σ H'
theorem xO(R:Pass X Ex)(M:Mk X.K C f)(F:fR X.prog X.w X.K X.mg X.base (gZ X.prog X.w) k f fd ps sp)(hr:cV (k+1) X.A)(hb:Binds X.K fd ps [])
  (I:Inv X pins σ H s) (r:Vals vs us)
  (h:∀x dx,H x=none->H dx=none->dx≠x->sp (.ref x::vs) (upd (upd H dx (.own x)) x (.ins C dx [])) (fun v H2=>v = .non/\Q (.ref x) H2) fun c _ H'=>Ex c σ H') :
  qBs (qBz X.prog X.w) X.A (call (.ref C) us) (EP X pins σ Q) X.xe s:=by
 have hq:=h (s.heap.objs.size+1) s.heap.objs.size (I.cQ.fresh (qIj _)) (I.cQ.fresh (qAi _)) (qBn (qGi _));have I2:=Inv.made (C:=C) I;have r2:Vals (V.ref (s.heap.objs.size+1)::vs) (Value.ref (s.heap.objs.size+1)::us):=.cons rfl r;have hl:(Value.ref (s.heap.objs.size+1)::us).length=ps.length:=by
  have e:=r2.length;rw[F.len _ _ _ _ hq] at e;exact e.symm
 have hb2:=hb { s with heap:=(s.heap.push qDe).push (qDu C s.heap.objs.size) } (Value.ref (s.heap.objs.size+1)::us) I2.nM (by rw[qCr];exact hl);rw[qCr] at hb2;refine qFd (zR (f:=f) I.nM M.makes M.init (beq_iff_eq.mp M.fn) (qEw (F.run _ X.stack _ _ ⟨Value.ref (s.heap.objs.size+1)::us,[]⟩ (Value.ref (s.heap.objs.size+1)::us) _ _ _ (hr.make C us [])
  (I2.BV.make C us []) hb2 r2 hq) fun r s' hq'=>?_))
 cases r with
 | error ev =>
  obtain⟨e,C',H',rfl,Fl,q⟩:=hq';exact R.on pins σ _ _ e C' H' s' I2 Fl q
 | ok fl =>
  cases fl with
  | ret u =>
   obtain⟨v,H',I3,rv,ev,q3⟩:=I2.after hq';subst ev;exact⟨rv,⟨V.ref (s.heap.objs.size+1),H',I3,rfl,q3⟩⟩
  | next=>exact False.elim hq'
  | brk=>exact False.elim hq'
  | cont=>exact False.elim hq'
theorem cI(R:Pass X Ex)(M:Mk X.K C f)(F:Md X.prog X.w X.K X.mg X.base k ps sp f)(hr:cV j X.A)(hj:k+1<=j)(hg:Gl X x)(hm:X.mg x=some (.ref C))
  (ha:PA X (e::es) t) (hdb:(x == ("__debug__":Str))=false:=by decide) (he:qBk (e::es) X.env=(false,eval e X.env)::qBk es X.env:=by rfl) (hpl:(qEj pos (qBk es X.env)).any (·.1)=false:=by rfl) :
  PE X (.Call (.Name x p) (e::es) [] pos) (EO C sp Ex t):=by
 intro pins s σ H Q I h;obtain⟨fd,F,hb⟩:=F.ex;refine qEd (jK I hg hm ?_ hdb);refine qEn (h₀:=X.base) I.ok.mod.Dp M.kp (bX (ha pos pins s σ H _ I h) fun us s1 ⟨vs,H1,I1,r,q⟩=>⟨I1.nM,?_⟩) he hpl;exact xO R M F (hr.mono hj) hb I1 r q
end
structure Ai (K:qAb) (C:Addr):Prop where
 cl:xD K C
 ca:qAd K (.ref C) "__class__"=some (some (.builtin "object.__class__"))
 cg:qDt K (.builtin "object.__class__") "__get__"=some (some (.builtin "getset_descriptor.__get__"))
 ct:qEm K (.builtin "object.__class__")=some true
 mo:qCe K C (.type "object")=some true
theorem Ai.ty{K:qAb}{H:Hp}{a C dx:Addr}{fs:List (Str×V)}(c:Ai K C)(e:H a=some (.ins C dx fs)):HI K H (.ref a) (.ref C):=.of (.ins e c.cl c.ca c.cg c.ct c.mo)
section
variable {X:Cx}
theorem eL(hh:X.calm=true):eQ X (.builtin "sum") (fun xs H Q=>∃(p:Addr) (ns:List Int),xs=[.ref p]/\(aY X.K H p (ns.map V.int)\/dG X.K H p (ns.map V.int))/\Q (.int ns.sum) H):=by
 intro pins s σ H xs us Q I r h;obtain⟨p,ns,rfl,hq,q⟩:=h;obtain⟨u,rfl,rx⟩:=vals1 r;cases rx;rcases hq with hq | hq
 ·obtain⟨its,r',pl,hz⟩:=I.list hq;have hi:=intsAre_of r';obtain⟨xs,hx⟩:=hi.allInts.items;have hl':s.heap.IsList p (intItems xs):=hx▸pl.isList;refine sum_intListG (I.ok.hd hh) hl' fun h' tk t' hk=>?_;have e1:ns=xs.toList.map (·.1):=by
   rw[<- nums_intItems,<- hx];exact(show numsOf its.toArray.toList=ns from hi.numsOf).symm
  have e2:preSum (numAt xs) xs.size=ns.sum:=by
   rw[preSum_eq,qDn (by simp),e1]
  rw[e2];exact⟨.int ns.sum,H,I.kept (t':=tk) hk,⟨_,rfl⟩,q⟩
 ·obtain⟨its,r',pl,hz⟩:=I.tuple hq;have hi:=intsAre_of r';obtain⟨xs,hx⟩:=hi.allInts.items;have hl':s.heap.IsTuple p (intItems xs):=hx▸pl;refine PySem.W.ktm_sumG (I.ok.hd hh) hl' fun h' tk t' hk=>?_;have e1:ns=xs.toList.map (·.1):=by
   rw[<- nums_intItems,<- hx];exact(show numsOf its.toArray.toList=ns from hi.numsOf).symm
  have e2:preSum (numAt xs) xs.size=ns.sum:=by
   rw[preSum_eq,qDn (by simp),e1]
  rw[e2];exact⟨.int ns.sum,H,I.kept (t':=tk) hk,⟨_,rfl⟩,q⟩
theorem kU:∀{us:List qAf},Vals (bs.map V.bl) us->LSm.BoolsAre us bs:=by
 induction bs with
 | nil=>intro us h;cases h;exact .nil
 | cons b bs ih =>
  intro us h;cases h with
  | cons r t=>cases r;exact .cons b (ih t)
theorem mF(hh:X.calm=true):eQ X (.builtin "all") (fun xs H Q=>∃(p:Addr) (bs:List Bool),xs=[.ref p]/\aY X.K H p (bs.map V.bl)/\Q (.bl (bs.all id)) H):=by
 intro pins s σ H xs us Q I r h;obtain⟨p,bs,rfl,hq,q⟩:=h;obtain⟨u,rfl,rx⟩:=vals1 r;cases rx;obtain⟨its,r',pl,hz⟩:=I.list hq;have hb:=kU r';have hl:=pl.isList;have hlt:p<s.heap.objs.size:=by obtain⟨_,e,_⟩:=hl;exact qAy e
 refine call_all_walk (qDw hl ?_);refine⟨s.heap.objs.size,[s.heap.objs.size,p],[s.heap.objs.size],its.toArray.size,_,_,fun i=>(bs[i]?).getD true,rfl,Walks.list (A:=X.A.in1) (I.ok.hd hh) _ p (qBn hlt) its.toArray,
  ⟨⟨_,qBa _ rfl,rfl,rfl⟩,hl.push _⟩,fun i v s' Q' E' hP hQ=>?_,fun h' tk hk=>?_⟩
 ·obtain⟨b,e,rfl⟩:=hb.get i v (by simpa using hP);simp only[e,qKj] at hQ;exact qCi hQ
 ·have e:((qAq its.toArray.size).all fun i=>(bs[i]?).getD true)=bs.all id:=by
   rw[qAw,hb.length];exact LSm.range_all bs
  rw[e];exact⟨.bl _,H,I.kept (t':=tk) (LSm.kept_iter hk),rfl,q⟩
theorem sD(hh:X.calm=true):eQ X (.builtin "any") (fun xs H Q=>∃(p:Addr) (bs:List Bool),xs=[.ref p]/\aY X.K H p (bs.map V.bl)/\Q (.bl (bs.any id)) H):=by
 intro pins s σ H xs us Q I r h;obtain⟨p,bs,rfl,hq,q⟩:=h;obtain⟨u,rfl,rx⟩:=vals1 r;cases rx;obtain⟨its,r',pl,hz⟩:=I.list hq;have hb:=kU r';have hl:=pl.isList;have hlt:p<s.heap.objs.size:=by obtain⟨_,e,_⟩:=hl;exact qAy e
 refine call_any_walk (qDw hl ?_);refine⟨s.heap.objs.size,[s.heap.objs.size,p],[s.heap.objs.size],its.toArray.size,_,_,fun i=>(bs[i]?).getD false,rfl,Walks.list (A:=X.A.in1) (I.ok.hd hh) _ p (qBn hlt) its.toArray,
  ⟨⟨_,qBa _ rfl,rfl,rfl⟩,hl.push _⟩,fun i v s' Q' E' hP hQ=>?_,fun h' tk hk=>?_⟩
 ·obtain⟨b,e,rfl⟩:=hb.get i v (by simpa using hP);simp only[e,qKj] at hQ;exact qCi hQ
 ·have e:((qAq its.toArray.size).any fun i=>(bs[i]?).getD false)=bs.any id:=by
   rw[qAw,hb.length];exact LSm.range_any bs
  rw[e];exact⟨.bl _,H,I.kept (t':=tk) (LSm.kept_iter hk),rfl,q⟩
theorem gP:qCk "sum"=some (.builtin "sum"):=by decide +kernel
theorem uE:qCk "all"=some (.builtin "all"):=by decide +kernel
theorem Aj:qCk "any"=some (.builtin "any"):=by decide +kernel
def Cm(K:qAb):V->List V->Hp->VK->Prop:=fun x vs H Q=>∃(p:Addr) (ns:List Int) (i:Int) (j:Nat),x = .ref p/\vs=[.int i]/\dG K H p (ns.map V.int)/\ns[j]?=some i/\(∀m,m<j->ns[m]?≠some i)/\Q (.int (j:Nat)) H
def Nk(i:Int)(u:qAf):Bool:=match u with
 | .int k _=>k == i
 | _=>false
theorem eD:Cc X "list.append" p7:=oM
theorem Ak:Cc X "tuple.index" (Cm X.K):=by
 intro pins s σ H x vs v us Q I rx rv h;obtain⟨p,ns,i,j,rfl,rfl,hq,hj,hno,q⟩:=h;cases rx;obtain⟨u,rfl,ru⟩:=rv.one;obtain⟨t,rfl⟩:=(show ∃t,u=Value.int i t from ru);obtain⟨its,r',pl,hz⟩:=I.tuple hq;have hi:=intsAre_of r';obtain⟨⟨oc,od,odt,osl⟩,h1,h2,n,h3⟩:=id pl;dsimp only at h2 h3;subst h2 h3;have at_:∀(m:Nat) (k:Int),ns[m]?=some k->∃t,its[m]?=some (.int k t):=fun m k hm=>by
  obtain⟨u,hu,ru⟩:=r'.get (i:=m) (x:=.int k) (by rw[qAj,hm];rfl);obtain⟨t,rfl⟩:=(show ∃t,u=Value.int k t from ru);exact⟨t,hu⟩
 have hl:=r'.length;rw[qAa] at hl;obtain⟨t1,ht1⟩:=at_ j i hj;have hjl:j<its.length:=by
  rcases qBh j its.length with z | z
  ·exact z
  ·rw[qDi z] at ht1;cases ht1
 refine qHh F.slot_tuple_index ⟨_,h1,rfl⟩ F.entry_tuple_index (F.args_tuple_index_2 _ _) (SeqAt.nT p its.toArray n od osl (.int i t) (Nk i) j (by simpa using hjl) ?_ fun m hm hmj=>?_) ⟨h1,fun y hy=>?_,?_⟩
 ·have e:its.toArray[j]'(by simpa using hjl) = .int i t1:=by
   have:=qAc hjl;rw[ht1] at this;simpa using (Option.some.inj this).symm
  rw[e];show(i == i)=true;simp
 ·have hml:m<its.length:=by simpa using hm
  have hmn:m<ns.length:=by lia
  obtain⟨t2,ht2⟩:=at_ m _ (qAc hmn);have e:its.toArray[m]'hm = .int ns[m] t2:=by
   have:=qAc hml;rw[ht2] at this;simpa using (Option.some.inj this).symm
  rw[e];show(ns[m] == i)=false;rw[beq_eq_false_iff_ne];intro z;exact hno m hmj (by rw[qAc hmn,z])
 ·have hy':y∈its:=by simpa using hy
  obtain⟨m,hm,e⟩:=qKb hy';have hmn:m<ns.length:=by lia
  obtain⟨t2,ht2⟩:=at_ m _ (qAc hmn);rw[qAc hm,e] at ht2;obtain rfl:y = .int ns[m] t2:=Option.some.inj ht2;exact SeqAt.EqAt.int_int _ _ _ _
 ·exact⟨.int (j:Nat),H,I.tok _,⟨_,rfl⟩,q⟩
mutual
inductive Dat (K:qAb) (H:Hp):V->qFo->Prop
 | int (i:Int):Dat K H (.int i) (.int i)
 | lst {p:Addr}{xs:List V}{ds:List qFo}:aY K H p xs->DatAll K H xs ds->Dat K H (.ref p) (.list ds)
 | tup {p:Addr}{xs:List V}{ds:List qFo}:dG K H p xs->DatAll K H xs ds->Dat K H (.ref p) (.tuple ds)
inductive DatAll (K:qAb) (H:Hp):List V->List qFo->Prop
 | nil:DatAll K H [] []
 | cons {x:V}{d:qFo}{xs:List V}{ds:List qFo}:Dat K H x d->DatAll K H xs ds->DatAll K H (x::xs) (d::ds)
end
end
def Lw(K:qAb)(tl:TE):TI:=fun σ H R=>tl σ H fun x H1=>∃a,x = .ref a/\(((∃xs,aY K H1 a xs)/\R (nO K a) H1)\/((∃xs,dG K H1 a xs)/\R (IG K a) H1))
theorem ER(hl:PE X l tl):PI X tg l (Lw X.K tl):=by
 intro pins s σ H R I h;refine bX (hl pins s σ H _ I h) fun v s1 ⟨x,H1,I1,r1,q1⟩=>?_;obtain⟨a,e,q⟩:=q1;subst e;cases r1;rcases q with ⟨⟨xs,hq⟩,q⟩ | ⟨⟨xs,hq⟩,q⟩
 ·obtain⟨its,rv,p,hz⟩:=I1.list hq;refine qDw p.isList ?_;refine⟨s1.heap.objs.size,[s1.heap.objs.size],_,_,H1,rfl,I1.kept (t':=s1.toks) fun b o e=>qAh _ e,oE a _,⟨_,qBa _ rfl,rfl,rfl⟩,fun b hb=>?_,q⟩;have e:b=s1.heap.objs.size:=by simpa using hb
  subst e;exact I1.pT (qAi _) (I1.cQ.fresh (qAi _))
 ·obtain⟨its,rv,p,hz⟩:=I1.tuple hq;refine wpAny_pyIter_tuple (show s1.heap.IsTuple a its.toArray from p) ?_;refine⟨s1.heap.objs.size,[s1.heap.objs.size],_,_,H1,rfl,I1.kept (t':=s1.toks) fun b o e=>qAh _ e,tR a _,⟨_,qBa _ rfl,rfl,rfl⟩,fun b hb=>?_,q⟩;have e:b=s1.heap.objs.size:=by simpa using hb
  subst e;exact I1.pT (qAi _) (I1.cQ.fresh (qAi _))
theorem jR{prog:qBc}{w:qCd}{A:qCu}{E:qAf->qAk->Prop}{s:qAk}{t sl:Addr}{items:Array qAf}{vl vu:qAf}{lo hi:Option Int}{Q:qAf->qAk->Prop}(ht:IsTup s.heap t items)(hs:s.heap.IsSliceOf sl vl vu .none)(pl:qId vl lo)(pu:qId vu hi)
  (h0:HT.eC items.size 0 lo=0) (h1:HT.eC items.size items.size hi=items.size)
  (h:Q (.ref t) s):qBs (qBz prog w) A (qIm (.ref t) (.ref sl)) Q E s:=by
 obtain⟨os,hos,hcs,hds⟩:=id hs;have hTs:s.TypeIs (.ref sl) "slice":=⟨os,hos,hcs⟩;unfold qIm;try with_reducible refine qCs ?_
 first | refine qAe (qAv ?_) | skip
 refine qAe (wpAny_sequenceKey ht.typeIs (by decide) ?_);refine qAe (wpAny_callSpecial?_slot (name:=Str.ofString "__getitem__") ht.typeIs qDx
  (wpAny_call_entry qDx ht.typeIs entry_tuple_getitem ?_ (args_tuple_getitem _ _)))
 show qBs _ _ (Builtin.Tuple.tupleItemsOf (.ref t) >>= _) _ _ s;refine qAe (tupleItemsOf_ ht ?_);refine qAe (wpAny_typeOf hTs ?_);rw[if_pos (by decide)];refine qAe (HT.gE hs pl pu ?_);have hy:(((HT.eC items.size 0 lo:Nat):Int) == 0&&(1:Int) == 1&&(HT.eC items.size items.size hi-HT.eC items.size 0 lo) == items.size)=true:=by
  rw[h0,h1];simp
 show qBs _ _ (if (((HT.eC items.size 0 lo:Nat):Int) == 0&&(1:Int) == 1&&(HT.eC items.size items.size hi-HT.eC items.size 0 lo) == items.size)=true then _ else _) _ _ s;rw[if_pos hy];refine qAe (m:=Builtin.Tuple.tupleIsExact (.ref t)) ?_;unfold Builtin.Tuple.tupleIsExact;refine qAe (wpAny_typeOf ht.typeIs (qAv ?_));rw[if_pos (by decide)];first
  | exact qAe (wpAny_rule (qAv ⟨_,rfl,qAv h⟩))
  | exact qAe (wpAny_rule (qAe (qAv (qAv ⟨_,rfl,qAv h⟩))))
def Lx(K:qAb):V->Option Int->Option Int->Hp->VK->Prop:=fun x lo hi H Q=>∃a xs,x = .ref a/\dG K H a xs/\∀p H',aI H H'->dG K H' p (fT xs lo hi)->Q (.ref p) H'
theorem vO:HF X (Lx X.K):=by
 intro pins s σ H x v vl vu lo hi sl Q I rx hs pl pu h;obtain⟨a,xs,rfl,hx,q⟩:=h;by_cases hw:HT.eC xs.length 0 lo=0/\HT.eC xs.length xs.length hi=xs.length
 ·cases rx
  obtain⟨its,r,ht,hz⟩:=I.tuple hx;have hlen:its.toArray.size=xs.length:=by rw[qAw];exact r.length.symm
  refine⟨"tuple",_,PyProof.Rows.slot_tuple_getitem.lookup,ht.typeIs,?_⟩;refine jR ht hs pl pu (by rw[hlen];exact hw.1) (by rw[hlen];exact hw.2) ⟨.ref a,H,I,rfl,q a H (.refl H) ?_⟩;unfold fT;rw[hw.1,hw.2,qLn,qMm,qHt];exact hx
 ·exact Ez pins s σ H (.ref a) v vl vu lo hi sl Q I rx hs pl pu ⟨a,xs,rfl,hx,hw,fun p hp=>q p _ (.aJ hp) (dG.of aC)⟩
section
variable {K:qAb}{a:Addr}{xs:List V}{σ0:St}{H1:Hp}{i0:Nat}{c:TT}{te:TE}{Q:Addr->Hp->Prop}
theorem cF(f:Nat->V->Option V)(hq:aY K H1 a xs)(hn:xs.length<=qAg)
  (step:∀(i:Nat) (x:V) (H2:Hp) (k:VK) (k0:Hp->Prop),aI H1 H2->xs[i]?=some x->(∀y,f i x=some y->∀H3,aI H2 H3->k y H3)->(f i x=none->∀H3,aI H2 H3->k0 H3) ->
   c (σ0.set i0 (some x)) H2 fun b H4=>if b=true then te (σ0.set i0 (some x)) H4 k else k0 H4)
  (h:∀D H2,H1 D=none->aI H1 H2->H2 D=some (.lst ((qAq xs.length).filterMap fun i=>(xs[i]?).bind (f i)))->Q D H2) :
  ∀D,H1 D=none->∃W:Nat->Nat->St->Hp->Prop,(∃m,W 0 m σ0 (upd H1 D (.lst [])))/\∀i m σ1 H2,W i m σ1 H2 ->
   ((nO K a).stop i H2/\Q D H2)\/((nO K a).go i H2/\∃N:St->Hp->Prop,(∀σ' H',N σ' H'->∃m',m'<m/\W (i+1) m' σ' H') /\
    ∀x H',(nO K a).rF i H2 x H'->bE i0 x σ1 H' fun σ2 H3=>c σ2 H3 fun b H4=>if b=true then te σ2 H4 fun y H5=>∃xs,H5 D=some (.lst xs)/\xs.length<qAg/\N σ2 (upd H5 D (.lst (xs++[y]))) else N σ2 H4):=by
 intro D hD;refine⟨fun i m σ1 H2=>σ1.set i0 none=σ0.set i0 none/\aI H1 H2/\H2 D=some (.lst ((qAq i).filterMap fun i=>(xs[i]?).bind (f i)))/\i<=xs.length/\m=xs.length-i,⟨xs.length,rfl,.aJ hD,aC,qBm _,rfl⟩,?_⟩;rintro i m σ1 H2 ⟨hσ,hs,hd,hi,rfl⟩;have hset:∀v:Option V,σ1.set i0 v=σ0.set i0 v:=fun v=>by
  have z:=congrArg (fun l=>qGs l i0 v) hσ;simpa using z
 rcases qBh i xs.length with hlt | hge
 ·right
  refine⟨⟨xs,xs[i],hs.seq hq,by simp[hlt]⟩,fun σ' H'=>σ'.set i0 none=σ0.set i0 none/\aI H1 H'/\H' D=some (.lst ((qAq (i+1)).filterMap fun i=>(xs[i]?).bind (f i))),fun σ' H' ⟨a,b,c⟩=>⟨xs.length-(i+1),by lia,a,b,c,hlt,rfl⟩,?_⟩;rintro x H' ⟨rfl,hx⟩;have hx:=hx xs (hs.seq hq);show c (σ1.set i0 (some x)) _ _;rw[hset];refine step i x _ _ _ hs hx (fun y hy H3 hs3=>⟨_,hs3 _ _ hd,?_,?_,?_,?_⟩) fun hno H3 hs3=>⟨?_,hs.trans hs3,?_⟩
  ·refine qBo (qDh _ _) ?_;rw[qCt];lia
  ·simp
  ·refine(hs.trans hs3).upd_ne' hD
  ·rw[aC,qCx,qBu];simp[hx,hy]
  ·simp
  ·rw[hs3 _ _ hd,qCx,qBu];simp[hx,hno]
 ·left
  obtain rfl:i=xs.length:=qDa hi hge;exact⟨⟨xs,hs.seq hq,qAi _⟩,h D _ hD hs hd⟩
theorem Al(f:Nat->V->Option V)(hq:dG K H1 a xs)(hn:xs.length<=qAg)
  (step:∀(i:Nat) (x:V) (H2:Hp) (k:VK) (k0:Hp->Prop),aI H1 H2->xs[i]?=some x->(∀y,f i x=some y->∀H3,aI H2 H3->k y H3)->(f i x=none->∀H3,aI H2 H3->k0 H3) ->
   c (σ0.set i0 (some x)) H2 fun b H4=>if b=true then te (σ0.set i0 (some x)) H4 k else k0 H4)
  (h:∀D H2,H1 D=none->aI H1 H2->H2 D=some (.lst ((qAq xs.length).filterMap fun i=>(xs[i]?).bind (f i)))->Q D H2) :
  ∀D,H1 D=none->∃W:Nat->Nat->St->Hp->Prop,(∃m,W 0 m σ0 (upd H1 D (.lst [])))/\∀i m σ1 H2,W i m σ1 H2 ->
   ((IG K a).stop i H2/\Q D H2)\/((IG K a).go i H2/\∃N:St->Hp->Prop,(∀σ' H',N σ' H'->∃m',m'<m/\W (i+1) m' σ' H') /\
    ∀x H',(IG K a).rF i H2 x H'->bE i0 x σ1 H' fun σ2 H3=>c σ2 H3 fun b H4=>if b=true then te σ2 H4 fun y H5=>∃xs,H5 D=some (.lst xs)/\xs.length<qAg/\N σ2 (upd H5 D (.lst (xs++[y]))) else N σ2 H4):=by
 intro D hD;refine⟨fun i m σ1 H2=>σ1.set i0 none=σ0.set i0 none/\aI H1 H2/\H2 D=some (.lst ((qAq i).filterMap fun i=>(xs[i]?).bind (f i)))/\i<=xs.length/\m=xs.length-i,⟨xs.length,rfl,.aJ hD,aC,qBm _,rfl⟩,?_⟩;rintro i m σ1 H2 ⟨hσ,hs,hd,hi,rfl⟩;have hset:∀v:Option V,σ1.set i0 v=σ0.set i0 v:=fun v=>by
  have z:=congrArg (fun l=>qGs l i0 v) hσ;simpa using z
 rcases qBh i xs.length with hlt | hge
 ·right
  refine⟨⟨xs,xs[i],hs.KP hq,by simp[hlt]⟩,fun σ' H'=>σ'.set i0 none=σ0.set i0 none/\aI H1 H'/\H' D=some (.lst ((qAq (i+1)).filterMap fun i=>(xs[i]?).bind (f i))),fun σ' H' ⟨a,b,c⟩=>⟨xs.length-(i+1),by lia,a,b,c,hlt,rfl⟩,?_⟩;rintro x H' ⟨rfl,hx⟩;have hx:=hx xs (hs.KP hq);show c (σ1.set i0 (some x)) _ _;rw[hset];refine step i x _ _ _ hs hx (fun y hy H3 hs3=>⟨_,hs3 _ _ hd,?_,?_,?_,?_⟩) fun hno H3 hs3=>⟨?_,hs.trans hs3,?_⟩
  ·refine qBo (qDh _ _) ?_;rw[qCt];lia
  ·simp
  ·refine(hs.trans hs3).upd_ne' hD
  ·rw[aC,qCx,qBu];simp[hx,hy]
  ·simp
  ·rw[hs3 _ _ hd,qCx,qBu];simp[hx,hno]
 ·left
  obtain rfl:i=xs.length:=qDa hi hge;exact⟨⟨xs,hs.KP hq,qAi _⟩,h D _ hD hs hd⟩
end
section
variable {X:Cx}
theorem Am:qCk "min"=some (.builtin "min"):=by decide +kernel
end
section
variable {K:qAb}{lo:Int}{n:Nat}{σ0:St}{H1:Hp}{i0:Nat}{c:TT}{te:TE}{Q:Addr->Hp->Prop}
theorem An(f:Nat->Option V)(hn:n<=qAg)
  (step:∀(i:Nat) (H2:Hp) (k:VK) (k0:Hp->Prop),aI H1 H2->i<n->(∀y,f i=some y->∀H3,aI H2 H3->k y H3)->(f i=none->∀H3,aI H2 H3->k0 H3) ->
   c (σ0.set i0 (some (.int (lo+(i:Int))))) H2 fun b H4=>if b=true then te (σ0.set i0 (some (.int (lo+(i:Int))))) H4 k else k0 H4)
  (h:∀D H2,H1 D=none->aI H1 H2->H2 D=some (.lst ((qAq n).filterMap f))->Q D H2) :
  ∀D,H1 D=none->∃W:Nat->Nat->St->Hp->Prop,(∃m,W 0 m σ0 (upd H1 D (.lst [])))/\∀i m σ1 H2,W i m σ1 H2 ->
   ((tO lo n).stop i H2/\Q D H2)\/((tO lo n).go i H2/\∃N:St->Hp->Prop,(∀σ' H',N σ' H'->∃m',m'<m/\W (i+1) m' σ' H') /\
    ∀x H',(tO lo n).rF i H2 x H'->bE i0 x σ1 H' fun σ2 H3=>c σ2 H3 fun b H4=>if b=true then te σ2 H4 fun y H5=>∃xs,H5 D=some (.lst xs)/\xs.length<qAg/\N σ2 (upd H5 D (.lst (xs++[y]))) else N σ2 H4):=by
 intro D hD;refine⟨fun i m σ1 H2=>σ1.set i0 none=σ0.set i0 none/\aI H1 H2/\H2 D=some (.lst ((qAq i).filterMap f))/\i<=n/\m=n-i,⟨n,rfl,.aJ hD,aC,qBm _,rfl⟩,?_⟩;rintro i m σ1 H2 ⟨hσ,hs,hd,hi,rfl⟩;have hset:∀v:Option V,σ1.set i0 v=σ0.set i0 v:=fun v=>by
  have z:=congrArg (fun l=>qGs l i0 v) hσ;simpa using z
 rcases qBh i n with hlt | hge
 ·right
  refine⟨hlt,fun σ' H'=>σ'.set i0 none=σ0.set i0 none/\aI H1 H'/\H' D=some (.lst ((qAq (i+1)).filterMap f)),fun σ' H' ⟨a,b,c⟩=>⟨n-(i+1),by lia,a,b,c,hlt,rfl⟩,?_⟩;rintro x H' ⟨rfl,rfl⟩;show c (σ1.set i0 (some (.int (lo+(i:Int))))) _ _;rw[hset];refine step i _ _ _ hs hlt (fun y hy H3 hs3=>⟨_,hs3 _ _ hd,?_,?_,?_,?_⟩) fun hno H3 hs3=>⟨?_,hs.trans hs3,?_⟩
  ·refine qBo (qDh _ _) ?_;rw[qCt];lia
  ·simp
  ·exact(hs.trans hs3).upd_ne' hD
  ·rw[aC,qCx,qBu];simp[hy]
  ·simp
  ·rw[hs3 _ _ hd,qCx,qBu];simp[hno]
 ·left
  obtain rfl:i=n:=qDa hi hge;exact⟨qAi _,h D _ hD hs hd⟩
end
section
variable {X:Cx}
theorem qG:qCk "str"=some (.type "str"):=by decide +kernel
theorem ES:qCk "max"=some (.builtin "max"):=by decide +kernel
end
def Dz(K:qAb)(l:Addr):It :=
  ⟨fun i H=>∃xs x,aY K H l xs/\xs[i]?=some x,
   fun i H v H'=>∃t x,v = .ref t/\H t=none/\H'=upd H t (.tup [.int (i:Int),x])/\∀xs,aY K H l xs->xs[i]?=some x,
   fun i H=>∃xs,aY K H l xs/\xs.length<=i⟩
def ET(e it l:Addr)(i:Nat)(h:Heap):Prop:=(∃old,IsEnum h e it (i:Int) old)/\h.IsListIter it l i
theorem xP{P:qBc}{w:qCd}{K:qAb}{elts:List Expr}{x1}{pos:Pos}{e it l:Addr}(hne:e≠it):
  Turn P w K (.Tuple elts x1 pos) (Dz K l) [e,it] e (ET e it l) where
 mem:=by simp
 obj:=fun i h ⟨⟨old,he⟩,⟨o,ho,_,d⟩⟩ b hb=>by
  simp only[qDb,qBq,or_false] at hb;rcases hb with rfl | rfl
  ·exact⟨_,he,fun v q=>nomatch q⟩
  ·exact⟨_,ho,fun v q=>by rw[d] at q;cases q⟩
 keep:=fun i h h' ⟨⟨old,he⟩,h1⟩ k=>⟨⟨old,k e (by simp) _ he⟩,h1.at fun o q=>k it (by simp) o q⟩
 item:=by
  intro X hP hw hK hc i pins s σ H E I hf st hg;subst hP hw hK;obtain⟨⟨old,he⟩,h1⟩:=st;obtain⟨xs,x,q1,hx⟩:=hg;obtain⟨its1,r1,p1,z1⟩:=I.list q1;obtain⟨u,hu,ru⟩:=r1.get hx;refine wpAny_pyNext_enum_item he h1 p1.isList (by simpa using hu) hne fun h' a1 a2 a3 a4 a5=>⟨_,rfl,?_⟩;refine wpAny_letOwnedTupleGo_enum a1 fun h'' b1 hs=>?_;have lt:∀c o,s.heap.get? c=some o->c≠s.heap.objs.size:=fun c o e=>qBn (qAy e);have lte:s.heap.objs.size≠e:=(lt e _ he).symm;have I1:Inv X pins σ H { s with heap:=h'',toks:=s.toks+1 }:=I.lO (t':=s.toks+1) (fun c o hb e=>(hs.2 c (fun q=>hb (by simp[q]))).trans (a5 c o (fun q=>hb (by simp[q])) (fun q=>hb (by simp[q])) e)) hf;have ht:h''.get? s.heap.objs.size=some { cls:=.type "tuple",data:=.seq #[.int i s.toks,u] }:=(hs.2 _ lte).trans a3;have hn:H s.heap.objs.size=none:=I.cQ.fresh (qAi _);have I2:Inv X pins σ (upd H s.heap.objs.size (.tup [.int (i:Int),x])) { s with heap:=h'',toks:=s.toks+1 }:=by
   refine I1.Dv hn (qGv I.sz) (qBn I.lt).symm (fun y c q=>?_) (fun p hp=>?_) (I.Ej (qAi _)) ⟨zD,[.int i s.toks,u],.cons ⟨_,rfl⟩ (.cons ru .nil),_,ht,rfl,_,rfl⟩
   ·obtain⟨_,o,ho,_⟩:=I.cell y c q;exact lt c o ho
   ·exact lt _ _ (I.pin p hp).1
  refine⟨.ref s.heap.objs.size,_,I2,rfl,⟨_,x,rfl,hn,rfl,fun xs' q=>?_⟩,⟨⟨u,?_⟩,a2.at fun o e=>(hs.2 _ hne.symm).trans e⟩,fun c hb=>?_⟩
  ·rw[I.lV q q1];exact hx
  ·rw[show((i+1:Nat):Int)=(i:Int)+1 by push_cast;rfl];exact b1
  ·obtain⟨o,ho,_⟩:∃o,s.heap.get? c=some o/\True:=by
    simp only[qDb,qBq,or_false] at hb;rcases hb with rfl | rfl
    ·exact⟨_,he,trivial⟩
    ·obtain⟨o,ho,_⟩:=h1;exact⟨o,ho,trivial⟩
   rw[aL (lt c o ho)];exact(hf c hb).1
 done:=by
  intro X hP hw hK hc i pins s σ H E I hf st hg;subst hP hw hK;obtain⟨⟨old,he⟩,h1⟩:=st;obtain⟨xs,q1,hend⟩:=hg;obtain⟨its1,r1,p1,z1⟩:=I.list q1;have e1:=r1.length;exact wpAny_pyNext_enum_end (I.ok.hd hc) he h1 p1.isList (by simp;lia) fun h' k=>⟨rfl,I.lO (t':=s.toks) (fun c o hb e=>k c o (fun q=>hb (by simp[q])) e) hf⟩
 self:=fun _ _ _ _ _ ⟨⟨_,he⟩,_⟩ h=>qGk he h
def Jf(K:qAb)(ta:TA):TI:=fun σ H R=>ta σ H fun vs H1=>∃l,vs=[.ref l]/\(∃xs,aY K H1 l xs)/\R (Dz K l) H1
theorem vP:qCk "enumerate"=some (.type "enumerate"):=by decide +kernel
theorem qH{X:Cx}{elts:List Expr}{x1}{tpos:Pos}{a:Expr}{ta:TA}{p pos:Pos}(hg:Gl X "enumerate")(hm:X.mg "enumerate"=none)(ha:PA X [a] ta)(hs:qBk [a] X.env=[(false,eval a X.env)]:=by rfl):
  PI X (.Tuple elts x1 tpos) (.Call (.Name "enumerate" p) [a] [] pos) (Jf X.K ta):=by
 intro pins s σ H R I h;refine Call_ (g9 I hg hm vP (qEf (bX (ha pos pins s σ H _ I h) fun us s1 ⟨vs,H1,I1,r1,q1⟩=>?_) hs rfl));obtain⟨l,e,⟨xs,q1⟩,q⟩:=q1;subst e;obtain⟨u,rfl,ru⟩:=vals1 r1;cases (show u=Value.ref l from ru);obtain⟨its1,r1,p1,z1⟩:=I1.list q1;refine call_enumerate_list p1.isList fun h' hE hI hsz hk=>?_;refine qGk hE ?_;have I2:Inv X pins σ H1 { s1 with heap:=h' }:=I1.kept (t':=s1.toks) hk;refine⟨_,[s1.heap.objs.size+1,s1.heap.objs.size],_,_,H1,rfl,I2,xP (qLd _),⟨⟨_,hE⟩,hI⟩,fun c hc=>?_,q⟩;have hge:s1.heap.objs.size<=c:=by
  simp only[qDb,qBq,or_false] at hc;rcases hc with h | h
  all_goals first | (rw[h];exact qHy _ _) | exact qHs h.symm
 have:=I1.pT (H':=H1) hge (I1.cQ.fresh hge);exact this
section
variable {K:qAb}{a a':Addr}{xs ys:List V}{σ0:St}{H1:Hp}{g:TG}{c:TT}{te:TE}{Q:Addr->Hp->Prop}
theorem mG(Ag:St->Prop)(f:Nat->V->Option V)(h0:Ag σ0)(hq:aY K H1 a xs)(hn:xs.length<=qAg)
  (step:∀(i:Nat) (x:V) (t:Addr) (σ1:St) (H2:Hp) (k:St->VK) (k0:St->Hp->Prop),Ag σ1->aI H1 H2->xs[i]?=some x->H2 t=some (.tup [.int (i:Int),x])->(∀σ2 y,Ag σ2->f i x=some y->∀H3,aI H2 H3->k σ2 y H3)->(∀σ2,Ag σ2->f i x=none->∀H3,aI H2 H3->k0 σ2 H3) ->
   g (.ref t) σ1 H2 fun σ2 H3=>c σ2 H3 fun b H4=>if b=true then te σ2 H4 (k σ2) else k0 σ2 H4)
  (h:∀D H2,H1 D=none->aI H1 H2->H2 D=some (.lst ((qAq xs.length).filterMap fun i=>(xs[i]?).bind (f i)))->Q D H2) :
  ∀D,H1 D=none->∃W:Nat->Nat->St->Hp->Prop,(∃m,W 0 m σ0 (upd H1 D (.lst [])))/\∀i m σ1 H2,W i m σ1 H2 ->
   ((Dz K a).stop i H2/\Q D H2)\/((Dz K a).go i H2/\∃N:St->Hp->Prop,(∀σ' H',N σ' H'->∃m',m'<m/\W (i+1) m' σ' H') /\
    ∀x H',(Dz K a).rF i H2 x H'->g x σ1 H' fun σ2 H3=>c σ2 H3 fun b H4=>if b=true then te σ2 H4 fun y H5=>∃xs,H5 D=some (.lst xs)/\xs.length<qAg/\N σ2 (upd H5 D (.lst (xs++[y]))) else N σ2 H4):=by
 intro D hD;refine⟨fun i m σ1 H2=>Ag σ1/\aI H1 H2/\H2 D=some (.lst ((qAq i).filterMap fun i=>(xs[i]?).bind (f i)))/\i<=xs.length/\m=xs.length-i,⟨xs.length,h0,.aJ hD,aC,qBm _,rfl⟩,?_⟩;rintro i m σ1 H2 ⟨hσ,hs,hd,hi,rfl⟩;rcases qBh i xs.length with hlt | hge
 ·right
  refine⟨⟨xs,xs[i],hs.seq hq,by simp[hlt]⟩,fun σ' H'=>Ag σ'/\aI H1 H'/\H' D=some (.lst ((qAq (i+1)).filterMap fun i=>(xs[i]?).bind (f i))),fun σ' H' ⟨a,b,c⟩=>⟨xs.length-(i+1),by lia,a,b,c,hlt,rfl⟩,?_⟩;rintro v H' ⟨t,x,rfl,ht,rfl,hx⟩;have hx:=hx xs (hs.seq hq);have hst:aI H1 (upd H2 t (.tup [.int (i:Int),x])):=hs.trans (.aJ ht);have hdt:=aI.aJ (o:=.tup [.int (i:Int),x]) ht _ _ hd;refine step i x t σ1 _ (fun σ2 y H5=>∃xs,H5 D=some (.lst xs)/\xs.length<qAg/\_) _ hσ hst hx aC (fun σ2 y a2 hy H3 hs3=>⟨_,hs3 _ _ hdt,?_,a2,?_,?_⟩) fun σ2 a2 hno H3 hs3=>⟨a2,hst.trans hs3,?_⟩
  ·refine qBo (qDh _ _) ?_;rw[qCt];lia
  ·exact(hst.trans hs3).upd_ne' hD
  ·rw[aC,qCx,qBu];simp[hx,hy]
  ·rw[hs3 _ _ hdt,qCx,qBu];simp[hx,hno]
 ·left
  obtain rfl:i=xs.length:=qDa hi hge;exact⟨⟨xs,hs.seq hq,qAi _⟩,h D _ hD hs hd⟩
end
section
variable {X:Cx}
end
section
variable {K:qAb}{a:Addr}{xs:List V}{lo:Int}{n:Nat}{σ0:St}{H1:Hp}{i0:Nat}{c:TT}{te:TE}{Q:Addr->Hp->Prop}
def dX(H H':Hp):Prop:=∀b xs,H b=some (.tup xs)->H' b=some (.tup xs)
theorem aI.t(s:aI H H'):dX H H':=fun _ _ e=>s _ _ e
theorem dX.lst(h:H D=some (.lst ys)):dX H (upd H D o):=fun b xs e=>by
 rw[aL fun q=>by subst q;rw[h] at e;cases e];exact e
theorem xQ(R:Nat->V->Hp->Prop)(mono:∀i y H H',dX H H'->R i y H->R i y H')(hn:n<=qAg)
  (step:∀(i:Nat) (H2:Hp) (k:VK) (k0:Hp->Prop),aI H1 H2->i<n->(∀y H3,aI H2 H3->R i y H3->k y H3) ->
   c (σ0.set i0 (some (.int (lo+(i:Int))))) H2 fun b H4=>if b=true then te (σ0.set i0 (some (.int (lo+(i:Int))))) H4 k else k0 H4)
  (h:∀D ys H2,H1 D=none->aI H1 H2->ys.length=n->(∀i y,ys[i]?=some y->R i y H2)->H2 D=some (.lst ys)->Q D H2) :
  ∀D,H1 D=none->∃W:Nat->Nat->St->Hp->Prop,(∃m,W 0 m σ0 (upd H1 D (.lst [])))/\∀i m σ1 H2,W i m σ1 H2 ->
   ((tO lo n).stop i H2/\Q D H2)\/((tO lo n).go i H2/\∃N:St->Hp->Prop,(∀σ' H',N σ' H'->∃m',m'<m/\W (i+1) m' σ' H') /\
    ∀x H',(tO lo n).rF i H2 x H'->bE i0 x σ1 H' fun σ2 H3=>c σ2 H3 fun b H4=>if b=true then te σ2 H4 fun y H5=>∃xs,H5 D=some (.lst xs)/\xs.length<qAg/\N σ2 (upd H5 D (.lst (xs++[y]))) else N σ2 H4):=by
 intro D hD;refine⟨fun i m σ1 H2=>σ1.set i0 none=σ0.set i0 none/\aI H1 H2/\(∃ys,ys.length=i/\(∀j y,ys[j]?=some y->R j y H2)/\H2 D=some (.lst ys))/\i<=n/\m=n-i,⟨n,rfl,.aJ hD,⟨[],rfl,fun j y e=>(by cases e),aC⟩,qBm _,rfl⟩,?_⟩;rintro i m σ1 H2 ⟨hσ,hs,⟨ys,hy,hR,hd⟩,hi,rfl⟩;have hset:∀v:Option V,σ1.set i0 v=σ0.set i0 v:=fun v=>by
  have z:=congrArg (fun l=>qGs l i0 v) hσ;simpa using z
 rcases qBh i n with hlt | hge
 ·right
  refine⟨hlt,fun σ' H'=>σ'.set i0 none=σ0.set i0 none/\aI H1 H'/\∃ys,ys.length=i+1/\(∀j y,ys[j]?=some y->R j y H')/\H' D=some (.lst ys),fun σ' H' ⟨a,b,c⟩=>⟨n-(i+1),by lia,a,b,c,hlt,rfl⟩,?_⟩;rintro x H' ⟨rfl,rfl⟩;show c (σ1.set i0 (some (.int (lo+(i:Int))))) _ _;rw[hset];refine step i _ _ _ hs hlt fun y H3 hs3 hR3=>⟨_,hs3 _ _ hd,by lia,?_,(hs.trans hs3).upd_ne' hD,ys++[y],by rw[qAn];show _+1=_;lia,fun j z e=>?_,aC⟩
  ·simp
  ·have keep:∀{j z},R j z H3->R j z (upd H3 D (.lst (ys++[y]))):=fun {j z} q=>mono _ _ _ _ (.lst (hs3 _ _ hd)) q;rcases qBh j ys.length with z1 | z1
   ·rw[qCa z1] at e;exact keep (mono _ _ _ _ hs3.t (hR j z e))
   ·rw[qBy z1] at e;obtain⟨rfl,rfl⟩:j=i/\y=z:=by
     rcases qEb (j-ys.length) with q | q
     ·rw[q] at e;exact⟨by lia,Option.some.inj e⟩
     ·rw[qDi (by show 1<=_;lia)] at e;cases e
    exact keep hR3
 ·left
  obtain rfl:i=n:=qDa hi hge;exact⟨qAi _,h D ys _ hD hs hy hR hd⟩
theorem oQ(R:Nat->V->Hp->Prop)(mono:∀i y H H',dX H H'->R i y H->R i y H')(hq:aY K H1 a xs)(hn:xs.length<=qAg)
  (step:∀(i:Nat) (x:V) (H2:Hp) (k:VK) (k0:Hp->Prop),aI H1 H2->xs[i]?=some x->(∀y H3,aI H2 H3->R i y H3->k y H3) ->
   c (σ0.set i0 (some x)) H2 fun b H4=>if b=true then te (σ0.set i0 (some x)) H4 k else k0 H4)
  (h:∀D ys H2,H1 D=none->aI H1 H2->ys.length=xs.length->(∀i y,ys[i]?=some y->R i y H2)->H2 D=some (.lst ys)->Q D H2) :
  ∀D,H1 D=none->∃W:Nat->Nat->St->Hp->Prop,(∃m,W 0 m σ0 (upd H1 D (.lst [])))/\∀i m σ1 H2,W i m σ1 H2 ->
   ((nO K a).stop i H2/\Q D H2)\/((nO K a).go i H2/\∃N:St->Hp->Prop,(∀σ' H',N σ' H'->∃m',m'<m/\W (i+1) m' σ' H') /\
    ∀x H',(nO K a).rF i H2 x H'->bE i0 x σ1 H' fun σ2 H3=>c σ2 H3 fun b H4=>if b=true then te σ2 H4 fun y H5=>∃xs,H5 D=some (.lst xs)/\xs.length<qAg/\N σ2 (upd H5 D (.lst (xs++[y]))) else N σ2 H4):=by
 intro D hD;refine⟨fun i m σ1 H2=>σ1.set i0 none=σ0.set i0 none/\aI H1 H2/\(∃ys,ys.length=i/\(∀j y,ys[j]?=some y->R j y H2)/\H2 D=some (.lst ys))/\i<=xs.length/\m=xs.length-i,⟨xs.length,rfl,.aJ hD,⟨[],rfl,fun j y e=>(by cases e),aC⟩,qBm _,rfl⟩,?_⟩;rintro i m σ1 H2 ⟨hσ,hs,⟨ys,hy,hR,hd⟩,hi,rfl⟩;have hset:∀v:Option V,σ1.set i0 v=σ0.set i0 v:=fun v=>by
  have z:=congrArg (fun l=>qGs l i0 v) hσ;simpa using z
 rcases qBh i xs.length with hlt | hge
 ·right
  refine⟨⟨xs,xs[i],hs.seq hq,by simp[hlt]⟩,fun σ' H'=>σ'.set i0 none=σ0.set i0 none/\aI H1 H'/\∃ys,ys.length=i+1/\(∀j y,ys[j]?=some y->R j y H')/\H' D=some (.lst ys),fun σ' H' ⟨a,b,c⟩=>⟨xs.length-(i+1),by lia,a,b,c,hlt,rfl⟩,?_⟩;rintro x H' ⟨rfl,hx⟩;have hx:=hx xs (hs.seq hq);show c (σ1.set i0 (some x)) _ _;rw[hset];refine step i x _ _ _ hs hx fun y H3 hs3 hR3=>⟨_,hs3 _ _ hd,by lia,?_,(hs.trans hs3).upd_ne' hD,ys++[y],by rw[qAn];show _+1=_;lia,fun j z e=>?_,aC⟩
  ·simp
  ·have keep:∀{j z},R j z H3->R j z (upd H3 D (.lst (ys++[y]))):=fun {j z} q=>mono _ _ _ _ (.lst (hs3 _ _ hd)) q;rcases qBh j ys.length with z1 | z1
   ·rw[qCa z1] at e;exact keep (mono _ _ _ _ hs3.t (hR j z e))
   ·rw[qBy z1] at e;obtain⟨rfl,rfl⟩:j=i/\y=z:=by
     rcases qEb (j-ys.length) with q | q
     ·rw[q] at e;exact⟨by lia,Option.some.inj e⟩
     ·rw[qDi (by show 1<=_;lia)] at e;cases e
    exact keep hR3
 ·left
  obtain rfl:i=xs.length:=qDa hi hge;exact⟨⟨xs,hs.seq hq,qAi _⟩,h D ys _ hD hs hy hR hd⟩
end
section
variable {X:Cx}{tg:Expr}
end
def sE(xs:List V)(k:Int):List V:=(sliceRange (qDm none none (some k) xs.length).1 (qDm none none (some k) xs.length).2.1 (qDm none none (some k) xs.length).2.2).filterMap (xs[·]?)
theorem kG(r:Vals xs us):∀idx:List Nat,Vals (idx.filterMap (xs[·]?)) (idx.filterMap (us[·]?))
 | []=>.nil
 | i::t=>by
  cases e:xs[i]? with
  | none =>
   have e2:us[i]?=none:=by
    have:=r.length;rw[List.getElem?_eq_none_iff] at e|-;lia
   rw[qFz e,qFz e2];exact kG r t
  | some x =>
   obtain⟨u,hu,ru⟩:=r.get e;rw[qFy e,qFy hu];exact .cons ru (kG r t)
section
variable {X:Cx}{e c:Expr}{te:TE}{ts:TO}{pos p2:Pos}
def Ly(K:qAb)(te:TE)(ts:TO):TE:=fun σ H Q=>te σ H fun x H1=>ts σ H1 fun o H2=>∃a xs k,x = .ref a/\o=some k/\k≠0/\aY K H2 a xs/\(sE xs k).length<=qAg/\∀p,H2 p=none->Q (.ref p) (upd H2 p (.lst (sE xs k)))
theorem xR(he:PE X e te)(hs:PO X (some c) ts):PE X (.Subscript e (.Slice none none (some c) p2) pos) (Ly X.K te ts):=by
 intro pins s σ H Q I h;refine Subscript_ (bX (he pins s σ H _ I h) fun v s1 ⟨x,H1,I1,r1,q1⟩=>?_);refine wpAny_Slice (bX (c8 pins s1 σ H1 (fun o H'=>o=none/\H'=H1) I1 ⟨rfl,rfl⟩) fun vl s2 ⟨l,H2,I2,pl,e1,e2⟩=>bX (c8 pins s2 σ H2 (fun o H'=>o=none/\H'=H2) I2 ⟨rfl,rfl⟩) fun vu s3 ⟨u,H3,I3,pu,e3,e4⟩=>?_);subst e1 e2 e3 e4;refine bX (hs pins s3 σ H3 _ I3 q1) fun vs s4 ⟨o,H4,I4,ps,q4⟩=>?_;obtain⟨a,xs,k,rfl,rfl,hk,hx,hz',q⟩:=q4;cases r1;have I5:Inv X pins σ H4 { s4 with heap:=s4.heap.push { cls:=.type "slice",data:=.fields #[vl,vu,vs] } }:=I4.kept (t':=s4.toks) fun b ob q=>qAh _ q;obtain⟨its,r,ht,hz⟩:=I5.list hx;have hlen:=r.length;show qBs (qBz X.prog X.w) X.A (subscriptTail e (.Slice none none (some c) p2) (.ref a) (.ref s4.heap.objs.size)) (EP X pins σ Q) X.xe { s4 with heap:=s4.heap.push { cls:=.type "slice",data:=.fields #[vl,vu,vs] } };refine tail_any (ops:=[.ref a,.ref s4.heap.objs.size]) ht.isList.typeIs slot_list_getitem.lookup ?_ (by with_unfolding_all rfl);refine wpAny_getItem_list_slice ht.isList (Heap.IsSliceOf.new ..) pl pu ps (by simpa using hk) ?_ (by rw[qAw] <;> lia);have ep:qLb its.toArray none none (some k)=((sliceRange (qDm none none (some k) xs.length).1 (qDm none none (some k) xs.length).2.1 (qDm none none (some k) xs.length).2.2).filterMap (its[·]?)).toArray:=by
  unfold qLb;rw[qAw,<- hlen];simp
 rw[ep];refine⟨.ref _,_,I5.laid (t':=s4.toks) (o:=.lst (sE xs k)) (fun b ob q=>qAh _ q) (qAi _) ?_,rfl,q _ (I5.cQ.fresh (qAi _))⟩;exact⟨hz',_,0,kG r _,qBa _ rfl⟩
end
def jG(h:Heap)(vs:List qAf):Heap:=((h.push (qDk "list" #[] 0)).update h.objs.size (Obj.mapSeq (· ++ vs.toArray))).push (qDk "list" vs.toArray 0)
section
variable {X:Cx}
end
section
variable {X:Cx}
mutual
inductive hZ (K:qAb) (H:Hp):V->qFo->Prop
 | int (i:Int):hZ K H (.int i) (.int i)
 | non:hZ K H .non .none
 | bl (b:Bool):hZ K H (.bl b) (.bool b)
 | str (x:Str):PyData.strOk x=true->hZ K H (.str x) (.str x)
 | lst {p:Addr}{xs:List V}{ds:List qFo}:aY K H p xs->cD K H xs ds->hZ K H (.ref p) (.list ds)
 | tup {p:Addr}{xs:List V}{ds:List qFo}:dG K H p xs->cD K H xs ds->hZ K H (.ref p) (.tuple ds)
inductive cD (K:qAb) (H:Hp):List V->List qFo->Prop
 | nil:cD K H [] []
 | cons {x:V}{d:qFo}{xs:List V}{ds:List qFo}:hZ K H x d->cD K H xs ds->cD K H (x::xs) (d::ds)
end
mutual
theorem hZ.reads(I:Inv X pins σ H s):∀{v:V}{d:qFo}{u:qAf},hZ X.K H v d->RelV v u->∃as,Reads s.heap u d as
 | _,_,u,.int i,r=>by obtain⟨t,rfl⟩:=(show ∃t,u=Value.int i t from r);exact⟨_,.int i t⟩
 | _,_,u,.non,r=>by obtain rfl:u=Value.none:=r;exact⟨_,.none⟩
 | _,_,u,.bl b,r=>by obtain rfl:u=Value.bool b:=r;exact⟨_,.bool b⟩
 | _,_,u,.str x _,r=>by obtain⟨t,rfl⟩:=(show ∃t,u=Value.str x t from r);exact⟨_,.str x t⟩
 | _,_,u,.lst (p:=p) hq ha,r=>by
  obtain rfl:u = .ref p:=r;obtain⟨its,r',pl,hz⟩:=I.list hq;obtain⟨o,ho,hc,n,hd⟩:=pl.isList;obtain⟨as,z⟩:=cD.reads I ha r';exact⟨_,.list ho hc hd (by simpa using z)⟩
 | _,_,u,.tup (p:=p) hq ha,r=>by
  obtain rfl:u = .ref p:=r;obtain⟨its,r',pl,hz⟩:=I.tuple hq;obtain⟨o,ho,hc,n,hd⟩:=pl;obtain⟨as,z⟩:=cD.reads I ha r';exact⟨_,.tuple ho hc hd (by simpa using z)⟩
theorem cD.reads(I:Inv X pins σ H s):∀{vs:List V}{ds:List qFo}{us:List qAf},cD X.K H vs ds->Vals vs us->∃as,ReadsAll s.heap us ds as
 | _,_,_,.nil,.nil=>⟨_,.nil⟩
 | _,_,_,.cons h t,.cons r rs=>by
  obtain⟨a1,z1⟩:=hZ.reads I h r;obtain⟨a2,z2⟩:=cD.reads I t rs;exact⟨_,.cons z1 z2⟩
end
mutual
theorem hZ.lay{K:qAb}{H:Hp}:∀{v:V}{d:qFo},hZ K H v d->d.canLay0=true/\PyData.eqv d d=true
 | _,_,.int i=>⟨rfl,by simp[PyData.eqv]⟩
 | _,_,.non=>⟨rfl,by simp[PyData.eqv]⟩
 | _,_,.bl b=>⟨rfl,by simp[PyData.eqv]⟩
 | _,_,.str x h=>⟨h,by simp[PyData.eqv]⟩
 | _,_,.lst _ h=>by
  obtain⟨a,b⟩:=cD.lay h;exact⟨by simpa [PyData.canLay0] using a,by simpa [PyData.eqv] using b⟩
 | _,_,.tup _ h=>by
  obtain⟨a,b⟩:=cD.lay h;exact⟨by simpa [PyData.canLay0] using a,by simpa [PyData.eqv] using b⟩
theorem cD.lay{K:qAb}{H:Hp}:∀{vs:List V}{ds:List qFo},cD K H vs ds->PyData.canLayAll0 ds=true/\PyData.eqvAll ds ds=true
 | _,_,.nil=>⟨rfl,rfl⟩
 | _,_,.cons h t=>by
  obtain⟨a,b⟩:=hZ.lay h;obtain⟨c,d⟩:=cD.lay t;exact⟨by simp[PyData.canLayAll0,a,c],by simp[PyData.eqvAll,b,d]⟩
end
mutual
theorem hZ.same{K:qAb}{H H':Hp}(s:aI H H'):∀{v:V}{d:qFo},hZ K H v d->hZ K H' v d
 | _,_,.int i=>.int i
 | _,_,.non=>.non
 | _,_,.bl b=>.bl b
 | _,_,.str x h=>.str x h
 | _,_,.lst q h=>.lst (s.seq q) (cD.same s h)
 | _,_,.tup q h=>.tup (s.KP q) (cD.same s h)
theorem cD.same{K:qAb}{H H':Hp}(s:aI H H'):∀{vs:List V}{ds:List qFo},cD K H vs ds->cD K H' vs ds
 | _,_,.nil=>.nil
 | _,_,.cons h t=>.cons (hZ.same s h) (cD.same s t)
end
end
section
variable {X:Cx}
end
section
variable {X:Cx}
variable {o e:Expr}{es:List Expr}{to:TE}{t:TA}{name:Str}{apos cpos:Pos}{T id:String}{r:V->List V->Hp->VK->Prop}
end
section
variable {A:qCu}{prog:qBc}{w:qCd}{E:qAf->qAk->Prop}
end
section
variable {X:Cx}{pos:Pos}
end
section
variable {κ:Type} [DecidableEq κ]
def jH(kvs:List (κ×V))(k:κ):Option V:=(kvs.find? fun kv=>decide (kv.1=k)).map (·.2)
def putK(kvs:List (κ×V))(k:κ)(v:V):List (κ×V) :=
 if (kvs.any fun kv=>decide (kv.1=k))=true then kvs.map (fun kv=>if kv.1=k then (kv.1,v) else kv) else kvs++[(k,v)]
theorem jS{p:κ×V}{r:List (κ×V)}{k:κ}(e:p.1=k):jH (p::r) k=some p.2:=by simp[jH,qEq,e]
theorem jT{p:κ×V}{r:List (κ×V)}{k:κ}(e:¬p.1=k):jH (p::r) k=jH r k:=by simp[jH,qEq,e]
theorem mH(k:κ):∀kvs:List (κ×V),(kvs.any fun kv=>decide (kv.1=k))=(jH kvs k).isSome
 | []=>rfl
 | p::r=>by
  rw[qGd];by_cases e:p.1=k
  ·simp only[jS e,decide_eq_true e,Bool.true_or,Option.isSome_some]
  ·rw[jT e,decide_eq_false e,qLv];exact mH k r
theorem kW(kvs:List (κ×V))(k:κ)(v:V):(putK kvs k v).length<=kvs.length+1:=by
 unfold putK;split
 ·rw[qAa];lia
 ·rw[qAn,qBj,List.length_nil];lia
theorem Ao{kvs:List (κ×V)}{k:κ}(v:V)(h:jH kvs k=none):putK kvs k v=kvs++[(k,v)]:=by
 unfold putK;rw[mH,h];exact if_neg (by decide)
theorem jI.kH(r:jI o u):o.isSome=u.isSome:=by
 cases o with
 | none=>cases u with
  | none=>rfl
  | some _=>exact(show False from r).elim
 | some _=>cases u with
  | none=>exact(show False from r).elim
  | some _=>rfl
theorem KV.val{kvs:List (κ×V)}{vs:List (κ×qAf)}(r:KV kvs vs)(k:κ):jI (jH kvs k) (qKq vs k):=by
 unfold KV at r;induction r with
 | nil=>exact True.intro
 | @cons p q ps qs h t ih =>
  obtain⟨h1,h2⟩:=h;by_cases e:p.1=k
  ·have e':q.1=k:=h1.symm.trans e;have b:qKq (q::qs) k=some q.2:=by simp[qKq,qEq,e']
   rw[jS e,b];exact h2
  ·have e':¬q.1=k:=fun z=>e (h1.trans z);have b:qKq (q::qs) k=qKq qs k:=by simp[qKq,qEq,e']
   rw[jT e,b];exact ih
theorem KV.any(r:KV kvs vs)(k:κ):(kvs.any fun kv=>decide (kv.1=k))=vs.any fun kv=>decide (kv.1=k):=by
 unfold KV at r;induction r with
 | nil=>rfl
 | cons h t ih=>rw[qGd,qGd,ih,h.1]
theorem KV.EU(r:KV kvs vs)(k:κ){y:V}{u:qAf}(ry:RelV y u):
  KV (kvs.map fun kv=>if kv.1=k then (kv.1,y) else kv) (vs.map fun kv=>if kv.1=k then (kv.1,u) else kv):=by
 unfold KV at r|-;induction r with
 | nil=>exact .nil
 | @cons p q ps qs h t ih =>
  rw[qBi,qBi];refine .cons ?_ ih;obtain⟨h1,h2⟩:=h;by_cases e:p.1=k
  ·rw[if_pos e,if_pos (h1.symm.trans e)];exact⟨h1,ry⟩
  ·rw[if_neg e,if_neg (fun z=>e (h1.trans z))];exact⟨h1,h2⟩
theorem KV.put(r:KV kvs vs)(k:κ){y:V}{u:qAf}(ry:RelV y u):KV (putK kvs k y) (stored vs k u):=by
 unfold putK stored;rw[r.any k];by_cases e:(vs.any fun kv=>decide (kv.1=k))=true
 ·rw[if_pos e,if_pos e];exact r.EU k ry
 ·rw[if_neg e,if_neg e];exact Paired.snoc r ⟨rfl,ry⟩
theorem KV.length(r:KV kvs vs):kvs.length=vs.length:=Paired.length r
end
theorem Ap(r:RelV (kV k) u):(dM P w).is k u=true:=by
 cases k with
 | inl i=>obtain⟨t,e⟩:=(show ∃t,u=Value.int i t from r);subst e;exact rJ P w i t
 | inr x=>obtain⟨t,e⟩:=(show ∃t,u=Value.str x t from r);subst e;exact rK P w x t
theorem oR:∀{ks:List Key}{us:List qAf},Vals (ks.map kV) us->ItemsAre (dM P w) ks us
 | [],_,r=>by rw[qDz] at r;cases r;exact .nil
 | k::ks,_,r=>by
  rw[qBi] at r;cases r with
  | cons h t=>exact .cons (Ap h) (oR t)
abbrev KT(H:Hp):List (List Key×V)->List (List Key×Addr×qAf)->Prop:=Paired fun p q=>p.1=q.1/\H q.2.1=some (.tup (p.1.map kV))/\RelV p.2 q.2.2
theorem KT.val{H:Hp}{kvs:List (List Key×V)}{xs:List (List Key×Addr×qAf)}(r:KT H kvs xs)(k:List Key):jI (jH kvs k) ((qMf xs k).map (·.2)):=by
 induction r with
 | nil=>exact True.intro
 | @cons p q ps qs h t ih =>
  obtain⟨h1,_,h2⟩:=h;by_cases e:p.1=k
  ·have e':q.1=k:=h1.symm.trans e;have b:qMf (q::qs) k=some q.2:=by simp[qMf,qEq,e']
   rw[jS e,b];exact h2
  ·have e':¬q.1=k:=fun z=>e (h1.trans z);have b:qMf (q::qs) k=qMf qs k:=by simp[qMf,qEq,e']
   rw[jT e,b];exact ih
theorem KT.EU(r:KT H kvs xs)(k:List Key){y:V}{u:qAf}(ry:RelV y u):
  KT H (kvs.map fun kv=>if kv.1=k then (kv.1,y) else kv) (xs.map (putAt k u)):=by
 induction r with
 | nil=>exact .nil
 | @cons p q ps qs h t ih =>
  rw[qBi,qBi];refine .cons ?_ ih;obtain⟨h1,h2,h3⟩:=h;unfold putAt;by_cases e:p.1=k
  ·rw[if_pos e,if_pos (h1.symm.trans e)];exact⟨h1,h2,ry⟩
  ·rw[if_neg e,if_neg (fun z=>e (h1.trans z))];exact⟨h1,h2,h3⟩
theorem KT.put(r:KT H kvs xs)(k:List Key){b:Addr}{y:V}{u:qAf}(hb:H b=some (.tup (k.map kV)))(ry:RelV y u):
  KT H (putK kvs k y) (storedH xs k b u):=by
 have e:(kvs.any fun kv=>decide (kv.1=k))=(qMf xs k).isSome:=by
  rw[mH,(r.val k).kH,qJx]
 unfold putK storedH;rw[e];by_cases q:(qMf xs k).isSome=true
 ·rw[if_pos q,if_pos q];exact r.EU k ry
 ·rw[if_neg q,if_neg q];exact Paired.snoc r ⟨rfl,hb,ry⟩
theorem KT.keeps(r:KT H kvs xs)(ht:∀b ys,H b=some (.tup ys)->H' b=some (.tup ys)):KT H' kvs xs :=
 Paired.Ei r fun _ _ z=>⟨z.1,ht _ _ z.2.1,z.2.2⟩
section
variable {P:qBc}{w:qCd}{H:Hp}{h:Heap}{a:Addr}
theorem DA(ok:jD P w H h)(e:Rd H a u):cZ P w H h a u:=e.ok ok
theorem DB(ok:jD P w H h)(e:Rd H a (.dK kvs)):kvs.length<=qAg/\(a == qFe)=false/\∃vs,KV kvs vs/\h.DictOf (dM P w) a vs :=
 show cZ P w H h a (.dK kvs) from DA ok e
theorem Jg(ok:jD P w H h)(e:H a=some (.dK kvs)):kvs.length<=qAg/\(a == qFe)=false/\∃vs,KV kvs vs/\h.DictOf (dM P w) a vs:=DB ok (.inl e)
theorem uF(ok:jD P w H h)(e:H a=some (.tup (ks.map kV))):(qJl (dM P w)).is h ks a:=by
 obtain⟨_,its,r,o,h1,h2,n,h3⟩:=(show cZ P w H h a (.tup (ks.map kV)) from ok a _ e);exact⟨o,its.toArray,n,h1,h2,h3,by simpa using oR r⟩
theorem DC(ok:jD P w H h)(e:Rd H a (.dT kvs)):kvs.length<=qAg/\(a == qFe)=false /\
  ∃xs,KT H kvs xs/\h.DictOfH (qJl (dM P w)) a xs:=by
 obtain⟨z,y,xs,r,o,es,ep,h1,h2,h3,h4,h5⟩:=(show cZ P w H h a (.dT kvs) from DA ok e);refine⟨z,y,xs,r,o,es,ep,h1,h2,h3,h4,fun x hx=>?_,h5⟩;have all:∀{l:List (List Key×V)}{m:List (List Key×Addr×qAf)},KT H l m->∀x∈m,(qJl (dM P w)).is h x.1 x.2.1:=by
  intro l m q;induction q with
  | nil=>intro x hx;exact nomatch hx
  | @cons p q ps qs hq t ih =>
   intro x hx;rcases List.mem_cons.mp hx with e | hx
   ·subst e;exact uF ok (by rw[<- hq.1];exact hq.2.1)
   ·exact ih x hx
 exact all r x hx
theorem Jh(ok:jD P w H h)(e:H a=some (.dT kvs)):kvs.length<=qAg/\(a == qFe)=false /\
  ∃xs,KT H kvs xs/\h.DictOfH (qJl (dM P w)) a xs:=DC ok (.inl e)
end
def Aq(H:Hp)(a:Addr)(y:V)(r:Option V):Prop :=
 (∃kvs k,Rd H a (.dK kvs)/\y=kV k/\r=jH kvs k)\/∃kvs k b,Rd H a (.dT kvs)/\y = .ref b/\H b=some (.tup (k.map kV))/\r=jH kvs k
def Ar(H:Hp)(a:Addr)(y v:V)(H':Hp):Prop :=
 (∃kvs k,H a=some (.dK kvs)/\y=kV k/\kvs.length<qAg/\H'=upd H a (.dK (putK kvs k v))) \/
 ∃kvs k b,H a=some (.dT kvs)/\y = .ref b/\H b=some (.tup (k.map kV))/\kvs.length<qAg/\H'=upd H a (.dT (putK kvs k v))
theorem Aq.t{H:Hp}{a b:Addr}{kvs:List (List Key×V)}{k:List Key}(e:H a=some (.dT kvs))(eb:H b=some (.tup (k.map kV))):Aq H a (.ref b) (jH kvs k):=.inr ⟨kvs,k,b,.inl e,rfl,eb,rfl⟩
theorem Ar.t{H:Hp}{a b:Addr}{kvs:List (List Key×V)}{k:List Key}{v:V}(e:H a=some (.dT kvs))(eb:H b=some (.tup (k.map kV)))(hl:kvs.length<qAg):
  Ar H a (.ref b) v (upd H a (.dT (putK kvs k v))):=.inr ⟨kvs,k,b,e,rfl,eb,hl,rfl⟩
section
variable {X:Cx}{pins:List (Addr×Obj)}{σ:St}{H:Hp}{s:qAk}{a:Addr}{y v:V}{u r:qAf}{o:Option V}{A:qCu}{E:qAf->qAk->Prop}
theorem Lz(hu:A.units+1<qMc)(I:Inv X pins σ H s)(g:Aq H a y o)(ry:RelV y u)(h:∀s',Inv X pins σ H s'->Q (.bool o.isSome) s'):
  qBs (qBz X.prog X.w) A (qDp .In u (.ref a)) Q E s:=by
 rcases g with ⟨kvs,k,e,ey,l⟩ | ⟨kvs,k,b,e,ey,eb,l⟩
 ·subst ey;obtain⟨z,hd,vs,rel,dd⟩:=DB I.cQ e;refine wpAny_in_of (Ap ry) hd dd.mapOf ?_;rw[<- (rel.val k).kH,<- l];exact h _ (I.tok _)
 ·subst ey;cases (show u=Value.ref b from ry);obtain⟨z,hd,xs,rel,dd⟩:=DC I.cQ e;refine wpAny_in_heap (tupleKind_room_in1 hu) (uF I.cQ eb) hd dd ?_;have q:=(rel.val k).kH;rw[qJx] at q;rw[<- q,<- l];exact h _ (I.tok _)
theorem vQ(I:Inv X pins σ H s)(mu:Iw (H a))(hs:qHp a s.heap h')(he:∃q,h'.get? a=some q)(new:cZ X.prog X.w (upd H a ob) h' a ob):
  Inv X pins σ (upd H a ob) { s with heap:=h',toks:=t' } :=
 I.write (x:=a) (e:=a) mu (.inl rfl) (fun b q hb z=>(hs.2 b hb).trans z) he new
theorem EV(z:kvs.length<=qAg)(hd:(a == qFe)=false)(rel:KV kvs vs)(dd:h'.DictOf (dM P w) a vs):
  cZ P w H' h' a (.dK kvs):=⟨z,hd,vs,rel,dd⟩
theorem xS(hu:A.units+1<qMc)(I:Inv X pins σ H s)(g:Ar H a y v H')(ry:RelV y u)(rv:RelV v r)(h:∀s',Inv X pins σ H' s'->Q () s'):
  qBs (qBz X.prog X.w) A (setItem (.ref a) u r) Q E s:=by
 rcases g with ⟨kvs,k,e,ey,l,eH⟩ | ⟨kvs,k,b,e,ey,eb,l,eH⟩
 ·subst ey eH;obtain⟨z,hd,vs,rel,dd⟩:=Jg I.cQ e;have hz:vs.length<=qAg:=by rw[<- rel.length];exact z
  have hl:(putK kvs k v).length<=qAg:=by have:=kW kvs k v;lia
  refine wpAny_setItem_pairs (hsz:=hz) (Ap ry) dd fun h' dd' hs=>h _ ?_;have he:∃q,h'.get? a=some q:=let ⟨q,_,_,hq,_⟩:=dd';⟨q,hq⟩;exact vQ I (by rw[e];exact True.intro) hs he (EV hl hd (rel.put k rv) dd')
 ·subst ey eH;cases (show u=Value.ref b from ry);obtain⟨z,hd,xs,rel,dd⟩:=Jh I.cQ e;have hz:xs.length<=qAg:=by rw[<- Paired.length rel];exact z
  have hl:(putK kvs k v).length<=qAg:=by have:=kW kvs k v;lia
  refine wpAny_setItem_heap (hsz:=hz) (tupleKind_room_in1 hu) (uF I.cQ eb) dd fun h' dd' hs=>h _ ?_;obtain⟨q,es,ep,hq,h2,h3,h4,_,h5⟩:=dd';refine vQ I (by rw[e];exact True.intro) hs ⟨q,hq⟩ ⟨hl,hd,_,(rel.put k eb rv).keeps fun c ys ec=>?_,q,es,ep,hq,h2,h3,h4,h5⟩;rw[aL (e8 ec e (fun z=>nomatch z))];exact ec
end
section
variable {X:Cx}{pins:List (Addr×Obj)}{σ:St}{H:Hp}{s:qAk}{a:Addr}{kvs:List (Key×V)}{k:Key}{u:qAf}{A:qCu}{E:qAf->qAk->Prop}
end
def LA(ty td:TE):TE:=fun σ H Q=>ty σ H fun y H1=>td σ H1 fun x H2=>∃a o,x = .ref a/\Aq H2 a y o/\Q (.bl o.isSome) H2
def Ji(td ty tv:TE):TS:=fun D σ H=>tv σ H fun v H1=>td σ H1 fun x H2=>ty σ H2 fun y H3=>∃a H4,x = .ref a/\Ar H3 a y v H4/\D.nx σ H4
section
variable {X:Cx}{o i e value:Expr}{pos pos' tpos:Pos}{td ty tv:TE}
theorem EW(hu:X.A.units+1<qMc)(hi:PE X i ty)(ho:PE X o td):PC X .In i o (LA ty td):=by
 intro pins s σ H Q I h;refine bX (hi pins s σ H _ I h) fun iv s1 ⟨y,H1,I1,ry,q1⟩=>bX (ho pins s1 σ H1 _ I1 q1) fun u s2 ⟨x,H2,I2,rx,a,ov,ex,g,q2⟩=>?_;subst ex;obtain rfl:u=Value.ref a:=rx;exact Lz hu I2 g ry fun s3 I3=>⟨.bl ov.isSome,H2,I3,rfl,q2⟩
theorem Co(hu:X.A.units+1<qMc)(ho:PE X o td)(hi:PE X i ty)(hv:PE X value tv)(hs:qJm value (some (.Subscript o i pos')) pos.line X.env=pure false):
  PS X (.Assign [.Subscript o i pos'] value pos) (Ji td ty tv):=by
 intro pins s σ H D I h;refine wpAny_Assign_Subscript (bX (hv pins s σ H _ I h) fun r s1 ⟨v,H1,I1,rv,q1⟩=>bX (ho pins s1 σ H1 _ I1 q1) fun u s2 ⟨x,H2,I2,rx,q2⟩=>bX (hi pins s2 σ H2 _ I2 q2) fun iv s3 ⟨y,H3,I3,ry,a,H4,ex,g,q3⟩=>?_) hs;subst ex;obtain rfl:u=Value.ref a:=rx;exact xS hu I3 g ry rv fun s4 I4=>⟨σ,H4,I4,q3⟩
end
section
variable {κ:Type} [DecidableEq κ]
end
theorem As(h:Heap)(hb:qFe<h.objs.size):cZ P w H (h.push { cls:=.type "dict",data:=.dict #[] }) h.objs.size (.dT []) :=
 ⟨qBm _,beq_eq_false_iff_ne.mpr (Ne.symm (qBn hb)),[],.nil,_,#[],0,qBa _ rfl,⟨rfl,rfl,rfl⟩,rfl,rfl,qIt⟩
def EX:TE:=fun _ H Q=>∀p,H p=none->Q (.ref p) (upd H p (.dT []))
section
variable {X:Cx}{pos:Pos}
theorem Au:PE X (.Dict [] [] pos) EX:=fun pins s σ H Q I h =>
 wpAny_Dict_empty ⟨.ref s.heap.objs.size,_,I.laid (a:=s.heap.objs.size) (o:=.dT []) (t':=s.toks) (fun _ _ q=>qAh _ q) (qAi _) (As s.heap I.big),rfl,h _ (I.cQ.fresh (qAi _))⟩
end
end L2
namespace PySem.W
open PySem PySem.Calls PyProof.Rows
def KasT.Ok{α:Type}(n:Nat)(P:α->Prop):KasT α->Prop
 | .ret a=>P a
 | .ask i j k=>i<n/\j<n/\∀b,(k b).Ok n P
theorem KasT.Ok.bind{α β:Type}{n:Nat}{P:α->Prop}{P':β->Prop}{f:α->KasT β}:∀{t:KasT α},t.Ok n P->(∀a,P a->(f a).Ok n P')->(t.bind f).Ok n P'
 | .ret a,h,hf=>hf a h
 | .ask i j k,h,hf=>⟨h.1,h.2.1,fun b=>KasT.Ok.bind (h.2.2 b) hf⟩
def KasT.run{α:Type}(lt:Nat->Nat->Bool):KasT α->α
 | .ret a=>a
 | .ask i j k=>(k (lt i j)).run lt
theorem KasT.Ok.wp(lt:Nat->Nat->Bool)(hc:∀i j C,i<n->j<n->C (lt i j) s->cmp i j C s):
  ∀{t:KasT α},t.Ok n P->(∀a,P a->a=t.run lt->Q a s)->t.kasWp cmp Q s
 | .ret a,h,hQ=>hQ a h rfl
 | .ask i j k,h,hQ=>hc i j _ h.1 h.2.1 (KasT.Ok.wp lt hc (h.2.2 (lt i j)) hQ)
def gF(n:Nat)(p:Array Nat):Prop:=p.toList.Perm (qAq n)
theorem gF.lt(h:gF n p)(hn:0<n)(i:Nat):p.getD i 0<n:=by
 by_cases hi:i<p.size
 ·have e:p.getD i 0=p[i]:=by simp[qFf,hi]
  rw[e];exact List.mem_range.mp (h.mem_iff.mp (by simp))
 ·have e:p.getD i 0=0:=by simp[qFf,hi]
  rw[e];exact hn
theorem gF.rev(h:gF n p)(i j:Nat):gF n (kas_rev p i j):=(Array.perm_iff_toList_perm.mp (mirror_perm p i j ((j-i)/2))).trans h
theorem gF.MM(h:gF n p)(i j:Nat):gF n (bubble p i j):=(Array.perm_iff_toList_perm.mp (bubble_perm p i j)).trans h
theorem uG(h:gF n p)(hn:0<n):∀f m,(kas_asc p f m).Ok n (fun _=>True)
 | 0,m=>trivial
 | f+1,m=>⟨h.lt hn _,h.lt hn _,fun b=>by
  cases b with
  | true=>exact trivial
  | false=>exact uG h hn f (m+1)⟩
theorem lP(hn:0<n):∀f p m q,gF n p->(kas_desc f p m q).Ok n (fun r=>gF n r.1)
 | 0,p,m,q,h=>h
 | f+1,p,m,q,h=>⟨h.lt hn _,h.lt hn _,fun b=>by
  cases b with
  | true =>
   show KasT.Ok n _ (if q>0 then _ else _);split
   ·exact lP hn f _ _ _ (h.rev _ _)
   ·exact lP hn f _ _ _ h
  | false=>exact⟨h.lt hn _,h.lt hn _,fun d=>by
    cases d with
    | true=>exact h
    | false=>exact lP hn f _ _ _ h⟩⟩
theorem sF{n:Nat}(hn:0<n)(a m:Nat){p:Array Nat}(h:gF n p):(kas_tail3 a m p).Ok n (fun r=>gF n r.2) :=
 KasT.Ok.bind (uG (h.rev 0 a) hn _ _) fun _ _=>h.rev 0 a
theorem kX{n:Nat}(hn:0<n)(a m:Nat){p:Array Nat}(h:gF n p):(kas_descPart a m p).Ok n (fun r=>gF n r.2) :=
 KasT.Ok.bind (lP hn _ _ _ _ h) fun r hr=>by
  show KasT.Ok n _ (if r.2.2>0 then _ else _);split
  ·exact sF hn _ _ (hr.rev _ _)
  ·exact sF hn _ _ hr
theorem Av{n:Nat}(hn:0<n)(m:Nat){p:Array Nat}(h:gF n p):(kas_count m p).Ok n (fun r=>gF n r.2) :=
 KasT.Ok.bind (uG h hn _ _) fun a _=>by
  show KasT.Ok n _ (if (a == m)=true then _ else if a>1 then _ else _);split
  ·exact h
  ·split
   ·exact⟨h.lt hn _,h.lt hn _,fun b=>by
     cases b with
     | true=>exact h
     | false=>exact kX hn _ _ (h.rev _ _)⟩
   ·exact kX hn _ _ h
theorem mI(h:gF n p)(hn:0<n)(k:Nat):∀f l r,(kas_place p k f l r).Ok n (fun _=>True)
 | 0,l,r=>trivial
 | f+1,l,r=>by
  show KasT.Ok n _ (if l≥r then _ else _);split
  ·exact trivial
  ·exact⟨h.lt hn _,h.lt hn _,fun b=>by
    cases b with
    | true=>exact mI h hn k f _ _
    | false=>exact mI h hn k f _ _⟩
theorem Aw{n:Nat}(hn:0<n):∀f p k,gF n p->(kas_bin f p k).Ok n (gF n)
 | 0,p,k,h=>h
 | f+1,p,k,h=>KasT.Ok.bind (mI h hn k _ _ _) fun l _=>Aw hn f _ _ (h.MM _ _)
theorem qI{n:Nat}(hn:0<n):(kas_sort n).Ok n (gF n) :=
 KasT.Ok.bind (Av hn n (show gF n (qDy (qAq n)) from List.Perm.refl _)) fun r hr=>by
  show KasT.Ok n _ (if r.1<n then _ else _);split
  ·exact Aw hn _ _ _ hr
  ·exact hr
section
variable {prog:qBc}{w:qCd}{A:qCu}{E:qAf->qAk->Prop}{s:qAk}
theorem xT(h:n<2)(lt:Nat->Nat->Bool):(kas_sort n).run lt=qDy (qAq n):=by
 have c:n=0\/n=1:=by lia
 rcases c with rfl | rfl
 ·rfl
 ·rfl
theorem nU(ho:s.heap.get? a=some (qDk "list" vs.toArray n))(h64:vs.length<64)(lt:Nat->Nat->Bool)
  (ht:∀h',(∀b o,b≠a->s.heap.get? b=some o->h'.get? b=some o)->KatTups h' vs fs) (hT:∀v∈fs,∃i t,v=Value.int i t)
  (ask:∀h',(∀b o,b≠a->s.heap.get? b=some o->h'.get? b=some o)->∀i j C,i<vs.length->j<vs.length->C (lt i j) { s with heap:=h' }->kas_ask prog w A (tuples' true) vs i j C { s with heap:=h' })
  (h:∀p:Array Nat,gF vs.length p->p=(kas_sort vs.length).run lt->P (.done (.ret .none)) { s with heap:=qIo s.heap a vs (qDy (p.toList.map fun i=>vs.getD i Value.none)) }) :
  qBs (qBz prog w) A (Builtin.«list.sort» ⟨[.ref a],[]⟩) P E s:=by
 have ha:a<s.heap.objs.size:=qAy ho;have hsz:vs.toArray.size=vs.length:=by simp
 rw[list_sort_plain];refine qAe (listItems_at ho rfl ?_);refine qAe (listUpdate_at ho rfl ?_ (by rw[qAw,qEv];lia) (qBm _));obtain⟨e1,ho1⟩:∃e1,(s.heap.update a (Obj.mapSeq fun _=>(#[]:Array qAf))).get? a=some (qDk "list" #[] e1):=⟨_,qFx ho fun _=>#[]⟩;refine qAe (seqEpoch_at ho1 rfl ?_);refine qAe (wpAny_newTuple ?_ (by show vs.length<=_;rw[qEv];lia));refine qAe (wpAny_newList ?_ (qBm _));refine qCs ?_;have ho6:(((s.heap.update a (Obj.mapSeq fun _=>(#[]:Array qAf))).push (qDk "tuple" vs.toArray 0)).push (qDk "list" #[] 0)).get? a=some (qDk "list" #[] e1):=by
  rw[qKv _ _ _ (by rw[qKf,qGg];exact qBn (qHo ha)),qKv _ _ _ (by rw[qGg];exact qBn ha)];exact ho1
 have keep:∀b o,b≠a->s.heap.get? b=some o->(((s.heap.update a (Obj.mapSeq fun _=>(#[]:Array qAf))).push (qDk "tuple" vs.toArray 0)).push (qDk "list" #[] 0)).get? b=some o:=fun b o hb q=>by
  refine qAh _ (qAh _ ?_);rw[qFk _ _ _ _ hb];exact q
 show qBs (qBz prog w) A _ P E { s with heap:=((s.heap.update a (Obj.mapSeq fun _=>(#[]:Array qAf))).push (qDk "tuple" vs.toArray 0)).push (qDk "list" #[] 0) };dsimp only;by_cases h2:vs.toArray.size<2
 ·rw[if_pos h2,if_pos h2];refine qAe (qAv ?_);rw[StateT.run_pure];refine qAe (qAv ?_);dsimp only;refine qAe (seqEpoch_at ho6 rfl ?_);refine qAe (listUpdate_at ho6 rfl ?_ (qBm _) (by rw[Array.size_map];show(pairsOf vs).size<=_;rw[pairsOf_size,qEv];lia));simp only[bne_self_eq_false,qHg,if_false];have e:(arrOf (SortSt.mk' general' (vs.toArray.zip vs.toArray) #[] 7 none)).map (·.2)=qDy ((qDy (qAq vs.length)).toList.map fun i=>vs.getD i Value.none):=by
   have hr:=kas_range (vs.toArray.zip vs.toArray);rw[show(vs.toArray.zip vs.toArray).size=vs.length by simp] at hr;exact kat_snds (ks:=vs) (vs:=vs) rfl (st:=SortSt.mk' general' (vs.toArray.zip vs.toArray) #[] 7 none) (p:=qDy (qAq vs.length)) hr.symm
  have z:=h (qDy (qAq vs.length)) (List.Perm.refl _) (xT (by lia) lt).symm;rw[<- e] at z;exact qAv z
 ·rw[if_neg h2,if_neg h2];have h2':2<=vs.length:=by lia
  refine qAe (kat_kind (T:=.type "int") (ht _ keep) ?_ (fun v hv=>?_) (by decide) ?_)
  ·have t:=ht _ keep;cases vs with
   | nil=>simp at h2'
   | cons v r =>
    cases fs with
    | nil=>exact t.elim
    | cons f fr=>exact qMl _
  ·obtain⟨i,t,rfl⟩:=hT v hv;exact .now
  show qBs (qBz prog w) A _ P E _;refine qAe (qFc (kat_run (ks:=vs) (κ:=tuples' true) (G:=fun p s'=>(gF vs.length p/\p=(kas_sort vs.length).run lt)/\s'={ s with heap:=((s.heap.update a (Obj.mapSeq fun _=>(#[]:Array qAf))).push (qDk "tuple" vs.toArray 0)).push (qDk "list" #[] 0) })
   (Q:=fun st' s'=>∃p:Array Nat,p.size=vs.length/\arrOf st'=p.map (kas_item (vs.toArray.zip vs.toArray))/\failedOf st'=none/\(gF vs.length p/\p=(kas_sort vs.length).run lt)/\s'={ s with heap:=((s.heap.update a (Obj.mapSeq fun _=>(#[]:Array qAf))).push (qDk "tuple" vs.toArray 0)).push (qDk "list" #[] 0) })
   rfl h2' h64 (fun p' st' s' a1 a2 a3 a4=>⟨p',a1,a2,a3,a4.1,a4.2⟩) ((qI (by lia)).wp lt (ask _ keep) fun p hp hrun=>⟨⟨hp,hrun⟩,rfl⟩)) ?_ fun _ _ e=>e)
  rintro⟨⟨⟩,st'⟩ s' ⟨p,hp,har,hf,hpm,rfl⟩;dsimp only;have hout:=kat_snds (ks:=vs) (vs:=vs) rfl har;rw[hout];refine qAe (seqEpoch_at ho6 rfl ?_);refine qAe (listUpdate_at ho6 rfl ?_ (qBm _) (by rw[qAw,qAa,qCo,hp,qEv];lia));rw[hf];simp only[bne_self_eq_false,qHg,if_false];exact qAv (h p hpm.1 hpm.2)
def iT(h:Heap)(vs:List qAf):Heap:=((h.push (qDk "list" #[] 0)).update h.objs.size (Obj.mapSeq (· ++ vs.toArray))).push (qDk "list" vs.toArray 0)
theorem jU(q:h.get? b=some o):(iT h vs).get? b=some o:=by
 have hlt:b<h.objs.size:=qAy q;refine qAh _ ?_;rw[qFk _ _ _ _ (qBn hlt)];exact qAh _ q
theorem uH(hl:s.heap.IsList l vs.toArray)(h64:vs.length<64)(lt:Nat->Nat->Bool)
  (ht:∀h':Heap,(∀b o,s.heap.get? b=some o->h'.get? b=some o)->KatTups h' vs fs) (hT:∀v∈fs,∃i t,v=Value.int i t)
  (ask:∀h':Heap,(∀b o,s.heap.get? b=some o->h'.get? b=some o)->∀i j C,i<vs.length->j<vs.length->C (lt i j) { s with heap:=h' }->kas_ask prog w A.in1.in1 (tuples' true) vs i j C { s with heap:=h' })
  (h:∀p:Array Nat,gF vs.length p->p=(kas_sort vs.length).run lt->Q (.ref (s.heap.objs.size+1)) { s with heap:=sortedAll s.heap vs (qDy (p.toList.map fun i=>vs.getD i Value.none)) }) :
  qBs (qBz prog w) A (call (.builtin "sorted") [.ref l]) Q E s:=by
 refine Calls.call_function_entry kind_sorted plain_sorted entry_sorted (args_sorted1 _) ?_;unfold Builtin.«sorted»;refine qAe (m:=checkCount "sorted" 1 1 _) (qAv ?_);refine qAe (collect_list hl ?_ (by rw[qEv];lia));refine qAe (wpAny_newList ?_ (by rw[qEv];lia));have hsz:((s.heap.push (qDk "list" #[] 0)).update s.heap.objs.size (Obj.mapSeq (· ++ vs.toArray))).objs.size=s.heap.objs.size+1:=by
  rw[qGg,qKf]
 have hoL:(((s.heap.push (qDk "list" #[] 0)).update s.heap.objs.size (Obj.mapSeq (· ++ vs.toArray))).push (qDk "list" vs.toArray 0)).get? (s.heap.objs.size+1)=some (qDk "list" vs.toArray 0):=by
  rw[<- hsz];exact qBa _ rfl
 show qBs _ _ _ _ _ { s with heap:=((s.heap.push (qDk "list" #[] 0)).update s.heap.objs.size (Obj.mapSeq (· ++ vs.toArray))).push (qDk "list" vs.toArray 0) };rw[hsz];have kp:∀h':Heap,(∀b o,b≠s.heap.objs.size+1->(iT s.heap vs).get? b=some o->h'.get? b=some o)->∀b o,s.heap.get? b=some o->h'.get? b=some o:=fun h' hk b o q =>
  hk b o (qBn (qHo (qAy q))) (jU q)
 refine qAe (qCs (wpAny_call_entry slot_list_sort ⟨_,hoL,rfl⟩ entry_list_sort (nU (s:={ s with heap:=iT s.heap vs }) (fs:=fs) hoL h64 lt (fun h' hk=>ht h' (kp h' hk)) hT (fun h' hk i j C hi hj hC=>ask h' (kp h' hk) i j C hi hj hC) fun p hp hrun=>⟨_,rfl,?_⟩) (args_list_sort _)));exact qAv ⟨_,rfl,h p hp hrun⟩
end
end PySem.W
namespace L2
open PySem PySem.Spec PyProof.Rows PySem.W
theorem vR:∀(vs us:List qAf) (ns ms:List Int) (i:Nat),qHq vs ns->qHq us ms->Q (HT.lexLt ns ms) s->KatLex prog w A true (decide (vs.length<us.length)) Q (vs.zip us) i s
 | [],[],_,_,i,.nil,.nil,h=>h
 | [],_::_,_,_,i,.nil,.cons ..,h=>by
  show Q (decide _) s;rw[decide_eq_true (by simp)];exact h
 | _::_,[],_,_,i,.cons ..,.nil,h=>by
  show Q (decide _) s;rw[decide_eq_false (by simp)];exact h
 | _,_,_,_,i,.cons n t (vs:=vs) (ns:=ns) hv,.cons m u (vs:=us) (ns:=ms) hu,h=>by
  show KatLex prog w A true (decide (vs.length+1<us.length+1)) Q ((Value.int n t,Value.int m u)::vs.zip us) i s;refine kat_cons ((SeqAt.EqAt.int_int n t m u) prog w _ _ ?_);rw[show decide (vs.length+1<us.length+1)=decide (vs.length<us.length) from decide_eq_decide.mpr (by lia)];rw[HT.gM] at h;by_cases e:n=m
  ·rw[if_pos e] at h;rw[show(n == m)=true from by simpa using e];exact kat_yes (vR vs us ns ms (i+1) hv hu h)
  ·rw[if_neg e] at h;rw[show(n == m)=false from by simpa using e];refine kat_no ?_;cases hb:(true&&i == 0) with
   | true=>exact oneLt_int h
   | false=>exact kat_one _ _ (qMh h)
def intOf:V->Int
 | .int i=>i
 | _=>0
def fJ(H:Hp)(a:Addr):List Int:=match H a with
 | some (.tup xs)=>xs.map intOf
 | _=>[]
theorem fU(h:H a=some (.tup (ns.map V.int))):fJ H a=ns:=by
 unfold fJ;rw[h];show(ns.map V.int).map intOf=ns;rw[qBt];exact List.map_id'' (fun _=>rfl) ns
theorem oT:∀{as:List Addr}{us:List qAf},Vals (as.map V.ref) us->us=as.map Value.ref
 | [],_,.nil=>rfl
 | a::as,_,.cons r t=>by
  cases r
  rw[oT t];rfl
theorem oU:∀(as:List Addr),Vals (as.map V.ref) (as.map Value.ref)
 | []=>.nil
 | a::as=>.cons rfl (oU as)
section
variable {X:Cx}{pins:List (Addr×Obj)}{σ:St}{H:Hp}{s:qAk}
def Ax(H:Hp)(a:Addr):Prop:=∃(i:Int) (ns:List Int),H a=some (.tup ((i::ns).map V.int))
theorem Ax.there(I:Inv X pins σ H s){a:Addr}(h:Ax H a):∃(o:Obj) (xs:List qAf) (n:Nat) (i:Int) (t:Tok),s.heap.get? a=some o/\o.cls = .type "tuple"/\o.data = .seq xs.toArray n/\qHq xs (fJ H a)/\xs[0]?=some (.int i t):=by
 obtain⟨i,ns,h⟩:=h;obtain⟨its,r,⟨o,h1,h2,n,h3⟩,_⟩:=I.tuple (dG.of h);have hi:=intsAre_of r;rw[<- fU h] at hi;refine⟨o,its,n,i,?_⟩;obtain⟨u,hu,⟨t,rfl⟩⟩:=r.get (i:=0) (x:=.int i) rfl;exact⟨t,h1,h2,h3,hi,hu⟩
theorem mJ(I:Inv X pins σ H s):∀(as:List Addr),(∀a∈as,Ax H a)->∃fs,(∀v∈fs,∃i t,v=Value.int i t)/\∀h':Heap,(∀b o,s.heap.get? b=some o->h'.get? b=some o)->KatTups h' (as.map Value.ref) fs
 | [],_=>⟨[],fun v hv=>(by cases hv),fun _ _=>KatTups.nil⟩
 | a::as,h=>by
  obtain⟨fs,h1,h2⟩:=mJ I as fun b hb=>h b (by simp[hb]);obtain⟨o,xs,n,i,t,g1,g2,g3,g4,g5⟩:=(h a (by simp)).there I;refine⟨.int i t::fs,fun v hv=>?_,fun h' k=>KatTups.cons (k _ _ g1) g2 g3 (by simpa using g5) (h2 h' k)⟩;rcases List.mem_cons.mp hv with rfl | hv
  ·exact⟨i,t,rfl⟩
  ·exact h1 v hv
theorem lF(hb:b≠a)(q:h.get? b=some o):(qIo h a vs out).get? b=some o:=by
 unfold qIo;rw[qFk _ _ _ _ hb];refine qAh _ (qAh _ ?_);rw[qFk _ _ _ _ hb];exact q
theorem sortedHeap_at(ho:h.get? a=some (qDk "list" vs.toArray n)):∃c,(qIo h a vs out).get? a=some (qDk "list" out c):=by
 obtain⟨e1,ho1⟩:∃e1,(h.update a (Obj.mapSeq fun _=>(#[]:Array qAf))).get? a=some (qDk "list" #[] e1):=⟨_,qFx ho fun _=>#[]⟩;unfold qIo;exact⟨_,qFx (qAh _ (qAh _ ho1)) fun _=>out⟩
theorem range_getD(as:List Addr):(qAq as.length).map (fun i=>as.getD i 0)=as:=by
 refine qLa (by simp) fun i h1 h2=>?_;simp[h2]
theorem nV:eQ X (.builtin "sorted") (fun xs H Q=>∃(p:Addr) (as:List Addr),xs=[.ref p]/\aY X.K H p (as.map V.ref)/\(∀a∈as,Ax H a)/\as.length<64/\∀(l:Addr) (bs:List Addr),H l=none->bs.Perm as->bs=((kas_sort as.length).run fun i j=>HT.lexLt (fJ H (as.getD i 0)) (fJ H (as.getD j 0))).toList.map (fun i=>as.getD i 0)->Q (.ref l) (upd H l (.lst (bs.map V.ref)))):=by
 intro pins s σ H xs us Q I r h;obtain⟨p,as,rfl,hq,ht,h64,q⟩:=h;obtain⟨u,rfl,rx⟩:=vals1 r;cases rx;obtain⟨its,r',pl,hz⟩:=I.list hq;obtain rfl:=oT r';obtain⟨fs,f1,f2⟩:=mJ I as ht;have hlen:(as.map Value.ref).length=as.length:=qAa _;refine uH pl.isList (by rw[hlen];exact h64) (fun i j=>HT.lexLt (fJ H (as.getD i 0)) (fJ H (as.getD j 0))) f2 f1 (fun h' k i j C hi hj hC=>?_) fun pm hp hrun=>?_
 ·rw[hlen] at hi hj;obtain⟨o1,x1,n1,_,_,a1,a2,a3,a4,_⟩:=(ht (as.getD i 0) (by rw[qAs,qAc hi];exact qCh hi)).there I;obtain⟨o2,x2,n2,_,_,b1,b2,b3,b4,_⟩:=(ht (as.getD j 0) (by rw[qAs,qAc hj];exact qCh hj)).there I;have e:∀i,i<as.length->(as.map Value.ref).getD i Value.none = .ref (as.getD i 0):=fun i hi=>by
   rw[qAs,qAj,qAc hi,qAs,qAc hi];rfl
  unfold kas_ask;rw[e i hi,e j hj];refine kat_lt (k _ _ a1) a3 (k _ _ b1) b3 ?_;simpa using vR x1 x2 _ _ 0 a4 b4 hC
 ·rw[hlen] at hp;have kp:∀b o,s.heap.get? b=some o->(sortedAll s.heap (as.map Value.ref) (qDy (pm.toList.map fun i=>(as.map Value.ref).getD i Value.none))).get? b=some o:=fun b o e =>
   lF (h:=iT s.heap (as.map Value.ref)) (qBn (qHo (qAy e))) (jU e)
  have hsz:((s.heap.push (qDk "list" #[] 0)).update s.heap.objs.size (Obj.mapSeq (· ++ (as.map Value.ref).toArray))).objs.size=s.heap.objs.size+1:=by
   rw[qGg,qKf]
  have hoL:(iT s.heap (as.map Value.ref)).get? (s.heap.objs.size+1)=some (qDk "list" (as.map Value.ref).toArray 0):=by
   unfold iT;rw[<- hsz];exact qBa _ rfl
  obtain⟨c,hc⟩:=sortedHeap_at (out:=qDy (pm.toList.map fun i=>(as.map Value.ref).getD i Value.none)) hoL;have eo:(pm.toList.map fun i=>(as.map Value.ref).getD i Value.none)=(pm.toList.map fun i=>as.getD i 0).map Value.ref:=by
   rw[qBt];refine qFi fun i hi=>?_;have hi:i<as.length:=List.mem_range.mp (hp.mem_iff.mp hi);show _=Value.ref (as.getD i 0);rw[qAs,qAj,qAc hi,qAs,qAc hi];rfl
  have hpm:(pm.toList.map fun i=>as.getD i 0).Perm as:=by
   have z:=hp.map (fun i=>as.getD i 0);rw[range_getD] at z;exact z
  refine⟨.ref (s.heap.objs.size+1),_,I.laid (a:=s.heap.objs.size+1) (o:=.lst ((pm.toList.map fun i=>as.getD i 0).map V.ref)) (t':=s.toks) kp (qIj _) ?_,rfl,q _ _ (I.cQ.fresh (qIj _)) hpm (by rw[hrun,hlen])⟩;refine⟨?_,(pm.toList.map fun i=>as.getD i 0).map Value.ref,c,oU _,?_⟩
  ·rw[qAa,hpm.length_eq,qEv];lia
  ·rw[<- eo];exact hc
theorem xU:qCk "sorted"=some (.builtin "sorted"):=by decide +kernel
end
section
variable {X:Cx}{a b c d:Expr}{ta tb tc td:TE}{pos:Pos}
def Cp(r r' r'':R2)(ta tb tc td:TE):TT:=fun σ H Q=>ta σ H fun x H1=>tb σ H1 fun y H2=>r x y H2 fun z H3=>∃k,z = .bl k /\
 (if k=true then tc σ H3 fun w' H4=>r' y w' H4 fun z2 H5=>∃k2,z2 = .bl k2/\(if k2=true then td σ H5 fun v' H6=>r'' w' v' H6 fun z3 H7=>∃k3,z3 = .bl k3/\Q k3 H7 else Q false H5) else Q false H3)
theorem xV(ho:gX X (qDp op) r)(ho':gX X (qDp op') r')(ho'':gX X (qDp op'') r'')(ha:PE X a ta)(hb:PE X b tb)(hc:PE X c tc)(hd:PE X d td)
  (hm:lastMarks [op,op',op''] [b,c,d]=false:=by with_unfolding_all rfl):PT X (.Compare a [op,op',op''] [b,c,d] pos) (Cp r r' r'' ta tb tc td):=by
 intro pins s σ H Q I h;refine isTrue_chain (bX (ha pins s σ H _ I h) fun v s1 ⟨x,H1,I1,r1,q1⟩=>test_link (bX (hb pins s1 σ H1 _ I1 q1) fun u s2 ⟨y,H2,I2,r2,q2⟩ =>
  bX (ho pins s2 σ H2 x y v u _ I2 r1 r2 q2) fun e1 s3 ⟨z,H3,I3,r3,k,e,q3⟩=>?_)) hm
 subst e;cases r3;refine qCi ?_;cases k with
 | false=>exact ite_ff ⟨H3,I3,q3⟩
 | true =>
  refine ite_tt (test_link (bX (hc pins s3 σ H3 _ I3 q3) fun w' s4 ⟨z',H4,I4,r4,q4⟩=>bX (ho' pins s4 σ H4 y z' u w' _ I4 r2 r4 q4) fun d' s5 ⟨z2,H5,I5,r5,k2,e2,q5⟩=>?_));subst e2;cases r5;refine qCi ?_;cases k2 with
  | false=>exact ite_ff ⟨H5,I5,q5⟩
  | true =>
   refine ite_tt (test_last (bX (hd pins s5 σ H5 _ I5 q5) fun v' s6 ⟨z4,H6,I6,r6,q6⟩=>bX (ho'' pins s6 σ H6 z' z4 w' v' _ I6 r4 r6 q6) fun d2 s7 ⟨z3,H7,I7,r7,k3,e3,q7⟩=>?_));subst e3;cases r7;exact qCi ⟨H7,I7,q7⟩
theorem xW:Cc X "list.clear" zW:=zX
end
section
variable {K:qAb}{a:Addr}{xs:List V}{σ0:St}{H1:Hp}{g:TG}{c:TT}{te:TE}{Q:Addr->Hp->Prop}
theorem iU(Ag:St->Prop)(f:Nat->V->Option V)(h0:Ag σ0)(hq:aY K H1 a xs)(hn:xs.length<=qAg)
  (step:∀(i:Nat) (x:V) (σ1:St) (H2:Hp) (k:St->VK) (k0:St->Hp->Prop),Ag σ1->aI H1 H2->xs[i]?=some x->(∀σ2 y,Ag σ2->f i x=some y->∀H3,aI H2 H3->k σ2 y H3)->(∀σ2,Ag σ2->f i x=none->∀H3,aI H2 H3->k0 σ2 H3) ->
   g x σ1 H2 fun σ2 H3=>c σ2 H3 fun b H4=>if b=true then te σ2 H4 (k σ2) else k0 σ2 H4)
  (h:∀D H2,H1 D=none->aI H1 H2->H2 D=some (.lst ((qAq xs.length).filterMap fun i=>(xs[i]?).bind (f i)))->Q D H2) :
  ∀D,H1 D=none->∃W:Nat->Nat->St->Hp->Prop,(∃m,W 0 m σ0 (upd H1 D (.lst [])))/\∀i m σ1 H2,W i m σ1 H2 ->
   ((nO K a).stop i H2/\Q D H2)\/((nO K a).go i H2/\∃N:St->Hp->Prop,(∀σ' H',N σ' H'->∃m',m'<m/\W (i+1) m' σ' H') /\
    ∀x H',(nO K a).rF i H2 x H'->g x σ1 H' fun σ2 H3=>c σ2 H3 fun b H4=>if b=true then te σ2 H4 fun y H5=>∃xs,H5 D=some (.lst xs)/\xs.length<qAg/\N σ2 (upd H5 D (.lst (xs++[y]))) else N σ2 H4):=by
 intro D hD;refine⟨fun i m σ1 H2=>Ag σ1/\aI H1 H2/\H2 D=some (.lst ((qAq i).filterMap fun i=>(xs[i]?).bind (f i)))/\i<=xs.length/\m=xs.length-i,⟨xs.length,h0,.aJ hD,aC,qBm _,rfl⟩,?_⟩;rintro i m σ1 H2 ⟨hσ,hs,hd,hi,rfl⟩;rcases qBh i xs.length with hlt | hge
 ·right
  refine⟨⟨xs,xs[i],hs.seq hq,by simp[hlt]⟩,fun σ' H'=>Ag σ'/\aI H1 H'/\H' D=some (.lst ((qAq (i+1)).filterMap fun i=>(xs[i]?).bind (f i))),fun σ' H' ⟨a,b,c⟩=>⟨xs.length-(i+1),by lia,a,b,c,hlt,rfl⟩,?_⟩;rintro x H' ⟨rfl,hx⟩;have hx:=hx xs (hs.seq hq);refine step i x σ1 _ (fun σ2 y H5=>∃xs,H5 D=some (.lst xs)/\xs.length<qAg/\_) _ hσ hs hx (fun σ2 y a2 hy H3 hs3=>⟨_,hs3 _ _ hd,?_,a2,?_,?_⟩) fun σ2 a2 hno H3 hs3=>⟨a2,hs.trans hs3,?_⟩
  ·refine qBo (qDh _ _) ?_;rw[qCt];lia
  ·exact(hs.trans hs3).upd_ne' hD
  ·rw[aC,qCx,qBu];simp[hx,hy]
  ·rw[hs3 _ _ hd,qCx,qBu];simp[hx,hno]
 ·left
  obtain rfl:i=xs.length:=qDa hi hge;exact⟨⟨xs,hs.seq hq,qAi _⟩,h D _ hD hs hd⟩
end
section
variable {X:Cx}{Ex:XS}{o e:Expr}{es:List Expr}{ta:TE}{t:TA}{m:Str}{apos pos:Pos}{j k:Nat}
theorem xX(P:qBc)(w:qCd)(K:qAb)(mg:Str->Option qAf)(base:Heap)(h1:X.prog=P)(h2:X.w=w)(h3:X.K=K)(h4:X.mg=mg)(h5:X.base=base){pl:Sem Bool}(R:Pass X Ex)(he:PE X o ta)(hr:cV j X.A)(hj:k<=j)(ha:PA X (e::es) t)
  (hst:qBk (e::es) X.env=(false,eval e X.env)::qBk es X.env:=by rfl) (hpl:(qEj pos (qBk es X.env)).any (·.1)=false:=by rfl)
  (ht:eval (.Call (.Attribute o m apos) (e::es) [] pos) X.env=(do
   let v <- eval o X.env
   qIl apos.atName
   let (f,first) <- qFv [v] (qHd v m pl)
   qKr pos f first (qEj pos (qBk (e::es) X.env)) (qFq pos (qEg [] X.env))):=by rfl) :
  PE X (.Call (.Attribute o m apos) (e::es) [] pos) (qF K (fun g sp=>∃ps,Md P w K mg base k ps sp g) m Ex ta t):=by
 subst h1 h2 h3 h4 h5;exact jQ R he hr hj ha hst hpl ht
theorem mK(P:qBc)(w:qCd)(K:qAb)(mg:Str->Option qAf)(base:Heap)(h1:X.prog=P)(h2:X.w=w)(h3:X.K=K)(h4:X.mg=mg)(h5:X.base=base){pl:Sem Bool}(R:Pass X Ex)(he:PE X o ta)(hr:cV j X.A)(hj:k<=j)
  (ht:eval (.Call (.Attribute o m apos) [] [] pos) X.env=(do
   let v <- eval o X.env
   qIl apos.atName
   let (f,first) <- qFv [v] (qHd v m pl)
   qKr pos f first (qEj pos (qBk [] X.env)) (qFq pos (qEg [] X.env))):=by rfl) :
  PE X (.Call (.Attribute o m apos) [] [] pos) (qF K (fun g sp=>∃ps,Md P w K mg base k ps sp g) m Ex ta t5):=by
 subst h1 h2 h3 h4 h5;exact iS R he hr hj ht
end
section
variable {X:Cx}
end
section
variable {K:qAb}{a:Addr}{xs:List V}{σ0:St}{H1:Hp}{i0:Nat}{c:TT}{te:TE}{Q:Addr->Hp->Prop}
theorem xY(Pv:Addr->Nat->Hp->Prop)(h0:∀D,H1 D=none->Pv D 0 (upd H1 D (.lst [])))(hq:∀D i H,Pv D i H->aY K H a xs)
  (step:∀(D:Addr) (i:Nat) (x:V) (H2:Hp) (k:VK) (k0:Hp->Prop),xs[i]?=some x->Pv D i H2->(∀y H5 zs,H5 D=some (.lst zs)->zs.length<qAg->Pv D (i+1) (upd H5 D (.lst (zs++[y])))->k y H5) ->
   c (σ0.set i0 (some x)) H2 fun b H4=>if b=true then te (σ0.set i0 (some x)) H4 k else k0 H4)
  (h:∀D H2,Pv D xs.length H2->Q D H2) :
  ∀D,H1 D=none->∃W:Nat->Nat->St->Hp->Prop,(∃m,W 0 m σ0 (upd H1 D (.lst [])))/\∀i m σ1 H2,W i m σ1 H2 ->
   ((nO K a).stop i H2/\Q D H2)\/((nO K a).go i H2/\∃N:St->Hp->Prop,(∀σ' H',N σ' H'->∃m',m'<m/\W (i+1) m' σ' H') /\
    ∀x H',(nO K a).rF i H2 x H'->bE i0 x σ1 H' fun σ2 H3=>c σ2 H3 fun b H4=>if b=true then te σ2 H4 fun y H5=>∃xs,H5 D=some (.lst xs)/\xs.length<qAg/\N σ2 (upd H5 D (.lst (xs++[y]))) else N σ2 H4):=by
 intro D hD;refine⟨fun i m σ1 H2=>σ1.set i0 none=σ0.set i0 none/\Pv D i H2/\i<=xs.length/\m=xs.length-i,⟨xs.length,rfl,h0 D hD,qBm _,rfl⟩,?_⟩;rintro i m σ1 H2 ⟨hσ,hp,hi,rfl⟩;have hset:∀v:Option V,σ1.set i0 v=σ0.set i0 v:=fun v=>by simpa using congrArg (fun l=>qGs l i0 v) hσ
 have q2:=hq D i H2 hp;rcases qBh i xs.length with hlt | hge
 ·right
  refine⟨⟨xs,xs[i],q2,by simp[hlt]⟩,fun σ' H'=>σ'.set i0 none=σ0.set i0 none/\Pv D (i+1) H',fun σ' H' ⟨a,b⟩=>⟨xs.length-(i+1),by lia,a,b,hlt,rfl⟩,?_⟩;rintro x H' ⟨rfl,hx⟩;have hx:=hx xs q2;show c (σ1.set i0 (some x)) _ _;rw[hset];exact step D i x _ _ _ hx hp fun y H5 zs e1 e2 e3=>⟨zs,e1,e2,by simp,e3⟩
 ·left
  obtain rfl:i=xs.length:=qDa hi hge;exact⟨⟨xs,q2,qAi _⟩,h D _ hp⟩
end
section
variable {M:Model}{A:qCu}{E:qAf->qAk->Prop}{s:qAk}
end
section
variable {X:Cx}{NB:List Str}{pick:List (Option Nat)}{sc:qIn}{cl:List (Str×Addr)}{y0:Str}{pins:List (Addr×Obj)}{σ:St}{H:Hp}{s:qAk}{fp:List Addr}
end
section
variable {X:Cx}{NB:List Str}{pick:List (Option Nat)}{sc:qIn}{cl:List (Str×Addr)}{y0:Str}{elt target iter:Expr}{ifs:List Expr}{pos:Pos}{wi:TI}{g:TG}{c:TT}{te:TE}
end
end L2
namespace HT
open PySem PyProof.Rows
section
open PySem.SeqAt
open PySem.AutoSeq1 (wpAny_loadPart')
open PySem.MeetsSeq PySem.MeetsSeq2 PySem.MeetsSeq3
end
section
variable {prog:qBc}{w:qCd}{A:qCu}{E:qAf->qAk->Prop}{s:qAk}
end
end HT
namespace L2
open PySem PySem.Spec PyProof.Rows
section
variable {X:Cx}
end
section
variable {X:Cx}
end
end L2
namespace PySem
section
variable {prog:qBc}{w:qCd}{K:Type} [DecidableEq K] {knd:HeapKind prog w K}{A:qCu}{E:qAf->qAk->Prop}{s:qAk}
end
section
variable {prog:qBc}{w:qCd}{K:Type} [DecidableEq K] {knd:KeyKind prog w K}{A:qCu}{E:qAf->qAk->Prop}{s:qAk}
end
end PySem
namespace L2
open PySem PySem.Spec PyProof.Rows
section
variable {X:Cx}
end
section
variable {X:Cx}
end
section
variable {X:Cx}
end
end L2
set_option maxHeartbeats 4000000
namespace L2
open PySem PySem.Spec PyProof.Rows
section
variable {X:Cx}{pins:List (Addr×Obj)}{σ:St}{H:Hp}{s:qAk}
theorem Ay(F:fR X.prog X.w X.K X.mg X.base cM k f fd ps sp)(hr:cV (k+1) X.A)(hb:Binds X.K fd ps [])(I:Inv X pins σ H s)(r:Vals vs us)(h:sp vs H Q E0):
  qBs (qBz X.prog X.w) X.A.in1 (call (.ref f) us) (EP X pins σ Q) (fun _ _=>False) s:=by
 have hl:(us++[]).length=ps.length:=by rw[qCr,<- r.length];exact F.len _ _ _ _ h
 have b:=hb s us I.nM hl;rw[qCr] at b;refine qFd (qEw (F.run X.A.in1 X.stack s H ⟨us,[]⟩ us vs Q E0 hr.in1 I.BV.in1 b r h) fun r s' hq=>?_);cases r with
 | error e=>exact hq.elim
 | ok fl =>
  cases fl with
  | ret u=>exact I.after hq
  | next=>exact False.elim hq
  | brk=>exact False.elim hq
  | cont=>exact False.elim hq
theorem Cq(I:Inv X pins σ H s)(fS:gW X pins H S)(fI:gW X pins H Ia)(eS:s.heap.get? S=some oS)(eI:s.heap.get? Ia=some oI)(dS:∀v,oS.data≠.cell v)(dI:∀v,oI.data≠.cell v):Inv X (pins++[(S,oS),(Ia,oI)]) σ H s :=
 I.pQ fun p hp=>by
  rcases List.mem_append.mp hp with z | z
  ·exact I.pin p (qAp _ z)
  ·rcases List.mem_cons.mp z with rfl | z
   ·exact⟨eS,fS.1,fS.2.1,fS.2.2.1,dS⟩
   ·rw[List.mem_singleton.mp z];exact⟨eI,fI.1,fI.2.1,fI.2.2.1,dI⟩
theorem Cr(kf:Nat->Int)(F:fR X.prog X.w X.K X.mg X.base cM k f fd ps sp)(hr:cV (k+1) X.A)(hb:Binds X.K fd ps [])
  (fS:gW X pins H S) (fI:gW X pins H Ia) (hSI:S≠Ia) (hq:aY X.K H l xs) (key:∀i v,xs[i]?=some v->sp [v] H (fun r H'=>r = .int (kf i)/\H'=H) E0){R:qMw->qAk->Prop}
  (hR:∀i x u s',xs[i]?=some x->RelV x u->(∀j,j<xs.length->kf i<=kf j/\(j<i->kf i<kf j))->Inv X pins σ H s'->R (.ok (.ret u)) s') :
  ∀(r j i:Nat) (s:qAk) (x:V) (vb:qAf) (tb:Tok) (c:Nat) (oI:Obj),xs.length-(j+1)=r->j+1<=xs.length->Inv X (pins++[(S,qDk "list" #[vb,.int (kf i) tb] c),(Ia,oI)]) σ H s->s.heap.IsListIter Ia l (j+1) ->
   xs[i]?=some x->RelV x vb->i<=j->(∀j',j'<=j->kf i<=kf j'/\(j'<i->kf i<kf j')) ->
   qGh (qBz X.prog X.w) X.A (.builtin "min.loop" ⟨[.ref Ia,.ref f,.ref S],[]⟩) R s:=by
 have hname:(toString "min" ++ toString ".loop":String)="min.loop":=by decide
 intro r;induction r with
 | zero =>
  intro j i s x vb tb c oI hr' hj I hit hx hxb hij hbest;have hin:j+1=xs.length:=by lia
  obtain⟨its,rv,p,hz⟩:=I.list hq;have hlen:=rv.length;have nS:=(I.pin (S,qDk "list" #[vb,.int (kf i) tb] c) (qAp _ (qAp _ (.head _)))).1;have I0:=I.e9;obtain⟨a0,a1,a2,a3,a4,a5⟩:=fI;obtain⟨b0,b1,b2,b3,b4,b5⟩:=fS;refine qFw qGa ?_;rw[Around.under_plainId qDl _];show qBs _ X.A.in1 (seqItems? (.ref S) >>= _) _ _ _;refine qAe (wpAny_seqItems nS rfl ?_);show qBs _ X.A.in1 (tryCatch (qLy (.ref Ia)) _ >>= _) _ _ _;refine qAe (qFg (wpAny_pyNext_list_end hr.in1.hd hit p.isList (by simp;lia) fun h' eb=>?_));have I1:Inv X pins σ H { s with heap:=h' }:=I0.turned (t':=s.toks) (fun b o hb e=>eb b o hb e) a0 a1 a3 a4 a5;have hS':h'.get? S=some (qDk "list" #[vb,.int (kf i) tb] c):=eb S _ hSI nS;have s1:=Heap.SameBut.update h' S (Obj.mapSeq fun _=>(#[]:Array qAf));show qBs _ X.A.in1 (updateSeq S (fun _=>#[]) >>= _) _ _ _;refine qAe ?_;refine wpAny_updateSeq hS' rfl (qAe (qJk (qAv ?_)));exact hR i x vb _ hx hxb (fun j' hj'=>hbest j' (by lia)) (I1.turned (fun b o hb e=>(s1.2 b hb).trans e) b0 b1 b3 b4 b5)
 | succ r ih =>
  intro j i s x vb tb c oI hr' hj I hit hx hxb hij hbest;have hlt:j+1<xs.length:=by lia
  obtain⟨its,rv,p,hz⟩:=I.list hq;have hlen:=rv.length;obtain⟨y,hy⟩:∃y,xs[j+1]?=some y:=⟨_,qAc hlt⟩;obtain⟨v,hv,rv'⟩:=rv.get hy;have nS:=(I.pin (S,qDk "list" #[vb,.int (kf i) tb] c) (qAp _ (qAp _ (.head _)))).1;have I0:=I.e9;have fI':=fI;have fS':=fS;obtain⟨a0,a1,a2,a3,a4,a5⟩:=fI;obtain⟨b0,b1,b2,b3,b4,b5⟩:=fS;refine qFw qGa ?_;rw[Around.under_plainId qDl _];show qBs _ X.A.in1 (seqItems? (.ref S) >>= _) _ _ _;refine qAe (wpAny_seqItems nS rfl ?_);show qBs _ X.A.in1 (tryCatch (qLy (.ref Ia)) _ >>= _) _ _ _;refine qAe (qFg (wpAny_pyNext_list_item hit p.isList (x:=v) (by simpa using hv) fun h' st' sb=>?_));have I1:Inv X pins σ H { s with heap:=h' }:=I0.turned (t':=s.toks) (fun b o hb e=>(sb.2 b hb).trans e) a0 a1 a3 a4 a5;obtain⟨oI',eI',ec,ed⟩:=id st';have eS':h'.get? S=some (qDk "list" #[vb,.int (kf i) tb] c):=(sb.2 S hSI).trans nS;have I2:=Cq I1 fS' fI' eS' eI' (fun v z=>nomatch z) (fun v z=>by rw[ed] at z;cases z);show qBs _ X.A.in1 (tryCatch (qFv [v] (call (.ref f) [v])) _ >>= _) _ _ _;refine qAe (qFg (qCs (qFc (Ay F hr hb I2 (.cons rv' .nil) (key (j+1) y hy)) (fun x' s2 he=>?_) fun _ _ hF=>hF.elim)));obtain⟨kv,H',I3,rk,rfl,rfl⟩:=he;obtain⟨t2,rfl⟩:=(show ∃t,x'=Value.int (kf (j+1)) t from rk);have nS2:=(I3.pin (S,qDk "list" #[vb,.int (kf i) tb] c) (qAp _ (qAp _ (.head _)))).1;have nI2:=(I3.pin (Ia,oI') (qAp _ (qAp _ (.tail _ (.head _))))).1;have hit2:s2.heap.IsListIter Ia l (j+1+1):=⟨oI',nI2,ec,ed⟩;show qBs _ X.A.in1 (tryCatch (qFv [v,.int (kf (j+1)) t2] (richCompare .Lt (.int (kf (j+1)) t2) (.int (kf i) tb) >>= _)) _ >>= _) _ _ _;refine qAe (qFg (qCs (qAe (CmpOf.ints_lt (prog:=X.prog) (w:=X.w) (A:=X.A.in1) (P:=fun i v=>∃t,v = .int (kf i) t) kf (fun i v h=>h) (j+1) i _ _ _ _ _ ⟨t2,rfl⟩ ⟨tb,rfl⟩ ?_))));refine qAe (qCs (qCi ?_));refine qAe (qJk (qAv ?_));by_cases hlt2:kf (j+1)<kf i
  ·have s1:=Heap.SameBut.update s2.heap S (Obj.mapSeq fun _=>#[v,.int (kf (j+1)) t2]);obtain⟨c2,hc2⟩:∃c2,(s2.heap.update S (Obj.mapSeq fun _=>#[v,.int (kf (j+1)) t2])).get? S=some (qDk "list" #[v,.int (kf (j+1)) t2] c2):=⟨_,qFx nS2 fun _=>#[v,.int (kf (j+1)) t2]⟩;simp only[hlt2,decide_true,if_true];refine qAe ?_;refine wpAny_updateSeq nS2 rfl (qAe (qJk ?_));rw[hname];have eI4:(s2.heap.update S (Obj.mapSeq fun _=>#[v,.int (kf (j+1)) t2])).get? Ia=some oI':=(s1.2 Ia hSI.symm).trans nI2;refine qAv ⟨qIb qDl _,ih (j+1) (j+1) _ y v t2 c2 oI' (by lia) hlt (Cq (I3.e9.turned (fun b o hb e=>(s1.2 b hb).trans e) b0 b1 b3 b4 b5) fS' fI' hc2 eI4 (fun v z=>nomatch z) (fun v z=>by rw[ed] at z;cases z)) ⟨oI',eI4,ec,ed⟩ hy rv' (qAi _) fun j' hj'=>?_⟩;by_cases e:j'=j+1
   ·subst e;exact⟨by lia,fun _=>by lia⟩
   ·have q1:=(hbest j' (by lia)).1;exact⟨by lia,fun _=>by lia⟩
  ·simp only[hlt2,decide_false,qHg,if_false];refine qAe (qJk ?_);rw[hname];refine qAv ⟨qIb qDl _,ih (j+1) i _ x vb tb c oI' (by lia) hlt (I3.tok _) hit2 hx hxb (by lia) fun j' hj'=>?_⟩;by_cases e:j'=j+1
   ·subst e;exact⟨by lia,fun _=>by lia⟩
   ·exact hbest j' (by lia)
theorem Cs(kf:Nat->Int)(F:fR X.prog X.w X.K X.mg X.base cM k f fd ps sp)(hr:cV (k+1) X.A)(hb:Binds X.K fd ps [])(I:Inv X pins σ H s)
  (hq:aY X.K H l xs) (h0:0<xs.length) (key:∀i v,xs[i]?=some v->sp [v] H (fun r H'=>r = .int (kf i)/\H'=H) E0)
  (hQ:∀i x,xs[i]?=some x->(∀j,j<xs.length->kf i<=kf j/\(j<i->kf i<kf j))->Q x H) :
  qBs (qBz X.prog X.w) X.A (call (.builtin "min") [.ref l] [(Str.ofString "key",.ref f)]) (EP X pins σ Q) X.xe s:=by
 have hname:(toString "min" ++ toString ".loop":String)="min.loop":=by decide
 obtain⟨its,rv,p,hz⟩:=I.list hq;have hlen:=rv.length;obtain⟨y,hy⟩:∃y,xs[0]?=some y:=⟨_,qAc h0⟩;obtain⟨v,hv,rv'⟩:=rv.get hy;refine kmk_tree PySem.F.kind_min PySem.F.plain_min PySem.F.entry_min (kmk_min_key _ _) ?_;show qBs _ X.A.in1 (Builtin.Builtins.bindParams "min" ["key","default"] 0 ⟨[],[(Str.ofString "key",.ref f)]⟩ >>= _) _ _ s;refine qAe (qEu (show Builtin.Builtins.bindParams "min" ["key","default"] 0 ⟨[],[(Str.ofString "key",.ref f)]⟩=pure [some (.ref f),none] from rfl) ?_);refine qAe (qAv ?_);refine qAe (qDw p.isList ?_);refine qAe (wpAny_newList ?_ (qBm _));rw[hname];have hS:(s.heap.push { cls:=.type "list_iterator",data:=.fields #[.ref l,.int 0 0] }).objs.size=s.heap.objs.size+1:=qKf ..;have hSI:(s.heap.push { cls:=.type "list_iterator",data:=.fields #[.ref l,.int 0 0] }).objs.size≠s.heap.objs.size:=by rw[hS];exact qMn (qGi _)
 have gI:((s.heap.push { cls:=.type "list_iterator",data:=.fields #[.ref l,.int 0 0] }).push (qDk "list" #[] 0)).get? s.heap.objs.size=some { cls:=.type "list_iterator",data:=.fields #[.ref l,.int 0 0] }:=qAh _ (qBa _ rfl);have gS:((s.heap.push { cls:=.type "list_iterator",data:=.fields #[.ref l,.int 0 0] }).push (qDk "list" #[] 0)).get? (s.heap.push { cls:=.type "list_iterator",data:=.fields #[.ref l,.int 0 0] }).objs.size=some (qDk "list" #[] 0):=qBa _ rfl;have I1:Inv X pins σ H { s with heap:=(s.heap.push { cls:=.type "list_iterator",data:=.fields #[.ref l,.int 0 0] }).push (qDk "list" #[] 0) }:=I.kept (t':=s.toks) fun b u e=>qAh _ (qAh _ e);have fI:gW X pins H s.heap.objs.size:=I.pT (qAi _) (I.cQ.fresh (qAi _));have hSle:s.heap.objs.size<=(s.heap.push { cls:=.type "list_iterator",data:=.fields #[.ref l,.int 0 0] }).objs.size:=by rw[hS];exact qIj _
 have fS:gW X pins H (s.heap.push { cls:=.type "list_iterator",data:=.fields #[.ref l,.int 0 0] }).objs.size:=I.pT hSle (I.cQ.fresh hSle);refine qAv ⟨qIb qDl _,?_⟩;show qGh (qBz X.prog X.w) X.A (.builtin "min.loop" ⟨[.ref s.heap.objs.size,.ref f,.ref (s.heap.push { cls:=.type "list_iterator",data:=.fields #[.ref l,.int 0 0] }).objs.size],[]⟩) _ { s with heap:=(s.heap.push { cls:=.type "list_iterator",data:=.fields #[.ref l,.int 0 0] }).push (qDk "list" #[] 0) };generalize (s.heap.push { cls:=.type "list_iterator",data:=.fields #[.ref l,.int 0 0] }).objs.size=S at hSI gS fS|-;generalize s.heap.objs.size=Ia at hSI gI fI|-;generalize (s.heap.push { cls:=.type "list_iterator",data:=.fields #[.ref l,.int 0 0] }).push (qDk "list" #[] 0)=hp at gI gS I1|-;obtain⟨its1,rv1,p1,_⟩:=I1.list hq;obtain⟨v1,hv1,rv1'⟩:=rv1.get hy;obtain⟨a0,a1,a2,a3,a4,a5⟩:=id fI;obtain⟨b0,b1,b2,b3,b4,b5⟩:=id fS;refine qFw qGa ?_;rw[Around.under_plainId qDl _];show qBs _ X.A.in1 (seqItems? (.ref S) >>= _) _ _ _;refine qAe (wpAny_seqItems gS rfl ?_);show qBs _ X.A.in1 (tryCatch (qLy (.ref Ia)) _ >>= _) _ _ _;refine qAe (qFg (wpAny_pyNext_list_item (i:=0) ⟨_,gI,rfl,rfl⟩ p1.isList (x:=v1) (by simpa using hv1) fun h' st' sb=>?_));have I2:Inv X pins σ H { s with heap:=h' }:=I1.turned (t':=s.toks) (fun b o hb e=>(sb.2 b hb).trans e) a0 a1 a3 a4 a5;obtain⟨oI',eI',ec,ed⟩:=id st';have eS':h'.get? S=some (qDk "list" #[] 0):=(sb.2 S hSI).trans gS;have I3:=Cq I2 fS fI eS' eI' (fun v z=>nomatch z) (fun v z=>by rw[ed] at z;cases z);show qBs _ X.A.in1 (tryCatch (qFv [v1] (call (.ref f) [v1])) _ >>= _) _ _ _;refine qAe (qFg (qCs (qFc (Ay F hr hb I3 (.cons rv1' .nil) (key 0 y hy)) (fun x' s2 he=>?_) fun _ _ hF=>hF.elim)));obtain⟨kv,H',I4,rk,rfl,rfl⟩:=he;obtain⟨t2,rfl⟩:=(show ∃t,x'=Value.int (kf 0) t from rk);have nS2:=(I4.pin (S,qDk "list" #[] 0) (qAp _ (qAp _ (.head _)))).1;have nI2:=(I4.pin (Ia,oI') (qAp _ (qAp _ (.tail _ (.head _))))).1;have s1:=Heap.SameBut.update s2.heap S (Obj.mapSeq fun _=>#[v1,.int (kf 0) t2]);obtain⟨c2,hc2⟩:∃c2,(s2.heap.update S (Obj.mapSeq fun _=>#[v1,.int (kf 0) t2])).get? S=some (qDk "list" #[v1,.int (kf 0) t2] c2):=⟨_,qFx nS2 fun _=>#[v1,.int (kf 0) t2]⟩;have eI4:(s2.heap.update S (Obj.mapSeq fun _=>#[v1,.int (kf 0) t2])).get? Ia=some oI':=(s1.2 Ia hSI.symm).trans nI2;show qBs _ X.A.in1 (updateSeq S (fun _=>#[v1,.int (kf 0) t2]) >>= _) _ _ _;refine qAe ?_;refine wpAny_updateSeq nS2 rfl ?_;rw[hname];refine qAv ⟨qIb qDl _,Cr kf F hr hb fS fI hSI hq key (fun i x u s' hx ru hb' I'=>⟨x,H',I',ru,hQ i x hx hb'⟩) _ 0 0 _ y v1 t2 c2 oI' rfl h0 (Cq (I4.e9.turned (t':=s2.toks) (fun b o hb e=>(s1.2 b hb).trans e) b0 b1 b3 b4 b5) fS fI hc2 eI4 (fun v z=>nomatch z) (fun v z=>by rw[ed] at z;cases z)) ⟨oI',eI4,ec,ed⟩ hy rv1' (qAi _) fun j' hj'=>?_⟩;have e:j'=0:=by lia
 subst e;exact⟨qMt _,fun h=>absurd h (qEk _)⟩
def Ct(K:qAb)(sp:Sp)(t:TA):TE:=fun σ H Q=>t σ H fun vs H1=>∃(l:Addr) (xs:List V) (kf:Nat->Int),vs=[.ref l]/\aY K H1 l xs/\0<xs.length/\(∀i v,xs[i]?=some v->sp [v] H1 (fun r H'=>r = .int (kf i)/\H'=H1) E0) /\
 ∀i x,xs[i]?=some x->(∀j,j<xs.length->kf i<=kf j/\(j<i->kf i<kf j))->Q x H1
theorem xZ(D:Df X.prog X.w X.K X.mg X.base cM k y ps sp f fd)(hr:cV j X.A)(hj:k+1<=j)(hg:Gl X "min")(hm:X.mg "min"=none)(hgk:PE X (.Name y p2) (tC (.ref f)))(ha:PA X [e] t)
  (he:qEj pos (qBk [e] X.env)=(false,eval e X.env)::qEj pos (qBk [] X.env):=by rfl) (hpl:(qEj pos (qBk [e] X.env)).any (·.1)=false:=by rfl) :
  PE X (.Call (.Name "min" p) [e] [⟨some "key",.Name y p2,kp⟩] pos) (Ct X.K sp t):=by
 intro pins s σ H Q I h;refine qEd (g9 I hg hm Am ?_ (by decide) (by decide));refine callWith_kw (bX (ha pos pins s σ H _ I h) fun us s1 ⟨vs,H1,I1,r1,q1⟩=>?_) he hpl;refine kws_cons (bX (hgk pins s1 σ H1 (fun v H'=>v = .ref f/\H'=H1) I1 ⟨rfl,rfl⟩) fun u s2 ⟨v,H2,I2,r2,e1,e2⟩=>kws_nil ?_);subst e1 e2;obtain rfl:u=Value.ref f:=r2;obtain⟨l,xs,kf,rfl,hq,h0,key,hQ⟩:=q1;obtain⟨u1,rfl,ru⟩:=vals1 r1;cases ru;exact Cs kf D.ok (hr.mono hj) D.bd I2 hq h0 key hQ
end
end L2
set_option maxHeartbeats 4000000
namespace PySem.W
open PySem PySem.Calls PyProof.Rows
theorem KasT.oV{α:Type}{n:Nat}{P:α->Prop}{lt lt':Nat->Nat->Bool}(h:∀i j,i<n->j<n->lt i j=lt' i j):∀{t:KasT α},t.Ok n P->t.run lt=t.run lt'
 | .ret a,_=>rfl
 | .ask i j k,o=>by
  show(k (lt i j)).run lt=(k (lt' i j)).run lt';rw[h i j o.1 o.2.1];exact KasT.oV h (o.2.2 _)
theorem KasT.Az:∀{t:KasT α},t.Ok n P->P (t.run lt)
 | .ret a,h=>h
 | .ask i j k,o=>show P ((k (lt i j)).run lt) from KasT.Az (t:=k (lt i j)) (o.2.2 (lt i j))
namespace S6
def rk(n:Nat)(code:Nat->Nat)(i:Nat):Nat:=((qAq n).filter fun k=>decide (code k<code i)).length
end S6
end PySem.W
namespace L2
open PySem PySem.Spec PyProof.Rows PySem.W
section
variable {X:Cx}
end
end L2
set_option maxHeartbeats 4000000
namespace L2
open PySem PySem.Spec PyProof.Rows
section
variable {prog:qBc}{w:qCd}{A:qCu}{E:qAf->qAk->Prop}{s:qAk}{d it:Addr}{o:Obj}{es:Array DictEntry}{ep:Nat}
end
section
variable {X:Cx}{tg:Expr}
end
section
variable {K:qAb}{a:Addr}{xs:List V}{σ0:St}{H1:Hp}{g:TG}{c:TT}{te:TE}{Q:Addr->Hp->Prop}
theorem uI(Ag:St->Prop)(R:Nat->V->Hp->Prop)(mono:∀i y H H',dX H H'->R i y H->R i y H')(h0:Ag σ0)(hq:aY K H1 a xs)(hn:xs.length<=qAg)
  (step:∀(i:Nat) (x:V) (t:Addr) (σ1:St) (H2:Hp) (k:St->VK) (k0:St->Hp->Prop),Ag σ1->aI H1 H2->xs[i]?=some x->H2 t=some (.tup [.int (i:Int),x])->(∀σ2 y H3,Ag σ2->aI H2 H3->R i y H3->k σ2 y H3) ->
   g (.ref t) σ1 H2 fun σ2 H3=>c σ2 H3 fun b H4=>if b=true then te σ2 H4 (k σ2) else k0 σ2 H4)
  (h:∀D ys H2,H1 D=none->aI H1 H2->ys.length=xs.length->(∀i y,ys[i]?=some y->R i y H2)->H2 D=some (.lst ys)->Q D H2) :
  ∀D,H1 D=none->∃W:Nat->Nat->St->Hp->Prop,(∃m,W 0 m σ0 (upd H1 D (.lst [])))/\∀i m σ1 H2,W i m σ1 H2 ->
   ((Dz K a).stop i H2/\Q D H2)\/((Dz K a).go i H2/\∃N:St->Hp->Prop,(∀σ' H',N σ' H'->∃m',m'<m/\W (i+1) m' σ' H') /\
    ∀x H',(Dz K a).rF i H2 x H'->g x σ1 H' fun σ2 H3=>c σ2 H3 fun b H4=>if b=true then te σ2 H4 fun y H5=>∃xs,H5 D=some (.lst xs)/\xs.length<qAg/\N σ2 (upd H5 D (.lst (xs++[y]))) else N σ2 H4):=by
 intro D hD;refine⟨fun i m σ1 H2=>Ag σ1/\aI H1 H2/\(∃ys,ys.length=i/\(∀j y,ys[j]?=some y->R j y H2)/\H2 D=some (.lst ys))/\i<=xs.length/\m=xs.length-i,⟨xs.length,h0,.aJ hD,⟨[],rfl,fun j y e=>(by cases e),aC⟩,qBm _,rfl⟩,?_⟩;rintro i m σ1 H2 ⟨hσ,hs,⟨ys,hy,hR,hd⟩,hi,rfl⟩;rcases qBh i xs.length with hlt | hge
 ·right
  refine⟨⟨xs,xs[i],hs.seq hq,by simp[hlt]⟩,fun σ' H'=>Ag σ'/\aI H1 H'/\∃ys,ys.length=i+1/\(∀j y,ys[j]?=some y->R j y H')/\H' D=some (.lst ys),fun σ' H' ⟨a,b,c⟩=>⟨xs.length-(i+1),by lia,a,b,c,hlt,rfl⟩,?_⟩;rintro v H' ⟨t,x,rfl,ht,rfl,hx⟩;have hx:=hx xs (hs.seq hq);have hst:aI H1 (upd H2 t (.tup [.int (i:Int),x])):=hs.trans (.aJ ht);have u2:=aI.aJ (o:=.tup [.int (i:Int),x]) ht;have hdt:=u2 _ _ hd;refine step i x t σ1 _ (fun σ2 y H5=>∃xs,H5 D=some (.lst xs)/\xs.length<qAg/\_) _ hσ hst hx aC (fun σ2 y H3 a2 hs3 hR3=>⟨_,hs3 _ _ hdt,by lia,a2,(hst.trans hs3).upd_ne' hD,ys++[y],by rw[qAn];show _+1=_;lia,fun j z e=>?_,aC⟩);have keep:∀{j z},R j z H3->R j z (upd H3 D (.lst (ys++[y]))):=fun {j z} q=>mono _ _ _ _ (.lst (hs3 _ _ hdt)) q;rcases qBh j ys.length with z1 | z1
  ·rw[qCa z1] at e;exact keep (mono _ _ _ _ hs3.t (mono _ _ _ _ u2.t (hR j z e)))
  ·rw[qBy z1] at e;obtain⟨rfl,rfl⟩:j=i/\y=z:=by
    rcases qEb (j-ys.length) with q | q
    ·rw[q] at e;exact⟨by lia,Option.some.inj e⟩
    ·rw[qDi (by show 1<=_;lia)] at e;cases e
   exact keep hR3
 ·left
  obtain rfl:i=xs.length:=qDa hi hge;exact⟨⟨xs,hs.seq hq,qAi _⟩,h D ys _ hD hs hy hR hd⟩
end
section
variable {X:Cx}
end
section
variable {K:qAb}{a:Addr}{xs:List V}{lo:Int}{n:Nat}{σ0:St}{H1:Hp}{i0:Nat}{c:TT}{te:TE}{Q:Addr->Hp->Prop}
end
section
variable {X:Cx}
end
section
variable {K:qAb}{a a':Addr}{xs xs':List V}{lo:Int}{n:Nat}{σ0:St}{H1:Hp}{i0:Nat}{c:TT}{te:TE}{g:TG}{Q:Addr->Hp->Prop}
end
section
variable {X:Cx}
end
section
variable {K:qAb}{lo:Int}{n:Nat}{σ0:St}{H1:Hp}{i0:Nat}{c:TT}{te:TE}{Q:Addr->Hp->Prop}
end
section
variable {prog:qBc}{w:qCd}{A:qCu}{E:qAf->qAk->Prop}{s:qAk}
end
section
variable {X:Cx}
end
section
variable {X:Cx}
end
end L2
namespace L2
namespace ST
open PySem
end ST
end L2
namespace L2
namespace ST
open PySem PySem.Spec PyProof.Rows
def iv:qAf->Int
 | .int n _=>n
 | _=>0
section
variable {prog:qBc}{w:qCd}{A:qCu}{E:qAf->qAk->Prop}{s:qAk}
end
section
variable {prog:qBc}{w:qCd}{A:qCu}{R:qMw->qAk->Prop}{I:Addr}{fp wr:List Addr}{G:Array qLz->Array qLz->Prop}{n:Nat}{P:Nat->qAf->Prop}{St:Nat->qAk->Prop}
end
end ST
end L2
namespace PySem
namespace ST
open L2.ST
section
variable {prog:qBc}{w:qCd}{A:qCu}{E:qAf->qAk->Prop}{s:qAk}
set_option maxHeartbeats 3200000 in
end
end ST
end PySem
namespace PySem
namespace ST
open L2.ST
section
variable {prog:qBc}{w:qCd}{A:qCu}{E:qAf->qAk->Prop}{s:qAk}{I S:Addr}{o:Obj}{es:Array (Int×qAf)}{ep:Nat}{t:SetTable}
end
end ST
end PySem
namespace PySem
namespace ST
open L2.ST PyProof.Rows
section
variable {prog:qBc}{w:qCd}{A:qCu}{E:qAf->qAk->Prop}{s:qAk}{I S:Addr}{o:Obj}{es:Array (Int×qAf)}{ep:Nat}{t:SetTable}
end
end ST
end PySem
namespace PySem
namespace ST
open L2.ST PyProof.Rows
section
variable {prog:qBc}{w:qCd}{A:qCu}{E:qAf->qAk->Prop}{s:qAk}{S:Addr}{σ:List Int}
end
end ST
end PySem
namespace L2
open PySem PySem.Spec PyProof.Rows
section
variable {X:Cx}
end
end L2
set_option maxHeartbeats 4000000
namespace L2
open PySem PySem.Spec PyProof.Rows
section
variable {X:Cx}{tg:Expr}
end
section
variable {K:qAb}{a a':Addr}{xs xs':List V}{lo:Int}{n:Nat}{σ0:St}{H1:Hp}{i0:Nat}{c:TT}{te:TE}{g:TG}{Q:Addr->Hp->Prop}
end
end L2
set_option maxHeartbeats 4000000
namespace L2
open PySem PySem.Spec PyProof.Rows
end L2
set_option maxHeartbeats 4000000
namespace L2
open PySem PySem.Spec PyProof.Rows
section
variable {X:Cx}
end
section
variable {X:Cx}
def Nl(t:TE):TE:=fun σ H Q=>t σ H fun x H1=>∃i:Int,x = .int i/\i.natAbs.log2<1920/\Q (.str (toString i)) H1
theorem jB{e:Expr}{t:TE}{pos:Pos}(h:PE X e t):PE X (.FormattedValue e (-1) none pos) (Nl t):=by
 intro pins s σ H Q I hq;refine wpAny_FormattedValue_plain (bX (h pins s σ H _ I hq) fun v s1 ⟨x,H1,I1,r1,q1⟩=>?_);obtain⟨i,rfl,hi,q⟩:=q1;obtain⟨t,rfl⟩:=(show ∃t,v=Value.int i t from r1);exact wpAny_formatField_int hi ⟨.str _,H1,I1.tok _,⟨_,rfl⟩,q⟩
abbrev TJ:=St->Hp->Str->(Str->Hp->Prop)->Prop
def PJ(X:Cx)(es:List Expr)(t:TJ):Prop :=
 ∀(pins:List (Addr×Obj)) (s:qAk) (σ:St) (H:Hp) (acc:Str) (R:Str->Hp->Prop) (Q:Str->qAk->Prop),Inv X pins σ H s->t σ H acc R->(∀out H' s',Inv X pins σ H' s'->R out H'->Q out s')->Joins (qBz X.prog X.w) X.A X.xe (evalEach es X.env) acc Q s
def Jj:TJ:=fun _ H acc R=>R acc H
def EY(t:TE)(r:TJ):TJ:=fun σ H acc R=>t σ H fun x H1=>∃y:Str,x = .str y/\(acc++y).length<=qAg/\r σ H1 (acc++y) R
theorem kI:PJ X [] Jj:=fun _ _ _ _ _ _ _ I h k=>k _ _ _ I h
theorem cP{e:Expr}{es:List Expr}{t:TE}{r:TJ}(h:PE X e t)(hr:PJ X es r):PJ X (e::es) (EY t r):=by
 intro pins s σ H acc R Q I hq k;show qBs _ _ (eval e X.env) _ _ s;refine bX (h pins s σ H _ I hq) fun v s1 ⟨x,H1,I1,r1,q1⟩=>?_;obtain⟨y,rfl,hy,q⟩:=q1;obtain⟨t,rfl⟩:=(show ∃t,v=Value.str y t from r1);exact⟨y,t,rfl,hy,hr pins s1 σ H1 _ R Q I1 q k⟩
def Nm(t:TJ):TE:=fun σ H Q=>t σ H Str.empty fun out H1=>out.length<=qAg/\Q (.str out) H1
theorem oW{e1 e2:Expr}{es:List Expr}{t:TJ}{pos:Pos}(h:PJ X (e1::e2::es) t):PE X (.JoinedStr (e1::e2::es) pos) (Nm t):=by
 intro pins s σ H Q I hq;exact wpAny_JoinedStr (h pins s σ H _ _ _ I hq fun out H' s' I' q=>⟨q.1,.str _,H',I'.tok _,⟨_,rfl⟩,q.2⟩)
def rJoin(K:qAb):V->List V->Hp->VK->Prop:=fun x vs H Q=>∃(sep:Str) (p:Addr) (ss:List Str),x = .str sep/\vs=[.ref p]/\aY K H p (ss.map V.str)/\(ss.map (·.length)).sum+ss.length*sep.length<=16777216/\Q (.str (Txt.join sep ss)) H
theorem vS:∀{ss:List Str}{us:List qAf},Vals (ss.map V.str) us->StrsAre us ss
 | [],_,.nil=>.nil
 | s::ss,_,.cons r rs=>by
  obtain⟨t,rfl⟩:=(show ∃t,_=Value.str s t from r);exact .cons s t (vS rs)
theorem dY:Cc X "str.join" (rJoin X.K):=by
 intro pins s σ H x vs v us Q I rx rv h;obtain⟨sep,p,ss,rfl,rfl,hq,hl,q⟩:=h;obtain⟨t,rfl⟩:=(show ∃t,v=Value.str sep t from rx);obtain⟨u,rfl,ru⟩:=rv.one;cases ru;obtain⟨its,r',pl,hz⟩:=I.list hq;exact join_list pl.isList (vS r') hl fun t' k=>⟨.str _,H,I.tok _,⟨_,rfl⟩,q⟩
end
end L2
set_option maxHeartbeats 4000000
namespace PySem.W
open PySem PySem.Calls PyProof.Rows
theorem KasT.run_bind{α β:Type}{lt:Nat->Nat->Bool}{f:α->KasT β}:∀{t:KasT α},(t.bind f).run lt=(f (t.run lt)).run lt
 | .ret a=>rfl
 | .ask i j k=>KasT.run_bind (t:=k (lt i j))
namespace SG
section
variable {n:Nat}{code:Nat->Nat}
abbrev ck(code:Nat->Nat)(p:Array Nat)(i:Nat):Nat:=code (p.getD i 0)
abbrev lc(code:Nat->Nat):Nat->Nat->Bool:=fun i j=>decide (code i<code j)
def AA(code:Nat->Nat)(p:Array Nat)(m:Nat):Prop:=∀i j,i<j->j<m->ck code p i<ck code p j
def Dec(code:Nat->Nat)(p:Array Nat)(m:Nat):Prop:=∀i j,i<j->j<m->ck code p j<ck code p i
def Inj(n:Nat)(code:Nat->Nat)(p:Array Nat):Prop:=∀i j,i<n->j<n->ck code p i=ck code p j->i=j
theorem getD_at(p:Array Nat)(i:Nat):p.getD i 0=(p[i]?).getD 0:=by
 by_cases h:i<p.size
 ·simp[qFf,h]
 ·simp[qFf,h]
theorem gF.size{p:Array Nat}(h:gF n p):p.size=n:=by
 have:=h.length_eq;rw[qCt,qCo] at this;exact this
theorem EZ{p:Array Nat}(hn:0<n)(h:gF n p)(inj:∀i j,i<n->j<n->code i=code j->i=j):Inj n code p:=fun i j hi hj e=>by
 have e:=inj _ _ (h.lt hn i) (h.lt hn j) e;have nd:p.toList.Nodup:=h.nodup_iff.mpr List.nodup_range;have sz:=gF.size h;have gi:p.getD i 0=p.toList[i]'(by rw[qCo];lia):=by simp[qFf,show i<p.size by lia]
 have gj:p.getD j 0=p.toList[j]'(by rw[qCo];lia):=by simp[qFf,show j<p.size by lia]
 rw[gi,gj] at e;exact(qKz nd).mp e
theorem qJ{p:Array Nat}(ij:Inj n code p):∀f m,1<=m->m+f<=n->AA code p m->∃m',(kas_asc p f m).run (lc code)=m'/\m<=m'/\m'<=m+f/\AA code p m'/\(m'=m+f\/ck code p m'<ck code p (m'-1))
 | 0,m,_,_,s=>⟨m,rfl,qAi _,qAi _,s,.inl rfl⟩
 | f+1,m,m1,mf,s=>by
  by_cases h:ck code p m<ck code p (m-1)
  ·refine⟨m,?_,qAi _,by lia,s,.inr h⟩;show KasT.run _ (if lc code (p.getD m 0) (p.getD (m-1) 0)=true then _ else _)=m;rw[if_pos (decide_eq_true h)];rfl
  ·have s':AA code p (m+1):=fun i j hij hj=>by
    rcases qBh j m with q | q
    ·exact s i j hij q
    ·obtain rfl:j=m:=by lia
     have ne:ck code p j≠ck code p (j-1):=fun e=>by have:=ij j (j-1) (by lia) (by lia) e;lia
     rcases qBh i (j-1) with z | z
     ·have:=s i (j-1) z (by lia);lia
     ·obtain rfl:i=j-1:=by lia
      lia
   obtain⟨m',e,a,b,c,d⟩:=qJ ij f (m+1) (by lia) (by lia) s';refine⟨m',?_,by lia,by lia,c,by lia⟩;show KasT.run _ (if lc code (p.getD m 0) (p.getD (m-1) 0)=true then _ else _)=m';rw[if_neg (by rw[show lc code (p.getD m 0) (p.getD (m-1) 0)=false from decide_eq_false h];decide)];exact e
theorem sG{p:Array Nat}(ij:Inj n code p):∀f m,1<=m->m+f<=n->Dec code p m->∃m',(kas_desc f p m 0).run (lc code)=(p,m',0)/\m<=m'/\m'<=m+f/\Dec code p m'
 | 0,m,_,_,s=>⟨m,rfl,qAi _,qAi _,s⟩
 | f+1,m,m1,mf,s=>by
  by_cases h:ck code p m<ck code p (m-1)
  ·have s':Dec code p (m+1):=fun i j hij hj=>by
    rcases qBh j m with q | q
    ·exact s i j hij q
    ·obtain rfl:j=m:=by lia
     rcases qBh i (j-1) with z | z
     ·have:=s i (j-1) z (by lia);lia
     ·obtain rfl:i=j-1:=by lia
      lia
   obtain⟨m',e,a,b,c⟩:=sG ij f (m+1) (by lia) (by lia) s';refine⟨m',?_,by lia,by lia,c⟩;show KasT.run _ (if lc code (p.getD m 0) (p.getD (m-1) 0)=true then (if 0>0 then _ else _) else _)=_;rw[if_pos (decide_eq_true h),if_neg (by lia)];exact e
  ·have ne:ck code p m≠ck code p (m-1):=fun e=>by have:=ij m (m-1) (by lia) (by lia) e;lia
   refine⟨m,?_,qAi _,by lia,s⟩;show KasT.run _ (if lc code (p.getD m 0) (p.getD (m-1) 0)=true then _ else KasT.ask _ _ _)=_;rw[if_neg (by rw[show lc code (p.getD m 0) (p.getD (m-1) 0)=false from decide_eq_false h];decide)];show KasT.run _ (if lc code (p.getD (m-1) 0) (p.getD m 0)=true then _ else _)=_;rw[if_pos (decide_eq_true (by show ck code p (m-1)<ck code p m;lia))];rfl
theorem AB{p:Array Nat}{m:Nat}(hm:m<=p.size)(i:Nat)(hi:i<m):(kas_rev p 0 m).getD i 0=p.getD (m-1-i) 0:=by
 rw[getD_at,getD_at];unfold kas_rev;rw[getElem?_mirror_all hm,if_pos ⟨qBm _,hi⟩,Nat.zero_add]
theorem yA(hn:0<n)(inj:∀i j,i<n->j<n->code i=code j->i=j){p:Array Nat}(h:gF n p):∃m p',(kas_count n p).run (lc code)=(m,p')/\gF n p'/\1<=m/\m<=n/\AA code p' m:=by
 have ij:=EZ hn h inj;have sz:=gF.size h;obtain⟨m1,e1,a1,b1,c1,d1⟩:=qJ ij (n-1) 1 (qAi _) (by lia) fun i j hij hj=>by lia
 unfold kas_count;rw[KasT.run_bind,e1];by_cases h1:(m1 == n)=true
 ·rw[if_pos h1];exact⟨m1,p,rfl,h,by lia,by lia,c1⟩
 rw[if_neg h1];have ne:m1≠n:=fun e=>h1 (by rw[e];exact beq_self_eq_true _);by_cases h2:m1>1
 ·rw[if_pos h2];refine⟨m1,p,?_,h,by lia,by lia,c1⟩;show KasT.run _ (if lc code (p.getD 0 0) (p.getD (m1-1) 0)=true then _ else _)=_;rw[if_pos (decide_eq_true (c1 0 (m1-1) (by lia) (by lia)))];rfl
 rw[if_neg h2];obtain rfl:m1=1:=by lia
 have lt1:ck code p 1<ck code p 0:=by rcases d1 with z | z;lia;exact z
 obtain⟨m2,e2,a2,b2,c2⟩:=sG ij (n-(1+1)) (1+1) (by lia) (by lia) fun i j hij hj=>by
  obtain rfl:i=0:=by lia
  obtain rfl:j=1:=by lia
  exact lt1
 unfold kas_descPart;rw[KasT.run_bind,e2];show ∃m p',KasT.run _ (if (0:Nat)>0 then _ else kas_tail3 m2 n p)=(m,p')/\_;rw[if_neg (by lia)];have h2:=h.rev 0 m2;have s2:AA code (kas_rev p 0 m2) m2:=fun i j hij hj=>by
  show code _<code _;rw[AB (by lia) i (by lia),AB (by lia) j hj];exact c2 (m2-1-j) (m2-1-i) (by lia) (by lia)
 obtain⟨m3,e3,a3,b3,c3,_⟩:=qJ (EZ hn h2 inj) (n-m2) m2 (by lia) (by lia) s2;refine⟨m3,kas_rev p 0 m2,?_,h2,by lia,by lia,c3⟩;unfold kas_tail3;rw[KasT.run_bind,e3];rfl
theorem kJ{p:Array Nat}{k:Nat}(hk:k<n)(ij:Inj n code p)(s:AA code p k):∀f l r,l<=r->r<=k->r-l<=f->(∀i,i<l->ck code p i<ck code p k)->(∀i,r<=i->i<k->ck code p k<ck code p i) ->
  ∃l',(kas_place p k f l r).run (lc code)=l'/\l'<=k/\(∀i,i<l'->ck code p i<ck code p k)/\(∀i,l'<=i->i<k->ck code p k<ck code p i)
 | 0,l,r,lr,rk,f0,a,b=>⟨l,rfl,by lia,a,fun i hi=>b i (by lia)⟩
 | f+1,l,r,lr,rk,fl,a,b=>by
  by_cases h:l≥r
  ·refine⟨l,?_,by lia,a,fun i hi=>b i (by lia)⟩;show KasT.run _ (if l≥r then _ else _)=l;rw[if_pos h];rfl
  ·have q:(kas_place p k (f+1) l r).run (lc code)=(if lc code (p.getD k 0) (p.getD ((l+r)/2) 0)=true then kas_place p k f l ((l+r)/2) else kas_place p k f ((l+r)/2+1) r).run (lc code):=by
    show KasT.run _ (if l≥r then _ else _)=_;rw[if_neg h];rfl
   rw[q];by_cases c:ck code p k<ck code p ((l+r)/2)
   ·rw[if_pos (decide_eq_true c)];refine kJ hk ij s f l ((l+r)/2) (by lia) (by lia) (by lia) a fun i hi hik=>?_;rcases qBh ((l+r)/2) i with z | z
    ·have:=s _ i z hik;lia
    ·obtain rfl:i=(l+r)/2:=by lia
     exact c
   ·rw[if_neg (by rw[show lc code (p.getD k 0) (p.getD ((l+r)/2) 0)=false from decide_eq_false c];decide)];have ne:ck code p k≠ck code p ((l+r)/2):=fun e=>by have:=ij k _ hk (by lia) e;lia
    refine kJ hk ij s f ((l+r)/2+1) r (by lia) rk (by lia) (fun i hi=>?_) b;rcases qBh i ((l+r)/2) with z | z
    ·have:=s i _ z (by lia);lia
    ·obtain rfl:i=(l+r)/2:=by lia
     lia
theorem AD{p:Array Nat}{k l:Nat}(hk:k<p.size)(hl:l<=k)(i:Nat):(bubble p k (k-l)).getD i 0=if i=l then p.getD k 0 else if l<i/\i<=k then p.getD (i-1) 0 else p.getD i 0:=by
 rw[getD_at (bubble p k (k-l)),getD_at p k,getD_at p (i-1),getD_at p i,getElem?_bubble hk _ (by lia),show k-(k-l)=l by lia];split
 ·rfl
 ·split <;> rfl
theorem vT(hn:0<n)(inj:∀i j,i<n->j<n->code i=code j->i=j):∀f p k,gF n p->AA code p k->k+f=n->gF n ((kas_bin f p k).run (lc code))/\AA code ((kas_bin f p k).run (lc code)) n
 | 0,p,k,h,s,e=>by
  obtain rfl:k=n:=by lia
  exact⟨h,s⟩
 | f+1,p,k,h,s,e=>by
  have ij:=EZ hn h inj;have sz:=gF.size h;obtain⟨l,el,lk,a,b⟩:=kJ (by lia) ij s k 0 k (qBm _) (qAi _) (by lia) (fun i hi=>by lia) (fun i hi hk=>by lia);show gF n ((KasT.bind _ _).run _)/\AA code ((KasT.bind _ _).run _) n;rw[KasT.run_bind,el];refine vT hn inj f _ (k+1) (h.MM _ _) (fun i j hij hj=>?_) (by lia);show code _<code _;rw[AD (by lia) lk,AD (by lia) lk];by_cases j1:j=l
  ·rw[if_pos j1,if_neg (by lia),if_neg (by lia)];exact a i (by lia)
  rw[if_neg j1];by_cases j2:l<j/\j<=k
  ·rw[if_pos j2];by_cases i1:i=l
   ·rw[if_pos i1];exact b (j-1) (by lia) (by lia)
   rw[if_neg i1];by_cases i2:l<i/\i<=k
   ·rw[if_pos i2];exact s (i-1) (j-1) (by lia) (by lia)
   ·rw[if_neg i2];exact s i (j-1) (by lia) (by lia)
  ·rw[if_neg j2,if_neg (by lia),if_neg (by lia)];exact s i j hij (by lia)
theorem AE(hn:0<n)(inj:∀i j,i<n->j<n->code i=code j->i=j):AA code ((kas_sort n).run (lc code)) n:=by
 obtain⟨m,p',e,h,m1,mn,s⟩:=yA hn inj (show gF n (qDy (qAq n)) from List.Perm.refl _);unfold kas_sort;rw[KasT.run_bind,e];show AA code (KasT.run _ (if m<n then kas_bin (n-max m 1) p' (max m 1) else _)) n;rw[show max m 1=m by lia];by_cases z:m<n
 ·rw[if_pos z];exact(vT hn inj _ p' m h s (by lia)).2
 ·rw[if_neg z];obtain rfl:m=n:=by lia
  exact s
theorem uJ(hn:0<n){lt:Nat->Nat->Bool}(hlt:∀i j,i<n->j<n->lt i j=decide (code i<code j))(inj:∀i j,i<n->j<n->code i=code j->i=j):(((kas_sort n).run lt).toList.map code).Pairwise (· < ·):=by
 have e:(kas_sort n).run lt=(kas_sort n).run (lc code):=KasT.oV (n:=n) (P:=gF n) (fun i j hi hj=>hlt i j hi hj) (qI hn);have pm:gF n ((kas_sort n).run lt):=KasT.Az (qI hn);have s:=AE hn inj;rw[<- e] at s;have sz:=gF.size pm;rw[List.pairwise_map,List.pairwise_iff_getElem];intro i j hi hj hij;rw[qCo] at hi hj;have z:=s i j hij (by lia);have gi:((kas_sort n).run lt).getD i 0=((kas_sort n).run lt).toList[i]'(by rw[qCo];exact hi):=by simp[qFf,hi]
 have gj:((kas_sort n).run lt).getD j 0=((kas_sort n).run lt).toList[j]'(by rw[qCo];exact hj):=by simp[qFf,hj]
 have z:code _<code _:=z;rw[gi,gj] at z;exact z
end
end SG
end PySem.W
namespace L2
open PySem PySem.Spec PyProof.Rows PySem.W
section
variable {X:Cx}
theorem nX:eQ X (.builtin "sorted") (fun xs H Q=>∃(p:Addr) (as:List Addr) (c:Addr->Nat),xs=[.ref p]/\aY X.K H p (as.map V.ref)/\(∀a∈as,Ax H a)/\as.length<64/\(∀a∈as,∀b∈as,HT.lexLt (fJ H a) (fJ H b)=decide (c a<c b))/\(as.map c).Nodup /\
  ∀(l:Addr) (bs:List Addr),H l=none->bs.Perm as->(bs.map c).Pairwise (· < ·)->Q (.ref l) (upd H l (.lst (bs.map V.ref)))):=fun pins s σ H xs us Q I r h=>by
 obtain⟨p,as,c,e1,e2,e3,e4,e5,e6,q⟩:=h;refine nV pins s σ H xs us Q I r ⟨p,as,e1,e2,e3,e4,fun l bs hl hp hb=>q l bs hl hp ?_⟩;rcases qEb as.length with z | h0
 ·have:as=[]:=List.eq_nil_of_length_eq_zero z;subst this;rw[List.perm_nil.mp hp];exact List.Pairwise.nil
 have at_:∀i,i<as.length->as.getD i 0∈as:=fun i hi=>by
  rw[qAs,qAc hi];exact qCh hi
 have z:=SG.uJ h0 (code:=fun i=>c (as.getD i 0)) (fun i j hi hj=>e5 _ (at_ i hi) _ (at_ j hj)) fun i j hi hj e=>by
  refine(List.getElem?_inj (i:=i) (j:=j) (by rw[qAa];exact hi) e6).mp ?_;rw[qAj,qAj,qAc hi,qAc hj];have e':c (as.getD i 0)=c (as.getD j 0):=e;rw[qAs,qAs,qAc hi,qAc hj] at e';exact congrArg some e'
 rw[hb,qBt];exact z
end
section
variable {K:qAb}{a:Addr}{xs:List V}{σ0:St}{H1:Hp}{g:TG}{c:TT}{te:TE}{Q:Addr->Hp->Prop}
theorem uK(Ag:St->Prop)(R:Nat->V->Hp->Prop)(mono:∀i y H H',dX H H'->R i y H->R i y H')(h0:Ag σ0)(hq:aY K H1 a xs)(hn:xs.length<=qAg)
  (step:∀(i:Nat) (x:V) (σ1:St) (H2:Hp) (k:St->VK) (k0:St->Hp->Prop),Ag σ1->aI H1 H2->xs[i]?=some x->(∀σ2 y H3,Ag σ2->aI H2 H3->R i y H3->k σ2 y H3) ->
   g x σ1 H2 fun σ2 H3=>c σ2 H3 fun b H4=>if b=true then te σ2 H4 (k σ2) else k0 σ2 H4)
  (h:∀D ys H2,H1 D=none->aI H1 H2->ys.length=xs.length->(∀i y,ys[i]?=some y->R i y H2)->H2 D=some (.lst ys)->Q D H2) :
  ∀D,H1 D=none->∃W:Nat->Nat->St->Hp->Prop,(∃m,W 0 m σ0 (upd H1 D (.lst [])))/\∀i m σ1 H2,W i m σ1 H2 ->
   ((nO K a).stop i H2/\Q D H2)\/((nO K a).go i H2/\∃N:St->Hp->Prop,(∀σ' H',N σ' H'->∃m',m'<m/\W (i+1) m' σ' H') /\
    ∀x H',(nO K a).rF i H2 x H'->g x σ1 H' fun σ2 H3=>c σ2 H3 fun b H4=>if b=true then te σ2 H4 fun y H5=>∃xs,H5 D=some (.lst xs)/\xs.length<qAg/\N σ2 (upd H5 D (.lst (xs++[y]))) else N σ2 H4):=by
 intro D hD;refine⟨fun i m σ1 H2=>Ag σ1/\aI H1 H2/\(∃ys,ys.length=i/\(∀j y,ys[j]?=some y->R j y H2)/\H2 D=some (.lst ys))/\i<=xs.length/\m=xs.length-i,⟨xs.length,h0,.aJ hD,⟨[],rfl,fun j y e=>(by cases e),aC⟩,qBm _,rfl⟩,?_⟩;rintro i m σ1 H2 ⟨hσ,hs,⟨ys,hy,hR,hd⟩,hi,rfl⟩;rcases qBh i xs.length with hlt | hge
 ·right
  refine⟨⟨xs,xs[i],hs.seq hq,by simp[hlt]⟩,fun σ' H'=>Ag σ'/\aI H1 H'/\∃ys,ys.length=i+1/\(∀j y,ys[j]?=some y->R j y H')/\H' D=some (.lst ys),fun σ' H' ⟨a,b,c⟩=>⟨xs.length-(i+1),by lia,a,b,c,hlt,rfl⟩,?_⟩;rintro x H' ⟨rfl,hx⟩;have hx:=hx xs (hs.seq hq);refine step i x σ1 _ (fun σ2 y H5=>∃xs,H5 D=some (.lst xs)/\xs.length<qAg/\_) _ hσ hs hx (fun σ2 y H3 a2 hs3 hR3=>⟨_,hs3 _ _ hd,by lia,a2,(hs.trans hs3).upd_ne' hD,ys++[y],by rw[qAn];show _+1=_;lia,fun j z e=>?_,aC⟩);have keep:∀{j z},R j z H3->R j z (upd H3 D (.lst (ys++[y]))):=fun {j z} q=>mono _ _ _ _ (.lst (hs3 _ _ hd)) q;rcases qBh j ys.length with z1 | z1
  ·rw[qCa z1] at e;exact keep (mono _ _ _ _ hs3.t (hR j z e))
  ·rw[qBy z1] at e;obtain⟨rfl,rfl⟩:j=i/\y=z:=by
    rcases qEb (j-ys.length) with q | q
    ·rw[q] at e;exact⟨by lia,Option.some.inj e⟩
    ·rw[qDi (by show 1<=_;lia)] at e;cases e
   exact keep hR3
 ·left
  obtain rfl:i=xs.length:=qDa hi hge;exact⟨⟨xs,hs.seq hq,qAi _⟩,h D ys _ hD hs hy hR hd⟩
end
section
variable {X:Cx}
theorem all_true(n:Nat):(qAq n).all (fun _=>true)=true:=List.all_eq_true.mpr fun _ _=>rfl
def LB(K:qAb):R2:=fun x y H Q=>∃(l l':Addr) (xs:List V),x = .ref l/\y = .ref l'/\aY K H l xs/\aY K H l' []/\Q (.bl (decide (xs≠[]))) H
theorem Fb(hu:X.A.units+64<qMc):gX X (qDp .NotEq) (LB X.K):=by
 intro pins s σ H x y v u Q I rx ry h;obtain⟨l,l',xs,rfl,rfl,h1,h2,q⟩:=h;cases rx;cases ry;obtain⟨its,r,pl,hz⟩:=I.list h1;obtain⟨its2,r2,pl2,hz2⟩:=I.list h2;have l2:its2.length=0:=by rw[<- r2.length];rfl
 by_cases c:xs=[]
 ·subst c;have l1:its.length=0:=by rw[<- r.length];rfl
  refine PySem.SeqAt.RcNeAt.lists (e:=fun _=>true) pl.isList pl2.isList (by show its.length=its2.length;lia) (by lia) (fun j a b=>absurd a (by show ¬j<its.length;lia)) _ _ _ _ ?_;rw[all_true];exact⟨.bl false,H,I,rfl,q⟩
 ·have l1:its.length≠0:=fun z=>c (List.length_eq_zero_iff.mp (by rw[r.length];exact z));refine PySem.SeqAt.RcNeAt.lists_lengths pl.isList pl2.isList (by show(its.length != its2.length)=true;rw[l2];exact bne_iff_ne.mpr l1) (by lia) _ _ _ _ ?_;rw[decide_eq_true c] at q;exact⟨.bl true,H,I,rfl,q⟩
end
section
variable {X:Cx}
def AF:V->List V->Hp->VK->Prop:=fun x xs H Q=>∃t sep:Str,x = .str t/\xs=[.str sep]/\(sep.length == 0)=false/\t.length+2<=qAg/\∀l,H l=none->Q (.ref l) (upd H l (.lst ((Txt.split t sep).map V.str)))
theorem oX:∀(ss:List Str) (n:Nat),Vals (ss.map V.str) (strsFrom n ss)
 | [],_=>.nil
 | s::ss,n=>.cons ⟨_,rfl⟩ (oX ss (n+1))
theorem oY:Cc X "str.split" AF:=by
 intro pins s σ H x xs v us Q I rx rv h;obtain⟨t,sep,rfl,rfl,h0,hz,q⟩:=h;obtain⟨tk,rfl⟩:=(show ∃tk,v=Value.str t tk from rx);obtain⟨u,rfl,ru⟩:=rv.one;obtain⟨tu,rfl⟩:=(show ∃tu,u=Value.str sep tu from ru);have fin:∀(its:List qAf) (k:Nat),Vals ((Txt.split t sep).map V.str) its->(Txt.split t sep).length<=qAg->EP X pins σ Q (.ref s.heap.objs.size) { s with heap:=s.heap.push { cls:=.type "list",data:=.seq its.toArray },toks:=k }:=fun its k r hl =>
  ⟨.ref s.heap.objs.size,_,I.laid (t':=k) (fun b o e=>qAh _ e) (qAi _) (show cZ X.prog X.w _ _ _ (.lst _) from⟨by rw[qAa];exact hl,its,_,r,qBa _ rfl⟩),rfl,q _ (I.cQ.fresh (qAi _))⟩
 have kind:s.TypeIs (Value.str t tk) "str":=rfl;by_cases c1:(decide (t.length<sep.length)||decide (Builtin.Str.strKind t<Builtin.Str.strKind sep))=true
 ·have e:Txt.split t sep=[t]:=by unfold Txt.split;rw[if_pos c1]
  refine qHh F.slot_str_split kind F.entry_str_split (F.args_str_split_2 _ _) (meets_str_split_cannot_occur t sep tk tu c1) ?_;have z:=fin [Value.str t tk] s.toks (by rw[e];exact .cons ⟨_,rfl⟩ .nil) (by rw[e];show 1<=qAg;decide);exact z
 ·have c1':(decide (t.length<sep.length)||decide (Builtin.Str.strKind t<Builtin.Str.strKind sep))=false:=Bool.eq_false_iff.mpr c1
  by_cases c2:(Builtin.Str.occurrences t sep 0 t.length (t.length+1)).isEmpty=true
  ·have e:Txt.split t sep=[t]:=by unfold Txt.split;rw[if_neg c1,if_pos c2]
   refine qHh F.slot_str_split kind F.entry_str_split (F.args_str_split_2 _ _) (meets_str_split_not_found t sep tk tu c1' h0 c2) ?_;have z:=fin [Value.str t tk] s.toks (by rw[e];exact .cons ⟨_,rfl⟩ .nil) (by rw[e];show 1<=qAg;decide);exact z
  ·have e:Txt.split t sep=Builtin.Str.partsBetween t (Builtin.Str.occurrences t sep 0 t.length (t.length+1)) sep.length:=by unfold Txt.split;rw[if_neg c1,if_neg c2]
   have hl:(Txt.split t sep).length<=qAg:=by
    have z:=qMi (l:=(Txt.split t sep).map fun s=>(s,tk)) (x:=t) (y:=sep) (by rw[qBt];exact qMp _);rw[qAa] at z;lia
   refine qHh F.slot_str_split kind F.entry_str_split (F.args_str_split_2 _ _) (meets_str_split_sep t sep tk tu c1' h0 (Bool.eq_false_iff.mpr c2) (by lia) (by rw[<- e];exact hl)) ?_;have z:=fin (strsFrom s.toks (Txt.split t sep)) (s.toks+(Txt.split t sep).length) (oX _ _) hl;rw[e] at z;exact z
def Cu:V->List V->Hp->VK->Prop:=fun x xs H Q=>∃t p:Str,x = .str t/\xs=[.str p]/\Q (.bl (Txt.startswith t p)) H
theorem mL:Cc X "str.startswith" Cu:=by
 intro pins s σ H x xs v us Q I rx rv h;obtain⟨t,p,rfl,rfl,q⟩:=h;obtain⟨tk,rfl⟩:=(show ∃tk,v=Value.str t tk from rx);obtain⟨u,rfl,ru⟩:=rv.one;obtain⟨tu,rfl⟩:=(show ∃tu,u=Value.str p tu from ru);refine call_gives F.slot_str_startswith rfl F.entry_str_startswith (F.args_str_startswith_2 _ _) (gives_str_startswith t p tk tu) ?_;exact⟨.bl _,H,I,rfl,q⟩
theorem nY:eQ X (.type "int") (fun xs H Q=>∃(x:Str) (n:Int),xs=[.str x]/\PySem.intText? x=some n/\x.length<=640/\Q (.int n) H):=by
 intro pins s σ H xs us Q I r h;obtain⟨x,n,rfl,hn,hl,q⟩:=h;obtain⟨u,rfl,t,rfl⟩:=vals1 r;exact PySem.W.KIN.call_text hn hl ⟨.int n,H,I.tok _,⟨_,rfl⟩,q⟩
def LC:V->Option Int->Option Int->Hp->VK->Prop:=fun x lo hi H Q=>∃t:Str,x = .str t/\(Txt.slice t lo hi).length<=qAg/\Q (.str (Txt.slice t lo hi)) H
theorem AG:HF X LC:=by
 intro pins s σ H x v vl vu lo hi sl Q I rx hs pl pu h;obtain⟨t,rfl,hz,q⟩:=h;obtain⟨tk,rfl⟩:=(show ∃tk,v=Value.str t tk from rx);refine⟨"str",_,F.slot_str_getitem.lookup,rfl,?_⟩;have part:∀{v:qAf}{o:Option Int},qId v o->∃p:Option (Int×Tok),partValue p=v/\p.map (·.1)=o:=fun {v o} h=>by
  cases h with
  | none=>exact⟨none,rfl,rfl⟩
  | int i t=>exact⟨some (i,t),rfl,rfl⟩
 obtain⟨p1,e1,e1'⟩:=part pl;obtain⟨p2,e2,e2'⟩:=part pu;have hs':s.heap.IsSlice sl p1 p2 none:=by
  obtain⟨o,h1,h2,h3⟩:=hs;exact⟨o,h1,h2,by rw[h3,e1,e2];rfl⟩
 refine wpAny_getItem_str_slice hs' rfl ?_;have pick:slicePicked t p1 p2 none=Builtin.Str.strSliceIndices lo hi 1 t.length:=by
  subst e1' e2';rfl
 have eA:sliceMade t tk p1 p2 none=if ((Builtin.Str.strSliceIndices lo hi 1 t.length).length == t.length)=true then Made.val (Value.str t tk) else Made.str { cps:=(qGy (fun i=>t.cps[i]?) (Builtin.Str.strSliceIndices lo hi 1 t.length)).toArray }:=by
  unfold sliceMade;rw[pick];rfl
 have eB:Txt.slice t lo hi=if ((Builtin.Str.strSliceIndices lo hi 1 t.length).length == t.length)=true then t else { cps:=(qGy (fun i=>t.cps[i]?) (Builtin.Str.strSliceIndices lo hi 1 t.length)).toArray }:=rfl;rw[eA];rw[eB] at q hz;by_cases c:((Builtin.Str.strSliceIndices lo hi 1 t.length).length == t.length)=true
 ·rw[if_pos c] at q|-;exact⟨.str t,H,I,⟨_,rfl⟩,q⟩
 ·rw[if_neg c] at q hz|-;exact⟨hz,.str _,H,I.tok _,⟨_,rfl⟩,q⟩
def Jk(t:Str):It:=⟨fun i H=>i<t.cps.size,fun i H x H'=>H'=H/\∃c,t.cps[i]?=some c/\x = .str ⟨#[c]⟩,fun i H=>i=t.cps.size⟩
def ascii(t:Str):Prop:=(t.cps.all fun x=>decide (x<128))=true
theorem AH{P:qBc}{w:qCd}{K:qAb}{tg:Expr}(t:Str)(tk:Tok)(it:Addr):Turn P w K tg (Jk t) [it] it (fun i h=>h.IsStrIter it "str_ascii_iterator" t tk i) where
 mem:=by simp
 obj:=fun i h st b hb=>by
  have e:b=it:=by simpa using hb
  subst e;obtain⟨o,e,c,d⟩:=st;exact⟨o,e,fun v z=>by rw[d] at z;cases z⟩
 keep:=fun i h h' st k=>by
  obtain⟨o,e,c,d⟩:=st;exact⟨o,k it (by simp) o e,c,d⟩
 item:=by
  intro X hP hw hK hc i pins s σ H E I hf st hg;subst hP hw hK;have hi:i<t.cps.size:=hg;obtain⟨f0,f1,f2,f3,f4,f5⟩:=hf it (by simp);refine wpAny_pyNext_ascii_item st (c:=t.cps[i]) (qFp hi) fun h' st' sb=>?_;have I1:Inv X pins σ H { s with heap:=h',toks:=s.toks+1 }:=I.turned (t':=s.toks+1) (fun b o hb e=>(sb.2 b hb).trans e) f0 f1 f3 f4 f5;obtain⟨o,e,c,d⟩:=id st';exact⟨_,rfl,vC (s:={ s with heap:=h',toks:=s.toks+1 }) e c d (by decide) ⟨.str ⟨#[t.cps[i]]⟩,H,I1,⟨_,rfl⟩,⟨rfl,_,qFp hi,rfl⟩,st',fun b hb=>(hf b hb).1⟩⟩
 done:=by
  intro X hP hw hK hc i pins s σ H E I hf st hg;subst hP hw hK;obtain rfl:i=t.cps.size:=hg;obtain⟨f0,f1,f2,f3,f4,f5⟩:=hf it (by simp);exact wpAny_pyNext_ascii_end (I.ok.hd hc) st (Array.getElem?_eq_none (qAi _)) fun h' eb=>⟨rfl,I.turned (t':=s.toks) (fun b o hb e=>eb b o hb e) f0 f1 f3 f4 f5⟩
 self:=fun _ _ _ _ _ st h=>wpAny_pyIter_striter_ascii st h
def LD(te:TE):TI:=fun σ H R=>te σ H fun x H1=>∃t:Str,x = .str t/\ascii t/\R (Jk t) H1
theorem Fc{tg l:Expr}{tl:TE}(hl:PE X l tl):PI X tg l (LD tl):=by
 intro pins s σ H R I h;refine bX (hl pins s σ H _ I h) fun v s1 ⟨x,H1,I1,r1,q1⟩=>?_;obtain⟨t,rfl,ha,q⟩:=q1;obtain⟨tk,rfl⟩:=(show ∃tk,v=Value.str t tk from r1);refine wpAny_pyIter_strU ?_;have ety:strIterType t="str_ascii_iterator":=by
  exact if_pos ha
 rw[ety];have hit:(s1.heap.push { cls:=.type "str_ascii_iterator",data:=.fields #[.str t tk,.int 0 0] }).IsStrIter s1.heap.objs.size "str_ascii_iterator" t tk 0:=⟨_,qBa _ rfl,rfl,rfl⟩;have I2:Inv X pins σ H1 { s1 with heap:=s1.heap.push { cls:=.type "str_ascii_iterator",data:=.fields #[.str t tk,.int 0 0] } }:=I1.kept (t':=s1.toks) fun b o e=>qAh _ e;refine⟨s1.heap.objs.size,[s1.heap.objs.size],_,_,H1,rfl,I2,AH t tk _,hit,fun b hb=>?_,q⟩;have e:b=s1.heap.objs.size:=by simpa using hb
 subst e;exact I1.pT (qAi _) (I1.cQ.fresh (qAi _))
end
section
variable {X:Cx}
def Jl:TS:=fun _ _ _=>False
theorem iW{st:Stmt}:PS X st Jl:=fun _ _ _ _ _ _ h=>h.elim
theorem Cv{body suite:List Stmt}{b₀:Stmt}{x:Str}{np hpos pos:Pos}{tb:XS->TS}(hb:∀pins Ex,oC (Ck X pins Ex) body (tb Ex)):
  PS X (.Try body [.ExceptHandler (some (.Name x np)) none (b₀::suite) hpos] [] [] pos) (tb fun _ _ _=>False):=by
 intro pins s σ H D I h;refine wpAny_Try_except (qFc (hb pins _ [] s σ H D (I.Ja _) h) (fun f s1 q=>?_) fun ev s1 q=>?_)
 ·cases f with
  | next=>obtain⟨σ1,H1,I1,q1⟩:=q;exact qFu ⟨σ1,H1,I1.qB,q1⟩
  | brk=>obtain⟨σ1,H1,I1,q1⟩:=q;exact⟨σ1,H1,I1.qB,q1⟩
  | cont=>obtain⟨σ1,H1,I1,q1⟩:=q;exact⟨σ1,H1,I1.qB,q1⟩
  | ret u=>obtain⟨v1,σ1,H1,I1,r1,q1⟩:=q;exact⟨v1,σ1,H1,I1.qB,r1,q1⟩
 ·obtain⟨e,C,σ1,H1,s2,H2,rfl,I2,F,no⟩:=q;exact no.elim
end
section
variable {K:qAb}{t:Str}{σ0:St}{H1:Hp}{i0:Nat}{c:TT}{te:TE}{Q:Addr->Hp->Prop}
theorem AI(f:Nat->Option V)(hn:t.cps.size<=qAg)
  (step:∀(i:Nat) (x:Nat) (H2:Hp) (k:VK) (k0:Hp->Prop),aI H1 H2->t.cps[i]?=some x->(∀y,f x=some y->∀H3,aI H2 H3->k y H3)->(f x=none->∀H3,aI H2 H3->k0 H3) ->
   c (σ0.set i0 (some (.str ⟨#[x]⟩))) H2 fun b H4=>if b=true then te (σ0.set i0 (some (.str ⟨#[x]⟩))) H4 k else k0 H4)
  (h:∀D H2,H1 D=none->aI H1 H2->H2 D=some (.lst (t.cps.toList.filterMap f))->Q D H2) :
  ∀D,H1 D=none->∃W:Nat->Nat->St->Hp->Prop,(∃m,W 0 m σ0 (upd H1 D (.lst [])))/\∀i m σ1 H2,W i m σ1 H2 ->
   ((Jk t).stop i H2/\Q D H2)\/((Jk t).go i H2/\∃N:St->Hp->Prop,(∀σ' H',N σ' H'->∃m',m'<m/\W (i+1) m' σ' H') /\
    ∀x H',(Jk t).rF i H2 x H'->bE i0 x σ1 H' fun σ2 H3=>c σ2 H3 fun b H4=>if b=true then te σ2 H4 fun y H5=>∃xs,H5 D=some (.lst xs)/\xs.length<qAg/\N σ2 (upd H5 D (.lst (xs++[y]))) else N σ2 H4):=by
 intro D hD;refine⟨fun i m σ1 H2=>σ1.set i0 none=σ0.set i0 none/\aI H1 H2/\H2 D=some (.lst ((t.cps.toList.take i).filterMap f))/\i<=t.cps.size/\m=t.cps.size-i,⟨t.cps.size,rfl,.aJ hD,aC,qBm _,rfl⟩,?_⟩;rintro i m σ1 H2 ⟨hσ,hs,hd,hi,rfl⟩;have hset:∀v:Option V,σ1.set i0 v=σ0.set i0 v:=fun v=>by
  have z:=congrArg (fun l=>qGs l i0 v) hσ;simpa using z
 rcases qBh i t.cps.size with hlt | hge
 ·right
  refine⟨hlt,fun σ' H'=>σ'.set i0 none=σ0.set i0 none/\aI H1 H'/\H' D=some (.lst ((t.cps.toList.take (i+1)).filterMap f)),fun σ' H' ⟨a,b,c⟩=>⟨t.cps.size-(i+1),by lia,a,b,c,hlt,rfl⟩,?_⟩;rintro v H' ⟨rfl,x,hx,rfl⟩;have et:t.cps.toList.take (i+1)=t.cps.toList.take i++[x]:=by
   rw[List.take_add_one,qJj,hx];rfl
  show c (σ1.set i0 (some (.str ⟨#[x]⟩))) _ _;rw[hset];refine step i x _ _ _ hs hx (fun y hy H3 hs3=>⟨_,hs3 _ _ hd,?_,?_,?_,?_⟩) fun hno H3 hs3=>⟨?_,hs.trans hs3,?_⟩
  ·refine qBo (qDh _ _) ?_;rw[qFa];lia
  ·simp
  ·exact(hs.trans hs3).upd_ne' hD
  ·rw[aC,et,qBu];simp[hy]
  ·simp
  ·rw[hs3 _ _ hd,et,qBu];simp[hno]
 ·left
  obtain rfl:i=t.cps.size:=qDa hi hge;refine⟨rfl,h D _ hD hs ?_⟩;rw[hd,qDn (by rw[qCo];exact qAi _)]
end
section
open AutoSeq1 (wpAny_loadPart')
set_option maxHeartbeats 2000000 in
theorem kK(l:Addr)(items:Array qAf)(n:Nat)(dct:Option Addr)(sl:Array (Option qAf))(i:Int)(tk:Tok)(hi:Builtin.SmallTypes.fitsIndex i=true):
  Meets (Builtin.«enumerate.__new__» ⟨[.type "enumerate",.ref l],[("start",.int i tk)]⟩) (fun _ R s=>s.heap.get? l=some { cls:=.type "list",dict:=dct,data:=.seq items n,slots:=sl } /\
   R (.ok (.ret (.ref (s.heap.push { cls:=.type "list_iterator",data:=.fields #[.ref l,.int 0 0] }).objs.size)))
    { s with heap:=(s.heap.push { cls:=.type "list_iterator",data:=.fields #[.ref l,.int 0 0] }).push { cls:=.type "enumerate",data:=.fields #[.none,.bool false,.ref s.heap.objs.size,rawInt i,.none,.none] } }) :=
 .of_wp fun prog w A R s h=>by
  obtain⟨hp,g,d,tk,os⟩:=s;obtain⟨hl,h⟩:=h;have hsub:=sub_enumerate;have hL:Heap.IsList (Shared.heap ⟨hp,g,d,tk,os⟩) l items:=⟨_,hl,rfl,n,rfl⟩;wp_walk using wpAny_loadPart' hl;refine wpAny_stack_any fun st=>qAv ?_;split
  ·rename_i c _ _ _ _ _;cases (c == Value.type "enumerate")
   ·wp_walk using wpAny_loadPart' hl,qDw hL
    exact⟨_,rfl,h⟩
   ·wp_walk using wpAny_loadPart' hl,qDw hL
    exact⟨_,rfl,h⟩
  ·wp_walk using wpAny_loadPart' hl,qDw hL
   exact⟨_,rfl,h⟩
end
theorem lG(a b:qAf):checkTypeCall "enumerate" ⟨[a],[("start",b)]⟩=pure ():=by kernel_rfl
theorem mM(a b:qAf):checkBuiltinCall "enumerate.__new__" ⟨[.type "enumerate",a],[("start",b)]⟩=pure ():=by kernel_rfl
theorem nZ(obj a b:qAf):argsOk "object.__init__" ⟨[obj,a],[("start",b)]⟩:=by
 kernel_rfl
theorem sH{prog:qBc}{w:qCd}{A:qCu}{E:qAf->qAk->Prop}{s:qAk}{T newId initId:String}{Bi:Builtin}{args:List qAf}{kw:List (Str×qAf)}{Q Q₁:qAf->qAk->Prop}
  (tc:TypeCalled T newId initId) (hck:checkTypeCall T { pos:=args,kw:=kw }=pure ()) (hi:entryFor table initId=some Bi)
  (hn:qGh (qBz prog w) A.in1 (Code.call (Value.builtin newId) { pos:=Value.type T::args,kw:=kw }) (wants Q₁ E) s)
  (hin:∀obj s₁,Q₁ obj s₁->s₁.TypeIs obj T/\argsOk initId { pos:=obj::args,kw:=kw } /\
   qBs (qBz prog w) A.in1.in1 (Bi { pos:=obj::args,kw:=kw }) (fun fin s'=>fin=Fin.done (Flow.ret Value.none)/\Q obj s') E s₁) :
  qBs (qBz prog w) A (call (Value.type T) args kw) Q E s:=by
 refine qFd (codeAny_of_tree ?_);refine qAv (a:=Fin.again (Code.builtin "type.__call__" { pos:=Value.type T::args,kw:=kw })) ?_;refine⟨Code.quiet_builtin _ (by decide +kernel),qFw F.entry_type_call ?_⟩;rw[Around.under_plain (weight_type_call_type T args kw) (units_type_call_type T args kw)];refine qFt (decide_eq_false (by rw[tc.notType];decide)) ?_;refine qFt (decide_eq_false (by rw[tc.canCreate];decide)) ?_;refine qAe (qEu hck ?_);obtain⟨c,tl,hm⟩:=tc.mro;refine qAe (qEu hm ?_);refine qFt rfl ?_;refine qAe (qEu tc.made ?_);refine qAe (qAv ?_);refine qAe (qCs (qFd (qEw hn fun r s1 h=>?_)));match r,h with
 | .error e,h=>exact h
 | .ok (.ret obj),h =>
  obtain⟨ty,ao,run⟩:=hin obj s1 h;refine qAe (wpAny_isInstance ty tc.sub ?_);refine qFt rfl ?_;refine qAe (qCs ?_);refine qAe (wpAny_specialOf ty tc.init.lookup ?_);refine qCs ?_;refine qAe (qEu (tc.init.bind obj) ?_);refine qAe (qFd (qFn tc.init.plain hi ?_));refine tc.init.check _ _ _ _ _ _ _ _ ty ao ?_;refine qFc run (fun f s2 z=>?_) fun e s2 z=>z;obtain⟨rfl,q⟩:=z;refine qAv ?_;refine qFt (by decide) ?_;exact qAv q
theorem qK{prog:qBc}{w:qCd}{A:qCu}{E:qAf->qAk->Prop}{s:qAk}{T newId:String}{obj a:qAf}{kw:List (Str×qAf)}{Q:Fin->qAk->Prop}
  (hl:typeLookup (.type T) "__init__"=pure (some (.builtin "object.__init__"))) (hm:Bind.madeBy (.type T)=pure (some newId)) (hne:(some newId != some "object.__new__")=true)
  (hT:s.TypeIs obj T) (q:Q (Fin.done (Flow.ret Value.none)) s):qBs (qBz prog w) A (Builtin.«object.__init__» { pos:=[obj,a],kw:=kw }) Q E s:=by
 repeat (any_goals (first | assumption | wp_step))
theorem lI{prog:qBc}{w:qCd}{A:qCu}{E:qAf->qAk->Prop}{s:qAk}{l:Addr}{items:Array qAf}{i:Int}{tk:Tok}(hi:Builtin.SmallTypes.fitsIndex i=true){Q:qAf->qAk->Prop}(hL:s.heap.IsList l items)
  (h:∀h',IsEnum h' (s.heap.objs.size+1) s.heap.objs.size i .none->h'.IsListIter s.heap.objs.size l 0 ->
   (∀b o,s.heap.get? b=some o->h'.get? b=some o)->Q (.ref (s.heap.objs.size+1)) { s with heap:=h' }) :
  qBs (qBz prog w) A (call (.type "enumerate") [.ref l] [("start",.int i tk)]) Q E s:=by
 obtain⟨⟨c,dct,dt,sl⟩,hl,hc,n,hd⟩:=hL;replace hc:c = .type "list":=hc;replace hd:dt = .seq items n:=hd;subst hc hd;have hz:(s.heap.push { cls:=.type "list_iterator",data:=.fields #[.ref l,.int 0 0] }).objs.size=s.heap.objs.size+1:=qIx ..;have he:IsEnum ((s.heap.push { cls:=.type "list_iterator",data:=.fields #[.ref l,.int 0 0] }).push
   { cls:=.type "enumerate",data:=.fields #[.none,.bool false,.ref s.heap.objs.size,rawInt i,.none,.none] }) (s.heap.objs.size+1) s.heap.objs.size i .none:=by
  have:=qBa (s.heap.push { cls:=.type "list_iterator",data:=.fields #[.ref l,.int 0 0] })
   (o:={ cls:=.type "enumerate",data:=.fields #[.none,.bool false,.ref s.heap.objs.size,rawInt i,.none,.none] }) rfl
  rw[hz] at this;exact this
 refine sH F.called_enumerate (lG _ _) F.entry_object_init
  (qFn F.called_enumerate.plain F.entry_enumerate_new (qEu (mM _ _) (kK l items n dct sl i tk hi prog w A.in1 (wants (fun obj s₁=>s₁.TypeIs obj "enumerate"/\Q obj s₁) E) s ⟨hl,?_⟩)))
  (fun obj s₁ z=>⟨z.1,nZ _ _ _,qK F.called_enumerate.init.lookup F.called_enumerate.made (by decide) z.1 ⟨rfl,z.2⟩⟩)
 show _/\_;rw[hz];exact⟨⟨_,he,rfl⟩,h _ he ⟨_,qAh _ (qBa _ rfl),rfl,rfl⟩ fun b o x=>qAh _ (qAh _ x)⟩
theorem sI{prog:qBc}{w:qCd}{A:qCu}{it:Addr}{fp:List Addr}{n:Nat}{P:Nat->qAf->Prop}{St:Nat->Heap->Prop}(D:Draws prog w A it fp n P St):Draws prog w A it fp (n+1) (fun i x=>P (i-1) x) (fun i h=>1<=i/\St (i-1) h) where
 live:=fun _ _ st=>D.live _ _ st.2
 frame:=fun _ _ _ st hk=>⟨st.1,D.frame _ _ _ st.2 hk⟩
 item:=fun i s Q E hi st hQ=>D.item (i-1) s Q E (by have:=st.1;lia) st.2 fun x h' tk p st' sb=>hQ x h' tk p ⟨by lia,by rw[show i+1-1=i-1+1 by have:=st.1;lia];exact st'⟩ sb
 done:=fun s Q E st hE=>D.done s Q E st.2 hE
def AJ(K:qAb)(l:Addr):It :=
  ⟨fun i H=>∃xs x,aY K H l xs/\xs[i]?=some x,
   fun i H v H'=>∃t x,v = .ref t/\H t=none/\H'=upd H t (.tup [.int ((i:Int)+1),x])/\∀xs,aY K H l xs->xs[i]?=some x,
   fun i H=>∃xs,aY K H l xs/\xs.length<=i⟩
def Cw(e it l:Addr)(i:Nat)(h:Heap):Prop:=(∃old,IsEnum h e it ((i+1:Nat):Int) old)/\h.IsListIter it l i
theorem uL{P:qBc}{w:qCd}{K:qAb}{elts:List Expr}{x1}{pos:Pos}{e it l:Addr}(hne:e≠it):
  Turn P w K (.Tuple elts x1 pos) (AJ K l) [e,it] e (Cw e it l) where
 mem:=by simp
 obj:=fun i h ⟨⟨old,he⟩,⟨o,ho,_,d⟩⟩ b hb=>by
  simp only[qDb,qBq,or_false] at hb;rcases hb with rfl | rfl
  ·exact⟨_,he,fun v q=>nomatch q⟩
  ·exact⟨_,ho,fun v q=>by rw[d] at q;cases q⟩
 keep:=fun i h h' ⟨⟨old,he⟩,h1⟩ k=>⟨⟨old,k e (by simp) _ he⟩,h1.at fun o q=>k it (by simp) o q⟩
 item:=by
  intro X hP hw hK hc i pins s σ H E I hf st hg;subst hP hw hK;obtain⟨⟨old,he⟩,h1⟩:=st;obtain⟨xs,x,q1,hx⟩:=hg;obtain⟨its1,r1,p1,z1⟩:=I.list q1;obtain⟨u,hu,ru⟩:=r1.get hx;have hil:=p1.isList;have nli:l≠it:=fun z=>by
   subst z;obtain⟨o,ho,c,_⟩:=hil;obtain⟨o',ho',c',_⟩:=h1;rw[ho] at ho';cases ho';rw[c] at c';exact absurd c' (by decide)
  have nle:e≠l:=fun z=>by
   subst z;obtain⟨o,ho,c,_⟩:=hil;rw[show s.heap.get? e=_ from he] at ho;cases ho;exact absurd (show Value.type "enumerate"=Value.type "list" from c) (by decide)
  have hlt:i<its1.toArray.size:=by
   have:=List.getElem?_eq_some_iff.mp hu;obtain⟨z,_⟩:=this;simpa using z
  have D:Draws X.prog X.w X.A.in1 it [it,l] (its1.toArray.size+1) (fun i v=>its1.toArray[i-1]?=some v) (fun i h=>1<=i/\h.IsListIter it l (i-1)/\h.IsList l its1.toArray):=sI (Draws.list (A:=X.A.in1) (I.ok.hd hc) it l nli its1.toArray);refine wpAny_pyNext_enum_itemD (i:=i+1) D he ⟨qHx (qBm i),h1,hil⟩ (Nat.succ_lt_succ hlt) hne (fun z=>by rcases List.mem_cons.mp z with z | z;exact hne z;exact nle (List.mem_singleton.mp z)) fun u' h' tk pu a1 a2 a3 a4 a5=>⟨_,rfl,?_⟩
  have eu:u'=u:=by
   have z:its1.toArray[i]?=some u':=pu;rw[show its1.toArray[i]?=its1[i]? by simp,hu] at z;exact(Option.some.inj z).symm
  subst eu;refine wpAny_letOwnedTupleGo_enum a1 fun h'' b1 hs=>?_;have lt:∀c o,s.heap.get? c=some o->c≠s.heap.objs.size:=fun c o e=>qBn (qAy e);have lte:s.heap.objs.size≠e:=(lt e _ he).symm;have I1:Inv X pins σ H { s with heap:=h'',toks:=tk+1 }:=I.lO (t':=tk+1) (fun c o hb e=>(hs.2 c (fun q=>hb (by simp[q]))).trans (a5 c o (fun q=>hb (by simp[q])) (fun q=>hb (by simp[q])) e)) hf;have ht:h''.get? s.heap.objs.size=some { cls:=.type "tuple",data:=.seq #[.int ((i+1:Nat):Int) tk,u'] }:=(hs.2 _ lte).trans a3;have hn:H s.heap.objs.size=none:=I.cQ.fresh (qAi _);have I2:Inv X pins σ (upd H s.heap.objs.size (.tup [.int ((i:Int)+1),x])) { s with heap:=h'',toks:=tk+1 }:=by
   refine I1.Dv hn (qGv I.sz) (qBn I.lt).symm (fun y c q=>?_) (fun p hp=>?_) (I.Ej (qAi _)) ⟨zD,[.int ((i+1:Nat):Int) tk,u'],.cons ⟨_,rfl⟩ (.cons ru .nil),_,ht,rfl,_,rfl⟩
   ·obtain⟨_,o,ho,_⟩:=I.cell y c q;exact lt c o ho
   ·exact lt _ _ (I.pin p hp).1
  refine⟨.ref s.heap.objs.size,_,I2,rfl,⟨_,x,rfl,hn,rfl,fun xs' q=>?_⟩,⟨⟨u',?_⟩,a2.2.1.at fun o e=>(hs.2 _ hne.symm).trans e⟩,fun c hb=>?_⟩
  ·rw[I.lV q q1];exact hx
  ·rw[show((i+1+1:Nat):Int)=((i+1:Nat):Int)+1 by push_cast;rfl];exact b1
  ·obtain⟨o,ho,_⟩:∃o,s.heap.get? c=some o/\True:=by
    simp only[qDb,qBq,or_false] at hb;rcases hb with rfl | rfl
    ·exact⟨_,he,trivial⟩
    ·obtain⟨o,ho,_⟩:=h1;exact⟨o,ho,trivial⟩
   rw[aL (lt c o ho)];exact(hf c hb).1
 done:=by
  intro X hP hw hK hc i pins s σ H E I hf st hg;subst hP hw hK;obtain⟨⟨old,he⟩,h1⟩:=st;obtain⟨xs,q1,hend⟩:=hg;obtain⟨its1,r1,p1,z1⟩:=I.list q1;have e1:=r1.length;have hil:=p1.isList;have hno:its1.toArray[i]?=none:=by simp;lia
  have D:Draws X.prog X.w X.A.in1 it [it,l] 0 (fun _ _=>True) (fun _ h=>h.IsListIter it l i/\h.IsList l its1.toArray):=⟨fun _ _ st=>let ⟨o,ho,_⟩:=st.1;⟨o,ho⟩,fun _ _ _ st hk=>⟨st.1.at fun o e=>hk it (by simp) o e,st.2.at fun o e=>hk l (by simp) o e⟩,fun _ _ _ _ hi=>absurd hi (Nat.not_lt_zero _),fun s Q E st hE=>wpAny_nextOf_list_end (I.ok.hd hc) st.1 st.2 hno hE⟩;exact wpAny_pyNext_enum_endD D he ⟨h1,hil⟩ fun h' k=>⟨rfl,I.lO (t':=s.toks) (fun c o hb e=>k c o (fun q=>hb (by simp[q])) e) hf⟩
 self:=fun _ _ _ _ _ ⟨⟨_,he⟩,_⟩ h=>qGk he h
def Fd(K:qAb)(ta:TA):TI:=fun σ H R=>ta σ H fun vs H1=>∃l,vs=[.ref l]/\(∃xs,aY K H1 l xs)/\R (AJ K l) H1
theorem AK{X:Cx}{elts:List Expr}{x1}{tpos:Pos}{a e:Expr}{ta:TA}{p pos kp:Pos}(hg:Gl X "enumerate")(hm:X.mg "enumerate"=none)(ha:PA X [a] ta)(hk:PE X e (tC (.int 1)))
  (he:qBk [a] X.env=[(false,eval a X.env)]:=by rfl) (hpl:((qEj pos (qBk [a] X.env)).any (·.1)||(qFq pos (qEg [⟨some "start",e,kp⟩] X.env)).any (·.1.isNone))=false:=by rfl)
  (hall:(qFq pos (qEg [⟨some "start",e,kp⟩] X.env)).all (·.1.isSome)=true:=by rfl) (hks:(qFq pos (qEg [⟨some "start",e,kp⟩] X.env)).filterMap (·.1)=[("start":Str)]:=by rfl) :
  PI X (.Tuple elts x1 tpos) (.Call (.Name "enumerate" p) [a] [⟨some "start",e,kp⟩] pos) (Fd X.K ta):=by
 intro pins s σ H R I h;refine qEd (g9 I hg hm vP ?_ (by decide) (by decide));refine PySem.W.callWith_of (P:=fun _=>True) hpl (fun _ _=>⟨.machine,.inr (.inl rfl),PySem.W.Looks.of_pure rfl⟩) (qMj hall (bX (ha pos pins s σ H _ I h) fun us s1 ⟨vs,H1,I1,r1,q1⟩=>?_) he);obtain⟨l,e1,⟨xs,q1⟩,q⟩:=q1;subst e1;refine bX (BX hk Eu pos pins s1 σ H1 (fun zs H2=>zs=[.int 1]/\H2=H1) I1 ⟨rfl,rfl⟩) fun ws s2 ⟨zs,H2,I2,rz,ez,eh⟩=>⟨trivial,?_⟩;subst ez eh;obtain⟨u,rfl,ru⟩:=vals1 r1;cases (show u=Value.ref l from ru);obtain⟨k1,rfl,rk⟩:=vals1 rz;obtain⟨tk,rfl⟩:=(show ∃tk,k1=Value.int 1 tk from rk);rw[hks];obtain⟨its1,r1,p1,z1⟩:=I2.list q1;refine lI (by decide) p1.isList fun h' hE hI hk=>?_;refine qGk hE ?_;have I3:Inv X pins σ H2 { s2 with heap:=h' }:=I2.kept (t':=s2.toks) hk;refine⟨_,[s2.heap.objs.size+1,s2.heap.objs.size],_,_,H2,rfl,I3,uL (qLd _),⟨⟨_,hE⟩,hI⟩,fun c hc=>?_,q⟩;have hge:s2.heap.objs.size<=c:=by
  simp only[qDb,qBq,or_false] at hc;rcases hc with h | h
  all_goals first | (rw[h];exact qHy _ _) | exact qHs h.symm
 have:=I2.pT (H':=H2) hge (I2.cQ.fresh hge);exact this
theorem yB{K:qAb}{l:Addr}{xs:List V}{g:TG}{tb:TS}{D:Ends}{σ:St}{H:Hp}(Pv:Nat->St->Hp->Prop)(h0:Pv 0 σ H)(hl:∀i σ H,i<=xs.length->Pv i σ H->aY K H l xs)
  (hs:∀i x t σ H,xs[i]?=some x->H t=none->Pv i σ H->g (.ref t) σ (upd H t (.tup [.int ((i:Int)+1),x])) fun σ2 H2=>tb { D with nx:=Pv (i+1),ct:=Pv (i+1),bk:=D.nx } σ2 H2) (hd:∀σ H,Pv xs.length σ H->D.nx σ H) :
  ∃W:Nat->Nat->St->Hp->Prop,(∃m,W 0 m σ H)/\∀i m σ H,W i m σ H ->
   ((AJ K l).stop i H/\D.nx σ H)\/((AJ K l).go i H/\∃N:St->Hp->Prop,(∀σ' H',N σ' H'->∃m',m'<m/\W (i+1) m' σ' H')/\∀x H',(AJ K l).rF i H x H'->g x σ H' fun σ2 H2=>tb { D with nx:=N,ct:=N,bk:=D.nx } σ2 H2):=by
 refine⟨fun i m σ H=>Pv i σ H/\i<=xs.length/\m=xs.length-i,⟨_,h0,qBm _,rfl⟩,?_⟩;rintro i m σ H ⟨hp,hi,rfl⟩;have q1:=hl i σ H hi hp;rcases qBh i xs.length with hlt | hge
 ·right
  obtain⟨x,hx⟩:∃x,xs[i]?=some x:=⟨_,qAc hlt⟩;refine⟨⟨xs,x,q1,hx⟩,Pv (i+1),fun σ' H' h=>⟨_,Nat.sub_lt_sub_left hlt (qGi _),h,hlt,rfl⟩,?_⟩;rintro v H' ⟨t,x',rfl,hn,rfl,e1⟩;have e1':=e1 xs q1;rw[hx] at e1';cases e1';exact hs i x t σ H hx hn hp
 ·left
  obtain rfl:i=xs.length:=qDa hi hge;exact⟨⟨xs,q1,qAi _⟩,hd σ H hp⟩
open PySem.StrLaws PySem.Builtin PySem.Builtin.Str
section
theorem Jm{x y:Str}{c:Nat}{r:List Nat}(hy:y.cps.toList=c::r){k:Nat}(h:At x y x.length k):x.cps.toList[k]?=some c:=by
 have z:=h.2;rw[subAt_eq] at z;have z:=eq_of_beq z;have ly:y.length=r.length+1:=by
  have:y.length=y.cps.toList.length:=by simp[Str.length]
  rw[this,hy];rfl
 rw[hy,ly] at z;have e:=congrArg (fun l=>l[0]?) z;rw[qIy (by lia),qKp] at e;exact e
theorem uM{x y:Str}{c:Nat}{r:List Nat}(hy:y.cps.toList=c::r):∀(ps:List Str) (a f:Nat) (cuts:List Nat),ps≠[]->a<=x.length->x.cps.toList.drop a=(Str.join y ps).cps.toList->(∀p∈ps,c∉p.cps.toList) ->
  ChainG x y x.length a cuts f->(∀k,f<=k->¬At x y x.length k)->partsFrom x y.length a cuts=ps:=by
 have hn:x.cps.toList.length=x.length:=by simp[Str.length]
 have ly:y.length=r.length+1:=by
  have:y.length=y.cps.toList.length:=by simp[Str.length]
  rw[this,hy];rfl
 have mem_at:∀{a k:Nat}{L:List Nat},x.cps.toList.drop a=L->a<=k->x.cps.toList[k]?=some c->L[k-a]?=some c:=fun {a k L} e h1 h2=>by
  rw[<- e,qKp,show a+(k-a)=k by lia];exact h2
 intro ps;induction ps with
 | nil=>intro a f cuts h;exact absurd rfl h
 | cons p t ih =>
  intro a f cuts _ ha hx hp hG hN;cases t with
  | nil =>
   have hx:x.cps.toList.drop a=p.cps.toList:=hx;cases cuts with
   | cons d q =>
    have z:=mem_at hx hG.1 (Jm hy hG.2.1);exact absurd (qAu z) (hp p qCb)
   | nil =>
    show [strSub x a x.length]=[p];refine congrArg (fun z=>[z]) ?_;apply Str.ext';apply Array.toList_inj.mp;rw[strSub_toList,qDn (by rw[qDc,hn];exact qAi _),hx]
  | cons q t =>
   have hx:x.cps.toList.drop a=(p++y++Str.join y (q::t)).cps.toList:=hx;rw[Str.cps_append,Str.cps_append,qCw,qCw] at hx;have lp:p.cps.toList.length=p.length:=by simp[Str.length]
   have lyl:y.cps.toList.length=y.length:=by simp[Str.length]
   have tot:x.length-a=p.length+y.length+(Str.join y (q::t)).cps.toList.length:=by
    have z:=congrArg qKa hx;rw[qDc,qAn,qAn,hn,lp,lyl] at z;exact z
   have hat:At x y x.length (a+p.length):=by
    refine⟨by lia,?_⟩;rw[subAt_eq,<- qIv,hx,qDj,<- lp,qIu,<- lyl,qLm];exact beq_self_eq_true _
   have hd:∃rest,cuts=(a+p.length)::rest/\ChainG x y x.length (a+p.length+y.length) rest f:=by
    cases cuts with
    | nil =>
     have e:f=a:=hG;exact absurd hat (hN _ (by lia))
    | cons d rest =>
     obtain⟨h1,h2,h3,h4⟩:=hG;rcases qKx d (a+p.length) with h | h | h
     ·have z:=mem_at hx h1 (Jm hy h2);rw[qDj,qCa (by rw[lp];lia)] at z;exact absurd (qAu z) (hp p qCb)
     ·subst h;exact⟨rest,rfl,h4⟩
     ·exact absurd hat (h3 _ (by lia) h)
   obtain⟨rest,rfl,hG'⟩:=hd;show strSub x a (a+p.length)::partsFrom x y.length (a+p.length+y.length) rest=p::q::t;have e1:strSub x a (a+p.length)=p:=by
    apply Str.ext';apply Array.toList_inj.mp;rw[strSub_toList,hx,show a+p.length-a=p.cps.toList.length by rw[lp];lia,qDj,qLm]
   rw[e1,ih (a+p.length+y.length) f rest (fun z=>nomatch z) (by lia) ?_ (fun s hs=>hp s (qBf _ hs)) hG' hN];rw[Nat.add_assoc,<- qIv,hx,<- qIv,<- lp,qDj,qIu,<- lyl,qIu]
theorem Cy(x:Str):1<=Builtin.Str.strKind x:=by
 unfold Builtin.Str.strKind;split
 ·exact qAi _
 ·split <;> decide
theorem mO{y:Str}{c:Nat}{r:List Nat}(hy:y.cps.toList=c::r)(hk:Builtin.Str.strKind y=1){ps:List Str}(h0:ps≠[])(hp:∀p∈ps,c∉p.cps.toList):Txt.split (Txt.join y ps) y=ps:=by
 have ej:Txt.join y ps=Str.join y ps:=glued_eq_join y ps;rw[ej];have ly:y.length=r.length+1:=by
  have:y.length=y.cps.toList.length:=by simp[Str.length]
  rw[this,hy];rfl
 obtain⟨f,hG,hn⟩:=occ_tight (Str.join y ps) y (by lia);have key:=uM (x:=Str.join y ps) hy ps 0 f _ h0 (qBm _) rfl hp hG hn;unfold Txt.split;split
 ·rename_i hc;rw[qDq,decide_eq_true_eq,decide_eq_true_eq,hk] at hc;have:=Cy (Str.join y ps);have hlt:(Str.join y ps).length<y.length:=by lia
  generalize occurrences (Str.join y ps) y 0 (Str.join y ps).length ((Str.join y ps).length+1)=cuts at key hG;cases cuts with
  | nil =>
   have key:[strSub (Str.join y ps) 0 (Str.join y ps).length]=ps:=key;rw[sub_whole] at key;exact key
  | cons d q =>
   have:=hG.2.1.1;lia
 ·split
  ·rename_i he;have e0:=List.isEmpty_iff.mp he;rw[e0] at key;have key:[strSub (Str.join y ps) 0 (Str.join y ps).length]=ps:=key;rw[sub_whole] at key;exact key
  ·rw[partsBetween_eq];exact key
def dg(m:Nat):List Nat:=(qGr 10 m).map Char.toNat
def nW(i:Int):Str:=Str.ofString (toString i)
theorem kL(m:Nat):(nW (m:Int)).cps.toList=dg m:=PySem.W.KIN.signs_num m
theorem qL(k:Nat):(nW (qFm k)).cps.toList=45::dg (k+1):=by
 unfold nW;rw[signs_ofString];show(("-":String)++Nat.repr (k+1)).toList.map Char.toNat=_;rw[String.toList_append,qCc,Nat.toList_repr];rfl
theorem qM(m:Nat):PySem.NumText.AllDigits (dg m):=by
 intro c hc;obtain⟨ch,hch,e⟩:=List.mem_map.mp hc;have r:=digit_range (Nat.isDigit_of_mem_toDigits (by decide) (by decide) hch);rw[<- e];exact r
theorem vU(m:Nat):dg m≠[]:=by
 intro e;have h:=PySem.W.KIN.val_back m;have h0:qGr 10 m=[]:=List.map_eq_nil_iff.mp e;have:=toDigits_len_ge 10 m;rw[h0] at this;exact absurd this (by decide)
theorem Cz:∀(m:Nat),(dg m)[0]?=some 48->m=0:=by
 intro m;induction m using qLj with
 | _ m ih =>
  intro h;by_cases hm:m<10
  ·unfold dg at h;rw[Nat.toDigits_of_lt_base hm] at h;have h:(Nat.digitChar m).toNat=48:=Option.some.inj h;have z:=PySem.W.KIN.digit_back m hm;lia
  ·exfalso;have hr:m%10<10:=Nat.mod_lt m (by decide);have t:qGr 10 (m/10)++qGr 10 (m%10)=qGr 10 (10*(m/10)+m%10):=Nat.toDigits_append_toDigits (by decide) (by lia) hr;rw[Nat.div_add_mod] at t;have e:dg m=dg (m/10)++dg (m%10):=by
    unfold dg;rw[<- t,qCc]
   rw[e] at h;have ne:=vU (m/10);have pos:0<(dg (m/10)).length:=List.length_pos_iff.mpr ne;rw[qCa pos] at h;have:=ih (m/10) (by lia) h;lia
theorem uN{m k:Nat}(hk:0<k)(h:m<10^k):(dg m).length<=k:=by
 have z:=toString_length_le (v:=(m:Int)) (qDr m) hk (by exact_mod_cast h);have e:(Str.ofString (toString (m:Int))).length=(Str.ofString (toString (m:Int))).cps.toList.length:=by simp[Str.length]
 rw[e,PySem.W.KIN.signs_num] at z;exact z
theorem str_len(x:Str):x.length=x.cps.toList.length:=by simp[Str.length]
theorem Fe{i:Int}(h:i.natAbs<10^60):PySem.intText? (nW i)=some i/\(nW i).length<=640:=by
 cases i with
 | ofNat m =>
  have e:=kL m;have hl:(nW (m:Int)).length<=60:=by rw[str_len,e];exact uN (by decide) h
  refine⟨?_,qAt hl (by decide)⟩;have z:=PySem.intText_digits (x:=nW (m:Int)) (by rw[e];exact qM m) (by rw[e];exact vU m) (qAt hl (by decide));rw[e] at z;rw[show PySem.NumText.digitsVal (dg m)=m from PySem.W.KIN.val_back m] at z;exact z
 | negSucc k =>
  have e:=qL k;have hl:(nW (qFm k)).length<=61:=by rw[str_len,e];exact qHx (uN (by decide) h)
  refine⟨?_,qAt hl (by decide)⟩;have z:=PySem.intText_neg e (qM _) (vU _) (qAt hl (by decide));rw[show PySem.NumText.digitsVal (dg (k+1))=k+1 from PySem.W.KIN.val_back (k+1)] at z;exact z
theorem AM{x:Str}(h:∀c∈x.cps.toList,c<128):(x.cps.all fun x=>decide (x<128))=true:=by
 rw[<- Array.all_toList,qHv];intro c hc;exact decide_eq_true (h c hc)
theorem vV{x y:Str}(h:x.cps.toList=y.cps.toList):x=y:=Str.ext' (Array.toList_inj.mp h)
theorem mP(x:Str){k:Nat}(hk:k<=x.length):(Txt.slice x (some (k:Int)) none).cps.toList=x.cps.toList.drop k:=by
 have hn:x.cps.toList.length=x.length:=by simp[Str.length]
 have e:Txt.slice x (some (k:Int)) none=if ((strSliceIndices (some (k:Int)) none 1 x.length).length == x.length)=true then x else ⟨(qGy (fun i=>x.cps[i]?) (strSliceIndices (some (k:Int)) none 1 x.length)).toArray⟩:=rfl;rw[e,sliceIdx_none_hi];split
 ·rename_i h;rw[strSliceIndices_plain hk (qAi _),qAa,qCt] at h;have h:=eq_of_beq h;have:k=0:=by lia
  subst this;rfl
 ·show qGy _ _=_;rw[sliced_plain x hk (qAi _),qDn (by rw[qDc,hn];exact qAi _)]
theorem mQ(x:Str)(c:Nat):Txt.startswith x ⟨#[c]⟩=decide (x.cps.toList[0]?=some c):=by
 have z:=subAt_one x c 0;unfold Txt.startswith
 by_cases h:x.cps.toList[0]?=some c
 ·obtain⟨h1,h2⟩:=z.mpr h;rw[decide_eq_true h,h2,decide_eq_true h1];rfl
 ·rw[decide_eq_false h];refine Bool.eq_false_iff.mpr fun y=>h (z.mp ?_);rw[qAr,decide_eq_true_eq] at y;exact y
def gB(n:Int):Str:=nW (n.natAbs:Int)
theorem oZ(n:Int):Txt.startswith (nW n) ("-":Str)=decide (n<0):=by
 rw[show("-":Str)=⟨#[45]⟩ from rfl,mQ];cases n with
 | ofNat m =>
  rw[show nW (Int.ofNat m)=nW (m:Int) from rfl,kL,decide_eq_false (show ¬Int.ofNat m<0 from Int.not_lt.mpr (qDr m))];refine decide_eq_false fun h=>?_;have:=qM m 45 (qAu h);lia
 | negSucc k =>
  rw[qL,decide_eq_true (show qFm k<0 by lia)];rfl
theorem Ff{n:Int}(h:n<0):Txt.slice (nW n) (some 1) none=gB n:=by
 refine vV ?_;cases n with
 | ofNat m=>exact absurd h (Int.not_lt.mpr (qDr m))
 | negSucc k =>
  have hl:1<=(nW (qFm k)).length:=by rw[str_len,qL];exact qHx (qBm _)
  have z:=mP (nW (qFm k)) (k:=1) hl;rw[qL] at z;refine Eq.trans z ?_;unfold gB;rw[show((qFm k).natAbs:Int)=((k+1:Nat):Int) from rfl,kL];rfl
theorem AN{n:Int}(h:¬n<0):nW n=gB n:=by
 unfold gB;rw[show(n.natAbs:Int)=n by lia]
theorem AO{n:Int}{k:Nat}(hk:0<k)(h:n.natAbs<10^k):1<=(gB n).length/\(gB n).length<=k:=by
 unfold gB;rw[str_len,kL];exact⟨List.length_pos_iff.mpr (vU _),uN hk h⟩
theorem yC{n:Int}:Txt.startswith (gB n) ("0":Str)=true->nW n=("0":Str):=by
 rw[show("0":Str)=⟨#[48]⟩ from rfl,mQ];intro h;have h:=of_decide_eq_true h;unfold gB at h;rw[kL] at h;have z:=Cz _ h;have:n=0:=by lia
 subst this;rfl
theorem sJ{n:Int}{c:Nat}(h:c∈(gB n).cps.toList):48<=c/\c<=57:=by
 unfold gB at h;rw[kL] at h;exact qM _ c h
theorem CA{c:Nat}(h:48<=c/\c<=57):(!(Builtin.Str.occurrences ("0123456789":Str) ⟨#[c]⟩ 0 ("0123456789":Str).length 1).isEmpty)=true:=by
 rw[found_one];have e:("0123456789":Str).cps.toList=[48,49,50,51,52,53,54,55,56,57]:=by decide +kernel
 rw[e];refine decide_eq_true ?_;have:c=48\/c=49\/c=50\/c=51\/c=52\/c=53\/c=54\/c=55\/c=56\/c=57:=by lia
 rcases this with h | h | h | h | h | h | h | h | h | h <;> subst h <;> decide
theorem qN{c:Nat}(hc:c≠45/\(c<48\/57<c))(n:Int):c∉(nW n).cps.toList:=int_text_free' c hc n
theorem lQ{a:Nat}(h:a<6):nW (a:Int)=⟨#[48+a]⟩:=by
 have:∀a:_root_.Fin 6,nW ((a.1:Nat):Int)=⟨#[48+a.1]⟩:=by decide +kernel
 exact this ⟨a,h⟩
end
end L2
set_option maxHeartbeats 8000000
namespace K13
open PySem L2
seal PE PT PW PA PS oC PG ID PI gX KO eQ PO HF EA Cc Lq xM Eo Nc Lc
def top(i:Nat):Stmt:=PySem.Challenge.pw_shareparley_k13_words_read.main.body.getD i (.Pass ⟨0,0,0,0⟩)
abbrev Fg:Stmt:=top 7
abbrev AQ:Stmt:=top 8
abbrev Fh:Stmt:=top 9
abbrev LF:Stmt:=top 12
abbrev Fi:Stmt:=top 13
abbrev Fj:Stmt:=top 14
abbrev Fm:Stmt:=top 17
abbrev Fn:Stmt:=top 18
abbrev Fo:Stmt:=top 20
abbrev Fp:Stmt:=top 21
abbrev Fq:Stmt:=top 22
abbrev LG:Stmt:=top 23
abbrev Fs:Stmt:=top 24
abbrev Ft:Stmt:=top 25
abbrev Fu:Stmt:=top 26
abbrev LH:Stmt:=top 34
abbrev LI:Stmt:=top 35
abbrev Fv:Stmt:=top 37
abbrev Fw:Stmt:=top 38
abbrev Fx:Stmt:=top 39
abbrev Fy:Stmt:=top 40
abbrev Fz:Stmt:=top 41
abbrev FA:Stmt:=top 49
abbrev FC:Stmt:=top 50
abbrev FD:Stmt:=top 51
abbrev FE:Stmt:=top 52
abbrev FF:Stmt:=top 53
abbrev FG:Stmt:=top 54
abbrev FH:Stmt:=top 55
abbrev FI:Stmt:=top 57
abbrev FJ:Stmt:=top 58
abbrev LJ:Stmt:=top 59
abbrev FK:Stmt:=top 60
abbrev FL:Stmt:=top 61
abbrev FN:Stmt:=top 62
abbrev FO:Stmt:=top 63
abbrev FP:Stmt:=top 64
abbrev FQ:Stmt:=top 65
abbrev FR:Stmt:=top 66
abbrev FT:Stmt:=top 67
abbrev HJ:Stmt:=inClass (top 27) 0
abbrev HK:Stmt:=inClass (top 27) 1
abbrev yD:Stmt:=inClass (top 27) 2
abbrev HL:Stmt:=inClass (top 27) 3
abbrev HM:Stmt:=inClass (top 27) 4
abbrev HN:Stmt:=inClass (top 28) 0
abbrev HP:Stmt:=inClass (top 28) 1
abbrev yE:Stmt:=inClass (top 28) 2
abbrev HQ:Stmt:=inClass (top 31) 0
abbrev HR:Stmt:=inClass (top 31) 1
abbrev yF:Stmt:=inClass (top 31) 2
abbrev yG:Stmt:=inClass (top 29) 0
abbrev yH:Stmt:=inClass (top 29) 1
abbrev yI:Stmt:=inClass (top 29) 2
abbrev HS:Stmt:=inClass (top 30) 0
abbrev HU:Stmt:=inClass (top 30) 1
abbrev HV:Stmt:=inClass (top 30) 2
abbrev HW:Stmt:=inClass (top 36) 0
abbrev HX:Stmt:=inClass (top 36) 1
abbrev HY:Stmt:=inClass (top 36) 3
abbrev HZ:Stmt:=inClass (top 42) 0
abbrev yJ:Stmt:=inClass (top 42) 1
abbrev yK:Stmt:=inClass (top 42) 2
abbrev Ib:Stmt:=inClass (top 42) 4
abbrev Ic:Stmt:=inClass (top 45) 0
abbrev Ie:Stmt:=inClass (top 45) 1
abbrev Ig:Stmt:=inClass (top 45) 2
abbrev Ih:Stmt:=inClass (top 45) 4
theorem mR{v:V}{m:Nat}(h1:kF 0 (2^m-1) v=true):∃g:Nat,v = .int (g:Int)/\g<2^m:=by
 cases v with
 | int i =>
  have z:(decide (0<=i)&&decide (i<=2^m-1))=true:=h1;rw[qAr] at z;have z1:=of_decide_eq_true z.1;have z2:=of_decide_eq_true z.2;have e:((2^m:Nat):Int)=2^m:=by push_cast;rfl
  exact⟨i.toNat,by rw[qFl z1],by lia⟩
 | _=>exact(qAl h1).elim
theorem qO{g m:Nat}(hg:g<2^m):kF 0 (2^m-1) (.int (g:Int))=true:=by
 show(decide (0<=(g:Int))&&decide ((g:Int)<=2^m-1))=true;have e:((2^m:Nat):Int)=2^m:=by push_cast;rfl
 rw[decide_eq_true (by lia),decide_eq_true (by lia)];rfl
def iB:List Int:=[1,2,4,8,16,32]
def alone(i:Nat):Int:=iB.getD i 0
def pA(g:Nat)(i:Nat):Option V:=if qBw (g:Int) (alone i)=0 then none else some (.int (i:Int))
def hN(g:Nat):Nat->List Int
 | 0=>[]
 | i+1=>if g/2^i%2=1 then hN g i++[(i:Int)] else hN g i
def eG(g:Nat):List Int:=hN g 6
theorem uO:∀g:_root_.Fin 64,(qAq 6).filterMap (pA g.1)=(eG g.1).map V.int:=by decide +kernel
theorem uP(g:Nat):∀i,(hN g i).length<=i
 | 0=>qAi _
 | i+1=>by
  have h:=uP g i;unfold hN;split
  ·rw[qAn,qJp];lia
  ·lia
theorem uQ{g m:Nat}(hg:g<2^m):∀(i:Nat) (x:Int),x∈hN g i->0<=x/\x<m
 | 0,x,h=>by cases h
 | i+1,x,h=>by
  unfold hN at h;split at h
  ·rename_i hb;rcases List.mem_append.mp h with h | h
   ·exact uQ hg i x h
   ·have:x=(i:Int):=by simpa using h
    rcases qBh i m with z | z
    ·lia
    ·have:g/2^i=0:=qHz (qAo hg (qBr (by decide) z));lia
  ·exact uQ hg i x h
def jG(ns:List Int)(g:Nat):Nat->Int
 | 0=>0
 | i+1=>if g/2^i%2=1 then jG ns g i+ns.getD i 0 else jG ns g i
def lJ(ns:List Int)(g:Nat):Int:=jG ns g ns.length
theorem pB{ns:List Int}{g m:Nat}(hg:g<2^m):∀k,jG ns g (m+k)=jG ns g m
 | 0=>rfl
 | k+1=>by
  have:g/2^(m+k)=0:=qHz (qAo hg (qBr (by decide) (by lia)));show(if g/2^(m+k)%2=1 then _ else jG ns g (m+k))=_;rw[if_neg (by lia)];exact pB hg k
theorem qP(ns:List Int)(g:Nat):∀i,((hN g i).map fun h=>ns.getD h.toNat 0).sum=jG ns g i
 | 0=>rfl
 | i+1=>by
  unfold hN jG;split
  ·rw[qCc,qLg,qP ns g i];simp
  ·exact qP ns g i
theorem uR{ns:List Int}{g:Nat}(hl:ns.length<=6)(hg:g<2^ns.length):((eG g).map fun h=>ns.getD h.toNat 0).sum=lJ ns g:=by
 unfold eG;rw[qP];obtain⟨k,hk⟩:∃k,6=ns.length+k:=⟨6-ns.length,by lia⟩;rw[hk];exact pB hg k
theorem iD(xs:List V)(n:Nat):fT xs (some (n:Int)) none=xs.drop n:=by
 unfold fT;rw[HT.vH,HT.r9];rcases qMo n xs.length with h | h
 ·rw[qLk h];exact qDn (by rw[qDc];lia)
 ·rw[qLe h,List.drop_length,qJg h];simp
theorem uS(xs:List V)(n:Nat):fT xs none (some (n:Int))=xs.take n:=by
 unfold fT;rw[HT.vH,HT.r9,qLn,qMm];rcases qMo n xs.length with h | h
 ·rw[qLk h]
 ·rw[qLe h,qHt,qDn h]
theorem FU{m:Nat}(h:m<=6):2^m<=64:=qBr (n:=2) (by decide) h
theorem lR{K:qAb}{H:Hp}{ns:List Int}:∀u∈ns.map V.int,Pl K H u:=fun u hu=>by
 obtain⟨x,_,rfl⟩:=List.mem_map.mp hu;exact .int x
theorem all_ints(ns:List Int):(ns.map V.int).all hX=true:=by
 induction ns with
 | nil=>rfl
 | cons n r ih=>exact ih
theorem dD{α β:Type}{f g:α->Option β}:∀{l:List α},(∀x∈l,f x=g x)->l.filterMap f=l.filterMap g
 | [],_=>rfl
 | x::r,h=>by
  rw[qCj,qCj,h x (by simp),dD fun y hy=>h y (by simp[hy])]
def jV:List Int:=[1,2,4,8,16,32,64]
structure RC (K:qAb) (fE fH RU C g:Addr):Prop where
 oc:Ai K C
 nm:cS K C "many"
 me:Meth K C "earn" fE
 mh:Meth K C "hands" fH
 mr:Meth K C "reckon" g
 Od:qCq K (.ref C) (.ref RU)=some true
def FV(fs:List (Str×V)):Prop:=fs.lookup ("earn":Str)=none/\fs.lookup ("hands":Str)=none/\fs.lookup ("reckon":Str)=none
def kM(P:qBc)(w:qCd)(K:qAb)(mg:Str->Option qAf)(base:Heap)(fE fH RU:Addr)(H:Hp)(a:Addr)(m:Nat)(e:Nat->Int):Prop :=
 ∃(C dx g:Addr) (fs:List (Str×V)),H a=some (.ins C dx fs)/\RC K fE fH RU C g/\fs.lookup ("many":Str)=some (.int (m:Int))/\1<=m/\m<=6/\FV fs /\
  ∃ps,Md P w K mg base 6 ps (fun vs H2 Q _=>∃gr:Nat,vs=[.ref a,.int (gr:Int)]/\gr<2^m/\aI H H2/\∀H3,aI H2 H3->Q (.int (e gr)) H3) g
theorem kM.same{P:qBc}{w:qCd}{K:qAb}{mg:Str->Option qAf}{base:Heap}{fE fH RU:Addr}{H H':Hp}{a:Addr}{m:Nat}{e:Nat->Int}(r:kM P w K mg base fE fH RU H a m e)(s:aI H H'):kM P w K mg base fE fH RU H' a m e:=by
 obtain⟨C,dx,g,fs,h1,h2,h3,h4,h5,h6,ps,h7⟩:=r;exact⟨C,dx,g,fs,s _ _ h1,h2,h3,h4,h5,h6,ps,h7.imp fun vs H2 Q _ ⟨gr,a,b,c,d⟩=>⟨gr,a,b,s.trans c,d⟩⟩
def okN(xs:List V):Bool:=decide (1<=xs.length)&&decide (xs.length<=6)&&xs.all hX
theorem gC(n:Nat):kF 1 6 (.int (n:Int))=(decide (1<=n)&&decide (n<=6)):=by
 show(decide (1<=(n:Int))&&decide ((n:Int)<=6))=_;rw[qEt,qAr,qAr,decide_eq_true_iff,decide_eq_true_iff,decide_eq_true_iff,decide_eq_true_iff];lia
structure CC (K:qAb) (C fe fh fw:Addr):Prop where
 oc:Ai K C
 nm:cS K C "many"
 nr:cS K C "rules"
 me:Meth K C "earn" fe
 mh:Meth K C "hands" fh
 mw:Meth K C "words" fw
 Nn:qCq K (.ref C) (.ref C)=some true
structure T (K:qAb) (mg:Str->Option qAf) (AL LN RU OW PL PA VO MA NE fE fH rR rO rP rA rV rM rN iR iO iP iA iV iM iN fL wR wO wP wA wV wM wN CO iC cH cE cW SE NG NL NT:Addr):Prop where
 gT:mg "isinstance"=none
 jC:mg "int"=none
 kN:mg "bool"=none
 eM:mg "range"=none
 cN:mg "len"=none
 fF:mg "list"=none
 gG:mg "sum"=none
 mS:mg "all"=none
 pC:mg "any"=none
 iE:mg "sorted"=none
 jW:mg "tuple"=none
 pD:mg "min"=none
 mT:mg "abs"=none
 iF:mg "enumerate"=none
 kY:mg "str"=none
 sL:mg "max"=none
 tP:mg "ALONE"=some (.ref AL)
 al:∀H:Hp,dG K H AL (iB.map V.int)
 DD:mg "LENGTHS"=some (.ref LN)
 ln:∀H:Hp,dG K H LN (jV.map V.int)
 Np:∃o,K.lookup LN=some o/\o.cls = .type "tuple"/\o.dict=none
 we:∃tk,mg "WELL"=some (.int 64 tk)
 mr:∃tk,mg "MOST_RULES"=some (.int 12 tk)
 mf:∃tk,mg "MOST_FIGURES"=some (.int 30 tk)
 fg:∃tk,mg "FIGURES"=some (.str ("0123456789":Str) tk)
 zE:mg "Rule"=some (.ref RU)
 Ii:RC K fE fH RU RU rR
 MN:Mk K RU iR
 Ij:mg "Own"=some (.ref OW)
 FW:RC K fE fH RU OW rO
 MP:Mk K OW iO
 LK:cS K OW "numbers"
 Ik:mg "Plain"=some (.ref PL)
 FX:RC K fE fH RU PL rP
 MQ:Mk K PL iP
 LL:cS K PL "earnings"
 Il:mg "Pairs"=some (.ref PA)
 FY:RC K fE fH RU PA rA
 MS:Mk K PA iA
 LM:cS K PA "pairs"
 Im:mg "Votes"=some (.ref VO)
 yL:RC K fE fH RU VO rV
 MT:Mk K VO iV
 LO:cS K VO "quota"
 FZ:cS K VO "prize"
 Ga:cS K VO "weights"
 Io:mg "Match"=some (.ref MA)
 CB:RC K fE fH RU MA rM
 MU:Mk K MA iM
 LP:cS K MA "pairs"
 Jn:cS K MA "best"
 Ip:mg "Net"=some (.ref NE)
 vW:RC K fE fH RU NE rN
 MV:Mk K NE iN
 LQ:cS K NE "costs"
 CD:cS K NE "ropes"
 Nq:Meth K NE "least" fL
 Nr:Meth K RU "words" wR
 Nt:Meth K OW "words" wO
 Nu:Meth K PL "words" wP
 Nv:Meth K PA "words" wA
 Nw:Meth K VO "words" wV
 Nx:Meth K MA "words" wM
 Ny:Meth K NE "words" wN
 Gb:mg "Company"=some (.ref CO)
 kZ:CC K CO cE cH cW
 MX:Mk K CO iC
 Nz:∃fd,Mx K "__init__" "Rule.__init__" HJ ["self","many"] iR fd
 xH:∃fd,Mx K "hands" "Rule.hands" HK ["self"] fH fd
 xE:∃fd,Mx K "earn" "Rule.earn" yD ["self","group"] fE fd
 NA:∃fd,Mx K "reckon" "Rule.reckon" HL ["self","group"] rR fd
 NC:∃fd,Mx K "words" "Rule.words" HM ["self"] wR fd
 ND:∃fd,Mx K "__init__" "Own.__init__" HN ["self","numbers"] iO fd
 NF:∃fd,Mx K "reckon" "Own.reckon" HP ["self","group"] rO fd
 LR:∃fd,Mx K "words" "Own.words" yE ["self"] wO fd
 NH:∃fd,Mx K "__init__" "Plain.__init__" HQ ["self","table"] iP fd
 NJ:∃fd,Mx K "reckon" "Plain.reckon" HR ["self","group"] rP fd
 LS:∃fd,Mx K "words" "Plain.words" yF ["self"] wP fd
 LU:∃fd,Mx K "__init__" "Pairs.__init__" yG ["self","many","pairs"] iA fd
 LV:∃fd,Mx K "reckon" "Pairs.reckon" yH ["self","group"] rA fd
 LW:∃fd,Mx K "words" "Pairs.words" yI ["self"] wA fd
 NM:∃fd,Mx K "__init__" "Votes.__init__" HS ["self","quota","prize","weights"] iV fd
 NN:∃fd,Mx K "reckon" "Votes.reckon" HU ["self","group"] rV fd
 NO:∃fd,Mx K "words" "Votes.words" HV ["self"] wV fd
 NP:∃fd,Mx K "__init__" "Match.__init__" HW ["self","many","pairs"] iM fd
 NQ:∃fd,Mx K "reckon" "Match.reckon" HX ["self","group"] rM fd
 NR:∃fd,Mx K "words" "Match.words" HY ["self"] wM fd
 NS:∃fd,Mx K "__init__" "Net.__init__" HZ ["self","costs","ropes"] iN fd
 LX:∃fd,Mx K "least" "Net.least" yJ ["self","group"] fL fd
 LY:∃fd,Mx K "reckon" "Net.reckon" yK ["self","group"] rN fd
 NU:∃fd,Mx K "words" "Net.words" Ib ["self"] wN fd
 NV:∃fd,Mx K "__init__" "Company.__init__" Ic ["self","many","rules"] iC fd
 LZ:∃fd,Mx K "hands" "Company.hands" Ie ["self"] cH fd
 Ma:∃fd,Mx K "earn" "Company.earn" Ig ["self","group"] cE fd
 Mb:∃fd,Mx K "words" "Company.words" Ih ["self"] cW fd
 Iq:Dy K RU "__init__" iR
 KQ:mg "ShareError"=some (.ref SE)
 Jo:mg "NoGroup"=some (.ref NG)
 yM:mg "NoRule"=some (.ref NL)
 Jp:mg "NoTable"=some (.ref NT)
 Oe:mE K SE
 yN:qEe K NL EI "ValueError.__new__"=true
 Jq:qEe K NT EI "ValueError.__new__"=true
 Jr:qEe K NG EI "ValueError.__new__"=true
section
variable {P:qBc}{w:qCd}{K:qAb}{mg:Str->Option qAf}{base:Heap}{AL LN RU OW PL PA VO MA NE fE fH rR rO rP rA rV rM rN iR iO iP iA iV iM iN fL wR wO wP wA wV wM wN CO iC cH cE cW SE NG NL NT:Addr}{f:Addr}{fd:qBd}
def pE(K:qAb):Sp:=fun vs H Q _=>∃v,vs=[v]/\Pl K H v/\Q (.bl (hX v)) H
theorem Js:aK ["thing"] ["thing"] (aE Fg):=by constructor<;>first|rfl|decide +kernel
theorem Gd(t:Tx K mg "is_number" Fg ["thing"] f fd)(T:T K mg AL LN RU OW PL PA VO MA NE fE fH rR rO rP rA rV rM rN iR iO iP iA iV iM iN fL wR wO wP wA wV wM wN CO iC cH cE cW SE NG NL NT):Df P w K mg base cM 1 "is_number" ["thing"] (pE K) f fd:=by
 refine t.jA Js (fun vs H Q E h=>?_) (fun cdv A outer s H vs Q E hr h=>?_)
 ·obtain⟨v,rfl,_⟩:=h;rfl
 ·obtain⟨v,rfl,pl,k⟩:=h;obtain⟨Ty,ty,kd⟩:=pl.ex;refine⟨_,aH (aN (jF (aO fA (by rfl) T.gT hW (aA (pv 0) (aA (gH (v:=.ty "int") (by rfl) T.jC kE rfl) aB)))
   (j9 (zI (aO fA (by rfl) T.gT hW (aA (pv 0) (aA (gH (v:=.ty "bool") (by rfl) T.kN vN rfl) aB))))))),?_⟩
  refine⟨_,rfl,v,.ty "int",_,_,_,rfl,rfl,.of ty,kd.Jd K,_,rfl,?_⟩;refine dE (fun h1=>?_) (fun h1=>?_)
  ·refine⟨_,rfl,v,.ty "bool",_,_,_,rfl,rfl,.of ty,kd.Dx K,_,rfl,?_⟩;have e:(!(Ty == "bool"))=hX v:=by
    rw[Pl.hX ty];cases kd <;> first | rfl | (exact absurd h1 (by decide))
   rw[e];exact k
  ·have e:false=hX v:=by
    rw[Pl.hX ty];cases kd <;> first | rfl | (exact absurd rfl h1)
   rw[e];exact k
def uT(K:qAb):Sp:=fun vs H Q _=>∃(v:V) (lo hi:Int),vs=[v,.int lo,.int hi]/\Pl K H v/\Q (.bl (kF lo hi v)) H
theorem Ge:aK ["thing","least","most"] ["thing","least","most"] (aE AQ):=by constructor<;>first|rfl|decide +kernel
theorem CF{f1:Addr}{fd1:qBd}(t:Tx K mg "is_number_within" AQ ["thing","least","most"] f fd)(D:Df P w K mg base cM 1 "is_number" ["thing"] (pE K) f1 fd1):
  Df P w K mg base cM 2 "is_number_within" ["thing","least","most"] (uT K) f fd:=by
 refine t.jA Ge (fun vs H Q E h=>?_) (fun cdv A outer s H vs Q E hr h=>?_)
 ·obtain⟨v,lo,hi,rfl,_⟩:=h;rfl
 ·obtain⟨v,lo,hi,rfl,pl,k⟩:=h;refine⟨_,aH (aN (jF (bD D hr (qAi _) (by rfl) (aA (pv 0) aB)) (j9 (zO rZ rZ (pv 1) (pv 0) (pv 2))))),?_⟩;refine⟨_,rfl,v,rfl,pl,_,rfl,?_⟩;cases v with
  | int i =>
   refine cT ⟨_,rfl,_,rfl,lo,i,rfl,rfl,_,rfl,?_⟩;refine dE (fun h1=>⟨_,rfl,i,hi,rfl,rfl,?_⟩) (fun h1=>?_)
   ·have e:decide (i<=hi)=kF lo hi (.int i):=by
     show _=(decide (lo<=i)&&decide (i<=hi));rw[h1,Bool.true_and]
    show Q (.bl (decide (i<=hi))) H;rw[e];exact k
   ·have e:false=kF lo hi (.int i):=by
     show _=(decide (lo<=i)&&decide (i<=hi));rw[Bool.eq_false_iff.mpr h1,qEx]
    rw[e];exact k
  | _=>exact bG k
theorem Jt:aK ["_law_found"] ["_law_found"] (aE FI):=by constructor<;>first|rfl|decide +kernel
theorem Gf(t:Tx K mg "_law_whole" FI ["_law_found"] f fd)(T:T K mg AL LN RU OW PL PA VO MA NE fE fH rR rO rP rA rV rM rN iR iO iP iA iV iM iN fL wR wO wP wA wV wM wN CO iC cH cE cW SE NG NL NT):Df P w K mg base cM 1 "_law_whole" ["_law_found"] (pE K) f fd:=by
 refine t.jA Jt (fun vs H Q E h=>?_) (fun cdv A outer s H vs Q E hr h=>?_)
 ·obtain⟨v,rfl,_⟩:=h;rfl
 ·obtain⟨v,rfl,pl,k⟩:=h;obtain⟨Ty,ty,kd⟩:=pl.ex;refine⟨_,aH (aN (jF (aO fA (by rfl) T.gT hW (aA (pv 0) (aA (gH (v:=.ty "int") (by rfl) T.jC kE rfl) aB)))
   (j9 (zI (aO fA (by rfl) T.gT hW (aA (pv 0) (aA (gH (v:=.ty "bool") (by rfl) T.kN vN rfl) aB))))))),?_⟩
  refine⟨_,rfl,v,.ty "int",_,_,_,rfl,rfl,.of ty,kd.Jd K,_,rfl,?_⟩;refine dE (fun h1=>?_) (fun h1=>?_)
  ·refine⟨_,rfl,v,.ty "bool",_,_,_,rfl,rfl,.of ty,kd.Dx K,_,rfl,?_⟩;have e:(!(Ty == "bool"))=hX v:=by
    rw[Pl.hX ty];cases kd <;> first | rfl | (exact absurd h1 (by decide))
   rw[e];exact k
  ·have e:false=hX v:=by
    rw[Pl.hX ty];cases kd <;> first | rfl | (exact absurd rfl h1)
   rw[e];exact k
def AR(K:qAb)(NL:Addr):Sp:=fun vs H Q E=>∃v,vs=[v]/\Pl K H v/\if kF 1 6 v=true then Q .non H else E (.ref NL) none H
theorem Ju:aK ["many"] ["many"] (aE Fh):=by constructor<;>first|rfl|decide +kernel
theorem Gg{f1:Addr}{fd1:qBd}(t:Tx K mg "check_many" Fh ["many"] f fd)(T:T K mg AL LN RU OW PL PA VO MA NE fE fH rR rO rP rA rV rM rN iR iO iP iA iV iM iN fL wR wO wP wA wV wM wN CO iC cH cE cW SE NG NL NT)(D_is_number_within:Df P w K mg base cM 2 "is_number_within" ["thing","least","most"] (uT K) f1 fd1):
  Df P w K mg base (gZ P w) 3 "check_many" ["many"] (AR K NL) f fd:=by
 refine t.Dw Ju (fun vs H Q E h=>?_) (fun cdv A outer s H vs Q E hr h=>?_)
 ·obtain⟨v,rfl,_⟩:=h;rfl
 ·obtain⟨v,rfl,pl,k⟩:=h;refine⟨_,(aH (bK (dR (cY (bD D_is_number_within hr (by decide) (by rfl) (aA (pv 0) (aA aG (aA aG aB)))))) (aH (dH bA rfl (by rfl) T.yM T.yN (aA aU aB))) aX)),?_⟩;refine⟨_,rfl,v,1,6,rfl,pl,_,rfl,?_⟩;cases e:kF 1 6 v with
  | true =>
   rw[e,if_pos rfl] at k;exact bG k
  | false =>
   rw[e,if_neg qAl] at k;exact cT ⟨nK,k⟩
def Gh:Sp:=fun vs H Q _=>∃m:Nat,vs=[.int (m:Int)]/\m<=6/\∀H',aI H H'->Q (.int (2^m-1)) H'
theorem yO:∀m:_root_.Fin 7,(iB.take m.1).sum=2^m.1-1:=by decide
theorem Mc:aK ["many"] ["many"] (aE LF):=by constructor<;>first|rfl|decide +kernel
theorem Jv(t:Tx K mg "whole_company" LF ["many"] f fd)(T:T K mg AL LN RU OW PL PA VO MA NE fE fH rR rO rP rA rV rM rN iR iO iP iA iV iM iN fL wR wO wP wA wV wM wN CO iC cH cE cW SE NG NL NT):Df P w K mg base cM 1 "whole_company" ["many"] Gh f fd:=by
 refine t.jA Mc (fun vs H Q E h=>?_) (fun cdv A outer s H vs Q E hr h=>?_)
 ·obtain⟨m,rfl,_⟩:=h;rfl
 ·obtain⟨m,rfl,hm,k⟩:=h;refine⟨_,(aH (aN (aO (eL rfl) (by rfl) T.gG gP (aA (cX vO (bP (v:=.ref AL) (by rfl) T.tP rfl) c8 (dA (pv 0))) aB)))),?_⟩;refine⟨_,rfl,_,rfl,AL,_,rfl,T.al _,fun p H' s hq=>⟨p,iB.take m,rfl,.inr ?_,?_⟩⟩
  ·rw[uS,<- qIz] at hq;exact hq
  ·rw[yO ⟨m,by lia⟩];exact k H' s
def vX(K:qAb)(NG:Addr):Sp:=fun vs H Q E=>∃(v:V) (m:Nat),vs=[v,.int (m:Int)]/\m<=6/\Pl K H v/\(kF 0 (2^m-1) v=false->∀H',aI H H'->E (.ref NG) none H')/\(kF 0 (2^m-1) v=true->∀H',aI H H'->Q .non H')
theorem Jw:aK ["group","many"] ["group","many"] (aE Fi):=by constructor<;>first|rfl|decide +kernel
theorem Gi{f1 f2:Addr}{fd1 fd2:qBd}(t:Tx K mg "check_group" Fi ["group","many"] f fd)(T:T K mg AL LN RU OW PL PA VO MA NE fE fH rR rO rP rA rV rM rN iR iO iP iA iV iM iN fL wR wO wP wA wV wM wN CO iC cH cE cW SE NG NL NT)(D_is_number_within:Df P w K mg base cM 2 "is_number_within" ["thing","least","most"] (uT K) f1 fd1)
  (D_whole_company:Df P w K mg base cM 1 "whole_company" ["many"] Gh f2 fd2):Df P w K mg base (gZ P w) 3 "check_group" ["group","many"] (vX K NG) f fd:=by
 refine t.Dw Jw (fun vs H Q E h=>?_) (fun cdv A outer s H vs Q E hr h=>?_)
 ·obtain⟨v,m,rfl,_⟩:=h;rfl
 ·obtain⟨v,m,rfl,hm,pl,k0,k⟩:=h;refine⟨_,(aH (bK (dR (cY (bD D_is_number_within hr (by decide) (by rfl) (aA (pv 0) (aA aG (aA (bD D_whole_company hr (by decide) (by rfl) (aA (pv 1) aB)) aB)))))) (aH (dH bA rfl (by rfl) T.Jo T.Jr (aA aU aB))) aX)),?_⟩;refine⟨_,rfl,_,rfl,m,rfl,hm,fun H' s=>⟨v,0,_,rfl,pl.same s,_,rfl,?_⟩⟩;cases e:kF 0 (2^m-1) v with
  | true=>exact bG (k e H' s)
  | false=>exact cT ⟨nK,k0 e H' s⟩
theorem jX{i:Int}(h0:0<=i)(h5:i<=5):fK (iB.map V.int) i=some (.int (alone i.toNat)):=by
 have h:i.toNat<6:=by lia
 have all:∀j:_root_.Fin 6,(iB.map V.int)[j.1]?=some (.int (alone j.1)):=by decide
 have z:=bO (all ⟨i.toNat,h⟩);rw[show(((⟨i.toNat,h⟩:_root_.Fin 6).1:Nat):Int)=i from qFl h0] at z;exact z
def AS(K:qAb)(NG:Addr):Sp:=fun vs H Q E=>∃v,vs=[v]/\Pl K H v/\(kF 0 (2^6-1) v=false->∀H',aI H H'->E (.ref NG) none H') /\
 ∀(g:Nat) (l:Addr) (H':Hp),v = .int (g:Int)->g<64->H l=none->aI H H'->H' l=some (.lst ((eG g).map V.int))->Q (.ref l) H'
theorem Jx:aK ["group"] ["group"] (aE Fj):=by constructor<;>first|rfl|decide +kernel
theorem Gj{f1:Addr}{fd1:qBd}(t:Tx K mg "hands_of" Fj ["group"] f fd)(T:T K mg AL LN RU OW PL PA VO MA NE fE fH rR rO rP rA rV rM rN iR iO iP iA iV iM iN fL wR wO wP wA wV wM wN CO iC cH cE cW SE NG NL NT)(D_check_group:Df P w K mg base (gZ P w) 3 "check_group" ["group","many"] (vX K NG) f1 fd1):
  Df P w K mg base (gZ P w) 4 "hands_of" ["group"] (AS K NG) f fd:=by
 refine t.Dw Jx (fun vs H Q E h=>?_) (fun cdv A outer s H vs Q E hr h=>?_)
 ·obtain⟨v,rfl,_⟩:=h;rfl
 ·obtain⟨v,rfl,pl,k0,k⟩:=h;refine⟨_,(aD (bN (eK bA.toPass D_check_group hr (by decide) (by rfl) (aA (pv 0) (aA (aO aZ (by rfl) T.cN cC (aA (bP (v:=.ref AL) (by rfl) T.tP rfl) aB)) aB))))
   (aH (aN (bM (NB:=["hand","group"]) (pick:=[none,some 0]) (bR (by with_unfolding_all rfl) (by exact(And.intro rfl trivial)) rfl (by decide +kernel) (by decide +kernel) (by rfl) (by rfl)) rfl
     (iL (by rfl) T.eM (aA (aO aZ (by rfl) T.cN cC (aA (bP (v:=.ref AL) (by rfl) T.tP rfl) aB)) aB)) (fun _ _ _=>aP (i:=0) (show(["hand","group"]:List Str).Nodup from by decide +kernel) rfl cK)
     (fun _ _ _=>gN (aS gR (aM gA (pv 1) (a9 (e7 K) (bP (v:=.ref AL) (by rfl) T.tP rfl) (pv 0) (fun _ _=>rfl))) aG (aV _))) (fun _ _ _=>(pv 0)))))),?_⟩
  refine⟨_,rfl,AL,_,rfl,.inr (T.al _),v,6,rfl,by decide,pl,k0,fun h1 H' s1=>?_⟩;obtain⟨g,rfl,hg⟩:=mR h1;have hg:g<64:=hg;refine⟨AL,_,rfl,.inr (T.al _),_,rfl,by decide,by decide,?_⟩;refine Ad (pA g) (by decide) (fun i H2 kk kk0 hi h1 h2=>?_) fun D hD=>?_
  ·obtain⟨j,rfl⟩:∃j:Nat,j=i:=⟨i,rfl⟩;have e0:(0:Int)+(j:Int)=(j:Int):=qHw _;have hat:fK (iB.map V.int) ((0:Int)+(j:Int))=some (.int (alone j)):=by
    rw[e0];have z:=jX (i:=(j:Int)) (by lia) (by have:j<6:=hi;lia);simpa using z
   refine⟨_,rfl,_,rfl,AL,_,_,_,rfl,rfl,T.al _,hat,_,_,rfl,rfl,rfl,_,rfl,?_⟩;refine dE (fun h3=>⟨_,rfl,h1 _ ?_⟩) (fun h3=>h2 ?_)
   ·have z:¬V.int (qBw (g:Int) (alone j))=V.int 0:=of_decide_eq_false (by
     have z:(!decide (V.int (qBw (g:Int) (alone j))=V.int 0))=true:=h3;simpa using z)
    rw[e0];unfold pA;rw[if_neg fun q=>z (congrArg V.int q)]
   ·unfold pA;refine if_pos (qCp fun q=>h3 ?_);show(!decide (V.int (qBw (g:Int) (alone j))=V.int 0))=true;rw[decide_eq_false fun z=>q (V.int.inj z)];rfl
  ·have e':(qAq 6).filterMap (pA g)=(eG g).map V.int:=uO ⟨g,hg⟩;show Q _ (upd H' D (.lst ((qAq 6).filterMap (pA g))));rw[e'];exact k g D _ rfl hg (s1.free hD) (s1.trans (.aJ hD)) aC
def iY(xs:List V):Bool:=[2,4,8,16,32,64].contains xs.length&&xs.all hX&&decide (xs[0]?=some (.int 0))
def DE(K:qAb):Sp:=fun vs H Q _=>∃(p:Addr) (xs:List V),vs=[.ref p]/\H p=some (.lst xs)/\(∀v∈xs,Pl K H v)/\xs.length<=1000/\∀H',aI H H'->Q (.bl (iY xs)) H'
theorem Jy:aK ["thing"] ["thing"] (aE Fm):=by constructor<;>first|rfl|decide +kernel
theorem CG(n:Nat):(!IV (.int (n:Int)) (fT (jV.map V.int) (some 1) none)) = !([2,4,8,16,32,64].contains n):=by
 have e:fT (jV.map V.int) (some 1) none=[V.int 2,.int 4,.int 8,.int 16,.int 32,.int 64]:=by decide
 rw[e];have q:∀k:Nat,Cd (.int (k:Int)) (.int (n:Int))=(n == k):=fun k=>by
  show((k:Int) == (n:Int))=(n == k);rw[qEt,beq_iff_eq,beq_iff_eq];lia
 have:=q 2;have:=q 4;have:=q 8;have:=q 16;have:=q 32;have:=q 64;simp_all [IV];rfl
theorem Gk{f1:Addr}{fd1:qBd}(t:Tx K mg "is_table" Fm ["thing"] f fd)(T:T K mg AL LN RU OW PL PA VO MA NE fE fH rR rO rP rA rV rM rN iR iO iP iA iV iM iN fL wR wO wP wA wV wM wN CO iC cH cE cW SE NG NL NT)(D_is_number:Df P w K mg base cM 1 "is_number" ["thing"] (pE K) f1 fd1):
  Df P w K mg base cM 2 "is_table" ["thing"] (DE K) f fd:=by
 refine t.jA Jy (fun vs H Q E h=>?_) (fun cdv A outer s H vs Q E hr h=>?_)
 ·obtain⟨p,xs,rfl,_⟩:=h;rfl
 ·obtain⟨p,xs,rfl,hp,pl,hlen,k⟩:=h;refine⟨_,(aD (bK (PW.pt (pw_or (dR (cY (aO fA (by rfl) T.gT hW (aA (pv 0) (aA (gH (v:=.ty "list") (by rfl) T.fF fZ rfl) aB))))) (pw_or1 (aS p0 (aO aZ (by rfl) T.cN cC (aA (pv 0) aB)) (cX vO (bP (v:=.ref LN) (by rfl) T.DD rfl) (dA aG) c8) (by rfl))))) (aH (aN iZ)) aX)
   (aH (aN (jF (aO (mF rfl) (by rfl) T.mS uE (aA (bM (NB:=["number"]) (pick:=[none]) (bR (by with_unfolding_all rfl) (by exact trivial) rfl (by decide +kernel) (by decide +kernel) (by rfl) (by rfl)) rfl
     (bL (pv 0)) (fun _ _ _=>aP (i:=0) (show(["number"]:List Str).Nodup from by decide +kernel) rfl cK)
     (fun _ _ _=>bS) (fun _ _ _=>(bD D_is_number hr (by decide) (by rfl) (aA (pv 0) aB)))) aB)) (j9 (eJ bU (a9 bJ (pv 0) aG (fun _ _=>rfl)) aG (aV _))))))),?_⟩
  refine⟨_,rfl,.ref p,.ty "list",_,_,_,rfl,rfl,.of (.lst hp),Kd.lst.Je K,_,rfl,bG ?_⟩;refine⟨_,rfl,p,_,rfl,.inl (aY.of hp),_,rfl,LN,_,rfl,T.ln _,fun q H1 s1 hq=>⟨q,_,rfl,.inr hq,rfl,by decide,_,rfl,?_⟩⟩;show if (!IV (.int (xs.length:Int)) (fT (jV.map V.int) (some 1) none))=true then _ else _;rw[CG];cases ec:[2,4,8,16,32,64].contains xs.length with
  | false =>
   have e:false=iY xs:=by unfold iY;rw[ec];rfl
   refine cT ?_;have z:=k H1 s1;rw[<- e] at z;exact z
  | true =>
   refine bG ⟨_,rfl,p,rfl,⟨xs,aY.of (s1 _ _ hp)⟩,?_⟩;refine cF (xs:=xs) (fun _ x=>some (.bl (hX x))) (aY.of (s1 _ _ hp)) (qBb (aQ hlen)) (fun i x H2 kk kk0 s2 hx h1 h2=>?_) fun D H2 hD s2 hd=>?_
   ·exact⟨_,rfl,x,rfl,(pl x (qAu hx)).same (s1.trans s2),h1 _ rfl _ (.refl _)⟩
   ·have ed:((qAq xs.length).filterMap fun i=>(xs[i]?).bind fun x=>some (V.bl (hX x)))=(xs.map hX).map V.bl:=by
     rw[qBt,<- qE];rfl
    rw[ed] at hd;refine⟨D,_,rfl,aY.of hd,_,rfl,?_⟩;have ea:(xs.map hX).all id=xs.all hX:=by rw[qJq];rfl
    rw[ea];cases eb:xs.all hX with
    | false =>
     have e:false=iY xs:=by unfold iY;rw[ec,eb];rfl
     refine bG ?_;have z:=k H2 (s1.trans s2);rw[<- e] at z;exact z
    | true =>
     have hpos:0<xs.length:=by
      cases xs with
      | nil=>exact absurd ec (by decide)
      | cons _ _=>exact qMl _
     obtain⟨i,hi⟩:∃i,xs[0]?=some (.int i):=by
      have hm:=List.all_eq_true.mp eb xs[0] (qCh hpos);cases e0:xs[0] with
      | int i=>exact⟨i,by rw[qAc hpos,e0]⟩
      | _=>rw[e0] at hm;exact(qAl hm).elim
     refine cT ⟨_,rfl,p,_,_,_,rfl,rfl,aY.of (s2 _ _ (s1 _ _ hp)),bO hi,rfl,?_⟩;have e:decide (V.int i=V.int 0)=iY xs:=by unfold iY;rw[ec,eb,hi];simp
     show Q (.bl (decide (V.int i=V.int 0))) H2;rw[e];exact k H2 (s1.trans s2)
def DF(K:qAb)(NT:Addr):Sp:=fun vs H Q E=>∃(p:Addr) (xs:List V),vs=[.ref p]/\H p=some (.lst xs)/\(∀v∈xs,Pl K H v)/\xs.length<=1000/\(iY xs=false->∀H',aI H H'->E (.ref NT) none H') /\
 ∀m:Nat,1<=m->m<=6->xs.length=2^m->iY xs=true->∀H',aI H H'->Q (.int (m:Int)) H'
theorem Jz:aK ["table"] ["table"] (aE Fn):=by constructor<;>first|rfl|decide +kernel
theorem CH{xs:List V}(h:iY xs=true):∃m:Nat,1<=m/\m<=6/\xs.length=2^m:=by
 have z:[2,4,8,16,32,64].contains xs.length=true:=by
  unfold iY at h;rw[qAr,qAr] at h;exact h.1.1
 have z:xs.length∈[2,4,8,16,32,64]:=by simpa using z
 simp only[qDb,qBq,or_false] at z;rcases z with z | z | z | z | z | z
 ·exact⟨1,by decide,by decide,z⟩
 ·exact⟨2,by decide,by decide,z⟩
 ·exact⟨3,by decide,by decide,z⟩
 ·exact⟨4,by decide,by decide,z⟩
 ·exact⟨5,by decide,by decide,z⟩
 ·exact⟨6,by decide,by decide,z⟩
theorem CI:∀m:_root_.Fin 7,jV[m.1]?=some ((2:Int)^m.1)/\∀j:_root_.Fin 7,j.1<m.1->jV[j.1]?≠some ((2:Int)^m.1):=by decide
theorem Gm{f1:Addr}{fd1:qBd}(t:Tx K mg "hands_in" Fn ["table"] f fd)(T:T K mg AL LN RU OW PL PA VO MA NE fE fH rR rO rP rA rV rM rN iR iO iP iA iV iM iN fL wR wO wP wA wV wM wN CO iC cH cE cW SE NG NL NT)(D_is_table:Df P w K mg base cM 2 "is_table" ["thing"] (DE K) f1 fd1):
  Df P w K mg base (gZ P w) 3 "hands_in" ["table"] (DF K NT) f fd:=by
 refine t.Dw Jz (fun vs H Q E h=>?_) (fun cdv A outer s H vs Q E hr h=>?_)
 ·obtain⟨p,xs,rfl,_⟩:=h;rfl
 ·obtain⟨p,xs,rfl,hp,pl,hlen,k0,k⟩:=h;refine⟨_,(aD (bK (dR (cY (bD D_is_table hr (by decide) (by rfl) (aA (pv 0) aB)))) (aH (dH bA rfl (by rfl) T.Jp T.Jq (aA aU aB))) aX)
   (aH (aN (dP PySem.F.plainAttrs_tuple PySem.F.slot_tuple_index PySem.F.type_tuple_index Ak (bP (v:=.ref LN) (by rfl) T.DD rfl) (aA (aO aZ (by rfl) T.cN cC (aA (pv 0) aB)) aB))))),?_⟩
  refine⟨_,rfl,p,xs,rfl,hp,pl,hlen,fun H1 s1=>⟨_,rfl,?_⟩⟩;cases e:iY xs with
  | false=>exact cT ⟨nK,k0 e H1 s1⟩
  | true =>
   obtain⟨m,h1,h6,hm⟩:=CH e;obtain⟨l1,l2⟩:=CI ⟨m,by lia⟩;refine bG ⟨.inr (.inl ⟨rfl,T.Np⟩),_,rfl,p,_,rfl,.inl (aY.of (s1 _ _ hp)),LN,jV,_,m,rfl,rfl,T.ln _,?_,?_,k m h1 h6 hm e H1 s1⟩
   ·rw[hm,l1];push_cast;rfl
   ·intro j hj;have z:=l2 ⟨j,by lia⟩ hj;rw[hm];intro q;refine z (q.trans ?_);push_cast;rfl
def sM(K:qAb)(NL:Addr):Sp:=fun vs H Q E=>∃(p:Addr) (xs:List V),vs=[.ref p]/\(H p=some (.lst xs)\/H p=some (.tup xs))/\(∀v∈xs,Pl K H v)/\xs.length<=1000/\(xs.all hX=false->∀H',aI H H'->E (.ref NL) none H')/\(xs.all hX=true->∀H',aI H H'->Q .non H')
theorem JA:aK ["things"] ["things"] (aE Fo):=by constructor<;>first|rfl|decide +kernel
theorem Gn{f1:Addr}{fd1:qBd}(t:Tx K mg "check_numbers" Fo ["things"] f fd)(T:T K mg AL LN RU OW PL PA VO MA NE fE fH rR rO rP rA rV rM rN iR iO iP iA iV iM iN fL wR wO wP wA wV wM wN CO iC cH cE cW SE NG NL NT)(D_is_number:Df P w K mg base cM 1 "is_number" ["thing"] (pE K) f1 fd1):
  Df P w K mg base (gZ P w) 2 "check_numbers" ["things"] (sM K NL) f fd:=by
 refine t.Dw JA (fun vs H Q E h=>?_) (fun cdv A outer s H vs Q E hr h=>?_)
 ·obtain⟨p,xs,rfl,_⟩:=h;rfl
 ·obtain⟨p,xs,rfl,hp,pl,hlen,k0,k⟩:=h;refine⟨_,(aH (bK (dR (cY (aO (mF rfl) (by rfl) T.mS uE (aA (bM (NB:=["thing"]) (pick:=[none]) (bR (by with_unfolding_all rfl) (by exact trivial) rfl (by decide +kernel) (by decide +kernel) (by rfl) (by rfl)) rfl
     (ER (pv 0)) (fun _ _ _=>aP (i:=0) (show(["thing"]:List Str).Nodup from by decide +kernel) rfl cK)
     (fun _ _ _=>bS) (fun _ _ _=>(bD D_is_number hr (by decide) (by rfl) (aA (pv 0) aB)))) aB)))) (aH (dH bA rfl (by rfl) T.yM T.yN (aA aU aB))) aX)),?_⟩
  have fin:∀(D:Addr) (H2:Hp),aI H H2->H2 D=some (.lst ((qAq xs.length).filterMap fun i=>(xs[i]?).bind fun x=>some (V.bl (hX x)))) ->
    ∃bs:List Bool,aY K H2 D (bs.map V.bl)/\bs.all id=xs.all hX:=fun D H2 s2 hd=>by
   refine⟨xs.map hX,?_,by rw[qJq];rfl⟩;rw[qBt,<- qE] at *;exact aY.of hd
  have step:∀(i:Nat) (x:V) (H2:Hp),aI H H2->xs[i]?=some x->Pl K H2 x:=fun i x H2 s2 hx=>(pl x (qAu hx)).same s2;have endk:∀(D:Addr) (H2:Hp) (bs:List Bool),aI H H2->bs.all id=xs.all hX->if (!(bs.all id))=true then (1<=qAg/\E (.ref NL) none H2) else Q .non H2:=fun D H2 bs s2 e=>by
   rw[e];cases eb:xs.all hX with
   | false=>exact cT ⟨by decide,k0 eb H2 s2⟩
   | true=>exact bG (k eb H2 s2)
  rcases hp with hp | hp
  ·refine⟨_,rfl,p,rfl,.inl ⟨⟨xs,aY.of hp⟩,?_⟩⟩;refine cF (xs:=xs) (fun _ x=>some (.bl (hX x))) (aY.of hp) (qBb (aQ hlen)) (fun i x H2 kk kk0 s2 hx h1 h2=>?_) fun D H2 hD s2 hd=>?_
   ·exact⟨_,rfl,x,rfl,step i x H2 s2 hx,h1 _ rfl _ (.refl _)⟩
   ·obtain⟨bs,q1,q2⟩:=fin D H2 s2 hd;exact⟨D,bs,rfl,q1,_,rfl,endk D H2 bs s2 q2⟩
  ·refine⟨_,rfl,p,rfl,.inr ⟨⟨xs,dG.of hp⟩,?_⟩⟩;refine Al (xs:=xs) (fun _ x=>some (.bl (hX x))) (dG.of hp) (qBb (aQ hlen)) (fun i x H2 kk kk0 s2 hx h1 h2=>?_) fun D H2 hD s2 hd=>?_
   ·exact⟨_,rfl,x,rfl,step i x H2 s2 hx,h1 _ rfl _ (.refl _)⟩
   ·obtain⟨bs,q1,q2⟩:=fin D H2 s2 hd;exact⟨D,bs,rfl,q1,_,rfl,endk D H2 bs s2 q2⟩
def yP(m:Int):List V->Bool
 | [.int i,.int j,.int _]=>decide (0<=i)&&decide (i<j)&&decide (j<m)
 | _=>false
theorem uU{m:Int}{xs:List V}(h:yP m xs=true):∃i j n:Int,xs=[.int i,.int j,.int n]/\0<=i/\i<j/\j<m:=by
 unfold yP at h;split at h
 ·rename_i i j n;rw[qAr,qAr] at h;exact⟨i,j,n,rfl,of_decide_eq_true h.1.1,of_decide_eq_true h.1.2,of_decide_eq_true h.2⟩
 ·cases h
theorem uV{m:Int}{xs:List V}(h:¬∃i j n:Int,xs=[.int i,.int j,.int n]/\0<=i/\i<j/\j<m):yP m xs=false:=by
 cases e:yP m xs with
 | false=>rfl
 | true=>exact absurd (uU e) h
def DG(K:qAb)(NL:Addr):Sp:=fun vs H Q E=>∃(m:Int) (a:Addr) (xs:List V),vs=[.int m,.ref a]/\H a=some (.tup xs)/\(∀v∈xs,Pl K H v)/\xs.length<=1000/\(yP m xs=false->∀H',aI H H'->E (.ref NL) none H')/\(yP m xs=true->∀H',aI H H'->Q .non H')
theorem JB:aK ["many","pair"] ["many","pair"] (aE Fp):=by constructor<;>first|rfl|decide +kernel
theorem Gp{f1:Addr}{fd1:qBd}(t:Tx K mg "check_pair" Fp ["many","pair"] f fd)(T:T K mg AL LN RU OW PL PA VO MA NE fE fH rR rO rP rA rV rM rN iR iO iP iA iV iM iN fL wR wO wP wA wV wM wN CO iC cH cE cW SE NG NL NT)(D_check_numbers:Df P w K mg base (gZ P w) 2 "check_numbers" ["things"] (sM K NL) f1 fd1):
  Df P w K mg base (gZ P w) 3 "check_pair" ["many","pair"] (DG K NL) f fd:=by
 refine t.Dw JB (fun vs H Q E h=>?_) (fun cdv A outer s H vs Q E hr h=>?_)
 ·obtain⟨m,a,xs,rfl,_⟩:=h;rfl
 ·obtain⟨m,a,xs,rfl,ha,pl,hlen,k0,k⟩:=h;refine⟨_,(aD (bK (PW.pt (pw_or (dR (cY (aO fA (by rfl) T.gT hW (aA (pv 1) (aA (gH (v:=.ty "tuple") (by rfl) T.jW Ae rfl) aB))))) (pw_or1 (aS gR (aO aZ (by rfl) T.cN cC (aA (pv 1) aB)) aG (aV _))))) (aH (dH bA rfl (by rfl) T.yM T.yN (aA aU aB))) aX)
   (aD (bN (eK bA.toPass D_check_numbers hr (by decide) (by rfl) (aA (pv 1) aB)))
   (aH (bK (dR (xV rZ jM jM aG (a9 cB (pv 1) aG (fun _ _=>rfl)) (a9 cB (pv 1) aG (fun _ _=>rfl)) (pv 0))) (aH (dH bA rfl (by rfl) T.yM T.yN (aA aU aB))) aX)))),?_⟩
  refine⟨_,rfl,.ref a,.ty "tuple",_,_,_,rfl,rfl,.of (.tup ha),Kd.tup.EN K,_,rfl,bG ?_⟩;refine⟨_,rfl,a,_,rfl,.inr (dG.of ha),rfl,_,rfl,?_⟩;refine dE (fun h3=>?_) (fun h3=>?_)
  ·refine⟨nK,k0 (uV ?_) H (.refl H)⟩;rintro⟨i,j,n,rfl,_⟩;have e:decide (V.int (([V.int i,V.int j,V.int n].length:Nat):Int)=V.int 3)=true:=decide_eq_true rfl;rw[e] at h3;cases h3
  have e3:xs.length=3:=by
   refine qCp fun z=>h3 ?_;rw[decide_eq_false]
   ·rfl
   ·intro q;have:=V.int.inj q;lia
  refine⟨_,rfl,a,_,rfl,.inr ha,pl,hlen,fun no H1 s1=>k0 (uV ?_) H1 s1,fun yes H1 s1=>?_⟩
  ·rintro⟨i,j,n,rfl,_⟩;exact absurd no (by show ¬true=false;decide)
  obtain⟨i,j,n,rfl⟩:∃i j n:Int,xs=[.int i,.int j,.int n]:=by
   match xs,e3,yes with
   | [u,v,w'],_,yes =>
    rw[qHv] at yes;have y1:=yes u (by simp);have y2:=yes v (by simp);have y3:=yes w' (by simp);cases u <;> first | (exact absurd y1 qAl) | skip
    cases v <;> first | (exact absurd y2 qAl) | skip
    cases w' <;> first | (exact absurd y3 qAl) | skip
    exact⟨_,_,_,rfl⟩
  have fail:¬(0<=i/\i<j/\j<m)->1<=qAg/\E (.ref NL) none H1:=fun z=>⟨by decide,k0 (uV (by
   rintro⟨i',j',n',e,z'⟩;cases e;exact z z')) H1 s1⟩
  refine⟨_,rfl,a,_,_,_,rfl,rfl,dG.of (s1 _ _ ha),rfl,_,_,rfl,rfl,_,rfl,?_⟩;refine dE (fun h1=>?_) (fun h1=>cT (fail fun z=>h1 (decide_eq_true z.1)));refine⟨_,rfl,a,_,_,_,rfl,rfl,dG.of (s1 _ _ ha),rfl,_,_,rfl,rfl,_,rfl,?_⟩;refine dE (fun h2=>?_) (fun h2=>cT (fail fun z=>h2 (decide_eq_true z.2.1)));refine⟨_,rfl,_,_,rfl,rfl,_,rfl,?_⟩;cases h3':decide (j<m) with
  | false=>exact cT (fail fun z=>(of_decide_eq_false h3') z.2.2)
  | true =>
   refine bG (k ?_ H1 s1);show(decide (0<=i)&&decide (i<j)&&decide (j<m))=true;rw[h1,h2,h3'];rfl
def fM:List V->Int×Int
 | [.int i,.int j,.int _]=>(i,j)
 | _=>(0,0)
def fV(m:Int):List (Int×Int)->List (List V)->Bool
 | _,[]=>true
 | seen,xs::r=>yP m xs && !(seen.contains (fM xs))&&fV m (seen++[fM xs]) r
def qQ(m:Int)(xss:List (List V)):Bool:=fV m [] xss
theorem mU{m:Int}:∀{xss:List (List V)}{seen:List (Int×Int)},fV m seen xss=true->∀xs∈xss,yP m xs=true
 | [],_,_,xs,h=>by cases h
 | x::r,seen,h,xs,hx=>by
  have h':(yP m x && !(seen.contains (fM x))&&fV m (seen++[fM x]) r)=true:=h;rw[qAr,qAr] at h';rcases List.mem_cons.mp hx with rfl | hx
  ·exact h'.1.1
  ·exact mU h'.2 xs hx
def mV(ks:List (Int×Int)):List (List Key×V):=ks.map fun k=>([Sum.inl k.1,Sum.inl k.2],V.bl true)
theorem kO(i j:Int):∀ks:List (Int×Int),jH (mV ks) [Sum.inl i,Sum.inl j]=if ks.contains (i,j)=true then some (.bl true) else none
 | []=>rfl
 | k::r=>by
  have ih:=kO i j r;by_cases e:k=(i,j)
  ·subst e;rw[if_pos (by simp)];exact jS (p:=([Sum.inl i,Sum.inl j],V.bl true)) rfl
  ·have z:jH (mV (k::r)) [Sum.inl i,Sum.inl j]=jH (mV r) [Sum.inl i,Sum.inl j]:=jT (p:=([Sum.inl k.1,Sum.inl k.2],V.bl true)) (r:=mV r) (fun q=>e (by
    have q1:=List.cons.inj q;have q2:=List.cons.inj q1.2;exact Prod.ext (Sum.inl.inj q1.1) (Sum.inl.inj q2.1)))
   rw[z,ih];have e2:((k::r).contains (i,j))=r.contains (i,j):=by
    rw[List.contains_cons];have:((i,j) == k)=false:=by
     rw[beq_eq_false_iff_ne];exact fun q=>e q.symm
    rw[this,qLv]
   rw[e2]
def fG(H:Hp)(a:Addr):List V:=match H a with
 | some (.tup xs)=>xs
 | _=>[]
theorem dF{H:Hp}{a:Addr}{xs:List V}(h:H a=some (.tup xs)):fG H a=xs:=by
 unfold fG;rw[h]
def yQ(K:qAb)(H:Hp)(as:List Addr):Prop:=∀a∈as,∃xs,H a=some (.tup xs)/\(∀v∈xs,Pl K H v)/\xs.length<=1000
theorem yQ.eq{K:qAb}{H H':Hp}{as:List Addr}(t:yQ K H as)(s:∀a xs,H a=some (.tup xs)->H' a=some (.tup xs)):as.map (fG H')=as.map (fG H):=by
 refine qFi fun a ha=>?_;obtain⟨xs,h,_⟩:=t a ha;rw[dF h,dF (s a xs h)]
def uW(p q:Int×Int):Prop:=p.1<q.1\/p.1=q.1/\p.2<q.2
def CJ(m:Int)(k:Int×Int):Nat:=k.1.toNat*m.toNat+k.2.toNat
theorem qR{m i j i' j':Int}(a0:0<=i)(a1:i<j)(a2:j<m)(b0:0<=i')(b1:i'<j')(b2:j'<m):CJ m (i,j)<CJ m (i',j')↔uW (i,j) (i',j'):=by
 show i.toNat*m.toNat+j.toNat<i'.toNat*m.toNat+j'.toNat↔i<i'\/i=i'/\j<j';rcases Int.lt_trichotomy i i' with h | h | h
 ·have z:=qJy m.toNat (show i.toNat+1<=i'.toNat by lia);rw[qMs,qMq] at z;exact⟨fun _=>.inl h,fun _=>by lia⟩
 ·subst h;exact⟨fun _=>.inr ⟨rfl,by lia⟩,fun _=>by lia⟩
 ·have z:=qJy m.toNat (show i'.toNat+1<=i.toNat by lia);rw[qMs,qMq] at z;exact⟨fun _=>by lia,fun _=>by lia⟩
theorem Me{m i j i' j' n n':Int}(a0:0<=i)(a1:i<j)(a2:j<m)(b0:0<=i')(b1:i'<j')(b2:j'<m)(hn:(i,j)=(i',j')->n=n'):HT.lexLt [i,j,n] [i',j',n']=decide (CJ m (i,j)<CJ m (i',j')):=by
 rw[decide_eq_decide.mpr (qR a0 a1 a2 b0 b1 b2),HT.gM];show _=decide (i<i'\/i=i'/\j<j');by_cases e:i=i'
 ·rw[if_pos e,HT.gM];by_cases e2:j=j'
  ·rw[if_pos e2,HT.gM,if_pos (hn (by rw[e,e2]))];exact(decide_eq_false (by lia)).symm
  ·rw[if_neg e2];exact decide_eq_decide.mpr (by lia)
 ·rw[if_neg e];exact decide_eq_decide.mpr (by lia)
theorem pF{m:Int}:∀{xss:List (List V)}{seen:List (Int×Int)},fV m seen xss=true->seen.Nodup->(seen++xss.map fM).Nodup
 | [],seen,_,h=>by rw[qDz,qCr];exact h
 | x::r,seen,h,hs=>by
  have h':(yP m x && !(seen.contains (fM x))&&fV m (seen++[fM x]) r)=true:=h;rw[qAr,qAr] at h';have z:=pF h'.2 (by
   rw[List.nodup_append];refine⟨hs,by simp,fun a ha b hb=>?_⟩;rw[qKn] at hb;subst hb;intro e;subst e;have:=h'.1.2;simp[ha] at this)
  rw[qDj] at z;exact z
theorem pw_mem{α:Type}{R:α->α->Prop}:∀{l:List α},l.Pairwise R->∀{a b:α},a∈l->b∈l->a≠b->R a b\/R b a
 | [],_,a,b,ha,_,_=>by cases ha
 | x::l,h,a,b,ha,hb,ne=>by
  rw[qHf] at h;rcases List.mem_cons.mp ha with rfl | ha'
  ·rcases List.mem_cons.mp hb with rfl | hb'
   ·exact absurd rfl ne
   ·exact .inl (h.1 _ hb')
  ·rcases List.mem_cons.mp hb with rfl | hb'
   ·exact .inr (h.1 _ ha')
   ·exact pw_mem h.2 ha' hb' ne
def jY(H:Hp)(a:Addr):Int×Int:=fM (fG H a)
theorem AU{m:Int}{H:Hp}{as:List Addr}(h:qQ m (as.map (fG H))=true):as.Pairwise fun a b=>jY H a≠jY H b:=by
 have z:=pF h qIt;rw[qFh,qBt] at z;exact List.pairwise_map.mp z
def vY(K:qAb)(NL:Addr):Sp:=fun vs H Q E=>∃(m:Int) (p:Addr) (as:List Addr),vs=[.int m,.ref p]/\H p=some (.lst (as.map V.ref))/\yQ K H as/\as.length<64/\(qQ m (as.map (fG H))=false->∀H',aI H H'->E (.ref NL) none H') /\
 (qQ m (as.map (fG H))=true->∀(l:Addr) (bs:List Addr) (H':Hp),H l=none->bs.Perm as->bs.Pairwise (fun a b=>uW (jY H a) (jY H b))->aI H H'->H' l=some (.lst (bs.map V.ref))->Q (.ref l) H')
theorem vZ:aK ["many","pairs","seen","pair","hands"] ["many","pairs"] (aE Fq):=by constructor<;>first|rfl|decide +kernel
theorem Gq{f1:Addr}{fd1:qBd}(t:Tx K mg "sorted_pairs" Fq ["many","pairs"] f fd)(T:T K mg AL LN RU OW PL PA VO MA NE fE fH rR rO rP rA rV rM rN iR iO iP iA iV iM iN fL wR wO wP wA wV wM wN CO iC cH cE cW SE NG NL NT)(D_check_pair:Df P w K mg base (gZ P w) 3 "check_pair" ["many","pair"] (DG K NL) f1 fd1):
  Df P w K mg base (gZ P w) 4 "sorted_pairs" ["many","pairs"] (vY K NL) f fd:=by
 refine t.Dw vZ (fun vs H Q E h=>?_) (fun cdv A outer s H vs Q E hr h=>?_)
 ·obtain⟨m,p,as,rfl,_⟩:=h;rfl
 ·obtain⟨m,p,as,rfl,hp,ht,h64,k0,k⟩:=h;refine⟨_,(aD (bF (i:=2) vZ.nd rfl cK Au)
   (aD (gK bA.own rfl (bL (pv 1)) (aP (i:=3) vZ.nd rfl cK)
    (aD (bN (eK bA.toPass D_check_pair hr (by decide) (by rfl) (aA (pv 0) (aA (pv 3) aB))))
    (aD (bF (i:=4) vZ.nd rfl cK (fQ (aA (a9 cB (pv 3) aG (fun _ _=>rfl)) (aA (a9 cB (pv 3) aG (fun _ _=>rfl)) aB))))
    (aD (bK (Em (EW (Du hr) (pv 4) (pv 2))) (aH (dH bA rfl (by rfl) T.yM T.yN (aA aU aB))) aX)
    (aH (Co (Du hr) (pv 2) (pv 4) iZ rfl))))))
   (aH (aN (aO nX (by rfl) T.iE xU (aA (pv 1) aB)))))),?_⟩
  refine fun d hd=>⟨_,rfl,p,rfl,⟨_,aY.of (aI.aJ hd _ _ hp)⟩,?_⟩;refine jL (xs:=as.map V.ref) (fun i σ' H'=>aI H H'/\(∃o3 o4:Option V,σ'=[some (.int m),some (.ref p),some (.ref d),o3,o4])/\∃ks:List (Int×Int),ks.length<=i/\H' d=some (.dT (mV ks))/\qQ m (as.map (fG H))=fV m ks ((as.map (fG H)).drop i)) ?_ ?_ ?_ ?_
  ·exact⟨.aJ hd,⟨_,_,rfl⟩,[],qBm _,aC,rfl⟩
  ·rintro i σ' H' _ ⟨s1,_⟩;exact aY.of (s1 _ _ hp)
  ·rintro i x σ' H' hx ⟨s1,⟨o3,o4,rfl⟩,ks,hks,hd1,he⟩;obtain⟨a,ha,rfl⟩:∃a,as[i]?=some a/\x = .ref a:=by
    rw[qAj] at hx;cases e:as[i]? with
    | none=>rw[e] at hx;cases hx
    | some y=>rw[e] at hx;exact⟨y,rfl,(Option.some.inj hx).symm⟩
   have hi:i<as.length:=by
    rcases qBh i as.length with z | z
    ·exact z
    ·rw[qDi z] at ha;cases ha
   obtain⟨xs,hxs,pl,hlen⟩:=ht a (qAu ha);have hdrop:(as.map (fG H)).drop i=xs::(as.map (fG H)).drop (i+1):=by
    rw[List.drop_eq_getElem_cons (by rw[qAa];exact hi),qHu];have:as[i]=a:=Option.some.inj ((qAc hi).symm.trans ha);rw[this,dF hxs]
   rw[hdrop] at he;have he':qQ m (as.map (fG H))=(yP m xs && !(ks.contains (fM xs))&&fV m (ks++[fM xs]) ((as.map (fG H)).drop (i+1))):=he;refine⟨_,rfl,_,rfl,m,a,xs,rfl,s1 _ _ hxs,fun v hv=>(pl v hv).same s1,hlen,fun no H2 s2=>?_,fun yes H2 s2=>?_⟩
   ·exact k0 (by rw[he',no];rfl) H2 (s1.trans s2)
   obtain⟨u,v,n,rfl,_⟩:=uU yes;have ha2:=s2 _ _ (s1 _ _ hxs);refine⟨_,rfl,a,_,_,_,rfl,rfl,dG.of ha2,rfl,_,rfl,a,_,_,_,rfl,rfl,dG.of ha2,rfl,zD,fun tt htt=>?_⟩;have u3:=aI.aJ (o:=.tup [V.int u,V.int v]) htt;have hd3:=u3 _ _ (s2 _ _ hd1);refine⟨_,rfl,_,rfl,d,_,rfl,Aq.t (k:=[Sum.inl u,Sum.inl v]) hd3 aC,_,rfl,?_⟩;rw[kO];cases hc:ks.contains (u,v) with
   | true =>
    rw[if_pos rfl];refine cT ⟨nK,k0 ?_ _ ((s1.trans s2).trans u3)⟩;rw[he',show fM [V.int u,V.int v,V.int n]=(u,v) from rfl,hc,yes];rfl
   | false =>
    rw[if_neg qAl];refine bG ⟨_,rfl,_,rfl,d,_,rfl,Ar.t (k:=[Sum.inl u,Sum.inl v]) hd3 aC (by unfold mV;rw[qAa];exact aQ (by lia)),?_⟩;refine⟨((s1.trans s2).trans u3).upd_ne' hd,⟨_,_,rfl⟩,ks++[(u,v)],by rw[qAn];show _+1<=_;lia,?_,?_⟩
    ·rw[aC,Ao _ (by rw[kO,hc];rfl)];unfold mV;rw[qCc];rfl
    ·rw[he',show fM [V.int u,V.int v,V.int n]=(u,v) from rfl,hc,yes];rfl
  ·rintro σ' H' ⟨s1,⟨o3,o4,rfl⟩,ks,hks,hd1,he⟩;rw[qAa,qJg (by rw[qAa];exact qAi _)] at he;have he:qQ m (as.map (fG H))=true:=he;have at_:∀a∈as,∃u v n:Int,H a=some (.tup [.int u,.int v,.int n])/\jY H a=(u,v)/\0<=u/\u<v/\v<m:=fun a ha=>by
    obtain⟨xs,hxs,_⟩:=ht a ha;obtain⟨u,v,n,e,e1⟩:=uU (mU he xs (by rw[<- dF hxs];exact List.mem_map.mpr ⟨a,ha,rfl⟩));subst e;exact⟨u,v,n,hxs,by unfold jY;rw[dF hxs];rfl,e1⟩
   have pk:=AU he;have nk:∀a∈as,∀b∈as,jY H a=jY H b->a=b:=fun a ha b hb e=>qCp fun ne=>by
    rcases pw_mem pk ha hb ne with z | z
    ·exact z e
    ·exact z e.symm
   refine⟨_,rfl,p,as,fun a=>CJ m (jY H a),rfl,aY.of (s1 _ _ hp),fun a ha=>?_,h64,fun a ha b hb=>?_,?_,fun l bs hl hp_ hpw=>k he l bs _ (s1.free hl) hp_ ?_ (s1.trans (.aJ hl)) aC⟩
   ·obtain⟨u,v,n,hu,_⟩:=at_ a ha;exact⟨u,[v,n],s1 _ _ hu⟩
   ·obtain⟨u,v,n,hu,ku,u0,u1,u2⟩:=at_ a ha;obtain⟨u',v',n',hu',ku',v0,v1,v2⟩:=at_ b hb;rw[fU (ns:=[u,v,n]) (s1 _ _ hu),fU (ns:=[u',v',n']) (s1 _ _ hu')];show _=decide (CJ m (jY H a)<CJ m (jY H b));rw[ku,ku'];refine Me u0 u1 u2 v0 v1 v2 fun e=>?_;have:=nk a ha b hb (by rw[ku,ku',e]);subst this;rw[hu] at hu';injection hu' with e1;injection e1 with e1;injection e1 with _ e1;injection e1 with _ e1;injection e1 with e1;injection e1
   ·refine List.pairwise_map.mpr (pk.imp_of_mem fun {a b} ha hb ne=>?_);obtain⟨u,v,n,hu,ku,u0,u1,u2⟩:=at_ a ha;obtain⟨u',v',n',hu',ku',v0,v1,v2⟩:=at_ b hb;rw[ku,ku'] at ne;show CJ m (jY H a)≠CJ m (jY H b);rw[ku,ku'];intro e;have x1:=mt (qR u0 u1 u2 v0 v1 v2).mpr (by lia);have x2:=mt (qR v0 v1 v2 u0 u1 u2).mpr (by lia);refine ne (Prod.ext ?_ ?_)
    ·show u=u';have x1:¬(u<u'\/u=u'/\v<v'):=x1;have x2:¬(u'<u\/u'=u/\v'<v):=x2;lia
    ·show v=v';have x1:¬(u<u'\/u=u'/\v<v'):=x1;have x2:¬(u'<u\/u'=u/\v'<v):=x2;lia
   ·refine(List.pairwise_map.mp hpw).imp_of_mem fun {a b} ha hb lt=>?_;obtain⟨u,v,n,hu,ku,u0,u1,u2⟩:=at_ a (hp_.mem_iff.mp ha);obtain⟨u',v',n',hu',ku',v0,v1,v2⟩:=at_ b (hp_.mem_iff.mp hb);rw[ku,ku'] at lt|-;exact(qR u0 u1 u2 v0 v1 v2).mp lt
def both(g i j:Nat):Bool:=decide (g/2^i%2=1)&&decide (g/2^j%2=1)
theorem CK:∀(g:_root_.Fin 64) (i j:_root_.Fin 6),decide (qBw (g.1:Int) (qCg (alone i.1) (alone j.1))=qCg (alone i.1) (alone j.1))=both g.1 i.1 j.1:=by decide +kernel
def Gr:Sp:=fun vs H Q _=>∃g i j:Nat,vs=[.int (g:Int),.int (i:Int),.int (j:Int)]/\g<64/\i<6/\j<6/\Q (.bl (both g i j)) H
theorem JC:aK ["group","one","other","both"] ["group","one","other"] (aE LG):=by constructor<;>first|rfl|decide +kernel
theorem JD(t:Tx K mg "has_both" LG ["group","one","other"] f fd)(T:T K mg AL LN RU OW PL PA VO MA NE fE fH rR rO rP rA rV rM rN iR iO iP iA iV iM iN fL wR wO wP wA wV wM wN CO iC cH cE cW SE NG NL NT):Df P w K mg base cM 1 "has_both" ["group","one","other"] Gr f fd:=by
 refine t.jA JC (fun vs H Q E h=>?_) (fun cdv A outer s H vs Q E hr h=>?_)
 ·obtain⟨g,i,j,rfl,_⟩:=h;rfl
 ·obtain⟨g,i,j,rfl,hg,hi,hj,k⟩:=h;refine⟨_,(aD (bF (i:=3) JC.nd rfl cK (aM rY (a9 cB (bP (v:=.ref AL) (by rfl) T.tP rfl) (pv 1) (fun _ _=>rfl)) (a9 cB (bP (v:=.ref AL) (by rfl) T.tP rfl) (pv 2) (fun _ _=>rfl))))
   (aH (aN (eJ bU (aM gA (pv 0) (pv 3)) (pv 3) (aV _))))),?_⟩
  have a1:=jX (i:=(i:Int)) (by lia) (by lia);have a2:=jX (i:=(j:Int)) (by lia) (by lia);refine⟨_,rfl,AL,_,_,_,rfl,rfl,T.al _,a1,_,rfl,AL,_,_,_,rfl,rfl,T.al _,a2,_,_,rfl,rfl,?_⟩;refine⟨_,rfl,_,rfl,_,_,rfl,rfl,_,rfl,rfl,?_⟩;have e:=CK ⟨g,hg⟩ ⟨i,hi⟩ ⟨j,hj⟩;have e':decide (V.int (qBw (g:Int) (qCg (alone i) (alone j)))=V.int (qCg (alone i) (alone j)))=both g i j:=by
   rw[<- e];exact decide_eq_decide.mpr ⟨V.int.inj,congrArg V.int⟩
  show Q (.bl (decide (V.int (qBw (g:Int) (qCg (alone i) (alone j)))=V.int (qCg (alone i) (alone j))))) H;rw[e'];exact k
def AV:Sp:=fun vs H Q _=>∃(l:Addr) (ns:List Int) (g:Nat),vs=[.ref l,.int (g:Int)]/\H l=some (.lst (ns.map V.int))/\ns.length<=6/\g<2^ns.length/\∀H',aI H H'->Q (.int (lJ ns g)) H'
theorem JE:aK ["numbers","group"] ["numbers","group"] (aE Fs):=by constructor<;>first|rfl|decide +kernel
theorem Gs{f1:Addr}{fd1:qBd}(t:Tx K mg "sum_of_hands" Fs ["numbers","group"] f fd)(T:T K mg AL LN RU OW PL PA VO MA NE fE fH rR rO rP rA rV rM rN iR iO iP iA iV iM iN fL wR wO wP wA wV wM wN CO iC cH cE cW SE NG NL NT)(D_hands_of:Df P w K mg base (gZ P w) 4 "hands_of" ["group"] (AS K NG) f1 fd1):
  Df P w K mg base cM 5 "sum_of_hands" ["numbers","group"] AV f fd:=by
 refine t.jA JE (fun vs H Q E h=>?_) (fun cdv A outer s H vs Q E hr h=>?_)
 ·obtain⟨l,ns,g,rfl,_⟩:=h;rfl
 ·obtain⟨l,ns,g,rfl,hl,h6,hg,k⟩:=h;have hg64:g<64:=qAo hg (FU h6);refine⟨_,(aH (aN (aO (eL rfl) (by rfl) T.gG gP (aA (bM (NB:=["hand","numbers"]) (pick:=[none,some 0]) (bR (by with_unfolding_all rfl) (by exact(And.intro rfl trivial)) rfl (by decide +kernel) (by decide +kernel) (by rfl) (by rfl)) rfl
     (bL (eK bQ D_hands_of hr (by decide) (by rfl) (aA (pv 1) aB))) (fun _ _ _=>aP (i:=0) (show(["hand","numbers"]:List Str).Nodup from by decide +kernel) rfl cK)
     (fun _ _ _=>bS) (fun _ _ _=>(a9 (Ac K) (pv 1) (pv 0) (fun _ _=>rfl)))) aB)))),?_⟩
  refine⟨_,rfl,_,rfl,.int _,fun no=>?_,fun g' q H1 hv _ hq s1 h1=>?_⟩
  ·exact absurd no (by rw[qO (m:=6) hg64];decide)
  ·have eg:g'=g:=by have:=V.int.inj hv;lia
   subst eg;refine⟨q,rfl,⟨_,aY.of h1⟩,?_⟩;refine cF (xs:=(eG g').map V.int) (fun _ x=>match x with | .int i=>some (.int (ns.getD i.toNat 0)) | _=>none) (aY.of h1) ?_ (fun i x H2 kk kk0 s2 hx h1 h2=>?_) fun D H2 hD s2 hd=>?_
   ·rw[qAa];exact qBb (aQ (qAt (uP g' 6) (by decide)))
   ·obtain⟨j,hj,rfl⟩:=List.mem_map.mp (qAu hx);obtain⟨j0,jl⟩:=uQ hg 6 j hj;have hjn:j.toNat<ns.length:=by lia
    have hat:fK (ns.map V.int) j=some (.int (ns.getD j.toNat 0)):=by
     have z:=bO (xs:=ns.map V.int) (j:=j.toNat) (v:=.int (ns.getD j.toNat 0)) (by rw[qAj,qAs,qAc hjn];rfl);rw[qFl j0] at z;exact z
    exact⟨_,rfl,_,rfl,l,_,_,_,rfl,rfl,aY.of (s2 _ _ (s1 _ _ hl)),hat,h1 _ rfl _ (.refl _)⟩
   ·have ed:((qAq ((eG g').map V.int).length).filterMap fun i=>(((eG g').map V.int)[i]?).bind fun x=>match x with | .int i=>some (V.int (ns.getD i.toNat 0)) | _=>none)=((eG g').map fun h=>ns.getD h.toNat 0).map V.int:=by
     rw[cJ,qCn,qBt];show(eG g').filterMap (fun i=>some (V.int (ns.getD i.toNat 0)))=_;rw[qBx];rfl
    rw[ed] at hd;refine⟨D,_,rfl,.inl (aY.of hd),?_⟩;rw[uR h6 hg];exact k H2 (s1.trans s2)
def qS(K:qAb)(NL:Addr):Sp:=fun vs H Q E=>∃(x C dx:Addr) (v:V),vs=[.ref x,v]/\H x=some (.ins C dx [])/\xD K C/\cS K C "many"/\Pl K H v/\(kF 1 6 v=false->E (.ref NL) none H)/\(kF 1 6 v=true->Q .non (upd H x (.ins C dx [("many",v)])))
theorem Mf:aK ["self","many"] ["self","many"] (aE HJ):=by constructor<;>first|rfl|decide +kernel
theorem JF{f1:Addr}{fd1:qBd}(t:Mx K "__init__" "Rule.__init__" HJ ["self","many"] f fd)(T:T K mg AL LN RU OW PL PA VO MA NE fE fH rR rO rP rA rV rM rN iR iO iP iA iV iM iN fL wR wO wP wA wV wM wN CO iC cH cE cW SE NG NL NT)(D_check_many:Df P w K mg base (gZ P w) 3 "check_many" ["many"] (AR K NL) f1 fd1):
  Md P w K mg base 4 ["self","many"] (qS K NL) f:=by
 refine t.BG Mf (fun vs H Q E h=>?_) (fun cdv A outer s H vs Q E hr h=>?_)
 ·obtain⟨x,C,dx,v,rfl,_⟩:=h;rfl
 ·obtain⟨x,C,dx,v,rfl,hx,c,n,pl,k0,k⟩:=h;refine⟨_,(aD (bN (eK bA.toPass D_check_many hr (by decide) (by rfl) (aA (pv 1) aB)))
   (aH (eW (pv 0) (pv 1) rfl))),?_⟩
  refine⟨_,rfl,v,rfl,pl,?_⟩;cases e:kF 1 6 v with
  | false=>rw[if_neg qAl];exact k0 e
  | true =>
   rw[if_pos rfl];exact⟨_,rfl,_,rfl,x,C,dx,[],rfl,hx,c,n,by decide,k e⟩
def uX(K:qAb):Sp:=fun vs H Q _=>∃(a C dx:Addr) (fs:List (Str×V)) (v:V),vs=[.ref a]/\H a=some (.ins C dx fs)/\xD K C/\cS K C "many"/\fs.lookup ("many":Str)=some v/\Q v H
theorem Mg:aK ["self"] ["self"] (aE HK):=by constructor<;>first|rfl|decide +kernel
theorem JG(t:Mx K "hands" "Rule.hands" HK ["self"] f fd):Md P w K mg base 1 ["self"] (uX K) f:=by
 refine t.rG Mg (fun vs H Q E h=>?_) (fun cdv A outer s H vs Q E hr h=>?_)
 ·obtain⟨a,C,dx,fs,v,rfl,_⟩:=h;rfl
 ·obtain⟨a,C,dx,fs,v,rfl,ha,c,n,hl,k⟩:=h;refine⟨_,(aH (aN (bY (pv 0) rfl))),?_⟩;exact⟨_,rfl,a,C,dx,fs,v,rfl,ha,c,n,hl,k⟩
def Gu:Sp:=fun vs H Q _=>∃u v,vs=[u,v]/\Q (.int 0) H
theorem Mh:aK ["self","group"] ["self","group"] (aE HL):=by constructor<;>first|rfl|decide +kernel
theorem JH(t:Mx K "reckon" "Rule.reckon" HL ["self","group"] f fd):Md P w K mg base 1 ["self","group"] Gu f:=by
 refine t.rG Mh (fun vs H Q E h=>?_) (fun cdv A outer s H vs Q E hr h=>?_)
 ·obtain⟨u,v,rfl,_⟩:=h;rfl
 ·obtain⟨u,v,rfl,k⟩:=h;exact⟨_,(aH (aN aG)),k⟩
def DH(P:qBc)(w:qCd)(K:qAb)(mg:Str->Option qAf)(base:Heap)(fE fH RU NG:Addr):Sp:=fun vs H Q E=>∃(a:Addr) (m:Nat) (e:Nat->Int) (v:V),vs=[.ref a,v]/\kM P w K mg base fE fH RU H a m e/\Pl K H v /\
 (kF 0 (2^m-1) v=false->∀H',aI H H'->E (.ref NG) none H')/\∀(g:Nat),v = .int (g:Int)->g<2^m->∀H',aI H H'->Q (.int (e g)) H'
theorem JI:aK ["self","group"] ["self","group"] (aE yD):=by constructor<;>first|rfl|decide +kernel
theorem Gv{f1:Addr}{fd1:qBd}(t:Mx K "earn" "Rule.earn" yD ["self","group"] f fd)(T:T K mg AL LN RU OW PL PA VO MA NE fE fH rR rO rP rA rV rM rN iR iO iP iA iV iM iN fL wR wO wP wA wV wM wN CO iC cH cE cW SE NG NL NT)(D_check_group:Df P w K mg base (gZ P w) 3 "check_group" ["group","many"] (vX K NG) f1 fd1):
  Md P w K mg base 7 ["self","group"] (DH P w K mg base fE fH RU NG) f:=by
 refine t.BG JI (fun vs H Q E h=>?_) (fun cdv A outer s H vs Q E hr h=>?_)
 ·obtain⟨a,m,e,v,rfl,_⟩:=h;rfl
 ·obtain⟨a,m,e,v,rfl,ro,pl,k0,k⟩:=h;refine⟨_,(aD (bN (eK bA.toPass D_check_group hr (by decide) (by rfl) (aA (pv 1) (aA (bY (pv 0) rfl) aB))))
   (aH (aN (jQ (k:=6) bA.toPass (pv 0) hr (by decide) (aA (pv 1) aB))))),?_⟩
  obtain⟨C,dx,g,fs,h1,h2,h3,h4,h5,h6,ps,h7⟩:=ro;refine⟨_,rfl,_,rfl,a,C,dx,fs,_,rfl,h1,h2.oc.cl,h2.nm,h3,v,m,rfl,h5,pl,k0,fun yes H1 s1=>?_⟩;obtain⟨gr,rfl,hg⟩:=mR yes;refine⟨_,rfl,a,C,dx,fs,g,_,rfl,s1 _ _ h1,h6.2.2,h2.oc.cl,h2.mr,⟨ps,h7⟩,?_⟩;exact⟨_,rfl,gr,rfl,hg,s1,fun H3 s3=>k gr rfl hg H3 (s1.trans s3)⟩
def Gw(K:qAb)(NL OW:Addr):Sp:=fun vs H Q E=>∃(x dx p:Addr) (xs:List V),vs=[.ref x,.ref p]/\H x=some (.ins OW dx [])/\H p=some (.lst xs)/\(∀v∈xs,Pl K H v)/\xs.length<=1000 /\
 (okN xs=false->∀H',SameBut x H H'->E (.ref NL) none H') /\
 (okN xs=true->∀l H',H l=none->SameBut x H H'->H' x=some (.ins OW dx [("many",.int (xs.length:Int)),("numbers",.ref l)])->H' l=some (.lst xs)->Q .non H')
theorem Mi:aK ["self","numbers"] ["self","numbers"] (aE HN):=by constructor<;>first|rfl|decide +kernel
theorem JJ{f1:Addr}{fd1:qBd}(t:Mx K "__init__" "Own.__init__" HN ["self","numbers"] f fd)(T:T K mg AL LN RU OW PL PA VO MA NE fE fH rR rO rP rA rV rM rN iR iO iP iA iV iM iN fL wR wO wP wA wV wM wN CO iC cH cE cW SE NG NL NT)(D_RI:Md P w K mg base 4 ["self","many"] (qS K NL) iR)(D_check_numbers:Df P w K mg base (gZ P w) 2 "check_numbers" ["things"] (sM K NL) f1 fd1):
  Md P w K mg base 5 ["self","numbers"] (Gw K NL OW) f:=by
 refine t.BG Mi (fun vs H Q E h=>?_) (fun cdv A outer s H vs Q E hr h=>?_)
 ·obtain⟨x,dx,p,xs,rfl,_⟩:=h;rfl
 ·obtain⟨x,dx,p,xs,rfl,hx,hp,pl,hlen,k0,k⟩:=h;refine⟨_,(aD (bN (oP bA.toPass (by rfl) T.zE T.Iq D_RI hr (by decide) (aA (pv 0) (aA (aO aZ (by rfl) T.cN cC (aA (pv 1) aB)) aB))))
   (aD (bN (eK bA.toPass D_check_numbers hr (by decide) (by rfl) (aA (pv 1) aB)))
   (aH (eW (pv 0) (cG dB (by rfl) T.fF fZ (aA (pv 1) aB)) rfl)))),?_⟩
  refine⟨_,rfl,_,rfl,p,_,rfl,.inl (aY.of hp),x,OW,dx,_,rfl,hx,T.FW.oc.cl,T.FW.nm,.int _,fun no=>?_,fun yes=>?_⟩
  ·refine k0 ?_ H ((aI.refl H).but x);unfold okN;rw[gC] at no;rw[no];rfl
  have ne:p≠x:=e8 hp hx (by intro z;cases z);have hp1:upd H x (.ins OW dx [("many",V.int (xs.length:Int))]) p=some (.lst xs):=by rw[aL ne];exact hp
  have sb:SameBut x H (upd H x (.ins OW dx [("many",V.int (xs.length:Int))])):=((aI.refl H).but x).gO _;have pl1:∀v∈xs,Pl K (upd H x (.ins OW dx [("many",V.int (xs.length:Int))])) v:=fun v hv=>(pl v hv).jP hx;refine⟨_,rfl,p,xs,rfl,.inl hp1,pl1,hlen,fun no H1 s1=>?_,fun yes2 H1 s1=>?_⟩
  ·refine k0 ?_ H1 (sb.then s1);unfold okN;rw[no,qEy]
  refine⟨_,rfl,p,_,rfl,.inl (aY.of (s1 _ _ hp1)),fun l hl=>?_⟩;have u2:=aI.aJ (o:=.lst xs) hl;have hx2:=u2 _ _ (s1 _ _ (aC (H:=H) (a:=x) (o:=.ins OW dx [("many",V.int (xs.length:Int))])));refine⟨_,rfl,x,OW,dx,_,rfl,hx2,T.FW.oc.cl,T.LK,(by show 1<1000;decide),?_⟩;have nl:l≠x:=(aT (s1 _ _ (aC (H:=H) (a:=x) (o:=.ins OW dx [("many",V.int (xs.length:Int))]))) hl).symm;refine k ?_ l _ ?_ ((sb.then (s1.trans u2)).gO _) aC (by rw[aL nl];exact aC)
  ·unfold okN;rw[gC] at yes;rw[yes,yes2];rfl
  ·cases e:H l with
   | none=>rfl
   | some o =>
    have z:=s1 l o (by rw[aL nl];exact e);rw[hl] at z;cases z
def Gx(OW:Addr):Sp:=fun vs H Q _=>∃(a dx l:Addr) (ns:List Int) (g:Nat),vs=[.ref a,.int (g:Int)]/\H a=some (.ins OW dx [("many",.int (ns.length:Int)),("numbers",.ref l)])/\H l=some (.lst (ns.map V.int))/\ns.length<=6/\g<2^ns.length/\∀H',aI H H'->Q (.int (lJ ns g)) H'
theorem Mj:aK ["self","group"] ["self","group"] (aE HP):=by constructor<;>first|rfl|decide +kernel
theorem JK{f1:Addr}{fd1:qBd}(t:Mx K "reckon" "Own.reckon" HP ["self","group"] f fd)(T:T K mg AL LN RU OW PL PA VO MA NE fE fH rR rO rP rA rV rM rN iR iO iP iA iV iM iN fL wR wO wP wA wV wM wN CO iC cH cE cW SE NG NL NT)(D_sum_of_hands:Df P w K mg base cM 5 "sum_of_hands" ["numbers","group"] AV f1 fd1):
  Md P w K mg base 6 ["self","group"] (Gx OW) f:=by
 refine t.rG Mj (fun vs H Q E h=>?_) (fun cdv A outer s H vs Q E hr h=>?_)
 ·obtain⟨a,dx,l,ns,g,rfl,_⟩:=h;rfl
 ·obtain⟨a,dx,l,ns,g,rfl,ha,hl,h6,hg,k⟩:=h;refine⟨_,(aH (aN (bD D_sum_of_hands hr (by decide) (by rfl) (aA (bY (pv 0) rfl) (aA (pv 1) aB))))),?_⟩;exact⟨_,rfl,a,OW,dx,_,_,rfl,ha,T.FW.oc.cl,T.LK,rfl,_,rfl,l,ns,g,rfl,hl,h6,hg,k⟩
theorem CL(D:Md P w K mg base 6 ["self","group"] (Gx OW) rO)(c:RC K fE fH RU OW rO){H:Hp}{a dx l:Addr}{ns:List Int}(ha:H a=some (.ins OW dx [("many",.int (ns.length:Int)),("numbers",.ref l)]))(hl:H l=some (.lst (ns.map V.int)))(h1:1<=ns.length)(h6:ns.length<=6):
  kM P w K mg base fE fH RU H a ns.length (lJ ns) :=
 ⟨OW,dx,rO,_,ha,c,rfl,h1,h6,⟨rfl,rfl,rfl⟩,_,D.imp fun vs H2 Q _ ⟨gr,e,hg,s,q⟩=>⟨a,dx,l,ns,gr,e,s _ _ ha,s _ _ hl,h6,hg,q⟩⟩
def Gy(K:qAb)(NT PL:Addr):Sp:=fun vs H Q E=>∃(x dx p:Addr) (xs:List V),vs=[.ref x,.ref p]/\H x=some (.ins PL dx [])/\H p=some (.lst xs)/\(∀v∈xs,Pl K H v)/\xs.length<=1000 /\
 (iY xs=false->∀H',SameBut x H H'->E (.ref NT) none H') /\
 (iY xs=true->∀(m:Nat) l H',1<=m->m<=6->xs.length=2^m->H l=none->SameBut x H H'->H' x=some (.ins PL dx [("many",.int (m:Int)),("earnings",.ref l)])->H' l=some (.lst xs)->Q .non H')
theorem Ml:aK ["self","table"] ["self","table"] (aE HQ):=by constructor<;>first|rfl|decide +kernel
theorem JL{f1:Addr}{fd1:qBd}(t:Mx K "__init__" "Plain.__init__" HQ ["self","table"] f fd)(T:T K mg AL LN RU OW PL PA VO MA NE fE fH rR rO rP rA rV rM rN iR iO iP iA iV iM iN fL wR wO wP wA wV wM wN CO iC cH cE cW SE NG NL NT)(D_RI:Md P w K mg base 4 ["self","many"] (qS K NL) iR)(D_hands_in:Df P w K mg base (gZ P w) 3 "hands_in" ["table"] (DF K NT) f1 fd1):
  Md P w K mg base 5 ["self","table"] (Gy K NT PL) f:=by
 refine t.BG Ml (fun vs H Q E h=>?_) (fun cdv A outer s H vs Q E hr h=>?_)
 ·obtain⟨x,dx,p,xs,rfl,_⟩:=h;rfl
 ·obtain⟨x,dx,p,xs,rfl,hx,hp,pl,hlen,k0,k⟩:=h;refine⟨_,(aD (bN (oP bA.toPass (by rfl) T.zE T.Iq D_RI hr (by decide) (aA (pv 0) (aA (eK bA.toPass D_hands_in hr (by decide) (by rfl) (aA (pv 1) aB)) aB))))
   (aH (eW (pv 0) (cG dB (by rfl) T.fF fZ (aA (pv 1) aB)) rfl))),?_⟩
  refine⟨_,rfl,_,rfl,p,xs,rfl,hp,pl,hlen,fun no H1 s1=>k0 no H1 (s1.but x),fun m h1 h6 hm yes H1 s1=>?_⟩;have i16:kF 1 6 (.int (m:Int))=true:=by rw[gC,decide_eq_true h1,decide_eq_true h6];rfl
  refine⟨x,PL,dx,_,rfl,s1 _ _ hx,T.FX.oc.cl,T.FX.nm,.int _,fun no=>?_,fun _=>?_⟩
  ·rw[i16] at no;cases no
  have ne:p≠x:=e8 hp hx (by intro z;cases z);have hp1:upd H1 x (.ins PL dx [("many",V.int (m:Int))]) p=some (.lst xs):=by rw[aL ne];exact s1 _ _ hp
  refine⟨_,rfl,p,_,rfl,.inl (aY.of hp1),fun l hl=>?_⟩;have u2:=aI.aJ (o:=.lst xs) hl;have hx2:=u2 _ _ (aC (H:=H1) (a:=x) (o:=.ins PL dx [("many",V.int (m:Int))]));refine⟨_,rfl,x,PL,dx,_,rfl,hx2,T.FX.oc.cl,T.LL,(by show 1<1000;decide),?_⟩;have nl:l≠x:=(aT (aC (H:=H1) (a:=x) (o:=.ins PL dx [("many",V.int (m:Int))])) hl).symm;refine k yes m l _ h1 h6 hm ?_ ((((s1.but x).gO _).then u2).gO _) aC (by rw[aL nl];exact aC);rw[aL nl] at hl;exact s1.free hl
def Gz(PL:Addr):Sp:=fun vs H Q _=>∃(a dx l:Addr) (m:Nat) (ns:List Int) (g:Nat),vs=[.ref a,.int (g:Int)]/\H a=some (.ins PL dx [("many",.int (m:Int)),("earnings",.ref l)])/\H l=some (.lst (ns.map V.int))/\g<ns.length/\∀H',aI H H'->Q (.int (ns.getD g 0)) H'
theorem Mm:aK ["self","group"] ["self","group"] (aE HR):=by constructor<;>first|rfl|decide +kernel
theorem JM(t:Mx K "reckon" "Plain.reckon" HR ["self","group"] f fd)(T:T K mg AL LN RU OW PL PA VO MA NE fE fH rR rO rP rA rV rM rN iR iO iP iA iV iM iN fL wR wO wP wA wV wM wN CO iC cH cE cW SE NG NL NT):Md P w K mg base 1 ["self","group"] (Gz PL) f:=by
 refine t.rG Mm (fun vs H Q E h=>?_) (fun cdv A outer s H vs Q E hr h=>?_)
 ·obtain⟨a,dx,l,m,ns,g,rfl,_⟩:=h;rfl
 ·obtain⟨a,dx,l,m,ns,g,rfl,ha,hl,hg,k⟩:=h;refine⟨_,(aH (aN (a9 bJ (bY (pv 0) rfl) (pv 1) (fun _ _=>rfl)))),?_⟩;have hat:fK (ns.map V.int) (g:Int)=some (.int (ns.getD g 0)):=bO (by rw[qAj,qAs,qAc hg];rfl);exact⟨_,rfl,a,PL,dx,_,_,rfl,ha,T.FX.oc.cl,T.LL,rfl,_,rfl,l,_,_,_,rfl,rfl,aY.of hl,hat,k H (.refl H)⟩
theorem yR(D:Md P w K mg base 1 ["self","group"] (Gz PL) rP)(c:RC K fE fH RU PL rP){H:Hp}{a dx l:Addr}{m:Nat}{ns:List Int}(ha:H a=some (.ins PL dx [("many",.int (m:Int)),("earnings",.ref l)]))(hl:H l=some (.lst (ns.map V.int)))(hn:ns.length=2^m)(h1:1<=m)(h6:m<=6):
  kM P w K mg base fE fH RU H a m (fun g=>ns.getD g 0) :=
 ⟨PL,dx,rP,_,ha,c,rfl,h1,h6,⟨rfl,rfl,rfl⟩,_,(D.up (by decide)).imp fun vs H2 Q _ ⟨gr,e,hg,s,q⟩=>⟨a,dx,l,m,ns,gr,e,s _ _ ha,s _ _ hl,by lia,q⟩⟩
theorem AW(D:Md P w K mg base 1 ["self","group"] Gu rR)(c:RC K fE fH RU RU rR){H:Hp}{a dx:Addr}{m:Nat}(ha:H a=some (.ins RU dx [("many",.int (m:Int))]))(h1:1<=m)(h6:m<=6):
  kM P w K mg base fE fH RU H a m (fun _=>0) :=
 ⟨RU,dx,rR,_,ha,c,rfl,h1,h6,⟨rfl,rfl,rfl⟩,_,(D.up (by decide)).imp fun vs H2 Q _ ⟨gr,e,hg,s,q⟩=>⟨_,_,e,q H2 (.refl _)⟩⟩
def AX(K:qAb)(NL PA:Addr):Sp:=fun vs H Q E=>∃(x dx p:Addr) (v:V) (as:List Addr),vs=[.ref x,v,.ref p]/\H x=some (.ins PA dx [])/\Pl K H v/\H p=some (.lst (as.map V.ref))/\yQ K H as/\as.length<64 /\
 (kF 1 6 v=false->∀H',SameBut x H H'->E (.ref NL) none H')/\∀m:Int,v = .int m->kF 1 6 v=true ->
  (qQ m (as.map (fG H))=false->∀H',SameBut x H H'->E (.ref NL) none H') /\
  (qQ m (as.map (fG H))=true->∀(l:Addr) (bs:List Addr) (H':Hp),H l=none->bs.Perm as->bs.Pairwise (fun a b=>uW (jY H a) (jY H b))->SameBut x H H'->H' x=some (.ins PA dx [("many",v),("pairs",.ref l)])->H' l=some (.lst (bs.map V.ref))->Q .non H')
theorem JN:aK ["self","many","pairs"] ["self","many","pairs"] (aE yG):=by constructor<;>first|rfl|decide +kernel
theorem GA{f1:Addr}{fd1:qBd}(t:Mx K "__init__" "Pairs.__init__" yG ["self","many","pairs"] f fd)(T:T K mg AL LN RU OW PL PA VO MA NE fE fH rR rO rP rA rV rM rN iR iO iP iA iV iM iN fL wR wO wP wA wV wM wN CO iC cH cE cW SE NG NL NT)(D_RI:Md P w K mg base 4 ["self","many"] (qS K NL) iR)(D_sorted_pairs:Df P w K mg base (gZ P w) 4 "sorted_pairs" ["many","pairs"] (vY K NL) f1 fd1):
  Md P w K mg base 5 ["self","many","pairs"] (AX K NL PA) f:=by
 refine t.BG JN (fun vs H Q E h=>?_) (fun cdv A outer s H vs Q E hr h=>?_)
 ·obtain⟨x,dx,p,v,as,rfl,_⟩:=h;rfl
 ·obtain⟨x,dx,p,v,as,rfl,hx,pl,hp,ht,h64,k0,k⟩:=h;refine⟨_,(aD (bN (oP bA.toPass (by rfl) T.zE T.Iq D_RI hr (by decide) (aA (pv 0) (aA (pv 1) aB))))
   (aH (eW (pv 0) (eK bA.toPass D_sorted_pairs hr (by decide) (by rfl) (aA (pv 1) (aA (pv 2) aB))) rfl))),?_⟩
  refine⟨_,rfl,_,rfl,x,PA,dx,v,rfl,hx,T.FY.oc.cl,T.FY.nm,pl,fun no=>k0 no H ((aI.refl H).but x),fun yes=>?_⟩;obtain⟨m,rfl⟩:∃m,v = .int m:=by
   cases v <;> first | (exact⟨_,rfl⟩) | (exact absurd yes qAl)
  obtain⟨k1,k2⟩:=k m rfl yes;have at_:∀b o,(∀C dx fs,o≠HO.ins C dx fs)->H b=some o->upd H x (.ins PA dx [("many",V.int m)]) b=some o:=fun b o n e=>by
   rw[aL]
   ·exact e
   ·rintro rfl;rw[hx] at e;exact n _ _ _ (Option.some.inj e).symm
  have hp1:=at_ _ _ (by intro _ _ _ z;cases z) hp;have ht1:yQ K (upd H x (.ins PA dx [("many",V.int m)])) as:=fun a ha=>by
   obtain⟨xs,h1,h2,h3⟩:=ht a ha;exact⟨xs,at_ _ _ (by intro _ _ _ z;cases z) h1,fun v hv=>(h2 v hv).jP hx,h3⟩
  have eqm:as.map (fG (upd H x (.ins PA dx [("many",V.int m)])))=as.map (fG H):=ht.eq fun a xs e=>at_ _ _ (by intro _ _ _ z;cases z) e;have sb:SameBut x H (upd H x (.ins PA dx [("many",V.int m)])):=((aI.refl H).but x).gO _;refine⟨_,rfl,_,rfl,m,p,as,rfl,hp1,ht1,h64,fun no H1 s1=>?_,fun ok l bs H1 hl hb hpw s1 h1=>?_⟩
  ·rw[eqm] at no;exact k1 no H1 (sb.then s1)
  rw[eqm] at ok;have hx1:=s1 _ _ (aC (H:=H) (a:=x) (o:=.ins PA dx [("many",V.int m)]));have nl:l≠x:=(aT (aC (H:=H) (a:=x) (o:=.ins PA dx [("many",V.int m)])) hl).symm;refine⟨_,rfl,x,PA,dx,_,rfl,hx1,T.FY.oc.cl,T.LM,(by show 1<1000;decide),?_⟩;have kyU:∀a∈as,jY (upd H x (.ins PA dx [("many",V.int m)])) a=jY H a:=fun a ha=>by
   obtain⟨xs,h1,_⟩:=ht a ha;unfold jY;rw[dF h1,dF (at_ _ _ (by intro _ _ _ z;cases z) h1)]
  refine k2 ok l bs _ ?_ hb (hpw.imp_of_mem fun {a b} ha hc z=>by rw[<- kyU a (hb.mem_iff.mp ha),<- kyU b (hb.mem_iff.mp hc)];exact z) ((sb.then s1).gO _) aC (by rw[aL nl];exact h1);rw[aL nl] at hl;exact hl
def pNum(t:List Int)(g:Nat):Option Int:=if both g (t.getD 0 0).toNat (t.getD 1 0).toNat=true then some (t.getD 2 0) else none
def qT(H:Hp)(bs:List Addr)(g:Nat):Int:=(bs.filterMap fun b=>pNum (fJ H b) g).sum
def mW(H:Hp)(b:Addr):Prop:=∃(i j:Nat) (n:Int),H b=some (.tup [.int (i:Int),.int (j:Int),.int n])/\i<6/\j<6
theorem mW.same{H H':Hp}{b:Addr}(h:mW H b)(s:aI H H'):mW H' b:=let ⟨i,j,n,e,z⟩:=h;⟨i,j,n,s _ _ e,z⟩
theorem yS{H H':Hp}{bs:List Addr}(h:∀b∈bs,mW H b)(s:∀b∈bs,∀o,H b=some o->H' b=some o)(g:Nat):qT H' bs g=qT H bs g:=by
 unfold qT;congr 1;refine dD fun b hb=>?_;obtain⟨i,j,n,e,_⟩:=h b hb;rw[fU (ns:=[(i:Int),j,n]) e,fU (ns:=[(i:Int),j,n]) (s b hb _ e)]
def AY(PA:Addr):Sp:=fun vs H Q _=>∃(a dx l:Addr) (m:Int) (bs:List Addr) (g:Nat),vs=[.ref a,.int (g:Int)]/\H a=some (.ins PA dx [("many",.int m),("pairs",.ref l)])/\H l=some (.lst (bs.map V.ref))/\bs.length<=1000/\(∀b∈bs,mW H b)/\g<64/\∀H',aI H H'->Q (.int (qT H bs g)) H'
theorem JO:aK ["self","group"] ["self","group"] (aE yH):=by constructor<;>first|rfl|decide +kernel
theorem GB{f1:Addr}{fd1:qBd}(t:Mx K "reckon" "Pairs.reckon" yH ["self","group"] f fd)(T:T K mg AL LN RU OW PL PA VO MA NE fE fH rR rO rP rA rV rM rN iR iO iP iA iV iM iN fL wR wO wP wA wV wM wN CO iC cH cE cW SE NG NL NT)(D_has_both:Df P w K mg base cM 1 "has_both" ["group","one","other"] Gr f1 fd1):
  Md P w K mg base 2 ["self","group"] (AY PA) f:=by
 refine t.rG JO (fun vs H Q E h=>?_) (fun cdv A outer s H vs Q E hr h=>?_)
 ·obtain⟨a,dx,l,m,bs,g,rfl,_⟩:=h;rfl
 ·obtain⟨a,dx,l,m,bs,g,rfl,ha,hl,hlen,hb,hg,k⟩:=h;refine⟨_,(aH (aN (aO (eL rfl) (by rfl) T.gG gP (aA (bM (NB:=["one","other","number","group"]) (pick:=[none,none,none,some 1]) (bR (by with_unfolding_all rfl) (by exact(And.intro rfl trivial)) rfl (by decide +kernel) (by decide +kernel) (by rfl) (by rfl)) rfl
     (bL (bY (pv 0) rfl)) (fun _ _ _=>(show PG _ _ (pS K 3 (dO (bE 0) (dO (bE 1) (dO (bE 2) pR)))) from fB rfl (bB (aP (i:=0) (show(["one","other","number","group"]:List Str).Nodup from by decide +kernel) rfl cK) (bB (aP (i:=1) (show(["one","other","number","group"]:List Str).Nodup from by decide +kernel) rfl cK) (bB (aP (i:=2) (show(["one","other","number","group"]:List Str).Nodup from by decide +kernel) rfl cK) dZ)))))
     (fun _ _ _=>gN (cY (bD D_has_both hr (by decide) (by rfl) (aA (pv 3) (aA (pv 0) (aA (pv 1) aB)))))) (fun _ _ _=>(pv 2))) aB)))),?_⟩
  refine⟨_,rfl,a,PA,dx,_,_,rfl,ha,T.FY.oc.cl,T.LM,rfl,l,rfl,⟨_,aY.of hl⟩,?_⟩;refine iU (xs:=bs.map V.ref) (fun σ'=>∃o0 o1 o2:Option V,σ'=[o0,o1,o2,some (.int (g:Int))]) (fun _ x=>match x with | .ref b=>(pNum (fJ H b) g).map V.int | _=>none) ⟨_,_,_,rfl⟩ (aY.of hl) (by rw[qAa];exact qBb (aQ hlen)) (fun i x σ1 H2 kk kk0 hσ s2 hx h1 h2=>?_) fun D H2 hD s2 hd=>?_
  ·obtain⟨o0,o1,o2,rfl⟩:=hσ;obtain⟨b,hbm,rfl⟩:=List.mem_map.mp (qAu hx);obtain⟨u,v,n,e,hu,hv⟩:=hb b hbm;have et:pNum (fJ H b) g=if both g u v=true then some n else none:=by rw[fU (ns:=[(u:Int),v,n]) e];rfl
   refine⟨b,_,rfl,dG.of (s2 _ _ e),rfl,_,_,rfl,_,_,rfl,_,_,rfl,rfl,?_⟩;refine⟨_,rfl,_,rfl,_,rfl,g,u,v,rfl,hg,hu,hv,_,rfl,?_⟩;cases eb:both g u v with
   | true=>exact cT ⟨_,rfl,h1 _ _ ⟨_,_,_,rfl⟩ (by show(pNum (fJ H b) g).map V.int=_;rw[et,eb];rfl) _ (.refl _)⟩
   | false=>exact bG (h2 _ ⟨_,_,_,rfl⟩ (by show(pNum (fJ H b) g).map V.int=_;rw[et,eb];rfl) _ (.refl _))
  ·have ed:H2 D=some (.lst ((bs.filterMap fun b=>pNum (fJ H b) g).map V.int)):=by
    rw[hd,cJ,qCn,qKo];rfl
   refine⟨D,_,rfl,.inl (aY.of ed),k H2 s2⟩
theorem yT(D:Md P w K mg base 2 ["self","group"] (AY PA) rA)(c:RC K fE fH RU PA rA){H:Hp}{a dx l:Addr}{m:Nat}{bs:List Addr}(ha:H a=some (.ins PA dx [("many",.int (m:Int)),("pairs",.ref l)]))(hl:H l=some (.lst (bs.map V.ref)))(hlen:bs.length<=1000)(hb:∀b∈bs,mW H b)(h1:1<=m)(h6:m<=6):
  kM P w K mg base fE fH RU H a m (qT H bs) :=
 ⟨PA,dx,rA,_,ha,c,rfl,h1,h6,⟨rfl,rfl,rfl⟩,_,(D.up (by decide)).imp fun vs H2 Q _ ⟨gr,e,hg,s,q⟩=>⟨a,dx,l,_,bs,gr,e,s _ _ ha,s _ _ hl,hlen,fun b hb'=>(hb b hb').same s,qAo hg (FU h6),by
  rw[yS hb fun b _ o e=>s b o e];exact q⟩⟩
def CM(vq vp:V)(xs:List V):Bool:=okN xs&&hX vq&&hX vp&&(match vq with | .int q=>decide (1<=q) | _=>false)
def GC(K:qAb)(NL VO:Addr):Sp:=fun vs H Q E=>∃(x dx p:Addr) (vq vp:V) (xs:List V),vs=[.ref x,vq,vp,.ref p]/\H x=some (.ins VO dx [])/\Pl K H vq/\Pl K H vp/\H p=some (.lst xs)/\(∀v∈xs,Pl K H v)/\xs.length<=1000 /\
 (CM vq vp xs=false->∀H',SameBut x H H'->E (.ref NL) none H') /\
 (CM vq vp xs=true->∀l H',H l=none->SameBut x H H'->H' x=some (.ins VO dx [("many",.int (xs.length:Int)),("quota",vq),("prize",vp),("weights",.ref l)])->H' l=some (.lst xs)->Q .non H')
theorem Mn:aK ["self","quota","prize","weights"] ["self","quota","prize","weights"] (aE HS):=by constructor<;>first|rfl|decide +kernel
theorem JP{f1:Addr}{fd1:qBd}(t:Mx K "__init__" "Votes.__init__" HS ["self","quota","prize","weights"] f fd)(T:T K mg AL LN RU OW PL PA VO MA NE fE fH rR rO rP rA rV rM rN iR iO iP iA iV iM iN fL wR wO wP wA wV wM wN CO iC cH cE cW SE NG NL NT)(D_RI:Md P w K mg base 4 ["self","many"] (qS K NL) iR)(D_check_numbers:Df P w K mg base (gZ P w) 2 "check_numbers" ["things"] (sM K NL) f1 fd1):
  Md P w K mg base 5 ["self","quota","prize","weights"] (GC K NL VO) f:=by
 refine t.BG Mn (fun vs H Q E h=>?_) (fun cdv A outer s H vs Q E hr h=>?_)
 ·obtain⟨x,dx,p,vq,vp,xs,rfl,_⟩:=h;rfl
 ·obtain⟨x,dx,p,vq,vp,xs,rfl,hx,plq,plp,hp,pl,hlen,k0,k⟩:=h;refine⟨_,(aD (bN (oP bA.toPass (by rfl) T.zE T.Iq D_RI hr (by decide) (aA (pv 0) (aA (aO aZ (by rfl) T.cN cC (aA (pv 3) aB)) aB))))
   (aD (bN (eK bA.toPass D_check_numbers hr (by decide) (by rfl) (aA (bZ (aA (pv 1) (aA (pv 2) aB))) aB)))
   (aD (bN (eK bA.toPass D_check_numbers hr (by decide) (by rfl) (aA (pv 3) aB)))
   (aD (bK (aS jM (pv 1) aG (aV _)) (aH (dH bA rfl (by rfl) T.yM T.yN (aA aU aB))) aX)
   (aD (eW (pv 0) (pv 1) rfl)
   (aD (eW (pv 0) (pv 2) rfl)
   (aH (eW (pv 0) (cG dB (by rfl) T.fF fZ (aA (pv 3) aB)) rfl)))))))),?_⟩
  refine⟨_,rfl,_,rfl,p,_,rfl,.inl (aY.of hp),x,VO,dx,_,rfl,hx,T.yL.oc.cl,T.yL.nm,.int _,fun no=>?_,fun yes=>?_⟩
  ·refine k0 ?_ H ((aI.refl H).but x);unfold CM okN;rw[gC] at no;rw[no];rfl
  rw[gC] at yes;have ne:p≠x:=e8 hp hx (by intro z;cases z);have hp1:upd H x (.ins VO dx [("many",V.int (xs.length:Int))]) p=some (.lst xs):=by rw[aL ne];exact hp
  have hx1:upd H x (.ins VO dx [("many",V.int (xs.length:Int))]) x=some (.ins VO dx [("many",V.int (xs.length:Int))]):=aC;have sb:SameBut x H (upd H x (.ins VO dx [("many",V.int (xs.length:Int))])):=((aI.refl H).but x).gO _;have pl1:∀v∈xs,Pl K (upd H x (.ins VO dx [("many",V.int (xs.length:Int))])) v:=fun v hv=>(pl v hv).jP hx;have plq1:Pl K (upd H x (.ins VO dx [("many",V.int (xs.length:Int))])) vq:=plq.jP hx;have plp1:Pl K (upd H x (.ins VO dx [("many",V.int (xs.length:Int))])) vp:=plp.jP hx;generalize upd H x (.ins VO dx [("many",V.int (xs.length:Int))])=H0 at hp1 hx1 sb pl1 plq1 plp1|-;refine⟨_,rfl,_,rfl,zD,fun c hc=>?_⟩;have u1:=aI.aJ (o:=.lst [vq,vp]) hc;refine⟨c,_,rfl,.inl aC,fun v hv=>?_,by show 2<=1000;decide,fun no H1 s1=>?_,fun yes2 H1 s1=>?_⟩
  ·simp only[qDb,qBq,or_false] at hv;rcases hv with rfl | rfl
   ·exact plq1.same u1
   ·exact plp1.same u1
  ·refine k0 ?_ H1 (sb.then (u1.trans s1));have z:(hX vq&&(hX vp&&true))=false:=no;unfold CM;rw[qLw] at z;rw[Bool.and_assoc (okN xs),z,qEy,qEx]
  have z:(hX vq&&(hX vp&&true))=true:=yes2;rw[qLw,qAr] at z;have t1:=u1.trans s1;refine⟨_,rfl,p,xs,rfl,.inl (t1 _ _ hp1),fun v hv=>(pl1 v hv).same t1,hlen,fun no H2 s2=>?_,fun yes3 H2 s2=>?_⟩
  ·refine k0 ?_ H2 (sb.then (t1.trans s2));unfold CM okN;rw[no,qEy,qEx,qEx,qEx]
  have t2:=t1.trans s2;obtain⟨q,rfl⟩:∃q,vq = .int q:=by
   cases vq <;> first | (exact⟨_,rfl⟩) | (exact absurd z.1 qAl)
  refine⟨_,rfl,_,_,rfl,rfl,_,rfl,?_⟩;cases hq:decide (q<1) with
  | true =>
   refine cT ⟨nK,k0 ?_ H2 (sb.then t2)⟩;have:¬1<=q:=by have:=of_decide_eq_true hq;lia
   unfold CM;show(_&&decide (1<=q))=false;rw[decide_eq_false this,qEy]
  | false =>
   have hq1:1<=q:=by have:=of_decide_eq_false hq;lia
   refine bG ?_;have hx2:=t2 _ _ hx1;refine⟨_,rfl,_,rfl,x,VO,dx,_,rfl,hx2,T.yL.oc.cl,T.LO,(by show 1<1000;decide),?_⟩;refine⟨_,rfl,_,rfl,x,VO,dx,_,rfl,aC,T.yL.oc.cl,T.FZ,(by show 2<1000;decide),?_⟩;have ne2:p≠x:=ne;have hp3:upd (upd H2 x (.ins VO dx [("many",V.int (xs.length:Int)),("quota",.int q)])) x (.ins VO dx [("many",V.int (xs.length:Int)),("quota",.int q),("prize",vp)]) p=some (.lst xs):=by rw[aL ne2,aL ne2];exact t2 _ _ hp1
   refine⟨_,rfl,p,_,rfl,.inl (aY.of hp3),fun l hl=>?_⟩;have hx3:upd (upd H2 x (.ins VO dx [("many",V.int (xs.length:Int)),("quota",.int q)])) x (.ins VO dx [("many",V.int (xs.length:Int)),("quota",.int q),("prize",vp)]) x=some (.ins VO dx [("many",V.int (xs.length:Int)),("quota",.int q),("prize",vp)]):=aC;have u4:=aI.aJ (o:=.lst xs) hl;have nl:l≠x:=(aT hx3 hl).symm;refine⟨_,rfl,x,VO,dx,_,rfl,u4 _ _ hx3,T.yL.oc.cl,T.Ga,(by show 3<1000;decide),?_⟩;refine k ?_ l _ ?_ (((((sb.then t2).gO _).gO _).then u4).gO _) aC (by rw[aL nl];exact aC)
   ·unfold CM okN;show(_&&_&&decide (1<=q))=true;rw[yes,yes3,z.2,decide_eq_true hq1];rfl
   ·rw[aL nl,aL nl] at hl;cases e:H l with
    | none=>rfl
    | some o =>
     have z:=(sb.then t2) l o nl e;rw[hl] at z;cases z
def yU(q pz:Int)(ws:List Int)(g:Nat):Int:=if q<=lJ ws g then pz else 0
def GD(VO:Addr):Sp:=fun vs H Q _=>∃(a dx l:Addr) (q pz:Int) (ws:List Int) (g:Nat),vs=[.ref a,.int (g:Int)]/\H a=some (.ins VO dx [("many",.int (ws.length:Int)),("quota",.int q),("prize",.int pz),("weights",.ref l)])/\H l=some (.lst (ws.map V.int))/\ws.length<=6/\g<2^ws.length/\∀H',aI H H'->Q (.int (yU q pz ws g)) H'
theorem Mo:aK ["self","group"] ["self","group"] (aE HU):=by constructor<;>first|rfl|decide +kernel
theorem JQ{f1:Addr}{fd1:qBd}(t:Mx K "reckon" "Votes.reckon" HU ["self","group"] f fd)(T:T K mg AL LN RU OW PL PA VO MA NE fE fH rR rO rP rA rV rM rN iR iO iP iA iV iM iN fL wR wO wP wA wV wM wN CO iC cH cE cW SE NG NL NT)(D_sum_of_hands:Df P w K mg base cM 5 "sum_of_hands" ["numbers","group"] AV f1 fd1):
  Md P w K mg base 6 ["self","group"] (GD VO) f:=by
 refine t.rG Mo (fun vs H Q E h=>?_) (fun cdv A outer s H vs Q E hr h=>?_)
 ·obtain⟨a,dx,l,q,pz,ws,g,rfl,_⟩:=h;rfl
 ·obtain⟨a,dx,l,q,pz,ws,g,rfl,ha,hl,h6,hg,k⟩:=h;refine⟨_,(aH (aN (rT (aS zM (bD D_sum_of_hands hr (by decide) (by rfl) (aA (bY (pv 0) rfl) (aA (pv 1) aB))) (bY (pv 0) rfl) (aV _)) (bY (pv 0) rfl) aG))),?_⟩;refine⟨_,rfl,a,VO,dx,_,_,rfl,ha,T.yL.oc.cl,T.Ga,rfl,_,rfl,l,ws,g,rfl,hl,h6,hg,fun H1 s1=>?_⟩;refine⟨_,rfl,a,VO,dx,_,_,rfl,s1 _ _ ha,T.yL.oc.cl,T.LO,rfl,_,_,rfl,rfl,_,rfl,?_⟩;have z:=k H1 s1;unfold yU at z;refine dE (fun h1=>?_) (fun h1=>?_)
  ·rw[if_pos (of_decide_eq_true h1)] at z;exact⟨_,rfl,a,VO,dx,_,_,rfl,s1 _ _ ha,T.yL.oc.cl,T.FZ,rfl,z⟩
  ·rw[if_neg (fun q=>h1 (decide_eq_true q))] at z;exact z
theorem yV(D:Md P w K mg base 6 ["self","group"] (GD VO) rV)(c:RC K fE fH RU VO rV){H:Hp}{a dx l:Addr}{q pz:Int}{ws:List Int}(ha:H a=some (.ins VO dx [("many",.int (ws.length:Int)),("quota",.int q),("prize",.int pz),("weights",.ref l)]))(hl:H l=some (.lst (ws.map V.int)))(h1:1<=ws.length)(h6:ws.length<=6):
  kM P w K mg base fE fH RU H a ws.length (yU q pz ws) :=
 ⟨VO,dx,rV,_,ha,c,rfl,h1,h6,⟨rfl,rfl,rfl⟩,_,D.imp fun vs H2 Q _ ⟨gr,e,hg,s,z⟩=>⟨a,dx,l,q,pz,ws,gr,e,s _ _ ha,s _ _ hl,h6,hg,z⟩⟩
def dN(m:Nat)(H:Hp)(bs:List Addr):Prop:=(∀b∈bs,∃(u v:Nat) (n:Int),H b=some (.tup [.int (u:Int),.int (v:Int),.int n])/\u<v/\v<m)/\(bs.map fun b=>fM (fG H b)).Nodup/\bs.length<=15
theorem dN.same{m:Nat}{H H':Hp}{bs:List Addr}(h:dN m H bs)(s:∀b∈bs,∀o,H b=some o->H' b=some o):dN m H' bs:=by
 refine⟨fun b hb=>?_,?_,h.2.2⟩
 ·obtain⟨u,v,n,e,z⟩:=h.1 b hb;exact⟨u,v,n,s b hb _ e,z⟩
 ·have e:(bs.map fun b=>fM (fG H' b))=bs.map fun b=>fM (fG H b):=qFi fun b hb=>by
   obtain⟨u,v,n,e,_⟩:=h.1 b hb;rw[dF e,dF (s b hb _ e)]
  rw[e];exact h.2.1
theorem dN.v3{m:Nat}{H:Hp}{bs cs:List Addr}(h:dN m H bs)(p:cs.Perm bs):dN m H cs :=
 ⟨fun b hb=>h.1 b (p.mem_iff.mp hb),((p.map _).nodup_iff).mpr h.2.1,by rw[p.length_eq];exact h.2.2⟩
theorem dN.pair{m:Nat}{H:Hp}{bs:List Addr}(h:dN m H bs)(h6:m<=6):∀b∈bs,mW H b:=fun b hb=>by
 obtain⟨u,v,n,e,z⟩:=h.1 b hb;exact⟨u,v,n,e,by lia,by lia⟩
theorem pG{m:Int}:∀{xss:List (List V)}{seen:List (Int×Int)},(∀xs∈xss,yP m xs=true)->(xss.map fM).Nodup->(∀k∈xss.map fM,seen.contains k=false)->fV m seen xss=true
 | [],_,_,_,_=>rfl
 | xs::r,seen,h,hn,hs=>by
  show(yP m xs && !(seen.contains (fM xs))&&fV m (seen++[fM xs]) r)=true;rw[qBi,qLh] at hn;have ih:fV m (seen++[fM xs]) r=true:=pG (fun x hx=>h x (qBf _ hx)) hn.2 fun k hk=>by
   have a:=hs k (by rw[qBi];exact qBf _ hk);have ne:k≠fM xs:=fun z=>hn.1 (z▸hk);rw[Bool.eq_false_iff] at a|-;intro z;rw[List.contains_iff_mem,qGp] at z;rcases z with z | z
   ·exact a (List.contains_iff_mem.mpr z)
   ·exact ne (by simpa using z)
  rw[h xs (by simp),hs (fM xs) (by simp),ih];rfl
theorem dN.ok{m:Nat}{H:Hp}{bs:List Addr}(h:dN m H bs):qQ (m:Int) (bs.map (fG H))=true:=by
 refine pG (fun xs hx=>?_) (by rw[qBt];exact h.2.1) (fun k _=>rfl);obtain⟨b,hb,rfl⟩:=List.mem_map.mp hx;obtain⟨u,v,n,e,z1,z2⟩:=h.1 b hb;rw[dF e];show(decide ((0:Int)<=u)&&decide ((u:Int)<v)&&decide ((v:Int)<m))=true;rw[decide_eq_true (by lia),decide_eq_true (by lia),decide_eq_true (by lia)];rfl
theorem dN.g7{K:qAb}{m:Nat}{H:Hp}{bs:List Addr}(h:dN m H bs):yQ K H bs:=fun b hb=>by
 obtain⟨u,v,n,e,_⟩:=h.1 b hb;refine⟨_,e,fun x hx=>?_,by show 3<=1000;decide⟩;simp only[qDb,qBq,or_false] at hx;rcases hx with rfl | rfl | rfl
 ·exact .int _
 ·exact .int _
 ·exact .int _
abbrev P3:=Nat×Nat×Int
abbrev E2:=Int×List (Nat×Nat)
def lo(g:Nat):Nat:=((eG g).headD 0).toNat
def aW(g i:Nat):Bool:=decide (g/2^i%2=1)
def Pw(m:Nat)(ps:List P3):Prop:=(∀p∈ps,p.1<p.2.1/\p.2.1<m)/\(ps.map fun p=>(p.1,p.2.1)).Nodup
theorem lo_facts:∀g:_root_.Fin 64,g.1≠0->lo g.1<6/\aW g.1 (lo g.1)=true/\(∀k:_root_.Fin 6,k.1<lo g.1->aW g.1 k.1=false)/\eG g.1=(lo g.1:Int)::(eG g.1).tail/\(eG g.1).length<=6:=by decide +kernel
theorem v7:∀(g:_root_.Fin 64) (i k:_root_.Fin 6),aW g.1 i.1=true->2^i.1<=g.1/\aW (g.1-2^i.1) k.1=(aW g.1 k.1&&decide (k.1≠i.1)):=by decide +kernel
theorem yW{g i k:Nat}(hg:g<64)(hi:i<6)(hk:k<6)(h:aW g i=true):aW (g-2^i) k=(aW g k&&decide (k≠i)):=(v7 ⟨g,hg⟩ ⟨i,hi⟩ ⟨k,hk⟩ h).2
theorem uY{g i:Nat}(hg:g<64)(hi:i<6)(h:aW g i=true):2^i<=g:=(v7 ⟨g,hg⟩ ⟨i,hi⟩ ⟨i,hi⟩ h).1
theorem JR{g i j k:Nat}(hg:g<64)(hi:i<6)(hj:j<6)(hk:k<6)(h:aW g i=true)(h2:aW g j=true)(ne:j≠i):aW (g-2^i-2^j) k=(aW g k&&decide (k≠i)&&decide (k≠j)):=by
 have z:aW (g-2^i) j=true:=by rw[yW hg hi hj h,h2,decide_eq_true ne];rfl
 rw[yW (qBo (qGu _ _) hg) hj hk z,yW hg hi hk h]
def eT(B:Nat->E2)(g:Nat)(f:E2)(p:P3):E2:=if p.1=lo g/\both g p.1 p.2.1=true then (if p.2.2+(B (g-2^p.1-2^p.2.1)).1>f.1 then (p.2.2+(B (g-2^p.1-2^p.2.1)).1,(p.1,p.2.1)::(B (g-2^p.1-2^p.2.1)).2) else f) else f
def mX(B:Nat->E2)(ps:List P3)(g:Nat):E2:=ps.foldl (eT B g) (B (g-2^lo g))
def eU(ps:List P3):Nat->List E2
 | 0=>[(0,[])]
 | n+1=>eU ps n++[mX (fun i=>(eU ps n).getD i (0,[])) ps (n+1)]
def cA(ps:List P3)(g:Nat):E2:=(eU ps g).getD g (0,[])
theorem fN(ps:List P3):∀n,(eU ps n).length=n+1
 | 0=>rfl
 | n+1=>by rw[eU,qAn,fN ps n];rfl
theorem sN(ps:List P3)(n:Nat):(eU ps n)[n]?=some (cA ps n):=by
 have h:n<(eU ps n).length:=by rw[fN];lia
 unfold cA;rw[qAs,qAc h];rfl
theorem kP(ps:List P3):∀{i n:Nat},i<=n->(eU ps n)[i]?=some (cA ps i)
 | i,0,h=>by
  have:i=0:=by lia
  subst this;rfl
 | i,n+1,h=>by
  rcases qBh n i with z | z
  ·have:i=n+1:=by lia
   subst this;exact sN ps _
  ·rw[eU,qCa (by rw[fN];lia)];exact kP ps z
theorem sO{B B':Nat->E2}{ps:List P3}{n:Nat}(h:∀i,i<=n->B i=B' i):mX B ps (n+1)=mX B' ps (n+1):=by
 have p1:∀k,1<=2^k:=fun k=>qFr;have e:eT B (n+1)=eT B' (n+1):=by
  funext f p
  unfold eT;rw[h (n+1-2^p.1-2^p.2.1) (by have:=p1 p.1;generalize 2^p.1=x at *;generalize 2^p.2.1=y at *;lia)]
 unfold mX;rw[e,h (n+1-2^lo (n+1)) (by have:=p1 (lo (n+1));generalize 2^lo (n+1)=x at *;lia)]
theorem mY(ps:List P3)(n:Nat):cA ps (n+1)=mX (fun i=>(eU ps n).getD i (0,[])) ps (n+1):=by
 have z:=sN ps (n+1);rw[eU,qBy (by rw[fN];exact qAi _),fN,qHr] at z;exact(Option.some.inj z).symm
theorem pH(ps:List P3){g:Nat}(h:g≠0):cA ps g=mX (cA ps) ps g:=by
 obtain⟨n,rfl⟩:∃n,g=n+1:=⟨g-1,by lia⟩;rw[mY];refine sO fun i hi=>?_;rw[qAs,kP ps hi];rfl
theorem pI{α β:Type}{f:β->α->β}{Q:β->Prop}:∀{xs:List α}{b:β},Q b->(∀b x,x∈xs->Q b->Q (f b x))->Q (xs.foldl f b)
 | [],_,h,_=>h
 | x::xs,b,h,st=>pI (xs:=xs) (st b x (by simp) h) fun b y hy=>st b y (qBf _ hy)
inductive Good (ps:List P3):Nat->Nat->Int->List (Nat×Nat)->Prop
 | nil (b g:Nat):Good ps b g 0 []
 | cons {b g i j:Nat}{n s:Int}{r:List (Nat×Nat)}:b<=i->i<j->j<6->aW g i=true->aW g j=true->(i,j,n)∈ps->Good ps (i+1) (g-2^i-2^j) s r->Good ps b g (n+s) ((i,j)::r)
theorem Good.raise{ps:List P3}{b g0:Nat}{s:Int}{r:List (Nat×Nat)}(h:Good ps b g0 s r):∀(g l:Nat),g<64->l<6->aW g l=true->g0=g-2^l->Good ps b g s r:=by
 induction h with
 | nil b g0=>exact fun g l _ _ _ _=>.nil b g
 | @cons b g0 i j n s r h1 h2 h3 h4 h5 h6 _ ih =>
  intro g l hg hl hb e;subst e;rw[yW hg hl (by lia) hb,qAr,decide_eq_true_iff] at h4;rw[yW hg hl (by lia) hb,qAr,decide_eq_true_iff] at h5;refine .cons h1 h2 h3 h4.1 h5.1 h6 (ih _ l (qBo (qAt (qGu _ _) (qGu _ _)) hg) hl ?_ ?_)
  ·have n1:l≠i:=fun z=>h4.2 z.symm;have n2:l≠j:=fun z=>h5.2 z.symm;rw[JR hg (by lia) h3 hl h4.1 h5.1 (by lia),hb,decide_eq_true n1,decide_eq_true n2];rfl
  ·generalize 2^i=x;generalize 2^j=y;generalize 2^l=z;lia
theorem Good.lift{ps:List P3}{b b' g:Nat}{s:Int}{r:List (Nat×Nat)}(h:Good ps b g s r)(z:∀k,k<b'->k<6->aW g k=false):Good ps b' g s r:=by
 cases h with
 | nil=>exact .nil _ _
 | @cons _ _ i j n s r h1 h2 h3 h4 h5 h6 h7 =>
  refine .cons (qLf fun q=>?_) h2 h3 h4 h5 h6 h7;rw[z i q (by lia)] at h4;exact qAl h4
theorem yX{ps:List P3}(hp:∀p∈ps,p.1<p.2.1/\p.2.1<6):∀g,g<64->Good ps 0 g (cA ps g).1 (cA ps g).2:=by
 intro g;induction g using qLj with
 | ind g ih =>
  intro hg;rcases qEb g with rfl | pos
  ·exact .nil _ _
  have ne:g≠0:=by lia
  obtain⟨l6,lb,lmin,_⟩:=lo_facts ⟨g,hg⟩ ne;have l6:lo g<6:=l6;have lb:aW g (lo g)=true:=lb;have p1:∀k,1<=2^k:=fun k=>qFr;rw[pH ps ne];unfold mX;refine pI (Q:=fun f:E2=>Good ps 0 g f.1 f.2) ?_ fun f p hm hf=>?_
  ·have q1:=p1 (lo g);exact(ih (g-2^lo g) (by generalize 2^lo g=x at *;lia) (by generalize 2^lo g=x at *;lia)).raise g (lo g) hg l6 lb rfl
  ·unfold eT;split
   ·rename_i c;split
    ·obtain⟨i,j,n⟩:=p;obtain⟨c1,c2⟩:=c;have c1:i=lo g:=c1;obtain⟨h1,h2⟩:=hp _ hm;have h1:i<j:=h1;have h2:j<6:=h2;have c2:(aW g i&&aW g j)=true:=c2;rw[qAr] at c2;have q1:=p1 i;refine .cons (qBm _) h1 h2 c2.1 c2.2 hm ((ih (g-2^i-2^j) ?_ ?_).lift fun k hk k6=>?_)
     ·show g-2^i-2^j<g;generalize 2^i=x at *;generalize 2^j=y at *;lia
     ·show g-2^i-2^j<64;generalize 2^i=x at *;generalize 2^j=y at *;lia
     ·rw[JR hg (by lia) h2 k6 c2.1 c2.2 (by lia)];rcases qBh k (lo g) with z | z
      ·have y:aW g k=false:=lmin ⟨k,k6⟩ z;rw[y];rfl
      ·have:k=i:=by lia
       rw[decide_eq_false (fun q=>q this),qEy];rfl
    ·exact hf
   ·exact hf
inductive A2 {α:Type} (R:Addr->α->Prop):List Addr->List α->Prop
 | nil:A2 R [] []
 | cons {a:Addr}{x:α}{as:List Addr}{xs:List α}:R a x->A2 R as xs->A2 R (a::as) (x::xs)
theorem A2.len{α:Type}{R:Addr->α->Prop}{as:List Addr}{xs:List α}(h:A2 R as xs):as.length=xs.length:=by
 induction h with
 | nil=>rfl
 | cons _ _ ih=>rw[qBj,qBj,ih]
theorem A2.imp{α:Type}{R S:Addr->α->Prop}{as:List Addr}{xs:List α}(h:A2 R as xs)(f:∀a x,R a x->S a x):A2 S as xs:=by
 induction h with
 | nil=>exact .nil
 | cons r _ ih=>exact .cons (f _ _ r) ih
theorem A2.at{α:Type}{R:Addr->α->Prop}{as:List Addr}{xs:List α}(h:A2 R as xs):∀{i:Nat}{a:Addr},as[i]?=some a->∃x,xs[i]?=some x/\R a x:=by
 induction h with
 | nil=>intro i a e;simp at e
 | cons r _ ih =>
  intro i b e;cases i with
  | zero=>simp only[qJa,Option.some.injEq] at e;subst e;exact⟨_,rfl,r⟩
  | succ i=>rw[qEp] at e;exact ih e
theorem A2.get{α:Type}{R:Addr->α->Prop}{as:List Addr}{xs:List α}(h:A2 R as xs):∀{i:Nat}{x:α},xs[i]?=some x->∃a,as[i]?=some a/\R a x:=by
 induction h with
 | nil=>intro i a e;simp at e
 | cons r _ ih =>
  intro i b e;cases i with
  | zero=>simp only[qJa,Option.some.injEq] at e;subst e;exact⟨_,rfl,r⟩
  | succ i=>rw[qEp] at e;exact ih e
theorem A2.snoc{α:Type}{R:Addr->α->Prop}{as:List Addr}{xs:List α}{a:Addr}{x:α}(h:A2 R as xs)(r:R a x):A2 R (as++[a]) (xs++[x]):=by
 induction h with
 | nil=>exact .cons r .nil
 | cons r' _ ih=>exact .cons r' ih
theorem A2.drop{α:Type}{R:Addr->α->Prop}{as:List Addr}{xs:List α}(h:A2 R as xs):∀n,A2 R (as.drop n) (xs.drop n):=by
 induction h with
 | nil=>intro n;rw[qLr,qLr];exact .nil
 | cons r h' ih =>
  intro n;cases n with
  | zero=>exact .cons r h'
  | succ n=>exact ih n
def dC(H:Hp)(b:Addr)(p:P3):Prop:=H b=some (.tup [.int (p.1:Int),.int (p.2.1:Int),.int p.2.2])
def KR(H:Hp)(b:Addr)(d:Nat×Nat):Prop:=H b=some (.tup [.int (d.1:Int),.int (d.2:Int)])
def v9(H:Hp)(t:Addr)(e:E2):Prop:=∃(q:Addr) (rs:List Addr),H t=some (.tup [.int e.1,.ref q])/\H q=some (.tup (rs.map V.ref))/\A2 (KR H) rs e.2
theorem dC.keep{H H':Hp}{b:Addr}{p:P3}(h:dC H b p)(s:dX H H'):dC H' b p:=s _ _ h
theorem KR.keep{H H':Hp}{b:Addr}{p:Nat×Nat}(h:KR H b p)(s:dX H H'):KR H' b p:=s _ _ h
theorem v9.keep{H H':Hp}{b:Addr}{e:E2}(h:v9 H b e)(s:dX H H'):v9 H' b e :=
 let ⟨q,rs,h1,h2,h3⟩:=h;⟨q,rs,s _ _ h1,s _ _ h2,h3.imp fun _ _ h=>h.keep s⟩
theorem dN.list{m:Nat}{H:Hp}:∀{bs:List Addr},(∀b∈bs,∃(u v:Nat) (n:Int),H b=some (.tup [.int (u:Int),.int (v:Int),.int n])/\u<v/\v<m)->∃ps,A2 (dC H) bs ps/\(∀p∈ps,p.1<p.2.1/\p.2.1<m)/\(bs.map fun b=>fM (fG H b))=ps.map fun p=>((p.1:Int),(p.2.1:Int))
 | [],_=>⟨[],.nil,fun _ h=>(qBq h).elim,rfl⟩
 | b::bs,h=>by
  obtain⟨ps,h1,h2,h3⟩:=dN.list (bs:=bs) fun c hc=>h c (qBf _ hc);obtain⟨u,v,n,e,z⟩:=h b (by simp);refine⟨(u,v,n)::ps,.cons e h1,fun p hp=>?_,?_⟩
  ·rcases List.mem_cons.mp hp with rfl | hp
   ·exact z
   ·exact h2 p hp
  ·rw[qBi,qBi,h3,dF e];rfl
theorem dN.pw{m:Nat}{H:Hp}{bs:List Addr}(h:dN m H bs):∃ps,A2 (dC H) bs ps/\Pw m ps:=by
 obtain⟨ps,h1,h2,h3⟩:=dN.list h.1;refine⟨ps,h1,h2,?_⟩;have nd:=h.2.1;rw[h3] at nd;have e:(ps.map fun p=>((p.1:Int),(p.2.1:Int)))=(ps.map fun p=>(p.1,p.2.1)).map fun q=>((q.1:Int),(q.2:Int)):=by rw[qBt];rfl
 rw[e] at nd;refine List.Pairwise.of_map _ (fun a b ne=>?_) nd;rintro rfl;exact ne rfl
theorem qU{as:List Addr}{i:Nat}{a:Addr}(h:as[i]?=some a):fK (as.map V.ref) (i:Int)=some (.ref a):=bO (by rw[qAj,h];rfl)
theorem at_of{as:List Addr}{i:Nat}{x:V}(h:(as.map V.ref)[i]?=some x):∃a,as[i]?=some a/\x = .ref a:=by
 rw[qAj] at h;cases e:as[i]? with
 | none=>rw[e] at h;cases h
 | some y=>rw[e] at h;exact⟨y,rfl,(Option.some.inj h).symm⟩
theorem mZ{H:Hp}{ts:List Addr}{ps:List P3}{n i:Nat}(h:A2 (v9 H) ts (eU ps n))(hi:i<=n):∃t,ts[i]?=some t/\v9 H t (cA ps i):=h.get (kP ps hi)
theorem Good.len{ps:List P3}{b g:Nat}{s:Int}{r:List (Nat×Nat)}(h:Good ps b g s r)(hb:b<=6):r.length+b<=6:=by
 induction h with
 | nil b g=>simpa using hb
 | @cons b g i j n s r h1 h2 h3 _ _ _ _ ih =>
  have:=ih (by lia);rw[qBj];lia
theorem yY:∀i:_root_.Fin 6,alone i.1=((2^i.1:Nat):Int):=by decide
theorem fO{i:Nat}(h:i<6):fK (iB.map V.int) (i:Int)=some (.int ((2^i:Nat):Int)):=by
 have z:=jX (i:=(i:Int)) (by lia) (by lia);rw[qDv,yY ⟨i,h⟩] at z;exact z
theorem yZ{α β:Type}{f:β->α->β}{b:β}{xs:List α}{i:Nat}{x:α}(h:xs[i]?=some x):(xs.take (i+1)).foldl f b=f ((xs.take i).foldl f b) x:=by
 rw[List.take_succ,h,List.foldl_append];rfl
def JS:Sp:=fun vs H Q _=>∃(lb lp:Addr) (ts bs:List Addr) (ps:List P3) (n:Nat),vs=[.ref lb,.ref lp,.int ((n+1:Nat):Int)]/\H lb=some (.lst (ts.map V.ref))/\A2 (v9 H) ts (eU ps n)/\H lp=some (.lst (bs.map V.ref))/\A2 (dC H) bs ps/\(∀p∈ps,p.1<p.2.1/\p.2.1<6)/\n+1<64 /\
 ∀t H',aI H H'->v9 H' t (cA ps (n+1))->Q (.ref t) H'
theorem sP:aK ["best","pairs","group","least","found","one","other","number","rest"] ["best","pairs","group"] (aE LH):=by constructor<;>first|rfl|decide +kernel
theorem JT{f1 f2:Addr}{fd1 fd2:qBd}(t:Tx K mg "best_of_group" LH ["best","pairs","group"] f fd)(T:T K mg AL LN RU OW PL PA VO MA NE fE fH rR rO rP rA rV rM rN iR iO iP iA iV iM iN fL wR wO wP wA wV wM wN CO iC cH cE cW SE NG NL NT)(D_hands_of:Df P w K mg base (gZ P w) 4 "hands_of" ["group"] (AS K NG) f1 fd1)(D_has_both:Df P w K mg base cM 1 "has_both" ["group","one","other"] Gr f2 fd2):
  Df P w K mg base cM 5 "best_of_group" ["best","pairs","group"] JS f fd:=by
 refine t.jA sP (fun vs H Q E h=>?_) (fun cdv A outer s H vs Q E hr h=>?_)
 ·obtain⟨lb,lp,ts,bs,ps,n,rfl,_⟩:=h;rfl
 ·obtain⟨lb,lp,ts,bs,ps,n,rfl,hlb,hts,hlp,hbs,hps,hn,k⟩:=h;refine⟨_,(aD (bF (i:=3) sP.nd rfl cK (a9 bJ (eK bQ D_hands_of hr (by decide) (by rfl) (aA (pv 2) aB)) aG (fun _ _=>rfl)))
   (aD (bF (i:=4) sP.nd rfl cK (a9 bJ (pv 0) (aM fP (pv 2) (a9 cB (bP (v:=.ref AL) (by rfl) T.tP rfl) (pv 3) (fun _ _=>rfl))) (fun _ _=>rfl)))
   (aD (gK PassesOwn.never rfl (bL (pv 1)) (fB rfl (bB (aP (i:=5) sP.nd rfl cK) (bB (aP (i:=6) sP.nd rfl cK) (bB (aP (i:=7) sP.nd rfl cK) dZ))))
    (aH (bK (PW.pt (pw_and (aS bU (pv 5) (pv 3) (aV _)) (pw_and1 (cY (bD D_has_both hr (by decide) (by rfl) (aA (pv 2) (aA (pv 5) (aA (pv 6) aB)))))))) (aD (bF (i:=8) sP.nd rfl cK (a9 bJ (pv 0) (aM fP (aM fP (pv 2) (a9 cB (bP (v:=.ref AL) (by rfl) T.tP rfl) (pv 5) (fun _ _=>rfl))) (a9 cB (bP (v:=.ref AL) (by rfl) T.tP rfl) (pv 6) (fun _ _=>rfl))) (fun _ _=>rfl)))
     (aH (bK (aS lZ (aM cL (pv 7) (a9 cB (pv 8) aG (fun _ _=>rfl))) (a9 cB (pv 4) aG (fun _ _=>rfl)) (aV _)) (aH (bF (i:=4) sP.nd rfl cK (fQ (aA (aM cL (pv 7) (a9 cB (pv 8) aG (fun _ _=>rfl))) (aA (aM Ca (fQ (aA (fQ (aA (pv 5) (aA (pv 6) aB))) aB)) (a9 cB (pv 8) aG (fun _ _=>rfl))) aB))))) aX))) aX)))
   (aH (aN (pv 4)))))),?_⟩
  have p1:∀k,1<=2^k:=fun k=>qFr;have ne:n+1≠0:=by lia
  obtain⟨l6,lb1,lmin,hh,_⟩:=lo_facts ⟨n+1,hn⟩ ne;have l6:lo (n+1)<6:=l6;have lb1:aW (n+1) (lo (n+1))=true:=lb1;have hh:eG (n+1)=(lo (n+1):Int)::(eG (n+1)).tail:=hh;have hle:=uY hn l6 lb1;refine⟨_,rfl,_,rfl,.int _,fun no=>?_,fun g l H1 eg hg hl s1 h1=>?_⟩
  ·have z:=qO (g:=n+1) (m:=6) hn;rw[z] at no;cases no
  have eg:g=n+1:=by have:=V.int.inj eg;lia
  subst eg;rw[hh] at h1;obtain⟨t0,ht0,e0⟩:=mZ hts (i:=n+1-2^lo (n+1)) (by have:=p1 (lo (n+1));generalize 2^lo (n+1)=x at *;lia);have hat:fK (ts.map V.ref) (((n+1:Nat):Int)-((2^lo (n+1):Nat):Int))=some (.ref t0):=by
   rw[<- qJh hle];exact qU ht0
  refine⟨l,_,_,_,rfl,rfl,aY.of h1,bO (xs:=((lo (n+1):Int)::(eG (n+1)).tail).map V.int) (j:=0) (v:=V.int (lo (n+1):Int)) rfl,?_⟩;refine⟨_,rfl,_,rfl,_,rfl,AL,_,_,_,rfl,rfl,T.al _,fO l6,_,_,rfl,rfl,lb,_,_,_,rfl,rfl,aY.of (s1 _ _ hlb),hat,?_⟩;refine⟨_,rfl,lp,rfl,⟨_,aY.of (s1 _ _ hlp)⟩,?_⟩;refine jL (xs:=bs.map V.ref) (fun i σ' H'=>aI H H'/\∃(tf:Addr) (o5 o6 o7 o8:Option V),v9 H' tf ((ps.take i).foldl (eT (cA ps) (n+1)) (cA ps (n+1-2^lo (n+1))))/\σ'=[some (.ref lb),some (.ref lp),some (.int ((n+1:Nat):Int)),some (.int (lo (n+1):Int)),some (.ref tf),o5,o6,o7,o8]) ?_ ?_ ?_ ?_
  ·exact⟨s1,t0,none,none,none,none,e0.keep s1.t,rfl⟩
  ·rintro i σ' H' _ ⟨s2,_⟩;exact aY.of (s2 _ _ hlp)
  ·rintro i x σ' H2 hx ⟨s2,tf,o5,o6,o7,o8,ef,rfl⟩;obtain⟨b,hb,rfl⟩:=at_of hx;obtain⟨⟨u,v,c⟩,hp,ep⟩:=hbs.at hb;obtain⟨huv,hv⟩:=hps _ (qAu hp);have huv:u<v:=huv;have hv:v<6:=hv;have tk:=yZ (f:=eT (cA ps) (n+1)) (b:=cA ps (n+1-2^lo (n+1))) hp;refine⟨b,_,rfl,dG.of (s2 _ _ ep),rfl,_,_,rfl,_,_,rfl,_,_,rfl,rfl,?_⟩;have lA:eT (cA ps) (n+1) ((ps.take i).foldl (eT (cA ps) (n+1)) (cA ps (n+1-2^lo (n+1)))) (u,v,c)=(ps.take i).foldl (eT (cA ps) (n+1)) (cA ps (n+1-2^lo (n+1)))->v9 H2 tf ((ps.take (i+1)).foldl (eT (cA ps) (n+1)) (cA ps (n+1-2^lo (n+1)))):=fun z=>by
    rw[tk,z];exact ef
   generalize hF:(ps.take i).foldl (eT (cA ps) (n+1)) (cA ps (n+1-2^lo (n+1)))=F at *;refine⟨_,rfl,_,rfl,rfl,_,rfl,?_⟩;refine dE (fun h3=>?_) (fun h3=>?_)
   ·have c1:u=lo (n+1):=by have:=V.int.inj (of_decide_eq_true h3);lia
    refine⟨_,rfl,_,rfl,_,rfl,n+1,u,v,rfl,hn,by lia,hv,_,rfl,?_⟩;refine dE (fun h4=>?_) (fun h4=>?_)
    ·have h4:both (n+1) u v=true:=h4;have h4':(aW (n+1) u&&aW (n+1) v)=true:=h4;rw[qAr] at h4';have w1:2^u<=n+1:=uY hn (by lia) h4'.1;have w2:2^v<=n+1-2^u:=uY (qBo (qGu _ _) hn) hv (by rw[yW hn (by lia) hv h4'.1,h4'.2,decide_eq_true (show v≠u by lia)];rfl);obtain⟨tr,htr,er⟩:=mZ hts (i:=n+1-2^u-2^v) (by have:=p1 u;generalize 2^u=x at *;generalize 2^v=y at *;lia);have hat2:fK (ts.map V.ref) (((n+1:Nat):Int)-((2^u:Nat):Int)-((2^v:Nat):Int))=some (.ref tr):=by
      rw[<- qJh w1,<- qJh w2];exact qU htr
     obtain⟨rq,rr,r1,r2,r3⟩:=er.keep s2.t;obtain⟨fq,fr,g1,g2,g3⟩:=ef;have gl:(cA ps (n+1-2^u-2^v)).2.length+0<=6:=(yX hps (n+1-2^u-2^v) (qBo (qAt (qGu _ _) (qGu _ _)) hn)).len (by lia);refine⟨_,rfl,_,rfl,_,rfl,AL,_,_,_,rfl,rfl,T.al _,fO (by lia),_,_,rfl,rfl,_,rfl,AL,_,_,_,rfl,rfl,T.al _,fO hv,_,_,rfl,rfl,lb,_,_,_,rfl,rfl,aY.of (s2 _ _ hlb),hat2,?_⟩;refine⟨_,rfl,_,rfl,tr,_,_,_,rfl,rfl,dG.of r1,rfl,_,_,rfl,rfl,_,rfl,tf,_,_,_,rfl,rfl,dG.of g1,rfl,_,_,rfl,rfl,_,rfl,?_⟩;refine dE (fun h5=>?_) (fun h5=>?_)
     ·have h5:c+(cA ps (n+1-2^u-2^v)).1>F.1:=of_decide_eq_true h5;have eF:eT (cA ps) (n+1) F (u,v,c)=(c+(cA ps (n+1-2^u-2^v)).1,(u,v)::(cA ps (n+1-2^u-2^v)).2):=by
       unfold eT;rw[if_pos ⟨c1,h4⟩,if_pos h5]
      rw[eF] at tk;refine⟨_,rfl,_,rfl,tr,_,_,_,rfl,rfl,dG.of r1,rfl,_,_,rfl,rfl,_,rfl,_,rfl,zD,fun t1 ht1=>⟨nK,fun t2 ht2=>?_⟩⟩;have u1:=aI.aJ (o:=.tup [V.int (u:Int),V.int (v:Int)]) ht1;have u2:=aI.aJ (o:=.tup [V.ref t1]) ht2;have u12:=u1.trans u2;have d1:=u2 _ _ (aC (H:=H2) (a:=t1) (o:=.tup [V.int (u:Int),V.int (v:Int)]));have fin:∀(p:Addr) (H3:Hp),aI (upd (upd H2 t1 (.tup [V.int (u:Int),V.int (v:Int)])) t2 (.tup [V.ref t1])) H3->H3 p=some (.tup ((t1::rr).map V.ref))->∀tt,H3 tt=none->v9 (upd H3 tt (.tup [.int (c+(cA ps (n+1-2^u-2^v)).1),.ref p])) tt ((ps.take (i+1)).foldl (eT (cA ps) (n+1)) (cA ps (n+1-2^lo (n+1))))/\aI H (upd H3 tt (.tup [.int (c+(cA ps (n+1-2^u-2^v)).1),.ref p])):=fun p H3 s3 hp3 tt htt=>by
       have u3:=aI.aJ (o:=.tup [.int (c+(cA ps (n+1-2^u-2^v)).1),.ref p]) htt;rw[tk];refine⟨⟨p,t1::rr,aC,u3 _ _ hp3,.cons (u3 _ _ (s3 _ _ d1)) (r3.imp fun _ _ z=>z.keep ((u12.trans s3).trans u3).t)⟩,((s2.trans u12).trans s3).trans u3⟩
      refine⟨_,rfl,tr,_,_,_,rfl,rfl,dG.of (u12 _ _ r1),rfl,t2,rq,_,_,rfl,rfl,dG.of aC,dG.of (u12 _ _ r2),by simp,?_,fun e=>?_,fun e p hp=>?_⟩
      ·rw[qAa,r3.len];show 1+_<=qAg;exact qAt (m:=7) (by lia) (by decide)
      ·refine⟨zD,fun tt htt=>?_⟩;have e':rr=[]:=by simpa using e
       subst e';obtain⟨q1,q2⟩:=fin t2 _ (.refl _) aC tt htt;exact⟨q2,tt,_,_,_,_,q1,rfl⟩
      ·refine⟨zD,fun tt htt=>?_⟩;obtain⟨q1,q2⟩:=fin p _ (.aJ hp) aC tt htt;exact⟨q2,tt,_,_,_,_,q1,rfl⟩
     ·have h5:¬c+(cA ps (n+1-2^u-2^v)).1>F.1:=fun z=>h5 (decide_eq_true z);refine⟨s2,tf,_,_,_,_,lA ?_,rfl⟩;unfold eT;rw[if_pos ⟨c1,h4⟩,if_neg h5]
    ·have h4:¬both (n+1) u v=true:=h4;refine⟨s2,tf,_,_,_,_,lA ?_,rfl⟩;unfold eT;rw[if_neg fun z=>h4 z.2]
   ·have c1:¬u=lo (n+1):=fun z=>h3 (decide_eq_true (by rw[z]));refine bG ?_;refine⟨s2,tf,_,_,_,_,lA ?_,rfl⟩;unfold eT;rw[if_neg fun z=>c1 z.1]
  ·rintro σ' H2 ⟨s2,tf,o5,o6,o7,o8,ef,rfl⟩;rw[qAa,hbs.len,qHt] at ef;exact⟨_,rfl,k tf H2 s2 (by rw[pH ps ne];exact ef)⟩
def JU:Sp:=fun vs H Q _=>∃(lp:Addr) (bs:List Addr) (ps:List P3) (m:Nat),vs=[.int (m:Int),.ref lp]/\H lp=some (.lst (bs.map V.ref))/\A2 (dC H) bs ps/\(∀p∈ps,p.1<p.2.1/\p.2.1<6)/\1<=m/\m<=6 /\
 ∀(l:Addr) (ts:List Addr) (H':Hp),H l=none->aI H H'->H' l=some (.lst (ts.map V.ref))->A2 (v9 H') ts (eU ps (2^m-1))->Q (.ref l) H'
theorem GF:aK ["many","pairs","best","group"] ["many","pairs"] (aE LI):=by constructor<;>first|rfl|decide +kernel
theorem JV{f1 f2:Addr}{fd1 fd2:qBd}(t:Tx K mg "best_pairings" LI ["many","pairs"] f fd)(T:T K mg AL LN RU OW PL PA VO MA NE fE fH rR rO rP rA rV rM rN iR iO iP iA iV iM iN fL wR wO wP wA wV wM wN CO iC cH cE cW SE NG NL NT)(D_whole_company:Df P w K mg base cM 1 "whole_company" ["many"] Gh f1 fd1)(D_best_of_group:Df P w K mg base cM 5 "best_of_group" ["best","pairs","group"] JS f2 fd2):
  Df P w K mg base cM 6 "best_pairings" ["many","pairs"] JU f fd:=by
 refine t.jA GF (fun vs H Q E h=>?_) (fun cdv A outer s H vs Q E hr h=>?_)
 ·obtain⟨lp,bs,ps,m,rfl,_⟩:=h;rfl
 ·obtain⟨lp,bs,ps,m,rfl,hlp,hbs,hps,m1,m6,k⟩:=h;refine⟨_,(aD (bF (i:=2) GF.nd rfl cK (bZ (aA (fQ (aA aG (aA (fQ aB) aB))) aB)))
   (aD (gK PassesOwn.never rfl (kA (by rfl) T.eM (aA aG (aA (aM cL (bD D_whole_company hr (by decide) (by rfl) (aA (pv 0) aB)) aG) aB))) (aP (i:=3) GF.nd rfl cK)
    (aH (bN (dP qCz qDg qDf eD (pv 2) (aA (bD D_best_of_group hr (by decide) (by rfl) (aA (pv 2) (aA (pv 1) (aA (pv 3) aB)))) aB)))))
   (aH (aN (pv 2))))),?_⟩
  have h64:2^m<=64:=qBr (n:=2) (by decide) m6;have h2:1<=2^m:=qFr;refine⟨by show 0<=qAg;decide,fun te hte=>⟨zD,fun t0 ht0=>⟨nK,fun l hl=>?_⟩⟩⟩;have u1:=aI.aJ (o:=.tup []) hte;have u2:=aI.aJ (o:=.tup [V.int 0,V.ref te]) ht0;have u3:=aI.aJ (o:=.lst [V.ref t0]) hl;have s0:=(u1.trans u2).trans u3;have l0:H l=none:=(u1.trans u2).free hl;have e0:v9 (upd (upd (upd H te (.tup [])) t0 (.tup [V.int 0,V.ref te])) l (.lst [V.ref t0])) t0 ((0,[]):E2):=⟨te,[],u3 _ _ aC,u3 _ _ (u2 _ _ aC),.nil⟩;have hl0:upd (upd (upd H te (.tup [])) t0 (.tup [V.int 0,V.ref te])) l (.lst [V.ref t0]) l=some (.lst ([t0].map V.ref)):=aC;generalize upd (upd (upd H te (.tup [])) t0 (.tup [V.int 0,V.ref te])) l (.lst [V.ref t0])=H1 at s0 e0 hl0|-;clear u1 u2 u3 hte ht0 hl;have e2:((2:Int)^m-1+1-1).toNat=2^m-1:=by
   have e:((2^m:Nat):Int)=2^m:=by push_cast;rfl
   lia
  have e3:((2^m:Nat):Int)=2^m:=by push_cast;rfl
  refine⟨_,rfl,m,rfl,m6,fun H2 s2=>⟨_,_,rfl,rfl,1,_,rfl,⟨by decide,by decide,by lia,by lia⟩,?_⟩⟩;rw[e2];refine iQ (n:=2^m-1) (fun i σ' H'=>aI H H'/\∃(ts:List Addr) (o3:Option V),H' l=some (.lst (ts.map V.ref))/\A2 (v9 H') ts (eU ps i)/\σ'=[some (.int (m:Int)),some (.ref lp),some (.ref l),o3]) ?_ ?_ ?_
  ·exact⟨s0.trans s2,[t0],none,s2 _ _ hl0,.cons (e0.keep s2.t) .nil,rfl⟩
  ·rintro i σ' H3 hi ⟨s3,ts,o3,h3,h4,rfl⟩;refine⟨_,rfl,.inl ⟨rfl,_,aY.of h3⟩,_,rfl,_,rfl,_,rfl,l,lp,ts,bs,ps,i,?_,h3,h4,s3 _ _ hlp,hbs.imp fun _ _ z=>z.keep s3.t,hps,by lia,fun tn H4 s4 e4=>?_⟩
   ·show [V.ref l,V.ref lp,V.int (1+(i:Int))]=_;rw[show(1:Int)+(i:Int)=((i+1:Nat):Int) by lia]
   refine⟨l,_,_,rfl,rfl,s4 _ _ h3,?_,(s3.trans s4).upd_ne' l0,ts++[tn],_,by rw[aC,qCc];rfl,?_,rfl⟩
   ·rw[qAa,h4.len,fN];exact aQ (by lia)
   ·have kt:dX H4 (upd H4 l (.lst (ts.map V.ref++[V.ref tn]))):=dX.lst (s4 _ _ h3);have z:eU ps (i+1)=eU ps i++[cA ps (i+1)]:=by rw[mY];rfl
    rw[z];exact(h4.imp fun _ _ z=>z.keep (fun b xs e=>kt _ _ (s4 _ _ e))).snoc (e4.keep kt)
  ·rintro σ' H3 ⟨s3,ts,o3,h3,h4,rfl⟩;exact⟨_,rfl,k l ts H3 l0 s3 h3 h4⟩
theorem A2.mem{α:Type}{R:Addr->α->Prop}{as:List Addr}{xs:List α}(h:A2 R as xs):(∀a∈as,∃x∈xs,R a x)/\∀x∈xs,∃a∈as,R a x:=by
 induction h with
 | nil=>exact⟨fun _ h=>(qBq h).elim,fun _ h=>(qBq h).elim⟩
 | cons r _ ih =>
  refine⟨fun a ha=>?_,fun x hx=>?_⟩
  ·rcases List.mem_cons.mp ha with rfl | ha
   ·exact⟨_,by simp,r⟩
   ·obtain⟨x,hx,e⟩:=ih.1 a ha;exact⟨x,qBf _ hx,e⟩
  ·rcases List.mem_cons.mp hx with rfl | hx
   ·exact⟨_,by simp,r⟩
   ·obtain⟨a,ha,e⟩:=ih.2 x hx;exact⟨a,qBf _ ha,e⟩
theorem dC.eq{H:Hp}{b:Addr}{p p':P3}(h:dC H b p)(h':dC H b p'):p=p':=by
 obtain⟨u,v,n⟩:=p;obtain⟨u',v',n'⟩:=p';have z:some (HO.tup [.int (u:Int),.int (v:Int),.int n])=some (HO.tup [.int (u':Int),.int (v':Int),.int n']):=h.symm.trans h';have z:=HO.tup.inj (Option.some.inj z);simp only[List.cons.injEq,V.int.injEq,and_true] at z;obtain⟨z1,z2,z3⟩:=z;rw[show u=u' by lia,show v=v' by lia,z3]
def jZ(ps:List P3):Prop:=ps.Pairwise fun p q=>p.1<q.1\/p.1=q.1/\p.2.1<q.2.1
theorem dC.ky{H:Hp}{b:Addr}{p:P3}(h:dC H b p):jY H b=((p.1:Int),(p.2.1:Int)):=by
 unfold jY;rw[dF (show H b=some (.tup [.int (p.1:Int),.int (p.2.1:Int),.int p.2.2]) from h)];rfl
theorem A2.Mp{R:Addr->P3->Prop}{bs:List Addr}{ps:List P3}(h:A2 R bs ps):∀p∈ps,∃b∈bs,R b p:=by
 induction h with
 | nil=>intro p hp;cases hp
 | cons r _ ih =>
  intro p hp;rcases List.mem_cons.mp hp with rfl | hp
  ·exact⟨_,qCb,r⟩
  ·obtain⟨b,hb,z⟩:=ih p hp;exact⟨b,qBf _ hb,z⟩
theorem A2.sQ{H:Hp}{bs:List Addr}{ps:List P3}(h:A2 (dC H) bs ps)(s:bs.Pairwise fun a b=>uW (jY H a) (jY H b)):jZ ps:=by
 unfold jZ;induction h with
 | nil=>exact .nil
 | cons r t ih =>
  rw[qHf] at s|-;refine⟨fun p hp=>?_,ih s.2⟩;obtain⟨b,hb,z⟩:=t.Mp p hp;have y:=s.1 b hb;rw[r.ky,z.ky] at y;unfold uW at y;dsimp only at y;lia
theorem GG{H H':Hp}{bs:List Addr}(t:dX H H')(ht:∀a∈bs,∃xs,H a=some (.tup xs))(h:bs.Pairwise fun a b=>uW (jY H a) (jY H b)):bs.Pairwise fun a b=>uW (jY H' a) (jY H' b):=by
 have e:∀a∈bs,jY H' a=jY H a:=fun a ha=>by
  obtain⟨xs,hx⟩:=ht a ha;unfold jY;rw[dF hx,dF (t a xs hx)]
 refine h.imp_of_mem fun {a b} ha hb z=>?_;rw[e a ha,e b hb];exact z
def qV(MA:Addr)(H:Hp)(a lb:Addr)(m:Nat)(ps:List P3):Prop:=∃(dx l:Addr) (ts:List Addr),H a=some (.ins MA dx [("many",.int (m:Int)),("pairs",.ref l),("best",.ref lb)])/\H lb=some (.lst (ts.map V.ref))/\A2 (v9 H) ts (eU ps (2^m-1))/\1<=m/\m<=6/\Pw m ps
theorem qV.same{MA:Addr}{H H':Hp}{a lb:Addr}{m:Nat}{ps:List P3}(h:qV MA H a lb m ps)(s:aI H H'):qV MA H' a lb m ps :=
 let ⟨dx,l,ts,h1,h2,h3,h4⟩:=h;⟨dx,l,ts,s _ _ h1,s _ _ h2,h3.imp fun _ _ z=>z.keep s.t,h4⟩
theorem Pw.six{m:Nat}{ps:List P3}(h:Pw m ps)(h6:m<=6):Pw 6 ps:=⟨fun p hp=>let ⟨a,b⟩:=h.1 p hp;⟨a,by lia⟩,h.2⟩
def GH(MA:Addr):Sp:=fun vs H Q _=>∃(x dx p:Addr) (m:Nat) (as:List Addr),vs=[.ref x,.int (m:Int),.ref p]/\H x=some (.ins MA dx [])/\H p=some (.lst (as.map V.ref))/\dN m H as/\1<=m/\m<=6 /\
 ∀(l lb:Addr) (bs:List Addr) (ps:List P3) (H':Hp),H lb=none->bs.Perm as->SameBut x H H'->A2 (dC H') bs ps->qV MA H' x lb m ps->(∃dx,H' x=some (.ins MA dx [("many",.int (m:Int)),("pairs",.ref l),("best",.ref lb)]))->H' l=some (.lst (bs.map V.ref))->jZ ps->H l=none->Q .non H'
theorem Mq:aK ["self","many","pairs"] ["self","many","pairs"] (aE HW):=by constructor<;>first|rfl|decide +kernel
theorem JW{f1 f2:Addr}{fd1 fd2:qBd}(t:Mx K "__init__" "Match.__init__" HW ["self","many","pairs"] f fd)(T:T K mg AL LN RU OW PL PA VO MA NE fE fH rR rO rP rA rV rM rN iR iO iP iA iV iM iN fL wR wO wP wA wV wM wN CO iC cH cE cW SE NG NL NT)(D_RI:Md P w K mg base 4 ["self","many"] (qS K NL) iR)(D_sorted_pairs:Df P w K mg base (gZ P w) 4 "sorted_pairs" ["many","pairs"] (vY K NL) f1 fd1)(D_best_pairings:Df P w K mg base cM 6 "best_pairings" ["many","pairs"] JU f2 fd2):
  Md P w K mg base 7 ["self","many","pairs"] (GH MA) f:=by
 refine t.BG Mq (fun vs H Q E h=>?_) (fun cdv A outer s H vs Q E hr h=>?_)
 ·obtain⟨x,dx,p,m,as,rfl,_⟩:=h;rfl
 ·obtain⟨x,dx,p,m,as,rfl,hx,hp,ok,m1,m6,k⟩:=h;refine⟨_,(aD (bN (oP bA.toPass (by rfl) T.zE T.Iq D_RI hr (by decide) (aA (pv 0) (aA (pv 1) aB))))
   (aD (eW (pv 0) (eK bA.toPass D_sorted_pairs hr (by decide) (by rfl) (aA (pv 1) (aA (pv 2) aB))) rfl)
   (aH (eW (pv 0) (bD D_best_pairings hr (by decide) (by rfl) (aA (pv 1) (aA (bY (pv 0) rfl) aB))) rfl)))),?_⟩
  have i16:kF 1 6 (.int (m:Int))=true:=by rw[gC,decide_eq_true m1,decide_eq_true m6];rfl
  refine⟨_,rfl,_,rfl,x,MA,dx,_,rfl,hx,T.CB.oc.cl,T.CB.nm,.int _,fun no=>(by rw[i16] at no;cases no),fun yes=>?_⟩;have at_:∀b o,(∀C dx fs,o≠HO.ins C dx fs)->H b=some o->upd H x (.ins MA dx [("many",V.int (m:Int))]) b=some o:=fun b o n e=>by
   rw[aL]
   ·exact e
   ·rintro rfl;rw[hx] at e;exact n _ _ _ (Option.some.inj e).symm
  have hp1:=at_ _ _ (by intro _ _ _ z;cases z) hp;have Ci:dN m (upd H x (.ins MA dx [("many",V.int (m:Int))])) as:=ok.same fun b hb o e=>by
   obtain⟨u,v,n,e',_⟩:=ok.1 b hb;rw[e'] at e;exact(Option.some.inj e)▸at_ _ _ (by intro _ _ _ z;cases z) e'
  have sb:SameBut x H (upd H x (.ins MA dx [("many",V.int (m:Int))])):=((aI.refl H).but x).gO _;refine⟨_,rfl,_,rfl,(m:Int),p,as,rfl,hp1,Ci.g7,by have:=ok.2.2;lia,fun no H1 s1=>(by rw[Ci.ok] at no;cases no),fun _ l bs H1 hl hb hpw s1 h1=>?_⟩;have hx1:=s1 _ _ (aC (H:=H) (a:=x) (o:=.ins MA dx [("many",V.int (m:Int))]));refine⟨_,rfl,x,MA,dx,_,rfl,hx1,T.CB.oc.cl,T.LP,(by show 1<1000;decide),?_⟩;have nl:l≠x:=(aT (aC (H:=H) (a:=x) (o:=.ins MA dx [("many",V.int (m:Int))])) hl).symm;have ok2:dN m H1 bs:=(Ci.v3 hb).same fun b _ o e=>s1 _ _ e;obtain⟨ps,a2,pw⟩:=ok2.pw;have at2:∀b xs,H1 b=some (HO.tup xs)->upd H1 x (.ins MA dx [("many",V.int (m:Int)),("pairs",.ref l)]) b=some (.tup xs):=fun b xs e=>by
   rw[aL (e8 e hx1 (fun z=>nomatch z))];exact e
  refine⟨_,rfl,_,rfl,x,MA,dx,_,_,rfl,aC,T.CB.oc.cl,T.LP,rfl,l,bs,ps,m,rfl,(by show upd _ _ _ l=_;rw[aL nl];exact h1),a2.imp fun _ _ z=>z.keep at2,(pw.six m6).1,m1,m6,fun lb ts H2 hlb s2 h2 hts=>?_⟩;have hx2:=s2 _ _ (aC (H:=H1) (a:=x) (o:=.ins MA dx [("many",V.int (m:Int)),("pairs",.ref l)]));have nlb:lb≠x:=(aT (aC (H:=H1) (a:=x) (o:=.ins MA dx [("many",V.int (m:Int)),("pairs",.ref l)])) hlb).symm;refine⟨_,rfl,x,MA,dx,_,rfl,hx2,T.CB.oc.cl,T.Jn,(by show 2<1000;decide),?_⟩;have hlb0:H lb=none:=by
   have z:H1 lb=none:=by
    have:upd H1 x (.ins MA dx [("many",V.int (m:Int)),("pairs",.ref l)]) lb=none:=hlb;rw[aL nlb] at this;exact this
   have y:=s1.free z;rw[aL nlb] at y;exact y
  have at3:∀(o:HO),dX H2 (upd H2 x o):=fun o b xs e=>by
   rw[aL (e8 e hx2 (fun z=>nomatch z))];exact e
  exact k l lb bs ps _ hlb0 hb ((((sb.then s1).gO _).then s2).gO _) (a2.imp fun _ _ z=>((z.keep at2).keep s2.t).keep (at3 _)) ⟨dx,l,ts,aC,(by rw[aL nlb];exact h2),hts.imp fun _ _ z=>z.keep (at3 _),m1,m6,pw⟩ ⟨dx,aC⟩ (by rw[aL nl];exact s2 _ _ (by rw[aL nl];exact h1)) (a2.sQ (GG s1.t (fun a ha=>let ⟨u,v,n,e,_⟩:=Ci.1 a (hb.mem_iff.mp ha);⟨_,e⟩) hpw)) (by rw[aL nl] at hl;exact hl)
def GI(MA:Addr):Sp:=fun vs H Q _=>∃(a lb:Addr) (m:Nat) (ps:List P3) (g:Nat),vs=[.ref a,.int (g:Int)]/\qV MA H a lb m ps/\g<2^m/\Q (.int (cA ps g).1) H
theorem Mr:aK ["self","group"] ["self","group"] (aE HX):=by constructor<;>first|rfl|decide +kernel
theorem JX(t:Mx K "reckon" "Match.reckon" HX ["self","group"] f fd)(T:T K mg AL LN RU OW PL PA VO MA NE fE fH rR rO rP rA rV rM rN iR iO iP iA iV iM iN fL wR wO wP wA wV wM wN CO iC cH cE cW SE NG NL NT):Md P w K mg base 1 ["self","group"] (GI MA) f:=by
 refine t.rG Mr (fun vs H Q E h=>?_) (fun cdv A outer s H vs Q E hr h=>?_)
 ·obtain⟨a,lb,m,ps,g,rfl,_⟩:=h;rfl
 ·obtain⟨a,lb,m,ps,g,rfl,mo,hg,k⟩:=h;refine⟨_,(aH (aN (a9 cB (a9 bJ (bY (pv 0) rfl) (pv 1) (fun _ _=>rfl)) aG (fun _ _=>rfl)))),?_⟩;obtain⟨dx,l,ts,h1,h2,h3,h4⟩:=mo;obtain⟨tb,hb,q,rs,e1,e2,e3⟩:=mZ h3 (i:=g) (by lia);exact⟨_,rfl,a,MA,dx,_,_,rfl,h1,T.CB.oc.cl,T.Jn,rfl,_,rfl,lb,_,_,_,rfl,rfl,aY.of h2,qU hb,tb,_,_,_,rfl,rfl,dG.of e1,rfl,k⟩
theorem y8(D:Md P w K mg base 1 ["self","group"] (GI MA) rM)(c:RC K fE fH RU MA rM){H:Hp}{a lb:Addr}{m:Nat}{ps:List P3}(h:qV MA H a lb m ps):kM P w K mg base fE fH RU H a m (fun g=>(cA ps g).1):=by
 have h':=h;obtain⟨dx,l,ts,h1,h2,h3,h4,h5,h6⟩:=h';exact⟨MA,dx,rM,_,h1,c,rfl,h4,h5,⟨rfl,rfl,rfl⟩,_,(D.up (by decide)).imp fun vs H2 Q _ ⟨gr,e,hg,s,q⟩=>⟨a,lb,m,ps,gr,e,h.same s,hg,q H2 (.refl _)⟩⟩
def ea(r:P3):Nat:=r.1
def eb(r:P3):Nat:=if r.1=r.2.1 then 6 else r.2.1
def dQ(r:P3):Nat:=2^ea r+2^eb r
def dU(r:P3):Prop:=r.1<=r.2.1/\r.2.1<6
def zF(G:Nat)(r:P3):Bool:=aW G (ea r)&&aW G (eb r)
def jn(J G:Nat)(r:P3):Bool:=zF G r&&(aW J (ea r) != aW J (eb r))
theorem dU.lt{r:P3}(h:dU r):ea r<6/\eb r<7/\ea r≠eb r:=by
 obtain⟨h1,h2⟩:=h;unfold ea eb;split <;> lia
theorem GJ:∀(J:_root_.Fin 128) (a b k:_root_.Fin 7),aW (J.1 ||| (2^a.1+2^b.1)) k.1=(aW J.1 k.1||decide (k.1=a.1)||decide (k.1=b.1))\/a.1=b.1:=by decide +kernel
theorem JY:∀(J:_root_.Fin 128) (a b:_root_.Fin 7),J.1 ||| (2^a.1+2^b.1)<128\/a.1=b.1:=by decide +kernel
theorem iG{J k:Nat}{r:P3}(hJ:J<128)(h:dU r)(hk:k<7):aW (J ||| dQ r) k=(aW J k||decide (k=ea r)||decide (k=eb r)):=by
 obtain⟨h1,h2,h3⟩:=h.lt;exact(GJ ⟨J,hJ⟩ ⟨ea r,by lia⟩ ⟨eb r,h2⟩ ⟨k,hk⟩).resolve_right h3
theorem qW{J:Nat}{r:P3}(hJ:J<128)(h:dU r):J ||| dQ r<128:=by
 obtain⟨h1,h2,h3⟩:=h.lt;exact(JY ⟨J,hJ⟩ ⟨ea r,by lia⟩ ⟨eb r,h2⟩).resolve_right h3
def iH(J:Nat):Nat:=((qAq 7).filter (aW J)).length
theorem AZ:∀(J:_root_.Fin 128) (a b:_root_.Fin 7),(aW J.1 a.1 != aW J.1 b.1)=true->iH (J.1 ||| (2^a.1+2^b.1))=iH J.1+1:=by decide +kernel
theorem qX{J:Nat}{r:P3}(hJ:J<128)(h:dU r)(hj:(aW J (ea r) != aW J (eb r))=true):iH (J ||| dQ r)=iH J+1:=by
 obtain⟨h1,h2,h3⟩:=h.lt;exact AZ ⟨J,hJ⟩ ⟨ea r,by lia⟩ ⟨eb r,h2⟩ hj
theorem uZ:∀g:_root_.Fin 64,iH (g.1+64)=(eG g.1).length+1:=by decide +kernel
def iI(xs:List P3)(r:P3):Prop:=∃i,xs[i]?=some r/\∀(j:Nat) (y:P3),xs[j]?=some y->r.2.2<=y.2.2/\(j<i->r.2.2<y.2.2)
theorem iI.uniq{xs:List P3}{r r':P3}(h:iI xs r)(h':iI xs r'):r=r':=by
 obtain⟨i,hi,h1⟩:=h;obtain⟨i',hi',h2⟩:=h';have a:=h1 i' r' hi';have b:=h2 i r hi;have e:i=i':=by
  rcases qKx i i' with z | z | z
  ·have:=b.2 z;have:=a.1;lia
  ·exact z
  ·have:=a.2 z;have:=b.1;lia
 subst e;exact Option.some.inj (hi.symm.trans hi')
theorem iI.mem{xs:List P3}{r:P3}(h:iI xs r):r∈xs:=let ⟨_,hi,_⟩:=h;qAu hi
theorem iI.le{xs:List P3}{r y:P3}(h:iI xs r)(hy:y∈xs):r.2.2<=y.2.2:=by
 obtain⟨i,_,h1⟩:=h;obtain⟨j,hj⟩:=qJv hy;exact(h1 j y hj).1
inductive Run (rs:List P3) (G:Nat):Nat->List P3->Prop
 | stop:Run rs G G []
 | step {J:Nat}{r:P3}{l:List P3}:J≠G->iI (rs.filter (jn J G)) r->Run rs G (J ||| dQ r) l->Run rs G J (r::l)
theorem Run.uniq{rs:List P3}{G J:Nat}{l l':List P3}(h:Run rs G J l)(h':Run rs G J l'):l=l':=by
 induction h generalizing l' with
 | stop =>
  cases h' with
  | stop=>rfl
  | step ne _ _=>exact absurd rfl ne
 | step ne m _ ih =>
  cases h' with
  | stop=>exact absurd rfl ne
  | step _ m' r' =>
   have e:=m.uniq m';subst e;rw[ih r']
theorem sR{J G:Nat}{rs:List P3}{r:P3}(h:iI (rs.filter (jn J G)) r):r∈rs/\zF G r=true/\(aW J (ea r) != aW J (eb r))=true:=by
 have m:=List.mem_filter.mp h.mem;have z:(zF G r&&(aW J (ea r) != aW J (eb r)))=true:=m.2;rw[qAr] at z;exact⟨m.1,z.1,z.2⟩
theorem Run.facts{rs:List P3}{G J:Nat}{l:List P3}(ok:∀r∈rs,dU r)(h:Run rs G J l)(hJ:J<128):(∀r∈l,r∈rs/\zF G r=true)/\(∀r∈l,¬(aW J (ea r)=true/\aW J (eb r)=true))/\(l.map fun r=>(r.1,r.2.1)).Nodup/\l.length+iH J=iH G:=by
 induction h with
 | stop=>exact⟨fun _ h=>(qBq h).elim,fun _ h=>(qBq h).elim,qIt,by simp⟩
 | @step J r l ne m h ih =>
  obtain⟨hr,hg,hj⟩:=sR m;have o:=ok r hr;obtain⟨o1,o2,o3⟩:=o.lt;obtain⟨i1,i2,i3,i4⟩:=ih (qW hJ o);have up:∀k,k<7->aW J k=true->aW (J ||| dQ r) k=true:=fun k hk z=>by rw[iG hJ o hk,z];rfl
  have both:aW (J ||| dQ r) (ea r)=true/\aW (J ||| dQ r) (eb r)=true:=⟨by rw[iG hJ o (by lia)];simp,by rw[iG hJ o o2];simp⟩;refine⟨fun r' hr'=>?_,fun r' hr' z=>?_,?_,?_⟩
  ·rcases List.mem_cons.mp hr' with rfl | hr'
   ·exact⟨hr,hg⟩
   ·exact i1 r' hr'
  ·rcases List.mem_cons.mp hr' with rfl | hr'
   ·rw[z.1,z.2] at hj;exact absurd hj (by decide)
   ·obtain⟨p1,p2,_⟩:=(ok r' (i1 r' hr').1).lt;exact i2 r' hr' ⟨up _ (by lia) z.1,up _ p2 z.2⟩
  ·rw[qBi,qLh];refine⟨fun z=>?_,i3⟩;obtain⟨r',hr',e⟩:=List.mem_map.mp z;have e1:r'.1=r.1:=(Prod.mk.inj e).1;have e2:r'.2.1=r.2.1:=(Prod.mk.inj e).2;have f1:ea r'=ea r:=e1;have f2:eb r'=eb r:=by unfold eb;rw[e1,e2]
   exact i2 r' hr' (by rw[f1,f2];exact both)
  ·rw[qBj];have:=qX hJ o hj;lia
inductive Cn (R:P3->Prop):Nat->Nat->Prop
 | refl (a:Nat):Cn R a a
 | fw {a:Nat}{r:P3}:R r->Cn R a (ea r)->Cn R a (eb r)
 | bw {a:Nat}{r:P3}:R r->Cn R a (eb r)->Cn R a (ea r)
theorem Cn.trans{R:P3->Prop}{a b c:Nat}(h:Cn R a b)(h':Cn R b c):Cn R a c:=by
 induction h' with
 | refl=>exact h
 | fw r _ ih=>exact .fw r ih
 | bw r _ ih=>exact .bw r ih
theorem Cn.symm{R:P3->Prop}{a b:Nat}(h:Cn R a b):Cn R b a:=by
 induction h with
 | refl=>exact .refl _
 | fw r _ ih=>exact(Cn.bw r (.refl _)).trans ih
 | bw r _ ih=>exact(Cn.fw r (.refl _)).trans ih
theorem Cn.mono{R S:P3->Prop}(f:∀r,R r->S r){a b:Nat}(h:Cn R a b):Cn S a b:=by
 induction h with
 | refl=>exact .refl _
 | fw r _ ih=>exact .fw (f _ r) ih
 | bw r _ ih=>exact .bw (f _ r) ih
theorem Cn.JZ{R:P3->Prop}{a b J:Nat}(h:Cn R a b)(hb:aW J a≠aW J b):∃r,R r/\(aW J (ea r) != aW J (eb r))=true:=by
 induction h with
 | refl=>exact absurd rfl hb
 | @fw r hr h ih =>
  by_cases e:aW J (ea r)=aW J (eb r)
  ·exact ih (by rw[e];exact hb)
  ·exact⟨r,hr,by simpa using e⟩
 | @bw r hr h ih =>
  by_cases e:aW J (ea r)=aW J (eb r)
  ·exact ih (by rw[<- e];exact hb)
  ·exact⟨r,hr,by simpa using e⟩
def Bn(rs:List P3)(G J:Nat)(L:List P3):Prop:=∀(c:Int) (a b:Nat),a<7->b<7->aW J a=true->aW J b=true->Cn (fun r=>r∈rs/\zF G r=true/\r.2.2<=c) a b->Cn (fun r=>r∈L/\r.2.2<=c) a b
theorem Bn.step{rs:List P3}{G J:Nat}{L:List P3}{r:P3}(ok:∀r∈rs,dU r)(h:Bn rs G J L)(hJ:J<128)(m:iI (rs.filter (jn J G)) r):Bn rs G (J ||| dQ r) (L++[r]):=by
 obtain⟨hr,hg,hj⟩:=sR m;have o:=ok r hr;obtain⟨o1,o2,o3⟩:=o.lt;have old:∀c a b,a<7->b<7->aW J a=true->aW J b=true->Cn (fun r=>r∈rs/\zF G r=true/\r.2.2<=c) a b->Cn (fun r'=>r'∈L++[r]/\r'.2.2<=c) a b:=fun c a b ha hb h1 h2 z =>
  (h c a b ha hb h1 h2 z).mono fun r' q=>⟨qDs _ q.1,q.2⟩
 obtain⟨p,w,hp7,hw7,hp,hw,hw',join⟩:∃p w,p<7/\w<7/\aW J p=true/\aW J w=false/\(∀k,k<7->aW (J ||| dQ r) k=true->aW J k=true\/k=w)/\∀(R:P3->Prop),R r->Cn R p w:=by
  cases e1:aW J (ea r) with
  | true =>
   have e2:aW J (eb r)=false:=by
    cases e2:aW J (eb r) with
    | true=>rw[e1,e2] at hj;exact absurd hj (by decide)
    | false=>rfl
   refine⟨ea r,eb r,by lia,o2,e1,e2,fun k hk z=>?_,fun R hR=>.fw hR (.refl _)⟩;rw[iG hJ o hk,qDq,qDq] at z;rcases z with (z | z) | z
   ·exact .inl z
   ·have:=of_decide_eq_true z;subst this;exact .inl e1
   ·exact .inr (of_decide_eq_true z)
  | false =>
   have e2:aW J (eb r)=true:=by
    cases e2:aW J (eb r) with
    | false=>rw[e1,e2] at hj;exact absurd hj (by decide)
    | true=>rfl
   refine⟨eb r,ea r,o2,by lia,e2,e1,fun k hk z=>?_,fun R hR=>.bw hR (.refl _)⟩;rw[iG hJ o hk,qDq,qDq] at z;rcases z with (z | z) | z
   ·exact .inl z
   ·exact .inr (of_decide_eq_true z)
   ·have:=of_decide_eq_true z;subst this;exact .inl e2
 have new:∀c b,b<7->aW J b=true->Cn (fun r=>r∈rs/\zF G r=true/\r.2.2<=c) w b->Cn (fun r'=>r'∈L++[r]/\r'.2.2<=c) w b:=fun c b hb h2 z=>by
  obtain⟨r',⟨q1,q2,q3⟩,q4⟩:=z.JZ (J:=J) (by rw[hw,h2];decide);have q5:r'∈rs.filter (jn J G):=List.mem_filter.mpr ⟨q1,by unfold jn;rw[q2,q4];rfl⟩;have le:=m.le q5;have rc:r.2.2<=c:=by lia
  have y:=old c p b hp7 hb hp h2 ((join _ ⟨hr,hg,rc⟩).trans z);exact(join (fun r'=>r'∈L++[r]/\r'.2.2<=c) ⟨qAp _ (List.mem_singleton.mpr rfl),rc⟩).symm.trans y
 intro c a b ha hb h1 h2 z;rcases hw' a ha h1 with a1 | a1
 ·rcases hw' b hb h2 with b1 | b1
  ·exact old c a b ha hb a1 b1 z
  ·subst b1;exact(new c a ha a1 z.symm).symm
 ·subst a1;rcases hw' b hb h2 with b1 | b1
  ·exact new c b hb b1 z
  ·subst b1;exact .refl _
theorem Run.bn{rs:List P3}{G J:Nat}{l:List P3}(ok:∀r∈rs,dU r)(h:Run rs G J l):∀L,J<128->Bn rs G J L->Bn rs G G (L++l):=by
 induction h with
 | stop=>intro L _ b;rw[qCr];exact b
 | @step J r l ne m h ih =>
  intro L hJ b;have o:=ok r (sR m).1;have z:=ih (L++[r]) (qW hJ o) (b.step ok hJ m);rw[qDj] at z;exact z
theorem j3:∀k:_root_.Fin 7,aW 64 k.1=true->k.1=6:=by decide
theorem CN(rs:List P3)(G:Nat):Bn rs G 64 []:=fun c a b ha hb h1 h2 _=>by
 have e1:a=6:=j3 ⟨a,ha⟩ h1;have e2:b=6:=j3 ⟨b,hb⟩ h2;rw[e1,e2];exact .refl _
theorem Run.well{rs:List P3}{G J:Nat}{l:List P3}(ok:∀r∈rs,dU r)(h:Run rs G J l):∀L,J<128->(∀k,k<7->aW J k=true->Cn (fun r=>r∈L) 6 k)->∀k,k<7->aW G k=true->Cn (fun r=>r∈L++l) 6 k:=by
 induction h with
 | stop=>intro L _ b;rw[qCr];exact b
 | @step J r l ne m h ih =>
  intro L hJ b;obtain⟨hr,hg,hj⟩:=sR m;have o:=ok r hr;obtain⟨o1,o2,o3⟩:=o.lt;have z:=ih (L++[r]) (qW hJ o) fun k hk q=>by
   have old:∀k,k<7->aW J k=true->Cn (fun r'=>r'∈L++[r]) 6 k:=fun k hk y=>(b k hk y).mono fun r' q=>qDs _ q;have hm:r∈L++[r]:=qAp _ (List.mem_singleton.mpr rfl);rw[iG hJ o hk,qDq,qDq] at q;rcases q with (q | q) | q
   ·exact old k hk q
   ·have e:=of_decide_eq_true q;subst e;cases e1:aW J (ea r) with
    | true=>exact old _ (by lia) e1
    | false =>
     have e2:aW J (eb r)=true:=by
      cases e2:aW J (eb r) with
      | false=>rw[e1,e2] at hj;exact absurd hj (by decide)
      | true=>rfl
     exact .bw hm (old _ o2 e2)
   ·have e:=of_decide_eq_true q;subst e;cases e2:aW J (eb r) with
    | true=>exact old _ o2 e2
    | false =>
     have e1:aW J (ea r)=true:=by
      cases e1:aW J (ea r) with
      | false=>rw[e1,e2] at hj;exact absurd hj (by decide)
      | true=>rfl
     exact .fw hm (old _ (by lia) e1)
  rw[qDj] at z;exact z
theorem y9{rs:List P3}{g:Nat}{l:List P3}(ok:∀r∈rs,dU r)(hg:g<64)(h:Run rs (g+64) 64 l):
  (∀r∈l,r∈rs/\zF (g+64) r=true)/\(l.map fun r=>(r.1,r.2.1)).Nodup/\l.length=(eG g).length/\(∀k,k<7->aW (g+64) k=true->Cn (fun r=>r∈l) 6 k) /\
  ∀r∈rs,zF (g+64) r=true->Cn (fun r'=>r'∈l/\r'.2.2<=r.2.2) (ea r) (eb r):=by
 obtain⟨f1,f2,f3,f4⟩:=h.facts ok (by decide);have c1:=uZ ⟨g,hg⟩;have c1:iH (g+64)=(eG g).length+1:=c1;have c2:iH 64=1:=by decide
 have w:=h.well ok [] (by decide) fun k hk q=>by
  have e:k=6:=j3 ⟨k,hk⟩ q;rw[e];exact .refl _
 have b:=h.bn ok [] (by decide) (CN rs _);rw[qFh] at w b;refine⟨f1,f3,by lia,w,fun r hr hi=>?_⟩;have o:=ok r hr;obtain⟨o1,o2,o3⟩:=o.lt;have i2:=hi;unfold zF at i2;rw[qAr] at i2;exact b r.2.2 (ea r) (eb r) (by lia) o2 i2.1 i2.2 (.fw ⟨hr,hi,qMt _⟩ (.refl _))
def wB:Sp:=fun vs H Q _=>∃(b:Addr) (r:P3),vs=[.ref b]/\dC H b r/\Q (.int r.2.2) H
theorem Ka:aK ["rope"] ["rope"] (aE Fw):=by constructor<;>first|rfl|decide +kernel
theorem GK(t:Tx K mg "cost_of" Fw ["rope"] f fd)(T:T K mg AL LN RU OW PL PA VO MA NE fE fH rR rO rP rA rV rM rN iR iO iP iA iV iM iN fL wR wO wP wA wV wM wN CO iC cH cE cW SE NG NL NT):Df P w K mg base cM 1 "cost_of" ["rope"] wB f fd:=by
 refine t.jA Ka (fun vs H Q E h=>?_) (fun cdv A outer s H vs Q E hr h=>?_)
 ·obtain⟨b,r,rfl,_⟩:=h;rfl
 ·obtain⟨b,r,rfl,hb,k⟩:=h;refine⟨_,(aH (aN (a9 cB (pv 0) aG (fun _ _=>rfl)))),?_⟩;exact⟨_,rfl,b,_,_,_,rfl,rfl,dG.of hb,rfl,k⟩
theorem CP:∀u:_root_.Fin 6,qCg ((2^u.1:Nat):Int) 64=((2^u.1+2^6:Nat):Int):=by decide +kernel
theorem GL:∀u v:_root_.Fin 6,u.1<v.1->qCg ((2^u.1:Nat):Int) ((2^v.1:Nat):Int)=((2^u.1+2^v.1:Nat):Int):=by decide +kernel
def Ba:Sp:=fun vs H Q _=>∃(b:Addr) (r:P3),vs=[.ref b]/\dC H b r/\dU r/\Q (.int (dQ r:Int)) H
theorem Kb:aK ["rope"] ["rope"] (aE Fx):=by constructor<;>first|rfl|decide +kernel
theorem GN(t:Tx K mg "ends_of" Fx ["rope"] f fd)(T:T K mg AL LN RU OW PL PA VO MA NE fE fH rR rO rP rA rV rM rN iR iO iP iA iV iM iN fL wR wO wP wA wV wM wN CO iC cH cE cW SE NG NL NT):Df P w K mg base cM 1 "ends_of" ["rope"] Ba f fd:=by
 refine t.jA Kb (fun vs H Q E h=>?_) (fun cdv A outer s H vs Q E hr h=>?_)
 ·obtain⟨b,r,rfl,_⟩:=h;rfl
 ·obtain⟨b,⟨u,v,c⟩,rfl,hb,⟨h1,h2⟩,k⟩:=h;obtain⟨tkWE,hWE⟩:=T.we;refine⟨_,(aD (bK (aS bU (a9 cB (pv 0) aG (fun _ _=>rfl)) (a9 cB (pv 0) aG (fun _ _=>rfl)) (aV _)) (aH (aN (aM rY (a9 cB (bP (v:=.ref AL) (by rfl) T.tP rfl) (a9 cB (pv 0) aG (fun _ _=>rfl)) (fun _ _=>rfl)) (bP (v:=.int 64) (by rfl) hWE ⟨tkWE,rfl⟩)))) aX)
   (aH (aN (aM rY (a9 cB (bP (v:=.ref AL) (by rfl) T.tP rfl) (a9 cB (pv 0) aG (fun _ _=>rfl)) (fun _ _=>rfl)) (a9 cB (bP (v:=.ref AL) (by rfl) T.tP rfl) (a9 cB (pv 0) aG (fun _ _=>rfl)) (fun _ _=>rfl)))))),?_⟩
  have h1:u<=v:=h1;have h2:v<6:=h2;have hb:H b=some (.tup [.int (u:Int),.int (v:Int),.int c]):=hb;refine⟨_,rfl,b,_,_,_,rfl,rfl,dG.of hb,rfl,_,rfl,b,_,_,_,rfl,rfl,dG.of hb,rfl,rfl,_,rfl,dE (fun h3=>?_) (fun h3=>?_)⟩
  ·have e:u=v:=by have:=V.int.inj (of_decide_eq_true h3);lia
   subst e;refine⟨_,rfl,b,_,_,_,rfl,rfl,dG.of hb,rfl,AL,_,_,_,rfl,rfl,T.al _,fO h2,_,_,rfl,rfl,?_⟩;have z:=CP ⟨u,h2⟩;have e:dQ (u,u,c)=2^u+2^6:=by
    unfold dQ ea eb;rw[if_pos rfl]
   rw[e] at k;show Q (.int (qCg ((2^u:Nat):Int) 64)) H;rw[show qCg ((2^u:Nat):Int) 64=((2^u+2^6:Nat):Int) from z];exact k
  ·have e:u≠v:=fun z=>h3 (decide_eq_true (by rw[z]));refine⟨_,rfl,b,_,_,_,rfl,rfl,dG.of hb,rfl,AL,_,_,_,rfl,rfl,T.al _,fO (by lia),_,rfl,b,_,_,_,rfl,rfl,dG.of hb,rfl,AL,_,_,_,rfl,rfl,T.al _,fO h2,_,_,rfl,rfl,?_⟩;have z:=GL ⟨u,by lia⟩ ⟨v,h2⟩ (by show u<v;lia);have e2:dQ (u,v,c)=2^u+2^v:=by
    unfold dQ ea eb;rw[if_neg e]
   rw[e2] at k;show Q (.int (qCg ((2^u:Nat):Int) ((2^v:Nat):Int))) H;rw[show qCg ((2^u:Nat):Int) ((2^v:Nat):Int)=((2^u+2^v:Nat):Int) from z];exact k
theorem CQ:∀(J:_root_.Fin 128) (a b:_root_.Fin 7),a.1≠b.1->decide (qBw ((2^a.1+2^b.1:Nat):Int) (J.1:Int)=((2^a.1+2^b.1:Nat):Int))=(aW J.1 a.1&&aW J.1 b.1)/\decide (qBw ((2^a.1+2^b.1:Nat):Int) (J.1:Int)=0)=(!aW J.1 a.1 && !aW J.1 b.1):=by decide +kernel
theorem Bb{J:Nat}{r:P3}(hJ:J<128)(h:dU r):decide (qBw (dQ r:Int) (J:Int)=(dQ r:Int))=(aW J (ea r)&&aW J (eb r))/\decide (qBw (dQ r:Int) (J:Int)=0)=(!aW J (ea r) && !aW J (eb r)):=by
 obtain⟨h1,h2,h3⟩:=h.lt;exact CQ ⟨J,hJ⟩ ⟨ea r,by lia⟩ ⟨eb r,h2⟩ h3
def DI:Sp:=fun vs H Q _=>∃(b:Addr) (r:P3) (J G:Nat),vs=[.ref b,.int (J:Int),.int (G:Int)]/\dC H b r/\dU r/\J<128/\G<128/\Q (.bl (jn J G r)) H
theorem GO{a b:Int}:decide (V.int a=V.int b)=decide (a=b):=decide_eq_decide.mpr ⟨V.int.inj,congrArg V.int⟩
theorem DJ:aK ["rope","joined","ground","ends"] ["rope","joined","ground"] (aE Fy):=by constructor<;>first|rfl|decide +kernel
theorem GP{f1:Addr}{fd1:qBd}(t:Tx K mg "joins_on" Fy ["rope","joined","ground"] f fd)(T:T K mg AL LN RU OW PL PA VO MA NE fE fH rR rO rP rA rV rM rN iR iO iP iA iV iM iN fL wR wO wP wA wV wM wN CO iC cH cE cW SE NG NL NT)(D_ends_of:Df P w K mg base cM 1 "ends_of" ["rope"] Ba f1 fd1):Df P w K mg base cM 2 "joins_on" ["rope","joined","ground"] DI f fd:=by
 refine t.jA DJ (fun vs H Q E h=>?_) (fun cdv A outer s H vs Q E hr h=>?_)
 ·obtain⟨b,r,J,G,rfl,_⟩:=h;rfl
 ·obtain⟨b,r,J,G,rfl,hb,ok,hJ,hG,k⟩:=h;refine⟨_,(aD (bF (i:=3) DJ.nd rfl cK (bD D_ends_of hr (by decide) (by rfl) (aA (pv 0) aB)))
   (aH (aN (jF (eJ bU (aM gA (pv 3) (pv 2)) (pv 3) (aV _)) (jF (eJ gR (aM gA (pv 3) (pv 1)) aG (aV _)) (j9 (eJ gR (aM gA (pv 3) (pv 1)) (pv 3) (aV _)))))))),?_⟩
  refine⟨_,rfl,b,r,rfl,hb,ok,?_⟩;obtain⟨g1,_⟩:=Bb hG ok;obtain⟨j1,j2⟩:=Bb hJ ok;refine⟨_,rfl,_,rfl,_,_,rfl,rfl,_,rfl,rfl,_,rfl,?_⟩;rw[GO,g1];have ek:jn J G r=((aW G (ea r)&&aW G (eb r))&&(aW J (ea r) != aW J (eb r))):=rfl;rw[ek] at k;cases eg:(aW G (ea r)&&aW G (eb r)) with
  | false =>
   rw[eg] at k;exact bG k
  | true =>
   rw[eg] at k;refine cT ?_;refine⟨_,rfl,_,rfl,_,_,rfl,rfl,rfl,_,rfl,?_⟩;rw[GO,j2];have last:(!aW J (ea r) && !aW J (eb r))=false->HE MJ (HE (zJ fun i j=>V.int (qBw i j)) (rS 3) (rS 1)) (rS 3) [some (.ref b),some (.int (J:Int)),some (.int (G:Int)),some (.int (dQ r:Int))] H Q:=fun z=>by
    refine⟨_,rfl,_,rfl,_,_,rfl,rfl,_,rfl,rfl,?_⟩;rw[GO,j1];cases e1:aW J (ea r) <;> cases e2:aW J (eb r)
    ·rw[e1,e2] at z;cases z
    ·rw[e1,e2] at k;exact k
    ·rw[e1,e2] at k;exact k
    ·rw[e1,e2] at k;exact k
   cases e3:(!aW J (ea r) && !aW J (eb r)) with
   | true =>
    have e4:aW J (ea r)=false/\aW J (eb r)=false:=by
     cases e1:aW J (ea r) <;> cases e2:aW J (eb r) <;> rw[e1,e2] at e3 <;> first | exact⟨rfl,rfl⟩ | cases e3
    rw[e4.1,e4.2] at k;exact bG k
   | false=>exact cT (last e3)
def eO(H:Hp)(b:Addr):P3:=match H b with
 | some (.tup [.int u,.int v,.int c])=>(u.toNat,v.toNat,c)
 | _=>(0,0,0)
theorem dC.of{H:Hp}{b:Addr}{r:P3}(h:dC H b r):eO H b=r:=by
 unfold eO;rw[show H b=some (.tup [.int (r.1:Int),.int (r.2.1:Int),.int r.2.2]) from h];rfl
theorem A2.filter{H:Hp}{as:List Addr}{rs:List P3}(p:P3->Bool)(h:A2 (dC H) as rs):A2 (dC H) (as.filter fun b=>p (eO H b)) (rs.filter p):=by
 induction h with
 | nil=>exact .nil
 | @cons a x as xs r _ ih =>
  cases e:p x with
  | true =>
   rw[qEr (by rw[r.of];exact e),qEr e];exact .cons r ih
  | false =>
   rw[qEs (by rw[r.of,e];decide),qEs (by rw[e];decide)];exact ih
theorem k8(p:Addr->Bool):∀as:List Addr,(as.map V.ref).filterMap (fun x=>match x with | .ref b=>if p b=true then some (V.ref b) else none | _=>none)=(as.filter p).map V.ref
 | []=>rfl
 | a::as=>by
  have ih:=k8 p as;rw[qBi];cases e:p a with
  | true =>
   rw[qFy (b:=V.ref a) (by show(if p a=true then _ else _)=_;rw[if_pos e]),qEr e,ih];rfl
  | false =>
   rw[qFz (by show(if p a=true then _ else _)=_;rw[if_neg (by rw[e];decide)]),qEs (by rw[e];decide),ih]
def DK:Sp:=fun vs H Q _=>∃(lr:Addr) (as:List Addr) (rs:List P3) (g:Nat),vs=[.ref lr,.int (g:Int)]/\H lr=some (.lst (as.map V.ref))/\A2 (dC H) as rs/\(∀r∈rs,dU r)/\(∀h,h<6->aW g h=true->∃r∈rs,r.1=h/\r.2.1=h)/\g<64/\as.length<=100 /\
 ∀(l:Addr) (cs:List Addr) (L:List P3) (H':Hp),H l=none->aI H H'->H' l=some (.lst (cs.map V.ref))->A2 (dC H') cs L->Run rs (g+64) 64 L->Q (.ref l) H'
theorem CS:∀g:_root_.Fin 64,qCg (g.1:Int) 64=((g.1+64:Nat):Int):=by decide +kernel
theorem CT:∀(J:_root_.Fin 128) (a b:_root_.Fin 7),qCg (J.1:Int) ((2^a.1+2^b.1:Nat):Int)=((J.1 ||| (2^a.1+2^b.1):Nat):Int):=by decide +kernel
theorem vA:∀(g:_root_.Fin 64) (h:_root_.Fin 7),aW (g.1+64) h.1=(aW g.1 h.1||decide (h.1=6)):=by decide +kernel
theorem CU:∀(J G:_root_.Fin 128),(∀h:_root_.Fin 7,aW J.1 h.1=aW G.1 h.1)->J.1=G.1:=by decide +kernel
theorem Bc{rs:List P3}{g J:Nat}(hg:g<64)(hJ:J<128)(sub:∀h,h<7->aW J h=true->aW (g+64) h=true)(w6:aW J 6=true)(ne:J≠g+64)(wr:∀h,h<6->aW g h=true->∃r∈rs,r.1=h/\r.2.1=h):0<(rs.filter (jn J (g+64))).length:=by
 obtain⟨h,hh7,hh⟩:∃h,h<7/\aW J h≠aW (g+64) h:=by
  refine qCp fun z=>ne ?_;exact CU ⟨J,hJ⟩ ⟨g+64,by lia⟩ fun h=>qCp fun q=>z ⟨h.1,h.2,q⟩
 have hG:aW (g+64) h=true:=by
  cases e:aW (g+64) h with
  | true=>rfl
  | false =>
   cases e2:aW J h with
   | true=>rw[sub h hh7 e2] at e;cases e
   | false=>rw[e,e2] at hh;exact absurd rfl hh
 have hJf:aW J h=false:=by
  cases e2:aW J h with
  | true=>rw[e2,hG] at hh;exact absurd rfl hh
  | false=>rfl
 have h6:h≠6:=fun z=>by rw[z,w6] at hJf;cases hJf
 have hb:=vA ⟨g,hg⟩ ⟨h,hh7⟩;have hb:aW (g+64) h=(aW g h||decide (h=6)):=hb
 rw[hG,decide_eq_false h6,qLu] at hb;obtain⟨r,hr,e1,e2⟩:=wr h (by lia) hb.symm;have a1:ea r=h:=e1;have a2:eb r=6:=by unfold eb;rw[if_pos (by rw[e1,e2])]
 have hw:=vA ⟨g,hg⟩ ⟨6,by decide⟩;have hw:aW (g+64) 6=(aW g 6||decide (6=6)):=hw
 rw[decide_eq_true rfl,qMb] at hw;refine List.length_pos_of_mem (List.mem_filter.mpr ⟨hr,?_⟩);unfold jn zF;rw[a1,a2,hG,hw,hJf,w6];rfl
theorem qY(J:Nat):iH J<=7:=by
 unfold iH;exact qAt (List.length_filter_le _ _) (by decide)
theorem GQ{J:Nat}{r:P3}(hJ:J<128)(h:dU r):qCg (J:Int) (dQ r:Int)=((J ||| dQ r:Nat):Int):=by
 obtain⟨h1,h2,h3⟩:=h.lt;exact CT ⟨J,hJ⟩ ⟨ea r,by lia⟩ ⟨eb r,h2⟩
theorem pJ:aK ["ropes","group","ground","joined","laid","rope"] ["ropes","group"] (aE Fz):=by constructor<;>first|rfl|decide +kernel
theorem GR{fC f1 f2:Addr}{fdC fd1 fd2:qBd}(t:Tx K mg "least_net" Fz ["ropes","group"] f fd)(T:T K mg AL LN RU OW PL PA VO MA NE fE fH rR rO rP rA rV rM rN iR iO iP iA iV iM iN fL wR wO wP wA wV wM wN CO iC cH cE cW SE NG NL NT)(D_joins_on:Df P w K mg base cM 2 "joins_on" ["rope","joined","ground"] DI f1 fd1)(D_ends_of:Df P w K mg base cM 1 "ends_of" ["rope"] Ba f2 fd2)(D_cost_of:Df P w K mg base cM 1 "cost_of" ["rope"] wB fC fdC):
  Df P w K mg base cM 3 "least_net" ["ropes","group"] DK f fd:=by
 refine t.jA pJ (fun vs H Q E h=>?_) (fun cdv A outer s H vs Q E hr h=>?_)
 ·obtain⟨lr,as,rs,g,rfl,_⟩:=h;rfl
 ·obtain⟨lr,as,rs,g,rfl,hlr,ha,ok,wr,hg,hlen,k⟩:=h;obtain⟨tkWE,hWE⟩:=T.we;refine⟨_,(aD (bF (i:=2) pJ.nd rfl (by first|exact .inl rfl|exact .inr rfl) (aM rY (pv 1) (bP (v:=.int 64) (by rfl) hWE ⟨tkWE,rfl⟩)))
   (aD (bF (i:=3) pJ.nd rfl (by first|exact .inl rfl|exact .inr rfl) (bP (v:=.int 64) (by rfl) hWE ⟨tkWE,rfl⟩))
   (aD (bF (i:=4) pJ.nd rfl cK (bZ aB))
   (aD (rW PassesOwn.never (aS gR (pv 3) (pv 2) (aV _))
    (aD (bF (i:=5) pJ.nd rfl cK (xZ D_cost_of hr (by decide) (by rfl) T.pD (bP (v:=.ref fC) (by rfl) D_cost_of.at_ rfl) (aA (bM (NB:=["each","ground","joined"]) (pick:=[none,some 2,some 3]) (bR (by with_unfolding_all rfl) (by exact(And.intro rfl (And.intro rfl trivial))) rfl (by decide +kernel) (by decide +kernel) (by rfl) (by rfl)) rfl
     (bL (pv 0)) (fun _ _ _=>aP (i:=0) (show(["each","ground","joined"]:List Str).Nodup from by decide +kernel) rfl cK)
     (fun _ _ _=>gN (cY (bD D_joins_on hr (by decide) (by rfl) (aA (pv 0) (aA (pv 2) (aA (pv 1) aB)))))) (fun _ _ _=>(pv 0))) aB)))
    (aD (bN (dP qCz qDg qDf eD (pv 4) (aA (pv 5) aB)))
    (aH (bF (i:=3) pJ.nd rfl (by first|exact .inl rfl|exact .inr rfl) (aM rY (pv 3) (bD D_ends_of hr (by decide) (by rfl) (aA (pv 5) aB))))))))
   (aH (aN (pv 4))))))),?_⟩
  refine⟨_,rfl,_,_,rfl,rfl,?_⟩;show bE 2 (V.int (qCg (g:Int) 64)) _ _ _;rw[show qCg (g:Int) 64=((g+64:Nat):Int) from CS ⟨g,hg⟩];refine⟨by show 0<=qAg;decide,fun l hl=>?_⟩;refine⟨fun m σ' H'=>∃(J:Nat) (cs:List Addr) (L:List P3) (o5:Option V),m=8-iH J/\J<128/\(∀h,h<7->aW J h=true->aW (g+64) h=true)/\aW J 6=true/\L.length+1=iH J/\aI H H'/\H' l=some (.lst (cs.map V.ref))/\A2 (dC H') cs L/\(∀rest,Run rs (g+64) J rest->Run rs (g+64) 64 (L++rest))/\σ'=[some (.ref lr),some (.int (g:Int)),some (.int ((g+64:Nat):Int)),some (.int (J:Int)),some (.ref l),o5],⟨_,64,[],[],none,rfl,by decide,fun h hh z=>?_,by decide,by decide,.aJ hl,aC,.nil,fun rest z=>z,rfl⟩,?_⟩
  ·have e:h=6:=j3 ⟨h,hh⟩ z;subst e;have hw:=vA ⟨g,hg⟩ ⟨6,by decide⟩;have hw:aW (g+64) 6=(aW g 6||decide (6=6)):=hw
   rw[decide_eq_true rfl,qMb] at hw;exact hw
  rintro m σ' H1 ⟨J,cs,L,o5,rfl,hJ,sub,w6,hL,s1,e1,a1,run,rfl⟩;refine⟨_,rfl,_,rfl,rfl,_,rfl,dE (fun hp=>?_) (fun hp=>?_)⟩
  ·have ne:J≠g+64:=fun z=>by
    subst z;have hp:(!decide (V.int ((g+64:Nat):Int)=V.int ((g+64:Nat):Int)))=true:=hp;rw[decide_eq_true rfl] at hp;cases hp
   have pos:=Bc hg hJ sub w6 ne wr;have aR:=a1;refine⟨fun σ' H'=>∃(J':Nat) (cs:List Addr) (L:List P3) (o5:Option V),iH J<iH J'/\J'<128/\(∀h,h<7->aW J' h=true->aW (g+64) h=true)/\aW J' 6=true/\L.length+1=iH J'/\aI H H'/\H' l=some (.lst (cs.map V.ref))/\A2 (dC H') cs L/\(∀rest,Run rs (g+64) J' rest->Run rs (g+64) 64 (L++rest))/\σ'=[some (.ref lr),some (.int (g:Int)),some (.int ((g+64:Nat):Int)),some (.int (J':Int)),some (.ref l),o5],fun σ' H' ⟨J',cs,L,o5,b1,b2,b3,b4,b5,b6,b7,b8,b9,b10⟩=>⟨8-iH J',by have:=qY J';have:=qY J;lia,J',cs,L,o5,rfl,b2,b3,b4,b5,b6,b7,b8,b9,b10⟩,?_⟩;have hlr1:=s1 _ _ hlr;have ha1:A2 (dC H1) as rs:=ha.imp fun _ _ z=>z.keep s1.t;refine⟨_,rfl,lr,rfl,⟨_,aY.of hlr1⟩,?_⟩;refine cF (xs:=as.map V.ref) (fun _ x=>match x with | .ref b=>if jn J (g+64) (eO H1 b)=true then some (V.ref b) else none | _=>none) (aY.of hlr1) (by rw[qAa];exact qBb (aQ (by lia))) (fun i x H2 kk kk0 s2 hx h1 h2=>?_) fun D H2 hD s2 hd=>?_
   ·obtain⟨b,hb,rfl⟩:=at_of hx;obtain⟨r,hr,pr⟩:=ha1.at hb;have okr:=ok r (qAu hr);have pr2:=pr.keep s2.t;refine⟨_,rfl,_,rfl,_,rfl,b,r,J,g+64,rfl,pr2,okr,hJ,by lia,_,rfl,?_⟩;cases ej:jn J (g+64) r with
    | true=>exact cT ⟨_,rfl,h1 _ (by show(if jn J (g+64) (eO H1 b)=true then some (V.ref b) else none)=_;rw[pr.of,if_pos ej]) _ (.refl _)⟩
    | false=>exact bG (h2 (by show(if jn J (g+64) (eO H1 b)=true then some (V.ref b) else none)=_;rw[pr.of,if_neg (by rw[ej];decide)]) _ (.refl _))
   ·rw[cJ,k8 fun b=>jn J (g+64) (eO H1 b)] at hd;have aF:A2 (dC H2) (as.filter fun b=>jn J (g+64) (eO H1 b)) (rs.filter (jn J (g+64))):=(ha1.filter (jn J (g+64))).imp fun _ _ z=>z.keep s2.t;generalize (as.filter fun b=>jn J (g+64) (eO H1 b))=fs at hd aF;have kfa:∀(i:Nat) (r:P3),(rs.filter (jn J (g+64)))[i]?=some r->((rs.filter (jn J (g+64))).getD i (0,0,0)).2.2=r.2.2:=fun i r e=>by rw[qAs,e];rfl
    refine⟨D,_,fun i=>((rs.filter (jn J (g+64))).getD i (0,0,0)).2.2,rfl,aY.of hd,by rw[qAa,aF.len];exact pos,fun i v hv=>?_,fun i v hv best=>?_⟩
    ·obtain⟨b,hb,rfl⟩:=at_of hv;obtain⟨r,hr,pr⟩:=aF.at hb;exact⟨b,r,rfl,pr,congrArg V.int (kfa i r hr).symm,rfl⟩
    ·obtain⟨b,hb,rfl⟩:=at_of hv;obtain⟨r,hr,pr⟩:=aF.at hb;have mn:iI (rs.filter (jn J (g+64))) r:=⟨i,hr,fun j y hy=>by
      have z:=best j (by rw[qAa,aF.len];exact(List.getElem?_eq_some_iff.mp hy).1);dsimp only at z;rw[kfa i r hr,kfa j y hy] at z;exact z⟩
     obtain⟨m1,m2,m3⟩:=sR mn;have okr:=ok r m1;obtain⟨o1,o2,o3⟩:=okr.lt;have e2:=s2 _ _ e1;refine⟨_,rfl,.inl ⟨rfl,_,aY.of e2⟩,_,rfl,l,_,_,rfl,rfl,e2,by rw[qAa,a1.len];have:=qY J;exact aQ (by lia),?_⟩;have t3:dX H2 (upd H2 l (.lst (cs.map V.ref++[V.ref b]))):=dX.lst e2;refine⟨_,rfl,_,rfl,b,r,rfl,pr.keep t3,okr,_,_,rfl,rfl,?_⟩;refine⟨J ||| dQ r,cs++[b],L++[r],some (.ref b),by rw[qX hJ okr m3];lia,qW hJ okr,fun h hh z=>?_,?_,by rw[qAn,qX hJ okr m3];show _+1+1=_;lia,(s1.trans s2).upd_ne' hl,by rw[aC,qCc];rfl,(a1.imp fun _ _ z=>(z.keep s2.t).keep t3).snoc (pr.keep t3),fun rest z=>?_,?_⟩
     ·rw[iG hJ okr hh,qDq,qDq] at z;unfold zF at m2;rw[qAr] at m2;rcases z with (z | z) | z
      ·exact sub h hh z
      ·rw[of_decide_eq_true z];exact m2.1
      ·rw[of_decide_eq_true z];exact m2.2
     ·rw[iG hJ okr (by decide),w6];rfl
     ·rw[qDj];exact run _ (.step ne mn z)
     ·show [some (V.ref lr),some (V.int (g:Int)),some (V.int ((g+64:Nat):Int)),some (V.int (qCg (J:Int) (dQ r:Int))),some (V.ref l),some (V.ref b)]=_;rw[GQ hJ okr]
  ·have e:J=g+64:=by
    refine qCp fun z=>hp ?_;show(!decide (V.int (J:Int)=V.int ((g+64:Nat):Int)))=true;rw[decide_eq_false fun q=>z (by have:=V.int.inj q;lia)];rfl
   subst e;have z:=run [] .stop;rw[qCr] at z;exact⟨_,rfl,k l cs L H1 hl s1 e1 a1 z⟩
def DM:Sp:=fun vs H Q _=>∃(p:Addr) (ns:List Int),vs=[.ref p]/\H p=some (.lst (ns.map V.int))/\(∀n∈ns,0<=n)/\ns.length<=64/\∀H',aI H H'->Q .non H'
theorem wC:∀{ns:List Int},(∀n∈ns,0<=n)->(ns.map fun n=>decide (n<0)).any id=false
 | [],_=>rfl
 | n::r,h=>by
  have a:=h n (by simp);have i:=wC (ns:=r) fun x hx=>h x (qBf _ hx);show(decide (n<0)||(r.map fun n=>decide (n<0)).any id)=false
  rw[i,decide_eq_false (by lia)];rfl
theorem Kc:aK ["costs"] ["costs"] (aE Fv):=by constructor<;>first|rfl|decide +kernel
theorem GS{f1:Addr}{fd1:qBd}(t:Tx K mg "check_costs" Fv ["costs"] f fd)(T:T K mg AL LN RU OW PL PA VO MA NE fE fH rR rO rP rA rV rM rN iR iO iP iA iV iM iN fL wR wO wP wA wV wM wN CO iC cH cE cW SE NG NL NT)(D_check_numbers:Df P w K mg base (gZ P w) 2 "check_numbers" ["things"] (sM K NL) f1 fd1):
  Df P w K mg base (gZ P w) 3 "check_costs" ["costs"] DM f fd:=by
 refine t.Dw Kc (fun vs H Q E h=>?_) (fun cdv A outer s H vs Q E hr h=>?_)
 ·obtain⟨p,ns,rfl,_⟩:=h;rfl
 ·obtain⟨p,ns,rfl,hp,h0,hlen,k⟩:=h;refine⟨_,(aD (bN (eK bA.toPass D_check_numbers hr (by decide) (by rfl) (aA (pv 0) aB)))
   (aH (bK (cY (aO (sD rfl) (by rfl) T.pC Aj (aA (bM (NB:=["cost"]) (pick:=[none]) (bR (by with_unfolding_all rfl) (by exact trivial) rfl (by decide +kernel) (by decide +kernel) (by rfl) (by rfl)) rfl
     (bL (pv 0)) (fun _ _ _=>aP (i:=0) (show(["cost"]:List Str).Nodup from by decide +kernel) rfl cK)
     (fun _ _ _=>bS) (fun _ _ _=>(eJ jM (pv 0) aG (aV _)))) aB))) (aH (dH bA rfl (by rfl) T.yM T.yN (aA aU aB))) aX))),?_⟩
  refine⟨_,rfl,p,_,rfl,.inl hp,lR,by rw[qAa];lia,fun no=>(by rw[all_ints] at no;cases no),fun _ H1 s1=>?_⟩;have hp1:=s1 _ _ hp;refine⟨_,rfl,p,rfl,⟨_,aY.of hp1⟩,?_⟩;refine cF (xs:=ns.map V.int) (fun _ x=>match x with | .int n=>some (.bl (decide (n<0))) | _=>none) (aY.of hp1) (by rw[qAa];exact qBb (aQ (by lia))) (fun i x H2 kk kk0 s2 hx h1 h2=>?_) fun D H2 hD s2 hd=>?_
  ·obtain⟨n,_,rfl⟩:=List.mem_map.mp (qAu hx);exact⟨_,rfl,_,_,rfl,rfl,h1 _ rfl _ (.refl _)⟩
  ·have ed:H2 D=some (.lst ((ns.map fun n=>decide (n<0)).map V.bl)):=by
    rw[hd,cJ,qCn,qBt,<- qEa];rfl
   refine⟨D,_,rfl,aY.of ed,_,rfl,?_⟩;rw[wC h0];exact bG (k H2 (s1.trans s2))
def qZ(NE:Addr)(H:Hp)(a ll lr:Addr)(cs:List Int)(rs:List P3):Prop:=∃(dx:Addr) (bs:List Addr),H a=some (.ins NE dx [("many",.int (cs.length:Int)),("costs",.ref ll),("ropes",.ref lr)])/\H ll=some (.lst (cs.map V.int))/\H lr=some (.lst (bs.map V.ref))/\A2 (dC H) bs rs/\1<=cs.length/\cs.length<=6/\Pw cs.length rs/\bs.length<=15
theorem qZ.same{NE:Addr}{H H':Hp}{a ll lr:Addr}{cs:List Int}{rs:List P3}(h:qZ NE H a ll lr cs rs)(s:aI H H'):qZ NE H' a ll lr cs rs :=
 let ⟨dx,bs,h1,h2,h3,h4,h5⟩:=h;⟨dx,bs,s _ _ h1,s _ _ h2,s _ _ h3,h4.imp fun _ _ z=>z.keep s.t,h5⟩
theorem A2.DN{H:Hp}{bs:List Addr}{rs:List P3}(h:A2 (dC H) bs rs):bs.map (fun b=>(eO H b).2.2)=rs.map (·.2.2):=by
 induction h with
 | nil=>rfl
 | cons r _ ih=>rw[qBi,qBi,ih,r.of]
def GU(NE:Addr):Sp:=fun vs H Q _=>∃(x dx p q:Addr) (cs:List Int) (as:List Addr),vs=[.ref x,.ref p,.ref q]/\H x=some (.ins NE dx [])/\H p=some (.lst (cs.map V.int))/\1<=cs.length/\cs.length<=6/\(∀c∈cs,0<=c)/\H q=some (.lst (as.map V.ref))/\dN cs.length H as/\(∀a∈as,∀r,dC H a r->0<=r.2.2) /\
 ∀(l lr:Addr) (bs:List Addr) (rs:List P3) (H':Hp),H l=none->H lr=none->bs.Perm as->SameBut x H H'->A2 (dC H') bs rs->qZ NE H' x l lr cs rs->jZ rs->Q .non H'
theorem Ms:aK ["self","costs","ropes"] ["self","costs","ropes"] (aE HZ):=by constructor<;>first|rfl|decide +kernel
theorem Ke{f1 f2 f3:Addr}{fd1 fd2 fd3:qBd}(t:Mx K "__init__" "Net.__init__" HZ ["self","costs","ropes"] f fd)(T:T K mg AL LN RU OW PL PA VO MA NE fE fH rR rO rP rA rV rM rN iR iO iP iA iV iM iN fL wR wO wP wA wV wM wN CO iC cH cE cW SE NG NL NT)(D_RI:Md P w K mg base 4 ["self","many"] (qS K NL) iR)(D_check_costs:Df P w K mg base (gZ P w) 3 "check_costs" ["costs"] DM f1 fd1)(D_sorted_pairs:Df P w K mg base (gZ P w) 4 "sorted_pairs" ["many","pairs"] (vY K NL) f2 fd2)(D_cost_of:Df P w K mg base cM 1 "cost_of" ["rope"] wB f3 fd3):
  Md P w K mg base 5 ["self","costs","ropes"] (GU NE) f:=by
 refine t.BG Ms (fun vs H Q E h=>?_) (fun cdv A outer s H vs Q E hr h=>?_)
 ·obtain⟨x,dx,p,q,cs,as,rfl,_⟩:=h;rfl
 ·obtain⟨x,dx,p,q,cs,as,rfl,hx,hp,c1,c6,c0,hq,ok,r0,k⟩:=h;refine⟨_,(aD (bN (oP bA.toPass (by rfl) T.zE T.Iq D_RI hr (by decide) (aA (pv 0) (aA (aO aZ (by rfl) T.cN cC (aA (pv 1) aB)) aB))))
   (aD (bN (eK bA.toPass D_check_costs hr (by decide) (by rfl) (aA (pv 1) aB)))
   (aD (eW (pv 0) (cG dB (by rfl) T.fF fZ (aA (pv 1) aB)) rfl)
   (aD (eW (pv 0) (eK bA.toPass D_sorted_pairs hr (by decide) (by rfl) (aA (bY (pv 0) rfl) (aA (pv 2) aB))) rfl)
   (aH (bN (eK bA.toPass D_check_costs hr (by decide) (by rfl) (aA (bM (NB:=["rope"]) (pick:=[none]) (bR (by with_unfolding_all rfl) (by exact trivial) rfl (by decide +kernel) (by decide +kernel) (by rfl) (by rfl)) rfl
     (bL (bY (pv 0) rfl)) (fun _ _ _=>aP (i:=0) (show(["rope"]:List Str).Nodup from by decide +kernel) rfl cK)
     (fun _ _ _=>bS) (fun _ _ _=>(bD D_cost_of hr (by decide) (by rfl) (aA (pv 0) aB)))) aB)))))))),?_⟩
  have i16:kF 1 6 (.int (cs.length:Int))=true:=by rw[gC,decide_eq_true c1,decide_eq_true c6];rfl
  have hel:((cs.map V.int).length:Int)=(cs.length:Int):=by rw[qAa]
  refine⟨_,rfl,_,rfl,p,_,rfl,.inl (aY.of hp),x,NE,dx,.int (cs.length:Int),(by show [V.ref x,V.int ((cs.map V.int).length:Int)]=_;rw[hel]),hx,T.vW.oc.cl,T.vW.nm,.int _,fun no=>(by rw[i16] at no;cases no),fun _=>?_⟩;have sb1:SameBut x H (upd H x (.ins NE dx [("many",V.int (cs.length:Int))])):=((aI.refl H).but x).gO _;have t1:dX H (upd H x (.ins NE dx [("many",V.int (cs.length:Int))])):=fun b xs e=>sb1 _ _ (e8 e hx (fun z=>nomatch z)) e;have hp1:=sb1 _ _ (e8 hp hx (fun z=>nomatch z)) hp;have hq1:=sb1 _ _ (e8 hq hx (fun z=>nomatch z)) hq;have Ci:dN cs.length (upd H x (.ins NE dx [("many",V.int (cs.length:Int))])) as:=ok.same fun b hb o e=>by
   obtain⟨u,v,n,e',_⟩:=ok.1 b hb;exact sb1 _ _ (e8 e' hx (fun z=>nomatch z)) e
  have hx1:upd H x (.ins NE dx [("many",V.int (cs.length:Int))]) x=some (.ins NE dx [("many",V.int (cs.length:Int))]):=aC;generalize upd H x (.ins NE dx [("many",V.int (cs.length:Int))])=H1 at sb1 t1 hp1 hq1 Ci hx1|-;refine⟨_,rfl,p,cs,rfl,hp1,c0,by lia,fun H2 s2=>?_⟩;refine⟨_,rfl,p,_,rfl,.inl (aY.of (s2 _ _ hp1)),fun l hl=>?_⟩;have u3:=aI.aJ (o:=.lst (cs.map V.int)) hl;have hx3:=u3 _ _ (s2 _ _ hx1);have nl:l≠x:=(aT (s2 _ _ hx1) hl).symm;have l0:H l=none:=by
   cases e:H l with
   | none=>rfl
   | some o=>have z:=s2 _ _ (sb1 _ _ nl e);rw[hl] at z;cases z
  refine⟨_,rfl,x,NE,dx,_,rfl,hx3,T.vW.oc.cl,T.LQ,(by show 1<1000;decide),?_⟩;have sb4:=((sb1.then (s2.trans u3)).gO (.ins NE dx [("many",V.int (cs.length:Int)),("costs",.ref l)]));have k4:upd (upd H2 l (.lst (cs.map V.int))) x (.ins NE dx [("many",V.int (cs.length:Int)),("costs",.ref l)]) l=some (.lst (cs.map V.int)):=by rw[aL nl];exact aC
  have hx4:upd (upd H2 l (.lst (cs.map V.int))) x (.ins NE dx [("many",V.int (cs.length:Int)),("costs",.ref l)]) x=some (.ins NE dx [("many",V.int (cs.length:Int)),("costs",.ref l)]):=aC;show BO _ _ _ _ (upd (upd H2 l (.lst (cs.map V.int))) x (.ins NE dx [("many",V.int (cs.length:Int)),("costs",.ref l)]));generalize upd (upd H2 l (.lst (cs.map V.int))) x (.ins NE dx [("many",V.int (cs.length:Int)),("costs",.ref l)])=H4 at sb4 k4 hx4|-;have hq4:=sb4 _ _ (e8 hq hx (fun z=>nomatch z)) hq;have ok4:dN cs.length H4 as:=ok.same fun b hb o e=>by
   obtain⟨u,v,n,e',_⟩:=ok.1 b hb;exact sb4 _ _ (e8 e' hx (fun z=>nomatch z)) e
  refine⟨_,rfl,x,NE,dx,_,_,rfl,hx4,T.vW.oc.cl,T.vW.nm,rfl,_,rfl,(cs.length:Int),q,as,rfl,hq4,ok4.g7,by have:=ok.2.2;lia,fun no H5 s5=>(by rw[ok4.ok] at no;cases no),fun _ lr bs H5 hlr hb hpw s5 e5=>?_⟩;have hx5:=s5 _ _ hx4;have nlr:lr≠x:=(aT hx4 hlr).symm;have lr0:H lr=none:=by
   cases e:H lr with
   | none=>rfl
   | some o=>have z:=sb4 _ _ nlr e;rw[hlr] at z;cases z
  refine⟨_,rfl,x,NE,dx,_,rfl,hx5,T.vW.oc.cl,T.CD,(by show 2<1000;decide),?_⟩;have sb6:=((sb4.then s5).gO (.ins NE dx [("many",V.int (cs.length:Int)),("costs",.ref l),("ropes",.ref lr)]));have hx6:upd H5 x (.ins NE dx [("many",V.int (cs.length:Int)),("costs",.ref l),("ropes",.ref lr)]) x=some (.ins NE dx [("many",V.int (cs.length:Int)),("costs",.ref l),("ropes",.ref lr)]):=aC;have t46:dX H4 (upd H5 x (.ins NE dx [("many",V.int (cs.length:Int)),("costs",.ref l),("ropes",.ref lr)])):=fun b xs e=>by rw[aL (e8 (s5 _ _ e) hx5 (fun z=>nomatch z))];exact s5 _ _ e
  have e6:upd H5 x (.ins NE dx [("many",V.int (cs.length:Int)),("costs",.ref l),("ropes",.ref lr)]) lr=some (.lst (bs.map V.ref)):=by rw[aL nlr];exact e5
  have k6:upd H5 x (.ins NE dx [("many",V.int (cs.length:Int)),("costs",.ref l),("ropes",.ref lr)]) l=some (.lst (cs.map V.int)):=by rw[aL nl];exact s5 _ _ k4
  have ok6:dN cs.length (upd H5 x (.ins NE dx [("many",V.int (cs.length:Int)),("costs",.ref l),("ropes",.ref lr)])) bs:=(ok.same fun b hb o e=>by
   obtain⟨u,v,n,e',_⟩:=ok.1 b hb;exact sb6 _ _ (e8 e' hx (fun z=>nomatch z)) e).v3 hb
  refine⟨_,rfl,x,NE,dx,_,_,rfl,hx6,T.vW.oc.cl,T.CD,rfl,lr,rfl,⟨_,aY.of e6⟩,?_⟩;obtain⟨rs,a6,pw⟩:=ok6.pw;have blen:bs.length<=15:=ok6.2.2;have r06:∀r∈rs,0<=r.2.2:=fun r hr=>by
   obtain⟨b,hb',pr⟩:=a6.mem.2 r hr;have hba:=hb.mem_iff.mp hb';obtain⟨u,v,n,e',_⟩:=ok.1 b hba;have pr':dC _ b (u,v,n):=sb6 _ _ (e8 e' hx (fun z=>nomatch z)) e';have z:=pr.eq pr';rw[z];exact r0 b hba (u,v,n) e'
  rw[show gY ("ropes":Str) (V.ref lr) [(("many":Str),V.int (cs.length:Int)),(("costs":Str),V.ref l)]=[(("many":Str),V.int (cs.length:Int)),(("costs":Str),V.ref l),(("ropes":Str),V.ref lr)] from rfl];generalize upd H5 x (.ins NE dx [("many",V.int (cs.length:Int)),("costs",.ref l),("ropes",.ref lr)])=H6 at sb6 hx6 e6 k6 a6 t46|-;refine cF (xs:=bs.map V.ref) (fun _ x=>match x with | .ref b=>some (.int (eO H6 b).2.2) | _=>none) (aY.of e6) (by rw[qAa];exact qBb (aQ (by lia))) (fun i y H7 kk kk0 s7 hy h1 h2=>?_) fun D H7 hD s7 hd=>?_
  ·obtain⟨b,hb',rfl⟩:=at_of hy;obtain⟨r,hr',pr⟩:=a6.at hb';exact⟨_,rfl,b,r,rfl,pr.keep s7.t,h1 _ (by show some (V.int (eO H6 b).2.2)=_;rw[pr.of]) _ (.refl _)⟩
  ·have ed:H7 D=some (.lst ((rs.map (·.2.2)).map V.int)):=by
    rw[hd,cJ,qCn,<- a6.DN,qBt,<- qEa];rfl
   refine⟨D,_,rfl,ed,fun n hn=>?_,by rw[qAa,<- a6.len];lia,fun H8 s8=>?_⟩
   ·obtain⟨r,hr',rfl⟩:=List.mem_map.mp hn;exact r06 r hr'
   ·have s68:=s7.trans s8;have nx:∀b:Addr,True:=fun _=>trivial;exact k l lr bs rs H8 l0 lr0 hb (sb6.then s68) (a6.imp fun _ _ z=>z.keep s68.t) ⟨dx,bs,s68 _ _ hx6,s68 _ _ k6,s68 _ _ e6,a6.imp fun _ _ z=>z.keep s68.t,c1,c6,pw,blen⟩ (a6.sQ (GG t46 (fun a ha=>let ⟨u,v,n,e,_⟩:=ok4.1 a (hb.mem_iff.mp ha);⟨_,e⟩) hpw))
theorem A2.of_get{α:Type}{R:Addr->α->Prop}:∀{as:List Addr}{xs:List α},as.length=xs.length->(∀(i:Nat) (a:Addr) (x:α),as[i]?=some a->xs[i]?=some x->R a x)->A2 R as xs
 | [],[],_,_=>.nil
 | [],_::_,h,_=>by cases h
 | _::_,[],h,_=>by cases h
 | a::as,x::xs,h,f=>.cons (f 0 a x rfl rfl) (A2.of_get (Nat.succ.inj h) fun i b y e1 e2=>f (i+1) b y (by rw[qEp];exact e1) (by rw[qEp];exact e2))
theorem A2.app{α:Type}{R:Addr->α->Prop}{as bs:List Addr}{xs ys:List α}(h:A2 R as xs)(h':A2 R bs ys):A2 R (as++bs) (xs++ys):=by
 induction h with
 | nil=>exact h'
 | cons r _ ih=>exact .cons r ih
def Kf(cs:List Int):List P3:=(qAq cs.length).map fun i=>(i,i,cs.getD i 0)
def allR(cs:List Int)(rs:List P3):List P3:=Kf cs++rs
theorem zA{β:Type}{S:Addr->β->Prop}{f:Nat->β}{ys:List V}{n:Nat}(hy:ys.length=n)(h:∀i y,ys[i]?=some y->∃b,y = .ref b/\S b (f i)):∃ws:List Addr,ys=ws.map V.ref/\A2 S ws ((qAq n).map f):=by
 refine⟨ys.map fun y=>match y with | .ref b=>b | _=>0,?_,A2.of_get (by rw[qAa,qAa,qCt,hy]) fun i a x e1 e2=>?_⟩
 ·rw[qBt];refine(qMp ys).symm.trans (qFi fun y hm=>?_);obtain⟨i,hi⟩:=qJv hm;obtain⟨b,rfl,_⟩:=h i y hi;rfl
 ·rw[qAj] at e1 e2;cases ey:ys[i]? with
  | none=>rw[ey] at e1;cases e1
  | some y =>
   rw[ey] at e1;obtain⟨b,rfl,pb⟩:=h i y ey;have e1:b=a:=Option.some.inj e1;have hi:i<n:=by rw[<- hy];exact(List.getElem?_eq_some_iff.mp ey).1
   rw[qKc hi] at e2;have e2:f i=x:=Option.some.inj e2;rw[<- e1,<- e2];exact pb
theorem GV{g h m:Nat}(hg:g<2^m)(hb:aW g h=true):h<m:=by
 refine qCp fun z=>?_;have z2:g<2^h:=qAo hg (qBr (by decide) (by lia));have:g/2^h=0:=qHz z2;unfold aW at hb;rw[this] at hb;exact absurd (of_decide_eq_true hb) (by decide)
theorem sS{cs:List Int}{rs:List P3}(h6:cs.length<=6)(pw:Pw cs.length rs):∀r∈allR cs rs,dU r:=fun r hr=>by
 rcases List.mem_append.mp hr with z | z
 ·obtain⟨i,hi,rfl⟩:=List.mem_map.mp z;have:=List.mem_range.mp hi;exact⟨qAi _,by show i<6;lia⟩
 ·obtain⟨a,b⟩:=pw.1 r z;exact⟨qBb a,by lia⟩
theorem Be{cs:List Int}{rs:List P3}{g:Nat}(hg:g<2^cs.length):∀h,h<6->aW g h=true->∃r∈allR cs rs,r.1=h/\r.2.1=h:=fun h _ hb =>
 ⟨(h,h,cs.getD h 0),qDs _ (List.mem_map.mpr ⟨h,List.mem_range.mpr (GV hg hb),rfl⟩),rfl,rfl⟩
def DO(NE:Addr):Sp:=fun vs H Q _=>∃(a ll lr:Addr) (cs:List Int) (rs:List P3) (g:Nat),vs=[.ref a,.int (g:Int)]/\qZ NE H a ll lr cs rs/\g<2^cs.length /\
 ∀(l:Addr) (ds:List Addr) (L:List P3) (H':Hp),H l=none->aI H H'->H' l=some (.lst (ds.map V.ref))->A2 (dC H') ds L->Run (allR cs rs) (g+64) 64 L->Q (.ref l) H'
theorem DP:aK ["self","group","to_the_well"] ["self","group"] (aE yJ):=by constructor<;>first|rfl|decide +kernel
theorem GW{f1:Addr}{fd1:qBd}(t:Mx K "least" "Net.least" yJ ["self","group"] f fd)(T:T K mg AL LN RU OW PL PA VO MA NE fE fH rR rO rP rA rV rM rN iR iO iP iA iV iM iN fL wR wO wP wA wV wM wN CO iC cH cE cW SE NG NL NT)(D_least_net:Df P w K mg base cM 3 "least_net" ["ropes","group"] DK f1 fd1):Md P w K mg base 4 ["self","group"] (DO NE) f:=by
 refine t.rG DP (fun vs H Q E h=>?_) (fun cdv A outer s H vs Q E hr h=>?_)
 ·obtain⟨a,ll,lr,cs,rs,g,rfl,_⟩:=h;rfl
 ·obtain⟨a,ll,lr,cs,rs,g,rfl,no,hg,k⟩:=h;refine⟨_,(aD (lM (NB:=["hand","cost"]) (pick:=[none,none]) (i:=2) DP.nd rfl cK (by rfl) (bR (by with_unfolding_all rfl) (by exact trivial) rfl (by decide +kernel) (by decide +kernel) (by rfl) (by rfl)) rfl
     (qH (by rfl) T.iF (aA (bY (pv 0) rfl) aB)) (fun _ _ _=>(show PG _ _ (pS K 2 (dO (bE 0) (dO (bE 1) pR))) from fB rfl (bB (aP (i:=0) (show(["hand","cost"]:List Str).Nodup from by decide +kernel) rfl cK) (bB (aP (i:=1) (show(["hand","cost"]:List Str).Nodup from by decide +kernel) rfl cK) dZ))))
     (fun _ _ _=>bS) (fun _ _ _=>(fQ (aA (pv 0) (aA (pv 0) (aA (pv 1) aB))))))
   (aH (aN (bD D_least_net hr (by decide) (by rfl) (aA (aM cO (pv 2) (bY (pv 0) rfl)) (aA (pv 1) aB)))))),?_⟩
  obtain⟨dx,bs,h1,h2,h3,h4,c1,c6,pw,blen⟩:=no;refine⟨_,rfl,a,NE,dx,_,_,rfl,h1,T.vW.oc.cl,T.LQ,rfl,ll,rfl,⟨_,aY.of h2⟩,?_⟩;refine uI (xs:=cs.map V.int) (fun σ'=>∃o0 o1:Option V,σ'=[o0,o1]) (fun i y H=>∃b,y = .ref b/\dC H b (i,i,cs.getD i 0)) (fun i y H H' st ⟨b,e,q⟩=>⟨b,e,q.keep st⟩) ⟨_,_,rfl⟩ (aY.of h2) (by rw[qAa];exact qBb (aQ (by lia))) (fun i x tt σ1 H2 kk kk0 hσ s2 hx ht h1'=>?_) fun D ys H2 hD s2 hy hys hd=>?_
  ·obtain⟨o0,o1,rfl⟩:=hσ;have ex:x = .int (cs.getD i 0):=by
    rw[qAj] at hx;cases e:cs[i]? with
    | none=>rw[e] at hx;cases hx
    | some c =>
     rw[e] at hx;rw[qAs,e];exact(Option.some.inj hx).symm
   subst ex;refine⟨tt,_,rfl,dG.of ht,rfl,_,_,rfl,_,_,rfl,rfl,?_⟩;exact⟨_,rfl,_,rfl,_,rfl,Iv,fun t3 ht3=>h1' _ _ _ ⟨_,_,rfl⟩ (.aJ ht3) ⟨t3,rfl,aC⟩⟩
  ·obtain⟨ws,rfl,aw⟩:=zA (S:=dC H2) (f:=fun i=>(i,i,cs.getD i 0)) hy hys;have h12:=s2 _ _ h1;have h32:=s2 _ _ h3;have wl:ws.length=cs.length:=by rw[aw.len,qAa,qCt,qAa]
   refine⟨_,rfl,_,rfl,a,NE,dx,_,_,rfl,h12,T.vW.oc.cl,T.CD,rfl,D,lr,_,_,rfl,rfl,aY.of hd,aY.of h32,by rw[qAa,qAa];exact qBb (aQ (by lia)),fun lc hlc=>?_⟩;have u3:=aI.aJ (o:=.lst (ws.map V.ref++bs.map V.ref)) hlc;have s3:=s2.trans u3;rw[qAa] at aw;refine⟨_,rfl,lc,ws++bs,allR cs rs,g,rfl,by rw[aC,qCc],A2.app (aw.imp fun _ _ z=>z.keep u3.t) (h4.imp fun _ _ z=>z.keep s3.t),sS c6 pw,Be hg,qAo hg (qBr (n:=2) (by decide) c6),by rw[qAn];lia,fun l ds L H' hl s4 e4 a4 run=>?_⟩;exact k l ds L H' (s3.free hl) (s3.trans s4) e4 a4 run
open Classical in
noncomputable def netL (rs:List P3) (g:Nat):List P3:=if h:∃L,Run rs (g+64) 64 L then Classical.choose h else []
theorem CV{rs:List P3}{g:Nat}{L:List P3}(h:Run rs (g+64) 64 L):netL rs g=L:=by
 have e:∃L,Run rs (g+64) 64 L:=⟨L,h⟩;unfold netL;rw[dif_pos e];exact(Classical.choose_spec e).uniq h
noncomputable def gainN (cs:List Int) (rs:List P3) (g:Nat):Int:=-(((netL (allR cs rs) g).map (·.2.2)).sum)
def Bf(NE:Addr):Sp:=fun vs H Q _=>∃(a ll lr:Addr) (cs:List Int) (rs:List P3) (g:Nat),vs=[.ref a,.int (g:Int)]/\qZ NE H a ll lr cs rs/\g<2^cs.length/\∀H',aI H H'->Q (.int (gainN cs rs g)) H'
theorem Kg:aK ["self","group"] ["self","group"] (aE yK):=by constructor<;>first|rfl|decide +kernel
theorem GX{f3:Addr}{fd3:qBd}(t:Mx K "reckon" "Net.reckon" yK ["self","group"] f fd)(T:T K mg AL LN RU OW PL PA VO MA NE fE fH rR rO rP rA rV rM rN iR iO iP iA iV iM iN fL wR wO wP wA wV wM wN CO iC cH cE cW SE NG NL NT)(DL:Md P w K mg base 4 ["self","group"] (DO NE) fL)(D_cost_of:Df P w K mg base cM 1 "cost_of" ["rope"] wB f3 fd3):Md P w K mg base 5 ["self","group"] (Bf NE) f:=by
 refine t.rG Kg (fun vs H Q E h=>?_) (fun cdv A outer s H vs Q E hr h=>?_)
 ·obtain⟨a,ll,lr,cs,rs,g,rfl,_⟩:=h;rfl
 ·obtain⟨a,ll,lr,cs,rs,g,rfl,no,hg,k⟩:=h;refine⟨_,(aH (aN (gD eV (aO (eL rfl) (by rfl) T.gG gP (aA (bM (NB:=["rope"]) (pick:=[none]) (bR (by with_unfolding_all rfl) (by exact trivial) rfl (by decide +kernel) (by decide +kernel) (by rfl) (by rfl)) rfl
     (bL (jQ (k:=4) bQ (pv 0) hr (by decide) (aA (pv 1) aB))) (fun _ _ _=>aP (i:=0) (show(["rope"]:List Str).Nodup from by decide +kernel) rfl cK)
     (fun _ _ _=>bS) (fun _ _ _=>(bD D_cost_of hr (by decide) (by rfl) (aA (pv 0) aB)))) aB))))),?_⟩
  have no':=no;obtain⟨dx,bs,h1,h2,h3,h4,c1,c6,pw,blen⟩:=no';refine⟨_,rfl,a,NE,dx,_,fL,_,rfl,h1,rfl,T.vW.oc.cl,T.Nq,⟨_,DL⟩,_,rfl,a,ll,lr,cs,rs,g,rfl,no,hg,fun l ds L H1 hl s1 e1 a1 run=>⟨l,rfl,⟨_,aY.of e1⟩,?_⟩⟩;have hg6:g<64:=qAo hg (qBr (n:=2) (by decide) c6);have Ll:L.length<=6:=by
   rw[(y9 (sS c6 pw) hg6 run).2.2.1];exact uP g 6
  refine cF (xs:=ds.map V.ref) (fun _ x=>match x with | .ref b=>some (.int (eO H1 b).2.2) | _=>none) (aY.of e1) (by rw[qAa,a1.len];exact qBb (aQ (by lia))) (fun i y H7 kk kk0 s7 hy h1 h2=>?_) fun D H7 hD s7 hd=>?_
  ·obtain⟨b,hb',rfl⟩:=at_of hy;obtain⟨r,hr',pr⟩:=a1.at hb';exact⟨_,rfl,b,r,rfl,pr.keep s7.t,h1 _ (by show some (V.int (eO H1 b).2.2)=_;rw[pr.of]) _ (.refl _)⟩
  ·have ed:H7 D=some (.lst ((L.map (·.2.2)).map V.int)):=by
    rw[hd,cJ,qCn,<- a1.DN,qBt,<- qEa];rfl
   refine⟨D,_,rfl,.inl (aY.of ed),_,rfl,?_⟩;have z:=k H7 (s1.trans s7);unfold gainN at z;rw[CV run] at z;exact z
theorem CW(D:Md P w K mg base 5 ["self","group"] (Bf NE) rN)(c:RC K fE fH RU NE rN){H:Hp}{a ll lr:Addr}{cs:List Int}{rs:List P3}(h:qZ NE H a ll lr cs rs):kM P w K mg base fE fH RU H a cs.length (gainN cs rs):=by
 have h':=h;obtain⟨dx,bs,h1,h2,h3,h4,c1,c6,pw,blen⟩:=h';exact⟨NE,dx,rN,_,h1,c,rfl,c1,c6,⟨rfl,rfl,rfl⟩,_,(D.up (by decide)).imp fun vs H2 Q _ ⟨gr,e,hg,s,q⟩=>⟨a,ll,lr,cs,rs,gr,e,h.same s,hg,fun H3 s3=>q H3 s3⟩⟩
def pW(p:P3):Str:=Str.empty++nW (p.1:Int)++("-":Str)++nW (p.2.1:Int)++(":":Str)++nW p.2.2
theorem eX{n:Int}(h:n.natAbs<10^60):n.natAbs.log2<1920:=by
 by_cases z:n.natAbs=0
 ·rw[z];decide +kernel
 ·exact(qMr z).mpr (qFs h (by decide +kernel))
theorem dW{i:Int}(h:i.natAbs<10^60):(nW i).length<=61:=by
 unfold nW;cases i with
 | ofNat n =>
  have h:n<10^60:=h;exact qAt (qGo (v:=(n:Int)) (qDr n) (k:=60) (by decide) (by exact_mod_cast h)) (by decide)
 | negSucc n =>
  have h:n+1<10^60:=h;have z:=qGo (v:=((n+1:Nat):Int)) (qDr _) (k:=60) (by decide) (by exact_mod_cast h);rw[qMg] at z|-;rw[show toString (qFm n)="-" ++ toString ((n+1:Nat):Int) from rfl,String.toList_append,qAn];exact qAt (qGz (show("-":String).toList.length<=1 by decide) z) (by decide)
theorem rB{p:P3}(h1:p.1<6)(h2:p.2.1<6)(h:p.2.2.natAbs<10^60):(pW p).length<=185:=by
 unfold pW;rw[Str.length_append,Str.length_append,Str.length_append,Str.length_append,Str.length_append];have a:=dW (i:=(p.1:Int)) (qAo (show _<6 from h1) (by decide +kernel));have b:=dW (i:=(p.2.1:Int)) (qAo (show _<6 from h2) (by decide +kernel));have c:=dW h;have e0:Str.empty.length=0:=rfl;have e1:("-":Str).length=1:=rfl;have e2:(":":Str).length=1:=rfl;lia
def sT:Sp:=fun vs H Q _=>∃(p:Addr) (ns:List Int),vs=[.ref p]/\H p=some (.lst (ns.map V.int))/\ns.length<=64/\(∀n∈ns,n.natAbs<10^60)/\∀(D:Addr) (H':Hp),H D=none->aI H H'->H' D=some (.lst ((ns.map nW).map V.str))->Q (.ref D) H'
theorem Kh:aK ["numbers"] ["numbers"] (aE Ft):=by constructor<;>first|rfl|decide +kernel
theorem GY(t:Tx K mg "number_words" Ft ["numbers"] f fd)(T:T K mg AL LN RU OW PL PA VO MA NE fE fH rR rO rP rA rV rM rN iR iO iP iA iV iM iN fL wR wO wP wA wV wM wN CO iC cH cE cW SE NG NL NT):Df P w K mg base cM 1 "number_words" ["numbers"] sT f fd:=by
 refine t.jA Kh (fun vs H Q E h=>?_) (fun cdv A outer s H vs Q E hr h=>?_)
 ·obtain⟨p,ns,rfl,_⟩:=h;rfl
 ·obtain⟨p,ns,rfl,hp,h64,hn,k⟩:=h;refine⟨_,(aH (aN (bM (NB:=["number"]) (pick:=[none]) (bR (by with_unfolding_all rfl) (by exact trivial) rfl (by decide +kernel) (by decide +kernel) (by rfl) (by rfl)) rfl
     (bL (pv 0)) (fun _ _ _=>aP (i:=0) (show(["number"]:List Str).Nodup from by decide +kernel) rfl cK)
     (fun _ _ _=>bS) (fun _ _ _=>(cG gL (by rfl) T.kY qG (aA (pv 0) aB)))))),?_⟩
  refine⟨_,rfl,p,rfl,⟨_,aY.of hp⟩,?_⟩;refine cF (xs:=ns.map V.int) (fun _ x=>match x with | .int i=>some (.str (nW i)) | _=>none) (aY.of hp) (by rw[qAa];exact qBb (aQ (by lia))) (fun i x H2 kk kk0 s2 hx g1 g2=>?_) fun D H2 hD s2 hd=>?_
  ·obtain⟨n,hm,rfl⟩:=List.mem_map.mp (qAu hx);exact⟨_,rfl,n,rfl,eX (hn n hm),g1 _ rfl _ (.refl _)⟩
  ·refine k D H2 hD s2 ?_;rw[hd,cJ,qCn,qBt];show some (HO.lst (ns.filterMap fun i=>some (V.str (nW i))))=_;rw[qBx];rfl
def wD:Sp:=fun vs H Q _=>∃(p:Addr) (bs:List Addr) (ps:List P3),vs=[.ref p]/\H p=some (.lst (bs.map V.ref))/\A2 (dC H) bs ps/\ps.length<=64/\(∀q∈ps,q.1<6/\q.2.1<6/\q.2.2.natAbs<10^60)/\∀(D:Addr) (H':Hp),H D=none->aI H H'->H' D=some (.lst ((ps.map pW).map V.str))->Q (.ref D) H'
theorem A2.CY{R:Addr->P3->Prop}{bs:List Addr}{ps:List P3}(h:A2 R bs ps):∀(i:Nat) (b:Addr),bs[i]?=some b->∃p,ps[i]?=some p/\R b p:=by
 induction h with
 | nil=>intro i b e;cases e
 | cons r _ ih =>
  intro i b e;cases i with
  | zero=>cases e;exact⟨_,rfl,r⟩
  | succ i=>exact ih i b e
theorem Ki:aK ["pairs"] ["pairs"] (aE Fu):=by constructor<;>first|rfl|decide +kernel
theorem GZ(t:Tx K mg "pair_words" Fu ["pairs"] f fd)(T:T K mg AL LN RU OW PL PA VO MA NE fE fH rR rO rP rA rV rM rN iR iO iP iA iV iM iN fL wR wO wP wA wV wM wN CO iC cH cE cW SE NG NL NT):Df P w K mg base cM 1 "pair_words" ["pairs"] wD f fd:=by
 refine t.jA Ki (fun vs H Q E h=>?_) (fun cdv A outer s H vs Q E hr h=>?_)
 ·obtain⟨p,bs,ps,rfl,_⟩:=h;rfl
 ·obtain⟨p,bs,ps,rfl,hp,a2,h64,hn,k⟩:=h;refine⟨_,(aH (aN (bM (NB:=["one","other","number"]) (pick:=[none,none,none]) (bR (by with_unfolding_all rfl) (by exact trivial) rfl (by decide +kernel) (by decide +kernel) (by rfl) (by rfl)) rfl
     (bL (pv 0)) (fun _ _ _=>(show PG _ _ (pS K 3 (dO (bE 0) (dO (bE 1) (dO (bE 2) pR)))) from fB rfl (bB (aP (i:=0) (show(["one","other","number"]:List Str).Nodup from by decide +kernel) rfl cK) (bB (aP (i:=1) (show(["one","other","number"]:List Str).Nodup from by decide +kernel) rfl cK) (bB (aP (i:=2) (show(["one","other","number"]:List Str).Nodup from by decide +kernel) rfl cK) dZ)))))
     (fun _ _ _=>bS) (fun _ _ _=>(oW (cP (jB (pv 0)) (cP aU (cP (jB (pv 1)) (cP aU (cP (jB (pv 2)) kI)))))))))),?_⟩
  refine⟨_,rfl,p,rfl,⟨_,aY.of hp⟩,?_⟩;refine iU (xs:=bs.map V.ref) (fun σ'=>∃o0 o1 o2:Option V,σ'=[o0,o1,o2]) (fun i _=>(ps[i]?).map fun q=>V.str (pW q)) ⟨_,_,_,rfl⟩ (aY.of hp) (by rw[qAa,a2.len];exact qBb (aQ (by lia))) (fun i x σ1 H2 kk kk0 hσ s2 hx g1 g2=>?_) fun D H2 hD s2 hd=>?_
  ·obtain⟨o0,o1,o2,rfl⟩:=hσ;rw[qAj] at hx;cases e:bs[i]? with
   | none=>rw[e] at hx;cases hx
   | some b =>
    rw[e] at hx;cases hx;obtain⟨q,hq,r⟩:=a2.CY i b e;obtain⟨q1,q2,q3⟩:=hn q (qAu hq);have l1:=dW (i:=(q.1:Int)) (qAo (show _<6 from q1) (by decide +kernel));have l2:=dW (i:=(q.2.1:Int)) (qAo (show _<6 from q2) (by decide +kernel));have l3:=dW q3;have pl:=rB q1 q2 q3;have e0:Str.empty.length=0:=rfl;have e1:("-":Str).length=1:=rfl;have e2:(":":Str).length=1:=rfl;have sl:1000<=qAg:=by decide
    refine⟨b,_,rfl,dG.of (s2 _ _ r),rfl,_,_,rfl,_,_,rfl,_,_,rfl,rfl,?_⟩;have z1:=eX (n:=(q.1:Int)) (qAo (show _<6 from q1) (by decide +kernel));have z2:=eX (n:=(q.2.1:Int)) (qAo (show _<6 from q2) (by decide +kernel));refine⟨_,rfl,(q.1:Int),rfl,z1,nW q.1,rfl,(by rw[Str.length_append];lia),_,rfl,(by rw[Str.length_append,Str.length_append];lia),_,rfl,(q.2.1:Int),rfl,z2,nW q.2.1,rfl,(by rw[Str.length_append,Str.length_append,Str.length_append];lia),_,rfl,(by rw[Str.length_append,Str.length_append,Str.length_append,Str.length_append];lia),_,rfl,q.2.2,rfl,eX q3,nW q.2.2,rfl,?_,?_,g1 _ _ ⟨_,_,_,rfl⟩ (by show(ps[i]?).map _=_;rw[hq];rfl) _ (.refl _)⟩
    ·show(pW q).length<=_;lia
    ·show(pW q).length<=_;lia
  ·refine k D H2 hD s2 ?_;rw[hd];have e:(qAq (bs.map V.ref).length).filterMap (fun i=>((bs.map V.ref)[i]?).bind fun _=>(ps[i]?).map fun q=>V.str (pW q))=(qAq ps.length).filterMap fun i=>(ps[i]?).bind fun q=>some (V.str (pW q)):=by
    rw[qAa,a2.len];refine dD fun i hi=>?_;have hi':i<bs.length:=by rw[a2.len];exact List.mem_range.mp hi
    rw[qAj,qAc hi'];cases ps[i]? <;> rfl
   rw[e,cJ,qBx,qBt];rfl
def rH(h:Str)(ss:List Str):Str:=Txt.join (" ":Str) (h::ss)
theorem j4{B:Nat}:∀{ss:List Str},(∀s∈ss,s.length<=B)->(ss.map (·.length)).sum<=B*ss.length
 | [],_=>by simp
 | s::ss,h=>by
  have a:=h s qCb;have b:=j4 fun t ht=>h t (qBf _ ht);rw[qBi,qGb,qBj,Nat.mul_succ];lia
theorem gQ{h:Str}{ss:List Str}(h0:h.length<=185)(hl:ss.length<=200)(hs:∀s∈ss,s.length<=185):(((h::ss).map (·.length)).sum+(h::ss).length*(" ":Str).length<=16777216):=by
 have a:=j4 hs;have e:(" ":Str).length=1:=rfl;rw[qBi,qGb,qBj,e,Nat.mul_one];have:=qKl 185 hl;lia
theorem dJ{a b:Nat}(h1:a<=8)(h2:b<=128):a+b<=qAg:=qAt (qGz h1 h2) (by decide)
theorem pK{a b:Nat}(h1:a<=64)(h2:b<=64):1+a+b<=qAg:=qAt (qGz (qGz (qAi 1) h1) h2) (by decide)
def Ha:Sp:=fun vs H Q _=>∃a:Addr,vs=[.ref a]/\Q (.str ("none":Str)) H
theorem Mt:aK ["self"] ["self"] (aE HM):=by constructor<;>first|rfl|decide +kernel
theorem Kj(t:Mx K "words" "Rule.words" HM ["self"] f fd):Md P w K mg base 1 ["self"] Ha f:=by
 refine t.rG Mt (fun vs H Q E h=>?_) (fun cdv A outer s H vs Q E hr h=>?_)
 ·obtain⟨a,rfl,_⟩:=h;rfl
 ·obtain⟨a,rfl,k⟩:=h;exact⟨_,(aH (aN aU)),k⟩
def Bg(OW:Addr):Sp:=fun vs H Q _=>∃(a dx l:Addr) (m:V) (ns:List Int),vs=[.ref a]/\H a=some (.ins OW dx [("many",m),("numbers",.ref l)])/\H l=some (.lst (ns.map V.int))/\ns.length<=64/\(∀n∈ns,n.natAbs<10^60)/\∀H',aI H H'->Q (.str (rH ("own":Str) (ns.map nW))) H'
theorem Kk:aK ["self"] ["self"] (aE yE):=by constructor<;>first|rfl|decide +kernel
theorem Hb{f1:Addr}{fd1:qBd}(t:Mx K "words" "Own.words" yE ["self"] f fd)(T:T K mg AL LN RU OW PL PA VO MA NE fE fH rR rO rP rA rV rM rN iR iO iP iA iV iM iN fL wR wO wP wA wV wM wN CO iC cH cE cW SE NG NL NT)(D_number_words:Df P w K mg base cM 1 "number_words" ["numbers"] sT f1 fd1):Md P w K mg base 2 ["self"] (Bg OW) f:=by
 refine t.rG Kk (fun vs H Q E h=>?_) (fun cdv A outer s H vs Q E hr h=>?_)
 ·obtain⟨a,dx,l,m,ns,rfl,_⟩:=h;rfl
 ·obtain⟨a,dx,l,m,ns,rfl,ha,hl,h64,hn,k⟩:=h;refine⟨_,(aH (aN (dP qBp qCm qCl dY aU (aA (aM cO (bZ (aA aU aB)) (bD D_number_words hr (by decide) (by rfl) (aA (bY (pv 0) rfl) aB))) aB)))),?_⟩;refine⟨rfl,nK,fun l0 hl0=>?_⟩;have u0:=aI.aJ (o:=.lst [V.str ("own":Str)]) hl0;refine⟨_,rfl,a,OW,dx,_,_,rfl,u0 _ _ ha,T.FW.oc.cl,T.LK,rfl,l,ns,rfl,u0 _ _ hl,h64,hn,fun D H1 hD s1 h1=>?_⟩;have hb:∀s∈ns.map nW,s.length<=185:=fun s hs=>by
   obtain⟨n,hm,rfl⟩:=List.mem_map.mp hs;exact qAt (dW (hn n hm)) (by decide)
  refine⟨l0,D,_,_,rfl,rfl,aY.of (s1 _ _ aC),aY.of h1,(by rw[qAa,qAa];exact dJ (by decide) (qAt h64 (by decide))),fun p hp=>?_⟩;refine⟨_,p,("own":Str)::ns.map nW,rfl,rfl,aY.of aC,gQ (by decide) (by rw[qAa];lia) hb,k _ (u0.trans (s1.trans (.aJ hp)))⟩
theorem nA{ns:List Int}(hn:∀n∈ns,n.natAbs<10^60):∀s∈ns.map nW,s.length<=185:=fun s hs=>by
 obtain⟨n,hm,rfl⟩:=List.mem_map.mp hs;exact qAt (dW (hn n hm)) (by decide)
theorem nB{ps:List P3}(hn:∀q∈ps,q.1<6/\q.2.1<6/\q.2.2.natAbs<10^60):∀s∈ps.map pW,s.length<=185:=fun s hs=>by
 obtain⟨p,hm,rfl⟩:=List.mem_map.mp hs;obtain⟨a,b,c⟩:=hn p hm;exact rB a b c
def Hc(VO:Addr):Sp:=fun vs H Q _=>∃(a dx l:Addr) (m:V) (q z:Int) (ns:List Int),vs=[.ref a]/\H a=some (.ins VO dx [("many",m),("quota",.int q),("prize",.int z),("weights",.ref l)])/\H l=some (.lst (ns.map V.int))/\ns.length<=62/\(∀n∈q::z::ns,n.natAbs<10^60)/\∀H',aI H H'->Q (.str (rH ("votes":Str) ((q::z::ns).map nW))) H'
theorem Mu:aK ["self"] ["self"] (aE HV):=by constructor<;>first|rfl|decide +kernel
theorem Kl{f1:Addr}{fd1:qBd}(t:Mx K "words" "Votes.words" HV ["self"] f fd)(T:T K mg AL LN RU OW PL PA VO MA NE fE fH rR rO rP rA rV rM rN iR iO iP iA iV iM iN fL wR wO wP wA wV wM wN CO iC cH cE cW SE NG NL NT)(D_number_words:Df P w K mg base cM 1 "number_words" ["numbers"] sT f1 fd1):Md P w K mg base 2 ["self"] (Hc VO) f:=by
 refine t.rG Mu (fun vs H Q E h=>?_) (fun cdv A outer s H vs Q E hr h=>?_)
 ·obtain⟨a,dx,l,m,q,z,ns,rfl,_⟩:=h;rfl
 ·obtain⟨a,dx,l,m,q,z,ns,rfl,ha,hl,h64,hn,k⟩:=h;refine⟨_,(aH (aN (dP qBp qCm qCl dY aU (aA (aM cO (bZ (aA aU aB)) (bD D_number_words hr (by decide) (by rfl) (aA (aM cO (bZ (aA (bY (pv 0) rfl) (aA (bY (pv 0) rfl) aB))) (bY (pv 0) rfl)) aB))) aB)))),?_⟩;refine⟨rfl,nK,fun l0 hl0=>?_⟩;have u0:=aI.aJ (o:=.lst [V.str ("votes":Str)]) hl0;refine⟨_,rfl,a,VO,dx,_,_,rfl,u0 _ _ ha,T.yL.oc.cl,T.LO,rfl,_,rfl,a,VO,dx,_,_,rfl,u0 _ _ ha,T.yL.oc.cl,T.FZ,rfl,zD,fun l1 hl1=>?_⟩;have u1:=u0.trans (aI.aJ (o:=.lst [V.int q,V.int z]) hl1);refine⟨_,rfl,a,VO,dx,_,_,rfl,u1 _ _ ha,T.yL.oc.cl,T.Ga,rfl,l1,l,_,_,rfl,rfl,aY.of aC,aY.of (u1 _ _ hl),(by rw[qAa];exact dJ (by show 2<=8;decide) (by lia)),fun l2 hl2=>?_⟩;have u2:=(aI.aJ (o:=.lst [V.int q,V.int z]) hl1).trans (aI.aJ (o:=.lst ([V.int q,V.int z]++ns.map V.int)) hl2);refine⟨l2,q::z::ns,rfl,aC,(by show ns.length+1+1<=64;lia),hn,fun D H1 hD s1 h1=>?_⟩;refine⟨l0,D,_,_,rfl,rfl,aY.of (s1 _ _ (u2 _ _ aC)),aY.of h1,(by rw[qAa,qAa];exact dJ (by decide) (by show ns.length+1+1<=128;lia)),fun p hp=>?_⟩;refine⟨_,p,("votes":Str)::(q::z::ns).map nW,rfl,rfl,aY.of aC,gQ (by decide) (by rw[qAa];show ns.length+1+1<=200;lia) (nA hn),k _ (u0.trans (u2.trans (s1.trans (.aJ hp))))⟩
def Bh(PL:Addr):Sp:=fun vs H Q _=>∃(a dx l:Addr) (m:V) (e:Int) (ns:List Int),vs=[.ref a]/\H a=some (.ins PL dx [("many",m),("earnings",.ref l)])/\H l=some (.lst ((e::ns).map V.int))/\ns.length<=64/\(∀n∈ns,n.natAbs<10^60)/\∀H',aI H H'->Q (.str (rH ("table":Str) (ns.map nW))) H'
theorem Km:aK ["self"] ["self"] (aE yF):=by constructor<;>first|rfl|decide +kernel
theorem Hd{f1:Addr}{fd1:qBd}(t:Mx K "words" "Plain.words" yF ["self"] f fd)(T:T K mg AL LN RU OW PL PA VO MA NE fE fH rR rO rP rA rV rM rN iR iO iP iA iV iM iN fL wR wO wP wA wV wM wN CO iC cH cE cW SE NG NL NT)(D_number_words:Df P w K mg base cM 1 "number_words" ["numbers"] sT f1 fd1):Md P w K mg base 2 ["self"] (Bh PL) f:=by
 refine t.rG Km (fun vs H Q E h=>?_) (fun cdv A outer s H vs Q E hr h=>?_)
 ·obtain⟨a,dx,l,m,e,ns,rfl,_⟩:=h;rfl
 ·obtain⟨a,dx,l,m,e,ns,rfl,ha,hl,h64,hn,k⟩:=h;refine⟨_,(aH (aN (dP qBp qCm qCl dY aU (aA (aM cO (bZ (aA aU aB)) (bD D_number_words hr (by decide) (by rfl) (aA (cX eZ (bY (pv 0) rfl) (dA aG) c8) aB))) aB)))),?_⟩;refine⟨rfl,nK,fun l0 hl0=>?_⟩;have u0:=aI.aJ (o:=.lst [V.str ("table":Str)]) hl0;refine⟨_,rfl,a,PL,dx,_,_,rfl,u0 _ _ ha,T.FX.oc.cl,T.LL,rfl,1,rfl,l,_,rfl,aY.of (u0 _ _ hl),fun l2 hl2=>?_⟩;have ec:fT ((e::ns).map V.int) (some 1) none=ns.map V.int:=by
   have z:=iD ((e::ns).map V.int) 1;exact z
  rw[ec];have u2:=aI.aJ (o:=.lst (ns.map V.int)) hl2;refine⟨l2,ns,rfl,aC,h64,hn,fun D H1 hD s1 h1=>?_⟩;refine⟨l0,D,_,_,rfl,rfl,aY.of (s1 _ _ (u2 _ _ aC)),aY.of h1,(by rw[qAa,qAa];exact dJ (by decide) (qAt h64 (by decide))),fun p hp=>?_⟩;refine⟨_,p,("table":Str)::ns.map nW,rfl,rfl,aY.of aC,gQ (by decide) (by rw[qAa];lia) (nA hn),k _ (u0.trans (u2.trans (s1.trans (.aJ hp))))⟩
def Bj(PA:Addr):Sp:=fun vs H Q _=>∃(a dx l:Addr) (m:V) (bs:List Addr) (ps:List P3),vs=[.ref a]/\H a=some (.ins PA dx [("many",m),("pairs",.ref l)])/\H l=some (.lst (bs.map V.ref))/\A2 (dC H) bs ps/\ps.length<=64/\(∀q∈ps,q.1<6/\q.2.1<6/\q.2.2.natAbs<10^60)/\∀H',aI H H'->Q (.str (rH ("pairs":Str) (ps.map pW))) H'
theorem Kn:aK ["self"] ["self"] (aE yI):=by constructor<;>first|rfl|decide +kernel
theorem He{f1:Addr}{fd1:qBd}(t:Mx K "words" "Pairs.words" yI ["self"] f fd)(T:T K mg AL LN RU OW PL PA VO MA NE fE fH rR rO rP rA rV rM rN iR iO iP iA iV iM iN fL wR wO wP wA wV wM wN CO iC cH cE cW SE NG NL NT)(D_pair_words:Df P w K mg base cM 1 "pair_words" ["pairs"] wD f1 fd1):Md P w K mg base 2 ["self"] (Bj PA) f:=by
 refine t.rG Kn (fun vs H Q E h=>?_) (fun cdv A outer s H vs Q E hr h=>?_)
 ·obtain⟨a,dx,l,m,bs,ps,rfl,_⟩:=h;rfl
 ·obtain⟨a,dx,l,m,bs,ps,rfl,ha,hl,a2,h64,hn,k⟩:=h;refine⟨_,(aH (aN (dP qBp qCm qCl dY aU (aA (aM cO (bZ (aA aU aB)) (bD D_pair_words hr (by decide) (by rfl) (aA (bY (pv 0) rfl) aB))) aB)))),?_⟩;refine⟨rfl,nK,fun l0 hl0=>?_⟩;have u0:=aI.aJ (o:=.lst [V.str ("pairs":Str)]) hl0;refine⟨_,rfl,a,PA,dx,_,_,rfl,u0 _ _ ha,T.FY.oc.cl,T.LM,rfl,l,bs,ps,rfl,u0 _ _ hl,a2.imp fun _ _ z=>z.keep u0.t,h64,hn,fun D H1 hD s1 h1=>?_⟩;refine⟨l0,D,_,_,rfl,rfl,aY.of (s1 _ _ aC),aY.of h1,(by rw[qAa,qAa];exact dJ (by decide) (qAt h64 (by decide))),fun p hp=>?_⟩;refine⟨_,p,("pairs":Str)::ps.map pW,rfl,rfl,aY.of aC,gQ (by decide) (by rw[qAa];lia) (nB hn),k _ (u0.trans (s1.trans (.aJ hp)))⟩
def Hf(MA:Addr):Sp:=fun vs H Q _=>∃(a dx l lb:Addr) (m:V) (bs:List Addr) (ps:List P3),vs=[.ref a]/\H a=some (.ins MA dx [("many",m),("pairs",.ref l),("best",.ref lb)])/\H l=some (.lst (bs.map V.ref))/\A2 (dC H) bs ps/\ps.length<=64/\(∀q∈ps,q.1<6/\q.2.1<6/\q.2.2.natAbs<10^60)/\∀H',aI H H'->Q (.str (rH ("match":Str) (ps.map pW))) H'
theorem Mv:aK ["self"] ["self"] (aE HY):=by constructor<;>first|rfl|decide +kernel
theorem Ko{f1:Addr}{fd1:qBd}(t:Mx K "words" "Match.words" HY ["self"] f fd)(T:T K mg AL LN RU OW PL PA VO MA NE fE fH rR rO rP rA rV rM rN iR iO iP iA iV iM iN fL wR wO wP wA wV wM wN CO iC cH cE cW SE NG NL NT)(D_pair_words:Df P w K mg base cM 1 "pair_words" ["pairs"] wD f1 fd1):Md P w K mg base 2 ["self"] (Hf MA) f:=by
 refine t.rG Mv (fun vs H Q E h=>?_) (fun cdv A outer s H vs Q E hr h=>?_)
 ·obtain⟨a,dx,l,lb,m,bs,ps,rfl,_⟩:=h;rfl
 ·obtain⟨a,dx,l,lb,m,bs,ps,rfl,ha,hl,a2,h64,hn,k⟩:=h;refine⟨_,(aH (aN (dP qBp qCm qCl dY aU (aA (aM cO (bZ (aA aU aB)) (bD D_pair_words hr (by decide) (by rfl) (aA (bY (pv 0) rfl) aB))) aB)))),?_⟩;refine⟨rfl,nK,fun l0 hl0=>?_⟩;have u0:=aI.aJ (o:=.lst [V.str ("match":Str)]) hl0;refine⟨_,rfl,a,MA,dx,_,_,rfl,u0 _ _ ha,T.CB.oc.cl,T.LP,rfl,l,bs,ps,rfl,u0 _ _ hl,a2.imp fun _ _ z=>z.keep u0.t,h64,hn,fun D H1 hD s1 h1=>?_⟩;refine⟨l0,D,_,_,rfl,rfl,aY.of (s1 _ _ aC),aY.of h1,(by rw[qAa,qAa];exact dJ (by decide) (qAt h64 (by decide))),fun p hp=>?_⟩;refine⟨_,p,("match":Str)::ps.map pW,rfl,rfl,aY.of aC,gQ (by decide) (by rw[qAa];lia) (nB hn),k _ (u0.trans (s1.trans (.aJ hp)))⟩
def Hg(NE:Addr):Sp:=fun vs H Q _=>∃(a dx l lr:Addr) (m:V) (cs:List Int) (bs:List Addr) (ps:List P3),vs=[.ref a]/\H a=some (.ins NE dx [("many",m),("costs",.ref l),("ropes",.ref lr)])/\H l=some (.lst (cs.map V.int))/\H lr=some (.lst (bs.map V.ref))/\A2 (dC H) bs ps/\ps.length<=64/\cs.length<=64/\(∀n∈cs,n.natAbs<10^60)/\(∀q∈ps,q.1<6/\q.2.1<6/\q.2.2.natAbs<10^60)/\∀H',aI H H'->Q (.str (rH ("net":Str) (cs.map nW++ps.map pW))) H'
theorem Mw:aK ["self"] ["self"] (aE Ib):=by constructor<;>first|rfl|decide +kernel
theorem Kp{f1 f2:Addr}{fd1 fd2:qBd}(t:Mx K "words" "Net.words" Ib ["self"] f fd)(T:T K mg AL LN RU OW PL PA VO MA NE fE fH rR rO rP rA rV rM rN iR iO iP iA iV iM iN fL wR wO wP wA wV wM wN CO iC cH cE cW SE NG NL NT)(D_number_words:Df P w K mg base cM 1 "number_words" ["numbers"] sT f1 fd1)(D_pair_words:Df P w K mg base cM 1 "pair_words" ["pairs"] wD f2 fd2):Md P w K mg base 2 ["self"] (Hg NE) f:=by
 refine t.rG Mw (fun vs H Q E h=>?_) (fun cdv A outer s H vs Q E hr h=>?_)
 ·obtain⟨a,dx,l,lr,m,cs,bs,ps,rfl,_⟩:=h;rfl
 ·obtain⟨a,dx,l,lr,m,cs,bs,ps,rfl,ha,hl,hlr,a2,h64,c64,hc,hn,k⟩:=h;refine⟨_,(aH (aN (dP qBp qCm qCl dY aU (aA (aM cO (aM cO (bZ (aA aU aB)) (bD D_number_words hr (by decide) (by rfl) (aA (bY (pv 0) rfl) aB))) (bD D_pair_words hr (by decide) (by rfl) (aA (bY (pv 0) rfl) aB))) aB)))),?_⟩;refine⟨rfl,nK,fun l0 hl0=>?_⟩;have u0:=aI.aJ (o:=.lst [V.str ("net":Str)]) hl0;refine⟨_,rfl,a,NE,dx,_,_,rfl,u0 _ _ ha,T.vW.oc.cl,T.LQ,rfl,l,cs,rfl,u0 _ _ hl,c64,hc,fun D H1 hD s1 h1=>?_⟩;have u1:=u0.trans s1;refine⟨l0,D,_,_,rfl,rfl,aY.of (s1 _ _ aC),aY.of h1,(by rw[qAa,qAa];exact dJ (by decide) (qAt c64 (by decide))),fun l2 hl2=>?_⟩;have u2:=u1.trans (aI.aJ (o:=.lst ([V.str ("net":Str)]++(cs.map nW).map V.str)) hl2);refine⟨_,rfl,a,NE,dx,_,_,rfl,u2 _ _ ha,T.vW.oc.cl,T.CD,rfl,lr,bs,ps,rfl,u2 _ _ hlr,a2.imp fun _ _ z=>z.keep u2.t,h64,hn,fun D3 H3 hD3 s3 h3=>?_⟩;refine⟨l2,D3,_,_,rfl,rfl,aY.of (s3 _ _ aC),aY.of h3,(by rw[qAn,qAa,qAa,qAa,qAa];exact pK c64 h64),fun p hp=>?_⟩;refine⟨_,p,("net":Str)::(cs.map nW++ps.map pW),rfl,rfl,aY.of (by rw[aC,qBi,qCc];rfl),gQ (by decide) (by rw[qAn,qAa,qAa];lia) (fun s hs=>?_),k _ (u2.trans (s3.trans (.aJ hp)))⟩;rcases List.mem_append.mp hs with h | h
  ·exact nA hc s h
  ·exact nB hn s h
def j5(P:qBc)(w:qCd)(K:qAb)(mg:Str->Option qAf)(base:Heap)(H:Hp)(a:Addr)(tx:Str):Prop :=
 ∃(C dx g:Addr) (fs:List (Str×V)),H a=some (.ins C dx fs)/\fs.lookup ("words":Str)=none/\xD K C/\Meth K C "words" g /\
  ∃ps,Md P w K mg base 3 ps (fun vs H2 Q _=>vs=[.ref a]/\aI H H2/\∀H3,aI H2 H3->Q (.str tx) H3) g
theorem j5.same{H H':Hp}{a:Addr}{tx:Str}(r:j5 P w K mg base H a tx)(s:aI H H'):j5 P w K mg base H' a tx:=by
 obtain⟨C,dx,g,fs,h1,h2,h3,h4,ps,h7⟩:=r;exact⟨C,dx,g,fs,s _ _ h1,h2,h3,h4,ps,h7.imp fun vs H2 Q _ ⟨e,b,d⟩=>⟨e,s.trans b,d⟩⟩
theorem Hh(T:T K mg AL LN RU OW PL PA VO MA NE fE fH rR rO rP rA rV rM rN iR iO iP iA iV iM iN fL wR wO wP wA wV wM wN CO iC cH cE cW SE NG NL NT)(D:Md P w K mg base 1 ["self"] Ha wR){H:Hp}{a dx:Addr}{m:V}(ha:H a=some (.ins RU dx [("many",m)])):j5 P w K mg base H a ("none":Str) :=
 ⟨RU,dx,wR,_,ha,rfl,T.Ii.oc.cl,T.Nr,_,(D.up (by decide)).imp fun vs H2 Q _ ⟨e,s,q⟩=>⟨a,e,q _ (.refl _)⟩⟩
theorem Kq(T:T K mg AL LN RU OW PL PA VO MA NE fE fH rR rO rP rA rV rM rN iR iO iP iA iV iM iN fL wR wO wP wA wV wM wN CO iC cH cE cW SE NG NL NT)(D:Md P w K mg base 2 ["self"] (Bg OW) wO){H:Hp}{a dx l:Addr}{m:V}{ns:List Int}(ha:H a=some (.ins OW dx [("many",m),("numbers",.ref l)]))(hl:H l=some (.lst (ns.map V.int)))(h64:ns.length<=64)(hn:∀n∈ns,n.natAbs<10^60):j5 P w K mg base H a (rH ("own":Str) (ns.map nW)) :=
 ⟨OW,dx,wO,_,ha,rfl,T.FW.oc.cl,T.Nt,_,(D.up (by decide)).imp fun vs H2 Q _ ⟨e,s,q⟩=>⟨a,dx,l,m,ns,e,s _ _ ha,s _ _ hl,h64,hn,q⟩⟩
theorem CZ(T:T K mg AL LN RU OW PL PA VO MA NE fE fH rR rO rP rA rV rM rN iR iO iP iA iV iM iN fL wR wO wP wA wV wM wN CO iC cH cE cW SE NG NL NT)(D:Md P w K mg base 2 ["self"] (Hc VO) wV){H:Hp}{a dx l:Addr}{m:V}{q z:Int}{ns:List Int}(ha:H a=some (.ins VO dx [("many",m),("quota",.int q),("prize",.int z),("weights",.ref l)]))(hl:H l=some (.lst (ns.map V.int)))(h62:ns.length<=62)(hn:∀n∈q::z::ns,n.natAbs<10^60):j5 P w K mg base H a (rH ("votes":Str) ((q::z::ns).map nW)) :=
 ⟨VO,dx,wV,_,ha,rfl,T.yL.oc.cl,T.Nw,_,(D.up (by decide)).imp fun vs H2 Q _ ⟨e,s,k⟩=>⟨a,dx,l,m,q,z,ns,e,s _ _ ha,s _ _ hl,h62,hn,k⟩⟩
theorem Dc(T:T K mg AL LN RU OW PL PA VO MA NE fE fH rR rO rP rA rV rM rN iR iO iP iA iV iM iN fL wR wO wP wA wV wM wN CO iC cH cE cW SE NG NL NT)(D:Md P w K mg base 2 ["self"] (Bh PL) wP){H:Hp}{a dx l:Addr}{m:V}{e0:Int}{ns:List Int}(ha:H a=some (.ins PL dx [("many",m),("earnings",.ref l)]))(hl:H l=some (.lst ((e0::ns).map V.int)))(h64:ns.length<=64)(hn:∀n∈ns,n.natAbs<10^60):j5 P w K mg base H a (rH ("table":Str) (ns.map nW)) :=
 ⟨PL,dx,wP,_,ha,rfl,T.FX.oc.cl,T.Nu,_,(D.up (by decide)).imp fun vs H2 Q _ ⟨e,s,q⟩=>⟨a,dx,l,m,e0,ns,e,s _ _ ha,s _ _ hl,h64,hn,q⟩⟩
theorem Dd(T:T K mg AL LN RU OW PL PA VO MA NE fE fH rR rO rP rA rV rM rN iR iO iP iA iV iM iN fL wR wO wP wA wV wM wN CO iC cH cE cW SE NG NL NT)(D:Md P w K mg base 2 ["self"] (Bj PA) wA){H:Hp}{a dx l:Addr}{m:V}{bs:List Addr}{ps:List P3}(ha:H a=some (.ins PA dx [("many",m),("pairs",.ref l)]))(hl:H l=some (.lst (bs.map V.ref)))(a2:A2 (dC H) bs ps)(h64:ps.length<=64)(hn:∀q∈ps,q.1<6/\q.2.1<6/\q.2.2.natAbs<10^60):j5 P w K mg base H a (rH ("pairs":Str) (ps.map pW)) :=
 ⟨PA,dx,wA,_,ha,rfl,T.FY.oc.cl,T.Nv,_,(D.up (by decide)).imp fun vs H2 Q _ ⟨e,s,q⟩=>⟨a,dx,l,m,bs,ps,e,s _ _ ha,s _ _ hl,a2.imp fun _ _ z=>z.keep s.t,h64,hn,q⟩⟩
theorem De(T:T K mg AL LN RU OW PL PA VO MA NE fE fH rR rO rP rA rV rM rN iR iO iP iA iV iM iN fL wR wO wP wA wV wM wN CO iC cH cE cW SE NG NL NT)(D:Md P w K mg base 2 ["self"] (Hf MA) wM){H:Hp}{a dx l lb:Addr}{m:V}{bs:List Addr}{ps:List P3}(ha:H a=some (.ins MA dx [("many",m),("pairs",.ref l),("best",.ref lb)]))(hl:H l=some (.lst (bs.map V.ref)))(a2:A2 (dC H) bs ps)(h64:ps.length<=64)(hn:∀q∈ps,q.1<6/\q.2.1<6/\q.2.2.natAbs<10^60):j5 P w K mg base H a (rH ("match":Str) (ps.map pW)) :=
 ⟨MA,dx,wM,_,ha,rfl,T.CB.oc.cl,T.Nx,_,(D.up (by decide)).imp fun vs H2 Q _ ⟨e,s,q⟩=>⟨a,dx,l,lb,m,bs,ps,e,s _ _ ha,s _ _ hl,a2.imp fun _ _ z=>z.keep s.t,h64,hn,q⟩⟩
theorem Kr(T:T K mg AL LN RU OW PL PA VO MA NE fE fH rR rO rP rA rV rM rN iR iO iP iA iV iM iN fL wR wO wP wA wV wM wN CO iC cH cE cW SE NG NL NT)(D:Md P w K mg base 2 ["self"] (Hg NE) wN){H:Hp}{a dx l lr:Addr}{m:V}{cs:List Int}{bs:List Addr}{ps:List P3}(ha:H a=some (.ins NE dx [("many",m),("costs",.ref l),("ropes",.ref lr)]))(hl:H l=some (.lst (cs.map V.int)))(hr:H lr=some (.lst (bs.map V.ref)))(a2:A2 (dC H) bs ps)(h64:ps.length<=64)(c64:cs.length<=64)(hc:∀n∈cs,n.natAbs<10^60)(hn:∀q∈ps,q.1<6/\q.2.1<6/\q.2.2.natAbs<10^60):j5 P w K mg base H a (rH ("net":Str) (cs.map nW++ps.map pW)) :=
 ⟨NE,dx,wN,_,ha,rfl,T.vW.oc.cl,T.Ny,_,(D.up (by decide)).imp fun vs H2 Q _ ⟨e,s,q⟩=>⟨a,dx,l,lr,m,cs,bs,ps,e,s _ _ ha,s _ _ hl,s _ _ hr,a2.imp fun _ _ z=>z.keep s.t,h64,c64,hc,hn,q⟩⟩
theorem eP{H:Hp}{q x dx:Addr}{o u v:HO}(hq:H q=some o)(hx:H x=none)(hd:H dx=none):upd (upd H dx u) x v q=some o:=by
 rw[aL (aT hq hx),aL (aT hq hd)];exact hq
theorem f9{H:Hp}{l x dx:Addr}{u v:HO}(ne:dx≠x)(hl:upd (upd H dx u) x v l=none):H l=none:=by
 have nl:l≠x:=fun z=>by rw[z,aC] at hl;cases hl
 have nd:l≠dx:=fun z=>by rw[z,aL ne,aC] at hl;cases hl
 rw[aL nl,aL nd] at hl;exact hl
theorem A2.perm{α:Type}{R:Addr->α->Prop}{as bs:List Addr}(p:bs.Perm as):∀{xs:List α},A2 R as xs->∃ys,A2 R bs ys/\ys.Perm xs:=by
 induction p with
 | nil=>intro xs h;exact⟨xs,h,.refl _⟩
 | cons b _ ih =>
  intro xs h;cases h with
  | cons r t =>
   obtain⟨ys,h1,h2⟩:=ih t;exact⟨_,.cons r h1,h2.cons _⟩
 | swap a b l =>
  intro xs h;cases h with
  | cons r t =>
   cases t with
   | cons r2 t2=>exact⟨_,.cons r2 (.cons r t2),.swap _ _ _⟩
 | trans _ _ ih1 ih2 =>
  intro xs h;obtain⟨ys,h1,h2⟩:=ih2 h;obtain⟨zs,h3,h4⟩:=ih1 h1;exact⟨zs,h3,h4.trans h2⟩
theorem A2.uniq{H:Hp}{bs:List Addr}{ps qs:List P3}(h:A2 (dC H) bs ps)(k:A2 (dC H) bs qs):ps=qs:=by
 induction h generalizing qs with
 | nil=>cases k;rfl
 | cons r _ ih =>
  cases k with
  | cons r2 t2=>rw[r.eq r2,ih t2]
theorem Bk{H:Hp}{q:Addr}{ns:List Int}{x dx:Addr}{R:VK}{E:XK}(hx:H x=none)(hd:H dx=none)(ne:dx≠x)(hq:H q=some (.lst (ns.map V.int)))(h1:1<=ns.length)(h6:ns.length<=6)
  (k:∀l H',H l=none->aI H H'->H' x=some (.ins OW dx [("many",.int (ns.length:Int)),("numbers",.ref l)])->H' l=some (.lst (ns.map V.int))->R .non H') :
  Gw K NL OW [.ref x,.ref q] (upd (upd H dx (.own x)) x (.ins OW dx [])) R E:=by
 refine⟨x,dx,q,_,rfl,aC,eP hq hx hd,lR,by rw[qAa];lia,fun no=>?_,fun _ l H' hl sb e1 e2=>?_⟩
 ·unfold okN at no;rw[qAa,decide_eq_true h1,decide_eq_true h6,all_ints] at no;cases no
 ·rw[qAa] at e1;exact k l H' (f9 ne hl) (sb.made hx hd ne) e1 e2
theorem Dg{ns:List Int}{m:Nat}(hn:(0::ns).length=2^m)(h1:1<=m)(h6:m<=6):iY ((0::ns).map V.int)=true:=by
 unfold iY;rw[all_ints,qAa,hn];have:∀m:_root_.Fin 7,1<=m.1->[2,4,8,16,32,64].contains (2^m.1)=true:=by decide
 rw[this ⟨m,by lia⟩ h1];rfl
theorem sU{H:Hp}{q:Addr}{ns:List Int}{m:Nat}{x dx:Addr}{R:VK}{E:XK}(hx:H x=none)(hd:H dx=none)(ne:dx≠x)(hq:H q=some (.lst ((0::ns).map V.int)))(hn:(0::ns).length=2^m)(h1:1<=m)(h6:m<=6)
  (k:∀l H',H l=none->aI H H'->H' x=some (.ins PL dx [("many",.int (m:Int)),("earnings",.ref l)])->H' l=some (.lst ((0::ns).map V.int))->R .non H') :
  Gy K NT PL [.ref x,.ref q] (upd (upd H dx (.own x)) x (.ins PL dx [])) R E:=by
 have h64:=FU h6;have ok:=Dg hn h1 h6;refine⟨x,dx,q,_,rfl,aC,eP hq hx hd,lR,by rw[qAa];lia,fun no=>?_,fun _ m' l H' m1 m6 hm' hl sb e1 e2=>?_⟩
 ·rw[ok] at no;cases no
 ·have em:m'=m:=by
   rw[qAa,hn] at hm';have inj:∀a b:_root_.Fin 7,2^a.1=2^b.1->b.1=a.1:=by decide
   exact inj ⟨m,by lia⟩ ⟨m',by lia⟩ hm'
  subst em;exact k l H' (f9 ne hl) (sb.made hx hd ne) e1 e2
theorem wF(c:Ai K RU)(n:cS K RU "many"){H:Hp}{m:Nat}{x dx:Addr}{R:VK}{E:XK}(hx:H x=none)(hd:H dx=none)(ne:dx≠x)(h1:1<=m)(h6:m<=6)
  (k:∀H',aI H H'->H' x=some (.ins RU dx [("many",.int (m:Int))])->R .non H') :
  qS K NL [.ref x,.int (m:Int)] (upd (upd H dx (.own x)) x (.ins RU dx [])) R E:=by
 have ok:kF 1 6 (.int (m:Int))=true:=by rw[gC,decide_eq_true h1,decide_eq_true h6];rfl
 refine⟨x,RU,dx,_,rfl,aC,c.cl,n,.int _,fun no=>?_,fun _=>?_⟩
 ·rw[ok] at no;cases no
 ·refine k _ (SameBut.made hx hd ne (((aI.refl _).but x).gO _)) aC
theorem sV{H:Hp}{p:Addr}{q pz:Int}{ws:List Int}{x dx:Addr}{R:VK}{E:XK}(hx:H x=none)(hd:H dx=none)(ne:dx≠x)(hp:H p=some (.lst (ws.map V.int)))(hq:1<=q)(h1:1<=ws.length)(h6:ws.length<=6)
  (k:∀(l:Addr) (H':Hp),H l=none->aI H H'->H' x=some (.ins VO dx [("many",.int (ws.length:Int)),("quota",.int q),("prize",.int pz),("weights",.ref l)])->H' l=some (.lst (ws.map V.int))->R .non H') :
  GC K NL VO [.ref x,.int q,.int pz,.ref p] (upd (upd H dx (.own x)) x (.ins VO dx [])) R E:=by
 refine⟨x,dx,p,_,_,_,rfl,aC,.int _,.int _,eP hp hx hd,lR,by rw[qAa];lia,fun no=>?_,fun _ l H' hl sb e1 e2=>?_⟩
 ·have ok:CM (.int q) (.int pz) (ws.map V.int)=true:=by
   unfold CM okN;rw[qAa,all_ints,decide_eq_true h1,decide_eq_true h6];show decide (1<=q)=true;exact decide_eq_true hq
  rw[ok] at no;cases no
 ·rw[qAa] at e1;exact k l H' (f9 ne hl) (sb.made hx hd ne) e1 e2
theorem sW{H:Hp}{q:Addr}{m:Nat}{as:List Addr}{qs:List P3}{x dx:Addr}{R:VK}{E:XK}(hx:H x=none)(hd:H dx=none)(ne:dx≠x)(hq:H q=some (.lst (as.map V.ref)))(ok:dN m H as)(a2:A2 (dC H) as qs)(h1:1<=m)(h6:m<=6)
  (k:∀(l:Addr) (bs:List Addr) (ps:List P3) (H':Hp),H l=none->aI H H'->ps.Perm qs->jZ ps->A2 (dC H') bs ps->H' x=some (.ins PA dx [("many",.int (m:Int)),("pairs",.ref l)])->H' l=some (.lst (bs.map V.ref))->R .non H') :
  AX K NL PA [.ref x,.int (m:Int),.ref q] (upd (upd H dx (.own x)) x (.ins PA dx [])) R E:=by
 have ok':dN m (upd (upd H dx (.own x)) x (.ins PA dx [])) as:=ok.same fun b _ o e=>eP e hx hd;have i16:kF 1 6 (.int (m:Int))=true:=by rw[gC,decide_eq_true h1,decide_eq_true h6];rfl
 refine⟨x,dx,q,_,as,rfl,aC,.int _,eP hq hx hd,ok'.g7,by have:=ok.2.2;lia,fun no=>?_,fun m' e _=>⟨fun no=>?_,fun _ l bs H' hl p hpw sb e1 e2=>?_⟩⟩
 ·rw[i16] at no;cases no
 ·have e:=V.int.inj e;subst e;rw[ok'.ok] at no;cases no
 ·have s:=sb.made hx hd ne;have t:dX (upd (upd H dx (.own x)) x (.ins PA dx [])) H':=fun b xs e=>sb b _ (e8 e aC (fun z=>nomatch z)) e;obtain⟨ps,a3,pm⟩:=(a2.imp fun _ _ z=>z.keep s.t).perm p;exact k l bs ps H' (f9 ne hl) s pm (a3.sQ (GG t (fun a ha=>let ⟨u,v,n,e,_⟩:=ok'.1 a (p.mem_iff.mp ha);⟨_,e⟩) hpw)) a3 e1 e2
theorem sX{H:Hp}{q:Addr}{m:Nat}{as:List Addr}{qs:List P3}{x dx:Addr}{R:VK}{E:XK}(hx:H x=none)(hd:H dx=none)(ne:dx≠x)(hq:H q=some (.lst (as.map V.ref)))(ok:dN m H as)(a2:A2 (dC H) as qs)(h1:1<=m)(h6:m<=6)
  (k:∀(l lb:Addr) (bs:List Addr) (ps:List P3) (H':Hp),H l=none->H lb=none->aI H H'->ps.Perm qs->jZ ps->A2 (dC H') bs ps->qV MA H' x lb m ps->(∃dx,H' x=some (.ins MA dx [("many",.int (m:Int)),("pairs",.ref l),("best",.ref lb)]))->H' l=some (.lst (bs.map V.ref))->R .non H') :
  GH MA [.ref x,.int (m:Int),.ref q] (upd (upd H dx (.own x)) x (.ins MA dx [])) R E:=by
 have ok':dN m (upd (upd H dx (.own x)) x (.ins MA dx [])) as:=ok.same fun b _ o e=>eP e hx hd;refine⟨x,dx,q,m,as,rfl,aC,eP hq hx hd,ok',h1,h6,fun l lb bs ps H' hlb pm sb e1 e2 e3 e4 e5 hl=>?_⟩;have s:=sb.made hx hd ne;obtain⟨ps',a3,pm'⟩:=(a2.imp fun _ _ z=>z.keep s.t).perm pm;rw[a3.uniq e1] at pm';exact k l lb bs ps H' (f9 ne hl) (f9 ne hlb) s pm' e5 e1 e2 e3 e4
theorem Bl{H:Hp}{p q:Addr}{cs:List Int}{as:List Addr}{qs:List P3}{x dx:Addr}{R:VK}{E:XK}(hx:H x=none)(hd:H dx=none)(ne:dx≠x)(hp:H p=some (.lst (cs.map V.int)))(c1:1<=cs.length)(c6:cs.length<=6)(c0:∀c∈cs,0<=c)(hq:H q=some (.lst (as.map V.ref)))(ok:dN cs.length H as)(a2:A2 (dC H) as qs)(r0:∀r∈qs,0<=r.2.2)
  (k:∀(l lr:Addr) (rs:List P3) (H':Hp),H l=none->H lr=none->aI H H'->rs.Perm qs->jZ rs->qZ NE H' x l lr cs rs->R .non H') :
  GU NE [.ref x,.ref p,.ref q] (upd (upd H dx (.own x)) x (.ins NE dx [])) R E:=by
 have ok':dN cs.length (upd (upd H dx (.own x)) x (.ins NE dx [])) as:=ok.same fun b _ o e=>eP e hx hd;refine⟨x,dx,p,q,cs,as,rfl,aC,eP hp hx hd,c1,c6,c0,eP hq hx hd,ok',fun a ha r hr=>?_,fun l lr bs rs H' hl hlr pm sb e1 e2 e3=>?_⟩
 ·obtain⟨u,v,n,e,_⟩:=ok.1 a ha;have e':dC _ a (u,v,n):=eP (u:=.own x) (v:=.ins NE dx []) e hx hd;have z:=hr.eq e';obtain⟨r',hr',pr'⟩:=a2.mem.1 a ha;have z2:r'=(u,v,n):=pr'.eq e;rw[z,<- z2];exact r0 r' hr'
 ·have s:=sb.made hx hd ne;obtain⟨ps',a3,pm'⟩:=(a2.imp fun _ _ z=>z.keep s.t).perm pm;rw[a3.uniq e1] at pm';exact k l lr rs H' (f9 ne hl) (f9 ne hlr) s pm' e3 e2
abbrev Ru:=Addr×Nat×(Nat->Int)
def nC(P:qBc)(w:qCd)(K:qAb)(mg:Str->Option qAf)(base:Heap)(fE fH RU:Addr)(H:Hp)(os:List Ru):Prop:=∀o∈os,kM P w K mg base fE fH RU H o.1 o.2.1 o.2.2
theorem nC.same{fE fH RU:Addr}{H H':Hp}{os:List Ru}(h:nC P w K mg base fE fH RU H os)(s:aI H H'):nC P w K mg base fE fH RU H' os:=fun o ho=>(h o ho).same s
def refs(os:List Ru):List V:=os.map fun o=>V.ref o.1
def sY(v:V)(os:List Ru):Bool:=!(kF 1 6 v)||decide (12<os.length)||(os.any fun o=>!(decide (V.int (o.2.1:Int)=v)))
def Dh(P:qBc)(w:qCd)(K:qAb)(mg:Str->Option qAf)(base:Heap)(fE fH RU CO NL:Addr):Sp:=fun vs H Q E=>∃(x dx p:Addr) (v:V) (os:List Ru),vs=[.ref x,v,.ref p]/\H x=some (.ins CO dx [])/\H p=some (.lst (refs os))/\os.length<=60/\nC P w K mg base fE fH RU H os/\Pl K H v /\
 (sY v os=true->∀H',aI H H'->E (.ref NL) none H') /\
 (sY v os=false->∀l H',H l=none->SameBut x H H'->H' x=some (.ins CO dx [("many",v),("rules",.ref l)])->H' l=some (.lst (refs os))->Q .non H')
theorem My:aK ["self","many","rules"] ["self","many","rules"] (aE Ic):=by constructor<;>first|rfl|decide +kernel
theorem Ks{f1:Addr}{fd1:qBd}(t:Mx K "__init__" "Company.__init__" Ic ["self","many","rules"] f fd)(T:T K mg AL LN RU OW PL PA VO MA NE fE fH rR rO rP rA rV rM rN iR iO iP iA iV iM iN fL wR wO wP wA wV wM wN CO iC cH cE cW SE NG NL NT)(D_check_many:Df P w K mg base (gZ P w) 3 "check_many" ["many"] (AR K NL) f1 fd1)(D_Hs:Md P w K mg base 1 ["self"] (uX K) fH):
  Md P w K mg base 4 ["self","many","rules"] (Dh P w K mg base fE fH RU CO NL) f:=by
 refine t.BG My (fun vs H Q E h=>?_) (fun cdv A outer s H vs Q E hr h=>?_)
 ·obtain⟨x,dx,p,v,os,rfl,_⟩:=h;rfl
 ·obtain⟨x,dx,p,v,os,rfl,hx,hp,ol,ro,pl,k0,k⟩:=h;obtain⟨tkMR,hMR⟩:=T.mr;have rl:(refs os).length=os.length:=by unfold refs;rw[qAa]
  refine⟨_,(aD (bN (eK bA.toPass D_check_many hr (by decide) (by rfl) (aA (pv 1) aB)))
   (aD (bK (aS lZ (aO aZ (by rfl) T.cN cC (aA (pv 2) aB)) (bP (v:=.int 12) (by rfl) hMR ⟨tkMR,rfl⟩) (aV _)) (aH (dH bA rfl (by rfl) T.yM T.yN (aA aU aB))) aX)
   (aD (bK (cY (aO (sD rfl) (by rfl) T.pC Aj (aA (bM (NB:=["rule","many"]) (pick:=[none,some 1]) (bR (by with_unfolding_all rfl) (by exact(And.intro rfl trivial)) rfl (by decide +kernel) (by decide +kernel) (by rfl) (by rfl)) rfl
     (bL (pv 2)) (fun _ _ _=>aP (i:=0) (show(["rule","many"]:List Str).Nodup from by decide +kernel) rfl cK)
     (fun _ _ _=>bS) (fun _ _ _=>(eJ gR (mK P w K mg base rfl rfl rfl rfl rfl (k:=1) bQ (pv 0) hr (by decide)) (pv 1) (aV _)))) aB))) (aH (dH bA rfl (by rfl) T.yM T.yN (aA aU aB))) aX)
   (aD (eW (pv 0) (pv 1) rfl)
   (aH (eW (pv 0) (cG dB (by rfl) T.fF fZ (aA (pv 2) aB)) rfl)))))),?_⟩
  refine⟨_,rfl,v,rfl,pl,?_⟩;cases e1:kF 1 6 v with
  | false =>
   rw[if_neg qAl];exact k0 (by unfold sY;rw[e1];rfl) H (.refl _)
  | true =>
   rw[if_pos rfl];refine⟨_,rfl,p,_,rfl,.inl (aY.of hp),_,_,rfl,rfl,_,rfl,?_⟩;have ec:decide (((refs os).length:Int)>12)=decide (12<os.length):=by
    rw[rl];by_cases z:12<os.length
    ·rw[decide_eq_true z,decide_eq_true (by lia)]
    ·rw[decide_eq_false z,decide_eq_false (by lia)]
   show if decide (((refs os).length:Int)>12)=true then _ else _;rw[ec];cases e2:decide (12<os.length) with
   | true=>exact cT ⟨nK,k0 (by unfold sY;rw[e1,e2];rfl) H (.refl _)⟩
   | false =>
    refine bG ?_;obtain⟨m,rfl⟩:∃m:Int,v = .int m:=by
     cases v with
     | int i=>exact⟨i,rfl⟩
     | _=>cases e1
    refine⟨_,rfl,p,rfl,⟨_,aY.of hp⟩,?_⟩;refine cF (xs:=refs os) (fun i _=>(os[i]?).map fun o=>V.bl (!decide (V.int (o.2.1:Int)=V.int m))) (aY.of hp) (by rw[rl];exact qBb (aQ (by lia))) (fun i y H2 kk kk0 s2 hy g1 g2=>?_) fun D H2 hD s2 hd=>?_
    ·have hi:i<os.length:=by
      obtain⟨z,_⟩:=List.getElem?_eq_some_iff.mp hy;rw[rl] at z;exact z
     obtain rfl:V.ref os[i].1=y:=by
      unfold refs at hy;rw[qAj,qAc hi] at hy;exact Option.some.inj hy
     obtain⟨C,dx',g,fs,h1,h2,h3,h4,h5,h6,ps,h7⟩:=ro os[i] (qCh hi);have h1:=s2 _ _ h1;refine⟨_,rfl,os[i].1,C,dx',fs,fH,uX K,rfl,h1,h6.2.1,h2.oc.cl,h2.mh,⟨_,D_Hs⟩,?_⟩;refine⟨os[i].1,C,dx',fs,_,rfl,h1,h2.oc.cl,h2.nm,h3,_,rfl,rfl,g1 _ ?_ _ (.refl _)⟩;rw[qAc hi];rfl
    have ed:((qAq (refs os).length).filterMap fun i=>((refs os)[i]?).bind fun _=>(os[i]?).map fun o=>V.bl (!decide (V.int (o.2.1:Int)=V.int m)))=(os.map fun o=>!decide (V.int (o.2.1:Int)=V.int m)).map V.bl:=by
     rw[rl,qBt];refine Eq.trans (dD (g:=fun i=>(os[i]?).bind fun o=>some (V.bl (!decide (V.int (o.2.1:Int)=V.int m)))) fun i hi=>?_) ?_
     ·have hi:=List.mem_range.mp hi;rw[qAc (l:=refs os) (by rw[rl];exact hi),qAc hi];rfl
     ·rw[cJ,qBx];rfl
    rw[ed] at hd;refine⟨D,_,rfl,aY.of hd,_,rfl,?_⟩;have ea:(os.map fun o=>!decide (V.int (o.2.1:Int)=V.int m)).any id=os.any fun o=>!(decide (V.int (o.2.1:Int)=V.int m)):=by rw[List.any_map];rfl
    rw[ea];cases e3:os.any fun o=>!(decide (V.int (o.2.1:Int)=V.int m)) with
    | true=>exact cT ⟨nK,k0 (by unfold sY;rw[e1,e2,e3];rfl) H2 s2⟩
    | false =>
     refine bG ?_;have hx2:=s2 _ _ hx;have hp2:=s2 _ _ hp;refine⟨_,rfl,_,rfl,x,CO,dx,[],rfl,hx2,T.kZ.oc.cl,T.kZ.nm,by decide,?_⟩;have ne:p≠x:=e8 hp hx (by intro z;cases z);have hp3:upd H2 x (.ins CO dx [("many",V.int m)]) p=some (.lst (refs os)):=by rw[aL ne];exact hp2
     have sb:SameBut x H (upd H2 x (.ins CO dx [("many",V.int m)])):=(s2.but x).gO _;have hx3:upd H2 x (.ins CO dx [("many",V.int m)]) x=some (.ins CO dx [("many",V.int m)]):=aC;rw[show gY ("many":Str) (V.int m) []=[(("many":Str),V.int m)] from rfl];generalize upd H2 x (.ins CO dx [("many",V.int m)])=H3 at hp3 sb hx3|-;refine⟨_,rfl,p,_,rfl,.inl (aY.of hp3),fun l hl=>?_⟩;have u4:=aI.aJ (o:=.lst (refs os)) hl;have nl:l≠x:=(aT hx3 hl).symm;refine⟨_,rfl,x,CO,dx,_,rfl,u4 _ _ hx3,T.kZ.oc.cl,T.kZ.nr,(by show 1<1000;decide),?_⟩;refine k (by unfold sY;rw[e1,e2,e3];rfl) l _ ?_ ((sb.then u4).gO _) aC (by rw[aL nl];exact aC);cases e:H l with
     | none=>rfl
     | some o =>
      have z:=sb l o nl e;rw[hl] at z;cases z
theorem Mz:aK ["self"] ["self"] (aE Ie):=by constructor<;>first|rfl|decide +kernel
theorem Kt(t:Mx K "hands" "Company.hands" Ie ["self"] f fd):Md P w K mg base 1 ["self"] (uX K) f:=by
 refine t.rG Mz (fun vs H Q E h=>?_) (fun cdv A outer s H vs Q E hr h=>?_)
 ·obtain⟨a,C,dx,fs,v,rfl,_⟩:=h;rfl
 ·obtain⟨a,C,dx,fs,v,rfl,ha,c,n,hl,k⟩:=h;refine⟨_,(aH (aN (bY (pv 0) rfl))),?_⟩;exact⟨_,rfl,a,C,dx,fs,v,rfl,ha,c,n,hl,k⟩
def zB(P:qBc)(w:qCd)(K:qAb)(mg:Str->Option qAf)(base:Heap)(fE fH RU CO:Addr)(H:Hp)(a:Addr)(m:Nat)(os:List Ru):Prop :=
 ∃(dx l:Addr),H a=some (.ins CO dx [("many",.int (m:Int)),("rules",.ref l)])/\H l=some (.lst (refs os))/\os.length<=12/\1<=m/\m<=6/\nC P w K mg base fE fH RU H os/\∀o∈os,o.2.1=m
theorem zB.same{fE fH RU CO:Addr}{H H':Hp}{a:Addr}{m:Nat}{os:List Ru}(h:zB P w K mg base fE fH RU CO H a m os)(s:aI H H'):zB P w K mg base fE fH RU CO H' a m os:=by
 obtain⟨dx,l,h1,h2,h3,h4,h5,h6,h7⟩:=h;exact⟨dx,l,s _ _ h1,s _ _ h2,h3,h4,h5,h6.same s,h7⟩
def Bm(os:List Ru)(g:Nat):Int:=(os.map fun o=>o.2.2 g).sum
def Ku(P:qBc)(w:qCd)(K:qAb)(mg:Str->Option qAf)(base:Heap)(fE fH RU CO NG:Addr):Sp:=fun vs H Q E=>∃(a:Addr) (m:Nat) (os:List Ru) (v:V),vs=[.ref a,v]/\zB P w K mg base fE fH RU CO H a m os/\Pl K H v /\
 (kF 0 (2^m-1) v=false->∀H',aI H H'->E (.ref NG) none H')/\∀(g:Nat),v = .int (g:Int)->g<2^m->∀H',aI H H'->Q (.int (Bm os g)) H'
theorem MB:aK ["self","group"] ["self","group"] (aE Ig):=by constructor<;>first|rfl|decide +kernel
theorem Kv{f1:Addr}{fd1:qBd}(t:Mx K "earn" "Company.earn" Ig ["self","group"] f fd)(T:T K mg AL LN RU OW PL PA VO MA NE fE fH rR rO rP rA rV rM rN iR iO iP iA iV iM iN fL wR wO wP wA wV wM wN CO iC cH cE cW SE NG NL NT)(D_check_group:Df P w K mg base (gZ P w) 3 "check_group" ["group","many"] (vX K NG) f1 fd1)(D_Ern:Md P w K mg base 7 ["self","group"] (DH P w K mg base fE fH RU NG) fE):
  Md P w K mg base 8 ["self","group"] (Ku P w K mg base fE fH RU CO NG) f:=by
 refine t.BG MB (fun vs H Q E h=>?_) (fun cdv A outer s H vs Q E hr h=>?_)
 ·obtain⟨a,m,os,v,rfl,_⟩:=h;rfl
 ·obtain⟨a,m,os,v,rfl,co,pl,k0,k⟩:=h;obtain⟨dx,l,h1,h2,h3,h4,h5,h6,h7⟩:=id co;have rl:(refs os).length=os.length:=by unfold refs;rw[qAa]
  refine⟨_,(aD (bN (eK bA.toPass D_check_group hr (by decide) (by rfl) (aA (pv 1) (aA (bY (pv 0) rfl) aB))))
   (aH (aN (aO (eL rfl) (by rfl) T.gG gP (aA (bM (NB:=["rule","group"]) (pick:=[none,some 1]) (bR (by with_unfolding_all rfl) (by exact(And.intro rfl trivial)) rfl (by decide +kernel) (by decide +kernel) (by rfl) (by rfl)) rfl
     (bL (bY (pv 0) rfl)) (fun _ _ _=>aP (i:=0) (show(["rule","group"]:List Str).Nodup from by decide +kernel) rfl cK)
     (fun _ _ _=>bS) (fun _ _ _=>(xX P w K mg base rfl rfl rfl rfl rfl (k:=7) bQ (pv 0) hr (by decide) (aA (pv 1) aB)))) aB))))),?_⟩
  refine⟨_,rfl,_,rfl,a,CO,dx,_,_,rfl,h1,T.kZ.oc.cl,T.kZ.nm,rfl,v,m,rfl,h5,pl,k0,fun yes H1 s1=>?_⟩;obtain⟨gr,rfl,hg⟩:=mR yes;have hl1:=s1 _ _ h2;refine⟨_,rfl,a,CO,dx,_,_,rfl,s1 _ _ h1,T.kZ.oc.cl,T.kZ.nr,rfl,l,rfl,⟨_,aY.of hl1⟩,?_⟩;refine cF (xs:=refs os) (fun i _=>(os[i]?).map fun o=>V.int (o.2.2 gr)) (aY.of hl1) (by rw[rl];exact qBb (aQ (by lia))) (fun i y H2 kk kk0 s2 hy g1 g2=>?_) fun D H2 hD s2 hd=>?_
  ·have hi:i<os.length:=by
    obtain⟨z,_⟩:=List.getElem?_eq_some_iff.mp hy;rw[rl] at z;exact z
   obtain rfl:V.ref os[i].1=y:=by
    unfold refs at hy;rw[qAj,qAc hi] at hy;exact Option.some.inj hy
   have ro:=(h6 os[i] (qCh hi)).same (s1.trans s2);have hm:=h7 os[i] (qCh hi);rw[hm] at ro;obtain⟨C,dx',g,fs,r1,r2,r3,r4,r5,r6,ps,r7⟩:=id ro;refine⟨_,rfl,os[i].1,C,dx',fs,fE,_,rfl,r1,r6.1,r2.oc.cl,r2.me,⟨_,D_Ern⟩,?_⟩;refine⟨_,rfl,os[i].1,m,_,_,rfl,ro,.int _,(fun no=>?_),fun g' eg hg' H3 s3=>?_⟩
   ·rw[yes] at no;cases no
   ·obtain rfl:gr=g':=by have:=V.int.inj eg;lia
    refine g1 _ ?_ _ s3;rw[qAc hi];rfl
  have ed:((qAq (refs os).length).filterMap fun i=>((refs os)[i]?).bind fun _=>(os[i]?).map fun o=>V.int (o.2.2 gr))=(os.map fun o=>o.2.2 gr).map V.int:=by
   rw[rl,qBt];refine Eq.trans (dD (g:=fun i=>(os[i]?).bind fun o=>some (V.int (o.2.2 gr))) fun i hi=>?_) ?_
   ·have hi:=List.mem_range.mp hi;rw[qAc (l:=refs os) (by rw[rl];exact hi),qAc hi];rfl
   ·rw[cJ,qBx];rfl
  rw[ed] at hd;exact⟨D,_,rfl,.inl (aY.of hd),k gr rfl hg H2 (s1.trans s2)⟩
theorem wG{fE fH RU CO NL:Addr}{H:Hp}{q:Addr}{m:Nat}{os:List Ru}{x dx:Addr}{R:VK}{E:XK}(hx:H x=none)(hd:H dx=none)(ne:dx≠x)(hq:H q=some (.lst (refs os)))(o12:os.length<=12)(ro:nC P w K mg base fE fH RU H os)(om:∀o∈os,o.2.1=m)(h1:1<=m)(h6:m<=6)
  (k:∀l H',H l=none->aI H H'->H' x=some (.ins CO dx [("many",.int (m:Int)),("rules",.ref l)])->H' l=some (.lst (refs os))->R .non H') :
  Dh P w K mg base fE fH RU CO NL [.ref x,.int (m:Int),.ref q] (upd (upd H dx (.own x)) x (.ins CO dx [])) R E:=by
 have sm:aI H (upd (upd H dx (.own x)) x (.ins CO dx [])):=SameBut.made hx hd ne ((aI.refl _).but x);have b:sY (.int (m:Int)) os=false:=by
  unfold sY;have i16:kF 1 6 (.int (m:Int))=true:=by rw[gC,decide_eq_true h1,decide_eq_true h6];rfl
  have ea:(os.any fun o=>!(decide (V.int (o.2.1:Int)=V.int (m:Int))))=false:=List.any_eq_false.mpr fun o ho'=>by
   rw[om o ho',decide_eq_true rfl];decide
  rw[i16,ea,decide_eq_false (by lia)];rfl
 refine⟨x,dx,q,_,os,rfl,aC,sm _ _ hq,by lia,ro.same sm,.int _,(fun bad=>?_),fun _ l H' hl sb e1 e2=>k l H' (sm.free hl) (sb.made hx hd ne) e1 e2⟩;rw[b] at bad;cases bad
theorem eY{F:St->Hp->Prop}{σ σ':St}{H:Hp}(e:σ=σ')(h:F σ' H):F σ H:=e▸h
theorem rC{a b:TS}{D:Ends}{σ:St}{H:Hp}(R:St->Hp->Prop)(h1:(∀σ' H',R σ' H'->b D σ' H')->a { D with nx:=b D } σ H)(h2:∀σ' H',R σ' H'->b D σ' H'):BO a b D σ H:=h1 h2
def nE(m:Nat)(ts:List Str):Str:=Txt.join ("; ":Str) ((("hands ":Str)++nW (m:Int))::ts)
def Kw(P:qBc)(w:qCd)(K:qAb)(mg:Str->Option qAf)(base:Heap)(fE fH RU CO:Addr):Sp:=fun vs H Q _=>∃(a:Addr) (m:Nat) (os:List Ru) (ts:List Str),vs=[.ref a]/\zB P w K mg base fE fH RU CO H a m os/\ts.length=os.length/\(∀(i:Nat) (o:Ru) (tx:Str),os[i]?=some o->ts[i]?=some tx->j5 P w K mg base H o.1 tx)/\(∀t∈ts,t.length<=60000)/\∀H',aI H H'->Q (.str (nE m ts)) H'
theorem cw_room{h:Str}{ts:List Str}(h0:h.length<=100)(hl:ts.length<=12)(hs:∀s∈ts,s.length<=60000):((h::ts).map (·.length)).sum+(h::ts).length*("; ":Str).length<=16777216:=by
 have a:=j4 hs;have e:("; ":Str).length=2:=rfl;rw[qBi,qGb,qBj,e];have:=qKl 60000 hl;lia
theorem MC:aK ["self"] ["self"] (aE Ih):=by constructor<;>first|rfl|decide +kernel
theorem Kx(t:Mx K "words" "Company.words" Ih ["self"] f fd)(T:T K mg AL LN RU OW PL PA VO MA NE fE fH rR rO rP rA rV rM rN iR iO iP iA iV iM iN fL wR wO wP wA wV wM wN CO iC cH cE cW SE NG NL NT):Md P w K mg base 4 ["self"] (Kw P w K mg base fE fH RU CO) f:=by
 refine t.rG MC (fun vs H Q E h=>?_) (fun cdv A outer s H vs Q E hr h=>?_)
 ·obtain⟨a,m,os,ts,rfl,_⟩:=h;rfl
 ·obtain⟨a,m,os,ts,rfl,co,tl,wo,t6,k⟩:=h;obtain⟨dx,l,h1,h2,h3,h4,h5,h6,h7⟩:=id co;have rl:(refs os).length=os.length:=by unfold refs;rw[qAa]
  refine⟨_,(aH (aN (dP qBp qCm qCl dY aU (aA (aM cO (bZ (aA (aM tV aU (cG gL (by rfl) T.kY qG (aA (bY (pv 0) rfl) aB))) aB)) (bM (NB:=["rule"]) (pick:=[none]) (bR (by with_unfolding_all rfl) (by exact trivial) rfl (by decide +kernel) (by decide +kernel) (by rfl) (by rfl)) rfl
     (bL (bY (pv 0) rfl)) (fun _ _ _=>aP (i:=0) (show(["rule"]:List Str).Nodup from by decide +kernel) rfl cK)
     (fun _ _ _=>bS) (fun _ _ _=>(mK P w K mg base rfl rfl rfl rfl rfl (k:=3) bQ (pv 0) hr (by decide))))) aB)))),?_⟩
  have hm:(m:Int).natAbs<10^60:=qBo (show(m:Int).natAbs<=6 by lia) (by decide +kernel);have l1:=dW hm;have lh:(("hands ":Str)++nW (m:Int)).length<=100:=by
   rw[Str.length_append];have:("hands ":Str).length=6:=rfl;lia
  refine⟨rfl,_,rfl,a,CO,dx,_,_,rfl,h1,T.kZ.oc.cl,T.kZ.nm,rfl,(m:Int),rfl,eX hm,_,_,rfl,rfl,?_,nK,fun l0 hl0=>?_⟩
  ·show("hands ":Str).length+(nW (m:Int)).length<=qAg;rw[<- Str.length_append];exact qAt lh (by decide)
  have u0:=aI.aJ (o:=.lst [V.str (("hands ":Str)++nW (m:Int))]) hl0;refine⟨_,rfl,a,CO,dx,_,_,rfl,u0 _ _ h1,T.kZ.oc.cl,T.kZ.nr,rfl,l,rfl,⟨_,aY.of (u0 _ _ h2)⟩,?_⟩;refine cF (xs:=refs os) (fun i _=>(ts[i]?).map V.str) (aY.of (u0 _ _ h2)) (by rw[rl];exact qBb (aQ (by lia))) (fun i y H2 kk kk0 s2 hy g1 g2=>?_) fun D H2 hD s2 hd=>?_
  ·have hi:i<os.length:=by
    obtain⟨z,_⟩:=List.getElem?_eq_some_iff.mp hy;rw[rl] at z;exact z
   obtain rfl:V.ref os[i].1=y:=by
    unfold refs at hy;rw[qAj,qAc hi] at hy;exact Option.some.inj hy
   have ht:ts[i]?=some ts[i]:=qAc (by lia);obtain⟨C,dx',g,fs,r1,r2,r3,r4,ps,r7⟩:=(wo i os[i] ts[i] (qAc hi) ht).same (u0.trans s2);exact⟨_,rfl,os[i].1,C,dx',fs,g,_,rfl,r1,r2,r3,r4,⟨ps,r7⟩,rfl,.refl _,fun H3 s3=>g1 _ (by rw[ht];rfl) _ s3⟩
  have ed:((qAq (refs os).length).filterMap fun i=>((refs os)[i]?).bind fun _=>(ts[i]?).map V.str)=ts.map V.str:=by
   rw[rl];refine Eq.trans (dD (g:=fun i=>(ts[i]?).bind fun t=>some (V.str t)) fun i hi=>?_) ?_
   ·have hi:=List.mem_range.mp hi;rw[qAc (l:=refs os) (by rw[rl];exact hi),qAc (l:=ts) (by lia)];rfl
   ·rw[<- tl,cJ,qBx]
  rw[ed] at hd;refine⟨l0,D,_,_,rfl,rfl,aY.of (s2 _ _ aC),aY.of hd,(by rw[qAa];exact dJ (by show 1<=8;decide) (by lia)),fun p hp=>?_⟩;exact⟨_,p,(("hands ":Str)++nW (m:Int))::ts,rfl,rfl,aY.of aC,cw_room lh (by lia) t6,k _ (u0.trans (s2.trans (.aJ hp)))⟩
def Bo:Sp:=fun vs H Q _=>∃n:Int,vs=[.str (nW n)]/\n.natAbs<10^30/\∀H',aI H H'->Q (.int n) H'
theorem DQ:aK ["word","figures"] ["word"] (aE FA):=by constructor<;>first|rfl|decide +kernel
theorem Hi(t:Tx K mg "number_of" FA ["word"] f fd)(T:T K mg AL LN RU OW PL PA VO MA NE fE fH rR rO rP rA rV rM rN iR iO iP iA iV iM iN fL wR wO wP wA wV wM wN CO iC cH cE cW SE NG NL NT):Df P w K mg base cM 1 "number_of" ["word"] Bo f fd:=by
 refine t.jA DQ (fun vs H Q E h=>?_) (fun cdv A outer s H vs Q E hr h=>?_)
 ·obtain⟨n,rfl,_⟩:=h;rfl
 ·obtain⟨n,rfl,hn,k⟩:=h;obtain⟨tkMF,hMF⟩:=T.mf;obtain⟨tkFG,hFG⟩:=T.fg;refine⟨_,(aD (bF (i:=1) DQ.nd rfl (by first|exact .inl rfl|exact .inr rfl) (rT (cY (dP qBp qHn qHm mL (pv 0) (aA aU aB))) (cX AG (pv 0) (dA aG) c8) (pv 0)))
   (aD (bK (PW.pt (pw_or (dR (zP rZ rZ aG (aO jO (by rfl) T.cN cC (aA (pv 1) aB)) (bP (v:=.int 30) (by rfl) hMF ⟨tkMF,rfl⟩))) (pw_or1 (dR (cY (aO (mF rfl) (by rfl) T.mS uE (aA (bM (NB:=["sign"]) (pick:=[none]) (bR (by with_unfolding_all rfl) (by exact trivial) rfl (by decide +kernel) (by decide +kernel) (by rfl) (by rfl)) rfl
     (Fc (pv 1)) (fun _ _ _=>aP (i:=0) (show(["sign"]:List Str).Nodup from by decide +kernel) rfl cK)
     (fun _ _ _=>bS) (fun _ _ _=>(eJ wZ (pv 0) (bP (v:=.str ("0123456789":Str)) (by rfl) hFG ⟨tkFG,rfl⟩) (by rfl)))) aB))))))) (aH iW) aX)
   (aD (bK (PW.pt (pw_and (cY (dP qBp qHn qHm mL (pv 1) (aA aU aB))) (pw_and1 (aS gR (pv 0) aU (aV _))))) (aH iW) aX)
   (aH (aN (cG nY (by rfl) T.jC kE (aA (pv 0) aB))))))),?_⟩
  have wH:n.natAbs<10^60:=qFs hn (by decide +kernel);obtain⟨f1,f30⟩:=AO (n:=n) (by decide) hn;obtain⟨i1,i2⟩:=Fe wH;have sz:∀{x:Str},x.length<=640->x.length<=qAg:=fun h=>qAt h (by decide);refine rC (fun σ' H'=>σ'=[some (.str (nW n)),some (.str (gB n))]/\H'=H) (fun tail=>?_) ?_
  ·refine⟨_,rfl,rfl,_,_,rfl,rfl,_,rfl,?_⟩;dsimp only;by_cases z:n<0
   ·rw[oZ,decide_eq_true z];refine cT ⟨_,rfl,1,rfl,nW n,rfl,sz (qAt (PyProof.Txt.length_slice_le _ _ _) i2),tail _ _ ⟨?_,rfl⟩⟩;rw[Ff z];rfl
   ·rw[oZ,decide_eq_false z];refine bG ⟨_,rfl,tail _ _ ⟨?_,rfl⟩⟩;rw[<- AN z];rfl
  rintro σ' H' ⟨rfl,rfl⟩;have fsz:(gB n).length<=qAg:=qAt f30 (by decide);have c1:decide ((1:Int)<=((gB n).length:Int))=true:=decide_eq_true (by lia);have c2:decide (((gB n).length:Int)<=30)=true:=decide_eq_true (by lia);refine⟨_,rfl,_,rfl,fsz,_,_,rfl,rfl,?_⟩;dsimp only;refine⟨_,rfl,?_⟩;rw[c1];refine cT ⟨_,_,rfl,rfl,_,rfl,?_⟩;rw[c2];refine bG ?_;refine⟨_,rfl,gB n,rfl,AM fun c hc=>by have:=sJ hc;lia,?_⟩;refine AI (fun _=>some (.bl true)) (show(gB n).length<=qAg from fsz) (fun i x H2 kk kk0 s2 hx g1 g2=>?_) fun D H2 hD s2 hd=>?_
  ·refine⟨_,rfl,_,_,rfl,rfl,g1 _ ?_ _ (.refl _)⟩;rw[CA (sJ (n:=n) (qAu (by rw[qJj];exact hx)))]
  have ed:(gB n).cps.toList.filterMap (fun _=>some (V.bl true))=((gB n).cps.toList.map fun _=>true).map V.bl:=by
   rw[qBt,<- qEa];rfl
  rw[ed] at hd;refine⟨D,_,rfl,aY.of hd,_,rfl,?_⟩;have ea:((gB n).cps.toList.map fun _=>true).all id=true:=by
   rw[qJq,qHv];intro _ _;rfl
  rw[ea];refine bG ?_;dsimp only[bH];refine⟨_,rfl,rfl,_,_,rfl,rfl,_,rfl,?_⟩;have fin:Q (.int n) H2:=k H2 s2;cases hz:Txt.startswith (gB n) ("0":Str) with
  | false=>exact bG ⟨_,rfl,_,_,rfl,i1,i2,fin⟩
  | true =>
   have e0:=yC hz;refine cT ⟨_,rfl,rfl,_,rfl,?_⟩;dsimp only;rw[show decide (V.str (nW n)=V.str (Str.ofString "0"))=true from decide_eq_true (by rw[e0])];exact bG ⟨_,rfl,_,_,rfl,i1,i2,fin⟩
def DR:Sp:=fun vs H Q _=>∃(p:Addr) (ns:List Int),vs=[.ref p]/\H p=some (.lst ((ns.map nW).map V.str))/\ns.length<=64/\(∀n∈ns,n.natAbs<10^30)/\∀(D:Addr) (H':Hp),H D=none->aI H H'->H' D=some (.lst (ns.map V.int))->Q (.ref D) H'
theorem Ky:aK ["words"] ["words"] (aE FC):=by constructor<;>first|rfl|decide +kernel
theorem Hj{f1:Addr}{fd1:qBd}(t:Tx K mg "numbers_of" FC ["words"] f fd)(T:T K mg AL LN RU OW PL PA VO MA NE fE fH rR rO rP rA rV rM rN iR iO iP iA iV iM iN fL wR wO wP wA wV wM wN CO iC cH cE cW SE NG NL NT)(D_number_of:Df P w K mg base cM 1 "number_of" ["word"] Bo f1 fd1):Df P w K mg base cM 2 "numbers_of" ["words"] DR f fd:=by
 refine t.jA Ky (fun vs H Q E h=>?_) (fun cdv A outer s H vs Q E hr h=>?_)
 ·obtain⟨p,ns,rfl,_⟩:=h;rfl
 ·obtain⟨p,ns,rfl,hp,h64,hn,k⟩:=h;refine⟨_,(aH (aN (bM (NB:=["word"]) (pick:=[none]) (bR (by with_unfolding_all rfl) (by exact trivial) rfl (by decide +kernel) (by decide +kernel) (by rfl) (by rfl)) rfl
     (bL (pv 0)) (fun _ _ _=>aP (i:=0) (show(["word"]:List Str).Nodup from by decide +kernel) rfl cK)
     (fun _ _ _=>bS) (fun _ _ _=>(bD D_number_of hr (by decide) (by rfl) (aA (pv 0) aB)))))),?_⟩
  refine⟨_,rfl,p,rfl,⟨_,aY.of hp⟩,?_⟩;refine cF (xs:=(ns.map nW).map V.str) (fun i _=>(ns[i]?).map V.int) (aY.of hp) (by rw[qAa,qAa];exact qBb (aQ (by lia))) (fun i x H2 kk kk0 s2 hx g1 g2=>?_) fun D H2 hD s2 hd=>?_
  ·rw[qAj,qAj] at hx;cases e:ns[i]? with
   | none=>rw[e] at hx;cases hx
   | some n =>
    rw[e] at hx;cases hx;exact⟨_,rfl,n,rfl,hn n (qAu e),fun H3 s3=>g1 _ (by rw[e];rfl) _ s3⟩
  ·refine k D H2 hD s2 ?_;rw[hd];have e:((qAq ((ns.map nW).map V.str).length).filterMap fun i=>(((ns.map nW).map V.str)[i]?).bind fun _=>(ns[i]?).map V.int)=(qAq ns.length).filterMap fun i=>(ns[i]?).bind fun n=>some (V.int n):=by
    rw[qAa,qAa];refine dD fun i hi=>?_;rw[qAj,qAj];cases ns[i]? <;> rfl
   rw[e,cJ,qBx]
def DS:Sp:=fun vs H Q _=>∃p:P3,vs=[.str (pW p)]/\p.1<6/\p.2.1<6/\p.2.2.natAbs<10^30/\∀(b:Addr) (H':Hp),H b=none->aI H H'->dC H' b p->Q (.ref b) H'
theorem pL{p:P3}(h1:p.1<6)(h2:p.2.1<6):(pW p).cps.toList=[48+p.1,45,48+p.2.1,58]++(nW p.2.2).cps.toList:=by
 unfold pW;rw[lQ h1,lQ h2];rw[Str.cps_append,Str.cps_append,Str.cps_append,Str.cps_append,Str.cps_append,qCw,qCw,qCw,qCw,qCw];rfl
theorem Kz:aK ["word"] ["word"] (aE FD):=by constructor<;>first|rfl|decide +kernel
theorem Hk{f1:Addr}{fd1:qBd}(t:Tx K mg "pair_of" FD ["word"] f fd)(T:T K mg AL LN RU OW PL PA VO MA NE fE fH rR rO rP rA rV rM rN iR iO iP iA iV iM iN fL wR wO wP wA wV wM wN CO iC cH cE cW SE NG NL NT)(D_number_of:Df P w K mg base cM 1 "number_of" ["word"] Bo f1 fd1):Df P w K mg base cM 2 "pair_of" ["word"] DS f fd:=by
 refine t.jA Kz (fun vs H Q E h=>?_) (fun cdv A outer s H vs Q E hr h=>?_)
 ·obtain⟨p,rfl,_⟩:=h;rfl
 ·obtain⟨p,rfl,h1,h2,hn,k⟩:=h;refine⟨_,(aD (bK (PW.pt (pw_or (aS jM (aO jO (by rfl) T.cN cC (aA (pv 0) aB)) aG (aV _)) (pw_or (aS gR (a9 pX (pv 0) aG (fun _ _=>rfl)) aU (aV _)) (pw_or1 (aS gR (a9 pX (pv 0) aG (fun _ _=>rfl)) aU (aV _)))))) (aH iW) aX)
   (aH (aN (fQ (aA (bD D_number_of hr (by decide) (by rfl) (aA (a9 pX (pv 0) aG (fun _ _=>rfl)) aB)) (aA (bD D_number_of hr (by decide) (by rfl) (aA (a9 pX (pv 0) aG (fun _ _=>rfl)) aB)) (aA (bD D_number_of hr (by decide) (by rfl) (aA (cX AG (pv 0) (dA aG) c8) aB)) aB))))))),?_⟩
  have wH:p.2.2.natAbs<10^60:=qFs hn (by decide +kernel);have pl:=rB h1 h2 wH;have pt:=pL h1 h2;have at_:∀(j:Nat) (c:Nat),([48+p.1,45,48+p.2.1,58]++(nW p.2.2).cps.toList)[j]?=some c->fK (pW p).cps.toList (j:Int)=some c:=fun j c e=>by
   rw[pt];exact bO e
  have sz:(pW p).length<=qAg:=qAt pl (by decide);have ge4:4<=(pW p).length:=by
   rw[str_len,pt,qAn];exact qHy 4 _
  refine⟨_,rfl,_,rfl,sz,_,_,rfl,rfl,_,rfl,?_⟩;dsimp only;rw[decide_eq_false (show ¬((pW p).length:Int)<4 by lia)];refine bG ⟨_,rfl,_,_,_,rfl,rfl,sz,at_ 1 45 rfl,rfl,_,rfl,?_⟩;dsimp only;rw[show(!decide (V.str (⟨#[45]⟩:Str)=V.str (Str.ofString "-")))=false from by decide +kernel];refine bG ⟨_,rfl,_,_,_,rfl,rfl,sz,at_ 3 58 rfl,rfl,_,rfl,?_⟩;dsimp only;rw[show(!decide (V.str (⟨#[58]⟩:Str)=V.str (Str.ofString ":")))=false from by decide +kernel];refine bG ?_;have one:∀{a:Nat},a<6->((a:Int).natAbs<10^30):=fun h=>qFs (show _<6 from h) (by decide +kernel);refine⟨_,rfl,_,_,_,rfl,rfl,sz,at_ 0 _ rfl,(p.1:Int),by rw[lQ h1];rfl,one h1,fun H1 s1=>⟨_,rfl,_,_,_,rfl,rfl,sz,at_ 2 _ rfl,(p.2.1:Int),by rw[lQ h2];rfl,one h2,fun H2 s2=>?_⟩⟩;have ec:Txt.slice (pW p) (some 4) none=nW p.2.2:=by
   refine vV (Eq.trans (mP (pW p) (k:=4) ge4) ?_);rw[pt];rfl
  refine⟨_,rfl,4,rfl,pW p,rfl,by rw[ec];exact qAt (dW wH) (by decide),p.2.2,by rw[ec];rfl,hn,fun H3 s3=>⟨Iv,fun b hb=>?_⟩⟩;have u:=(s1.trans s2).trans s3;exact k b _ (u.free hb) (u.trans (.aJ hb)) aC
def DT:Sp:=fun vs H Q _=>∃(l:Addr) (ps:List P3),vs=[.ref l]/\H l=some (.lst ((ps.map pW).map V.str))/\ps.length<=64/\(∀p∈ps,p.1<6/\p.2.1<6/\p.2.2.natAbs<10^30)/\∀(D:Addr) (bs:List Addr) (H':Hp),H D=none->aI H H'->H' D=some (.lst (bs.map V.ref))->A2 (dC H') bs ps->Q (.ref D) H'
theorem A2.Bp{H:Hp}:∀{ys:List V}{ps:List P3},ys.length=ps.length->(∀(i:Nat) (y:V),ys[i]?=some y->∃b p,y = .ref b/\ps[i]?=some p/\dC H b p)->∃bs:List Addr,ys=bs.map V.ref/\A2 (dC H) bs ps
 | [],[],_,_=>⟨[],rfl,.nil⟩
 | y::ys,[],h,_=>by cases h
 | [],p::ps,h,_=>by cases h
 | y::ys,p::ps,h,k=>by
  obtain⟨b,q,rfl,e,r⟩:=k 0 y rfl;cases e;obtain⟨bs,e,a⟩:=A2.Bp (ys:=ys) (ps:=ps) (by simpa using h) fun i y e=>k (i+1) y e;exact⟨b::bs,by rw[e];rfl,.cons r a⟩
theorem KA:aK ["words"] ["words"] (aE FE):=by constructor<;>first|rfl|decide +kernel
theorem Hl{f1:Addr}{fd1:qBd}(t:Tx K mg "pairs_of" FE ["words"] f fd)(T:T K mg AL LN RU OW PL PA VO MA NE fE fH rR rO rP rA rV rM rN iR iO iP iA iV iM iN fL wR wO wP wA wV wM wN CO iC cH cE cW SE NG NL NT)(D_pair_of:Df P w K mg base cM 2 "pair_of" ["word"] DS f1 fd1):Df P w K mg base cM 3 "pairs_of" ["words"] DT f fd:=by
 refine t.jA KA (fun vs H Q E h=>?_) (fun cdv A outer s H vs Q E hr h=>?_)
 ·obtain⟨l,ps,rfl,_⟩:=h;rfl
 ·obtain⟨l,ps,rfl,hl,h64,hn,k⟩:=h;refine⟨_,(aH (aN (bM (NB:=["word"]) (pick:=[none]) (bR (by with_unfolding_all rfl) (by exact trivial) rfl (by decide +kernel) (by decide +kernel) (by rfl) (by rfl)) rfl
     (bL (pv 0)) (fun _ _ _=>aP (i:=0) (show(["word"]:List Str).Nodup from by decide +kernel) rfl cK)
     (fun _ _ _=>bS) (fun _ _ _=>(bD D_pair_of hr (by decide) (by rfl) (aA (pv 0) aB)))))),?_⟩
  refine⟨_,rfl,l,rfl,⟨_,aY.of hl⟩,?_⟩;refine oQ (xs:=(ps.map pW).map V.str) (fun i y H'=>∃b p,y = .ref b/\ps[i]?=some p/\dC H' b p) (fun i y G G' s ⟨b,p,e,e2,r⟩=>⟨b,p,e,e2,r.keep s⟩) (aY.of hl) (by rw[qAa,qAa];exact qBb (aQ (by lia))) (fun i x H2 kk kk0 s2 hx g1=>?_) fun D ys H2 hD s2 hy hR hd=>?_
  ·rw[qAj,qAj] at hx;cases e:ps[i]? with
   | none=>rw[e] at hx;cases hx
   | some p =>
    rw[e] at hx;cases hx;obtain⟨a1,a2,a3⟩:=hn p (qAu e);exact⟨_,rfl,p,rfl,a1,a2,a3,fun b H3 _ s3 r=>g1 _ _ s3 ⟨b,p,rfl,e,r⟩⟩
  ·rw[qAa,qAa] at hy;obtain⟨bs,rfl,a2⟩:=A2.Bp hy hR;exact k D bs H2 hD s2 hd a2
def DU(K:qAb):Sp:=fun vs H Q _=>∃m:Nat,vs=[.str (("hands ":Str)++nW (m:Int))]/\1<=m/\m<=6/\Q (.int (m:Int)) H
theorem DV:aK ["part","many"] ["part"] (aE FG):=by constructor<;>first|rfl|decide +kernel
theorem Hm(t:Tx K mg "many_of" FG ["part"] f fd)(T:T K mg AL LN RU OW PL PA VO MA NE fE fH rR rO rP rA rV rM rN iR iO iP iA iV iM iN fL wR wO wP wA wV wM wN CO iC cH cE cW SE NG NL NT):Df P w K mg base cM 1 "many_of" ["part"] (DU K) f fd:=by
 refine t.jA DV (fun vs H Q E h=>?_) (fun cdv A outer s H vs Q E hr h=>?_)
 ·obtain⟨m,rfl,_⟩:=h;rfl
 ·obtain⟨m,rfl,m1,m6,k⟩:=h;refine⟨_,(aD (gK PassesOwn.never rfl (kA (by rfl) T.eM (aA aG (aA (aO aZ (by rfl) T.cN cC (aA (bP (v:=.ref LN) (by rfl) T.DD rfl) aB)) aB))) (aP (i:=1) DV.nd rfl cK)
    (aH (bK (aS bU (pv 0) (oW (cP aU (cP (jB (pv 1)) kI))) (aV _)) (aH (aN (pv 1))) aX)))
   (aH iW)),?_⟩
  refine⟨LN,_,rfl,.inr (T.ln H),1,7,rfl,⟨by decide,by decide,by decide,by decide⟩,?_⟩;have hsame:∀a b:_root_.Fin 7,decide (V.str (("hands ":Str)++nW ((a.1:Nat):Int))=V.str (Str.empty++("hands ":Str)++nW ((b.1:Nat):Int)))=decide (a.1=b.1):=by decide +kernel
  refine iQ (lo:=1) (n:=6) (fun i σ' H'=>H'=H/\i+1<=m/\∃o:Option V,σ'=[some (.str (("hands ":Str)++nW (m:Int))),o]) ⟨rfl,m1,_,rfl⟩ ?_ ?_
  ·rintro i σ' H' hi ⟨rfl,him,o,rfl⟩;have e1:(1:Int)+(i:Int)=((i+1:Nat):Int):=by push_cast;lia
   rw[e1];have hi6:(((i+1:Nat):Int)).natAbs<10^60:=qBo (show(((i+1:Nat):Int)).natAbs<=6 by lia) (by decide +kernel);have ln:=dW hi6;refine⟨_,rfl,_,rfl,?_⟩;have e6:(Str.empty++("hands ":Str)).length=6:=rfl;have lt:(Str.empty++("hands ":Str)++nW ((i+1:Nat):Int)).length<=qAg:=by
    rw[Str.length_append,e6];exact qAt (qKm ln 6) (by decide)
   refine⟨by decide,_,rfl,((i+1:Nat):Int),rfl,eX hi6,nW ((i+1:Nat):Int),rfl,lt,lt,rfl,_,rfl,?_⟩;dsimp only;have hc:=hsame ⟨m,by lia⟩ ⟨i+1,by lia⟩;rw[show decide (V.str (Str.ofString "hands " ++ nW (m:Int))=V.str (Str.empty++Str.ofString "hands " ++ nW ((i+1:Nat):Int)))=decide (m=i+1) from hc];by_cases z:m=i+1
   ·rw[decide_eq_true z];refine cT ⟨_,rfl,?_⟩;rw[z] at k;exact k
   ·rw[decide_eq_false z];exact bG ⟨rfl,by lia,_,rfl⟩
  ·rintro σ' H' ⟨_,him,_⟩;lia
structure R4 where
 k:Nat
 ns:List Int
 ps:List P3
 way:Nat
def fX(k:Nat):Str:=match k with
 | 0=>"none"
 | 1=>"own"
 | 2=>"pairs"
 | 3=>"votes"
 | 4=>"match"
 | 5=>"net"
 | _=>"table"
def Ir(m k:Nat):Nat:=match k with
 | 0=>0
 | 1=>m
 | 2=>0
 | 3=>m+2
 | 4=>0
 | 5=>m
 | _=>2^m-1
structure GoodR (m:Nat) (r:R4):Prop where
 k7:r.k<7
 sz:r.ns.length=Ir m r.k
 nb:∀n∈r.ns,n.natAbs<10^30
 sQ:jZ r.ps
 pb:∀p∈r.ps,p.1<p.2.1/\p.2.1<m/\p.2.2.natAbs<10^30
 pl:r.ps.length<=15
 pn:r.k≠2->r.k≠4->r.k≠5->r.ps=[]
 q1:r.k=3->1<=r.ns.getD 0 0
 n0:r.k=5->(∀n∈r.ns,0<=n)/\∀p∈r.ps,0<=p.2.2
def g6(r:R4)(qs:List P3):Str:=rH (fX r.k) (r.ns.map nW++qs.map pW)
def cR(r:R4):Str:=g6 r r.ps
def Di(ps:List P3)(g:Nat):Int:=(ps.filterMap fun p=>if both g p.1 p.2.1=true then some p.2.2 else none).sum
def eR(r:R4)(g:Nat):Int:=match r.k with
 | 1=>lJ r.ns g
 | 2=>Di r.ps g
 | 3=>yU (r.ns.getD 0 0) (r.ns.getD 1 0) (r.ns.drop 2) g
 | 6=>(0::r.ns).getD g 0
 | _=>0
theorem KC{n:Nat}(h:n<10^30):n<10^60:=qFs h (by decide +kernel)
theorem GoodR.vB{m:Nat}{r:R4}(g:GoodR m r)(m6:m<=6):r.ns.length<=63:=by
 have h64:2^m<=64:=qBr (n:=2) (by decide) m6;rw[g.sz];unfold Ir;split <;> lia
theorem GoodR.p6{m:Nat}{r:R4}(g:GoodR m r)(m6:m<=6):∀q∈r.ps,q.1<6/\q.2.1<6/\q.2.2.natAbs<10^30:=fun q hq=>by
 obtain⟨a,b,c⟩:=g.pb q hq;exact⟨by lia,by lia,c⟩
theorem GoodR.KD{m:Nat}{r:R4}(g:GoodR m r)(m6:m<=6):∀q∈r.ps,q.1<6/\q.2.1<6/\q.2.2.natAbs<10^60:=fun q hq=>by
 obtain⟨a,b,c⟩:=g.p6 m6 q hq;exact⟨a,b,KC c⟩
theorem GoodR.wH{m:Nat}{r:R4}(g:GoodR m r):∀n∈r.ns,n.natAbs<10^60:=fun n hn=>KC (g.nb n hn)
theorem fW:∀{a b:List P3},jZ a->jZ b->a.Perm b->a=b
 | [],[],_,_,_=>rfl
 | [],y::b,_,_,p=>absurd p.length_eq (by simp)
 | x::a,[],_,_,p=>absurd p.length_eq (by simp)
 | x::a,y::b,ha,hb,p=>by
  unfold jZ at ha hb;rw[qHf] at ha hb;have e:x=y:=by
   rcases List.mem_cons.mp (p.mem_iff.mp qCb) with h | h
   ·exact h
   ·rcases List.mem_cons.mp (p.mem_iff.mpr (qCb (a:=y) (l:=b))) with h2 | h2
    ·exact h2.symm
    ·have z1:=hb.1 x h;have z2:=ha.1 y h2;lia
  subst e;rw[fW ha.2 hb.2 (List.Perm.cons_inv p)]
theorem A2.all{α:Type}{R:Addr->α->Prop}{as:List Addr}{xs:List α}(h:A2 R as xs):∀a∈as,∃x∈xs,R a x:=by
 induction h with
 | nil=>intro a ha;cases ha
 | cons r _ ih =>
  intro a ha;rcases List.mem_cons.mp ha with rfl | ha
  ·exact⟨_,qCb,r⟩
  ·obtain⟨x,hx,z⟩:=ih a ha;exact⟨x,qBf _ hx,z⟩
theorem A2.keys{H:Hp}{as:List Addr}{qs:List P3}(h:A2 (dC H) as qs):(as.map fun b=>fM (fG H b))=qs.map fun p=>((p.1:Int),(p.2.1:Int)):=by
 induction h with
 | nil=>rfl
 | cons r _ ih =>
  rw[qBi,qBi,ih];refine congrArg (· :: _) ?_;exact dC.ky r
theorem A2.qT{H:Hp}{as:List Addr}{qs:List P3}(h:A2 (dC H) as qs)(g:Nat):qT H as g=Di qs g:=by
 unfold K13.qT Di;refine congrArg List.sum ?_;induction h with
 | nil=>rfl
 | @cons a x as xs r _ ih =>
  have e:pNum (fJ H a) g=if both g x.1 x.2.1=true then some x.2.2 else none:=by
   rw[fU (ns:=[(x.1:Int),(x.2.1:Int),x.2.2]) r];rfl
  rw[qCj,qCj,e,ih]
theorem j6{m:Nat}{H:Hp}{as:List Addr}{qs ps:List P3}(a2:A2 (dC H) as qs)(pm:qs.Perm ps)(sQ:jZ ps)(pb:∀p∈ps,p.1<p.2.1/\p.2.1<m/\p.2.2.natAbs<10^30)(pl:ps.length<=15):dN m H as:=by
 refine⟨fun b hb=>?_,?_,by rw[a2.len,pm.length_eq];exact pl⟩
 ·obtain⟨p,hp,r⟩:=a2.all b hb;obtain⟨z1,z2,_⟩:=pb p (pm.mem_iff.mp hp);exact⟨p.1,p.2.1,p.2.2,r,z1,z2⟩
 ·rw[a2.keys];refine((pm.map fun p=>((p.1:Int),(p.2.1:Int))).nodup_iff).mpr ?_;refine List.pairwise_map.mpr (sQ.imp fun {p q} z e=>?_);have e1:=congrArg Prod.fst e;have e2:=congrArg Prod.snd e;dsimp only at e1 e2;lia
structure ZR (P:qBc) (w:qCd) (K:qAb) (mg:Str->Option qAf) (base:Heap) (AL LN RU OW PL PA VO MA NE fE fH rR rO rP rA rV rM rN iR iO iP iA iV iM iN fL wR wO wP wA wV wM wN CO iC cH cE cW SE NG NL NT:Addr):Prop where
 RI:Md P w K mg base 4 ["self","many"] (qS K NL) iR
 OI:Md P w K mg base 5 ["self","numbers"] (Gw K NL OW) iO
 PI:Md P w K mg base 5 ["self","table"] (Gy K NT PL) iP
 MY:Md P w K mg base 5 ["self","many","pairs"] (AX K NL PA) iA
 VI:Md P w K mg base 5 ["self","quota","prize","weights"] (GC K NL VO) iV
 MI:Md P w K mg base 7 ["self","many","pairs"] (GH MA) iM
 NI:Md P w K mg base 5 ["self","costs","ropes"] (GU NE) iN
 RR:Md P w K mg base 1 ["self","group"] Gu rR
 OR:Md P w K mg base 6 ["self","group"] (Gx OW) rO
 PR:Md P w K mg base 1 ["self","group"] (Gz PL) rP
 NX:Md P w K mg base 2 ["self","group"] (AY PA) rA
 VR:Md P w K mg base 6 ["self","group"] (GD VO) rV
 MR:Md P w K mg base 1 ["self","group"] (GI MA) rM
 NY:Md P w K mg base 5 ["self","group"] (Bf NE) rN
 RW:Md P w K mg base 1 ["self"] Ha wR
 NZ:Md P w K mg base 2 ["self"] (Bg OW) wO
 Oa:Md P w K mg base 2 ["self"] (Bh PL) wP
 Ob:Md P w K mg base 2 ["self"] (Bj PA) wA
 VW:Md P w K mg base 2 ["self"] (Hc VO) wV
 MW:Md P w K mg base 2 ["self"] (Hf MA) wM
 NW:Md P w K mg base 2 ["self"] (Hg NE) wN
def sZ(P:qBc)(w:qCd)(K:qAb)(mg:Str->Option qAf)(base:Heap)(fE fH RU:Addr)(H:Hp)(x:Addr)(m:Nat)(r:R4):Prop:=∃e:Nat->Int,kM P w K mg base fE fH RU H x m e/\j5 P w K mg base H x (cR r)/\(r.k≠4->r.k≠5->∀g,e g=eR r g)
def BH(P:qBc)(w:qCd)(K:qAb)(mg:Str->Option qAf)(base:Heap)(fE fH RU:Addr)(H:Hp)(F:List Addr)(x:Addr)(m:Nat)(r:R4):Prop:=∀H'',(∀b∈F,∀o,H b=some o->H'' b=some o)->dX H H''->sZ P w K mg base fE fH RU H'' x m r
theorem rD{r:R4}(h:r.ps=[]):cR r=rH (fX r.k) (r.ns.map nW):=by
 unfold cR g6;rw[h,qDz,qCr]
theorem Bq{r:R4}(h:r.ns=[]):cR r=rH (fX r.k) (r.ps.map pW):=by
 unfold cR g6;rw[h,qDz,qFh]
section
variable {H:Hp}{x dx l:Addr}{m:Nat}{r:R4}
theorem wI(T:T K mg AL LN RU OW PL PA VO MA NE fE fH rR rO rP rA rV rM rN iR iO iP iA iV iM iN fL wR wO wP wA wV wM wN CO iC cH cE cW SE NG NL NT)(Z:ZR P w K mg base AL LN RU OW PL PA VO MA NE fE fH rR rO rP rA rV rM rN iR iO iP iA iV iM iN fL wR wO wP wA wV wM wN CO iC cH cE cW SE NG NL NT)(g:GoodR m r)(hk:r.k=0)(m1:1<=m)(m6:m<=6)(hx:H x=some (.ins RU dx [("many",.int (m:Int))])):BH P w K mg base fE fH RU H [x] x m r:=fun H'' kk _=>by
 have h1:=kk _ (by simp) _ hx;refine⟨_,AW Z.RR T.Ii h1 m1 m6,?_,fun _ _ z=>?_⟩
 ·have e:cR r=("none":Str):=by
   rw[rD (g.pn (by lia) (by lia) (by lia)),hk];have z:r.ns=[]:=List.length_eq_zero_iff.mp (by rw[g.sz,hk];rfl);rw[z];rfl
  rw[e];exact Hh T Z.RW h1
 ·unfold eR;rw[hk];rfl
theorem Br(T:T K mg AL LN RU OW PL PA VO MA NE fE fH rR rO rP rA rV rM rN iR iO iP iA iV iM iN fL wR wO wP wA wV wM wN CO iC cH cE cW SE NG NL NT)(Z:ZR P w K mg base AL LN RU OW PL PA VO MA NE fE fH rR rO rP rA rV rM rN iR iO iP iA iV iM iN fL wR wO wP wA wV wM wN CO iC cH cE cW SE NG NL NT)(g:GoodR m r)(hk:r.k=1)(m1:1<=m)(m6:m<=6)(hx:H x=some (.ins OW dx [("many",.int (m:Int)),("numbers",.ref l)]))(hl:H l=some (.lst (r.ns.map V.int))):BH P w K mg base fE fH RU H [x,l] x m r:=fun H'' kk _=>by
 have h1:=kk _ (by simp) _ hx;have h2:=kk _ (by simp) _ hl;have nl:r.ns.length=m:=by rw[g.sz,hk];rfl
 rw[<- nl] at h1;have z:=CL (fE:=fE) (fH:=fH) (RU:=RU) Z.OR T.FW h1 h2 (by lia) (by lia);rw[nl] at z;refine⟨_,z,?_,fun _ _ z=>?_⟩
 ·rw[rD (g.pn (by lia) (by lia) (by lia)),hk];exact Kq T Z.NZ h1 h2 (by lia) g.wH
 ·unfold eR;rw[hk];rfl
theorem tD(T:T K mg AL LN RU OW PL PA VO MA NE fE fH rR rO rP rA rV rM rN iR iO iP iA iV iM iN fL wR wO wP wA wV wM wN CO iC cH cE cW SE NG NL NT)(Z:ZR P w K mg base AL LN RU OW PL PA VO MA NE fE fH rR rO rP rA rV rM rN iR iO iP iA iV iM iN fL wR wO wP wA wV wM wN CO iC cH cE cW SE NG NL NT)(g:GoodR m r)(hk:r.k=3)(m1:1<=m)(m6:m<=6)(hx:H x=some (.ins VO dx [("many",.int (m:Int)),("quota",.int (r.ns.getD 0 0)),("prize",.int (r.ns.getD 1 0)),("weights",.ref l)]))(hl:H l=some (.lst ((r.ns.drop 2).map V.int))):BH P w K mg base fE fH RU H [x,l] x m r:=fun H'' kk _=>by
 have h1:=kk _ (by simp) _ hx;have h2:=kk _ (by simp) _ hl;have nl:r.ns.length=m+2:=by rw[g.sz,hk];rfl
 have dl:(r.ns.drop 2).length=m:=by rw[qDc];lia
 have en:r.ns.getD 0 0::r.ns.getD 1 0::r.ns.drop 2=r.ns:=by
  match hn:r.ns,nl with
  | a::b::c,_=>rfl
  | [],z=>simp at z
  | [a],z=>simp at z
 have wH:=g.wH;rw[<- dl] at h1;have z:=yV (fE:=fE) (fH:=fH) (RU:=RU) Z.VR T.yL h1 h2 (by lia) (by lia);rw[dl] at z;refine⟨_,z,?_,fun _ _ z=>?_⟩
 ·rw[rD (g.pn (by lia) (by lia) (by lia)),hk];have y:=CZ T Z.VW h1 h2 (by lia) (by rw[en];exact wH);rw[en] at y;exact y
 ·unfold eR;rw[hk];rfl
theorem tE(T:T K mg AL LN RU OW PL PA VO MA NE fE fH rR rO rP rA rV rM rN iR iO iP iA iV iM iN fL wR wO wP wA wV wM wN CO iC cH cE cW SE NG NL NT)(Z:ZR P w K mg base AL LN RU OW PL PA VO MA NE fE fH rR rO rP rA rV rM rN iR iO iP iA iV iM iN fL wR wO wP wA wV wM wN CO iC cH cE cW SE NG NL NT)(g:GoodR m r)(hk:r.k=6)(m1:1<=m)(m6:m<=6)(hx:H x=some (.ins PL dx [("many",.int (m:Int)),("earnings",.ref l)]))(hl:H l=some (.lst ((0::r.ns).map V.int))):BH P w K mg base fE fH RU H [x,l] x m r:=fun H'' kk _=>by
 have h1:=kk _ (by simp) _ hx;have h2:=kk _ (by simp) _ hl;have hpos:0<2^m:=qGf (by decide);have nl:r.ns.length=2^m-1:=by rw[g.sz,hk];rfl
 refine⟨_,yR Z.PR T.FX h1 h2 (by rw[qBj];lia) m1 m6,?_,fun _ _ z=>?_⟩
 ·rw[rD (g.pn (by lia) (by lia) (by lia)),hk];have:=g.vB m6;exact Dc T Z.Oa h1 h2 (by lia) g.wH
 ·unfold eR;rw[hk];rfl
theorem tF(T:T K mg AL LN RU OW PL PA VO MA NE fE fH rR rO rP rA rV rM rN iR iO iP iA iV iM iN fL wR wO wP wA wV wM wN CO iC cH cE cW SE NG NL NT)(Z:ZR P w K mg base AL LN RU OW PL PA VO MA NE fE fH rR rO rP rA rV rM rN iR iO iP iA iV iM iN fL wR wO wP wA wV wM wN CO iC cH cE cW SE NG NL NT)(g:GoodR m r)(hk:r.k=2)(m1:1<=m)(m6:m<=6){bs:List Addr}(hx:H x=some (.ins PA dx [("many",.int (m:Int)),("pairs",.ref l)]))(hl:H l=some (.lst (bs.map V.ref)))(a2:A2 (dC H) bs r.ps):BH P w K mg base fE fH RU H [x,l] x m r:=fun H'' kk st=>by
 have h1:=kk _ (by simp) _ hx;have h2:=kk _ (by simp) _ hl;have a3:A2 (dC H'') bs r.ps:=a2.imp fun _ _ z=>z.keep st;have ok:=j6 a3 (.refl _) g.sQ g.pb g.pl;have pl:=g.pl;refine⟨_,yT Z.NX T.FY h1 h2 (by rw[a3.len];lia) (ok.pair m6) m1 m6,?_,fun _ _ z=>?_⟩
 ·rw[Bq (List.length_eq_zero_iff.mp (by rw[g.sz,hk];rfl)),hk];exact Dd T Z.Ob h1 h2 a3 (by lia) (g.KD m6)
 ·unfold eR;rw[hk,a3.qT];rfl
theorem tG(T:T K mg AL LN RU OW PL PA VO MA NE fE fH rR rO rP rA rV rM rN iR iO iP iA iV iM iN fL wR wO wP wA wV wM wN CO iC cH cE cW SE NG NL NT)(Z:ZR P w K mg base AL LN RU OW PL PA VO MA NE fE fH rR rO rP rA rV rM rN iR iO iP iA iV iM iN fL wR wO wP wA wV wM wN CO iC cH cE cW SE NG NL NT)(g:GoodR m r)(hk:r.k=4)(m6:m<=6){bs:List Addr}{lb:Addr}(hx:H x=some (.ins MA dx [("many",.int (m:Int)),("pairs",.ref l),("best",.ref lb)]))(hl:H l=some (.lst (bs.map V.ref)))(a2:A2 (dC H) bs r.ps)(mo:qV MA H x lb m r.ps):BH P w K mg base fE fH RU H [x,l,lb] x m r:=fun H'' kk st=>by
 have h1:=kk _ (by simp) _ hx;have h2:=kk _ (by simp) _ hl;have a3:A2 (dC H'') bs r.ps:=a2.imp fun _ _ z=>z.keep st;have pl:=g.pl;obtain⟨d',l',ts,e1,e2,e3,e4⟩:=mo;have mo':qV MA H'' x lb m r.ps:=⟨d',l',ts,kk _ (by simp) _ e1,kk _ (by simp) _ e2,e3.imp fun _ _ z=>z.keep st,e4⟩;refine⟨_,y8 Z.MR T.CB mo',?_,fun z _=>absurd hk z⟩;rw[Bq (List.length_eq_zero_iff.mp (by rw[g.sz,hk];rfl)),hk];exact De T Z.MW h1 h2 a3 (by lia) (g.KD m6)
theorem Bs(T:T K mg AL LN RU OW PL PA VO MA NE fE fH rR rO rP rA rV rM rN iR iO iP iA iV iM iN fL wR wO wP wA wV wM wN CO iC cH cE cW SE NG NL NT)(Z:ZR P w K mg base AL LN RU OW PL PA VO MA NE fE fH rR rO rP rA rV rM rN iR iO iP iA iV iM iN fL wR wO wP wA wV wM wN CO iC cH cE cW SE NG NL NT)(g:GoodR m r)(hk:r.k=5)(m6:m<=6){lr:Addr}(no:qZ NE H x l lr r.ns r.ps):BH P w K mg base fE fH RU H [x,l,lr] x m r:=fun H'' kk st=>by
 obtain⟨dy,bs,f1,f2,f3,f4,f5⟩:=no;have h1:=kk _ (by simp) _ f1;have h2:=kk _ (by simp) _ f2;have h3:=kk _ (by simp) _ f3;have a3:A2 (dC H'') bs r.ps:=f4.imp fun _ _ z=>z.keep st;have nl:r.ns.length=m:=by rw[g.sz,hk];rfl
 have pl:=g.pl;have z:=CW (fE:=fE) (fH:=fH) (RU:=RU) Z.NY T.vW ⟨dy,bs,h1,h2,h3,a3,f5⟩;rw[nl] at z;refine⟨_,z,?_,fun _ z=>absurd hk z⟩;have e:cR r=rH ("net":Str) (r.ns.map nW++r.ps.map pW):=by
  unfold cR g6;rw[hk];rfl
 rw[e];exact Kr T Z.NW h1 h2 h3 a3 (by lia) (by lia) g.wH (g.KD m6)
end
theorem iJ{rs:List Int}{j:Nat}(hj:j<rs.length):fK (rs.map V.int) (j:Int)=some (.int (rs.getD j 0)):=bO (by rw[qAj,qAs,qAc hj];rfl)
def NK(H H' H'':Hp):Prop:=∀b o,(H b=none\/∃us,o=HO.tup us)->H' b=some o->H'' b=some o
theorem BH.nk{H H' H'':Hp}{F:List Addr}{x:Addr}{m:Nat}{r:R4}(h:BH P w K mg base fE fH RU H' F x m r)(hF:∀b∈F,H b=none)(k:NK H H' H''):sZ P w K mg base fE fH RU H'' x m r :=
 h H'' (fun b hb o e=>k b o (.inl (hF b hb)) e) fun b us e=>k b _ (.inr ⟨us,rfl⟩) e
def Bt(P:qBc)(w:qCd)(K:qAb)(mg:Str->Option qAf)(base:Heap)(fE fH RU:Addr):Sp:=fun vs H Q _=>∃(p:Addr) (m:Nat) (r:R4) (qs:List P3),vs=[.int (m:Int),.ref p]/\H p=some (.lst ((fX r.k::(r.ns.map nW++qs.map pW)).map V.str))/\qs.Perm r.ps/\GoodR m r/\1<=m/\m<=6/\∀x H',aI H H'->(∀H'',NK H H' H''->sZ P w K mg base fE fH RU H'' x m r)->Q (.ref x) H'
theorem wJ:aK ["many","words","kind","told","numbers"] ["many","words"] (aE FF):=by constructor<;>first|rfl|decide +kernel
theorem Hn{f1 f2:Addr}{fd1 fd2:qBd}(t:Tx K mg "rule_of" FF ["many","words"] f fd)(T:T K mg AL LN RU OW PL PA VO MA NE fE fH rR rO rP rA rV rM rN iR iO iP iA iV iM iN fL wR wO wP wA wV wM wN CO iC cH cE cW SE NG NL NT)(Z:ZR P w K mg base AL LN RU OW PL PA VO MA NE fE fH rR rO rP rA rV rM rN iR iO iP iA iV iM iN fL wR wO wP wA wV wM wN CO iC cH cE cW SE NG NL NT)(D_numbers_of:Df P w K mg base cM 2 "numbers_of" ["words"] DR f1 fd1)(D_pairs_of:Df P w K mg base cM 3 "pairs_of" ["words"] DT f2 fd2):
  Df P w K mg base cM 9 "rule_of" ["many","words"] (Bt P w K mg base fE fH RU) f fd:=by
 have D_RI:=Z.RI;have D_OI:=Z.OI;have D_PI:=Z.PI;have D_PaI:=Z.MY;have D_VI:=Z.VI;have D_MI:=Z.MI;have D_NI:=Z.NI;refine t.jA wJ (fun vs H Q E h=>?_) (fun cdv A outer s H vs Q E hr h=>?_)
 ·obtain⟨p,m,r,qs,rfl,_⟩:=h;rfl
 ·obtain⟨p,m,r,qs,rfl,hp,pm,g,m1,m6,k⟩:=h;refine⟨_,(aD (bF (i:=2) wJ.nd rfl cK (a9 bJ (pv 1) aG (fun _ _=>rfl)))
   (aD (bF (i:=3) wJ.nd rfl cK (cX eZ (pv 1) (dA aG) c8))
   (aD (bK (PW.pt (pw_and (aS bU (pv 2) aU (aV _)) (pw_and1 (aS bU (aO aZ (by rfl) T.cN cC (aA (pv 3) aB)) aG (aV _))))) (aH (aN (cI bQ T.MN D_RI hr (by decide) (by rfl) T.zE (aA (pv 0) aB)))) aX)
   (aD (bK (PW.pt (pw_and (aS bU (pv 2) aU (aV _)) (pw_and1 (aS bU (aO aZ (by rfl) T.cN cC (aA (pv 3) aB)) (pv 0) (aV _))))) (aH (aN (cI bQ T.MP D_OI hr (by decide) (by rfl) T.Ij (aA (bD D_numbers_of hr (by decide) (by rfl) (aA (pv 3) aB)) aB)))) aX)
   (aD (bK (aS bU (pv 2) aU (aV _)) (aH (aN (cI bQ T.MS D_PaI hr (by decide) (by rfl) T.Il (aA (pv 0) (aA (bD D_pairs_of hr (by decide) (by rfl) (aA (pv 3) aB)) aB))))) aX)
   (aD (bK (PW.pt (pw_and (aS bU (pv 2) aU (aV _)) (pw_and1 (aS bU (aO aZ (by rfl) T.cN cC (aA (pv 3) aB)) (aM cL (pv 0) aG) (aV _))))) (aD (bF (i:=4) wJ.nd rfl cK (bD D_numbers_of hr (by decide) (by rfl) (aA (pv 3) aB)))
    (aH (aN (cI bQ T.MT D_VI hr (by decide) (by rfl) T.Im (aA (a9 bJ (pv 4) aG (fun _ _=>rfl)) (aA (a9 bJ (pv 4) aG (fun _ _=>rfl)) (aA (cX eZ (pv 4) (dA aG) c8) aB))))))) aX)
   (aD (bK (aS bU (pv 2) aU (aV _)) (aH (aN (cI bQ T.MU D_MI hr (by decide) (by rfl) T.Io (aA (pv 0) (aA (bD D_pairs_of hr (by decide) (by rfl) (aA (pv 3) aB)) aB))))) aX)
   (aD (bK (PW.pt (pw_and (aS bU (pv 2) aU (aV _)) (pw_and1 (aS zM (aO aZ (by rfl) T.cN cC (aA (pv 3) aB)) (pv 0) (aV _))))) (aH (aN (cI bQ T.MV D_NI hr (by decide) (by rfl) T.Ip (aA (bD D_numbers_of hr (by decide) (by rfl) (aA (cX eZ (pv 3) c8 (dA (pv 0))) aB)) (aA (bD D_pairs_of hr (by decide) (by rfl) (aA (cX eZ (pv 3) (dA (pv 0)) c8) aB)) aB))))) aX)
   (aD (bK (PW.pt (pw_and (aS bU (pv 2) aU (aV _)) (pw_and1 (aS bU (aO aZ (by rfl) T.cN cC (aA (pv 3) aB)) (aM fP (a9 cB (bP (v:=.ref LN) (by rfl) T.DD rfl) (pv 0) (fun _ _=>rfl)) aG) (aV _))))) (aH (aN (cI bQ T.MQ D_PI hr (by decide) (by rfl) T.Ik (aA (aM cO (bZ (aA aG aB)) (bD D_numbers_of hr (by decide) (by rfl) (aA (pv 3) aB))) aB)))) aX)
   (aH iW)))))))))),?_⟩
  have hat0:fK ((fX r.k::(r.ns.map nW++qs.map pW)).map V.str) 0=some (.str (fX r.k)):=bO (j:=0) rfl;refine⟨_,rfl,p,_,_,_,rfl,rfl,aY.of hp,hat0,?_⟩;refine⟨_,rfl,1,rfl,p,_,rfl,aY.of hp,fun lt hlt=>?_⟩;have ec:fT ((fX r.k::(r.ns.map nW++qs.map pW)).map V.str) (some 1) none=(r.ns.map nW++qs.map pW).map V.str:=iD ((fX r.k::(r.ns.map nW++qs.map pW)).map V.str) 1;rw[ec];have u1:=aI.aJ (o:=.lst ((r.ns.map nW++qs.map pW).map V.str)) hlt;have ht:upd H lt (.lst ((r.ns.map nW++qs.map pW).map V.str)) lt=some (.lst ((r.ns.map nW++qs.map pW).map V.str)):=aC;generalize upd H lt (.lst ((r.ns.map nW++qs.map pW).map V.str))=H1 at u1 ht|-;dsimp only[bE];refine eY (σ':=[some (.int (m:Int)),some (.ref p),some (.str (fX r.k)),some (.ref lt),none]) rfl ?_;have h64:2^m<=64:=qBr (n:=2) (by decide) m6;have hpos:0<2^m:=qGf (by decide);have n63:=g.vB m6;have p15:=g.pl;have ql:=pm.length_eq;have q6:∀q∈qs,q.1<6/\q.2.1<6/\q.2.2.natAbs<10^30:=fun q hq=>g.p6 m6 q (pm.mem_iff.mp hq);have tl:((r.ns.map nW++qs.map pW).map V.str).length=r.ns.length+qs.length:=by rw[qAa,qAn,qAa,qAa]
  have k7:=g.k7;have hk:r.k=0\/r.k=1\/r.k=2\/r.k=3\/r.k=4\/r.k=5\/r.k=6:=by lia
  have sz:=g.sz;rcases hk with hk | hk | hk | hk | hk | hk | hk
  ·rw[hk] at sz;have q0:qs=[]:=List.length_eq_zero_iff.mp (by rw[ql,g.pn (by lia) (by lia) (by lia)];rfl);have hz:((r.ns.map nW++qs.map pW).map V.str).length=0:=by rw[tl,sz,q0];rfl
   rw[hk];refine⟨_,rfl,rfl,_,rfl,cT ?_⟩;refine⟨_,rfl,lt,_,rfl,.inl (aY.of ht),rfl,_,rfl,?_⟩;rw[hz];refine cT ⟨_,rfl,fun x dx hx hd ne=>wF T.Ii.oc T.Ii.nm hx hd ne m1 m6 fun H5 s5 hx5=>⟨rfl,?_⟩⟩;exact k x H5 (u1.trans s5) fun H'' nk=>(wI T Z g hk m1 m6 hx5).nk (fun b hb=>by rw[List.mem_singleton.mp hb];exact u1.free hx) nk
  ·rw[hk] at sz;have q0:qs=[]:=List.length_eq_zero_iff.mp (by rw[ql,g.pn (by lia) (by lia) (by lia)];rfl);have hz:(((r.ns.map nW++qs.map pW).map V.str).length:Int)=(m:Int):=by rw[tl,sz,q0];rfl
   have ht':=ht;rw[q0,qDz,qCr] at ht';have sz:r.ns.length=m:=sz;rw[hk];refine⟨_,rfl,rfl,_,rfl,bG ?_⟩;dsimp only[bH];refine⟨_,rfl,rfl,_,rfl,cT ?_⟩;refine⟨_,rfl,lt,_,rfl,.inl (aY.of ht),_,rfl,rfl,_,rfl,dE (fun _=>?_) (fun h=>absurd (decide_eq_true (congrArg V.int hz)) h)⟩;refine⟨_,rfl,lt,r.ns,rfl,ht',by lia,g.nb,fun ln H2 hln s2 hn2=>?_⟩;refine fun x dx hx hd ne=>Bk hx hd ne hn2 (by lia) (by lia) fun l' H5 hl' s5 hx5 hl5=>⟨rfl,?_⟩;have u2:=u1.trans s2;rw[sz] at hx5;exact k x H5 (u2.trans s5) fun H'' nk=>(Br T Z g hk m1 m6 hx5 hl5).nk (fun b hb=>u2.free (by rcases List.mem_cons.mp hb with z | z;rw[z];exact hx;rw[List.mem_singleton.mp z];exact hl')) nk
  ·rw[hk] at sz;have n0:r.ns=[]:=List.length_eq_zero_iff.mp sz;have ht':=ht;rw[n0,qDz,qFh] at ht';rw[hk];refine⟨_,rfl,rfl,_,rfl,bG ?_⟩;dsimp only[bH];refine⟨_,rfl,rfl,_,rfl,bG ?_⟩;dsimp only[bH];refine⟨_,rfl,rfl,_,rfl,cT ?_⟩;refine⟨_,rfl,_,rfl,lt,qs,rfl,ht',by lia,q6,fun ln as H2 hln s2 hn2 a2=>?_⟩;have ok:=j6 a2 pm g.sQ g.pb g.pl;refine fun x dx hx hd ne=>sW hx hd ne hn2 ok a2 m1 m6 fun l' bs ps' H5 hl' s5 pm5 srt5 a5 hx5 hl5=>⟨rfl,?_⟩;have u2:=u1.trans s2;rw[fW srt5 g.sQ (pm5.trans pm)] at a5;exact k x H5 (u2.trans s5) fun H'' nk=>(tF T Z g hk m1 m6 hx5 hl5 a5).nk (fun b hb=>u2.free (by rcases List.mem_cons.mp hb with z | z;rw[z];exact hx;rw[List.mem_singleton.mp z];exact hl')) nk
  ·rw[hk] at sz;have q0:qs=[]:=List.length_eq_zero_iff.mp (by rw[ql,g.pn (by lia) (by lia) (by lia)];rfl);have sz:r.ns.length=m+2:=sz;have hz:(((r.ns.map nW++qs.map pW).map V.str).length:Int)=(m:Int)+2:=by rw[tl,sz,q0];push_cast;rfl
   have ht':=ht;rw[q0,qDz,qCr] at ht';rw[hk];refine⟨_,rfl,rfl,_,rfl,bG ?_⟩;dsimp only[bH];refine⟨_,rfl,rfl,_,rfl,bG ?_⟩;dsimp only[bH];refine⟨_,rfl,rfl,_,rfl,bG ?_⟩;dsimp only[bH];refine⟨_,rfl,rfl,_,rfl,cT ?_⟩;refine⟨_,rfl,lt,_,rfl,.inl (aY.of ht),_,rfl,_,_,rfl,rfl,rfl,_,rfl,dE (fun _=>?_) (fun h=>absurd (decide_eq_true (congrArg V.int hz)) h)⟩;refine⟨_,rfl,lt,r.ns,rfl,ht',by lia,g.nb,fun ln H2 hln s2 hn2=>?_⟩;dsimp only[bE];have at1:fK (r.ns.map V.int) 1=some (.int (r.ns.getD 1 0)):=iJ (j:=1) (by lia);have at0:fK (r.ns.map V.int) 0=some (.int (r.ns.getD 0 0)):=iJ (j:=0) (by lia);have dl:(r.ns.drop 2).length=m:=by rw[qDc];lia
   refine⟨_,rfl,ln,_,_,_,rfl,rfl,aY.of hn2,at0,_,rfl,ln,_,_,_,rfl,rfl,aY.of hn2,at1,_,rfl,2,rfl,ln,_,rfl,aY.of hn2,fun lw hlw=>?_⟩;have ec2:fT (r.ns.map V.int) (some 2) none=(r.ns.drop 2).map V.int:=by rw[show(2:Int)=((2:Nat):Int) from rfl,iD,<- qGc]
   rw[ec2];refine fun x dx hx hd ne=>sV hx hd ne aC (g.q1 hk) (by lia) (by lia) fun l' H5 hl' s5 hx5 hl5=>⟨rfl,?_⟩;have u2:=(u1.trans s2).trans (aI.aJ (o:=.lst ((r.ns.drop 2).map V.int)) hlw);rw[dl] at hx5;exact k x H5 (u2.trans s5) fun H'' nk=>(tD T Z g hk m1 m6 hx5 hl5).nk (fun b hb=>u2.free (by rcases List.mem_cons.mp hb with z | z;rw[z];exact hx;rw[List.mem_singleton.mp z];exact hl')) nk
  ·rw[hk] at sz;have n0:r.ns=[]:=List.length_eq_zero_iff.mp sz;have ht':=ht;rw[n0,qDz,qFh] at ht';rw[hk];refine⟨_,rfl,rfl,_,rfl,bG ?_⟩;dsimp only[bH];refine⟨_,rfl,rfl,_,rfl,bG ?_⟩;dsimp only[bH];refine⟨_,rfl,rfl,_,rfl,bG ?_⟩;dsimp only[bH];refine⟨_,rfl,rfl,_,rfl,bG ?_⟩;dsimp only[bH];refine⟨_,rfl,rfl,_,rfl,cT ?_⟩;refine⟨_,rfl,_,rfl,lt,qs,rfl,ht',by lia,q6,fun ln as H2 hln s2 hn2 a2=>?_⟩;have ok:=j6 a2 pm g.sQ g.pb g.pl;refine fun x dx hx hd ne=>sX hx hd ne hn2 ok a2 m1 m6 fun l' lb bs ps' H5 hl' hlb s5 pm5 srt5 a5 mo hx5 hl5=>⟨rfl,?_⟩;have u2:=u1.trans s2;obtain rfl:=fW srt5 g.sQ (pm5.trans pm);obtain⟨dy,hx5⟩:=hx5;exact k x H5 (u2.trans s5) fun H'' nk=>(tG T Z g hk m6 hx5 hl5 a5 mo).nk (fun b hb=>u2.free (by
    rcases List.mem_cons.mp hb with z | z
    ·rw[z];exact hx
    ·rcases List.mem_cons.mp z with z | z
     ·rw[z];exact hl'
     ·rw[List.mem_singleton.mp z];exact hlb)) nk
  ·rw[hk] at sz;have sz:r.ns.length=m:=sz;have hge:(((r.ns.map nW++qs.map pW).map V.str).length:Int)≥(m:Int):=by rw[tl,sz];lia
   obtain⟨c0,r0⟩:=g.n0 hk;rw[hk];refine⟨_,rfl,rfl,_,rfl,bG ?_⟩;dsimp only[bH];refine⟨_,rfl,rfl,_,rfl,bG ?_⟩;dsimp only[bH];refine⟨_,rfl,rfl,_,rfl,bG ?_⟩;dsimp only[bH];refine⟨_,rfl,rfl,_,rfl,bG ?_⟩;dsimp only[bH];refine⟨_,rfl,rfl,_,rfl,bG ?_⟩;dsimp only[bH];refine⟨_,rfl,rfl,_,rfl,cT ?_⟩;refine⟨_,rfl,lt,_,rfl,.inl (aY.of ht),_,rfl,_,_,rfl,rfl,_,rfl,dE (fun _=>?_) (fun h=>absurd (decide_eq_true hge) h)⟩;have et:fT ((r.ns.map nW++qs.map pW).map V.str) none (some (m:Int))=(r.ns.map nW).map V.str:=by
    rw[uS,<- qIz,List.take_left' (by rw[qAa];exact sz)]
   have ed:fT ((r.ns.map nW++qs.map pW).map V.str) (some (m:Int)) none=(qs.map pW).map V.str:=by
    rw[iD,<- qGc,List.drop_left' (by rw[qAa];exact sz)]
   refine⟨_,rfl,_,rfl,(m:Int),rfl,lt,_,rfl,aY.of ht,fun l1 hl1=>?_⟩;rw[et];refine⟨l1,r.ns,rfl,aC,by lia,g.nb,fun lc H2 hlc s2 hc2=>?_⟩;have u2:=u1.trans ((aI.aJ (o:=.lst ((r.ns.map nW).map V.str)) hl1).trans s2);have ht2:=s2 _ _ (aI.aJ (o:=.lst ((r.ns.map nW).map V.str)) hl1 _ _ ht);refine⟨_,rfl,_,rfl,(m:Int),rfl,lt,_,rfl,aY.of ht2,fun l3 hl3=>?_⟩;rw[ed];have u3:=aI.aJ (o:=.lst ((qs.map pW).map V.str)) hl3;refine⟨l3,qs,rfl,aC,by lia,q6,fun lp as H4 hlp s4 hp4 a4=>?_⟩;have u4:=u3.trans s4;have ok:dN r.ns.length H4 as:=by rw[sz];exact j6 a4 pm g.sQ g.pb g.pl
   refine fun x dx hx hd ne=>Bl hx hd ne (u4 _ _ hc2) (by lia) (by lia) c0 hp4 ok a4 (fun q hq=>r0 q (pm.mem_iff.mp hq)) fun l' lr rs' H5 hl' hlr s5 pm5 srt5 no=>⟨rfl,?_⟩;have u5:=u2.trans u4;rw[fW srt5 g.sQ (pm5.trans pm)] at no;exact k x H5 (u5.trans s5) fun H'' nk=>(Bs T Z g hk m6 no).nk (fun b hb=>u5.free (by
    rcases List.mem_cons.mp hb with z | z
    ·rw[z];exact hx
    ·rcases List.mem_cons.mp z with z | z
     ·rw[z];exact hl'
     ·rw[List.mem_singleton.mp z];exact hlr)) nk
  ·rw[hk] at sz;have q0:qs=[]:=List.length_eq_zero_iff.mp (by rw[ql,g.pn (by lia) (by lia) (by lia)];rfl);have sz:r.ns.length=2^m-1:=sz;have hz:(((r.ns.map nW++qs.map pW).map V.str).length:Int)=((2^m:Nat):Int)-1:=by rw[tl,sz,q0];show((2^m-1:Nat):Int)=_;lia
   have ht':=ht;rw[q0,qDz,qCr] at ht';have hn:(0::r.ns).length=2^m:=by rw[qBj];lia
   rw[hk];refine⟨_,rfl,rfl,_,rfl,bG ?_⟩;dsimp only[bH];refine⟨_,rfl,rfl,_,rfl,bG ?_⟩;dsimp only[bH];refine⟨_,rfl,rfl,_,rfl,bG ?_⟩;dsimp only[bH];refine⟨_,rfl,rfl,_,rfl,bG ?_⟩;dsimp only[bH];refine⟨_,rfl,rfl,_,rfl,bG ?_⟩;dsimp only[bH];refine⟨_,rfl,rfl,_,rfl,bG ?_⟩;dsimp only[bH];refine⟨_,rfl,rfl,_,rfl,cT ?_⟩;have hat:fK (jV.map V.int) (m:Int)=some (.int ((2^m:Nat):Int)):=by
    have:∀m:_root_.Fin 7,(jV.map V.int)[m.1]?=some (.int ((2^m.1:Nat):Int)):=by decide
    exact bO (this ⟨m,by lia⟩)
   refine⟨_,rfl,lt,_,rfl,.inl (aY.of ht),_,rfl,LN,_,_,_,rfl,rfl,T.ln _,hat,_,_,rfl,rfl,rfl,_,rfl,dE (fun _=>?_) (fun h=>absurd (decide_eq_true (congrArg V.int hz)) h)⟩;refine⟨nK,fun lz hlz=>?_⟩;have uz:=aI.aJ (o:=.lst [V.int 0]) hlz;refine⟨_,rfl,lt,r.ns,rfl,uz _ _ ht',by lia,g.nb,fun ln H2 hln s2 hn2=>?_⟩;refine⟨lz,ln,_,_,rfl,rfl,aY.of (s2 _ _ aC),aY.of hn2,(by rw[qAa];exact qBb (aQ (by show 1+_<=_;lia))),fun l2 hl2=>?_⟩;rw[show [V.int 0]++r.ns.map V.int=(0::r.ns).map V.int from rfl];have u2:=(u1.trans (uz.trans s2)).trans (aI.aJ (o:=.lst ((0::r.ns).map V.int)) hl2);refine fun x dx hx hd ne=>sU hx hd ne aC hn m1 m6 fun l' H5 hl' s5 hx5 hl5=>⟨rfl,?_⟩;exact k x H5 (u2.trans s5) fun H'' nk=>(tE T Z g hk m1 m6 hx5 hl5).nk (fun b hb=>u2.free (by rcases List.mem_cons.mp hb with z | z;rw[z];exact hx;rw[List.mem_singleton.mp z];exact hl')) nk
theorem Bu{α:Type}{R:Addr->α->Prop}:∀{as:List Addr}{xs:List α},as.length=xs.length->(∀(i:Nat) (a:Addr) (x:α),as[i]?=some a->xs[i]?=some x->R a x)->A2 R as xs
 | [],[],_,_=>.nil
 | a::as,[],h,_=>by cases h
 | [],x::xs,h,_=>by cases h
 | a::as,x::xs,h,k=>.cons (k 0 a x rfl rfl) (Bu (by simpa using h) fun i b y e1 e2=>k (i+1) b y e1 e2)
def Iu(P:qBc)(w:qCd)(K:qAb)(mg:Str->Option qAf)(base:Heap)(fE fH RU CO:Addr)(H:Hp)(c:Addr)(m:Nat)(rs:List R4):Prop:=∃os:List Ru,zB P w K mg base fE fH RU CO H c m os/\os.length=rs.length/\∀(i:Nat) (o:Ru) (r:R4),os[i]?=some o->rs[i]?=some r->j5 P w K mg base H o.1 (cR r)/\(r.k≠4->r.k≠5->∀g,o.2.2 g=eR r g)
theorem Iu.same{CO:Addr}{H H':Hp}{c:Addr}{m:Nat}{rs:List R4}(h:Iu P w K mg base fE fH RU CO H c m rs)(s:aI H H'):Iu P w K mg base fE fH RU CO H' c m rs:=by
 obtain⟨os,h1,h2,h3⟩:=h;exact⟨os,h1.same s,h2,fun i o r e1 e2=>⟨(h3 i o r e1 e2).1.same s,(h3 i o r e1 e2).2⟩⟩
theorem Bv{H:Hp}{m:Nat}{xs:List Addr}{rs:List R4}(h:A2 (fun x r=>sZ P w K mg base fE fH RU H x m r) xs rs):∃os:List Ru,xs.map V.ref=refs os/\(∀o∈os,o.2.1=m)/\nC P w K mg base fE fH RU H os/\os.length=rs.length/\∀(i:Nat) (o:Ru) (r:R4),os[i]?=some o->rs[i]?=some r->j5 P w K mg base H o.1 (cR r)/\(r.k≠4->r.k≠5->∀g,o.2.2 g=eR r g):=by
 induction h with
 | nil=>exact⟨[],rfl,(fun o ho=>by cases ho),(fun o ho=>by cases ho),rfl,(fun i o r e=>by cases e)⟩
 | @cons x r xs rs ob _ ih =>
  obtain⟨os,e1,e2,e3,e4,e5⟩:=ih;obtain⟨e,h1,h2,h3⟩:=ob;refine⟨(x,m,e)::os,by rw[qBi,e1];rfl,fun o ho=>?_,fun o ho=>?_,by rw[qBj,qBj,e4],fun i o r' a b=>?_⟩
  ·rcases List.mem_cons.mp ho with z | z
   ·rw[z]
   ·exact e2 o z
  ·rcases List.mem_cons.mp ho with z | z
   ·rw[z];exact h1
   ·exact e3 o z
  ·cases i with
   | zero=>cases a;cases b;exact⟨h2,h3⟩
   | succ i=>exact e5 i o r' a b
def DW(P:qBc)(w:qCd)(K:qAb)(mg:Str->Option qAf)(base:Heap)(fE fH RU CO:Addr):Sp:=fun vs H Q _=>∃(m:Nat) (rs:List (R4×List P3)),vs=[.str (nE m (rs.map fun q=>g6 q.1 q.2))]/\(∀q∈rs,GoodR m q.1/\q.2.Perm q.1.ps)/\rs.length<=12/\1<=m/\m<=6/\∀c H',aI H H'->Iu P w K mg base fE fH RU CO H' c m (rs.map fun q=>q.1)->Q (.ref c) H'
theorem tH{y:Str}{c:Nat}:∀(ps:List Str),c∈(Str.join y ps).cps.toList->c∈y.cps.toList\/∃p∈ps,c∈p.cps.toList
 | [],h=>by cases h
 | [p],h=>.inr ⟨p,qCb,h⟩
 | p::q::t,h=>by
  have h:c∈(p++y++Str.join y (q::t)).cps.toList:=h;rw[Str.cps_append,Str.cps_append,qCw,qCw,qGp,qGp] at h;rcases h with (h | h) | h
  ·exact .inr ⟨p,qCb,h⟩
  ·exact .inl h
  ·rcases tH (q::t) h with h | ⟨s,hs,h⟩
   ·exact .inl h
   ·exact .inr ⟨s,qBf _ hs,h⟩
theorem lT:∀{k:Nat},k<7->32∉(fX k).cps.toList/\59∉(fX k).cps.toList/\(fX k).length<=5
 | 0,_=>by decide +kernel
 | 1,_=>by decide +kernel
 | 2,_=>by decide +kernel
 | 3,_=>by decide +kernel
 | 4,_=>by decide +kernel
 | 5,_=>by decide +kernel
 | 6,_=>by decide +kernel
 | k+7,h=>absurd h (by lia)
theorem Dj{c:Nat}(hc:c≠45/\(c<48\/58<c)){p:P3}(h1:p.1<6)(h2:p.2.1<6):c∉(pW p).cps.toList:=by
 rw[pL h1 h2];intro h;rcases List.mem_append.mp h with h | h
 ·simp only[qDb,qBq,or_false] at h;lia
 ·exact qN ⟨hc.1,by lia⟩ _ h
theorem nF{c:Nat}(hc:c≠45/\(c<48\/58<c)){m:Nat}{r:R4}{qs:List P3}(g:GoodR m r)(m6:m<=6)(pm:qs.Perm r.ps):∀s∈r.ns.map nW++qs.map pW,c∉s.cps.toList:=fun s hs=>by
 rcases List.mem_append.mp hs with h | h
 ·obtain⟨n,_,rfl⟩:=List.mem_map.mp h;exact qN ⟨hc.1,by lia⟩ n
 ·obtain⟨p,hp,rfl⟩:=List.mem_map.mp h;obtain⟨a,b,_⟩:=g.p6 m6 p (pm.mem_iff.mp hp);exact Dj hc a b
theorem Bw{m:Nat}{r:R4}{qs:List P3}(g:GoodR m r)(m6:m<=6)(pm:qs.Perm r.ps):Txt.split (g6 r qs) (" ":Str)=fX r.k::(r.ns.map nW++qs.map pW):=by
 refine mO (c:=32) (r:=[]) rfl (by decide +kernel) (fun z=>nomatch z) fun s hs=>?_;rcases List.mem_cons.mp hs with rfl | hs
 ·exact(lT g.k7).1
 ·exact nF (by decide) g m6 pm s hs
theorem Dk{m:Nat}{r:R4}{qs:List P3}(g:GoodR m r)(m6:m<=6)(pm:qs.Perm r.ps):59∉(g6 r qs).cps.toList:=by
 intro h;unfold g6 rH at h;rw[show Txt.join (" ":Str) (fX r.k::(r.ns.map nW++qs.map pW))=Str.join (" ":Str) _ from StrLaws.glued_eq_join _ _] at h;rcases tH _ h with h | ⟨s,hs,h⟩
 ·exact absurd h (by decide +kernel)
 ·rcases List.mem_cons.mp hs with rfl | hs
  ·exact(lT g.k7).2.1 h
  ·exact nF (by decide) g m6 pm s hs h
theorem nG{m:Nat}{r:R4}{qs:List P3}(g:GoodR m r)(m6:m<=6)(pm:qs.Perm r.ps):(g6 r qs).length<=20000:=by
 unfold g6 rH;rw[show Txt.join (" ":Str) (fX r.k::(r.ns.map nW++qs.map pW))=Str.join (" ":Str) _ from StrLaws.glued_eq_join _ _];refine qAt (StrLaws.join_length_le _ _) ?_;have h0:=(lT g.k7).2.2;have hs:∀s∈r.ns.map nW++qs.map pW,s.length<=185:=fun s hs=>by
  rcases List.mem_append.mp hs with h | h
  ·exact nA g.wH s h
  ·exact nB (fun q hq=>g.KD m6 q (pm.mem_iff.mp hq)) s h
 have a:=j4 hs;have n63:=g.vB m6;have p15:=g.pl;have ql:=pm.length_eq;have e:(" ":Str).length=1:=rfl;rw[qAn,qAa,qAa] at a;rw[qBi,qGb,qBj,qAn,qAa,qAa,e];lia
theorem cw_split{m:Nat}{rs:List (R4×List P3)}(m6:m<=6)(g:∀q∈rs,GoodR m q.1/\q.2.Perm q.1.ps):Txt.split (nE m (rs.map fun q=>g6 q.1 q.2)) ("; ":Str)=(("hands ":Str)++nW (m:Int))::rs.map fun q=>g6 q.1 q.2:=by
 refine mO (c:=59) (r:=[32]) rfl (by decide +kernel) (fun z=>nomatch z) fun s hs=>?_;rcases List.mem_cons.mp hs with rfl | hs
 ·intro h;rw[Str.cps_append,qCw,qGp] at h;rcases h with h | h
  ·exact absurd h (by decide +kernel)
  ·exact qN (by decide) _ h
 ·obtain⟨q,hq,rfl⟩:=List.mem_map.mp hs;exact Dk (g q hq).1 m6 (g q hq).2
theorem cw_len{m:Nat}{rs:List (R4×List P3)}(m6:m<=6)(g:∀q∈rs,GoodR m q.1/\q.2.Perm q.1.ps)(h12:rs.length<=12):(nE m (rs.map fun q=>g6 q.1 q.2)).length<=1000000:=by
 unfold nE;rw[show Txt.join ("; ":Str) ((("hands ":Str)++nW (m:Int))::rs.map fun q=>g6 q.1 q.2)=Str.join ("; ":Str) _ from StrLaws.glued_eq_join _ _];refine qAt (StrLaws.join_length_le _ _) ?_;have a:=j4 (B:=20000) (ss:=rs.map fun q=>g6 q.1 q.2) fun s hs=>by
  obtain⟨q,hq,rfl⟩:=List.mem_map.mp hs;exact nG (g q hq).1 m6 (g q hq).2
 have l1:=dW (i:=(m:Int)) (qBo (show(m:Int).natAbs<=6 by lia) (by decide +kernel));have e:("; ":Str).length=2:=rfl;have e6:("hands ":Str).length=6:=rfl;rw[qAa] at a;rw[qBi,qGb,qBj,qAa,Str.length_append,e,e6];lia
theorem pM:aK ["text","parts","many","rules","place","part"] ["text"] (aE FH):=by constructor<;>first|rfl|decide +kernel
theorem Ho{f1 f2:Addr}{fd1 fd2:qBd}(t:Tx K mg "read" FH ["text"] f fd)(T:T K mg AL LN RU OW PL PA VO MA NE fE fH rR rO rP rA rV rM rN iR iO iP iA iV iM iN fL wR wO wP wA wV wM wN CO iC cH cE cW SE NG NL NT)(D_many_of:Df P w K mg base cM 1 "many_of" ["part"] (DU K) f1 fd1)(D_rule_of:Df P w K mg base cM 9 "rule_of" ["many","words"] (Bt P w K mg base fE fH RU) f2 fd2)
  (D_CI:Md P w K mg base 4 ["self","many","rules"] (Dh P w K mg base fE fH RU CO NL) iC):Df P w K mg base cM 10 "read" ["text"] (DW P w K mg base fE fH RU CO) f fd:=by
 refine t.jA pM (fun vs H Q E h=>?_) (fun cdv A outer s H vs Q E hr h=>?_)
 ·obtain⟨m,rs,rfl,_⟩:=h;rfl
 ·obtain⟨m,rs,rfl,g,r12,m1,m6,k⟩:=h;obtain⟨tkMR,hMR⟩:=T.mr;refine⟨_,(aD (bF (i:=1) pM.nd rfl cK (dP qBp qIs qIq oY (pv 0) (aA aU aB)))
   (aD (bF (i:=2) pM.nd rfl cK (bD D_many_of hr (by decide) (by rfl) (aA (a9 bJ (pv 1) aG (fun _ _=>rfl)) aB)))
   (aD (bF (i:=3) pM.nd rfl cK (bZ aB))
   (aD (gK PassesOwn.never rfl (AK (by rfl) T.iF (aA (cX eZ (pv 1) (dA aG) c8) aB) aG) (fB rfl (bB (aP (i:=4) pM.nd rfl cK) (bB (aP (i:=5) pM.nd rfl cK) dZ)))
    (aD (bK (aS lZ (pv 4) (bP (v:=.int 12) (by rfl) hMR ⟨tkMR,rfl⟩) (aV _)) (aH iW) aX)
    (aH (Cv (tb:=fun Ex=>Dr (Lp K "list" p7 (rS 3) (oF (zS (Bt P w K mg base fE fH RU) [] E0 (oF (rS 2) (oF (Lp K "str" AF (rS 5) (oF (tC (V.str (" ":Str))) t5)) t5))) t5))) (fun pins Ex=>(aH (bN (dP qCz qDg qDf eD (pv 3) (aA (bD D_rule_of hr (by decide) (by rfl) (aA (pv 2) (aA (dP qBp qIs qIq oY (pv 5) (aA aU aB)) aB))) aB)))))))))
   (aH (aN (cI bQ T.MX D_CI hr (by decide) (by rfl) T.Gb (aA (pv 2) (aA (pv 3) aB))))))))),?_⟩
  have cl:=cw_len m6 g r12;have cs:=cw_split m6 g;obtain⟨xs,hxs⟩:∃xs:List Str,xs=rs.map fun q=>g6 q.1 q.2:=⟨_,rfl⟩;have xl:xs.length=rs.length:=by rw[hxs,qAa]
  rw[<- hxs] at cs cl|-;generalize nE m xs=tx at cl cs|-;refine⟨_,rfl,rfl,tx,("; ":Str),rfl,rfl,rfl,qAt (qJz cl 2) (by decide),fun lp hlp=>?_⟩;rw[cs];have u1:=aI.aJ (o:=.lst (((("hands ":Str)++nW (m:Int))::xs).map V.str)) hlp;have h1:upd H lp (.lst (((("hands ":Str)++nW (m:Int))::xs).map V.str)) lp=some (.lst (((("hands ":Str)++nW (m:Int))::xs).map V.str)):=aC;generalize upd H lp (.lst (((("hands ":Str)++nW (m:Int))::xs).map V.str))=H1 at u1 h1|-;dsimp only[bE];refine⟨_,rfl,lp,_,_,_,rfl,rfl,aY.of h1,bO (j:=0) rfl,m,rfl,m1,m6,?_⟩;dsimp only[bE];refine⟨by show 0<=qAg;decide,fun lr hlr=>?_⟩;have u2:=aI.aJ (o:=.lst []) hlr;have h2:upd H1 lr (.lst []) lr=some (.lst ((([]:List Addr)).map V.ref)):=aC;have flr:H1 lr=none:=hlr;generalize upd H1 lr (.lst [])=H2 at u2 h2|-;dsimp only[bE];refine eY (σ':=[some (.str tx),some (.ref lp),some (.int (m:Int)),some (.ref lr),none,none]) rfl ?_;refine⟨_,rfl,1,rfl,lp,_,rfl,aY.of (u2 _ _ h1),fun lq hlq=>?_⟩;have ec:fT (((("hands ":Str)++nW (m:Int))::xs).map V.str) (some 1) none=xs.map V.str:=iD (((("hands ":Str)++nW (m:Int))::xs).map V.str) 1;rw[ec];have u3:=aI.aJ (o:=.lst (xs.map V.str)) hlq;have h3:upd H2 lq (.lst (xs.map V.str)) lq=some (.lst (xs.map V.str)):=aC;have hr3:=u3 _ _ h2;have nq:lq≠lr:=(aT h2 hlq).symm;generalize upd H2 lq (.lst (xs.map V.str))=H3 at u3 h3 hr3|-;refine⟨lq,rfl,⟨_,aY.of h3⟩,?_⟩;refine yB (xs:=xs.map V.str) (fun i σ' H'=>aI H1 H'/\H' lq=some (.lst (xs.map V.str))/\∃(ys:List Addr) (o4 o5:Option V),ys.length=i/\H' lr=some (.lst (ys.map V.ref))/\(∀(j:Nat) (y:Addr),ys[j]?=some y->∃q:R4×List P3,rs[j]?=some q/\∀H'',(∀b o,b≠lr->H' b=some o->H'' b=some o)->sZ P w K mg base fE fH RU H'' y m q.1)/\σ'=[some (.str tx),some (.ref lp),some (.int (m:Int)),some (.ref lr),o4,o5]) ⟨u2.trans u3,h3,[],_,_,rfl,hr3,(fun j y e=>by cases e),rfl⟩ (fun i σ' H' _ hp=>aY.of hp.2.1) ?_ ?_
  ·rintro i x t σ' H4 hx ht ⟨u4,h4,ys,o4,o5,yl,hr4,hy,rfl⟩;have hi:i<rs.length:=by
    obtain⟨z,_⟩:=List.getElem?_eq_some_iff.mp hx;rw[qAa,xl] at z;exact z
   have hq:rs[i]?=some rs[i]:=qAc hi;obtain rfl:x=V.str (g6 rs[i].1 rs[i].2):=by
    rw[hxs,qAj,qAj,hq] at hx;exact(Option.some.inj hx).symm
   obtain⟨gr,pm⟩:=g rs[i] (qCh hi);have wd:=Bw gr m6 pm;have wl:=nG gr m6 pm;have v5:=aI.aJ (o:=.tup [V.int ((i:Int)+1),V.str (g6 rs[i].1 rs[i].2)]) ht;have ht5:upd H4 t (.tup [V.int ((i:Int)+1),V.str (g6 rs[i].1 rs[i].2)]) t=some (.tup [V.int ((i:Int)+1),V.str (g6 rs[i].1 rs[i].2)]):=aC;generalize upd H4 t (.tup [V.int ((i:Int)+1),V.str (g6 rs[i].1 rs[i].2)])=H5 at v5 ht5|-;refine⟨t,_,rfl,dG.of ht5,rfl,_,_,rfl,_,_,rfl,rfl,?_⟩;refine⟨_,rfl,_,_,rfl,rfl,_,rfl,dE (fun h=>absurd (of_decide_eq_true h) (by lia)) (fun _=>?_)⟩;have hr5:=v5 _ _ hr4;refine⟨_,rfl,.inl ⟨rfl,_,aY.of hr5⟩,_,rfl,_,rfl,rfl,_,(" ":Str),rfl,rfl,rfl,qAt (qJz wl 2) (by decide),fun lw hlw=>?_⟩;rw[wd];have v6:=aI.aJ (o:=.lst ((fX rs[i].1.k::(rs[i].1.ns.map nW++rs[i].2.map pW)).map V.str)) hlw;refine⟨lw,m,rs[i].1,rs[i].2,rfl,aC,pm,gr,m1,m6,fun y H7 s7 nk=>?_⟩;have u57:=v6.trans s7;have hr6:=v6 _ _ hr5;have hr7:=s7 _ _ hr6;refine⟨lr,_,_,rfl,rfl,hr7,by rw[qAa];exact aQ (by lia),?_⟩;have kp:∀b o,b≠lr->H7 b=some o->upd H7 lr (.lst (ys.map V.ref++[V.ref y])) b=some o:=fun b o n e=>by rw[aL n];exact e
   refine⟨(u4.trans (v5.trans u57)).upd_ne' flr,kp _ _ nq (u57 _ _ (v5 _ _ h4)),ys++[y],_,_,by rw[qAn,yl];rfl,by rw[aC,qCc];rfl,fun j z e=>?_,rfl⟩;rcases qBh j ys.length with hj | hj
   ·rw[qCa hj] at e;obtain⟨q,hq',ob⟩:=hy j z e;exact⟨q,hq',fun H'' kk=>ob H'' fun b o n e=>kk b o n (kp b o n (u57 _ _ (v5 _ _ e)))⟩
   ·rw[qBy hj] at e;have:j-ys.length=0:=by
     obtain⟨w1,_⟩:=List.getElem?_eq_some_iff.mp e;have w1:j-ys.length<1:=w1;lia
    rw[this] at e;cases e;refine⟨rs[i],by rw[show j=i by lia];exact hq,fun H'' kk=>nk H'' fun b o hb e=>kk b o (fun z=>?_) (kp b o (fun z=>?_) e)⟩
    ·rcases hb with hb | ⟨us,rfl⟩
     ·rw[z,hr6] at hb;cases hb
     ·rw[z,hr7] at e;cases e
    ·rcases hb with hb | ⟨us,rfl⟩
     ·rw[z,hr6] at hb;cases hb
     ·rw[z,hr7] at e;cases e
  ·rintro σ' H4 ⟨u4,h4,ys,o4,o5,yl,hr4,hy,rfl⟩;rw[qAa,xl] at yl;have a2:A2 (fun x r=>sZ P w K mg base fE fH RU H4 x m r) ys (rs.map fun q=>q.1):=Bu (by rw[qAa];exact yl) fun j y r e1 e2=>by
    obtain⟨q,hq,ob⟩:=hy j y e1;rw[qAj,hq] at e2;cases e2;exact ob H4 fun b o _ e=>e
   obtain⟨os,e1,e2,e3,e4,e5⟩:=Bv a2;rw[e1] at hr4;rw[qAa] at e4;refine⟨_,rfl,_,rfl,fun c dc hc hdc ne=>wG hc hdc ne hr4 (by lia) e3 e2 m1 m6 fun lc H6 hlc s6 hc6 hlc6=>⟨rfl,?_⟩⟩;refine k c H6 ((u1.trans u4).trans s6) ⟨os,⟨dc,lc,hc6,hlc6,by lia,m1,m6,e3.same s6,e2⟩,by rw[qAa];exact e4,fun i o r a b=>?_⟩;exact⟨(e5 i o r a b).1.same s6,(e5 i o r a b).2⟩
def Bx(K:qAb):Sp:=fun vs H Q _=>∃(a:Addr) (ns:List Int) (k:Nat),vs=[.ref a,.int (k:Int)]/\aY K H a (ns.map V.int)/\(∀i∈ns,Sm 1048577 i)/\k<=10000/\∀c:Int,Sm 1048577 c->Q (.int c) H
theorem By:aK ["_law_script","_law_k","_law_number_here"] ["_law_script","_law_k"] (aE FJ):=by constructor<;>first|rfl|decide +kernel
theorem Hq(t:Tx K mg "_law_cell" FJ ["_law_script","_law_k"] f fd)(T:T K mg AL LN RU OW PL PA VO MA NE fE fH rR rO rP rA rV rM rN iR iO iP iA iV iM iN fL wR wO wP wA wV wM wN CO iC cH cE cW SE NG NL NT):Df P w K mg base cM 1 "_law_cell" ["_law_script","_law_k"] (Bx K) f fd:=by
 refine t.jA By (fun vs H Q E h=>?_) (fun cdv A outer s H vs Q E hr h=>?_)
 ·obtain⟨a,ns,k,rfl,_⟩:=h;rfl
 ·obtain⟨a,ns,j,rfl,hq,hsm,hj,k⟩:=h;refine⟨_,(aD (bK (aS jM (pv 1) (aO aZ (by rfl) T.cN cC (aA (pv 0) aB)) (aV _)) (aH (aN (a9 bJ (pv 0) (pv 1) (fun _ _=>rfl)))) aX)
   (aD (bF (i:=2) By.nd rfl cK (aM cL (aM hV (aM hV (pv 1) (pv 1)) aG) aG))
   (aD (bK (aS lZ (aO aZ (by rfl) T.cN cC (aA (pv 0) aB)) aG (aV _)) (aH (bF (i:=2) By.nd rfl cK (aM cL (pv 2) (aM hV (aM c9 (a9 bJ (pv 0) (aM c9 (aM hV (pv 1) aG) (aO aZ (by rfl) T.cN cC (aA (pv 0) aB))) (fun _ _=>rfl)) aG) aG)))) aX)
   (aH (aN (aM c9 (aM hV (pv 2) aG) aG)))))),?_⟩
  have hjj:(j:Int)*(j:Int)<=10000*10000:=Int.mul_le_mul (by lia) (by lia) (by lia) (by lia);have hj0:0<=(j:Int)*(j:Int):=qLt (by lia) (by lia);refine⟨_,rfl,_,rfl,a,_,rfl,.inl hq,_,_,rfl,rfl,_,rfl,dE (fun h=>?_) (fun _=>?_)⟩
  ·have hlt:j<ns.length:=by
    have z:=of_decide_eq_true h;rw[qAa] at z;lia
   have hat:fK (ns.map V.int) (j:Int)=some (.int ns[j]):=bO (by rw[qAj,qAc hlt];rfl);exact⟨_,rfl,_,rfl,a,_,_,_,rfl,rfl,hq,hat,k _ (hsm _ (qCh hlt))⟩
  ·refine⟨_,rfl,_,rfl,_,_,rfl,rfl,.inl ⟨by lia,by lia⟩,_,_,rfl,rfl,.inr ⟨by decide,by decide⟩,_,_,rfl,rfl,?_⟩;dsimp only;refine Ah (fun σ2 H2=>H2=H/\∃z:Int,σ2=[some (.ref a),some (.int (j:Int)),some (.int z)]) ?_ fun tail=>?_
   ·rintro σ2 H2 ⟨rfl,z,rfl⟩;exact⟨_,rfl,_,_,rfl,rfl,.inr ⟨by decide,by decide⟩,_,_,rfl,rfl,(by show(0:Int)<2147483647;decide),k _ (Sm.of 31 (by have z1:=qEh (z*69621) (b:=2147483647) (by decide);have z2:=qEc (z*69621) (b:=2147483647) (by decide);have e:(2:Nat)^31=2147483648:=(by decide);rw[e];lia) (by decide))⟩
   ·refine⟨_,rfl,a,_,rfl,.inl hq,_,_,rfl,rfl,_,rfl,dE (fun h2=>?_) (fun _=>tail _ _ ⟨rfl,_,rfl⟩)⟩;have hpos:0<ns.length:=by
     have z:=of_decide_eq_true h2;rw[qAa] at z;lia
    have hlen:0<((ns.map V.int).length:Int):=by rw[qAa];lia
    obtain⟨x,hx,hxm⟩:=EL (xs:=ns.map V.int) (i:=(j:Int)*5%((ns.map V.int).length:Int)) (qEh _ (by lia)) (qEc _ hlen);obtain⟨z,_,rfl⟩:=List.mem_map.mp hxm;refine⟨_,rfl,_,rfl,_,rfl,_,_,rfl,rfl,.inr ⟨by decide,by decide⟩,_,rfl,a,_,rfl,.inl hq,_,_,rfl,rfl,hlen,a,_,_,_,rfl,rfl,hq,hx,_,_,rfl,rfl,(by show(0:Int)<2147483629;decide),_,_,rfl,rfl,.inr ⟨by decide,by decide⟩,_,_,rfl,rfl,?_⟩;exact tail _ _ ⟨rfl,_,rfl⟩
theorem abs_eq(i:Int):(if i<0 then -i else i)=(i.natAbs:Int):=by split <;> lia
def MD(b:Int):Prop:=b=10^12\/b=10^30
def KG:Sp:=fun vs H Q _=>∃c b:Int,vs=[.int c,.int b]/\Sm 1048577 c/\MD b/\∀n:Int,n.natAbs<10^30->Q (.int n) H
theorem ME:aK ["_law_cell_here","_law_bound"] ["_law_cell_here","_law_bound"] (aE LJ):=by constructor<;>first|rfl|decide +kernel
theorem KH(t:Tx K mg "_law_number" LJ ["_law_cell_here","_law_bound"] f fd)(T:T K mg AL LN RU OW PL PA VO MA NE fE fH rR rO rP rA rV rM rN iR iO iP iA iV iM iN fL wR wO wP wA wV wM wN CO iC cH cE cW SE NG NL NT):Df P w K mg base cM 1 "_law_number" ["_law_cell_here","_law_bound"] KG f fd:=by
 refine t.jA ME (fun vs H Q E h=>?_) (fun cdv A outer s H vs Q E hr h=>?_)
 ·obtain⟨c,b,rfl,_⟩:=h;rfl
 ·obtain⟨c,b,rfl,hcs,hb,k⟩:=h;have b1:10^12<=b/\b<=10^30:=by rcases hb with rfl | rfl <;> decide
  have e30:(10:Nat)^30=1000000000000000000000000000000:=by decide
  have e30':(10:Int)^30=1000000000000000000000000000000:=by decide
  have e12':(10:Int)^12=1000000000000:=by decide
  rw[e30',e12'] at b1;refine⟨_,(aD (bK (aS bU (aM c9 (pv 0) aG) aG (aV _)) (aH (aN (aM fP (aM c9 (aM fY (pv 0) aG) aG) aG))) aX)
   (aH (aN (aM cL (aM fP (aM c9 (aM vM (aM fY (pv 0) aG) aG) (aM fP (aM vM aG (pv 1)) aG)) (pv 1)) aG)))),?_⟩
  refine⟨_,rfl,_,_,rfl,rfl,(by show(0:Int)<2;decide),rfl,_,rfl,dE (fun _=>?_) (fun _=>?_)⟩
  ·refine⟨_,rfl,_,_,rfl,rfl,⟨by decide,by decide⟩,_,_,rfl,rfl,(by show(0:Int)<19;decide),_,_,rfl,rfl,k _ ?_⟩;rw[e30];lia
  ·obtain⟨y,hy⟩:∃y:Int,2*b-1=y/\0<y:=⟨_,rfl,by lia⟩;refine⟨_,rfl,_,_,rfl,rfl,⟨by decide,by decide⟩,_,_,rfl,rfl,Sm.mb (m:=1048577) (n:=100) (hcs.le (by lia)) (by unfold Sm;decide) (by decide) (by decide),_,rfl,_,_,rfl,rfl,.inl (.inl ⟨by decide,by decide⟩),_,_,rfl,rfl,_,_,rfl,rfl,(by show(0:Int)<2*b-1;lia),_,rfl,_,_,rfl,rfl,_,_,rfl,rfl,k _ ?_⟩;have z1:=qEh (c/2*618033988749894848204586834365) (b:=2*b-1) (by lia);have z2:=qEc (c/2*618033988749894848204586834365) (b:=2*b-1) (by lia);rw[e30];generalize c/2*618033988749894848204586834365%(2*b-1)=u at z1 z2|-;lia
def k9(H:Hp)(p:Addr)(m:Nat)(r:R4):Prop:=∃(ln lp:Addr) (bs:List Addr),H p=some (.tup [.str (fX r.k),.ref ln,.ref lp,.int (r.way:Int)])/\H ln=some (.lst (r.ns.map V.int))/\H lp=some (.lst (bs.map V.ref))/\A2 (dC H) bs r.ps/\GoodR m r/\r.way<4
theorem k9.same{H H':Hp}{p:Addr}{m:Nat}{r:R4}(h:k9 H p m r)(s:aI H H'):k9 H' p m r:=by
 obtain⟨ln,lp,bs,h1,h2,h3,h4,h5,h6⟩:=h;exact⟨ln,lp,bs,s _ _ h1,s _ _ h2,s _ _ h3,h4.imp fun _ _ z=>z.keep s.t,h5,h6⟩
def n8(m:Nat):Nat->Nat
 | 0=>0
 | i+1=>n8 m i+(m-1-i)
theorem wK:∀m:_root_.Fin 7,n8 m.1 m.1<=15:=by decide
theorem Dl:∀(m:_root_.Fin 7) (i:_root_.Fin 7),i.1<=m.1->n8 m.1 i.1<=n8 m.1 m.1:=by decide
def lK(m i j:Nat)(ps:List P3):Prop:=(∀p∈ps,p.1<p.2.1/\p.2.1<m/\p.2.2.natAbs<10^30/\(p.1<i\/(p.1=i/\p.2.1<j)))/\jZ ps/\ps.length<=n8 m i+(j-(i+1))
theorem lK.go{m i j:Nat}{ps:List P3}(h:lK m i j ps):lK m i (j+1) ps :=
 ⟨fun b hb=>let ⟨z1,z2,z3,z4⟩:=h.1 b hb;⟨z1,z2,z3,by lia⟩,h.2.1,by have:=h.2.2;lia⟩
theorem lK.up{m i j:Nat}{ps:List P3}(h:lK m i j ps)(hj:j<=m):lK m (i+1) (i+2) ps :=
 ⟨fun b hb=>let ⟨z1,z2,z3,z4⟩:=h.1 b hb;⟨z1,z2,z3,by lia⟩,h.2.1,by have:=h.2.2;show _<=n8 m i+(m-1-i)+_;lia⟩
theorem lK.add{m i j:Nat}{n:Int}{ps:List P3}(h:lK m i j ps)(hn:n.natAbs<10^30)(hj:i<j)(hm:j<m):lK m i (j+1) (ps++[(i,j,n)]):=by
 refine⟨fun c hc=>?_,?_,by rw[qAn];have:=h.2.2;show _+1<=_;lia⟩
 ·rcases List.mem_append.mp hc with hc | hc
  ·exact h.go.1 c hc
  ·obtain rfl:=List.mem_singleton.mp hc;exact⟨hj,hm,hn,.inr ⟨rfl,by show j<j+1;lia⟩⟩
 ·refine List.pairwise_append.mpr ⟨h.2.1,List.pairwise_singleton _ _,fun p hp q hq=>?_⟩;obtain rfl:=List.mem_singleton.mp hq;exact(h.1 p hp).2.2.2
theorem zC{m:Nat}{c:Int}(m6:m<=6):∃kd:Nat,c%7=(kd:Int)/\kd<7/\fK [V.int 0,V.int (m:Int),V.int 0,V.int ((m:Int)+2),V.int 0,V.int (m:Int),V.int (((2^m:Nat):Int)-1)] (c%7)=some (.int ((Ir m kd:Nat):Int)) /\
  fK [V.str ("none":Str),V.str ("own":Str),V.str ("pairs":Str),V.str ("votes":Str),V.str ("match":Str),V.str ("net":Str),V.str ("table":Str)] (c%7)=some (.str (fX kd)):=by
 have hpos:0<2^m:=qGf (by decide);have e0:=qEh c (b:=7) (by decide);have e1:=qEc c (b:=7) (by decide);have e6:((2^m:Nat):Int)-1=((2^m-1:Nat):Int):=by lia
 rw[e6];have:c%7=((0:Nat):Int)\/c%7=((1:Nat):Int)\/c%7=((2:Nat):Int)\/c%7=((3:Nat):Int)\/c%7=((4:Nat):Int)\/c%7=((5:Nat):Int)\/c%7=((6:Nat):Int):=by lia
 rcases this with e | e | e | e | e | e | e
 ·exact⟨0,e,by decide,by rw[e];exact bO rfl,by rw[e];exact bO rfl⟩
 ·exact⟨1,e,by decide,by rw[e];exact bO rfl,by rw[e];exact bO rfl⟩
 ·exact⟨2,e,by decide,by rw[e];exact bO rfl,by rw[e];exact bO rfl⟩
 ·exact⟨3,e,by decide,by rw[e];exact bO rfl,by rw[e];exact bO rfl⟩
 ·exact⟨4,e,by decide,by rw[e];exact bO rfl,by rw[e];exact bO rfl⟩
 ·exact⟨5,e,by decide,by rw[e];exact bO rfl,by rw[e];exact bO rfl⟩
 ·exact⟨6,e,by decide,by rw[e];exact bO rfl,by rw[e];exact bO rfl⟩
theorem Bz{ys:List V}{Bd:Int->Prop}(h:∀(i:Nat) (y:V),ys[i]?=some y->∃n:Int,y = .int n/\Bd n):∃ns:List Int,ys=ns.map V.int/\ns.length=ys.length/\∀n∈ns,Bd n:=by
 induction ys with
 | nil=>exact⟨[],rfl,rfl,fun n hn=>by cases hn⟩
 | cons y r ih =>
  obtain⟨n,rfl,hn⟩:=h 0 y rfl;obtain⟨ns,e,l,k⟩:=ih fun i y e=>h (i+1) y e;exact⟨n::ns,by rw[e];rfl,by rw[qBj,l];rfl,fun z hz=>by rcases List.mem_cons.mp hz with rfl | hz;exact hn;exact k z hz⟩
def DX(K:qAb):Sp:=fun vs H Q _=>∃(a:Addr) (ns:List Int) (at_ m:Nat) (b:Int),vs=[.ref a,.int (at_:Int),.int (m:Int),.int b]/\MD b/\aY K H a (ns.map V.int)/\(∀i∈ns,Sm 1048577 i)/\at_<=1000/\1<=m/\m<=6/\∀(p:Addr) (r:R4) H',aI H H'->(∀H'',NK H H' H''->k9 H'' p m r)->Q (.ref p) H'
theorem iK:aK ["_law_script","_law_at","_law_many","_law_bound","_law_cell_here","_law_size","_law_numbers","_law_pairs","_law_one","_law_other","_law_number_here","_law_head"] ["_law_script","_law_at","_law_many","_law_bound"] (aE FK):=by constructor<;>first|rfl|decide +kernel
theorem Hr{f1 f2:Addr}{fd1 fd2:qBd}(t:Tx K mg "_law_rule" FK ["_law_script","_law_at","_law_many","_law_bound"] f fd)(T:T K mg AL LN RU OW PL PA VO MA NE fE fH rR rO rP rA rV rM rN iR iO iP iA iV iM iN fL wR wO wP wA wV wM wN CO iC cH cE cW SE NG NL NT)(D_law_cell:Df P w K mg base cM 1 "_law_cell" ["_law_script","_law_k"] (Bx K) f1 fd1)
  (D_law_number:Df P w K mg base cM 1 "_law_number" ["_law_cell_here","_law_bound"] KG f2 fd2):Df P w K mg base cM 2 "_law_rule" ["_law_script","_law_at","_law_many","_law_bound"] (DX K) f fd:=by
 refine t.jA iK (fun vs H Q E h=>?_) (fun cdv A outer s H vs Q E hr h=>?_)
 ·obtain⟨a,ns,at_,m,b,rfl,_⟩:=h;rfl
 ·obtain⟨a,sc,at_,m,b,rfl,hb,ha,hsm,hat,m1,m6,k⟩:=h;have h64:2^m<=64:=qBr (n:=2) (by decide) m6;have hpos:0<2^m:=qGf (by decide);refine⟨_,(aD (bF (i:=4) iK.nd rfl cK (aM c9 (aM hV (aM c9 (bD D_law_cell hr (by decide) (by rfl) (aA (pv 0) (aA (pv 1) aB))) aG) aG) aG))
   (aD (bF (i:=5) iK.nd rfl (by first|exact .inl rfl|exact .inr rfl) (a9 bJ (bZ (aA aG (aA (pv 2) (aA aG (aA (aM cL (pv 2) aG) (aA aG (aA (pv 2) (aA (aM fP (aM tU aG (pv 2)) aG) aB)))))))) (aM c9 (pv 4) aG) (fun _ _=>rfl)))
   (aD (lM (NB:=["_law_k","_law_at","_law_bound","_law_script"]) (pick:=[none,some 1,some 3,some 0]) (i:=6) iK.nd rfl (by first|exact .inl rfl|exact .inr rfl) (by rfl) (bR (by with_unfolding_all rfl) (by exact(And.intro rfl (And.intro rfl (And.intro rfl trivial)))) rfl (by decide +kernel) (by decide +kernel) (by rfl) (by rfl)) rfl
     (iL (by rfl) T.eM (aA (pv 5) aB)) (fun _ _ _=>aP (i:=0) (show(["_law_k","_law_at","_law_bound","_law_script"]:List Str).Nodup from by decide +kernel) rfl cK)
     (fun _ _ _=>bS) (fun _ _ _=>(bD D_law_number hr (by decide) (by rfl) (aA (bD D_law_cell hr (by decide) (by rfl) (aA (pv 3) (aA (aM cL (aM cL (pv 1) aG) (pv 0)) aB))) (aA (pv 2) aB)))))
   (aD (bF (i:=7) iK.nd rfl (by first|exact .inl rfl|exact .inr rfl) (bZ aB))
   (aD (bK (PW.pt (pw_or (aS bU (aM c9 (pv 4) aG) aG (aV _)) (pw_or (aS bU (aM c9 (pv 4) aG) aG (aV _)) (pw_or1 (aS bU (aM c9 (pv 4) aG) aG (aV _)))))) (aH (gK PassesOwn.never rfl (iL (by rfl) T.eM (aA (pv 2) aB)) (aP (i:=8) iK.nd rfl (by first|exact .inl rfl|exact .inr rfl))
     (aH (gK PassesOwn.never rfl (kA (by rfl) T.eM (aA (aM cL (pv 8) aG) (aA (pv 2) aB))) (aP (i:=9) iK.nd rfl (by first|exact .inl rfl|exact .inr rfl))
      (aH (bK (aS bU (aM gA (aM lY (aM fY (pv 4) aG) (aM cL (pv 8) (aM fY (aM hV (pv 9) (aM fP (pv 9) aG)) aG))) aG) aG (aV _)) (aD (bF (i:=10) iK.nd rfl (by first|exact .inl rfl|exact .inr rfl) (bD D_law_number hr (by decide) (by rfl) (aA (bD D_law_cell hr (by decide) (by rfl) (aA (pv 0) (aA (aM cL (aM cL (aM cL (pv 1) aG) (pv 5)) (aO aZ (by rfl) T.cN cC (aA (pv 7) aB))) aB))) (aA (pv 3) aB))))
       (aH (bN (dP qCz qDg qDf eD (pv 7) (aA (fQ (aA (pv 8) (aA (pv 9) (aA (pv 10) aB)))) aB))))) aX)))))) aX)
   (aD (bK (aS bU (aM c9 (pv 4) aG) aG (aV _)) (aH (lW (aO (w8 rfl) (by rfl) T.sL ES (aA aG (aA (aO l8 (by rfl) T.mT uD (aA (a9 bJ (pv 6) aG (fun _ _=>rfl)) aB)) aB))) (tQ (pv 6) aG set_list))) aX)
   (aD (bK (aS bU (aM c9 (pv 4) aG) aG (aV _)) (aD (lM (NB:=["_law_number_here"]) (pick:=[none]) (i:=6) iK.nd rfl (by first|exact .inl rfl|exact .inr rfl) (by rfl) (bR (by with_unfolding_all rfl) (by exact trivial) rfl (by decide +kernel) (by decide +kernel) (by rfl) (by rfl)) rfl
     (bL (pv 6)) (fun _ _ _=>aP (i:=0) (show(["_law_number_here"]:List Str).Nodup from by decide +kernel) rfl cK)
     (fun _ _ _=>bS) (fun _ _ _=>(aO l8 (by rfl) T.mT uD (aA (pv 0) aB))))
    (aH (lM (NB:=["_law_one","_law_other","_law_number_here"]) (pick:=[none,none,none]) (i:=7) iK.nd rfl (by first|exact .inl rfl|exact .inr rfl) (by rfl) (bR (by with_unfolding_all rfl) (by exact trivial) rfl (by decide +kernel) (by decide +kernel) (by rfl) (by rfl)) rfl
     (bL (pv 7)) (fun _ _ _=>(show PG _ _ (pS K 3 (dO (bE 0) (dO (bE 1) (dO (bE 2) pR)))) from fB rfl (bB (aP (i:=0) (show(["_law_one","_law_other","_law_number_here"]:List Str).Nodup from by decide +kernel) rfl cK) (bB (aP (i:=1) (show(["_law_one","_law_other","_law_number_here"]:List Str).Nodup from by decide +kernel) rfl cK) (bB (aP (i:=2) (show(["_law_one","_law_other","_law_number_here"]:List Str).Nodup from by decide +kernel) rfl cK) dZ)))))
     (fun _ _ _=>bS) (fun _ _ _=>(fQ (aA (pv 0) (aA (pv 1) (aA (aO l8 (by rfl) T.mT uD (aA (pv 2) aB)) aB)))))))) aX)
   (aD (bF (i:=11) iK.nd rfl cK (a9 bJ (bZ (aA aU (aA aU (aA aU (aA aU (aA aU (aA aU (aA aU aB)))))))) (aM c9 (pv 4) aG) (fun _ _=>rfl)))
   (aH (aN (fQ (aA (pv 11) (aA (pv 6) (aA (pv 7) (aA (aM hV (aM c9 (aM fY (pv 4) aG) aG) (aM cL aG (aM c9 (aM fY (pv 4) aG) aG))) aB))))))))))))))),?_⟩
  refine⟨_,rfl,_,rfl,a,sc,at_,rfl,ha,hsm,by lia,fun c0 _=>⟨_,_,rfl,rfl,(by show(0:Int)<1000003;decide),_,_,rfl,rfl,.inr ⟨by decide,by decide⟩,_,_,rfl,rfl,(by show(0:Int)<2147483629;decide),?_⟩⟩;obtain⟨c,hc,c0',c1'⟩:∃c:Int,c0%1000003*48271%2147483629=c/\0<=c/\c<2147483629:=⟨_,rfl,qEh _ (by decide),qEc _ (by decide)⟩;show bE 4 (V.int (c0%1000003*48271%2147483629)) _ _ _;rw[hc];obtain⟨kd,ekd,k7,eat,ehd⟩:=zC (c:=c) m6;have sh:(1:Int)*2^(m:Int).toNat=((2^m:Nat):Int):=by rw[qDv,qIk];push_cast;rfl
  have z63:Ir m kd<=63:=by unfold Ir;split <;> lia
  obtain⟨z,hz⟩:∃z,Ir m kd=z:=⟨_,rfl⟩;rw[hz] at eat z63;refine⟨_,rfl,_,rfl,_,_,rfl,rfl,_,rfl,_,rfl,_,_,rfl,rfl,⟨(by show 0<=(m:Int);lia),(by show(m:Int)<=1000000;lia),by decide⟩,_,_,rfl,rfl,by show 7<=qAg;decide,fun lz hlz=>?_⟩;have u1:=aI.aJ (o:=.lst [V.int 0,V.int (m:Int),V.int 0,V.int ((m:Int)+2),V.int 0,V.int (m:Int),V.int (1*2^(m:Int).toNat-1)]) hlz;have hz1:upd H lz (.lst [V.int 0,V.int (m:Int),V.int 0,V.int ((m:Int)+2),V.int 0,V.int (m:Int),V.int (1*2^(m:Int).toNat-1)]) lz=some (.lst [V.int 0,V.int (m:Int),V.int 0,V.int ((m:Int)+2),V.int 0,V.int (m:Int),V.int (1*2^(m:Int).toNat-1)]):=aC;generalize upd H lz (.lst [V.int 0,V.int (m:Int),V.int 0,V.int ((m:Int)+2),V.int 0,V.int (m:Int),V.int (1*2^(m:Int).toNat-1)])=H1 at u1 hz1|-;rw[sh] at hz1;refine⟨_,rfl,_,_,rfl,rfl,(by show(0:Int)<7;decide),lz,_,_,_,rfl,rfl,aY.of hz1,eat,?_⟩;dsimp only[bE];refine⟨_,rfl,(z:Int),rfl,by lia,by lia,?_⟩;refine xQ (n:=z) (fun _ y _=>∃n:Int,y = .int n/\n.natAbs<10^30) (fun i y G G' _ h=>h) (qBb (aQ (by lia))) (fun i H3 kk kk0 s3 hi h1=>?_) fun ln ys H2 hln s2 hy hR hd2=>?_
  ·exact⟨_,rfl,_,rfl,_,_,rfl,rfl,_,rfl,_,_,rfl,rfl,a,sc,at_+1+i,(by show [V.ref a,V.int ((at_:Int)+1+(0+(i:Int)))]=_;rw[qHw];push_cast;rfl),(u1.trans s3).seq ha,hsm,by lia,fun c hcs=>⟨_,rfl,c,b,rfl,hcs,hb,fun n hn=>h1 _ _ (.refl _) ⟨n,rfl,hn⟩⟩⟩
  obtain⟨ns,rfl,nl,nb⟩:=Bz hR;rw[hy] at nl;have u2:=u1.trans s2;have fln:=u1.free hln;clear s2 hz1 u1 hlz hR hy;refine⟨by show 0<=qAg;decide,fun lp hlp=>?_⟩;have u3:=u2.trans (aI.aJ (o:=.lst []) hlp);have hn3:=aI.aJ (o:=.lst []) hlp _ _ hd2;have hp3:upd H2 lp (.lst []) lp=some (.lst ((([]:List Addr)).map V.ref)):=aC;have nnp:ln≠lp:=aT hd2 hlp;have flp:=u2.free hlp;generalize upd H2 lp (.lst [])=H3 at u3 hn3 hp3|-;dsimp only[bE];refine eY (σ':=[some (.ref a),some (.int (at_:Int)),some (.int (m:Int)),some (.int b),some (.int c),some (.int (z:Int)),some (.ref ln),some (.ref lp),none,none,none,none]) rfl ?_;refine rC (fun σ2 H4=>aI H H4/\H4 ln=some (.lst (ns.map V.int))/\∃(bs:List Addr) (ps:List P3) (o8 o9 o10:Option V),H4 lp=some (.lst (bs.map V.ref))/\A2 (dC H4) bs ps/\lK m m (m+1) ps/\(kd≠2->kd≠4->kd≠5->ps=[])/\σ2=[some (.ref a),some (.int (at_:Int)),some (.int (m:Int)),some (.int b),some (.int c),some (.int (z:Int)),some (.ref ln),some (.ref lp),o8,o9,o10,none]) (fun tail=>?_) ?_
  ·refine(fun(key:kd=2\/kd=4\/kd=5->_)=>(⟨_,rfl,_,_,rfl,rfl,(by show(0:Int)<7;decide),rfl,_,rfl,dE (fun h=>cT (key (by have e:=V.int.inj (of_decide_eq_true h);lia))) (fun h2=>⟨_,rfl,_,_,rfl,rfl,(by show(0:Int)<7;decide),rfl,_,rfl,dE (fun h=>cT (key (by have e:=V.int.inj (of_decide_eq_true h);lia))) (fun h4=>⟨_,rfl,_,_,rfl,rfl,(by show(0:Int)<7;decide),rfl,_,rfl,dE (fun h=>key (by have e:=V.int.inj (of_decide_eq_true h);lia)) (fun h5=>tail _ _ ⟨u3,hn3,[],[],_,_,_,hp3,.nil,⟨(fun b hb=>by cases hb),.nil,qBm _⟩,fun _ _ _=>rfl,rfl⟩)⟩)⟩)⟩)) ?_
   ·intro hk;refine⟨_,rfl,(m:Int),rfl,by lia,by lia,?_⟩;refine iQ (n:=m) (fun i σ' H'=>aI H H'/\H' ln=some (.lst (ns.map V.int))/\∃(bs:List Addr) (ps:List P3) (o8 o9 o10:Option V),H' lp=some (.lst (bs.map V.ref))/\A2 (dC H') bs ps/\lK m i (i+1) ps/\σ'=[some (.ref a),some (.int (at_:Int)),some (.int (m:Int)),some (.int b),some (.int c),some (.int (z:Int)),some (.ref ln),some (.ref lp),o8,o9,o10,none]) ⟨u3,hn3,[],[],_,_,_,hp3,.nil,⟨(fun b hb=>by cases hb),.nil,qBm _⟩,rfl⟩ ?_ ?_
    ·rintro i σ' H4 hi ⟨u4,hn4,bs,ps,o8,o9,o10,hp4,a4,q4,rfl⟩;rw[qHw (i:Int)];refine⟨_,rfl,_,_,rfl,rfl,_,rfl,(i:Int)+1,(m:Int),rfl,⟨by lia,by lia,by lia,by lia⟩,?_⟩;refine iQ (lo:=(i:Int)+1) (n:=((m:Int)-((i:Int)+1)).toNat) (fun j σ' H'=>aI H H'/\H' ln=some (.lst (ns.map V.int))/\∃(bs:List Addr) (ps:List P3) (o9 o10:Option V),H' lp=some (.lst (bs.map V.ref))/\A2 (dC H') bs ps/\lK m i (i+1+j) ps/\σ'=[some (.ref a),some (.int (at_:Int)),some (.int (m:Int)),some (.int b),some (.int c),some (.int (z:Int)),some (.ref ln),some (.ref lp),some (.int (i:Int)),o9,o10,none]) ⟨u4,hn4,bs,ps,_,_,hp4,a4,q4,rfl⟩ ?_ ?_
     ·rintro j σ' H5 hj ⟨u5,hn5,bs,ps,o9,o10,hp5,a5,q5,rfl⟩;obtain⟨o,ho,hio,hom,eo⟩:∃o:Nat,(i:Int)+1+(j:Int)=(o:Int)/\i<o/\o<m/\i+1+j=o:=⟨i+1+j,by lia,by lia,by lia,rfl⟩;show bE 9 (V.int ((i:Int)+1+(j:Int))) _ _ _;rw[ho];rw[eo] at q5;have hbl:=q5.2.2;have al:=a5.len;have t1:n8 m m<=15:=wK ⟨m,by lia⟩;have t2:n8 m i<=n8 m m:=Dl ⟨m,by lia⟩ ⟨i,by lia⟩ (by show i<=m;lia);have b1:0<=(o:Int)*((o:Int)-1):=qLt (by lia) (by lia);have b2:0<=(o:Int)*((o:Int)-1)/2:=Int.ediv_nonneg b1 (by decide);refine⟨_,rfl,_,_,rfl,rfl,⟨by decide,by decide⟩,_,rfl,_,rfl,_,rfl,_,_,rfl,rfl,_,_,rfl,rfl,.inl ⟨by lia,by lia⟩,_,_,rfl,rfl,⟨by decide,by decide⟩,_,_,rfl,rfl,_,_,rfl,rfl,(by show 0<=(i:Int)+(o:Int)*((o:Int)-1)/2;lia),_,_,rfl,rfl,rfl,_,rfl,dE (fun _=>?_) (fun _=>⟨u5,hn5,bs,ps,_,_,hp5,a5,(by rw[show i+1+(j+1)=o+1 by lia];exact q5.go),rfl⟩)⟩;refine⟨_,rfl,_,rfl,_,_,rfl,rfl,_,rfl,_,_,rfl,rfl,_,rfl,lp,_,rfl,.inl (aY.of hp5),_,_,rfl,rfl,a,sc,at_+1+z+bs.length,(by show [V.ref a,V.int ((at_:Int)+1+(z:Int)+((bs.map V.ref).length:Int))]=_;rw[qAa];push_cast;rfl),u5.seq ha,hsm,by lia,fun cc hcc=>⟨_,rfl,cc,b,rfl,hcc,hb,fun n hn=>?_⟩⟩;dsimp only[bE];refine⟨_,rfl,.inl ⟨rfl,_,aY.of hp5⟩,_,rfl,_,rfl,_,rfl,Iv,fun p hp=>?_⟩;have v6:=aI.aJ (o:=.tup [V.int (i:Int),V.int (o:Int),V.int n]) hp;have hp6:upd H5 p (.tup [V.int (i:Int),V.int (o:Int),V.int n]) p=some (.tup [V.int (i:Int),V.int (o:Int),V.int n]):=aC;generalize upd H5 p (.tup [V.int (i:Int),V.int (o:Int),V.int n])=H6 at v6 hp6|-;have hl6:=v6 _ _ hp5;refine⟨lp,_,_,rfl,rfl,hl6,by rw[qAa];exact aQ (by lia),?_⟩;have kt:dX H6 (upd H6 lp (.lst (bs.map V.ref++[V.ref p]))):=fun b us e=>by
       rw[aL fun z=>by rw[z,hl6] at e;cases e];exact e
      refine⟨(u5.trans v6).upd_ne' flp,?_,bs++[p],ps++[(i,o,n)],_,_,?_,?_,?_,rfl⟩
      ·rw[aL nnp];exact v6 _ _ hn5
      ·rw[aC,qCc];rfl
      ·exact A2.snoc (a5.imp fun _ _ z=>(z.keep v6.t).keep kt) (dC.keep (p:=(i,o,n)) hp6 kt)
      ·rw[show i+1+(j+1)=o+1 by lia];exact q5.add hn hio hom
     ·rintro σ' H5 ⟨u5,hn5,bs,ps,o9,o10,hp5,a5,q5,rfl⟩;exact⟨u5,hn5,bs,ps,_,_,_,hp5,a5,q5.up (by lia),rfl⟩
    ·rintro σ' H5 ⟨u5,hn5,bs,ps,o8,o9,o10,hp5,a5,q5,rfl⟩;exact tail _ _ ⟨u5,hn5,bs,ps,_,_,_,hp5,a5,q5,(fun n2 n4 n5=>by lia),rfl⟩
  rintro σ2 H4 ⟨u4,hn4,bs,ps,o8,o9,o10,hp4,a4,q4,pe4,rfl⟩;have p15:ps.length<=15:=by
   have hl:=q4.2.2;have t1:n8 m m<=15:=wK ⟨m,by lia⟩;lia
  refine rC (fun σ2 H5=>aI H H5/\∃ns':List Int,H5 ln=some (.lst (ns'.map V.int))/\ns'.length=z/\(∀n∈ns',n.natAbs<10^30)/\(kd=3->1<=ns'.getD 0 0)/\H5 lp=some (.lst (bs.map V.ref))/\A2 (dC H5) bs ps/\σ2=[some (.ref a),some (.int (at_:Int)),some (.int (m:Int)),some (.int b),some (.int c),some (.int (z:Int)),some (.ref ln),some (.ref lp),o8,o9,o10,none]) (fun tail=>?_) ?_
  ·refine⟨_,rfl,_,_,rfl,rfl,(by show(0:Int)<7;decide),rfl,_,rfl,dE (fun h=>?_) (fun h=>tail _ _ ⟨u4,ns,hn4,nl,nb,(fun e=>absurd ?_ h),hp4,a4,rfl⟩)⟩
   ·have e3:c%7=3:=V.int.inj (of_decide_eq_true h);have k3:kd=3:=by lia
    have z3:z=m+2:=by rw[<- hz,k3];rfl
    have h0:0<ns.length:=by lia
    have hat0:fK (ns.map V.int) 0=some (.int (ns.getD 0 0)):=iJ (j:=0) h0;have hix0:xG (ns.map V.int).length 0=some 0:=by
     unfold xG;rw[qAa,if_pos (by decide),if_pos (by lia)];rfl
    have hm0:(ns.getD 0 0)∈ns:=by
     rw[qAs,qAc h0];exact qCh h0
    have hb0:=nb _ hm0;refine⟨_,rfl,ln,_,_,_,rfl,rfl,aY.of hn4,hat0,_,rfl,_,_,rfl,?_⟩;rw[abs_eq];refine⟨_,rfl,ln,_,_,0,rfl,rfl,hn4,hix0,?_⟩;have p30:(1:Nat)<10^30:=by decide
    obtain⟨w,hw,w1,w2⟩:∃w:Int,(if ((ns.getD 0 0).natAbs:Int)>1 then ((ns.getD 0 0).natAbs:Int) else 1)=w/\1<=w/\w.natAbs<10^30:=⟨_,rfl,by split <;> lia,by split;rw[qHj];exact hb0;exact p30⟩;refine tail _ _ ⟨u4.upd_ne' fln,ns.set 0 w,?_,by rw[qLi];exact nl,(fun n hn=>?_),(fun _=>?_),?_,a4.imp fun b q r=>?_,rfl⟩
    ·rw[aC];exact congrArg (fun x=>some (HO.lst x)) (by rw[<- hw,List.map_set])
    ·rcases List.mem_or_eq_of_mem_set hn with y | y
     ·exact nb n y
     ·rw[y];exact w2
    ·rw[qAs,qGj h0];exact w1
    ·rw[aL nnp.symm];exact hp4
    ·have r:H4 b=some _:=r;show upd H4 ln _ b=some _;rw[aL fun y=>by rw[y,hn4] at r;cases r];exact r
   ·show decide (V.int (c%7)=V.int 3)=true;rw[ekd,e];rfl
  rintro σ2 H5 ⟨u5,ns',hn5,nl5,nb5,q15,hp5,a5,rfl⟩;refine rC (fun σ2 H6=>aI H H6/\∃(ln' lp':Addr) (ns2:List Int) (bs2:List Addr) (ps2:List P3),H ln'=none/\H lp'=none/\H6 ln'=some (.lst (ns2.map V.int))/\ns2.length=z/\(∀n∈ns2,n.natAbs<10^30)/\(kd=3->1<=ns2.getD 0 0)/\H6 lp'=some (.lst (bs2.map V.ref))/\A2 (dC H6) bs2 ps2/\jZ ps2/\(∀p∈ps2,p.1<p.2.1/\p.2.1<m/\p.2.2.natAbs<10^30)/\ps2.length<=15/\(kd≠2->kd≠4->kd≠5->ps2=[])/\(kd=5->(∀n∈ns2,0<=n)/\∀p∈ps2,0<=p.2.2)/\σ2=[some (.ref a),some (.int (at_:Int)),some (.int (m:Int)),some (.int b),some (.int c),some (.int (z:Int)),some (.ref ln'),some (.ref lp'),o8,o9,o10,none]) (fun tail=>?_) ?_
  ·refine⟨_,rfl,_,_,rfl,rfl,(by show(0:Int)<7;decide),rfl,_,rfl,dE (fun h=>?_) (fun h=>tail _ _ ⟨u5,ln,lp,ns',bs,ps,fln,flp,hn5,nl5,nb5,q15,hp5,a5,q4.2.1,(fun p hp=>let ⟨z1,z2,z3,_⟩:=q4.1 p hp;⟨z1,z2,z3⟩),p15,pe4,(fun e=>absurd ?_ h),rfl⟩)⟩
   ·have e5:c%7=5:=V.int.inj (of_decide_eq_true h);have k5:kd=5:=by lia
    refine⟨_,rfl,ln,rfl,⟨_,aY.of hn5⟩,?_⟩;refine cF (xs:=ns'.map V.int) (fun _ x=>match x with | .int i=>some (.int (i.natAbs:Int)) | _=>none) (aY.of hn5) (by rw[qAa];exact qBb (aQ (by lia))) (fun i x H7 kk kk0 s7 hx g1 g2=>?_) fun ln' H7 hln' s7 hd=>?_
    ·obtain⟨n,hm,rfl⟩:=List.mem_map.mp (qAu hx);refine⟨_,rfl,n,rfl,?_⟩;rw[abs_eq];exact g1 _ rfl _ (.refl _)
    have hd7:H7 ln'=some (.lst ((ns'.map fun i=>(i.natAbs:Int)).map V.int)):=by
     rw[hd,cJ,qCn,qBt];show some (HO.lst (ns'.filterMap fun i=>some (V.int (i.natAbs:Int))))=_;rw[qBx];rfl
    have u7:=u5.trans s7;have fln7:=u5.free hln';have hp7:=s7 _ _ hp5;have a7:A2 (dC H7) bs ps:=a5.imp fun _ _ z=>z.keep s7.t;clear hd;dsimp only;refine⟨_,rfl,lp,rfl,⟨_,aY.of hp7⟩,?_⟩;refine uK (xs:=bs.map V.ref) (fun σ'=>∃o0 o1 o2:Option V,σ'=[o0,o1,o2]) (fun i y H'=>∃b p,y = .ref b/\(ps.map fun p:P3=>((p.1,p.2.1,(p.2.2.natAbs:Int)):P3))[i]?=some p/\dC H' b p) (fun i y G G' s ⟨b,p,e,e2,r⟩=>⟨b,p,e,e2,r.keep s⟩) ⟨_,_,_,rfl⟩ (aY.of hp7) (by rw[qAa,a7.len];exact qBb (aQ (by lia))) (fun i x σ1 H8 kk kk0 hσ s8 hx g1=>?_) fun lp' ys H8 hlp' s8 hy hR hd8=>?_
    ·obtain⟨o0,o1,o2,rfl⟩:=hσ;rw[qAj] at hx;cases e:bs[i]? with
     | none=>rw[e] at hx;cases hx
     | some bb =>
      rw[e] at hx;cases hx;obtain⟨q,hq,r⟩:=a7.CY i bb e;refine⟨bb,_,rfl,dG.of (s8 _ _ r),rfl,_,_,rfl,_,_,rfl,_,_,rfl,rfl,?_⟩;refine⟨_,rfl,_,rfl,_,rfl,_,rfl,?_⟩;rw[abs_eq];refine⟨Iv,fun p hp=>g1 _ _ _ ⟨_,_,_,rfl⟩ (.aJ hp) ⟨p,(q.1,q.2.1,(q.2.2.natAbs:Int)),rfl,by rw[qAj,hq];rfl,aC⟩⟩
    rw[qAa,a7.len] at hy;obtain⟨bs2,rfl,a8⟩:=A2.Bp (by rw[qAa];exact hy) hR;have u8:=u7.trans s8;refine tail _ _ ⟨u8,ln',lp',_,bs2,_,fln7,u7.free hlp',s8 _ _ hd7,by rw[qAa];exact nl5,(fun n hn=>?_),(fun e=>by lia),hd8,a8,?_,(fun p hp=>?_),by rw[qAa];exact p15,(fun _ _ n5=>absurd k5 n5),(fun _=>⟨fun n hn=>?_,fun p hp=>?_⟩),rfl⟩
    ·obtain⟨n',hm,rfl⟩:=List.mem_map.mp hn;rw[qHj];exact nb5 n' hm
    ·exact List.pairwise_map.mpr (q4.2.1.imp fun {p q} z=>z)
    ·obtain⟨p',hm,rfl⟩:=List.mem_map.mp hp;obtain⟨z1,z2,z3,_⟩:=q4.1 p' hm;exact⟨z1,z2,by show((p'.2.2.natAbs:Int)).natAbs<_;rw[qHj];exact z3⟩
    ·obtain⟨n',hm,rfl⟩:=List.mem_map.mp hn;exact qDr _
    ·obtain⟨p',hm,rfl⟩:=List.mem_map.mp hp;exact qDr _
   ·show decide (V.int (c%7)=V.int 5)=true;rw[ekd,e];rfl
  rintro σ2 H6 ⟨u6,ln',lp',ns2,bs2,ps2,fl',fp',hn6,nl6,nb6,q16,hp6,a6,srt6,pb6,pl6,pe6,n06,rfl⟩;refine⟨by show 7<=qAg;decide,fun lz hlz=>⟨_,rfl,_,_,rfl,rfl,(by show(0:Int)<7;decide),lz,_,_,_,rfl,rfl,aY.of aC,ehd,?_⟩⟩;have u7:=u6.trans (aI.aJ (o:=.lst [V.str ("none":Str),V.str ("own":Str),V.str ("pairs":Str),V.str ("votes":Str),V.str ("match":Str),V.str ("net":Str),V.str ("table":Str)]) hlz);have s67:=aI.aJ (o:=.lst [V.str ("none":Str),V.str ("own":Str),V.str ("pairs":Str),V.str ("votes":Str),V.str ("match":Str),V.str ("net":Str),V.str ("table":Str)]) hlz;generalize upd H6 lz (.lst [V.str ("none":Str),V.str ("own":Str),V.str ("pairs":Str),V.str ("votes":Str),V.str ("match":Str),V.str ("net":Str),V.str ("table":Str)])=H7 at u7 s67|-;dsimp only[bE];obtain⟨wy,hwy,w4⟩:∃wy:Nat,c/7%2*(1+c/14%3)=(wy:Int)/\wy<4:=by
   have y1:=qEh (c/14) (b:=3) (by decide);have y2:=qEc (c/14) (b:=3) (by decide);have:c/7%2=0\/c/7%2=1:=by lia
   rcases this with e | e
   ·exact⟨0,by rw[e,Int.zero_mul];rfl,by decide⟩
   ·exact⟨(1+c/14%3).toNat,by rw[e,qIk];lia,by lia⟩
  refine⟨_,rfl,_,rfl,_,rfl,_,rfl,_,_,rfl,rfl,⟨by decide,by decide⟩,_,_,rfl,rfl,(by show(0:Int)<2;decide),_,rfl,_,_,rfl,rfl,⟨by decide,by decide⟩,_,_,rfl,rfl,(by show(0:Int)<3;decide),_,_,rfl,rfl,_,_,rfl,rfl,.inl ⟨by lia,by lia⟩,by show 4<=qAg;decide,fun p hp=>?_⟩;dsimp only;rw[hwy];have v8:=aI.aJ (o:=.tup [V.str (fX kd),V.ref ln',V.ref lp',V.int (wy:Int)]) hp;refine k p ⟨kd,ns2,ps2,wy⟩ _ (u7.trans v8) fun H'' nk=>?_;have s68:=s67.trans v8;refine⟨ln',lp',bs2,nk _ _ (.inl (u7.free hp)) aC,nk _ _ (.inl fl') (s68 _ _ hn6),nk _ _ (.inl fp') (s68 _ _ hp6),a6.imp fun b q r=>nk _ _ (.inr ⟨_,rfl⟩) (s68 _ _ r),⟨k7,by rw[nl6,<- hz],nb6,srt6,pb6,pl6,pe6,q16,n06⟩,w4⟩
theorem nH(xs:List V)(y:V):fK (xs++[y]) (-1)=some y:=by
 unfold fK xG;rw[qAn,if_neg (by decide),if_pos (by show -(((xs.length+1:Nat)):Int)<=-1;lia)];show(xs++[y])[(-1+((xs.length+1:Nat):Int)).toNat]?=_;rw[show(-1+((xs.length+1:Nat):Int)).toNat=xs.length by lia,qBy (qAi _),qHr];rfl
abbrev BI:=Addr×R4
def bW(rows:List BI):List V:=rows.map fun r=>V.ref r.1
def nI(H:Hp)(m:Nat)(rows:List BI):Prop:=∀r∈rows,k9 H r.1 m r.2
theorem nI.same{H H':Hp}{m:Nat}{rows:List BI}(h:nI H m rows)(s:aI H H'):nI H' m rows:=fun r hr=>(h r hr).same s
def tI(l:Addr)(H:Hp)(p:Addr)(m:Nat)(r:R4):Prop:=∀H'',(∀b o,b≠l->H b=some o->H'' b=some o)->k9 H'' p m r
theorem tI.keep{l:Addr}{H H':Hp}{p:Addr}{m:Nat}{r:R4}(h:tI l H p m r)(s:∀b o,b≠l->H b=some o->H' b=some o):tI l H' p m r:=fun H'' k=>h H'' fun b o n e=>k b o n (s b o n e)
def DY(K:qAb):Sp:=fun vs H Q _=>∃(a:Addr) (ns:List Int) (m:Nat),vs=[.ref a,.int (m:Int)]/\aY K H a (ns.map V.int)/\(∀i∈ns,Sm 1048577 i)/\ns.length<=63/\1<=m/\m<=6/\∀(l:Addr) (rows:List BI) H',H l=none->aI H H'->H' l=some (.lst (bW rows))->rows.length<=12->nI H' m rows->Q (.ref l) H'
theorem tJ:aK ["_law_script","_law_many","_law_bound","_law_some","_law_at"] ["_law_script","_law_many"] (aE FL):=by constructor<;>first|rfl|decide +kernel
theorem Hs{f1:Addr}{fd1:qBd}(t:Tx K mg "_law_rules" FL ["_law_script","_law_many"] f fd)(T:T K mg AL LN RU OW PL PA VO MA NE fE fH rR rO rP rA rV rM rN iR iO iP iA iV iM iN fL wR wO wP wA wV wM wN CO iC cH cE cW SE NG NL NT)(D_law_rule:Df P w K mg base cM 2 "_law_rule" ["_law_script","_law_at","_law_many","_law_bound"] (DX K) f1 fd1):
  Df P w K mg base cM 3 "_law_rules" ["_law_script","_law_many"] (DY K) f fd:=by
 refine t.jA tJ (fun vs H Q E h=>?_) (fun cdv A outer s H vs Q E hr h=>?_)
 ·obtain⟨a,ns,m,rfl,_⟩:=h;rfl
 ·obtain⟨a,ns,m,rfl,ha,hsm,hns,m1,m6,k⟩:=h;refine⟨_,(aD (bF (i:=2) tJ.nd rfl cK (a9 bJ (bZ (aA (aM zK aG aG) (aA (aM zK aG aG) aB))) (cG kC (by rfl) T.jC kE (aA (eJ jM (pv 1) aG (aV _)) aB)) (fun _ _=>rfl)))
   (aD (bF (i:=3) tJ.nd rfl cK (bZ aB))
   (aD (bF (i:=4) tJ.nd rfl cK aG)
   (aD (rW PassesOwn.never (PW.pt (pw_and (aS jM (pv 4) (aO (xA rfl) (by rfl) T.pD Am (aA (aO aZ (by rfl) T.cN cC (aA (pv 0) aB)) (aA aG aB))) (aV _)) (pw_and1 (aS jM (aO aZ (by rfl) T.cN cC (aA (pv 3) aB)) (a9 bJ (bZ (aA aG (aA aG aB))) (cG kC (by rfl) T.jC kE (aA (eJ lZ (pv 1) aG (aV _)) aB)) (fun _ _=>rfl)) (aV _)))))
    (aD (bN (dP qCz qDg qDf eD (pv 3) (aA (bD D_law_rule hr (by decide) (by rfl) (aA (pv 0) (aA (pv 4) (aA (pv 1) (aA (pv 2) aB))))) aB)))
    (aH (bF (i:=4) tJ.nd rfl cK (aM cL (aM cL (aM cL (pv 4) aG) (aO aZ (by rfl) T.cN cC (aA (a9 cB (a9 bJ (pv 3) (gD eV aG) (fun _ _=>rfl)) aG (fun _ _=>rfl)) aB))) (aO aZ (by rfl) T.cN cC (aA (a9 cB (a9 bJ (pv 3) (gD eV aG) (fun _ _=>rfl)) aG (fun _ _=>rfl)) aB)))))))
   (aH (aN (pv 3))))))),?_⟩
  refine⟨_,_,rfl,rfl,⟨by decide,by decide,by decide⟩,_,_,rfl,rfl,⟨by decide,by decide,by decide⟩,zD,fun lb hlb=>?_⟩;have u1:=aI.aJ (o:=.lst [V.int (10^(12:Int).toNat),V.int (10^(30:Int).toNat)]) hlb;have hb1:upd H lb (.lst [V.int (10^(12:Int).toNat),V.int (10^(30:Int).toNat)]) lb=some (.lst [V.int (10^(12:Int).toNat),V.int (10^(30:Int).toNat)]):=aC;generalize upd H lb (.lst [V.int (10^(12:Int).toNat),V.int (10^(30:Int).toNat)])=H1 at u1 hb1|-;obtain⟨b,hb,hbn⟩:∃b:Int,fK [V.int (10^(12:Int).toNat),V.int (10^(30:Int).toNat)] (if decide ((m:Int)<4)=true then (1:Int) else 0)=some (.int b)/\MD b:=by
   cases decide ((m:Int)<4) with
   | true=>exact⟨_,rfl,.inr rfl⟩
   | false=>exact⟨_,rfl,.inl rfl⟩
  refine⟨_,rfl,_,_,rfl,rfl,.inr ⟨_,rfl,lb,_,_,_,rfl,rfl,aY.of hb1,hb,?_⟩⟩;dsimp only[bE];refine⟨by show 0<=qAg;decide,fun ls hls=>?_⟩;have fls:H ls=none:=u1.free hls;have u2:=u1.trans (aI.aJ (o:=.lst []) hls);have h2:upd H1 ls (.lst []) ls=some (.lst (bW [])):=aC;generalize upd H1 ls (.lst [])=H2 at u2 h2|-;dsimp only[bE];refine⟨fun q σ' H'=>∃(rows:List BI) (at_:Nat),q=1000-at_/\at_<=300/\aI H H'/\H' ls=some (.lst (bW rows))/\rows.length<=12/\(∀r∈rows,tI ls H' r.1 m r.2)/\σ'=[some (.ref a),some (.int (m:Int)),some (.int b),some (.ref ls),some (.int (at_:Int))],⟨_,[],1,rfl,by decide,u2,h2,by decide,(fun r hr=>by cases hr),rfl⟩,?_⟩;rintro q σ' H3 ⟨rows,at_,rfl,a300,u3,h3,r12,ra,rfl⟩;have rl:(bW rows).length=rows.length:=by unfold bW;rw[qAa]
  have ha3:=u3.seq ha;have fin:Q (.ref ls) H3:=k ls rows H3 fls u3 h3 r12 fun r hr=>ra r hr H3 fun b o _ e=>e;refine⟨_,rfl,_,rfl,a,_,rfl,.inl ha3,_,_,rfl,_,_,rfl,rfl,_,rfl,dE (fun h4=>?_) (fun h4=>bG ⟨_,rfl,fin⟩)⟩;have hat:(at_:Int)<64:=by
   have z:=of_decide_eq_true h4;rw[qAa] at z;revert z;split <;> intro z <;> lia
  refine⟨_,rfl,ls,_,rfl,.inl (aY.of h3),zD,fun lz hlz=>?_⟩;have v4:=aI.aJ (o:=.lst [V.int 12,V.int 5]) hlz;have hz4:upd H3 lz (.lst [V.int 12,V.int 5]) lz=some (.lst [V.int 12,V.int 5]):=aC;generalize upd H3 lz (.lst [V.int 12,V.int 5])=H4 at v4 hz4|-;obtain⟨w,hw,w12⟩:∃w:Nat,fK [V.int 12,V.int 5] (if decide ((m:Int)>4)=true then (1:Int) else 0)=some (.int (w:Int))/\w<=12:=by
   cases decide ((m:Int)>4) with
   | true=>exact⟨5,rfl,by decide⟩
   | false=>exact⟨12,rfl,by decide⟩
  have u4:=u3.trans v4;have h4':=v4 _ _ h3;have ra4:∀r∈rows,tI ls H4 r.1 m r.2:=fun r hr=>(ra r hr).keep fun b o _ e=>v4 _ _ e;have fin:Q (.ref ls) H4:=k ls rows H4 fls u4 h4' r12 fun r hr=>ra4 r hr H4 fun b o _ e=>e;have ha4:=u4.seq ha;refine⟨_,rfl,_,_,rfl,rfl,.inr ⟨_,rfl,lz,_,_,_,rfl,rfl,aY.of hz4,hw,_,_,rfl,rfl,_,rfl,dE (fun h5=>?_) (fun h5=>⟨_,rfl,fin⟩)⟩⟩;have hlt:rows.length<12:=by
   have z:=of_decide_eq_true h5;rw[rl] at z;lia
  refine⟨fun σ' H'=>∃(rows:List BI) (at':Nat),at_<at'/\at'<=300/\aI H H'/\H' ls=some (.lst (bW rows))/\rows.length<=12/\(∀r∈rows,tI ls H' r.1 m r.2)/\σ'=[some (.ref a),some (.int (m:Int)),some (.int b),some (.ref ls),some (.int (at':Int))],fun σ' H' ⟨rows,at',x1,x2,x3,x4,x5,x6,x7⟩=>⟨1000-at',by lia,rows,at',rfl,x2,x3,x4,x5,x6,x7⟩,?_⟩;refine⟨_,rfl,.inl ⟨rfl,_,aY.of h4'⟩,_,rfl,_,rfl,_,rfl,_,rfl,a,ns,at_,m,b,rfl,hbn,ha4,hsm,by lia,m1,m6,fun p r H5 s5 nk=>?_⟩;have h5':=s5 _ _ h4';refine⟨ls,_,_,rfl,rfl,h5',by rw[rl];exact aQ (by lia),?_⟩;have kp:∀b o,b≠ls->H5 b=some o->upd H5 ls (.lst (bW rows++[V.ref p])) b=some o:=fun b o n e=>by rw[aL n];exact e
  have newX:tI ls H5 p m r:=fun H'' kk=>nk H'' fun b o n e=>kk b o (fun z=>by
   rcases n with n | ⟨us,rfl⟩
   ·rw[z,h4'] at n;cases n
   ·rw[z,h5'] at e;cases e) e
  have rx5:∀r'∈rows++[(p,r)],tI ls (upd H5 ls (.lst (bW rows++[V.ref p]))) r'.1 m r'.2:=fun r' hr=>by
   rcases List.mem_append.mp hr with y | y
   ·exact((ra4 r' y).keep fun b o _ e=>s5 _ _ e).keep kp
   ·rw[qKn] at y;rw[y];exact newX.keep kp
  have h6':upd H5 ls (.lst (bW rows++[V.ref p])) ls=some (.lst (bW (rows++[(p,r)]))):=by
   rw[aC];unfold bW;rw[qCc];rfl
  have u6:=(u4.trans s5).upd_ne' (o:=.lst (bW rows++[V.ref p])) fls;have row6:=rx5 (p,r) (qAp _ qCb) (upd H5 ls (.lst (bW rows++[V.ref p]))) fun b o _ e=>e;have h6'':upd H5 ls (.lst (bW rows++[V.ref p])) ls=some (.lst (bW rows++[V.ref p])):=aC;generalize upd H5 ls (.lst (bW rows++[V.ref p]))=H6 at rx5 h6' h6'' u6 row6|-;obtain⟨ln,lp,bs,q1,q2,q3,q4,q5,q6⟩:=row6;have a1:fK [V.str (fX r.k),V.ref ln,V.ref lp,V.int (r.way:Int)] 1=some (.ref ln):=rfl;have a2:fK [V.str (fX r.k),V.ref ln,V.ref lp,V.int (r.way:Int)] 2=some (.ref lp):=rfl;have n63:=q5.vB m6;have p15:=q5.pl;have bl:=q4.len;refine⟨_,rfl,_,_,rfl,rfl,_,rfl,_,rfl,ls,_,_,_,rfl,rfl,aY.of h6'',nH _ _,p,_,_,_,rfl,rfl,dG.of q1,a1,ln,_,rfl,.inl (aY.of q2),_,_,rfl,rfl,?_⟩;refine⟨_,rfl,_,rfl,ls,_,_,_,rfl,rfl,aY.of h6'',nH _ _,p,_,_,_,rfl,rfl,dG.of q1,a2,lp,_,rfl,.inl (aY.of q3),_,_,rfl,rfl,?_⟩;have n63':r.ns.length<=63:=n63;have p15':r.ps.length<=15:=p15;have bl':bs.length=r.ps.length:=bl;refine⟨rows++[(p,r)],at_+1+r.ns.length+bs.length,by lia,by lia,u6,h6',by rw[qAn];show _+1<=_;lia,rx5,?_⟩;show [some (V.ref a),some (V.int (m:Int)),some (V.int b),some (V.ref ls),some (V.int ((at_:Int)+1+((r.ns.map V.int).length:Int)+((bs.map V.ref).length:Int)))]=_;rw[qAa,qAa];push_cast;rfl
theorem BA(xs:List V):(qAq xs.length).filterMap (fun k=>xs[xs.length-1-k]?)=xs.reverse:=by
 refine List.ext_getElem? fun i=>?_;have e:(qAq xs.length).filterMap (fun k=>xs[xs.length-1-k]?)=(qAq xs.length).map (fun k=>xs.reverse[k]?.getD V.non):=by
  rw[<- qEa];refine dD fun k hk=>?_;have hk:=List.mem_range.mp hk;show _=some (xs.reverse[k]?.getD V.non);rw[List.getElem?_reverse hk];have h2:xs.length-1-k<xs.length:=by lia
  rw[qAc h2];rfl
 rw[e,qAj];rcases qBh i xs.length with h | h
 ·rw[qKc h];have h2:i<xs.reverse.length:=by rw[qHa];exact h
  show some (xs.reverse[i]?.getD V.non)=_;rw[qAc h2];rfl
 ·rw[qDi (by rw[qCt];exact h),qDi (by rw[qHa];exact h)];rfl
theorem Dm:∀n:_root_.Fin 16,sliceRange (qDm none none (some (-1)) n.1).1 (qDm none none (some (-1)) n.1).2.1 (qDm none none (some (-1)) n.1).2.2=(qAq n.1).map fun k=>n.1-1-k:=by decide +kernel
theorem tK{xs:List V}(h:xs.length<=15):sE xs (-1)=xs.reverse:=by
 unfold sE;have e:=Dm ⟨xs.length,by lia⟩;dsimp only at e;rw[e,qCn];exact BA xs
theorem A2.rev{α:Type}{R:Addr->α->Prop}{as:List Addr}{xs:List α}(h:A2 R as xs):A2 R as.reverse xs.reverse:=by
 induction h with
 | nil=>exact .nil
 | cons r _ ih=>rw[qKu,qKu];exact A2.snoc ih r
theorem A2.take{α:Type}{R:Addr->α->Prop}:∀{as:List Addr}{xs:List α} (n:Nat),A2 R as xs->A2 R (as.take n) (xs.take n)
 | _,_,0,_=>by rw[qLl,qLl];exact .nil
 | _,_,n+1,.nil=>.nil
 | _,_,n+1,.cons r t=>.cons r (t.take n)
def BB:Sp:=fun vs H Q _=>∃(lp:Addr) (wy:Nat) (bs:List Addr) (ps:List P3),vs=[.ref lp,.int (wy:Int)]/\wy<4/\H lp=some (.lst (bs.map V.ref))/\A2 (dC H) bs ps/\ps.length<=15/\∀(l:Addr) (bs':List Addr) (qs:List P3) H',H l=none->aI H H'->H' l=some (.lst (bs'.map V.ref))->A2 (dC H') bs' qs->qs.Perm ps->Q (.ref l) H'
theorem KI:aK ["_law_pairs","_law_way"] ["_law_pairs","_law_way"] (aE FN):=by constructor<;>first|rfl|decide +kernel
theorem Ht(t:Tx K mg "_law_turned" FN ["_law_pairs","_law_way"] f fd)(T:T K mg AL LN RU OW PL PA VO MA NE fE fH rR rO rP rA rV rM rN iR iO iP iA iV iM iN fL wR wO wP wA wV wM wN CO iC cH cE cW SE NG NL NT):Df P w K mg base cM 1 "_law_turned" ["_law_pairs","_law_way"] BB f fd:=by
 refine t.jA KI (fun vs H Q E h=>?_) (fun cdv A outer s H vs Q E hr h=>?_)
 ·obtain⟨lp,wy,bs,ps,rfl,_⟩:=h;rfl
 ·obtain⟨lp,wy,bs,ps,rfl,w4,hp,a2,p15,k⟩:=h;have al:=a2.len;refine⟨_,(aD (bK (aS bU (pv 1) aG (aV _)) (aH (aN (xR (pv 0) (dA (gD eV aG))))) aX)
   (aD (bK (aS lZ (pv 1) aG (aV _)) (aH (aN (aM cO (cX eZ (pv 0) (dA (aM fY (aO aZ (by rfl) T.cN cC (aA (pv 0) aB)) (pv 1))) c8) (cX eZ (pv 0) c8 (dA (aM fY (aO aZ (by rfl) T.cN cC (aA (pv 0) aB)) (pv 1))))))) aX)
   (aH (aN (cG dB (by rfl) T.fF fZ (aA (pv 0) aB)))))),?_⟩
  refine⟨_,rfl,rfl,_,rfl,dE (fun h=>?_) (fun h1=>?_)⟩
  ·refine⟨_,rfl,_,rfl,_,rfl,lp,_,-1,rfl,rfl,by decide,aY.of hp,?_,fun l hl=>?_⟩
   ·rw[tK (by rw[qAa];lia),qHa,qAa];exact qBb (aQ (by lia))
   rw[tK (by rw[qAa];lia),<- List.map_reverse];have u:=aI.aJ (o:=.lst (bs.reverse.map V.ref)) hl;exact k l bs.reverse ps.reverse _ hl u aC (a2.rev.imp fun _ _ z=>z.keep u.t) (List.reverse_perm _)
  dsimp only[bH];refine⟨_,rfl,_,_,rfl,rfl,_,rfl,dE (fun h=>?_) (fun h2=>?_)⟩
  ·have w2:(1:Int)<(wy:Int):=of_decide_eq_true h;have eN:((bs.map V.ref).length:Int)/(wy:Int)=((bs.length/wy:Nat):Int):=by rw[qAa];push_cast;rfl
   refine⟨_,rfl,_,rfl,lp,_,rfl,.inl (aY.of hp),_,rfl,_,_,rfl,rfl,⟨by lia,by lia⟩,_,rfl,lp,_,rfl,aY.of hp,fun l1 hl1=>?_⟩;dsimp only;rw[eN,iD,<- qGc];have u1:=aI.aJ (o:=.lst ((bs.drop (bs.length/wy)).map V.ref)) hl1;have h1:upd H l1 (.lst ((bs.drop (bs.length/wy)).map V.ref)) l1=some (.lst ((bs.drop (bs.length/wy)).map V.ref)):=aC;generalize upd H l1 (.lst ((bs.drop (bs.length/wy)).map V.ref))=H1 at u1 h1|-;refine⟨_,rfl,_,rfl,lp,_,rfl,.inl (aY.of (u1 _ _ hp)),_,rfl,_,_,rfl,rfl,⟨by lia,by lia⟩,_,rfl,lp,_,rfl,aY.of (u1 _ _ hp),fun l2 hl2=>?_⟩;dsimp only;rw[eN,uS,<- qIz];have u2:=aI.aJ (o:=.lst ((bs.take (bs.length/wy)).map V.ref)) hl2;refine⟨l1,l2,_,_,rfl,rfl,aY.of (u2 _ _ h1),aY.of aC,?_,fun l hl=>?_⟩
   ·rw[qAa,qAa,qDc,qFa];exact qBb (aQ (by lia))
   rw[<- qCc];have u3:=u1.trans (u2.trans (aI.aJ (o:=.lst ((bs.drop (bs.length/wy)++bs.take (bs.length/wy)).map V.ref)) hl));refine k l _ (ps.drop (bs.length/wy)++ps.take (bs.length/wy)) _ ((u1.trans u2).free hl) u3 aC ((a2.drop _).app (a2.take _) |>.imp fun _ _ z=>z.keep u3.t) ?_
   exact(List.perm_append_comm).trans (by rw[List.take_append_drop])
  ·refine⟨_,rfl,lp,_,rfl,.inl (aY.of hp),fun l hl=>?_⟩;have u:=aI.aJ (o:=.lst (bs.map V.ref)) hl;exact k l bs ps _ hl u aC (a2.imp fun _ _ z=>z.keep u.t) (.refl _)
def DZ:Sp:=fun vs H Q _=>∃(ln lp:Addr) (bs:List Addr) (m:Nat) (r:R4) (qs:List P3),vs=[.str (fX r.k),.ref ln,.ref lp]/\GoodR m r/\m<=6/\H ln=some (.lst (r.ns.map V.int))/\H lp=some (.lst (bs.map V.ref))/\A2 (dC H) bs qs/\qs.Perm r.ps/\∀H',aI H H'->Q (.str (g6 r qs)) H'
theorem KJ:aK ["_law_head","_law_numbers","_law_pairs"] ["_law_head","_law_numbers","_law_pairs"] (aE FO):=by constructor<;>first|rfl|decide +kernel
theorem Hu(t:Tx K mg "_law_part" FO ["_law_head","_law_numbers","_law_pairs"] f fd)(T:T K mg AL LN RU OW PL PA VO MA NE fE fH rR rO rP rA rV rM rN iR iO iP iA iV iM iN fL wR wO wP wA wV wM wN CO iC cH cE cW SE NG NL NT):Df P w K mg base cM 1 "_law_part" ["_law_head","_law_numbers","_law_pairs"] DZ f fd:=by
 refine t.jA KJ (fun vs H Q E h=>?_) (fun cdv A outer s H vs Q E hr h=>?_)
 ·obtain⟨ln,lp,bs,m,r,qs,rfl,_⟩:=h;rfl
 ·obtain⟨ln,lp,bs,m,r,qs,rfl,g,m6,hn,hp,a2,pm,k⟩:=h;refine⟨_,(aH (aN (dP qBp qCm qCl dY aU (aA (aM cO (aM cO (bZ (aA (pv 0) aB)) (bM (NB:=["_law_number_here"]) (pick:=[none]) (bR (by with_unfolding_all rfl) (by exact trivial) rfl (by decide +kernel) (by decide +kernel) (by rfl) (by rfl)) rfl
     (bL (pv 1)) (fun _ _ _=>aP (i:=0) (show(["_law_number_here"]:List Str).Nodup from by decide +kernel) rfl cK)
     (fun _ _ _=>bS) (fun _ _ _=>(cG gL (by rfl) T.kY qG (aA (pv 0) aB))))) (bM (NB:=["_law_a","_law_b","_law_c"]) (pick:=[none,none,none]) (bR (by with_unfolding_all rfl) (by exact trivial) rfl (by decide +kernel) (by decide +kernel) (by rfl) (by rfl)) rfl
     (bL (pv 2)) (fun _ _ _=>(show PG _ _ (pS K 3 (dO (bE 0) (dO (bE 1) (dO (bE 2) pR)))) from fB rfl (bB (aP (i:=0) (show(["_law_a","_law_b","_law_c"]:List Str).Nodup from by decide +kernel) rfl cK) (bB (aP (i:=1) (show(["_law_a","_law_b","_law_c"]:List Str).Nodup from by decide +kernel) rfl cK) (bB (aP (i:=2) (show(["_law_a","_law_b","_law_c"]:List Str).Nodup from by decide +kernel) rfl cK) dZ)))))
     (fun _ _ _=>bS) (fun _ _ _=>(oW (cP (jB (pv 0)) (cP aU (cP (jB (pv 1)) (cP aU (cP (jB (pv 2)) kI))))))))) aB)))),?_⟩
  have n63:=g.vB m6;have p15:=g.pl;have ql:=pm.length_eq;have q6:∀q∈qs,q.1<6/\q.2.1<6/\q.2.2.natAbs<10^60:=fun q hq=>g.KD m6 q (pm.mem_iff.mp hq);refine⟨rfl,_,rfl,nK,fun l0 hl0=>?_⟩;have u0:=aI.aJ (o:=.lst [V.str (fX r.k)]) hl0;have h0:upd H l0 (.lst [V.str (fX r.k)]) l0=some (.lst [V.str (fX r.k)]):=aC;generalize upd H l0 (.lst [V.str (fX r.k)])=H0 at u0 h0|-;refine⟨_,rfl,ln,rfl,⟨_,aY.of (u0 _ _ hn)⟩,?_⟩;refine cF (xs:=r.ns.map V.int) (fun _ x=>match x with | .int i=>some (.str (nW i)) | _=>none) (aY.of (u0 _ _ hn)) (by rw[qAa];exact qBb (aQ (by lia))) (fun i x H2 kk kk0 s2 hx g1 g2=>?_) fun D H2 hD s2 hd=>?_
  ·obtain⟨n,hm,rfl⟩:=List.mem_map.mp (qAu hx);exact⟨_,rfl,n,rfl,eX (g.wH n hm),g1 _ rfl _ (.refl _)⟩
  have hd2:H2 D=some (.lst ((r.ns.map nW).map V.str)):=by
   rw[hd,cJ,qCn,qBt];show some (HO.lst (r.ns.filterMap fun i=>some (V.str (nW i))))=_;rw[qBx];rfl
  clear hd
  refine⟨l0,D,_,_,rfl,rfl,aY.of (s2 _ _ h0),aY.of hd2,(by rw[qAa,qAa];exact dJ (by show 1<=8;decide) (by lia)),fun l3 hl3=>?_⟩;have u3:=(u0.trans s2).trans (aI.aJ (o:=.lst ([V.str (fX r.k)]++(r.ns.map nW).map V.str)) hl3);have h3:upd H2 l3 (.lst ([V.str (fX r.k)]++(r.ns.map nW).map V.str)) l3=some (.lst ([V.str (fX r.k)]++(r.ns.map nW).map V.str)):=aC;generalize upd H2 l3 (.lst ([V.str (fX r.k)]++(r.ns.map nW).map V.str))=H3 at u3 h3|-;have hp3:=u3 _ _ hp;have a3:A2 (dC H3) bs qs:=a2.imp fun _ _ z=>z.keep u3.t;refine⟨_,rfl,lp,rfl,⟨_,aY.of hp3⟩,?_⟩;refine iU (xs:=bs.map V.ref) (fun σ'=>∃o0 o1 o2:Option V,σ'=[o0,o1,o2]) (fun i _=>(qs[i]?).map fun q=>V.str (pW q)) ⟨_,_,_,rfl⟩ (aY.of hp3) (by rw[qAa,a3.len];exact qBb (aQ (by lia))) (fun i x σ1 H4 kk kk0 hσ s4 hx g1 g2=>?_) fun D4 H4 hD4 s4 hd=>?_
  ·obtain⟨o0,o1,o2,rfl⟩:=hσ;rw[qAj] at hx;cases e:bs[i]? with
   | none=>rw[e] at hx;cases hx
   | some b =>
    rw[e] at hx;cases hx;obtain⟨q,hq,r'⟩:=a3.CY i b e;obtain⟨q1,q2,q3⟩:=q6 q (qAu hq);have l1:=dW (i:=(q.1:Int)) (qAo (show _<6 from q1) (by decide +kernel));have l2:=dW (i:=(q.2.1:Int)) (qAo (show _<6 from q2) (by decide +kernel));have l3:=dW q3;have pl:=rB q1 q2 q3;have e0:Str.empty.length=0:=rfl;have e1:("-":Str).length=1:=rfl;have e2:(":":Str).length=1:=rfl;have sl:1000<=qAg:=by decide
    refine⟨b,_,rfl,dG.of (s4 _ _ r'),rfl,_,_,rfl,_,_,rfl,_,_,rfl,rfl,?_⟩;have z1:=eX (n:=(q.1:Int)) (qAo (show _<6 from q1) (by decide +kernel));have z2:=eX (n:=(q.2.1:Int)) (qAo (show _<6 from q2) (by decide +kernel));refine⟨_,rfl,(q.1:Int),rfl,z1,nW q.1,rfl,(by rw[Str.length_append];lia),_,rfl,(by rw[Str.length_append,Str.length_append];lia),_,rfl,(q.2.1:Int),rfl,z2,nW q.2.1,rfl,(by rw[Str.length_append,Str.length_append,Str.length_append];lia),_,rfl,(by rw[Str.length_append,Str.length_append,Str.length_append,Str.length_append];lia),_,rfl,q.2.2,rfl,eX q3,nW q.2.2,rfl,?_,?_,g1 _ _ ⟨_,_,_,rfl⟩ (by show(qs[i]?).map _=_;rw[hq];rfl) _ (.refl _)⟩
    ·show(pW q).length<=_;lia
    ·show(pW q).length<=_;lia
  have hd4:H4 D4=some (.lst ((qs.map pW).map V.str)):=by
   rw[hd];have e:(qAq (bs.map V.ref).length).filterMap (fun i=>((bs.map V.ref)[i]?).bind fun _=>(qs[i]?).map fun q=>V.str (pW q))=(qAq qs.length).filterMap fun i=>(qs[i]?).bind fun q=>some (V.str (pW q)):=by
    rw[qAa,a3.len];refine dD fun i hi=>?_;have hi':i<bs.length:=by rw[a3.len];exact List.mem_range.mp hi
    rw[qAj,qAc hi'];cases qs[i]? <;> rfl
   rw[e,cJ,qBx,qBt];rfl
  refine⟨l3,D4,_,_,rfl,rfl,aY.of (s4 _ _ h3),aY.of hd4,(by rw[qAn,qAa,qAa,qAa,qAa];exact pK (by lia) (by lia)),fun p hp=>?_⟩;refine⟨_,p,fX r.k::(r.ns.map nW++qs.map pW),rfl,rfl,aY.of (by rw[aC,qBi,qCc];rfl),gQ (qAt (lT g.k7).2.2 (by decide)) (by rw[qAn,qAa,qAa];lia) (fun s hs=>?_),k _ (u3.trans (s4.trans (.aJ hp)))⟩;rcases List.mem_append.mp hs with h | h
  ·exact nA g.wH s h
  ·exact nB q6 s h
theorem Hv(g i:Nat):qBw ((g:Int)/2^i) 1=((g/2^i%2:Nat):Int):=by
 have e:(g:Int)/2^i=((g/2^i:Nat):Int):=by push_cast;rfl
 rw[e];show((g/2^i &&& 1:Nat):Int)=_;rw[Nat.and_one_is_mod]
def Dn(ns:List Int)(g n:Nat):List Int:=((qAq n).filter fun i=>decide (g/2^i%2=1)).map fun i=>ns.getD i 0
theorem rE(ns:List Int)(g:Nat):∀n,(Dn ns g n).sum=jG ns g n
 | 0=>rfl
 | n+1=>by
  have ih:=rE ns g n;unfold Dn at ih|-;rw[qCx,List.filter_append,qCc,qLg,ih];show jG ns g n+_=if g/2^n%2=1 then jG ns g n+ns.getD n 0 else jG ns g n;by_cases h:g/2^n%2=1
  ·rw[if_pos h,qEr (by simpa using h)];simp
  ·rw[if_neg h,qEs (by simpa using h)];simp
theorem BC(ns:List Int)(g:Nat):((qAq (ns.map V.int).length).filterMap fun i=>((ns.map V.int)[i]?).bind fun x=>if g/2^i%2=1 then some x else none)=(Dn ns g ns.length).map V.int:=by
 unfold Dn;rw[qAa];have key:∀l:List Nat,(∀i∈l,i<ns.length)->(l.filterMap fun i=>((ns.map V.int)[i]?).bind fun x=>if g/2^i%2=1 then some x else none)=((l.filter fun i=>decide (g/2^i%2=1)).map fun i=>ns.getD i 0).map V.int:=by
  intro l hl;induction l with
  | nil=>rfl
  | cons a r ih =>
   have ha:=hl a qCb;rw[qCj,List.filter_cons,qAj,qAc ha];have e0:ns.getD a 0=ns[a]:=by rw[qAs,qAc ha];rfl
   have ih:=ih fun i hi=>hl i (qBf _ hi);by_cases h:g/2^a%2=1
   ·rw[if_pos (decide_eq_true h),qBi,qBi,e0,<- ih];rw[show((qMa V.int (some ns[a])).bind fun x=>if g/2^a%2=1 then some x else none)=some (V.int ns[a]) from if_pos h]
   ·rw[if_neg (by simpa using h),<- ih];rw[show((qMa V.int (some ns[a])).bind fun x=>if g/2^a%2=1 then some x else none)=none from if_neg h]
 exact key _ fun i hi=>List.mem_range.mp hi
theorem BD:∀(g:_root_.Fin 64) (u v:_root_.Fin 6),(g.1/2^u.1 &&& g.1/2^v.1) &&& 1=if both g.1 u.1 v.1=true then 1 else 0:=by decide +kernel
def Ea(K:qAb):Sp:=fun vs H Q _=>∃(p:Addr) (m g:Nat) (r:R4),vs=[.ref p,.int (g:Int)]/\k9 H p m r/\r.k≠4/\r.k≠5/\1<=m/\m<=6/\g<2^m/\∀H',aI H H'->Q (.int (eR r g)) H'
theorem pN:aK ["_law_row","_law_group","_law_head","_law_numbers","_law_pairs","_law_way","_law_weight"] ["_law_row","_law_group"] (aE FP):=by constructor<;>first|rfl|decide +kernel
theorem Hw(t:Tx K mg "_law_earned" FP ["_law_row","_law_group"] f fd)(T:T K mg AL LN RU OW PL PA VO MA NE fE fH rR rO rP rA rV rM rN iR iO iP iA iV iM iN fL wR wO wP wA wV wM wN CO iC cH cE cW SE NG NL NT):Df P w K mg base cM 1 "_law_earned" ["_law_row","_law_group"] (Ea K) f fd:=by
 refine t.jA pN (fun vs H Q E h=>?_) (fun cdv A outer s H vs Q E hr h=>?_)
 ·obtain⟨p,m,g,r,rfl,_⟩:=h;rfl
 ·obtain⟨p,m,g,r,rfl,⟨ln,lp,bs,q1,q2,q3,a2,gr,w4⟩,n4,n5,m1,m6,hg,k⟩:=h;have h64:2^m<=64:=qBr (n:=2) (by decide) m6;refine⟨_,(aD (lW (pv 0) (fB rfl (bB (aP (i:=2) pN.nd rfl cK) (bB (aP (i:=3) pN.nd rfl (by first|exact .inl rfl|exact .inr rfl)) (bB (aP (i:=4) pN.nd rfl (by first|exact .inl rfl|exact .inr rfl)) (bB (aP (i:=5) pN.nd rfl cK) dZ))))))
   (aD (bK (aS bU (pv 2) aU (aV _)) (aH (aN (aO (eL rfl) (by rfl) T.gG gP (aA (bM (NB:=["_law_k","_law_number_here","_law_group"]) (pick:=[none,none,some 1]) (bR (by with_unfolding_all rfl) (by exact(And.intro rfl trivial)) rfl (by decide +kernel) (by decide +kernel) (by rfl) (by rfl)) rfl
     (qH (by rfl) T.iF (aA (pv 3) aB)) (fun _ _ _=>(show PG _ _ (pS K 2 (dO (bE 0) (dO (bE 1) pR))) from fB rfl (bB (aP (i:=0) (show(["_law_k","_law_number_here","_law_group"]:List Str).Nodup from by decide +kernel) rfl cK) (bB (aP (i:=1) (show(["_law_k","_law_number_here","_law_group"]:List Str).Nodup from by decide +kernel) rfl cK) dZ))))
     (fun _ _ _=>gN (aS bU (aM gA (aM lY (pv 2) (pv 0)) aG) aG (aV _))) (fun _ _ _=>(pv 1))) aB)))) aX)
   (aD (bK (aS bU (pv 2) aU (aV _)) (aH (aN (aO (eL rfl) (by rfl) T.gG gP (aA (bM (NB:=["_law_one","_law_other","_law_number_here","_law_group"]) (pick:=[none,none,none,some 1]) (bR (by with_unfolding_all rfl) (by exact(And.intro rfl trivial)) rfl (by decide +kernel) (by decide +kernel) (by rfl) (by rfl)) rfl
     (bL (pv 4)) (fun _ _ _=>(show PG _ _ (pS K 3 (dO (bE 0) (dO (bE 1) (dO (bE 2) pR)))) from fB rfl (bB (aP (i:=0) (show(["_law_one","_law_other","_law_number_here","_law_group"]:List Str).Nodup from by decide +kernel) rfl cK) (bB (aP (i:=1) (show(["_law_one","_law_other","_law_number_here","_law_group"]:List Str).Nodup from by decide +kernel) rfl cK) (bB (aP (i:=2) (show(["_law_one","_law_other","_law_number_here","_law_group"]:List Str).Nodup from by decide +kernel) rfl cK) dZ)))))
     (fun _ _ _=>gN (aS bU (aM gA (aM gA (aM lY (pv 3) (pv 0)) (aM lY (pv 3) (pv 1))) aG) aG (aV _))) (fun _ _ _=>(pv 2))) aB)))) aX)
   (aD (bK (aS bU (pv 2) aU (aV _)) (aD (bF (i:=6) pN.nd rfl cK (aO (eL rfl) (by rfl) T.gG gP (aA (bM (NB:=["_law_k","_law_number_here","_law_group"]) (pick:=[none,none,some 1]) (bR (by with_unfolding_all rfl) (by exact(And.intro rfl trivial)) rfl (by decide +kernel) (by decide +kernel) (by rfl) (by rfl)) rfl
     (qH (by rfl) T.iF (aA (cX eZ (pv 3) (dA aG) c8) aB)) (fun _ _ _=>(show PG _ _ (pS K 2 (dO (bE 0) (dO (bE 1) pR))) from fB rfl (bB (aP (i:=0) (show(["_law_k","_law_number_here","_law_group"]:List Str).Nodup from by decide +kernel) rfl cK) (bB (aP (i:=1) (show(["_law_k","_law_number_here","_law_group"]:List Str).Nodup from by decide +kernel) rfl cK) dZ))))
     (fun _ _ _=>gN (aS bU (aM gA (aM lY (pv 2) (pv 0)) aG) aG (aV _))) (fun _ _ _=>(pv 1))) aB)))
    (aH (aN (a9 bJ (bZ (aA aG (aA (a9 bJ (pv 3) aG (fun _ _=>rfl)) aB))) (cG kC (by rfl) T.jC kE (aA (eJ zM (pv 6) (a9 bJ (pv 3) aG (fun _ _=>rfl)) (aV _)) aB)) (fun _ _=>rfl))))) aX)
   (aD (bK (PW.pt (pw_and (aS bU (pv 2) aU (aV _)) (pw_and1 (aS lZ (pv 1) aG (aV _))))) (aH (aN (a9 bJ (pv 3) (aM fP (pv 1) aG) (fun _ _=>rfl)))) aX)
   (aH (aN aG))))))),?_⟩
  refine⟨_,rfl,p,_,rfl,dG.of q1,rfl,_,_,rfl,_,_,rfl,_,_,rfl,_,_,rfl,rfl,?_⟩;have bit:∀i:Nat,qBw ((g:Int)/2^(i:Int).toNat) 1=((g/2^i%2:Nat):Int):=fun i=>by rw[qDv,Hv]
  have n63:=gr.vB m6;have p15:=gr.pl;have bl:=a2.len;have k7:=gr.k7;have sz:=gr.sz;refine eY (σ':=[some (.ref p),some (.int (g:Int)),some (.str (fX r.k)),some (.ref ln),some (.ref lp),some (.int (r.way:Int)),none]) rfl ?_;have hk:r.k=0\/r.k=1\/r.k=2\/r.k=3\/r.k=6:=by lia
  rcases hk with hk | hk | hk | hk | hk
  ·rw[hk];have z:eR r g=0:=by unfold eR;rw[hk];rfl
   rw[z] at k;refine⟨_,rfl,rfl,_,rfl,bG ?_⟩;dsimp only[bH];refine⟨_,rfl,rfl,_,rfl,bG ?_⟩;dsimp only[bH];refine⟨_,rfl,rfl,_,rfl,bG ?_⟩;dsimp only[bH];refine⟨_,rfl,rfl,_,rfl,bG ?_⟩;dsimp only[bH];exact k H (.refl _)
  ·rw[hk];have he:eR r g=lJ r.ns g:=by unfold eR;rw[hk];rfl
   refine⟨_,rfl,rfl,_,rfl,cT ?_⟩;refine⟨_,rfl,ln,rfl,⟨_,aY.of q2⟩,?_⟩;refine mG (xs:=r.ns.map V.int) (fun σ'=>∃o0 o1:Option V,σ'=[o0,o1,some (.int (g:Int))]) (fun i x=>if g/2^i%2=1 then some x else none) ⟨_,_,rfl⟩ (aY.of q2) (by rw[qAa];exact qBb (aQ (by lia))) (fun i x t σ1 H3 kk kk0 hσ s3 hx ht g1 g2=>?_) fun D H3 hD s3 hd=>?_
   ·obtain⟨o0,o1,rfl⟩:=hσ;refine⟨t,_,rfl,dG.of ht,rfl,_,_,rfl,_,_,rfl,rfl,?_⟩;refine⟨_,rfl,_,rfl,_,_,rfl,rfl,(by show 0<=(i:Int);lia),_,_,rfl,rfl,rfl,_,rfl,dE (fun h3=>?_) (fun h3=>g2 _ ⟨_,_,rfl⟩ ?_ _ (.refl _))⟩
    ·have z:=V.int.inj (of_decide_eq_true h3);rw[bit] at z;exact⟨_,rfl,g1 _ _ ⟨_,_,rfl⟩ (if_pos (by lia)) _ (.refl _)⟩
    ·refine if_neg fun z=>h3 ?_;show decide (V.int (qBw ((g:Int)/2^(i:Int).toNat) 1)=V.int 1)=true;rw[bit,z];rfl
   rw[BC] at hd;refine⟨D,_,rfl,.inl (aY.of hd),?_⟩;rw[rE,show jG r.ns g r.ns.length=eR r g from he.symm];exact k H3 s3
  ·rw[hk];have he:eR r g=Di r.ps g:=by unfold eR;rw[hk];rfl
   refine⟨_,rfl,rfl,_,rfl,bG ?_⟩;dsimp only[bH];refine⟨_,rfl,rfl,_,rfl,cT ?_⟩;refine⟨_,rfl,lp,rfl,⟨_,aY.of q3⟩,?_⟩;refine iU (xs:=bs.map V.ref) (fun σ'=>∃o0 o1 o2:Option V,σ'=[o0,o1,o2,some (.int (g:Int))]) (fun i _=>(r.ps[i]?).bind fun q=>if both g q.1 q.2.1=true then some (V.int q.2.2) else none) ⟨_,_,_,rfl⟩ (aY.of q3) (by rw[qAa];exact qBb (aQ (by lia))) (fun i x σ1 H2 kk kk0 hσ s2 hx h1 h2=>?_) fun D H2 hD s2 hd=>?_
   ·obtain⟨o0,o1,o2,rfl⟩:=hσ;rw[qAj] at hx;cases e:bs[i]? with
    | none=>rw[e] at hx;cases hx
    | some b =>
     rw[e] at hx;cases hx;obtain⟨q,hq,r'⟩:=a2.CY i b e;obtain⟨hu,hv,_⟩:=gr.p6 m6 q (qAu hq);have ez:qBw (qBw ((g:Int)/2^(q.1:Int).toNat) ((g:Int)/2^(q.2.1:Int).toNat)) 1=(if both g q.1 q.2.1=true then 1 else 0:Int):=by
      have z:(g/2^q.1 &&& g/2^q.2.1) &&& 1=if both g q.1 q.2.1=true then 1 else 0:=BD ⟨g,by lia⟩ ⟨q.1,hu⟩ ⟨q.2.1,hv⟩;rw[qDv,qDv,show(g:Int)/2^q.1=((g/2^q.1:Nat):Int) by push_cast;rfl,show(g:Int)/2^q.2.1=((g/2^q.2.1:Nat):Int) by push_cast;rfl];show(((g/2^q.1 &&& g/2^q.2.1) &&& 1:Nat):Int)=_;rw[z];split <;> rfl
     refine⟨b,_,rfl,dG.of (s2 _ _ r'),rfl,_,_,rfl,_,_,rfl,_,_,rfl,rfl,?_⟩;refine⟨_,rfl,_,rfl,_,_,rfl,rfl,(by show 0<=(q.1:Int);lia),_,rfl,_,rfl,_,_,rfl,rfl,(by show 0<=(q.2.1:Int);lia),_,_,rfl,rfl,_,_,rfl,rfl,rfl,_,rfl,?_⟩;show if decide (V.int (qBw (qBw ((g:Int)/2^(q.1:Int).toNat) ((g:Int)/2^(q.2.1:Int).toNat)) 1)=V.int 1)=true then _ else _;rw[ez];cases ebo:both g q.1 q.2.1 with
     | true=>exact cT ⟨_,rfl,h1 _ _ ⟨_,_,_,rfl⟩ (by rw[hq];show(if both g q.1 q.2.1=true then some (V.int q.2.2) else none)=_;rw[ebo];rfl) _ (.refl _)⟩
     | false=>exact bG (h2 _ ⟨_,_,_,rfl⟩ (by rw[hq];show(if both g q.1 q.2.1=true then some (V.int q.2.2) else none)=_;rw[ebo];rfl) _ (.refl _))
   have ed:H2 D=some (.lst ((r.ps.filterMap fun p=>if both g p.1 p.2.1=true then some p.2.2 else none).map V.int)):=by
    rw[hd];have e:(qAq (bs.map V.ref).length).filterMap (fun i=>((bs.map V.ref)[i]?).bind fun _=>(r.ps[i]?).bind fun q=>if both g q.1 q.2.1=true then some (V.int q.2.2) else none)=(qAq r.ps.length).filterMap fun i=>(r.ps[i]?).bind fun q=>if both g q.1 q.2.1=true then some (V.int q.2.2) else none:=by
     rw[qAa,bl];refine dD fun i hi=>?_;have hi':i<bs.length:=by rw[bl];exact List.mem_range.mp hi
     rw[qAj,qAc hi'];rfl
    rw[e,cJ,qKo];refine congrArg (fun f=>some (HO.lst (r.ps.filterMap f))) (funext fun p=>?_);split <;> rfl
   refine⟨D,_,rfl,.inl (aY.of ed),?_⟩;rw[show(r.ps.filterMap fun p=>if both g p.1 p.2.1=true then some p.2.2 else none).sum=eR r g from he.symm];exact k H2 s2
  ·rw[hk] at sz;have nl:r.ns.length=m+2:=sz;rw[hk];have he:eR r g=yU (r.ns.getD 0 0) (r.ns.getD 1 0) (r.ns.drop 2) g:=by unfold eR;rw[hk];rfl
   refine⟨_,rfl,rfl,_,rfl,bG ?_⟩;dsimp only[bH];refine⟨_,rfl,rfl,_,rfl,bG ?_⟩;dsimp only[bH];refine⟨_,rfl,rfl,_,rfl,cT ?_⟩;refine⟨_,rfl,_,rfl,ln,_,rfl,aY.of q2,fun l2 hl2=>?_⟩;have ec:fT (r.ns.map V.int) (some 2) none=(r.ns.drop 2).map V.int:=by rw[show(2:Int)=((2:Nat):Int) from rfl,iD,<- qGc]
   rw[ec];have u1:=aI.aJ (o:=.lst ((r.ns.drop 2).map V.int)) hl2;have h2':upd H l2 (.lst ((r.ns.drop 2).map V.int)) l2=some (.lst ((r.ns.drop 2).map V.int)):=aC;generalize upd H l2 (.lst ((r.ns.drop 2).map V.int))=H1 at u1 h2'|-;refine⟨l2,rfl,⟨_,aY.of h2'⟩,?_⟩;refine mG (xs:=(r.ns.drop 2).map V.int) (fun σ'=>∃o0 o1:Option V,σ'=[o0,o1,some (.int (g:Int))]) (fun i x=>if g/2^i%2=1 then some x else none) ⟨_,_,rfl⟩ (aY.of h2') (by rw[qAa,qDc];exact qBb (aQ (by lia))) (fun i x t σ1 H3 kk kk0 hσ s3 hx ht g1 g2=>?_) fun D H3 hD s3 hd=>?_
   ·obtain⟨o0,o1,rfl⟩:=hσ;refine⟨t,_,rfl,dG.of ht,rfl,_,_,rfl,_,_,rfl,rfl,?_⟩;refine⟨_,rfl,_,rfl,_,_,rfl,rfl,(by show 0<=(i:Int);lia),_,_,rfl,rfl,rfl,_,rfl,dE (fun h3=>?_) (fun h3=>g2 _ ⟨_,_,rfl⟩ ?_ _ (.refl _))⟩
    ·have z:=V.int.inj (of_decide_eq_true h3);rw[bit] at z;exact⟨_,rfl,g1 _ _ ⟨_,_,rfl⟩ (if_pos (by lia)) _ (.refl _)⟩
    ·refine if_neg fun z=>h3 ?_;show decide (V.int (qBw ((g:Int)/2^(i:Int).toNat) 1)=V.int 1)=true;rw[bit,z];rfl
   rw[BC] at hd;refine⟨D,_,rfl,.inl (aY.of hd),?_⟩;rw[rE,show jG (r.ns.drop 2) g (r.ns.drop 2).length=lJ (r.ns.drop 2) g from rfl];dsimp only[bE];have u3:=u1.trans s3;have q2':=u3 _ _ q2;have at1:fK (r.ns.map V.int) 1=some (.int (r.ns.getD 1 0)):=iJ (j:=1) (by lia);have at0:fK (r.ns.map V.int) 0=some (.int (r.ns.getD 0 0)):=iJ (j:=0) (by lia);refine⟨_,rfl,ln,_,_,_,rfl,rfl,aY.of q2',at1,zD,fun lz hlz=>?_⟩;have u4:=aI.aJ (o:=.lst [V.int 0,V.int (r.ns.getD 1 0)]) hlz;refine⟨_,rfl,_,rfl,ln,_,_,_,rfl,rfl,aY.of (u4 _ _ q2'),at0,_,_,rfl,rfl,.inr ⟨_,rfl,?_⟩⟩;refine⟨lz,_,_,.int (eR r g),rfl,rfl,aY.of aC,?_,k _ (u3.trans u4)⟩;rw[he];unfold yU;show fK [V.int 0,V.int (r.ns.getD 1 0)] (if decide (lJ (r.ns.drop 2) g≥r.ns.getD 0 0)=true then (1:Int) else 0)=_;by_cases hq:r.ns.getD 0 0<=lJ (r.ns.drop 2) g
   ·rw[if_pos hq,decide_eq_true (show lJ (r.ns.drop 2) g≥r.ns.getD 0 0 from hq)];rfl
   ·rw[if_neg hq,decide_eq_false (show ¬lJ (r.ns.drop 2) g≥r.ns.getD 0 0 from hq)];rfl
  ·rw[hk] at sz;have nl:r.ns.length=2^m-1:=sz;rw[hk];have he:eR r g=(0::r.ns).getD g 0:=by unfold eR;rw[hk];rfl
   refine⟨_,rfl,rfl,_,rfl,bG ?_⟩;dsimp only[bH];refine⟨_,rfl,rfl,_,rfl,bG ?_⟩;dsimp only[bH];refine⟨_,rfl,rfl,_,rfl,bG ?_⟩;dsimp only[bH];refine⟨_,rfl,rfl,_,rfl,cT ?_⟩;refine⟨_,rfl,_,_,rfl,rfl,_,rfl,dE (fun h2=>?_) (fun h2=>?_)⟩
   ·have g0:0<g:=by have:=of_decide_eq_true h2;lia
    obtain⟨j,rfl⟩:∃j,g=j+1:=⟨g-1,by lia⟩;refine⟨_,rfl,_,rfl,_,_,rfl,rfl,ln,_,_,_,rfl,rfl,aY.of q2,(by show fK (r.ns.map V.int) (((j+1:Nat):Int)-1)=_;rw[show((j+1:Nat):Int)-1=(j:Int) by lia];exact iJ (by lia)),?_⟩;have z:eR r (j+1)=r.ns.getD j 0:=he;rw[<- z];exact k H (.refl _)
   ·have g0:g=0:=by
     rcases qEb g with z | z
     ·exact z
     ·exact absurd (decide_eq_true (by lia)) h2
    subst g0;have z:eR r 0=0:=he;rw[z] at k;exact k H (.refl _)
theorem j7(xs:List V)(y z:V):fK (xs++[y,z]) (-2)=some y:=by
 unfold fK xG;rw[qAn,if_neg (by decide),if_pos (by show -(((xs.length+2:Nat)):Int)<=-2;lia)];show(xs++[y,z])[(-2+((xs.length+2:Nat):Int)).toNat]?=_;rw[show(-2+((xs.length+2:Nat):Int)).toNat=xs.length by lia,qBy (qAi _),qHr];rfl
theorem nJ(xs:List V)(y z:V):fK (xs++[y,z]) (-1)=some z:=by
 have e:=nH (xs++[y]) z;rw[qDj] at e;exact e
theorem tL(xs:List V)(y z:V):xG (xs++[y,z]).length (-2)=some xs.length:=by
 unfold xG;rw[qAn,if_neg (by decide),if_pos (by show -(((xs.length+2:Nat)):Int)<=-2;lia)];exact congrArg some (by show(-2+((xs.length+2:Nat):Int)).toNat=_;lia)
def Eb(P:qBc)(w:qCd)(K:qAb)(mg:Str->Option qAf)(base:Heap)(fE fH RU:Addr):Sp:=fun vs H Q _=>∃(p lh:Addr) (m:Nat) (r:R4) (ws:List V),vs=[.ref p,.int (m:Int),.ref lh]/\k9 H p m r/\1<=m/\m<=6/\H lh=some (.lst ws)/\ws.length<=60 /\
 (∀(s:Str) (ln lp:Addr) (wy:Int),H p=some (.tup [.str s,.ref ln,.ref lp,.int wy])->ln≠lh/\lp≠lh) /\
 ∀(x l1 l2:Addr) (F:List Addr) (ys zs:List V) H',(∀b o,b≠lh->H b=some o->H' b=some o)->H' lh=some (.lst (ws++[.ref l1,.ref l2]))->H l1=none->H l2=none->H' l1=some (.lst ys)->H' l2=some (.lst zs)->ys.length<=100->zs.length<=100->BH P w K mg base fE fH RU H' F x m r->(∀b∈F,b≠lh/\b≠l1/\b≠l2/\H b=none)->Q (.ref x) H'
theorem tM:aK ["_law_row","_law_many","_law_handed","_law_head","_law_numbers","_law_pairs","_law_way"] ["_law_row","_law_many","_law_handed"] (aE FQ):=by constructor<;>first|rfl|decide +kernel
theorem Hy{f1:Addr}{fd1:qBd}(t:Tx K mg "_law_object" FQ ["_law_row","_law_many","_law_handed"] f fd)(T:T K mg AL LN RU OW PL PA VO MA NE fE fH rR rO rP rA rV rM rN iR iO iP iA iV iM iN fL wR wO wP wA wV wM wN CO iC cH cE cW SE NG NL NT)(Z:ZR P w K mg base AL LN RU OW PL PA VO MA NE fE fH rR rO rP rA rV rM rN iR iO iP iA iV iM iN fL wR wO wP wA wV wM wN CO iC cH cE cW SE NG NL NT)(D_law_turned:Df P w K mg base cM 1 "_law_turned" ["_law_pairs","_law_way"] BB f1 fd1):
  Df P w K mg base cM 9 "_law_object" ["_law_row","_law_many","_law_handed"] (Eb P w K mg base fE fH RU) f fd:=by
 have D_RI:=Z.RI;have D_OI:=Z.OI;have D_PI:=Z.PI;have D_PaI:=Z.MY;have D_VI:=Z.VI;have D_MI:=Z.MI;have D_NI:=Z.NI;refine t.jA tM (fun vs H Q E h=>?_) (fun cdv A outer s H vs Q E hr h=>?_)
 ·obtain⟨p,lh,m,r,ws,rfl,_⟩:=h;rfl
 ·obtain⟨p,lh,m,r,ws,rfl,⟨ln,lp,bs,q1,q2,q3,a2,g,w4⟩,m1,m6,hlh,wl,hnlh,k⟩:=h;have h64:2^m<=64:=qBr (n:=2) (by decide) m6;have hpos:0<2^m:=qGf (by decide);obtain⟨nln,nlp⟩:=hnlh _ ln lp _ q1;have n63:=g.vB m6;have p15:=g.pl;have tk:∀{b:Addr}{us:List V},H b=some (.tup us)->b≠lh:=fun e z=>by rw[z,hlh] at e;cases e
  refine⟨_,(aD (lW (pv 0) (fB rfl (bB (aP (i:=3) tM.nd rfl cK) (bB (aP (i:=4) tM.nd rfl cK) (bB (aP (i:=5) tM.nd rfl cK) (bB (aP (i:=6) tM.nd rfl cK) dZ))))))
   (aD (bN (dP qCz qDg qDf eD (pv 2) (aA (cG dB (by rfl) T.fF fZ (aA (pv 4) aB)) aB)))
   (aD (bN (dP qCz qDg qDf eD (pv 2) (aA (bD D_law_turned hr (by decide) (by rfl) (aA (pv 5) (aA (pv 6) aB))) aB)))
   (aD (bK (aS bU (pv 3) aU (aV _)) (aH (aN (cI bQ T.MP D_OI hr (by decide) (by rfl) T.Ij (aA (a9 bJ (pv 2) (gD eV aG) (fun _ _=>rfl)) aB)))) aX)
   (aD (bK (aS bU (pv 3) aU (aV _)) (aH (aN (cI bQ T.MS D_PaI hr (by decide) (by rfl) T.Il (aA (pv 1) (aA (a9 bJ (pv 2) (gD eV aG) (fun _ _=>rfl)) aB))))) aX)
   (aD (bK (aS bU (pv 3) aU (aV _)) (aD (lW (cX eZ (pv 4) (dA aG) c8) (tQ (pv 2) (gD eV aG) set_list))
    (aH (aN (cI bQ T.MT D_VI hr (by decide) (by rfl) T.Im (aA (a9 bJ (pv 4) aG (fun _ _=>rfl)) (aA (a9 bJ (pv 4) aG (fun _ _=>rfl)) (aA (a9 bJ (pv 2) (gD eV aG) (fun _ _=>rfl)) aB))))))) aX)
   (aD (bK (aS bU (pv 3) aU (aV _)) (aH (aN (cI bQ T.MU D_MI hr (by decide) (by rfl) T.Io (aA (pv 1) (aA (a9 bJ (pv 2) (gD eV aG) (fun _ _=>rfl)) aB))))) aX)
   (aD (bK (aS bU (pv 3) aU (aV _)) (aH (aN (cI bQ T.MV D_NI hr (by decide) (by rfl) T.Ip (aA (a9 bJ (pv 2) (gD eV aG) (fun _ _=>rfl)) (aA (a9 bJ (pv 2) (gD eV aG) (fun _ _=>rfl)) aB))))) aX)
   (aD (bK (aS bU (pv 3) aU (aV _)) (aD (lW (aM cO (bZ (aA aG aB)) (pv 4)) (tQ (pv 2) (gD eV aG) set_list))
    (aH (aN (cI bQ T.MQ D_PI hr (by decide) (by rfl) T.Ik (aA (a9 bJ (pv 2) (gD eV aG) (fun _ _=>rfl)) aB))))) aX)
   (aH (aN (cI bQ T.MN D_RI hr (by decide) (by rfl) T.zE (aA (pv 1) aB))))))))))))),?_⟩
  refine⟨_,rfl,p,_,rfl,dG.of q1,rfl,_,_,rfl,_,_,rfl,_,_,rfl,_,_,rfl,rfl,?_⟩;refine⟨_,rfl,.inl ⟨rfl,_,aY.of hlh⟩,_,rfl,ln,_,rfl,.inl (aY.of q2),fun l1 hl1=>?_⟩;have v1:=aI.aJ (o:=.lst (r.ns.map V.int)) hl1;have k1:upd H l1 (.lst (r.ns.map V.int)) l1=some (.lst (r.ns.map V.int)):=aC;have n1h:l1≠lh:=(aT hlh hl1).symm;have hlh1:=v1 _ _ hlh;generalize upd H l1 (.lst (r.ns.map V.int))=H1 at v1 k1 hlh1|-;refine⟨lh,_,_,rfl,rfl,hlh1,aQ (by lia),?_⟩;have kp:∀b o,b≠lh->H1 b=some o->upd H1 lh (.lst (ws++[V.ref l1])) b=some o:=fun b o n e=>by rw[aL n];exact e
  have k2:=kp _ _ n1h k1;have hlh2:upd H1 lh (.lst (ws++[V.ref l1])) lh=some (.lst (ws++[V.ref l1])):=aC;have kb2:∀b o,b≠lh->H b=some o->upd H1 lh (.lst (ws++[V.ref l1])) b=some o:=fun b o n e=>kp _ _ n (v1 _ _ e);have fr2:∀b,upd H1 lh (.lst (ws++[V.ref l1])) b=none->H b=none/\b≠lh/\b≠l1:=fun b hb=>by
   have n:b≠lh:=fun z=>by rw[z,aC] at hb;cases hb
   rw[aL n] at hb;exact⟨v1.free hb,n,fun z=>by rw[z,k1] at hb;cases hb⟩
  generalize upd H1 lh (.lst (ws++[V.ref l1]))=H2 at k2 hlh2 kb2 fr2|-;clear kp hlh1;have a22:A2 (dC H2) bs r.ps:=a2.imp fun b q e=>kb2 _ _ (tk e) e;refine⟨_,rfl,.inl ⟨rfl,_,aY.of hlh2⟩,_,rfl,_,rfl,lp,r.way,bs,r.ps,rfl,w4,kb2 _ _ nlp q3,a22,p15,fun l2 bs2 qs H3 hl2 s3 h23 a3 pm=>?_⟩;have hlh3:=s3 _ _ hlh2;refine⟨lh,_,_,rfl,rfl,hlh3,aQ (by rw[qAn];show _+1<=_;lia),?_⟩;have n2h:l2≠lh:=(aT hlh2 hl2).symm;have n21:l2≠l1:=(aT k2 hl2).symm;rw[qDj];have kp:∀b o,b≠lh->H3 b=some o->upd H3 lh (.lst (ws++([V.ref l1]++[V.ref l2]))) b=some o:=fun b o n e=>by rw[aL n];exact e
  have k14:=kp _ _ n1h (s3 _ _ k2);have k24:=kp _ _ n2h h23;have hlh4:upd H3 lh (.lst (ws++([V.ref l1]++[V.ref l2]))) lh=some (.lst (ws++[V.ref l1,V.ref l2])):=aC;have kb4:∀b o,b≠lh->H b=some o->upd H3 lh (.lst (ws++([V.ref l1]++[V.ref l2]))) b=some o:=fun b o n e=>kp _ _ n (s3 _ _ (kb2 b o n e));have fr4:∀b,upd H3 lh (.lst (ws++([V.ref l1]++[V.ref l2]))) b=none->H b=none/\b≠lh/\b≠l1/\b≠l2:=fun b hb=>by
   have n:b≠lh:=fun z=>by rw[z,aC] at hb;cases hb
   rw[aL n] at hb;obtain⟨z1,z2,z3⟩:=fr2 b (s3.free hb);exact⟨z1,z2,z3,fun z=>by rw[z,h23] at hb;cases hb⟩
  have a4:A2 (dC (upd H3 lh (.lst (ws++([V.ref l1]++[V.ref l2]))))) bs2 qs:=a3.imp fun b q e=>kp _ _ (fun z=>by
   have e:H3 b=some _:=e;rw[z,hlh3] at e;cases e) e
  have fl2:H l2=none:=(fr2 l2 hl2).1;generalize upd H3 lh (.lst (ws++([V.ref l1]++[V.ref l2])))=H4 at k14 k24 hlh4 kb4 fr4 a4|-;clear kp hlh3 h23 a3;dsimp only;refine eY (σ':=[some (.ref p),some (.int (m:Int)),some (.ref lh),some (.str (fX r.k)),some (.ref ln),some (.ref lp),some (.int (r.way:Int))]) rfl ?_;have k7:=g.k7;have sz:=g.sz;have bl2:bs2.length<=15:=by rw[a4.len,pm.length_eq];exact p15
  have ok4:dN m H4 bs2:=j6 a4 pm g.sQ g.pb g.pl;have yl:(r.ns.map V.int).length<=100:=by rw[qAa];lia
  have zl:(bs2.map V.ref).length<=100:=by rw[qAa];lia
  have f1:∀{x:Addr},H4 x=none->∀b∈[x],b≠lh/\b≠l1/\b≠l2/\H b=none:=fun {x} hx b hb=>by
   rw[List.mem_singleton.mp hb];obtain⟨z1,z2,z3,z4⟩:=fr4 x hx;exact⟨z2,z3,z4,z1⟩
  have fc:∀{x:Addr}{F:List Addr},H4 x=none->(∀b∈F,b≠lh/\b≠l1/\b≠l2/\H b=none)->∀b∈x::F,b≠lh/\b≠l1/\b≠l2/\H b=none:=fun {x F} hx hF b hb=>by
   rcases List.mem_cons.mp hb with z | z
   ·exact f1 hx b (by rw[z];exact List.mem_singleton.mpr rfl)
   ·exact hF b z
  have put:∀(Hx:Hp) (l3:Addr) (o:List V),aI H4 Hx->Hx l3=none->let H5:=upd (upd Hx l3 (.lst o)) lh (.lst ((ws++[V.ref l1,V.ref l2]).set ws.length (V.ref l3)));H5 lh=some (.lst (ws++[V.ref l3,V.ref l2]))/\H5 l3=some (.lst o)/\(∀b u,b≠lh->H4 b=some u->H5 b=some u)/\(∀b,H5 b=none->H b=none/\b≠lh/\b≠l3/\b≠l2)/\H l3=none:=by
   intro Hx l3 o sx hl3;have n3:l3≠lh:=(aT (sx _ _ hlh4) hl3).symm;have f3:H4 l3=none:=sx.free hl3;refine⟨?_,?_,fun b u n e=>?_,fun b hb=>?_,(fr4 l3 f3).1⟩
   ·rw[aC,List.set_append_right _ _ (qAi _),qHr];rfl
   ·rw[aL n3,aC]
   ·rw[aL n,aL (aT (sx _ _ e) hl3)];exact sx _ _ e
   ·have n:b≠lh:=fun z=>by rw[z,aC] at hb;cases hb
    rw[aL n] at hb;have n':b≠l3:=fun z=>by rw[z,aC] at hb;cases hb
    rw[aL n'] at hb;obtain⟨z1,z2,z3,z4⟩:=fr4 b (sx.free hb);exact⟨z1,n,n',z4⟩
  have hk:r.k=0\/r.k=1\/r.k=2\/r.k=3\/r.k=4\/r.k=5\/r.k=6:=by lia
  rcases hk with hk | hk | hk | hk | hk | hk | hk
  ·rw[hk];refine⟨_,rfl,rfl,_,rfl,bG ?_⟩;dsimp only[bH];refine⟨_,rfl,rfl,_,rfl,bG ?_⟩;dsimp only[bH];refine⟨_,rfl,rfl,_,rfl,bG ?_⟩;dsimp only[bH];refine⟨_,rfl,rfl,_,rfl,bG ?_⟩;dsimp only[bH];refine⟨_,rfl,rfl,_,rfl,bG ?_⟩;dsimp only[bH];refine⟨_,rfl,rfl,_,rfl,bG ?_⟩;dsimp only[bH];refine⟨_,rfl,fun x dx hx hd ne=>wF T.Ii.oc T.Ii.nm hx hd ne m1 m6 fun H5 s5 hx5=>⟨rfl,?_⟩⟩;exact k x l1 l2 [x] _ _ H5 (fun b o n e=>s5 _ _ (kb4 b o n e)) (s5 _ _ hlh4) hl1 fl2 (s5 _ _ k14) (s5 _ _ k24) yl zl (wI T Z g hk m1 m6 hx5) (f1 hx)
  ·rw[hk] at sz;have sz:r.ns.length=m:=sz;rw[hk];refine⟨_,rfl,rfl,_,rfl,cT ?_⟩;refine⟨_,rfl,_,rfl,lh,_,_,_,rfl,rfl,aY.of hlh4,j7 _ _ _,fun x dx hx hd ne=>Bk hx hd ne k14 (by lia) (by lia) fun l' H5 hl' s5 hx5 hl5=>⟨rfl,?_⟩⟩;rw[sz] at hx5;exact k x l1 l2 [x,l'] _ _ H5 (fun b o n e=>s5 _ _ (kb4 b o n e)) (s5 _ _ hlh4) hl1 fl2 (s5 _ _ k14) (s5 _ _ k24) yl zl (Br T Z g hk m1 m6 hx5 hl5) (fc hx (f1 hl'))
  ·rw[hk];refine⟨_,rfl,rfl,_,rfl,bG ?_⟩;dsimp only[bH];refine⟨_,rfl,rfl,_,rfl,cT ?_⟩;refine⟨_,rfl,_,rfl,_,rfl,lh,_,_,_,rfl,rfl,aY.of hlh4,nJ _ _ _,fun x dx hx hd ne=>sW hx hd ne k24 ok4 a4 m1 m6 fun l' bs' ps' H5 hl' s5 pm5 srt5 a5 hx5 hl5=>⟨rfl,?_⟩⟩;rw[fW srt5 g.sQ (pm5.trans pm)] at a5;exact k x l1 l2 [x,l'] _ _ H5 (fun b o n e=>s5 _ _ (kb4 b o n e)) (s5 _ _ hlh4) hl1 fl2 (s5 _ _ k14) (s5 _ _ k24) yl zl (tF T Z g hk m1 m6 hx5 hl5 a5) (fc hx (f1 hl'))
  ·rw[hk] at sz;have sz:r.ns.length=m+2:=sz;rw[hk];refine⟨_,rfl,rfl,_,rfl,bG ?_⟩;dsimp only[bH];refine⟨_,rfl,rfl,_,rfl,bG ?_⟩;dsimp only[bH];refine⟨_,rfl,rfl,_,rfl,cT ?_⟩;have q24:=kb4 _ _ nln q2;refine⟨_,rfl,_,rfl,ln,_,rfl,aY.of q24,fun l3 hl3=>?_⟩;have ec:fT (r.ns.map V.int) (some 2) none=(r.ns.drop 2).map V.int:=by rw[show(2:Int)=((2:Nat):Int) from rfl,iD,<- qGc]
   rw[ec];obtain⟨p1,p2,p3,p4,p5⟩:=put H4 l3 ((r.ns.drop 2).map V.int) (.refl _) hl3;have w2:=aI.aJ (o:=.lst ((r.ns.drop 2).map V.int)) hl3;refine⟨_,rfl,_,rfl,lh,_,_,ws.length,rfl,rfl,w2 _ _ hlh4,tL _ _ _,?_⟩;generalize upd (upd H4 l3 (.lst ((r.ns.drop 2).map V.int))) lh (.lst ((ws++[V.ref l1,V.ref l2]).set ws.length (V.ref l3)))=H5 at p1 p2 p3 p4|-;have q25:=p3 _ _ nln q24;have at1:fK (r.ns.map V.int) 1=some (.int (r.ns.getD 1 0)):=iJ (j:=1) (by lia);have at0:fK (r.ns.map V.int) 0=some (.int (r.ns.getD 0 0)):=iJ (j:=0) (by lia);have dl:(r.ns.drop 2).length=m:=by rw[qDc];lia
   refine⟨_,rfl,ln,_,_,_,rfl,rfl,aY.of q25,at0,_,rfl,ln,_,_,_,rfl,rfl,aY.of q25,at1,_,rfl,_,rfl,lh,_,_,_,rfl,rfl,aY.of p1,j7 _ _ _,fun x dx hx hd ne=>sV hx hd ne p2 (g.q1 hk) (by lia) (by lia) fun l' H6 hl' s6 hx6 hl6=>⟨rfl,?_⟩⟩;rw[dl] at hx6;refine k x l3 l2 [x,l'] _ _ H6 (fun b o n e=>s6 _ _ (p3 _ _ n (kb4 b o n e))) (s6 _ _ p1) p5 fl2 (s6 _ _ p2) (s6 _ _ (p3 _ _ n2h k24)) (by rw[qAa];lia) zl (tD T Z g hk m1 m6 hx6 hl6) fun b hb=>?_;rcases List.mem_cons.mp hb with z | z
   ·obtain⟨z1,z2,z3,z4⟩:=p4 x hx;rw[z];exact⟨z2,z3,z4,z1⟩
   ·obtain⟨z1,z2,z3,z4⟩:=p4 l' hl';rw[List.mem_singleton.mp z];exact⟨z2,z3,z4,z1⟩
  ·rw[hk];refine⟨_,rfl,rfl,_,rfl,bG ?_⟩;dsimp only[bH];refine⟨_,rfl,rfl,_,rfl,bG ?_⟩;dsimp only[bH];refine⟨_,rfl,rfl,_,rfl,bG ?_⟩;dsimp only[bH];refine⟨_,rfl,rfl,_,rfl,cT ?_⟩;refine⟨_,rfl,_,rfl,_,rfl,lh,_,_,_,rfl,rfl,aY.of hlh4,nJ _ _ _,fun x dx hx hd ne=>sX hx hd ne k24 ok4 a4 m1 m6 fun l' lb bs' ps' H5 hl' hlb s5 pm5 srt5 a5 mo hx5 hl5=>⟨rfl,?_⟩⟩;obtain rfl:=fW srt5 g.sQ (pm5.trans pm);obtain⟨dy,hx5⟩:=hx5;exact k x l1 l2 [x,l',lb] _ _ H5 (fun b o n e=>s5 _ _ (kb4 b o n e)) (s5 _ _ hlh4) hl1 fl2 (s5 _ _ k14) (s5 _ _ k24) yl zl (tG T Z g hk m6 hx5 hl5 a5 mo) (fc hx (fc hl' (f1 hlb)))
  ·rw[hk] at sz;have sz:r.ns.length=m:=sz;obtain⟨c0,r0⟩:=g.n0 hk;rw[hk];refine⟨_,rfl,rfl,_,rfl,bG ?_⟩;dsimp only[bH];refine⟨_,rfl,rfl,_,rfl,bG ?_⟩;dsimp only[bH];refine⟨_,rfl,rfl,_,rfl,bG ?_⟩;dsimp only[bH];refine⟨_,rfl,rfl,_,rfl,bG ?_⟩;dsimp only[bH];refine⟨_,rfl,rfl,_,rfl,cT ?_⟩;have ok5:dN r.ns.length H4 bs2:=by rw[sz];exact ok4
   refine⟨_,rfl,_,rfl,lh,_,_,_,rfl,rfl,aY.of hlh4,j7 _ _ _,_,rfl,_,rfl,lh,_,_,_,rfl,rfl,aY.of hlh4,nJ _ _ _,fun x dx hx hd ne=>Bl hx hd ne k14 (by lia) (by lia) c0 k24 ok5 a4 (fun q hq=>r0 q (pm.mem_iff.mp hq)) fun l' lr rs' H5 hl' hlr s5 pm5 srt5 no=>⟨rfl,?_⟩⟩;rw[fW srt5 g.sQ (pm5.trans pm)] at no;exact k x l1 l2 [x,l',lr] _ _ H5 (fun b o n e=>s5 _ _ (kb4 b o n e)) (s5 _ _ hlh4) hl1 fl2 (s5 _ _ k14) (s5 _ _ k24) yl zl (Bs T Z g hk m6 no) (fc hx (fc hl' (f1 hlr)))
  ·rw[hk] at sz;have sz:r.ns.length=2^m-1:=sz;have hn:(0::r.ns).length=2^m:=by rw[qBj];lia
   rw[hk];refine⟨_,rfl,rfl,_,rfl,bG ?_⟩;dsimp only[bH];refine⟨_,rfl,rfl,_,rfl,bG ?_⟩;dsimp only[bH];refine⟨_,rfl,rfl,_,rfl,bG ?_⟩;dsimp only[bH];refine⟨_,rfl,rfl,_,rfl,bG ?_⟩;dsimp only[bH];refine⟨_,rfl,rfl,_,rfl,bG ?_⟩;dsimp only[bH];refine⟨_,rfl,rfl,_,rfl,cT ?_⟩;have q24:=kb4 _ _ nln q2;refine⟨nK,fun lz hlz=>?_⟩;have wz:=aI.aJ (o:=.lst [V.int 0]) hlz;have kz:upd H4 lz (.lst [V.int 0]) lz=some (.lst [V.int 0]):=aC;generalize upd H4 lz (.lst [V.int 0])=Hz at wz kz|-;refine⟨_,rfl,lz,ln,_,_,rfl,rfl,aY.of kz,aY.of (wz _ _ q24),(by rw[qAa];exact qBb (aQ (by show 1+_<=_;lia))),fun l3 hl3=>?_⟩;rw[show [V.int 0]++r.ns.map V.int=(0::r.ns).map V.int from rfl];obtain⟨p1,p2,p3,p4,p5⟩:=put Hz l3 ((0::r.ns).map V.int) wz hl3;have w2:=wz.trans (aI.aJ (o:=.lst ((0::r.ns).map V.int)) hl3);refine⟨_,rfl,_,rfl,lh,_,_,ws.length,rfl,rfl,w2 _ _ hlh4,tL _ _ _,?_⟩;generalize upd (upd Hz l3 (.lst ((0::r.ns).map V.int))) lh (.lst ((ws++[V.ref l1,V.ref l2]).set ws.length (V.ref l3)))=H5 at p1 p2 p3 p4|-;refine⟨_,rfl,_,rfl,lh,_,_,_,rfl,rfl,aY.of p1,j7 _ _ _,fun x dx hx hd ne=>sU hx hd ne p2 hn m1 m6 fun l' H6 hl' s6 hx6 hl6=>⟨rfl,?_⟩⟩;refine k x l3 l2 [x,l'] _ _ H6 (fun b o n e=>s6 _ _ (p3 _ _ n (kb4 b o n e))) (s6 _ _ p1) p5 fl2 (s6 _ _ p2) (s6 _ _ (p3 _ _ n2h k24)) (by rw[qAa,hn];lia) zl (tE T Z g hk m1 m6 hx6 hl6) fun b hb=>?_;rcases List.mem_cons.mp hb with z | z
   ·obtain⟨z1,z2,z3,z4⟩:=p4 x hx;rw[z];exact⟨z2,z3,z4,z1⟩
   ·obtain⟨z1,z2,z3,z4⟩:=p4 l' hl';rw[List.mem_singleton.mp z];exact⟨z2,z3,z4,z1⟩
theorem BE:∀{k:Nat},k<7->decide (V.str (fX k)=V.str ("match":Str))=decide (k=4)/\decide (V.str (fX k)=V.str ("net":Str))=decide (k=5)
 | 0,_=>by decide +kernel
 | 1,_=>by decide +kernel
 | 2,_=>by decide +kernel
 | 3,_=>by decide +kernel
 | 4,_=>by decide +kernel
 | 5,_=>by decide +kernel
 | 6,_=>by decide +kernel
 | k+7,h=>absurd h (by lia)
def Ec(P:qBc)(w:qCd)(K:qAb)(mg:Str->Option qAf)(base:Heap)(fE fH RU CO:Addr):Sp:=fun vs H Q _=>∃(c ls:Addr) (m:Nat) (dr:Int) (rows:List BI),vs=[.ref c,.int (m:Int),.str (nE m (rows.map fun r=>cR r.2)),.ref ls,.int dr]/\Iu P w K mg base fE fH RU CO H c m (rows.map fun r=>r.2)/\H ls=some (.lst (bW rows))/\nI H m rows/\1<=m/\m<=6/\∀H',aI H H'->Q (.bl true) H'
theorem tN:aK ["_law_company","_law_many","_law_due","_law_some","_law_drawn","_law_told","_law_last","_law_group","_law_number_here"] ["_law_company","_law_many","_law_due","_law_some","_law_drawn"] (aE FR):=by constructor<;>first|rfl|decide +kernel
theorem HA{f1 f2:Addr}{fd1 fd2:qBd}(t:Tx K mg "_law_holds" FR ["_law_company","_law_many","_law_due","_law_some","_law_drawn"] f fd)(T:T K mg AL LN RU OW PL PA VO MA NE fE fH rR rO rP rA rV rM rN iR iO iP iA iV iM iN fL wR wO wP wA wV wM wN CO iC cH cE cW SE NG NL NT)(D_law_whole:Df P w K mg base cM 1 "_law_whole" ["_law_found"] (pE K) f1 fd1)(D_law_earned:Df P w K mg base cM 1 "_law_earned" ["_law_row","_law_group"] (Ea K) f2 fd2)
  (D_CH:Md P w K mg base 1 ["self"] (uX K) cH) (D_CE:Md P w K mg base 8 ["self","group"] (Ku P w K mg base fE fH RU CO NG) cE) (D_CW:Md P w K mg base 4 ["self"] (Kw P w K mg base fE fH RU CO) cW) :
  Df P w K mg base cM 10 "_law_holds" ["_law_company","_law_many","_law_due","_law_some","_law_drawn"] (Ec P w K mg base fE fH RU CO) f fd:=by
 refine t.jA tN (fun vs H Q E h=>?_) (fun cdv A outer s H vs Q E hr h=>?_)
 ·obtain⟨c,ls,m,dr,rows,rfl,_⟩:=h;rfl
 ·obtain⟨c,ls,m,dr,rows,rfl,⟨os,co,ol,rel⟩,hls,ra,m1,m6,k⟩:=h;obtain⟨dx,l,h1,h2,h3,h4,h5,h6,h7⟩:=id co;rw[qAa] at ol;have rl:(bW rows).length=rows.length:=by unfold bW;rw[qAa]
  have h64:2^m<=64:=qBr (n:=2) (by decide) m6;have hpos:0<2^m:=qGf (by decide);refine⟨_,(aD (bF (i:=5) tN.nd rfl cK (iS (k:=4) bQ (pv 0) hr (by decide)))
   (aD (bK (PW.pt (pw_or (dR (cY (aO fA (by rfl) T.gT hW (aA (pv 0) (aA (bP (v:=.ref CO) (by rfl) T.Gb rfl) aB))))) (pw_or (dR (cY (aO fA (by rfl) T.gT hW (aA (pv 5) (aA (gH (v:=.ty "str") (by rfl) T.kY qG rfl) aB))))) (pw_or1 (aS gR (pv 5) (pv 2) (aV _)))))) (aH (aN iZ)) aX)
   (aD (bK (PW.pt (pw_or (dR (cY (bD D_law_whole hr (by decide) (by rfl) (aA (iS (k:=1) bQ (pv 0) hr (by decide)) aB)))) (pw_or1 (aS gR (iS (k:=1) bQ (pv 0) hr (by decide)) (pv 1) (aV _))))) (aH (aN iZ)) aX)
   (aD (bK (aS (Fb hr.units) (bM (NB:=["_law_row"]) (pick:=[none]) (bR (by with_unfolding_all rfl) (by exact trivial) rfl (by decide +kernel) (by decide +kernel) (by rfl) (by rfl)) rfl
     (bL (pv 3)) (fun _ _ _=>aP (i:=0) (show(["_law_row"]:List Str).Nodup from by decide +kernel) rfl cK)
     (fun _ _ _=>gN (PW.pt (pw_or (aS bU (a9 (e7 K) (pv 0) aG (fun _ _=>rfl)) aU (aV _)) (pw_or1 (aS bU (a9 (e7 K) (pv 0) aG (fun _ _=>rfl)) aU (aV _)))))) (fun _ _ _=>(pv 0))) (bZ aB) (aV _)) (aH (aN iZ)) aX)
   (aD (bF (i:=6) tN.nd rfl cK (aM fP (aM tU aG (pv 1)) aG))
   (aD (gK PassesOwn.never rfl (bL (aM cO (bZ (aA aG (aA (pv 6) (aA (aM c9 (pv 4) (aM cL (pv 6) aG)) aB)))) (bM (NB:=["_law_k"]) (pick:=[none]) (bR (by with_unfolding_all rfl) (by exact trivial) rfl (by decide +kernel) (by decide +kernel) (by rfl) (by rfl)) rfl
     (iL (by rfl) T.eM (aA (pv 1) aB)) (fun _ _ _=>aP (i:=0) (show(["_law_k"]:List Str).Nodup from by decide +kernel) rfl cK)
     (fun _ _ _=>bS) (fun _ _ _=>(aM tU aG (pv 0)))))) (aP (i:=7) tN.nd rfl (by first|exact .inl rfl|exact .inr rfl))
    (aD (bF (i:=8) tN.nd rfl cK (jQ (k:=8) bQ (pv 0) hr (by decide) (aA (pv 7) aB)))
    (aH (bK (PW.pt (pw_or (dR (cY (bD D_law_whole hr (by decide) (by rfl) (aA (pv 8) aB)))) (pw_or1 (aS gR (pv 8) (aO (eL rfl) (by rfl) T.gG gP (aA (bM (NB:=["_law_row","_law_group"]) (pick:=[none,some 7]) (bR (by with_unfolding_all rfl) (by exact(And.intro rfl trivial)) rfl (by decide +kernel) (by decide +kernel) (by rfl) (by rfl)) rfl
     (bL (pv 3)) (fun _ _ _=>aP (i:=0) (show(["_law_row","_law_group"]:List Str).Nodup from by decide +kernel) rfl cK)
     (fun _ _ _=>bS) (fun _ _ _=>(bD D_law_earned hr (by decide) (by rfl) (aA (pv 0) (aA (pv 1) aB))))) aB)) (aV _))))) (aH (aN iZ)) aX))))
   (aH (aN iZ)))))))),?_⟩
  have tb:∀t∈rows.map fun r=>cR r.2,t.length<=60000:=fun t ht=>by
   obtain⟨r,hr,rfl⟩:=List.mem_map.mp ht;obtain⟨_,_,_,_,_,_,_,gr,_⟩:=ra r hr;exact qAt (nG gr m6 (.refl _)) (by decide)
  refine⟨_,rfl,c,CO,dx,_,cW,_,rfl,h1,rfl,T.kZ.oc.cl,T.kZ.mw,⟨_,D_CW⟩,c,m,os,rows.map fun r=>cR r.2,rfl,co,by rw[qAa];exact ol.symm,(fun i o tx e1 e2=>?_),tb,fun H1 s1=>?_⟩
  ·rw[qAj] at e2;cases e:rows[i]? with
   | none=>rw[e] at e2;cases e2
   | some r =>
    rw[e] at e2;cases e2;exact(rel i o r.2 e1 (by rw[qAj,e];rfl)).1
  dsimp only[bE];refine eY (σ':=[some (.ref c),some (.int (m:Int)),some (.str (nE m (rows.map fun r=>cR r.2))),some (.ref ls),some (.int dr),some (.str (nE m (rows.map fun r=>cR r.2))),none,none,none]) rfl ?_;generalize nE m (rows.map fun r=>cR r.2)=tx;have h11:=s1 _ _ h1;have co1:=co.same s1;refine⟨_,rfl,.ref c,.ref CO,_,_,_,rfl,rfl,T.kZ.oc.ty h11,T.kZ.Nn,_,rfl,bG ?_⟩;refine⟨_,rfl,_,_,_,_,_,rfl,rfl,.of (.str _),rfl,_,rfl,bG ?_⟩;refine⟨_,rfl,_,rfl,rfl,_,rfl,z5 rfl ?_⟩;refine⟨_,rfl,c,CO,dx,_,cH,uX K,rfl,h11,rfl,T.kZ.oc.cl,T.kZ.mh,⟨_,D_CH⟩,c,CO,dx,_,_,rfl,h11,T.kZ.oc.cl,T.kZ.nm,rfl,_,rfl,.int _,_,rfl,bG ?_⟩;refine⟨_,rfl,c,CO,dx,_,cH,uX K,rfl,h11,rfl,T.kZ.oc.cl,T.kZ.mh,⟨_,D_CH⟩,c,CO,dx,_,_,rfl,h11,T.kZ.oc.cl,T.kZ.nm,rfl,_,rfl,rfl,_,rfl,z5 rfl ?_⟩;have hls1:=s1 _ _ hls;have ra1:=ra.same s1;refine⟨_,rfl,ls,rfl,⟨_,aY.of hls1⟩,?_⟩;refine cF (xs:=bW rows) (fun i x=>(rows[i]?).bind fun r=>if r.2.k=4\/r.2.k=5 then some x else none) (aY.of hls1) (by rw[rl];exact qBb (aQ (by lia))) (fun i y H2 kk kk0 s2 hy g1 g2=>?_) fun D H2 hD s2 hd=>?_
  ·have hi:i<rows.length:=by
    obtain⟨z,_⟩:=List.getElem?_eq_some_iff.mp hy;rw[rl] at z;exact z
   obtain rfl:V.ref rows[i].1=y:=by
    unfold bW at hy;rw[qAj,qAc hi] at hy;exact Option.some.inj hy
   obtain⟨ln,lp,bs,q1,q2,q3,q4,q5,q6⟩:=ra1.same s2 _ (qCh hi);obtain⟨e4,e5⟩:=BE q5.k7;have at0:fK [V.str (fX rows[i].2.k),V.ref ln,V.ref lp,V.int (rows[i].2.way:Int)] 0=some (.str (fX rows[i].2.k)):=rfl;have rr:rows[i]?=some rows[i]:=qAc hi;refine⟨_,rfl,rows[i].1,_,_,_,rfl,rfl,dG.of q1,at0,rfl,_,rfl,dE (fun h=>?_) (fun h=>?_)⟩
   ·rw[show Str.ofString "match"=("match":Str) from rfl,e4] at h;exact cT ⟨_,rfl,g1 _ (by rw[rr];exact if_pos (.inl (of_decide_eq_true h))) _ (.refl _)⟩
   ·rw[show Str.ofString "match"=("match":Str) from rfl,e4] at h;refine⟨_,rfl,rows[i].1,_,_,_,rfl,rfl,dG.of q1,at0,rfl,_,rfl,dE (fun h2=>?_) (fun h2=>?_)⟩
    ·rw[show Str.ofString "net"=("net":Str) from rfl,e5] at h2;exact⟨_,rfl,g1 _ (by rw[rr];exact if_pos (.inr (of_decide_eq_true h2))) _ (.refl _)⟩
    ·rw[show Str.ofString "net"=("net":Str) from rfl,e5] at h2;exact g2 (by rw[rr];exact if_neg fun z=>z.elim (fun z=>h (decide_eq_true z)) (fun z=>h2 (decide_eq_true z))) _ (.refl _)
  generalize hxs:(qAq (bW rows).length).filterMap (fun i=>((bW rows)[i]?).bind fun x=>(rows[i]?).bind fun r=>if r.2.k=4\/r.2.k=5 then some x else none)=xs at hd;refine⟨by show 0<=qAg;decide,fun l0 hl0=>?_⟩;have v2:=aI.aJ (o:=.lst []) hl0;have u2:=s1.trans (s2.trans v2);refine⟨D,l0,xs,rfl,rfl,aY.of (v2 _ _ hd),aY.of aC,_,rfl,?_⟩;generalize upd H2 l0 (.lst [])=H3 at v2 u2|-;refine dE (fun _=>k _ u2) (fun hne=>?_);have hx0:xs=[]:=qCp fun z=>hne (decide_eq_true z);have nk:∀r∈rows,r.2.k≠4/\r.2.k≠5:=fun r hr=>by
   rw[hx0] at hxs;obtain⟨i,hi,e⟩:=qKb hr;have z:=List.filterMap_eq_nil_iff.mp hxs i (List.mem_range.mpr (by rw[rl];exact hi));rw[show(bW rows)[i]?=some (V.ref r.1) by unfold bW;rw[qAj,qAc hi,e];rfl,qAc hi,e] at z;have z:(if r.2.k=4\/r.2.k=5 then some (V.ref r.1) else none)=none:=z;by_cases y:r.2.k=4\/r.2.k=5
   ·rw[if_pos y] at z;cases z
   ·exact⟨fun e=>y (.inl e),fun e=>y (.inr e)⟩
  clear hd hxs hne hx0
  dsimp only[bH];have sh:(1:Int)*2^(m:Int).toNat=((2^m:Nat):Int):=by rw[qDv,qIk];push_cast;rfl
  refine⟨_,rfl,_,_,rfl,rfl,⟨by lia,by lia,by decide⟩,_,_,rfl,rfl,?_⟩;dsimp only[bE];rw[sh];refine eY (σ':=[some (.ref c),some (.int (m:Int)),some (.str tx),some (.ref ls),some (.int dr),some (.str tx),some (.int (((2^m:Nat):Int)-1)),none,none]) rfl ?_;obtain⟨wd,hwd,wdl⟩:∃wd:Nat,dr%(((2^m:Nat):Int)-1+1)=(wd:Int)/\wd<2^m:=by
   rw[Int.sub_add_cancel];have z0:=qEh dr (b:=((2^m:Nat):Int)) (by lia);have z1:=qEc dr (b:=((2^m:Nat):Int)) (by lia);exact⟨(dr%((2^m:Nat):Int)).toNat,by lia,by lia⟩
  obtain⟨la,hla⟩:∃la:Nat,((2^m:Nat):Int)-1=(la:Int)/\la<2^m:=⟨2^m-1,by lia,by lia⟩;refine⟨_,rfl,_,rfl,_,rfl,_,_,rfl,rfl,_,_,rfl,rfl,(by show(0:Int)<((2^m:Nat):Int)-1+1;lia),Iv,fun l4 hl4=>?_⟩;dsimp only;rw[hwd,hla.1];have v4:=aI.aJ (o:=.lst [V.int 0,V.int (la:Int),V.int (wd:Int)]) hl4;have h44:upd H3 l4 (.lst [V.int 0,V.int (la:Int),V.int (wd:Int)]) l4=some (.lst [V.int 0,V.int (la:Int),V.int (wd:Int)]):=aC;generalize upd H3 l4 (.lst [V.int 0,V.int (la:Int),V.int (wd:Int)])=H4 at v4 h44|-;refine⟨_,rfl,(m:Int),rfl,by lia,by lia,?_⟩;refine An (lo:=0) (n:=m) (fun i=>some (.int ((2^i:Nat):Int))) (qBb (aQ (by lia))) (fun i H5 kk kk0 s5 hi g1 g2=>?_) fun D5 H5 hD5 s5 hd5=>?_
  ·refine⟨_,rfl,_,_,rfl,rfl,⟨by lia,by lia,by decide⟩,g1 _ ?_ _ (.refl _)⟩;rw[qHw (i:Int)];show some (V.int ((2^i:Nat):Int))=some (V.int (1*2^(i:Int).toNat));rw[qDv,qIk];push_cast;rfl
  have ed5:(qAq m).filterMap (fun i=>some (V.int ((2^i:Nat):Int)))=((qAq m).map fun i=>2^i).map fun g:Nat=>V.int (g:Int):=by
   rw[qBt,<- qEa];rfl
  rw[ed5] at hd5;refine⟨l4,D5,_,_,rfl,rfl,aY.of (s5 _ _ h44),aY.of hd5,?_,fun l6 hl6=>?_⟩
  ·rw[qAa,qAa,qCt];exact qBb (aQ (by show 3+_<=_;lia))
  obtain⟨gs,hgs,gsl⟩:∃gs:List Nat,[V.int 0,V.int (la:Int),V.int (wd:Int)]++((qAq m).map fun i=>2^i).map (fun g:Nat=>V.int (g:Int))=gs.map (fun g:Nat=>V.int (g:Int))/\∀g∈gs,g<2^m:=by
   refine⟨[0,la,wd]++(qAq m).map fun i=>2^i,by rw[qCc];rfl,fun g hg=>?_⟩;rcases List.mem_append.mp hg with z | z
   ·simp only[qDb,qBq,or_false] at z;rcases z with rfl | rfl | rfl
    ·exact hpos
    ·exact hla.2
    ·exact wdl
   ·obtain⟨i,hi,rfl⟩:=List.mem_map.mp z;exact Nat.pow_lt_pow_right (by decide) (List.mem_range.mp hi)
  rw[hgs];have v6:=aI.aJ (o:=.lst (gs.map fun g:Nat=>V.int (g:Int))) hl6;have h66:upd H5 l6 (.lst (gs.map fun g:Nat=>V.int (g:Int))) l6=some (.lst (gs.map fun g:Nat=>V.int (g:Int))):=aC;generalize upd H5 l6 (.lst (gs.map fun g:Nat=>V.int (g:Int)))=H6 at v6 h66|-;have u6:=u2.trans (v4.trans (s5.trans v6));have hsum:∀g,(rows.map fun r=>eR r.2 g).sum=Bm os g:=fun g=>by
   unfold Bm;refine congrArg List.sum (qLa (by rw[qAa,qAa,ol]) fun i h1 h2=>?_);rw[qAa] at h1 h2;rw[qHu,qHu];obtain⟨n4,n5⟩:=nk rows[i] (qCh h1);exact((rel i os[i] rows[i].2 (qAc h2) (by rw[qAj,qAc h1];rfl)).2 n4 n5 g).symm
  refine⟨l6,rfl,⟨_,aY.of h66⟩,?_⟩;refine jL (D:={ nx:=IB (tC (V.bl true)) { nx:=fun _ H'=>Q V.non H',rt:=Q },rt:=Q }) (xs:=gs.map fun g:Nat=>V.int (g:Int)) (fun i σ' H'=>aI H6 H'/\∃o7 o8:Option V,σ'=[some (.ref c),some (.int (m:Int)),some (.str tx),some (.ref ls),some (.int dr),some (.str tx),some (.int (la:Int)),o7,o8]) ⟨.refl _,_,_,rfl⟩ (fun i σ' H' _ hp=>aY.of (hp.1 _ _ h66)) ?_ ?_
  ·rintro i x σ' H7 hx ⟨s7,o7,o8,rfl⟩;obtain⟨g,hgm,rfl⟩:=List.mem_map.mp (qAu hx);have hg:=gsl g hgm;have u7:=u6.trans s7;dsimp only[bE];refine⟨_,rfl,c,CO,dx,_,cE,_,rfl,u7 _ _ h1,rfl,T.kZ.oc.cl,T.kZ.me,⟨_,D_CE⟩,_,rfl,c,m,os,_,rfl,co.same u7,.int _,(fun no=>?_),fun g' eg hg' H8 s8=>?_⟩
   ·exact absurd no (by rw[qO hg];decide)
   ·obtain rfl:g=g':=by have:=V.int.inj eg;lia
    dsimp only[bE];have u8:=u7.trans s8;have hls8:=u8 _ _ hls;refine⟨_,rfl,_,rfl,.int _,_,rfl,bG ?_⟩;refine⟨_,rfl,_,rfl,ls,rfl,⟨_,aY.of hls8⟩,?_⟩;refine cF (xs:=bW rows) (fun i _=>(rows[i]?).map fun r=>V.int (eR r.2 g)) (aY.of hls8) (by rw[rl];exact qBb (aQ (by lia))) (fun i y H9 kk kk0 s9 hy g1 g2=>?_) fun D9 H9 hD9 s9 hd9=>?_
    ·have hi:i<rows.length:=by
      obtain⟨z,_⟩:=List.getElem?_eq_some_iff.mp hy;rw[rl] at z;exact z
     obtain rfl:V.ref rows[i].1=y:=by
      unfold bW at hy;rw[qAj,qAc hi] at hy;exact Option.some.inj hy
     obtain⟨n4,n5⟩:=nk rows[i] (qCh hi);refine⟨_,rfl,_,rfl,rows[i].1,m,g,rows[i].2,rfl,ra.same (u8.trans s9) _ (qCh hi),n4,n5,m1,m6,hg,fun H5 s5=>g1 _ ?_ _ s5⟩;rw[qAc hi];rfl
    have ed:((qAq (bW rows).length).filterMap fun i=>((bW rows)[i]?).bind fun _=>(rows[i]?).map fun r=>V.int (eR r.2 g))=(rows.map fun r=>eR r.2 g).map V.int:=by
     rw[rl,qBt];refine Eq.trans (dD (g:=fun i=>(rows[i]?).bind fun r=>some (V.int (eR r.2 g))) fun i hi=>?_) ?_
     ·have hi:=List.mem_range.mp hi;rw[qAc (l:=bW rows) (by rw[rl];exact hi),qAc hi];rfl
     ·rw[cJ,qBx];rfl
    rw[ed] at hd9;refine⟨D9,_,rfl,.inl (aY.of hd9),rfl,_,rfl,z5 (congrArg V.int (hsum g).symm) ?_⟩;exact⟨s7.trans (s8.trans s9),_,_,rfl⟩
  ·rintro σ' H7 ⟨s7,o7,o8,rfl⟩;exact k _ (u6.trans s7)
def Oc(P:qBc)(w:qCd)(K:qAb)(mg:Str->Option qAf)(base:Heap)(fE fH RU:Addr)(H2:Hp)(lh:Addr)(m:Nat)(rows:List BI)(D:Addr)(i:Nat)(H:Hp):Prop :=
 aI H2 H/\∃(xs:List Addr) (hs:List Addr),xs.length=i/\hs.length=2*i/\H2 D=none/\H D=some (.lst (xs.map V.ref))/\H lh=some (.lst (hs.map V.ref))/\D≠lh /\
  (∀h∈hs,∃ys:List V,H h=some (.lst ys)/\ys.length<=100/\H2 h=none/\h≠D/\h≠lh) /\
  ∀(j:Nat) (x:Addr) (r:BI),xs[j]?=some x->rows[j]?=some r->∀H'',(∀b u,H b=some u->b≠lh->b∉hs->b≠D->H'' b=some u)->sZ P w K mg base fE fH RU H'' x m r.2
theorem Ed:∀{rows:List BI}{ys:List V},ys.length=rows.length->(∀(i:Nat) (y:V),ys[i]?=some y->∃r qs,rows[i]?=some r/\y = .str (g6 r.2 qs)/\qs.Perm r.2.ps)->∃rs:List (R4×List P3),ys=(rs.map fun q=>g6 q.1 q.2).map V.str/\(rs.map fun q=>q.1)=rows.map (fun r=>r.2)/\∀q∈rs,q.2.Perm q.1.ps
 | [],[],_,_=>⟨[],rfl,rfl,fun q hq=>by cases hq⟩
 | _::_,[],h,_=>by cases h
 | [],_::_,h,_=>by cases h
 | r::rows,y::ys,h,k=>by
  obtain⟨r',qs,e,rfl,pm⟩:=k 0 y rfl;cases e;obtain⟨rs,e1,e2,e3⟩:=Ed (rows:=rows) (ys:=ys) (by simpa using h) fun i y e=>k (i+1) y e;refine⟨(r.2,qs)::rs,by rw[e1];rfl,by rw[qBi,e2];rfl,fun q hq=>?_⟩;rcases List.mem_cons.mp hq with rfl | hq
  ·exact pm
  ·exact e3 q hq
theorem BF{m:Nat}(m6:m<=6):(m:Int).natAbs<10^60/\(("hands ":Str)++nW (m:Int)).length<=100:=by
 have hm:(m:Int).natAbs<10^60:=qBo (show(m:Int).natAbs<=6 by lia) (by decide +kernel);refine⟨hm,?_⟩;have l1:=dW hm;rw[Str.length_append];have:("hands ":Str).length=6:=rfl;lia
def wL(K:qAb):Sp:=fun vs H Q _=>∃(a:Addr) (ns:List Int),vs=[.ref a]/\aY K H a (ns.map V.int)/\ns.length<=63/\(∀i∈ns,Sm 1048577 i)/\∀H',Q (.bl true) H'
theorem gU:aK ["_law_script","_law_many","_law_some","_law_head","_law_text","_law_due","_law_drawn","_law_company","_law_more","_law_handed","_law_made_here","_law_row"] ["_law_script"] (aE FT):=by constructor<;>first|rfl|decide +kernel
theorem HB{f1 f2 f3 f4 f5 f6 f7:Addr}{fd1 fd2 fd3 fd4 fd5 fd6 fd7:qBd}(t:Tx K mg "law" FT ["_law_script"] f fd)(T:T K mg AL LN RU OW PL PA VO MA NE fE fH rR rO rP rA rV rM rN iR iO iP iA iV iM iN fL wR wO wP wA wV wM wN CO iC cH cE cW SE NG NL NT)
  (D_law_cell:Df P w K mg base cM 1 "_law_cell" ["_law_script","_law_k"] (Bx K) f1 fd1) (D_law_rules:Df P w K mg base cM 3 "_law_rules" ["_law_script","_law_many"] (DY K) f2 fd2)
  (D_law_turned:Df P w K mg base cM 1 "_law_turned" ["_law_pairs","_law_way"] BB f3 fd3) (D_law_part:Df P w K mg base cM 1 "_law_part" ["_law_head","_law_numbers","_law_pairs"] DZ f4 fd4)
  (D_law_object:Df P w K mg base cM 9 "_law_object" ["_law_row","_law_many","_law_handed"] (Eb P w K mg base fE fH RU) f5 fd5)
  (D_law_holds:Df P w K mg base cM 10 "_law_holds" ["_law_company","_law_many","_law_due","_law_some","_law_drawn"] (Ec P w K mg base fE fH RU CO) f6 fd6)
  (D_read:Df P w K mg base cM 10 "read" ["text"] (DW P w K mg base fE fH RU CO) f7 fd7)
  (D_CI:Md P w K mg base 4 ["self","many","rules"] (Dh P w K mg base fE fH RU CO NL) iC) :
  Df P w K mg base cM 12 "law" ["_law_script"] (wL K) f fd:=by
 refine t.jA gU (fun vs H Q E h=>?_) (fun cdv A outer s H vs Q E hr h=>?_)
 ·obtain⟨a,ns,rfl,_⟩:=h;rfl
 ·obtain⟨a,ns,rfl,hq,hns,hsm,k⟩:=h;refine⟨_,(aD (bF (i:=1) gU.nd rfl (by first|exact .inl rfl|exact .inr rfl) (aM cL aG (aM c9 (bD D_law_cell hr (by decide) (by rfl) (aA (pv 0) (aA aG aB))) aG)))
   (aD (bF (i:=2) gU.nd rfl (by first|exact .inl rfl|exact .inr rfl) (bD D_law_rules hr (by decide) (by rfl) (aA (pv 0) (aA (pv 1) aB))))
   (aD (bF (i:=3) gU.nd rfl cK (oW (cP aU (cP (jB (pv 1)) kI))))
   (aD (bF (i:=4) gU.nd rfl cK (dP qBp qCm qCl dY aU (aA (aM cO (bZ (aA (pv 3) aB)) (bM (NB:=["_law_row"]) (pick:=[none]) (bR (by with_unfolding_all rfl) (by exact trivial) rfl (by decide +kernel) (by decide +kernel) (by rfl) (by rfl)) rfl
     (bL (pv 2)) (fun _ _ _=>aP (i:=0) (show(["_law_row"]:List Str).Nodup from by decide +kernel) rfl cK)
     (fun _ _ _=>bS) (fun _ _ _=>(bD D_law_part hr (by decide) (by rfl) (aA (a9 (e7 K) (pv 0) aG (fun _ _=>rfl)) (aA (a9 (e7 K) (pv 0) aG (fun _ _=>rfl)) (aA (bD D_law_turned hr (by decide) (by rfl) (aA (a9 (e7 K) (pv 0) aG (fun _ _=>rfl)) (aA (a9 (e7 K) (pv 0) aG (fun _ _=>rfl)) aB))) aB))))))) aB)))
   (aD (bF (i:=5) gU.nd rfl cK (dP qBp qCm qCl dY aU (aA (aM cO (bZ (aA (pv 3) aB)) (bM (NB:=["_law_row"]) (pick:=[none]) (bR (by with_unfolding_all rfl) (by exact trivial) rfl (by decide +kernel) (by decide +kernel) (by rfl) (by rfl)) rfl
     (bL (pv 2)) (fun _ _ _=>aP (i:=0) (show(["_law_row"]:List Str).Nodup from by decide +kernel) rfl cK)
     (fun _ _ _=>bS) (fun _ _ _=>(bD D_law_part hr (by decide) (by rfl) (aA (a9 (e7 K) (pv 0) aG (fun _ _=>rfl)) (aA (a9 (e7 K) (pv 0) aG (fun _ _=>rfl)) (aA (a9 (e7 K) (pv 0) aG (fun _ _=>rfl)) aB))))))) aB)))
   (aD (bF (i:=6) gU.nd rfl cK (bD D_law_cell hr (by decide) (by rfl) (aA (pv 0) (aA aG aB))))
   (aD (bF (i:=7) gU.nd rfl cK (bD D_read hr (by decide) (by rfl) (aA (pv 4) aB)))
   (aD (bK (dR (cY (bD D_law_holds hr (by decide) (by rfl) (aA (pv 7) (aA (pv 1) (aA (pv 5) (aA (pv 2) (aA (pv 6) aB)))))))) (aH (aN iZ)) aX)
   (aD (bF (i:=8) gU.nd rfl cK (aM cL aG (aM c9 (aM cL (pv 1) (bD D_law_cell hr (by decide) (by rfl) (aA (pv 0) (aA aG aB)))) aG)))
   (aD (bK (dR (cY (bD D_law_holds hr (by decide) (by rfl) (aA (bD D_read hr (by decide) (by rfl) (aA (oW (cP aU (cP (jB (pv 8)) kI))) aB)) (aA (pv 8) (aA (oW (cP aU (cP (jB (pv 8)) kI))) (aA (bZ aB) (aA aG aB)))))))) (aH (aN iZ)) aX)
   (aD (bF (i:=9) gU.nd rfl (by first|exact .inl rfl|exact .inr rfl) (bZ aB))
   (aD (bF (i:=10) gU.nd rfl cK (cI bQ T.MX D_CI hr (by decide) (by rfl) T.Gb (aA (pv 1) (aA (bM (NB:=["_law_row","_law_handed","_law_many"]) (pick:=[none,some 9,some 1]) (bR (by with_unfolding_all rfl) (by exact(And.intro rfl (And.intro rfl trivial))) rfl (by decide +kernel) (by decide +kernel) (by rfl) (by rfl)) rfl
     (bL (pv 2)) (fun _ _ _=>aP (i:=0) (show(["_law_row","_law_handed","_law_many"]:List Str).Nodup from by decide +kernel) rfl cK)
     (fun _ _ _=>bS) (fun _ _ _=>(bD D_law_object hr (by decide) (by rfl) (aA (pv 0) (aA (pv 2) (aA (pv 1) aB)))))) aB))))
   (aD (gK PassesOwn.never rfl (bL (pv 9)) (aP (i:=11) gU.nd rfl (by first|exact .inl rfl|exact .inr rfl))
    (aH (bN (ED qCz PySem.F.slot_list_clear PySem.F.type_list_clear xW (pv 11)))))
   (aD (bK (dR (cY (bD D_law_holds hr (by decide) (by rfl) (aA (pv 10) (aA (pv 1) (aA (pv 5) (aA (pv 2) (aA (pv 6) aB)))))))) (aH (aN iZ)) aX)
   (aH (aN (jF (bD D_law_holds hr (by decide) (by rfl) (aA (bD D_read hr (by decide) (by rfl) (aA (pv 5) aB)) (aA (pv 1) (aA (pv 5) (aA (pv 2) (aA (pv 6) aB)))))) (j9 (bD D_law_holds hr (by decide) (by rfl) (aA (pv 7) (aA (pv 1) (aA (pv 5) (aA (pv 2) (aA (pv 6) aB)))))))))))))))))))))))),?_⟩
  refine⟨_,rfl,a,ns,0,rfl,hq,hsm,by decide,fun c0 _=>⟨_,_,rfl,rfl,(by show(0:Int)<6;decide),_,_,rfl,rfl,?_⟩⟩;obtain⟨m,hm,m1,m6⟩:∃m:Nat,1+c0%6=(m:Int)/\1<=m/\m<=6:=⟨(1+c0%6).toNat,by lia,by lia,by lia⟩;show bE 1 (V.int (1+c0%6)) _ _ _;rw[hm];have h64:2^m<=64:=qBr (n:=2) (by decide) m6;refine⟨_,rfl,_,rfl,a,ns,m,rfl,hq,hsm,hns,m1,m6,fun lS rows H1 hlS s1 hS1 r12 rows1=>?_⟩;have rrl:(bW rows).length=rows.length:=by unfold bW;rw[qAa]
  dsimp only[bE];have goods:∀r∈rows,GoodR m r.2:=fun r hr=>let ⟨_,_,_,_,_,_,_,g,_⟩:=rows1 r hr;g;obtain⟨hm60,lhd⟩:=BF m6;have eh:Str.empty++Str.ofString "hands "=("hands ":Str):=rfl;have lt:(("hands ":Str)++nW (m:Int)).length<=qAg:=qAt lhd (by decide);refine⟨_,rfl,by decide,_,rfl,(m:Int),rfl,eX hm60,nW (m:Int),rfl,by rw[eh];exact lt,by rw[eh];exact lt,?_⟩;rw[eh];dsimp only[bE];refine eY (σ':=[some (.ref a),some (.int (m:Int)),some (.ref lS),some (.str (("hands ":Str)++nW (m:Int))),none,none,none,none,none,none,none,none]) rfl ?_;refine⟨rfl,_,rfl,nK,fun l2 hl2=>?_⟩;have v2:=aI.aJ (o:=.lst [V.str (("hands ":Str)++nW (m:Int))]) hl2;have h22:upd H1 l2 (.lst [V.str (("hands ":Str)++nW (m:Int))]) l2=some (.lst [V.str (("hands ":Str)++nW (m:Int))]):=aC;generalize upd H1 l2 (.lst [V.str (("hands ":Str)++nW (m:Int))])=H2 at v2 h22|-;have hS2:=v2 _ _ hS1;have rows2:=rows1.same v2;refine⟨_,rfl,lS,rfl,⟨_,aY.of hS2⟩,?_⟩;have rowat:∀{i:Nat}{x:V},(bW rows)[i]?=some x->∃r,rows[i]?=some r/\x = .ref r.1/\r∈rows:=fun {i x} hx=>by
   unfold bW at hx;rw[qAj] at hx;cases e:rows[i]? with
   | none=>rw[e] at hx;cases hx
   | some r=>rw[e] at hx;exact⟨r,rfl,(Option.some.inj hx).symm,qAu e⟩
  refine oQ (xs:=bW rows) (fun i y _=>∃r qs,rows[i]?=some r/\y = .str (g6 r.2 qs)/\qs.Perm r.2.ps) (fun i y G G' _ h=>h) (aY.of hS2) (by rw[rrl];exact qBb (aQ (by lia))) (fun i x H3 kk kk0 s3 hx g1=>?_) fun D ys H3 hD s3 hy hR hd=>?_
  ·obtain⟨r,er,rfl,hr⟩:=rowat hx;obtain⟨ln,lp,bs,q1,q2,q3,q4,q5,q6⟩:=rows2.same s3 r hr;have a0:fK [V.str (fX r.2.k),V.ref ln,V.ref lp,V.int (r.2.way:Int)] 0=some (.str (fX r.2.k)):=rfl;have a1:fK [V.str (fX r.2.k),V.ref ln,V.ref lp,V.int (r.2.way:Int)] 1=some (.ref ln):=rfl;have a2:fK [V.str (fX r.2.k),V.ref ln,V.ref lp,V.int (r.2.way:Int)] 2=some (.ref lp):=rfl;have a3:fK [V.str (fX r.2.k),V.ref ln,V.ref lp,V.int (r.2.way:Int)] 3=some (.int (r.2.way:Int)):=rfl;exact⟨_,rfl,r.1,_,_,_,rfl,rfl,dG.of q1,a0,_,rfl,r.1,_,_,_,rfl,rfl,dG.of q1,a1,_,rfl,r.1,_,_,_,rfl,rfl,dG.of q1,a2,_,rfl,r.1,_,_,_,rfl,rfl,dG.of q1,a3,lp,r.2.way,bs,r.2.ps,rfl,q6,q3,q4,q5.pl,fun l bs' qs H4 hl s4 hl4 a4 pm=>⟨ln,l,bs',m,r.2,qs,rfl,q5,m6,s4 _ _ q2,hl4,a4,pm,fun H5 s5=>g1 _ _ (s4.trans s5) ⟨r,qs,er,rfl,pm⟩⟩⟩
  rw[rrl] at hy;obtain⟨rs,rfl,ers,prs⟩:=Ed hy hR;have rsl:rs.length=rows.length:=by
   have z:=congrArg qKa ers;rw[qAa,qAa] at z;exact z
  have grs:∀q∈rs,GoodR m q.1/\q.2.Perm q.1.ps:=fun q hq=>by
   have z:q.1∈rows.map fun r=>r.2:=by rw[<- ers];exact List.mem_map.mpr ⟨q,hq,rfl⟩
   obtain⟨r,hr,e⟩:=List.mem_map.mp z;exact⟨by rw[<- e];exact goods r hr,prs q hq⟩
  refine⟨l2,D,_,_,rfl,rfl,aY.of (s3 _ _ h22),aY.of hd,(by rw[qAa,qAa];exact dJ (by show 1<=8;decide) (by lia)),fun l4 hl4=>?_⟩;refine⟨_,l4,(("hands ":Str)++nW (m:Int))::rs.map fun q=>g6 q.1 q.2,rfl,rfl,aY.of aC,cw_room lhd (by rw[qAa];lia) (fun s hs=>?_),?_⟩
  ·obtain⟨q,hq,rfl⟩:=List.mem_map.mp hs;exact qAt (nG (grs q hq).1 m6 (grs q hq).2) (by decide)
  have u4:=v2.trans (s3.trans (aI.aJ (o:=.lst ([V.str (("hands ":Str)++nW (m:Int))]++(rs.map fun q=>g6 q.1 q.2).map V.str)) hl4));generalize upd H3 l4 (.lst ([V.str (("hands ":Str)++nW (m:Int))]++(rs.map fun q=>g6 q.1 q.2).map V.str))=H4 at u4|-;show bE 4 (V.str (nE m (rs.map fun q=>g6 q.1 q.2))) _ _ _;dsimp only[bE];clear hd s3 hD hR hy hl4 h22 hS2 rows2 v2 hl2;refine eY (σ':=[some (.ref a),some (.int (m:Int)),some (.ref lS),some (.str (("hands ":Str)++nW (m:Int))),some (.str (nE m (rs.map fun q=>g6 q.1 q.2))),none,none,none,none,none,none,none]) rfl ?_;have hS4:=u4 _ _ hS1;have rows4:=rows1.same u4;refine⟨rfl,_,rfl,nK,fun l5 hl5=>?_⟩;have v5:=aI.aJ (o:=.lst [V.str (("hands ":Str)++nW (m:Int))]) hl5;have h55:upd H4 l5 (.lst [V.str (("hands ":Str)++nW (m:Int))]) l5=some (.lst [V.str (("hands ":Str)++nW (m:Int))]):=aC;generalize upd H4 l5 (.lst [V.str (("hands ":Str)++nW (m:Int))])=H5 at v5 h55|-;have hS5:=v5 _ _ hS4;have rows5:=rows4.same v5;refine⟨_,rfl,lS,rfl,⟨_,aY.of hS5⟩,?_⟩;refine cF (xs:=bW rows) (fun i _=>(rows[i]?).map fun r=>V.str (cR r.2)) (aY.of hS5) (by rw[rrl];exact qBb (aQ (by lia))) (fun i x H6 kk kk0 s6 hx g1 g2=>?_) fun D H6 hD s6 hd=>?_
  ·obtain⟨r,er,rfl,hr⟩:=rowat hx;obtain⟨ln,lp,bs,q1,q2,q3,q4,q5,q6⟩:=rows5.same s6 r hr;have a0:fK [V.str (fX r.2.k),V.ref ln,V.ref lp,V.int (r.2.way:Int)] 0=some (.str (fX r.2.k)):=rfl;have a1:fK [V.str (fX r.2.k),V.ref ln,V.ref lp,V.int (r.2.way:Int)] 1=some (.ref ln):=rfl;have a2:fK [V.str (fX r.2.k),V.ref ln,V.ref lp,V.int (r.2.way:Int)] 2=some (.ref lp):=rfl;exact⟨_,rfl,r.1,_,_,_,rfl,rfl,dG.of q1,a0,_,rfl,r.1,_,_,_,rfl,rfl,dG.of q1,a1,_,rfl,r.1,_,_,_,rfl,rfl,dG.of q1,a2,ln,lp,bs,m,r.2,r.2.ps,rfl,q5,m6,q2,q3,q4,.refl _,fun H7 s7=>g1 _ (by rw[er];rfl) _ s7⟩
  have ed:((qAq (bW rows).length).filterMap fun i=>((bW rows)[i]?).bind fun _=>(rows[i]?).map fun r=>V.str (cR r.2))=(rows.map fun r=>cR r.2).map V.str:=by
   rw[rrl,qBt];refine Eq.trans (dD (g:=fun i=>(rows[i]?).bind fun r=>some (V.str (cR r.2))) fun i hi=>?_) ?_
   ·have hi:=List.mem_range.mp hi;rw[qAc (l:=bW rows) (by rw[rrl];exact hi),qAc hi];rfl
   ·rw[cJ,qBx];rfl
  rw[ed] at hd;refine⟨l5,D,_,_,rfl,rfl,aY.of (s6 _ _ h55),aY.of hd,(by rw[qAa,qAa];exact dJ (by show 1<=8;decide) (by lia)),fun l7 hl7=>?_⟩;refine⟨_,l7,(("hands ":Str)++nW (m:Int))::rows.map fun r=>cR r.2,rfl,rfl,aY.of aC,cw_room lhd (by rw[qAa];lia) (fun s hs=>?_),?_⟩
  ·obtain⟨r,hr,rfl⟩:=List.mem_map.mp hs;exact qAt (nG (goods r hr) m6 (.refl _)) (by decide)
  have u7:=u4.trans (v5.trans (s6.trans (aI.aJ (o:=.lst ([V.str (("hands ":Str)++nW (m:Int))]++(rows.map fun r=>cR r.2).map V.str)) hl7)));generalize upd H6 l7 (.lst ([V.str (("hands ":Str)++nW (m:Int))]++(rows.map fun r=>cR r.2).map V.str))=H7 at u7|-;show bE 5 (V.str (nE m (rows.map fun r=>cR r.2))) _ _ _;dsimp only[bE];clear hd s6 hD hl7 h55 hS5 rows5 v5 hl5 ed rows4 hS4 u4;refine eY (σ':=[some (.ref a),some (.int (m:Int)),some (.ref lS),some (.str (("hands ":Str)++nW (m:Int))),some (.str (nE m (rs.map fun q=>g6 q.1 q.2))),some (.str (nE m (rows.map fun r=>cR r.2))),none,none,none,none,none,none]) rfl ?_;have u17:=s1.trans u7;refine⟨_,rfl,a,ns,1,rfl,u17.seq hq,hsm,by decide,fun dr _=>?_⟩;dsimp only[bE];refine⟨_,rfl,m,rs,rfl,grs,by lia,m1,m6,fun c H8 s8 co8=>?_⟩;rw[ers] at co8;dsimp only[bE];refine eY (σ':=[some (.ref a),some (.int (m:Int)),some (.ref lS),some (.str (("hands ":Str)++nW (m:Int))),some (.str (nE m (rs.map fun q=>g6 q.1 q.2))),some (.str (nE m (rows.map fun r=>cR r.2))),some (.int dr),some (.ref c),none,none,none,none]) rfl ?_;have u78:=u7.trans s8;have hS8:=u78 _ _ hS1;have rows8:=rows1.same u78;refine⟨_,rfl,_,rfl,_,rfl,_,rfl,_,rfl,c,lS,m,dr,rows,rfl,co8,hS8,rows8,m1,m6,fun H9 s9=>⟨_,rfl,bG ?_⟩⟩;dsimp only[bH];have u9:=u17.trans (s8.trans s9);refine⟨_,rfl,_,rfl,a,ns,2,rfl,u9.seq hq,hsm,by decide,fun c2 _=>⟨_,_,rfl,rfl,_,_,rfl,rfl,(by show(0:Int)<6;decide),_,_,rfl,rfl,?_⟩⟩;obtain⟨n,hn,n1,n6⟩:∃n:Nat,1+((m:Int)+c2)%6=(n:Int)/\1<=n/\n<=6:=⟨(1+((m:Int)+c2)%6).toNat,by lia,by lia,by lia⟩;show bE 8 (V.int (1+((m:Int)+c2)%6)) _ _ _;rw[hn];dsimp only[bE];obtain⟨hn60,lhn⟩:=BF n6;have ltn:(("hands ":Str)++nW (n:Int)).length<=qAg:=qAt lhn (by decide);refine⟨_,rfl,by decide,_,rfl,(n:Int),rfl,eX hn60,nW (n:Int),rfl,by rw[eh];exact ltn,by rw[eh];exact ltn,?_⟩;rw[eh];refine⟨n,[],rfl,(fun q hq=>by cases hq),by decide,n1,n6,fun cn H10 s10 co10=>?_⟩;refine⟨_,rfl,_,rfl,by decide,_,rfl,(n:Int),rfl,eX hn60,nW (n:Int),rfl,by rw[eh];exact ltn,by rw[eh];exact ltn,by show 0<=qAg;decide,fun le hle=>?_⟩;rw[eh];have v11:=aI.aJ (o:=.lst []) hle;refine⟨cn,le,n,0,[],rfl,co10.same v11,aC,(fun r hr=>by cases hr),n1,n6,fun H12 s12=>⟨_,rfl,bG ?_⟩⟩;dsimp only[bH];have s812:=s9.trans (s10.trans (v11.trans s12));have hS12:=s812 _ _ hS8;have rows12:=rows8.same s812;have co12:=co8.same s812;clear s10 v11 s12 co10 hle s9 u9;refine⟨by show 0<=qAg;decide,fun lh hlh=>?_⟩;have hS13:=aI.aJ (o:=.lst []) hlh _ _ hS12;dsimp only[bE];refine eY (σ':=[some (.ref a),some (.int (m:Int)),some (.ref lS),some (.str (("hands ":Str)++nW (m:Int))),some (.str (nE m (rs.map fun q=>g6 q.1 q.2))),some (.str (nE m (rows.map fun r=>cR r.2))),some (.int dr),some (.ref c),some (.int (n:Int)),some (.ref lh),none,none]) rfl ?_;refine⟨_,rfl,_,rfl,lS,rfl,⟨_,aY.of hS13⟩,?_⟩;refine xY (xs:=bW rows) (Oc P w K mg base fE fH RU H12 lh m rows) (fun D hD=>?_) (fun D i H' hp=>aY.of (hp.1 _ _ hS12)) (fun D i x H4 kk kk0 hx hp hk=>?_) fun lo H4 hp=>?_
  ·have nD:D≠lh:=fun z=>by rw[z,aC] at hD;cases hD
   have v:=(aI.aJ (o:=.lst []) hlh).trans (aI.aJ (o:=.lst []) hD);refine⟨v,[],[],rfl,rfl,?_,aC,?_,nD,(fun h hh=>by cases hh),(fun j x r e=>by cases e)⟩
   ·have z:=hD;rw[aL nD] at z;exact z
   ·rw[aL nD.symm,aC];rfl
  ·obtain⟨r,er,rfl,hr⟩:=rowat hx;have hi:i<rows.length:=(List.getElem?_eq_some_iff.mp er).1;obtain⟨s4,xs,hs,xl,hl,fD,hD,hlh4,nD,hhs,hos⟩:=hp;have row12:=rows12 r hr;refine⟨_,rfl,_,rfl,_,rfl,r.1,lh,m,r.2,hs.map V.ref,rfl,row12.same s4,m1,m6,hlh4,by rw[qAa];lia,(fun sx ln lp wy e=>?_),fun x l1 l2 F ys zs H5 k5 hlh5 fl1 fl2 hl15 hl25 yl zl ob hF=>?_⟩
   ·obtain⟨ln',lp',bs',q1,q2,q3,_⟩:=row12;have z:=(s4 _ _ q1).symm.trans e;injection z with z;injection z with z;injection z with z0 z;injection z with z2 z;injection z with z3 z;injection z2 with z2;injection z3 with z3;subst z2 z3;exact⟨aT q2 hlh,aT q3 hlh⟩
   ·have hD5:=k5 _ _ nD hD;have n1D:l1≠D:=(aT hD fl1).symm;have n1h:l1≠lh:=(aT hlh4 fl1).symm;have n2D:l2≠D:=(aT hD fl2).symm;have n2h:l2≠lh:=(aT hlh4 fl2).symm;refine hk _ _ _ hD5 (by rw[qAa];exact aQ (by lia)) ?_;have k6:∀b o,b≠D->H5 b=some o->upd H5 D (.lst (xs.map V.ref++[V.ref x])) b=some o:=fun b o n e=>by rw[aL n];exact e
    have hD6:upd H5 D (.lst (xs.map V.ref++[V.ref x])) D=some (.lst ((xs++[x]).map V.ref)):=by rw[aC,qCc];rfl
    generalize upd H5 D (.lst (xs.map V.ref++[V.ref x]))=H6 at k6 hD6|-;refine⟨fun b o e=>k6 _ _ (fun z=>by rw[z,fD] at e;cases e) (k5 _ _ (fun z=>by rw[z,hlh] at e;cases e) (s4 _ _ e)),xs++[x],hs++[l1,l2],by rw[qAn,xl];rfl,by rw[qAn,hl];show 2*i+2=2*(i+1);lia,fD,hD6,?_,nD,fun h hh=>?_,fun j y r' e1 e2=>?_⟩
    ·rw[qCc];exact k6 _ _ nD.symm hlh5
    ·rcases List.mem_append.mp hh with z | z
     ·obtain⟨us,e1,e2,e3,e4,e5⟩:=hhs h z;exact⟨us,k6 _ _ e4 (k5 _ _ e5 e1),e2,e3,e4,e5⟩
     ·simp only[qDb,qBq,or_false] at z;rcases z with rfl | rfl
      ·exact⟨ys,k6 _ _ n1D hl15,yl,s4.free fl1,n1D,n1h⟩
      ·exact⟨zs,k6 _ _ n2D hl25,zl,s4.free fl2,n2D,n2h⟩
    ·have nin:∀b,b∉hs++[l1,l2]->b∉hs/\b≠l1/\b≠l2:=fun b hb=>⟨fun z=>hb (qDs _ z),fun z=>hb (qAp _ (by simp[z])),fun z=>hb (qAp _ (by simp[z]))⟩;rcases qBh j xs.length with hj | hj
     ·rw[qCa hj] at e1;refine fun H'' kp=>hos j y r' e1 e2 H'' fun b u eb n1 n2 n3=>kp b u (k6 _ _ n3 (k5 _ _ n1 eb)) n1 (fun y=>?_) n3;rcases List.mem_append.mp y with y | y
      ·exact n2 y
      ·simp only[qDb,qBq,or_false] at y;rcases y with rfl | rfl
       ·rw[fl1] at eb;cases eb
       ·rw[fl2] at eb;cases eb
     ·rw[qBy hj] at e1;have j0:j-xs.length=0:=by
       obtain⟨w1,_⟩:=List.getElem?_eq_some_iff.mp e1;have w1:j-xs.length<1:=w1;lia
      rw[j0] at e1;cases e1;rw[show j=i by lia,er] at e2;cases e2;refine fun H'' kp=>ob H'' (fun b hb u eb=>?_) fun b us e=>?_
      ·obtain⟨n1,n2,n3,n4⟩:=hF b hb;have nb:b≠D:=(aT hD n4).symm;refine kp b u (k6 _ _ nb eb) n1 (fun y=>?_) nb;rcases List.mem_append.mp y with y | y
       ·obtain⟨us,e1,_⟩:=hhs b y;rw[n4] at e1;cases e1
       ·simp only[qDb,qBq,or_false] at y;rcases y with y | y
        ·exact n2 y
        ·exact n3 y
      ·have nl:∀{q:Addr}{qs:List V},H5 q=some (.lst qs)->b≠q:=fun {q qs} h z=>by rw[z,h] at e;cases e
       refine kp b _ (k6 _ _ (nl hD5) e) (nl hlh5) (fun y=>?_) (nl hD5);rcases List.mem_append.mp y with y | y
       ·obtain⟨us',e1,_,_,e4,e5⟩:=hhs b y;exact nl (k5 _ _ e5 e1) rfl
       ·simp only[qDb,qBq,or_false] at y;rcases y with y | y
        ·exact nl hl15 y
        ·exact nl hl25 y
  rw[rrl] at hp;obtain⟨s4,xs,hs,xl,hl,fD,hlo4,hlh4,nD,hhs,hos⟩:=hp;have a2f:∀H'',(∀b u,H4 b=some u->b≠lh->b∉hs->b≠lo->H'' b=some u)->A2 (fun x r=>sZ P w K mg base fE fH RU H'' x m r) xs (rows.map fun r=>r.2):=fun H'' kp=>Bu (by rw[qAa];exact xl) fun j x r e1 e2=>by
   rw[qAj] at e2;cases e:rows[j]? with
   | none=>rw[e] at e2;cases e2
   | some r' =>
    rw[e] at e2;cases e2;exact hos j x r' e1 e H'' kp
  obtain⟨os,e1,e2,e3,e4,e5⟩:=Bv (a2f H4 fun b u e _ _ _=>e);rw[qAa] at e4;rw[e1] at hlo4;refine fun c3 dc hc hdc ne=>wG hc hdc ne hlo4 (by lia) e3 e2 m1 m6 fun lc H5 hlc s5 hc5 hlc5=>⟨rfl,?_⟩;dsimp only[bE];refine eY (σ':=[some (.ref a),some (.int (m:Int)),some (.ref lS),some (.str (("hands ":Str)++nW (m:Int))),some (.str (nE m (rs.map fun q=>g6 q.1 q.2))),some (.str (nE m (rows.map fun r=>cR r.2))),some (.int dr),some (.ref c),some (.int (n:Int)),some (.ref lh),some (.ref c3),none]) rfl ?_;have nhs:∀b,H4 b=none->b∉hs:=fun b e z=>by
   obtain⟨ys,e1,_⟩:=hhs b z;rw[e1] at e;cases e
  have nlh:lh∉hs:=fun z=>by
   obtain⟨ys,_,_,_,_,e⟩:=hhs lh z;exact e rfl
  have hlh5:=s5 _ _ hlh4;refine⟨_,rfl,lh,rfl,⟨_,aY.of hlh5⟩,?_⟩;refine jL (xs:=hs.map V.ref) (fun i σ' H'=>(∀b u,H5 b=some u->b∉hs->H' b=some u)/\(∀h∈hs,∃ys:List V,H' h=some (.lst ys))/\∃o:Option V,σ'=[some (.ref a),some (.int (m:Int)),some (.ref lS),some (.str (("hands ":Str)++nW (m:Int))),some (.str (nE m (rs.map fun q=>g6 q.1 q.2))),some (.str (nE m (rows.map fun r=>cR r.2))),some (.int dr),some (.ref c),some (.int (n:Int)),some (.ref lh),some (.ref c3),o]) ⟨fun b u e _=>e,fun h hh=>?_,_,rfl⟩ ?_ ?_ ?_
  ·obtain⟨ys,e,_⟩:=hhs h hh;exact⟨ys,s5 _ _ e⟩
  ·rintro i σ' H' _ ⟨kp,_⟩;exact aY.of (kp _ _ hlh5 nlh)
  ·rintro i x σ' H' hx ⟨kp,kh,o,rfl⟩;obtain⟨h,hh,rfl⟩:=List.mem_map.mp (qAu hx);obtain⟨ys,e⟩:=kh h hh;refine⟨_,rfl,.inl ⟨rfl,_,aY.of e⟩,h,_,rfl,rfl,e,fun b u e1 n2=>?_,fun h' hh'=>?_,_,rfl⟩
   ·rw[aL fun z=>n2 (by rw[z];exact hh)];exact kp b u e1 n2
   ·by_cases z:h'=h
    ·rw[z];exact⟨[],aC⟩
    ·rw[aL z];exact kh h' hh'
  rintro σ' H6 ⟨kp,_,o,rfl⟩;have s126:aI H12 H6:=fun b u e=>kp b u (s5 _ _ (s4 _ _ e)) fun z=>by
   obtain⟨ys,_,_,e1,_⟩:=hhs b z;rw[e1] at e;cases e
  have hS6:=s126 _ _ hS12;have rows6:=rows12.same s126;have co6:=co12.same s126;have cm6:Iu P w K mg base fE fH RU CO H6 c3 m (rows.map fun r=>r.2):=by
   obtain⟨os',e1',e2',e3',e4',e5'⟩:=Bv (a2f H6 fun b u e _ n2 _=>kp b u (s5 _ _ e) n2);rw[qAa] at e4';exact⟨os',⟨dc,lc,kp _ _ hc5 (nhs _ hc),by rw[<- e1',e1];exact kp _ _ hlc5 (nhs _ hlc),by lia,m1,m6,e3',e2'⟩,by rw[qAa];exact e4',e5'⟩
  dsimp only;refine⟨_,rfl,_,rfl,_,rfl,_,rfl,_,rfl,c3,lS,m,dr,rows,rfl,cm6,hS6,rows6,m1,m6,fun H7 s7=>⟨_,rfl,bG ?_⟩⟩;dsimp only[bH];have edue:(rows.map fun r=>cR r.2)=(rows.map fun r=>(r.2,r.2.ps)).map fun q=>g6 q.1 q.2:=by
   rw[qBt];rfl
  refine⟨_,rfl,m,rows.map fun r=>(r.2,r.2.ps),by rw[edue];rfl,(fun q hq=>?_),by rw[qAa];lia,m1,m6,fun c4 H8' s8' co8'=>?_⟩
  ·obtain⟨r,hr,rfl⟩:=List.mem_map.mp hq;exact⟨goods r hr,.refl _⟩
  have er4:((rows.map fun r=>(r.2,r.2.ps)).map fun q:R4×List P3=>q.1)=rows.map fun r=>r.2:=by
   rw[qBt];rfl
  rw[er4] at co8';have s68:=s7.trans s8';refine⟨_,rfl,_,rfl,_,rfl,_,rfl,c4,lS,m,dr,rows,rfl,co8',s68 _ _ hS6,rows6.same s68,m1,m6,fun H9' s9'=>⟨_,rfl,?_⟩⟩;have s69:=s68.trans s9';exact cT ⟨_,rfl,_,rfl,_,rfl,_,rfl,_,rfl,c,lS,m,dr,rows,rfl,co6.same s69,s69 _ _ hS6,rows6.same s69,m1,m6,fun H10' s10'=>k _⟩
end
end K13
namespace PySem.W.Fast
def tw12161083233937402628:Unit:=()
def tw6819377910973275314:Unit:=()
def tw3905234458407113968:Unit:=()
def tw13957993978548702650:Unit:=()
def tw1066165282602764440:Unit:=()
def tw15232724480475600762:Unit:=()
def tw10847501840145134955:Unit:=()
def tw6236317933741851913:Unit:=()
def tw945774896919785444:Unit:=()
def tw695850134650565808:Unit:=()
def tw4945802297747173833:Unit:=()
def tw7254860700894744780:Unit:=()
def tw10709145088883126354:Unit:=()
def tw18202143741761474843:Unit:=()
def tw8598833635715133287:Unit:=()
def tw3654248437286030502:Unit:=()
def tw5738293892040783835:Unit:=()
def tw16541891800310355398:Unit:=()
def tw7570708596780806113:Unit:=()
def tw878025951095244435:Unit:=()
def tw15557247610057850701:Unit:=()
def tw14376842410235579768:Unit:=()
def tw7159836475556080339:Unit:=()
def tw16286412777021329810:Unit:=()
def tw8468516477962778704:Unit:=()
def tw18117958682635941658:Unit:=()
def tw16516933600436120577:Unit:=()
def tw1392038631003367677:Unit:=()
def tw17424092579761926598:Unit:=()
def tw14267663321354464948:Unit:=()
def tw3859419146838252062:Unit:=()
def tw9036563984679252250:Unit:=()
def tw18184005900321455138:Unit:=()
def tw8521403971579654352:Unit:=()
def tw6625368179165384336:Unit:=()
def tw16891427165597944233:Unit:=()
def tw6585019264198374825:Unit:=()
def tw6843723437034108064:Unit:=()
def tw13306096728402945967:Unit:=()
def tw15996090612341686191:Unit:=()
def tw4404024577057793515:Unit:=()
def tw314717863121362222:Unit:=()
def tw13542071992091435483:Unit:=()
def tw14102695099408677660:Unit:=()
def tw17924295895900891526:Unit:=()
def tw8743786324400849188:Unit:=()
def tw13854108598511102265:Unit:=()
def tw4336815575005706914:Unit:=()
def tw11282120794213048566:Unit:=()
def tw4878993963578355975:Unit:=()
def tw154782781190445001:Unit:=()
def tw6129485467258275771:Unit:=()
def tw609620890001876566:Unit:=()
def tw12479488255323130959:Unit:=()
def tw5407057003965516728:Unit:=()
def tw17755616424654279778:Unit:=()
def tw16907495358501183607:Unit:=()
def tw16775424565099783004:Unit:=()
def tw15539320729307747069:Unit:=()
def tw4231481494193061252:Unit:=()
def tw12127406065306450541:Unit:=()
def tw7285599351486891562:Unit:=()
def tw14730878744356149102:Unit:=()
def tw7685513757401039897:Unit:=()
def tw9928182077874469594:Unit:=()
def tw270751499346722742:Unit:=()
def tw12679881967567250561:Unit:=()
def tw16296476246797741933:Unit:=()
def tw16666210808539967835:Unit:=()
def tw167168433768955511:Unit:=()
def tw4668170327790744141:Unit:=()
def tw7322772026521722554:Unit:=()
def tw12809604191429675333:Unit:=()
def tw4550065809128346195:Unit:=()
def tw7737686350910778040:Unit:=()
def tw12703047511558787855:Unit:=()
def tw14426533278726894998:Unit:=()
def tw7418703705103513122:Unit:=()
def tw5800188257928005035:Unit:=()
def tw5720586560510105285:Unit:=()
def tw12731028407936866273:Unit:=()
def tw11591259181482046908:Unit:=()
def tw11731651649983996613:Unit:=()
def tw12740758166102092595:Unit:=()
def tw13784792334975564343:Unit:=()
def tw1285802322991636337:Unit:=()
def tw16457116238261176654:Unit:=()
def tw15040915145734480584:Unit:=()
def tw3456136337763362554:Unit:=()
def tw9798408346270963105:Unit:=()
def tw14318152850028468190:Unit:=()
def tw16856733360046637829:Unit:=()
def tw9827493236670616905:Unit:=()
def tw8991158947471010950:Unit:=()
def tw17828363278059563786:Unit:=()
def tw9281397956282886226:Unit:=()
def tw2060437653139874957:Unit:=()
def tw17198718228713842004:Unit:=()
def tw6154210694558896023:Unit:=()
def tw9987918012581819345:Unit:=()
def tw15175688840618672940:Unit:=()
def tw1254456216929423060:Unit:=()
def tw7455569421565957117:Unit:=()
def tw8702848378077885195:Unit:=()
def tw7152728309680626971:Unit:=()
def tw12378621836621752391:Unit:=()
def tw18328237543456664668:Unit:=()
def tw10833111461122248039:Unit:=()
def tw1343385787124796645:Unit:=()
def tw552191808764202743:Unit:=()
def tw807448916844672614:Unit:=()
def tw14739935338126814694:Unit:=()
def tw1152486449950872867:Unit:=()
def tw4544121817359702451:Unit:=()
def tw7093164181361528623:Unit:=()
def tw16391771630877669072:Unit:=()
def tw9176966094693303719:Unit:=()
def tw13291780019178590910:Unit:=()
def tw3634027339669631014:Unit:=()
def tw14119628066439720866:Unit:=()
def tw11499516518829347204:Unit:=()
def tw15903121215015634218:Unit:=()
def tw6048650961475440047:Unit:=()
def tw5736759145345926354:Unit:=()
def tw17043229238388796107:Unit:=()
def tw4731507318785743321:Unit:=()
def tw454519764951211751:Unit:=()
def tw17149579911690755760:Unit:=()
def tw8766888504276310696:Unit:=()
def tw7634105421321650996:Unit:=()
def tw15396221459622691383:Unit:=()
def tw13059147218930643128:Unit:=()
def tw1532879069055461135:Unit:=()
def tw7798180800677297495:Unit:=()
def tw17291563005804200520:Unit:=()
def tw16009501506081881021:Unit:=()
def tw1020705005022641741:Unit:=()
def tw1625936811834851124:Unit:=()
def tw3162759170525667722:Unit:=()
def tw14393728912749365828:Unit:=()
def tw1584342315629709040:Unit:=()
def tw8189279370679708795:Unit:=()
def tw1544530749772415046:Unit:=()
def tw11504680810227692895:Unit:=()
def tw7993061532659582109:Unit:=()
def tw11710391776476338205:Unit:=()
def tw9277617640542110736:Unit:=()
def tw4547361818304329613:Unit:=()
def tw4751481358535457561:Unit:=()
def tw7632623323341525376:Unit:=()
def tw11127351783999947114:Unit:=()
def tw4709260666863916934:Unit:=()
def tw15199069487722260024:Unit:=()
def tw5997871103149001604:Unit:=()
def tw7552964752249215361:Unit:=()
def tw15277599857604573477:Unit:=()
def tw792308451129662528:Unit:=()
def tw2638587147966597167:Unit:=()
def tw17504160978024014506:Unit:=()
def tw9207937226145733771:Unit:=()
def tw15822273072118695268:Unit:=()
def tw6457444768455518670:Unit:=()
def tw9734888923671541656:Unit:=()
def tw1244954703403516986:Unit:=()
def tw10775686684936123949:Unit:=()
def tw5938748789409335461:Unit:=()
def tw9360603618873829080:Unit:=()
def tw89395256316448865:Unit:=()
def tw8537263492577235115:Unit:=()
def tw2258809607835329226:Unit:=()
def tw4051365256138386519:Unit:=()
def tw13362980159065090097:Unit:=()
def tw3902357619414063779:Unit:=()
def tw13333721050095540231:Unit:=()
def tw8090754110145141158:Unit:=()
def tw17526019029270850257:Unit:=()
def tw10358970585881096130:Unit:=()
def tw8378321370847774016:Unit:=()
def tw17228666709045378876:Unit:=()
def tw5487136920116880184:Unit:=()
def tw8637495717328878587:Unit:=()
def tw13817721247690612402:Unit:=()
def tw17447413518437076326:Unit:=()
def tw1155820545478129768:Unit:=()
def tw8600871268850677504:Unit:=()
def tw4615613122106854200:Unit:=()
def tw1635681858713774726:Unit:=()
def tw8619200996932395078:Unit:=()
def tw17560289106354669669:Unit:=()
def tw6262592272171582140:Unit:=()
def tw6935068812673887538:Unit:=()
def tw13714375314884912676:Unit:=()
def tw648080384154335382:Unit:=()
def tw68496858900437076:Unit:=()
def tw12411440694831594395:Unit:=()
def tw14727442390783896058:Unit:=()
def tw6069411398726236465:Unit:=()
def tw16288377676273323653:Unit:=()
def tw15105506457654381307:Unit:=()
def tw15960413756556207824:Unit:=()
def tw13664313591228741209:Unit:=()
def tw7211422419426246379:Unit:=()
def tw2293097977447992749:Unit:=()
def tw6162487075742695171:Unit:=()
def tw13945549975966137575:Unit:=()
def tw15586498684170461140:Unit:=()
def tw16201708466555254857:Unit:=()
def tw9240812896799753988:Unit:=()
def tw11092638653820273857:Unit:=()
def tw4437126145801214198:Unit:=()
def tw14050728301513611792:Unit:=()
def tw16161963198741457124:Unit:=()
def tw15181960436714881938:Unit:=()
def tw3180119684943952324:Unit:=()
def tw11911784288723983485:Unit:=()
def tw2966756053555750254:Unit:=()
def tw16066637942780906686:Unit:=()
def tw15245433853910425032:Unit:=()
def tw2581262367520545978:Unit:=()
def tw14116620069823227779:Unit:=()
def tw14057045920388621918:Unit:=()
def tw271867349043836579:Unit:=()
def tw9881873934289397013:Unit:=()
def tw4810130110838314413:Unit:=()
def tw7603509764645627285:Unit:=()
def tw18425147545610327269:Unit:=()
def tw1200538674209315455:Unit:=()
def tw2749728246689417501:Unit:=()
def tw18426739085310389613:Unit:=()
def tw18365120886112254481:Unit:=()
def tw9630124878926937766:Unit:=()
def tw5198189224275804987:Unit:=()
def tw2137187210825603986:Unit:=()
def tw17411976928454915831:Unit:=()
def tw13733154209613078920:Unit:=()
def tw7230007403240183312:Unit:=()
def tw12629952725216349236:Unit:=()
def tw4841172609775732001:Unit:=()
def tw3953157485865604843:Unit:=()
def tw10815196165632584879:Unit:=()
def tw16680540052476887325:Unit:=()
def tw2808908406352225872:Unit:=()
def tw16663991107128028607:Unit:=()
def tw3195274390295794611:Unit:=()
def tw80169265070100648:Unit:=()
def tw15970192859755501503:Unit:=()
def tw6769018920350430975:Unit:=()
def tw8214226097699516086:Unit:=()
def tw9973646121155469010:Unit:=()
def tw16795318101479267231:Unit:=()
def tw14048503612608438587:Unit:=()
def tw16867855704298949065:Unit:=()
def tw13117487539288402046:Unit:=()
def tw17607334512074496560:Unit:=()
def tw557984375628547396:Unit:=()
def tw16955498363906516211:Unit:=()
def tw11414046709218347909:Unit:=()
def tw6669364429822712328:Unit:=()
def tw17812979592822538935:Unit:=()
def tw2649326283075663949:Unit:=()
def tw6822805458276771227:Unit:=()
def tw7752260947294997224:Unit:=()
def tw15374492310302490987:Unit:=()
def tw858203840441262634:Unit:=()
def tw9792170759144723585:Unit:=()
def tw3057064877469894917:Unit:=()
def tw4417820076077872278:Unit:=()
def tw5383239299891354014:Unit:=()
def tw11159034643447193054:Unit:=()
def tw1802911847035447686:Unit:=()
def tw17209831366151716985:Unit:=()
def tw3404954788045423928:Unit:=()
def tw12617774118860245138:Unit:=()
def tw15591004174881233220:Unit:=()
def tw15695088605727528292:Unit:=()
def tw4622255492754780455:Unit:=()
def tw11545312923579858531:Unit:=()
def tw9760992697233465081:Unit:=()
def tw7231262988990404550:Unit:=()
def tw10879801101770957330:Unit:=()
def tw18183451098645279183:Unit:=()
def tw14276371459856769585:Unit:=()
def tw6196762002042565995:Unit:=()
def tw1610167857742487464:Unit:=()
def tw15299106783246404961:Unit:=()
def tw4079322625204181310:Unit:=()
def tw6796697307888226111:Unit:=()
def tw852701680665834313:Unit:=()
def tw10933583973855637547:Unit:=()
def tw12631092187040220557:Unit:=()
def tw93197389061069620:Unit:=()
def tw7033156032386814342:Unit:=()
def tw1663311848158462286:Unit:=()
def tw9380430647791422911:Unit:=()
def tw1756191455667159008:Unit:=()
def tw4251921556306220435:Unit:=()
def tw4346229251028279308:Unit:=()
def tw12375339535983344901:Unit:=()
def tw13831774413339036113:Unit:=()
def tw8423091245588101736:Unit:=()
def tw14301233946068618575:Unit:=()
def tw5877418901058078791:Unit:=()
def tw17616689299076071099:Unit:=()
def tw14329534132885290874:Unit:=()
def tw12886649418600178092:Unit:=()
def tw2337469551961119832:Unit:=()
def tw822781501246909659:Unit:=()
def tw9230113096695150726:Unit:=()
def tw14312918283042305047:Unit:=()
def tw7735620743471252855:Unit:=()
def tw1921506994712917234:Unit:=()
def tw3633006181531536636:Unit:=()
def tw8134320602159747353:Unit:=()
def tw8567441489206407963:Unit:=()
def tw8770428568239087728:Unit:=()
def tw1363450373043234581:Unit:=()
def tw3342461437204531243:Unit:=()
def tw8538832055752856085:Unit:=()
def tw5395982654667841539:Unit:=()
def tw12157641798689603932:Unit:=()
def tw15730417136497356965:Unit:=()
def tw10417644291846812761:Unit:=()
def tw16565747956114129155:Unit:=()
def tw4631686582023644969:Unit:=()
def tw15660094545921071278:Unit:=()
def tw7365949066869984888:Unit:=()
def tw15042462038131757766:Unit:=()
def tw12750026134657515598:Unit:=()
def tw17993232929695812032:Unit:=()
def tw4031576564963741759:Unit:=()
def tw444691198598148037:Unit:=()
def tw18097095335783115541:Unit:=()
def tw18200284495394590592:Unit:=()
def tw6899322778617517886:Unit:=()
def tw16580261523140277398:Unit:=()
def tw2955295208998139774:Unit:=()
def tw3450493689832808281:Unit:=()
def tw13944050695364889240:Unit:=()
def tw3237285759212953071:Unit:=()
def tw14306793308431740262:Unit:=()
def tw10196169835003556801:Unit:=()
def tw1915205600380658060:Unit:=()
def tw12814810958712935304:Unit:=()
def tw13081788742166934973:Unit:=()
def tw3133423806448406541:Unit:=()
def tw18344160509231419609:Unit:=()
def tw16346883527597417166:Unit:=()
def tw11125653325575281857:Unit:=()
def tw7800728664763826936:Unit:=()
def tw10397960146801067918:Unit:=()
def tw5635652748257305611:Unit:=()
def tw1736058566591253368:Unit:=()
def tw7427450364512904529:Unit:=()
def tw1548660281935251973:Unit:=()
def tw10146146474420845882:Unit:=()
def tw15276097609950542904:Unit:=()
def tw5524711252170289894:Unit:=()
def tw4897897006718917801:Unit:=()
def tw6648258138340083503:Unit:=()
def tw5965435441955456782:Unit:=()
def tw4259612284703064411:Unit:=()
def tw17908890629487335174:Unit:=()
def tw15373216214325082343:Unit:=()
def tw10893705118900754015:Unit:=()
def tw14113181026714972762:Unit:=()
def tw13235949775397555395:Unit:=()
def tw812177603777154782:Unit:=()
def tw15872886730269514623:Unit:=()
def tw15284532331088063532:Unit:=()
def tw16569780414023292842:Unit:=()
def tw2366330432835839389:Unit:=()
def tw13498121338673859766:Unit:=()
def tw13815977226019283408:Unit:=()
def tw17571080458929238855:Unit:=()
def tw14645751905778885257:Unit:=()
def tw16261059161521543351:Unit:=()
def tw2867720528456412284:Unit:=()
def tw15211996519440324544:Unit:=()
def tw14920481873615511098:Unit:=()
def tw10912817963162865419:Unit:=()
def tw7912251074480284238:Unit:=()
def tw12038647482259314926:Unit:=()
def tw14644887906365426418:Unit:=()
def tw2070312545585375565:Unit:=()
def tw11578341112304375458:Unit:=()
def tw12868781012855997347:Unit:=()
def tw8913336919145560414:Unit:=()
def tw17163624801740423504:Unit:=()
def tw16463438878682944262:Unit:=()
def tw3305953231639333784:Unit:=()
def tw6170698685802416307:Unit:=()
def tw2865014137268590241:Unit:=()
def tw4734542527037392278:Unit:=()
end PySem.W.Fast
set_option maxHeartbeats 8000000
namespace K13
open PySem L2
theorem MF{K:qAb}{mg:Str->Option qAf}{h:Heap}{AL LN RU OW PL PA VO MA NE fE fH rR rO rP rA rV rM rN iR iO iP iA iV iM iN fL wR wO wP wA wV wM wN CO iC cH cE cW SE NG NL NT:Addr}  {n_AL:Nat}{osl_AL:Array (Option qAf)}{t_AL0 t_AL1 t_AL2 t_AL3 t_AL4 t_AL5:Tok}  {n_LN:Nat}{osl_LN:Array (Option qAf)}{t_LN0 t_LN1 t_LN2 t_LN3 t_LN4 t_LN5 t_LN6:Tok}  {tk_we:Tok}{tk_mr:Tok}{tk_mf:Tok}{tk_fg:Tok}                                           {oc_RI kV_RI doc_RI pm_RI cdv_RI ct_RI:qAf}{od_RI an_RI:Option Addr}{osl_RI:Array (Option qAf)}{oc_H kV_H doc_H pm_H cdv_H ct_H:qAf}{od_H an_H:Option Addr}{osl_H:Array (Option qAf)}{oc_E kV_E doc_E pm_E cdv_E ct_E:qAf}{od_E an_E:Option Addr}{osl_E:Array (Option qAf)}{oc_RR kV_RR doc_RR pm_RR cdv_RR ct_RR:qAf}{od_RR an_RR:Option Addr}{osl_RR:Array (Option qAf)}{oc_RW kV_RW doc_RW pm_RW cdv_RW ct_RW:qAf}{od_RW an_RW:Option Addr}{osl_RW:Array (Option qAf)}{oc_OI kV_OI doc_OI pm_OI cdv_OI ct_OI:qAf}{od_OI an_OI:Option Addr}{osl_OI:Array (Option qAf)}{oc_OR kV_OR doc_OR pm_OR cdv_OR ct_OR:qAf}{od_OR an_OR:Option Addr}{osl_OR:Array (Option qAf)}{oc_OWo kV_OWo doc_OWo pm_OWo cdv_OWo ct_OWo:qAf}{od_OWo an_OWo:Option Addr}{osl_OWo:Array (Option qAf)}{oc_PI kV_PI doc_PI pm_PI cdv_PI ct_PI:qAf}{od_PI an_PI:Option Addr}{osl_PI:Array (Option qAf)}{oc_PR kV_PR doc_PR pm_PR cdv_PR ct_PR:qAf}{od_PR an_PR:Option Addr}{osl_PR:Array (Option qAf)}{oc_PlW kV_PlW doc_PlW pm_PlW cdv_PlW ct_PlW:qAf}{od_PlW an_PlW:Option Addr}{osl_PlW:Array (Option qAf)}{oc_PaI kV_PaI doc_PaI pm_PaI cdv_PaI ct_PaI:qAf}{od_PaI an_PaI:Option Addr}{osl_PaI:Array (Option qAf)}{oc_PaR kV_PaR doc_PaR pm_PaR cdv_PaR ct_PaR:qAf}{od_PaR an_PaR:Option Addr}{osl_PaR:Array (Option qAf)}{oc_PaW kV_PaW doc_PaW pm_PaW cdv_PaW ct_PaW:qAf}{od_PaW an_PaW:Option Addr}{osl_PaW:Array (Option qAf)}{oc_VI kV_VI doc_VI pm_VI cdv_VI ct_VI:qAf}{od_VI an_VI:Option Addr}{osl_VI:Array (Option qAf)}{oc_VR kV_VR doc_VR pm_VR cdv_VR ct_VR:qAf}{od_VR an_VR:Option Addr}{osl_VR:Array (Option qAf)}{oc_VW kV_VW doc_VW pm_VW cdv_VW ct_VW:qAf}{od_VW an_VW:Option Addr}{osl_VW:Array (Option qAf)}{oc_MI kV_MI doc_MI pm_MI cdv_MI ct_MI:qAf}{od_MI an_MI:Option Addr}{osl_MI:Array (Option qAf)}{oc_MR kV_MR doc_MR pm_MR cdv_MR ct_MR:qAf}{od_MR an_MR:Option Addr}{osl_MR:Array (Option qAf)}{oc_MW kV_MW doc_MW pm_MW cdv_MW ct_MW:qAf}{od_MW an_MW:Option Addr}{osl_MW:Array (Option qAf)}{oc_NI kV_NI doc_NI pm_NI cdv_NI ct_NI:qAf}{od_NI an_NI:Option Addr}{osl_NI:Array (Option qAf)}{oc_NLs kV_NLs doc_NLs pm_NLs cdv_NLs ct_NLs:qAf}{od_NLs an_NLs:Option Addr}{osl_NLs:Array (Option qAf)}{oc_NRk kV_NRk doc_NRk pm_NRk cdv_NRk ct_NRk:qAf}{od_NRk an_NRk:Option Addr}{osl_NRk:Array (Option qAf)}{oc_NW kV_NW doc_NW pm_NW cdv_NW ct_NW:qAf}{od_NW an_NW:Option Addr}{osl_NW:Array (Option qAf)}{oc_CI kV_CI doc_CI pm_CI cdv_CI ct_CI:qAf}{od_CI an_CI:Option Addr}{osl_CI:Array (Option qAf)}{oc_CHs kV_CHs doc_CHs pm_CHs cdv_CHs ct_CHs:qAf}{od_CHs an_CHs:Option Addr}{osl_CHs:Array (Option qAf)}{oc_CEn kV_CEn doc_CEn pm_CEn cdv_CEn ct_CEn:qAf}{od_CEn an_CEn:Option Addr}{osl_CEn:Array (Option qAf)}{oc_CWo kV_CWo doc_CWo pm_CWo cdv_CWo ct_CWo:qAf}{od_CWo an_CWo:Option Addr}{osl_CWo:Array (Option qAf)}  (X:K.In h)(G:h.Ns qAx mg)
  (gT:qBg K qAx "isinstance"=some none)
  (jC:qBg K qAx "int"=some none)
  (kN:qBg K qAx "bool"=some none)
  (eM:qBg K qAx "range"=some none)
  (cN:qBg K qAx "len"=some none)
  (fF:qBg K qAx "list"=some none)
  (gG:qBg K qAx "sum"=some none)
  (mS:qBg K qAx "all"=some none)
  (pC:qBg K qAx "any"=some none)
  (iE:qBg K qAx "sorted"=some none)
  (jW:qBg K qAx "tuple"=some none)
  (pD:qBg K qAx "min"=some none)
  (mT:qBg K qAx "abs"=some none)
  (iF:qBg K qAx "enumerate"=some none)
  (kY:qBg K qAx "str"=some none)
  (sL:qBg K qAx "max"=some none)
  (tP:qBg K qAx "ALONE"=some (some (.ref AL)))
  (lkAL:K.lookup AL=some ⟨.type "tuple",none,.seq #[.int 1 t_AL0,.int 2 t_AL1,.int 4 t_AL2,.int 8 t_AL3,.int 16 t_AL4,.int 32 t_AL5] n_AL,osl_AL⟩)
  (DD:qBg K qAx "LENGTHS"=some (some (.ref LN)))
  (lkLN:K.lookup LN=some ⟨.type "tuple",none,.seq #[.int 1 t_LN0,.int 2 t_LN1,.int 4 t_LN2,.int 8 t_LN3,.int 16 t_LN4,.int 32 t_LN5,.int 64 t_LN6] n_LN,osl_LN⟩)
  (we:qBg K qAx "WELL"=some (some (.int 64 tk_we)))
  (mr:qBg K qAx "MOST_RULES"=some (some (.int 12 tk_mr)))
  (mf:qBg K qAx "MOST_FIGURES"=some (some (.int 30 tk_mf)))
  (fg:qBg K qAx "FIGURES"=some (some (.str ("0123456789":Str) tk_fg)))
  (zE:qBg K qAx "Rule"=some (some (.ref RU)))
  (pgRU:qCv K RU Str.empty=true)
  (hdRU:qCy K RU=true)
  (poRU:qDd K RU=true)
  (saRU:qAd K (.ref RU) "__setattr__"=some (some (.builtin "object.__setattr__")))
  (caRU:qAd K (.ref RU) "__class__"=some (some (.builtin "object.__class__")))
  (moRU:qCe K RU (.type "object")=some true)
  (nmRU:qAd K (.ref RU) "many"=some none)
  (feRU:qAd K (.ref RU) "earn"=some (some (.ref fE)))
  (fhRU:qAd K (.ref RU) "hands"=some (some (.ref fH)))
  (frRU:qAd K (.ref RU) "reckon"=some (some (.ref rR)))
  (irRU:qCq K (.ref RU) (.ref RU)=some true)
  (mkRU:qDo K RU=true)
  (fiRU:qAd K (.ref RU) "__init__"=some (some (.ref iR)))
  (kkRU:qAm K (.ref RU)=true)
  (Ij:qBg K qAx "Own"=some (some (.ref OW)))
  (pgOW:qCv K OW Str.empty=true)
  (hdOW:qCy K OW=true)
  (poOW:qDd K OW=true)
  (saOW:qAd K (.ref OW) "__setattr__"=some (some (.builtin "object.__setattr__")))
  (caOW:qAd K (.ref OW) "__class__"=some (some (.builtin "object.__class__")))
  (moOW:qCe K OW (.type "object")=some true)
  (nmOW:qAd K (.ref OW) "many"=some none)
  (feOW:qAd K (.ref OW) "earn"=some (some (.ref fE)))
  (fhOW:qAd K (.ref OW) "hands"=some (some (.ref fH)))
  (frOW:qAd K (.ref OW) "reckon"=some (some (.ref rO)))
  (irOW:qCq K (.ref OW) (.ref RU)=some true)
  (mkOW:qDo K OW=true)
  (fiOW:qAd K (.ref OW) "__init__"=some (some (.ref iO)))
  (kkOW:qAm K (.ref OW)=true)
  (nf0OW:qAd K (.ref OW) "numbers"=some none)
  (Ik:qBg K qAx "Plain"=some (some (.ref PL)))
  (pgPL:qCv K PL Str.empty=true)
  (hdPL:qCy K PL=true)
  (poPL:qDd K PL=true)
  (saPL:qAd K (.ref PL) "__setattr__"=some (some (.builtin "object.__setattr__")))
  (caPL:qAd K (.ref PL) "__class__"=some (some (.builtin "object.__class__")))
  (moPL:qCe K PL (.type "object")=some true)
  (nmPL:qAd K (.ref PL) "many"=some none)
  (fePL:qAd K (.ref PL) "earn"=some (some (.ref fE)))
  (fhPL:qAd K (.ref PL) "hands"=some (some (.ref fH)))
  (frPL:qAd K (.ref PL) "reckon"=some (some (.ref rP)))
  (irPL:qCq K (.ref PL) (.ref RU)=some true)
  (mkPL:qDo K PL=true)
  (fiPL:qAd K (.ref PL) "__init__"=some (some (.ref iP)))
  (kkPL:qAm K (.ref PL)=true)
  (nf0PL:qAd K (.ref PL) "earnings"=some none)
  (Il:qBg K qAx "Pairs"=some (some (.ref PA)))
  (pgPA:qCv K PA Str.empty=true)
  (hdPA:qCy K PA=true)
  (poPA:qDd K PA=true)
  (saPA:qAd K (.ref PA) "__setattr__"=some (some (.builtin "object.__setattr__")))
  (caPA:qAd K (.ref PA) "__class__"=some (some (.builtin "object.__class__")))
  (moPA:qCe K PA (.type "object")=some true)
  (nmPA:qAd K (.ref PA) "many"=some none)
  (fePA:qAd K (.ref PA) "earn"=some (some (.ref fE)))
  (fhPA:qAd K (.ref PA) "hands"=some (some (.ref fH)))
  (frPA:qAd K (.ref PA) "reckon"=some (some (.ref rA)))
  (irPA:qCq K (.ref PA) (.ref RU)=some true)
  (mkPA:qDo K PA=true)
  (fiPA:qAd K (.ref PA) "__init__"=some (some (.ref iA)))
  (kkPA:qAm K (.ref PA)=true)
  (nf0PA:qAd K (.ref PA) "pairs"=some none)
  (Im:qBg K qAx "Votes"=some (some (.ref VO)))
  (pgVO:qCv K VO Str.empty=true)
  (hdVO:qCy K VO=true)
  (poVO:qDd K VO=true)
  (saVO:qAd K (.ref VO) "__setattr__"=some (some (.builtin "object.__setattr__")))
  (caVO:qAd K (.ref VO) "__class__"=some (some (.builtin "object.__class__")))
  (moVO:qCe K VO (.type "object")=some true)
  (nmVO:qAd K (.ref VO) "many"=some none)
  (feVO:qAd K (.ref VO) "earn"=some (some (.ref fE)))
  (fhVO:qAd K (.ref VO) "hands"=some (some (.ref fH)))
  (frVO:qAd K (.ref VO) "reckon"=some (some (.ref rV)))
  (irVO:qCq K (.ref VO) (.ref RU)=some true)
  (mkVO:qDo K VO=true)
  (fiVO:qAd K (.ref VO) "__init__"=some (some (.ref iV)))
  (kkVO:qAm K (.ref VO)=true)
  (nf0VO:qAd K (.ref VO) "quota"=some none)
  (nf1VO:qAd K (.ref VO) "prize"=some none)
  (nf2VO:qAd K (.ref VO) "weights"=some none)
  (Io:qBg K qAx "Match"=some (some (.ref MA)))
  (pgMA:qCv K MA Str.empty=true)
  (hdMA:qCy K MA=true)
  (poMA:qDd K MA=true)
  (saMA:qAd K (.ref MA) "__setattr__"=some (some (.builtin "object.__setattr__")))
  (caMA:qAd K (.ref MA) "__class__"=some (some (.builtin "object.__class__")))
  (moMA:qCe K MA (.type "object")=some true)
  (nmMA:qAd K (.ref MA) "many"=some none)
  (feMA:qAd K (.ref MA) "earn"=some (some (.ref fE)))
  (fhMA:qAd K (.ref MA) "hands"=some (some (.ref fH)))
  (frMA:qAd K (.ref MA) "reckon"=some (some (.ref rM)))
  (irMA:qCq K (.ref MA) (.ref RU)=some true)
  (mkMA:qDo K MA=true)
  (fiMA:qAd K (.ref MA) "__init__"=some (some (.ref iM)))
  (kkMA:qAm K (.ref MA)=true)
  (nf0MA:qAd K (.ref MA) "pairs"=some none)
  (nf1MA:qAd K (.ref MA) "best"=some none)
  (Ip:qBg K qAx "Net"=some (some (.ref NE)))
  (pgNE:qCv K NE Str.empty=true)
  (hdNE:qCy K NE=true)
  (poNE:qDd K NE=true)
  (saNE:qAd K (.ref NE) "__setattr__"=some (some (.builtin "object.__setattr__")))
  (caNE:qAd K (.ref NE) "__class__"=some (some (.builtin "object.__class__")))
  (moNE:qCe K NE (.type "object")=some true)
  (nmNE:qAd K (.ref NE) "many"=some none)
  (feNE:qAd K (.ref NE) "earn"=some (some (.ref fE)))
  (fhNE:qAd K (.ref NE) "hands"=some (some (.ref fH)))
  (frNE:qAd K (.ref NE) "reckon"=some (some (.ref rN)))
  (irNE:qCq K (.ref NE) (.ref RU)=some true)
  (mkNE:qDo K NE=true)
  (fiNE:qAd K (.ref NE) "__init__"=some (some (.ref iN)))
  (kkNE:qAm K (.ref NE)=true)
  (nf0NE:qAd K (.ref NE) "costs"=some none)
  (nf1NE:qAd K (.ref NE) "ropes"=some none)
  (fflNE:qAd K (.ref NE) "least"=some (some (.ref fL)))
  (ffwRU:qAd K (.ref RU) "words"=some (some (.ref wR)))
  (ffwOW:qAd K (.ref OW) "words"=some (some (.ref wO)))
  (ffwPL:qAd K (.ref PL) "words"=some (some (.ref wP)))
  (ffwPA:qAd K (.ref PA) "words"=some (some (.ref wA)))
  (ffwVO:qAd K (.ref VO) "words"=some (some (.ref wV)))
  (ffwMA:qAd K (.ref MA) "words"=some (some (.ref wM)))
  (ffwNE:qAd K (.ref NE) "words"=some (some (.ref wN)))
  (Gb:qBg K qAx "Company"=some (some (.ref CO)))
  (pgCO:qCv K CO Str.empty=true)
  (hdCO:qCy K CO=true)
  (poCO:qDd K CO=true)
  (saCO:qAd K (.ref CO) "__setattr__"=some (some (.builtin "object.__setattr__")))
  (caCO:qAd K (.ref CO) "__class__"=some (some (.builtin "object.__class__")))
  (moCO:qCe K CO (.type "object")=some true)
  (nmCO:qAd K (.ref CO) "many"=some none)
  (nrCO:qAd K (.ref CO) "rules"=some none)
  (feCO:qAd K (.ref CO) "earn"=some (some (.ref cE)))
  (fhCO:qAd K (.ref CO) "hands"=some (some (.ref cH)))
  (ftCO:qAd K (.ref CO) "words"=some (some (.ref cW)))
  (irCO:qCq K (.ref CO) (.ref CO)=some true)
  (mkCO:qDo K CO=true)
  (fiCO:qAd K (.ref CO) "__init__"=some (some (.ref iC)))
  (kkCO:qAm K (.ref CO)=true)
  (lRI:K.lookup iR=some ⟨oc_RI,od_RI,.func (qBe "__init__" "Rule.__init__" (bI HJ) (bC HJ) (aE HJ) .none kV_RI doc_RI pm_RI an_RI cdv_RI ct_RI),osl_RI⟩)
  (cdRI:qAz K cdv_RI "Rule.__init__"=true)
  (kpRI:qAm K (.ref iR)=true)
  (fnRI:qBl K (.ref iR)=true)
  (lH:K.lookup fH=some ⟨oc_H,od_H,.func (qBe "hands" "Rule.hands" (bI HK) (bC HK) (aE HK) .none kV_H doc_H pm_H an_H cdv_H ct_H),osl_H⟩)
  (cdH:qAz K cdv_H "Rule.hands"=true)
  (kpH:qAm K (.ref fH)=true)
  (fnH:qBl K (.ref fH)=true)
  (lE:K.lookup fE=some ⟨oc_E,od_E,.func (qBe "earn" "Rule.earn" (bI yD) (bC yD) (aE yD) .none kV_E doc_E pm_E an_E cdv_E ct_E),osl_E⟩)
  (cdE:qAz K cdv_E "Rule.earn"=true)
  (kpE:qAm K (.ref fE)=true)
  (fnE:qBl K (.ref fE)=true)
  (lRR:K.lookup rR=some ⟨oc_RR,od_RR,.func (qBe "reckon" "Rule.reckon" (bI HL) (bC HL) (aE HL) .none kV_RR doc_RR pm_RR an_RR cdv_RR ct_RR),osl_RR⟩)
  (cdRR:qAz K cdv_RR "Rule.reckon"=true)
  (kpRR:qAm K (.ref rR)=true)
  (fnRR:qBl K (.ref rR)=true)
  (lRW:K.lookup wR=some ⟨oc_RW,od_RW,.func (qBe "words" "Rule.words" (bI HM) (bC HM) (aE HM) .none kV_RW doc_RW pm_RW an_RW cdv_RW ct_RW),osl_RW⟩)
  (cdRW:qAz K cdv_RW "Rule.words"=true)
  (kpRW:qAm K (.ref wR)=true)
  (fnRW:qBl K (.ref wR)=true)
  (lOI:K.lookup iO=some ⟨oc_OI,od_OI,.func (qBe "__init__" "Own.__init__" (bI HN) (bC HN) (aE HN) .none kV_OI doc_OI pm_OI an_OI cdv_OI ct_OI),osl_OI⟩)
  (cdOI:qAz K cdv_OI "Own.__init__"=true)
  (kpOI:qAm K (.ref iO)=true)
  (fnOI:qBl K (.ref iO)=true)
  (lOR:K.lookup rO=some ⟨oc_OR,od_OR,.func (qBe "reckon" "Own.reckon" (bI HP) (bC HP) (aE HP) .none kV_OR doc_OR pm_OR an_OR cdv_OR ct_OR),osl_OR⟩)
  (cdOR:qAz K cdv_OR "Own.reckon"=true)
  (kpOR:qAm K (.ref rO)=true)
  (fnOR:qBl K (.ref rO)=true)
  (lOWo:K.lookup wO=some ⟨oc_OWo,od_OWo,.func (qBe "words" "Own.words" (bI yE) (bC yE) (aE yE) .none kV_OWo doc_OWo pm_OWo an_OWo cdv_OWo ct_OWo),osl_OWo⟩)
  (cdOWo:qAz K cdv_OWo "Own.words"=true)
  (kpOWo:qAm K (.ref wO)=true)
  (fnOWo:qBl K (.ref wO)=true)
  (lPI:K.lookup iP=some ⟨oc_PI,od_PI,.func (qBe "__init__" "Plain.__init__" (bI HQ) (bC HQ) (aE HQ) .none kV_PI doc_PI pm_PI an_PI cdv_PI ct_PI),osl_PI⟩)
  (cdPI:qAz K cdv_PI "Plain.__init__"=true)
  (kpPI:qAm K (.ref iP)=true)
  (fnPI:qBl K (.ref iP)=true)
  (lPR:K.lookup rP=some ⟨oc_PR,od_PR,.func (qBe "reckon" "Plain.reckon" (bI HR) (bC HR) (aE HR) .none kV_PR doc_PR pm_PR an_PR cdv_PR ct_PR),osl_PR⟩)
  (cdPR:qAz K cdv_PR "Plain.reckon"=true)
  (kpPR:qAm K (.ref rP)=true)
  (fnPR:qBl K (.ref rP)=true)
  (lPlW:K.lookup wP=some ⟨oc_PlW,od_PlW,.func (qBe "words" "Plain.words" (bI yF) (bC yF) (aE yF) .none kV_PlW doc_PlW pm_PlW an_PlW cdv_PlW ct_PlW),osl_PlW⟩)
  (cdPlW:qAz K cdv_PlW "Plain.words"=true)
  (kpPlW:qAm K (.ref wP)=true)
  (fnPlW:qBl K (.ref wP)=true)
  (lPaI:K.lookup iA=some ⟨oc_PaI,od_PaI,.func (qBe "__init__" "Pairs.__init__" (bI yG) (bC yG) (aE yG) .none kV_PaI doc_PaI pm_PaI an_PaI cdv_PaI ct_PaI),osl_PaI⟩)
  (cdPaI:qAz K cdv_PaI "Pairs.__init__"=true)
  (kpPaI:qAm K (.ref iA)=true)
  (fnPaI:qBl K (.ref iA)=true)
  (lPaR:K.lookup rA=some ⟨oc_PaR,od_PaR,.func (qBe "reckon" "Pairs.reckon" (bI yH) (bC yH) (aE yH) .none kV_PaR doc_PaR pm_PaR an_PaR cdv_PaR ct_PaR),osl_PaR⟩)
  (cdPaR:qAz K cdv_PaR "Pairs.reckon"=true)
  (kpPaR:qAm K (.ref rA)=true)
  (fnPaR:qBl K (.ref rA)=true)
  (lPaW:K.lookup wA=some ⟨oc_PaW,od_PaW,.func (qBe "words" "Pairs.words" (bI yI) (bC yI) (aE yI) .none kV_PaW doc_PaW pm_PaW an_PaW cdv_PaW ct_PaW),osl_PaW⟩)
  (cdPaW:qAz K cdv_PaW "Pairs.words"=true)
  (kpPaW:qAm K (.ref wA)=true)
  (fnPaW:qBl K (.ref wA)=true)
  (lVI:K.lookup iV=some ⟨oc_VI,od_VI,.func (qBe "__init__" "Votes.__init__" (bI HS) (bC HS) (aE HS) .none kV_VI doc_VI pm_VI an_VI cdv_VI ct_VI),osl_VI⟩)
  (cdVI:qAz K cdv_VI "Votes.__init__"=true)
  (kpVI:qAm K (.ref iV)=true)
  (fnVI:qBl K (.ref iV)=true)
  (lVR:K.lookup rV=some ⟨oc_VR,od_VR,.func (qBe "reckon" "Votes.reckon" (bI HU) (bC HU) (aE HU) .none kV_VR doc_VR pm_VR an_VR cdv_VR ct_VR),osl_VR⟩)
  (cdVR:qAz K cdv_VR "Votes.reckon"=true)
  (kpVR:qAm K (.ref rV)=true)
  (fnVR:qBl K (.ref rV)=true)
  (lVW:K.lookup wV=some ⟨oc_VW,od_VW,.func (qBe "words" "Votes.words" (bI HV) (bC HV) (aE HV) .none kV_VW doc_VW pm_VW an_VW cdv_VW ct_VW),osl_VW⟩)
  (cdVW:qAz K cdv_VW "Votes.words"=true)
  (kpVW:qAm K (.ref wV)=true)
  (fnVW:qBl K (.ref wV)=true)
  (lMI:K.lookup iM=some ⟨oc_MI,od_MI,.func (qBe "__init__" "Match.__init__" (bI HW) (bC HW) (aE HW) .none kV_MI doc_MI pm_MI an_MI cdv_MI ct_MI),osl_MI⟩)
  (cdMI:qAz K cdv_MI "Match.__init__"=true)
  (kpMI:qAm K (.ref iM)=true)
  (fnMI:qBl K (.ref iM)=true)
  (lMR:K.lookup rM=some ⟨oc_MR,od_MR,.func (qBe "reckon" "Match.reckon" (bI HX) (bC HX) (aE HX) .none kV_MR doc_MR pm_MR an_MR cdv_MR ct_MR),osl_MR⟩)
  (cdMR:qAz K cdv_MR "Match.reckon"=true)
  (kpMR:qAm K (.ref rM)=true)
  (fnMR:qBl K (.ref rM)=true)
  (lMW:K.lookup wM=some ⟨oc_MW,od_MW,.func (qBe "words" "Match.words" (bI HY) (bC HY) (aE HY) .none kV_MW doc_MW pm_MW an_MW cdv_MW ct_MW),osl_MW⟩)
  (cdMW:qAz K cdv_MW "Match.words"=true)
  (kpMW:qAm K (.ref wM)=true)
  (fnMW:qBl K (.ref wM)=true)
  (lNI:K.lookup iN=some ⟨oc_NI,od_NI,.func (qBe "__init__" "Net.__init__" (bI HZ) (bC HZ) (aE HZ) .none kV_NI doc_NI pm_NI an_NI cdv_NI ct_NI),osl_NI⟩)
  (cdNI:qAz K cdv_NI "Net.__init__"=true)
  (kpNI:qAm K (.ref iN)=true)
  (fnNI:qBl K (.ref iN)=true)
  (lNLs:K.lookup fL=some ⟨oc_NLs,od_NLs,.func (qBe "least" "Net.least" (bI yJ) (bC yJ) (aE yJ) .none kV_NLs doc_NLs pm_NLs an_NLs cdv_NLs ct_NLs),osl_NLs⟩)
  (cdNLs:qAz K cdv_NLs "Net.least"=true)
  (kpNLs:qAm K (.ref fL)=true)
  (fnNLs:qBl K (.ref fL)=true)
  (lNRk:K.lookup rN=some ⟨oc_NRk,od_NRk,.func (qBe "reckon" "Net.reckon" (bI yK) (bC yK) (aE yK) .none kV_NRk doc_NRk pm_NRk an_NRk cdv_NRk ct_NRk),osl_NRk⟩)
  (cdNRk:qAz K cdv_NRk "Net.reckon"=true)
  (kpNRk:qAm K (.ref rN)=true)
  (fnNRk:qBl K (.ref rN)=true)
  (lNW:K.lookup wN=some ⟨oc_NW,od_NW,.func (qBe "words" "Net.words" (bI Ib) (bC Ib) (aE Ib) .none kV_NW doc_NW pm_NW an_NW cdv_NW ct_NW),osl_NW⟩)
  (cdNW:qAz K cdv_NW "Net.words"=true)
  (kpNW:qAm K (.ref wN)=true)
  (fnNW:qBl K (.ref wN)=true)
  (lCI:K.lookup iC=some ⟨oc_CI,od_CI,.func (qBe "__init__" "Company.__init__" (bI Ic) (bC Ic) (aE Ic) .none kV_CI doc_CI pm_CI an_CI cdv_CI ct_CI),osl_CI⟩)
  (cdCI:qAz K cdv_CI "Company.__init__"=true)
  (kpCI:qAm K (.ref iC)=true)
  (fnCI:qBl K (.ref iC)=true)
  (lCHs:K.lookup cH=some ⟨oc_CHs,od_CHs,.func (qBe "hands" "Company.hands" (bI Ie) (bC Ie) (aE Ie) .none kV_CHs doc_CHs pm_CHs an_CHs cdv_CHs ct_CHs),osl_CHs⟩)
  (cdCHs:qAz K cdv_CHs "Company.hands"=true)
  (kpCHs:qAm K (.ref cH)=true)
  (fnCHs:qBl K (.ref cH)=true)
  (lCEn:K.lookup cE=some ⟨oc_CEn,od_CEn,.func (qBe "earn" "Company.earn" (bI Ig) (bC Ig) (aE Ig) .none kV_CEn doc_CEn pm_CEn an_CEn cdv_CEn ct_CEn),osl_CEn⟩)
  (cdCEn:qAz K cdv_CEn "Company.earn"=true)
  (kpCEn:qAm K (.ref cE)=true)
  (fnCEn:qBl K (.ref cE)=true)
  (lCWo:K.lookup cW=some ⟨oc_CWo,od_CWo,.func (qBe "words" "Company.words" (bI Ih) (bC Ih) (aE Ih) .none kV_CWo doc_CWo pm_CWo an_CWo cdv_CWo ct_CWo),osl_CWo⟩)
  (cdCWo:qAz K cdv_CWo "Company.words"=true)
  (kpCWo:qAm K (.ref cW)=true)
  (fnCWo:qBl K (.ref cW)=true)
  (cgcRI:qDt K (.ref RU) "__getattribute__"=some (some (.builtin "type.__getattribute__")))
  (crcRI:qKg K RU (.type "type")=true)
  (cfcRI:qKh K (.ref RU) (.type "type") "__init__"=some (.val (.ref iR)))
  (KQ:qBg K qAx "ShareError"=some (some (.ref SE)))
  (Jo:qBg K qAx "NoGroup"=some (some (.ref NG)))
  (yM:qBg K qAx "NoRule"=some (some (.ref NL)))
  (Jp:qBg K qAx "NoTable"=some (some (.ref NT)))
  (c6:qDt K (.builtin "object.__class__") "__get__"=some (some (.builtin "getset_descriptor.__get__")))
  (c7:qEm K (.builtin "object.__class__")=some true)
  (SE2:qGm K (.ref SE)=some (.type "type"))
  (SE3:qAd K (.ref SE) "__getattribute__"=some (some (.builtin "BaseException.__getattribute__")))
  (SE4:qAd K (.ref SE) "__getattr__"=some none)
  (SE5:qAd K (.ref SE) "__class__"=some (some (.builtin "object.__class__")))
  (SE8:qCe K SE (.type "object")=some true)
  (SE9:qCe K SE (.type "BaseException")=some true)
  (yN:qEe K NL EI "ValueError.__new__"=true)
  (Jq:qEe K NT EI "ValueError.__new__"=true)
  (Jr:qEe K NG EI "ValueError.__new__"=true) :
  ∃AL LN RU OW PL PA VO MA NE fE fH rR rO rP rA rV rM rN iR iO iP iA iV iM iN fL wR wO wP wA wV wM wN CO iC cH cE cW SE NG NL NT,T K mg AL LN RU OW PL PA VO MA NE fE fH rR rO rP rA rV rM rN iR iO iP iA iV iM iN fL wR wO wP wA wV wM wN CO iC cH cE cW SE NG NL NT :=
 ⟨AL,LN,RU,OW,PL,PA,VO,MA,NE,fE,fH,rR,rO,rP,rA,rV,rM,rN,iR,iO,iP,iA,iV,iM,iN,fL,wR,wO,wP,wA,wV,wM,wN,CO,iC,cH,cE,cW,SE,NG,NL,NT,qBv X G gT,qBv X G jC,qBv X G kN,qBv X G eM,qBv X G cN,qBv X G fF,qBv X G gG,qBv X G mS,qBv X G pC,qBv X G iE,qBv X G jW,qBv X G pD,qBv X G mT,qBv X G iF,qBv X G kY,qBv X G sL,qCf X G tP,fun _=>.inr ⟨_,_,_,lkAL,rfl,rfl,by show 6<=qAg;decide,.cons ⟨_,rfl⟩ (.cons ⟨_,rfl⟩ (.cons ⟨_,rfl⟩ (.cons ⟨_,rfl⟩ (.cons ⟨_,rfl⟩ (.cons ⟨_,rfl⟩ .nil)))))⟩,qCf X G DD,fun _=>.inr ⟨_,_,_,lkLN,rfl,rfl,by show 7<=qAg;decide,.cons ⟨_,rfl⟩ (.cons ⟨_,rfl⟩ (.cons ⟨_,rfl⟩ (.cons ⟨_,rfl⟩ (.cons ⟨_,rfl⟩ (.cons ⟨_,rfl⟩ (.cons ⟨_,rfl⟩ .nil))))))⟩,⟨_,lkLN,rfl,rfl⟩,⟨tk_we,qCf X G we⟩,⟨tk_mr,qCf X G mr⟩,⟨tk_mf,qCf X G mf⟩,⟨tk_fg,qCf X G fg⟩,qCf X G zE,⟨⟨⟨pgRU,hdRU,poRU,saRU⟩,caRU,c6,c7,moRU⟩,nmRU,⟨feRU,fnE,kpE⟩,⟨fhRU,fnH,kpH⟩,⟨frRU,fnRR,kpRR⟩,irRU⟩,⟨mkRU,fiRU,fnRI,kkRU⟩,qCf X G Ij,⟨⟨⟨pgOW,hdOW,poOW,saOW⟩,caOW,c6,c7,moOW⟩,nmOW,⟨feOW,fnE,kpE⟩,⟨fhOW,fnH,kpH⟩,⟨frOW,fnOR,kpOR⟩,irOW⟩,⟨mkOW,fiOW,fnOI,kkOW⟩,nf0OW,qCf X G Ik,⟨⟨⟨pgPL,hdPL,poPL,saPL⟩,caPL,c6,c7,moPL⟩,nmPL,⟨fePL,fnE,kpE⟩,⟨fhPL,fnH,kpH⟩,⟨frPL,fnPR,kpPR⟩,irPL⟩,⟨mkPL,fiPL,fnPI,kkPL⟩,nf0PL,qCf X G Il,⟨⟨⟨pgPA,hdPA,poPA,saPA⟩,caPA,c6,c7,moPA⟩,nmPA,⟨fePA,fnE,kpE⟩,⟨fhPA,fnH,kpH⟩,⟨frPA,fnPaR,kpPaR⟩,irPA⟩,⟨mkPA,fiPA,fnPaI,kkPA⟩,nf0PA,qCf X G Im,⟨⟨⟨pgVO,hdVO,poVO,saVO⟩,caVO,c6,c7,moVO⟩,nmVO,⟨feVO,fnE,kpE⟩,⟨fhVO,fnH,kpH⟩,⟨frVO,fnVR,kpVR⟩,irVO⟩,⟨mkVO,fiVO,fnVI,kkVO⟩,nf0VO,nf1VO,nf2VO,qCf X G Io,⟨⟨⟨pgMA,hdMA,poMA,saMA⟩,caMA,c6,c7,moMA⟩,nmMA,⟨feMA,fnE,kpE⟩,⟨fhMA,fnH,kpH⟩,⟨frMA,fnMR,kpMR⟩,irMA⟩,⟨mkMA,fiMA,fnMI,kkMA⟩,nf0MA,nf1MA,qCf X G Ip,⟨⟨⟨pgNE,hdNE,poNE,saNE⟩,caNE,c6,c7,moNE⟩,nmNE,⟨feNE,fnE,kpE⟩,⟨fhNE,fnH,kpH⟩,⟨frNE,fnNRk,kpNRk⟩,irNE⟩,⟨mkNE,fiNE,fnNI,kkNE⟩,nf0NE,nf1NE,⟨fflNE,fnNLs,kpNLs⟩,⟨ffwRU,fnRW,kpRW⟩,⟨ffwOW,fnOWo,kpOWo⟩,⟨ffwPL,fnPlW,kpPlW⟩,⟨ffwPA,fnPaW,kpPaW⟩,⟨ffwVO,fnVW,kpVW⟩,⟨ffwMA,fnMW,kpMW⟩,⟨ffwNE,fnNW,kpNW⟩,qCf X G Gb,⟨⟨⟨pgCO,hdCO,poCO,saCO⟩,caCO,c6,c7,moCO⟩,nmCO,nrCO,⟨feCO,fnCEn,kpCEn⟩,⟨fhCO,fnCHs,kpCHs⟩,⟨ftCO,fnCWo,kpCWo⟩,irCO⟩,⟨mkCO,fiCO,fnCI,kkCO⟩,c5 lRI cdRI kpRI (fun _ _ _ _ _ _ us hl=>match us,hl with | [_,_],_=>rfl),c5 lH cdH kpH (fun _ _ _ _ _ _ us hl=>match us,hl with | [_],_=>rfl),c5 lE cdE kpE (fun _ _ _ _ _ _ us hl=>match us,hl with | [_,_],_=>rfl),c5 lRR cdRR kpRR (fun _ _ _ _ _ _ us hl=>match us,hl with | [_,_],_=>rfl),c5 lRW cdRW kpRW (fun _ _ _ _ _ _ us hl=>match us,hl with | [_],_=>rfl),c5 lOI cdOI kpOI (fun _ _ _ _ _ _ us hl=>match us,hl with | [_,_],_=>rfl),c5 lOR cdOR kpOR (fun _ _ _ _ _ _ us hl=>match us,hl with | [_,_],_=>rfl),c5 lOWo cdOWo kpOWo (fun _ _ _ _ _ _ us hl=>match us,hl with | [_],_=>rfl),c5 lPI cdPI kpPI (fun _ _ _ _ _ _ us hl=>match us,hl with | [_,_],_=>rfl),c5 lPR cdPR kpPR (fun _ _ _ _ _ _ us hl=>match us,hl with | [_,_],_=>rfl),c5 lPlW cdPlW kpPlW (fun _ _ _ _ _ _ us hl=>match us,hl with | [_],_=>rfl),c5 lPaI cdPaI kpPaI (fun _ _ _ _ _ _ us hl=>match us,hl with | [_,_,_],_=>rfl),c5 lPaR cdPaR kpPaR (fun _ _ _ _ _ _ us hl=>match us,hl with | [_,_],_=>rfl),c5 lPaW cdPaW kpPaW (fun _ _ _ _ _ _ us hl=>match us,hl with | [_],_=>rfl),c5 lVI cdVI kpVI (fun _ _ _ _ _ _ us hl=>match us,hl with | [_,_,_,_],_=>rfl),c5 lVR cdVR kpVR (fun _ _ _ _ _ _ us hl=>match us,hl with | [_,_],_=>rfl),c5 lVW cdVW kpVW (fun _ _ _ _ _ _ us hl=>match us,hl with | [_],_=>rfl),c5 lMI cdMI kpMI (fun _ _ _ _ _ _ us hl=>match us,hl with | [_,_,_],_=>rfl),c5 lMR cdMR kpMR (fun _ _ _ _ _ _ us hl=>match us,hl with | [_,_],_=>rfl),c5 lMW cdMW kpMW (fun _ _ _ _ _ _ us hl=>match us,hl with | [_],_=>rfl),c5 lNI cdNI kpNI (fun _ _ _ _ _ _ us hl=>match us,hl with | [_,_,_],_=>rfl),c5 lNLs cdNLs kpNLs (fun _ _ _ _ _ _ us hl=>match us,hl with | [_,_],_=>rfl),c5 lNRk cdNRk kpNRk (fun _ _ _ _ _ _ us hl=>match us,hl with | [_,_],_=>rfl),c5 lNW cdNW kpNW (fun _ _ _ _ _ _ us hl=>match us,hl with | [_],_=>rfl),c5 lCI cdCI kpCI (fun _ _ _ _ _ _ us hl=>match us,hl with | [_,_,_],_=>rfl),c5 lCHs cdCHs kpCHs (fun _ _ _ _ _ _ us hl=>match us,hl with | [_],_=>rfl),c5 lCEn cdCEn kpCEn (fun _ _ _ _ _ _ us hl=>match us,hl with | [_,_],_=>rfl),c5 lCWo cdCWo kpCWo (fun _ _ _ _ _ _ us hl=>match us,hl with | [_],_=>rfl),⟨cgcRI,crcRI,cfcRI,kpRI⟩,qCf X G KQ,qCf X G Jo,qCf X G yM,qCf X G Jp,EM SE2 SE3 SE4 SE5 c6 c7 SE8 SE9,yN,Jq,Jr⟩
theorem walk{l:qKi}{q:qBc}{loose:List Str}{XP:(Str->Option qAf)->Heap->Prop}{YP:qCd->Heap->Prop}{d:DefRec}{K:Params->qAb}(hn:l.most=some 63)(hdf:d.params.defaults=[])
  (hY:∀(w:qCd) (h:Heap),YP w h->(K w.params).In h)
  (F:∀(w:qCd) (mg:Str->Option qAf) (fa:Addr) (h:Heap),(K w.params).In h->h.Ns qAx mg->mg d.name=some (.ref fa) ->
   ∃fd:qBd,(∀(s:qAk) (u:qAf),qKt s fd ⟨[u],[]⟩ [("_law_script",u)])/\∀base:Heap,(K w.params).In base->base.Ns qAx mg->fR l.prog w (K w.params) mg base cM 12 fa fd ["_law_script"] (wL (K w.params))) :
  qKw q loose XP YP l.row.toRowW d [] (fun f vs=>PySem.call f vs) :=
 L2.Af (n:=63) (k:=12) (x:="_law_script") (CX:=fun _=>cM) (sp:=fun w=>wL (K w.params)) hn (by decide) hdf ⟨rfl,by decide,by decide⟩ hY F (fun _ _ a ns hl hw _ hS=>⟨a,ns,rfl,hS,hl,hw,fun _=>rfl⟩) fun _ _ _ _ _ z=>z
theorem HC{P:qBc}{w:qCd}{K:qAb}{mg:Str->Option qAf}{fa:Addr}(hfa:mg "law"=some (.ref fa))(hT:∃AL LN RU OW PL PA VO MA NE fE fH rR rO rP rA rV rM rN iR iO iP iA iV iM iN fL wR wO wP wA wV wM wN CO iC cH cE cW SE NG NL NT,T K mg AL LN RU OW PL PA VO MA NE fE fH rR rO rP rA rV rM rN iR iO iP iA iV iM iN fL wR wO wP wA wV wM wN CO iC cH cE cW SE NG NL NT)
  (t_sNum:∃f fd,Tx K mg "is_number" Fg ["thing"] f fd)
  (t_sWith:∃f fd,Tx K mg "is_number_within" AQ ["thing","least","most"] f fd)
  (t_sChM:∃f fd,Tx K mg "check_many" Fh ["many"] f fd)
  (t_sWC:∃f fd,Tx K mg "whole_company" LF ["many"] f fd)
  (t_sChk:∃f fd,Tx K mg "check_group" Fi ["group","many"] f fd)
  (t_sHnd:∃f fd,Tx K mg "hands_of" Fj ["group"] f fd)
  (t_sIsT:∃f fd,Tx K mg "is_table" Fm ["thing"] f fd)
  (t_sHin:∃f fd,Tx K mg "hands_in" Fn ["table"] f fd)
  (t_sCkN:∃f fd,Tx K mg "check_numbers" Fo ["things"] f fd)
  (t_sCkP:∃f fd,Tx K mg "check_pair" Fp ["many","pair"] f fd)
  (t_sSrt:∃f fd,Tx K mg "sorted_pairs" Fq ["many","pairs"] f fd)
  (t_sHB:∃f fd,Tx K mg "has_both" LG ["group","one","other"] f fd)
  (t_sSoH:∃f fd,Tx K mg "sum_of_hands" Fs ["numbers","group"] f fd)
  (t_sNWo:∃f fd,Tx K mg "number_words" Ft ["numbers"] f fd)
  (t_sPWo:∃f fd,Tx K mg "pair_words" Fu ["pairs"] f fd)
  (t_sBG:∃f fd,Tx K mg "best_of_group" LH ["best","pairs","group"] f fd)
  (t_sBP:∃f fd,Tx K mg "best_pairings" LI ["many","pairs"] f fd)
  (t_sCkC:∃f fd,Tx K mg "check_costs" Fv ["costs"] f fd)
  (t_sCst:∃f fd,Tx K mg "cost_of" Fw ["rope"] f fd)
  (t_sEnd:∃f fd,Tx K mg "ends_of" Fx ["rope"] f fd)
  (t_sJon:∃f fd,Tx K mg "joins_on" Fy ["rope","joined","ground"] f fd)
  (t_sLNt:∃f fd,Tx K mg "least_net" Fz ["ropes","group"] f fd)
  (t_sNOf:∃f fd,Tx K mg "number_of" FA ["word"] f fd)
  (t_sNsO:∃f fd,Tx K mg "numbers_of" FC ["words"] f fd)
  (t_sPOf:∃f fd,Tx K mg "pair_of" FD ["word"] f fd)
  (t_sPsO:∃f fd,Tx K mg "pairs_of" FE ["words"] f fd)
  (t_sROf:∃f fd,Tx K mg "rule_of" FF ["many","words"] f fd)
  (t_sMOf:∃f fd,Tx K mg "many_of" FG ["part"] f fd)
  (t_sRea:∃f fd,Tx K mg "read" FH ["text"] f fd)
  (t_sWho:∃f fd,Tx K mg "_law_whole" FI ["_law_found"] f fd)
  (t_sCel:∃f fd,Tx K mg "_law_cell" FJ ["_law_script","_law_k"] f fd)
  (t_sNb:∃f fd,Tx K mg "_law_number" LJ ["_law_cell_here","_law_bound"] f fd)
  (t_sLRu:∃f fd,Tx K mg "_law_rule" FK ["_law_script","_law_at","_law_many","_law_bound"] f fd)
  (t_sLRs:∃f fd,Tx K mg "_law_rules" FL ["_law_script","_law_many"] f fd)
  (t_sTur:∃f fd,Tx K mg "_law_turned" FN ["_law_pairs","_law_way"] f fd)
  (t_sPrt:∃f fd,Tx K mg "_law_part" FO ["_law_head","_law_numbers","_law_pairs"] f fd)
  (t_sLEa:∃f fd,Tx K mg "_law_earned" FP ["_law_row","_law_group"] f fd)
  (t_sLOb:∃f fd,Tx K mg "_law_object" FQ ["_law_row","_law_many","_law_handed"] f fd)
  (t_sLHo:∃f fd,Tx K mg "_law_holds" FR ["_law_company","_law_many","_law_due","_law_some","_law_drawn"] f fd)
  (t_sLaw:∃f fd,Tx K mg "law" FT ["_law_script"] f fd)
  : ∃fd:qBd,(∀(s:qAk) (u:qAf),qKt s fd ⟨[u],[]⟩ [("_law_script",u)])/\∀base:Heap,K.In base->base.Ns qAx mg->fR P w K mg base cM 12 fa fd ["_law_script"] (wL K):=by
 obtain⟨AL,LN,RU,OW,PL,PA,VO,MA,NE,fE,fH,rR,rO,rP,rA,rV,rM,rN,iR,iO,iP,iA,iV,iM,iN,fL,wR,wO,wP,wA,wV,wM,wN,CO,iC,cH,cE,cW,SE,NG,NL,NT,T⟩:=hT;obtain⟨f_sNum,fd_sNum,t_sNum⟩:=t_sNum;obtain⟨f_sWith,fd_sWith,t_sWith⟩:=t_sWith;obtain⟨f_sChM,fd_sChM,t_sChM⟩:=t_sChM;obtain⟨f_sWC,fd_sWC,t_sWC⟩:=t_sWC;obtain⟨f_sChk,fd_sChk,t_sChk⟩:=t_sChk;obtain⟨f_sHnd,fd_sHnd,t_sHnd⟩:=t_sHnd;obtain⟨f_sIsT,fd_sIsT,t_sIsT⟩:=t_sIsT;obtain⟨f_sHin,fd_sHin,t_sHin⟩:=t_sHin;obtain⟨f_sCkN,fd_sCkN,t_sCkN⟩:=t_sCkN;obtain⟨f_sCkP,fd_sCkP,t_sCkP⟩:=t_sCkP;obtain⟨f_sSrt,fd_sSrt,t_sSrt⟩:=t_sSrt;obtain⟨f_sHB,fd_sHB,t_sHB⟩:=t_sHB;obtain⟨f_sSoH,fd_sSoH,t_sSoH⟩:=t_sSoH;obtain⟨f_sNWo,fd_sNWo,t_sNWo⟩:=t_sNWo;obtain⟨f_sPWo,fd_sPWo,t_sPWo⟩:=t_sPWo;obtain⟨f_sBG,fd_sBG,t_sBG⟩:=t_sBG;obtain⟨f_sBP,fd_sBP,t_sBP⟩:=t_sBP;obtain⟨f_sCkC,fd_sCkC,t_sCkC⟩:=t_sCkC;obtain⟨f_sCst,fd_sCst,t_sCst⟩:=t_sCst;obtain⟨f_sEnd,fd_sEnd,t_sEnd⟩:=t_sEnd;obtain⟨f_sJon,fd_sJon,t_sJon⟩:=t_sJon;obtain⟨f_sLNt,fd_sLNt,t_sLNt⟩:=t_sLNt;obtain⟨f_sNOf,fd_sNOf,t_sNOf⟩:=t_sNOf;obtain⟨f_sNsO,fd_sNsO,t_sNsO⟩:=t_sNsO;obtain⟨f_sPOf,fd_sPOf,t_sPOf⟩:=t_sPOf;obtain⟨f_sPsO,fd_sPsO,t_sPsO⟩:=t_sPsO;obtain⟨f_sROf,fd_sROf,t_sROf⟩:=t_sROf;obtain⟨f_sMOf,fd_sMOf,t_sMOf⟩:=t_sMOf;obtain⟨f_sRea,fd_sRea,t_sRea⟩:=t_sRea;obtain⟨f_sWho,fd_sWho,t_sWho⟩:=t_sWho;obtain⟨f_sCel,fd_sCel,t_sCel⟩:=t_sCel;obtain⟨f_sNb,fd_sNb,t_sNb⟩:=t_sNb;obtain⟨f_sLRu,fd_sLRu,t_sLRu⟩:=t_sLRu;obtain⟨f_sLRs,fd_sLRs,t_sLRs⟩:=t_sLRs;obtain⟨f_sTur,fd_sTur,t_sTur⟩:=t_sTur;obtain⟨f_sPrt,fd_sPrt,t_sPrt⟩:=t_sPrt;obtain⟨f_sLEa,fd_sLEa,t_sLEa⟩:=t_sLEa;obtain⟨f_sLOb,fd_sLOb,t_sLOb⟩:=t_sLOb;obtain⟨f_sLHo,fd_sLHo,t_sLHo⟩:=t_sLHo;obtain⟨f_sLaw,fd_sLaw,t_sLaw⟩:=t_sLaw;have e:=hfa.symm.trans t_sLaw.at_;cases e;refine⟨fd_sLaw,fun s u=>.of_eq (t_sLaw.bd [u] rfl),fun base _ _=>?_⟩;obtain⟨m1,x1⟩:=T.Nz;obtain⟨m2,x2⟩:=T.xH;obtain⟨m3,x3⟩:=T.xE;obtain⟨m4,x4⟩:=T.NA;obtain⟨m5,x5⟩:=T.ND;obtain⟨m6,x6⟩:=T.NF;obtain⟨m7,x7⟩:=T.NH;obtain⟨m8,x8⟩:=T.NJ;obtain⟨m9,x9⟩:=T.LU;obtain⟨m10,x10⟩:=T.LV;obtain⟨m11,x11⟩:=T.NM;obtain⟨m12,x12⟩:=T.NN;obtain⟨m13,x13⟩:=T.NP;obtain⟨m14,x14⟩:=T.NQ;obtain⟨m15,x15⟩:=T.NS;obtain⟨m16,x16⟩:=T.LX;obtain⟨m17,x17⟩:=T.LY;obtain⟨n1,y1⟩:=T.NC;obtain⟨n2,y2⟩:=T.LR;obtain⟨n3,y3⟩:=T.LS;obtain⟨n4,y4⟩:=T.LW;obtain⟨n5,y5⟩:=T.NO;obtain⟨n6,y6⟩:=T.NR;obtain⟨n7,y7⟩:=T.NU;obtain⟨c1',z1⟩:=T.NV;obtain⟨c2',z2⟩:=T.LZ;obtain⟨c3',z3⟩:=T.Ma;obtain⟨c4',z4⟩:=T.Mb;have d0:=Gd (P:=P) (w:=w) (base:=base) t_sNum T;have d1:=CF (P:=P) (w:=w) (base:=base) t_sWith d0;have d2:=Gg t_sChM T d1;have d3:=Jv (P:=P) (w:=w) (base:=base) t_sWC T;have d4:=Gi t_sChk T d1 d3;have d5:=Gj t_sHnd T d4;have d6:=Gm t_sHin T (Gk t_sIsT T d0);have d7:=Gn t_sCkN T d0;have d8:=Gs t_sSoH T d5;have d9:=Gq t_sSrt T (Gp t_sCkP T d7);have d10:=JD (P:=P) (w:=w) (base:=base) t_sHB T;have d11:=GY (P:=P) (w:=w) (base:=base) t_sNWo T;have d12:=GZ (P:=P) (w:=w) (base:=base) t_sPWo T;have eRI:=JF x1 T d2;have eH:=JG (P:=P) (w:=w) (mg:=mg) (base:=base) x2;have eE:=Gv x3 T d4;have eMI:=JW x13 T eRI d9 (JV t_sBP T d3 (JT t_sBG T d5 d10));have c1:=GK (P:=P) (w:=w) (base:=base) t_sCst T;have c2:=GN (P:=P) (w:=w) (base:=base) t_sEnd T;have c4:=GR t_sLNt T (GP t_sJon T c2) c2 c1;have eNL:=GW x16 T c4;have Z:=ZR.mk (fE:=fE) (fH:=fH) (CO:=CO) (iC:=iC) (cH:=cH) (cE:=cE) (cW:=cW) (AL:=AL) (LN:=LN) (SE:=SE) (NG:=NG) (RU:=RU) (fL:=fL) eRI (JJ x5 T eRI d7) (JL x7 T eRI d6) (GA x9 T eRI d9) (JP x11 T eRI d7) eMI (Ke x15 T eRI (GS t_sCkC T d7) d9 c1)
  (JH (P:=P) (w:=w) (mg:=mg) (base:=base) x4) (JK x6 T d8) (JM (P:=P) (w:=w) (mg:=mg) (base:=base) x8 T) (GB x10 T d10) (JQ x12 T d8) (JX (P:=P) (w:=w) (mg:=mg) (base:=base) x14 T) (GX x17 T eNL c1)
  (Kj (P:=P) (w:=w) (mg:=mg) (base:=base) y1) (Hb y2 T d11) (Hd y3 T d11) (He y4 T d12) (Kl y5 T d11) (Ko y6 T d12) (Kp y7 T d11 d12)
 have eCI:=Ks (fE:=fE) z1 T d2 eH;have eCH:=Kt (P:=P) (w:=w) (mg:=mg) (base:=base) z2;have eCE:=Kv z3 T d4 eE;have eCW:=Kx (P:=P) (w:=w) (mg:=mg) (base:=base) z4 T;have t1:=Hi (P:=P) (w:=w) (base:=base) t_sNOf T;have t2:=Hn t_sROf T Z (Hj t_sNsO T t1) (Hl t_sPsO T (Hk t_sPOf T t1));have t3:=Ho t_sRea T (Hm t_sMOf T) t2 eCI;have l1:=Gf (P:=P) (w:=w) (base:=base) t_sWho T;have l2:=Hq (P:=P) (w:=w) (base:=base) t_sCel T;have l3:=Hr t_sLRu T l2 (KH t_sNb T);have l4:=Ht (P:=P) (w:=w) (base:=base) t_sTur T;have l5:=Hw (P:=P) (w:=w) (base:=base) t_sLEa T;exact(HB t_sLaw T l2 (Hs t_sLRs T l3) l4 (Hu t_sPrt T) (Hy t_sLOb T Z l4) (HA t_sLHo T l1 l5 eCH eCE eCW) t3 eCI).ok
end K13
open PySem PySem.W PyProof.Rows
theorem L2.uu1{α}{P:List α->Prop}(h:∀ a,P [a]):∀us,us.length=1->P us
|[a],_=>h a
theorem L2.uu2{α}{P:List α->Prop}(h:∀ a b,P [a,b]):∀us,us.length=2->P us
|[a,b],_=>h a b
theorem L2.uu3{α}{P:List α->Prop}(h:∀ a b c,P [a,b,c]):∀us,us.length=3->P us
|[a,b,c],_=>h a b c
theorem L2.uu4{α}{P:List α->Prop}(h:∀ a b c d,P [a,b,c,d]):∀us,us.length=4->P us
|[a,b,c,d],_=>h a b c d
theorem L2.uu5{α}{P:List α->Prop}(h:∀ a b c d e,P [a,b,c,d,e]):∀us,us.length=5->P us
|[a,b,c,d,e],_=>h a b c d e
set_option maxRecDepth 100000 in
set_option maxHeartbeats 0 in
theorem PySem.Challenge.cw_shareparley_k13_words_read_holds : PySem.Challenge.rw_shareparley_k13_words_read.Holds := by
 w_on;o_law;k_head;(case hw=>w_witness2)
 k_fill
 refine K13.walk (l:=PySem.Challenge.rw_shareparley_k13_words_read) rfl rfl (fun w h Y=>PySem.W.kIn_of Y) ?F
 case F =>
  intro w mg fa h KX G hmg;refine K13.HC hmg ?T ?t_sNum ?t_sWith ?t_sChM ?t_sWC ?t_sChk ?t_sHnd ?t_sIsT ?t_sHin ?t_sCkN ?t_sCkP ?t_sSrt ?t_sHB ?t_sSoH ?t_sNWo ?t_sPWo ?t_sBG ?t_sBP ?t_sCkC ?t_sCst ?t_sEnd ?t_sJon ?t_sLNt ?t_sNOf ?t_sNsO ?t_sPOf ?t_sPsO ?t_sROf ?t_sMOf ?t_sRea ?t_sWho ?t_sCel ?t_sNb ?t_sLRu ?t_sLRs ?t_sTur ?t_sPrt ?t_sLEa ?t_sLOb ?t_sLHo ?t_sLaw
  case T=>
   refine' K13.MF KX G ?gT ?jC ?kN ?eM ?cN ?fF ?gG ?mS ?pC ?iE ?jW ?pD ?mT ?iF ?kY ?sL ?tP ?lkAL ?DD ?lkLN ?we ?mr ?mf ?fg ?zE ?pgRU ?hdRU ?poRU ?saRU ?caRU ?moRU ?nmRU ?feRU ?fhRU ?frRU ?irRU ?mkRU ?fiRU ?kkRU ?Ij ?pgOW ?hdOW ?poOW ?saOW ?caOW ?moOW ?nmOW ?feOW ?fhOW ?frOW ?irOW ?mkOW ?fiOW ?kkOW ?nf0OW ?Ik ?pgPL ?hdPL ?poPL ?saPL ?caPL ?moPL ?nmPL ?fePL ?fhPL ?frPL ?irPL ?mkPL ?fiPL ?kkPL ?nf0PL ?Il ?pgPA ?hdPA ?poPA ?saPA ?caPA ?moPA ?nmPA ?fePA ?fhPA ?frPA ?irPA ?mkPA ?fiPA ?kkPA ?nf0PA ?Im ?pgVO ?hdVO ?poVO ?saVO ?caVO ?moVO ?nmVO ?feVO ?fhVO ?frVO ?irVO ?mkVO ?fiVO ?kkVO ?nf0VO ?nf1VO ?nf2VO ?Io ?pgMA ?hdMA ?poMA ?saMA ?caMA ?moMA ?nmMA ?feMA ?fhMA ?frMA ?irMA ?mkMA ?fiMA ?kkMA ?nf0MA ?nf1MA ?Ip ?pgNE ?hdNE ?poNE ?saNE ?caNE ?moNE ?nmNE ?feNE ?fhNE ?frNE ?irNE ?mkNE ?fiNE ?kkNE ?nf0NE ?nf1NE ?fflNE ?ffwRU ?ffwOW ?ffwPL ?ffwPA ?ffwVO ?ffwMA ?ffwNE ?Gb ?pgCO ?hdCO ?poCO ?saCO ?caCO ?moCO ?nmCO ?nrCO ?feCO ?fhCO ?ftCO ?irCO ?mkCO ?fiCO ?kkCO ?lRI ?cdRI ?kpRI ?fnRI ?lH ?cdH ?kpH ?fnH ?lE ?cdE ?kpE ?fnE ?lRR ?cdRR ?kpRR ?fnRR ?lRW ?cdRW ?kpRW ?fnRW ?lOI ?cdOI ?kpOI ?fnOI ?lOR ?cdOR ?kpOR ?fnOR ?lOWo ?cdOWo ?kpOWo ?fnOWo ?lPI ?cdPI ?kpPI ?fnPI ?lPR ?cdPR ?kpPR ?fnPR ?lPlW ?cdPlW ?kpPlW ?fnPlW ?lPaI ?cdPaI ?kpPaI ?fnPaI ?lPaR ?cdPaR ?kpPaR ?fnPaR ?lPaW ?cdPaW ?kpPaW ?fnPaW ?lVI ?cdVI ?kpVI ?fnVI ?lVR ?cdVR ?kpVR ?fnVR ?lVW ?cdVW ?kpVW ?fnVW ?lMI ?cdMI ?kpMI ?fnMI ?lMR ?cdMR ?kpMR ?fnMR ?lMW ?cdMW ?kpMW ?fnMW ?lNI ?cdNI ?kpNI ?fnNI ?lNLs ?cdNLs ?kpNLs ?fnNLs ?lNRk ?cdNRk ?kpNRk ?fnNRk ?lNW ?cdNW ?kpNW ?fnNW ?lCI ?cdCI ?kpCI ?fnCI ?lCHs ?cdCHs ?kpCHs ?fnCHs ?lCEn ?cdCEn ?kpCEn ?fnCEn ?lCWo ?cdCWo ?kpCWo ?fnCWo ?cgcRI ?crcRI ?cfcRI ?KQ ?Jo ?yM ?Jp ?c6 ?c7 ?SE2 ?SE3 ?SE4 ?SE5 ?SE8 ?SE9 ?yN ?Jq ?Jr
   case gT|jC|kN|eM|cN|fF|gG|mS|pC|iE|jW|pD|mT|iF|kY|sL|tP|lkAL|DD|lkLN|we|mr|mf|fg|zE|pgRU|hdRU|poRU|saRU|caRU|moRU|nmRU|feRU|fhRU|frRU=>k_is
   (case irRU=>kit_is)
   case mkRU|fiRU|kkRU|Ij|pgOW|hdOW|poOW|saOW|caOW|moOW|nmOW|feOW|fhOW|frOW=>k_is
   (case irOW=>kit_is)
   case mkOW|fiOW|kkOW|nf0OW|Ik|pgPL|hdPL|poPL|saPL|caPL|moPL|nmPL|fePL|fhPL|frPL=>k_is
   (case irPL=>kit_is)
   case mkPL|fiPL|kkPL|nf0PL|Il|pgPA|hdPA|poPA|saPA|caPA|moPA|nmPA|fePA|fhPA|frPA=>k_is
   (case irPA=>kit_is)
   case mkPA|fiPA|kkPA|nf0PA|Im|pgVO|hdVO|poVO|saVO|caVO|moVO|nmVO|feVO|fhVO|frVO=>k_is
   (case irVO=>kit_is)
   case mkVO|fiVO|kkVO|nf0VO|nf1VO|nf2VO|Io|pgMA|hdMA|poMA|saMA|caMA|moMA|nmMA|feMA|fhMA|frMA=>k_is
   (case irMA=>kit_is)
   case mkMA|fiMA|kkMA|nf0MA|nf1MA|Ip|pgNE|hdNE|poNE|saNE|caNE|moNE|nmNE|feNE|fhNE|frNE=>k_is
   (case irNE=>kit_is)
   case mkNE|fiNE|kkNE|nf0NE|nf1NE|fflNE|ffwRU|ffwOW|ffwPL|ffwPA|ffwVO|ffwMA|ffwNE|Gb|pgCO|hdCO|poCO|saCO|caCO|moCO|nmCO|nrCO|feCO|fhCO|ftCO=>k_is
   (case irCO=>kit_is)
   case mkCO|fiCO|kkCO|lRI|cdRI|kpRI|fnRI|lH|cdH|kpH|fnH|lE|cdE|kpE|fnE|lRR|cdRR|kpRR|fnRR|lRW|cdRW|kpRW|fnRW|lOI|cdOI|kpOI|fnOI|lOR|cdOR|kpOR|fnOR|lOWo|cdOWo|kpOWo|fnOWo|lPI|cdPI|kpPI|fnPI|lPR|cdPR|kpPR|fnPR|lPlW|cdPlW|kpPlW|fnPlW|lPaI|cdPaI|kpPaI|fnPaI|lPaR|cdPaR|kpPaR|fnPaR|lPaW|cdPaW|kpPaW|fnPaW|lVI|cdVI|kpVI|fnVI|lVR|cdVR|kpVR|fnVR|lVW|cdVW|kpVW|fnVW|lMI|cdMI|kpMI|fnMI|lMR|cdMR|kpMR|fnMR|lMW|cdMW|kpMW|fnMW|lNI|cdNI|kpNI|fnNI|lNLs|cdNLs|kpNLs|fnNLs|lNRk|cdNRk|kpNRk|fnNRk|lNW|cdNW|kpNW|fnNW|lCI|cdCI|kpCI|fnCI|lCHs|cdCHs|kpCHs|fnCHs|lCEn|cdCEn|kpCEn|fnCEn|lCWo|cdCWo|kpCWo|fnCWo|cgcRI|crcRI|cfcRI|KQ|Jo|yM|Jp|c6|c7|SE2|SE3|SE4|SE5|SE8|SE9=>k_is
   case yN|Jq|Jr=>k_exc
  case t_sNum|t_sChM|t_sWC|t_sHnd|t_sIsT|t_sHin|t_sCkN|t_sNWo|t_sPWo|t_sCkC|t_sCst|t_sEnd|t_sNOf|t_sNsO|t_sPOf|t_sPsO|t_sMOf|t_sRea|t_sWho|t_sLaw=>
   refine' L2.bV KX G ?a ?l ?c ?k (fun _ _ _ _ _ _=>L2.uu1 fun _=>rfl)
   case a|l|c|k=>k_is
  case t_sWith|t_sHB|t_sBG|t_sJon|t_sPrt|t_sLOb=>
   refine' L2.bV KX G ?a ?l ?c ?k (fun _ _ _ _ _ _=>L2.uu3 fun _ _ _=>rfl)
   case a|l|c|k=>k_is
  case t_sChk|t_sCkP|t_sSrt|t_sSoH|t_sBP|t_sLNt|t_sROf|t_sCel|t_sNb|t_sLRs|t_sTur|t_sLEa=>
   refine' L2.bV KX G ?a ?l ?c ?k (fun _ _ _ _ _ _=>L2.uu2 fun _ _=>rfl)
   case a|l|c|k=>k_is
  case t_sLRu=>
   refine' L2.bV KX G ?a ?l ?c ?k (fun _ _ _ _ _ _=>L2.uu4 fun _ _ _ _=>rfl)
   case a|l|c|k=>k_is
  case t_sLHo=>
   refine' L2.bV KX G ?a ?l ?c ?k (fun _ _ _ _ _ _=>L2.uu5 fun _ _ _ _ _=>rfl)
   case a|l|c|k=>k_is
