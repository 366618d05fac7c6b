import PyProof.Rows.All
import Wide.All
import OpenK.AllK
import Wide.FinOn
import Lean
import PyProof.EqAt
import PyProof.EqKinds
import PyProof.TupleCall
import PySem.Challenge.RW_shareparley_k10_rules_refused
import KE.IntBitsLaws
import OpenK.KEqL
import KE.LcSums
import KE.KTupSum
import PyProof.Rows.EqDataRows
import PyProof.EnumMake
import PyProof.Rows.Range3
import PyProof.Rows.SortShell
import PyProof.Rows.SortWalk
import PyProof.ListRange
import KE.KSortTup
import KE.KDictOf
import KE.KMinKey
import KE.KDictList
import PyProof.Rows.SetFrom
import PyProof.SetScanFacts
import KE.KRevIter
import PyProof.FString
import PyProof.Rows.StrJoin2
set_option autoImplicit true
open PySem.W renaming Frag->qAa,kitOne->qAb,findIn->qAd,keepIn->qAs,nsIn->qAu,mroIn->qBa,codeIn->qBh,mg_none_of->qBj,fnOf->qBk,mg_of->qBm,isFn->qBu,plainGet->qCj,Looks->qCk,hasDictIn->qCm,emptyDict->qCn,plainOver->qCv,kitAny->qDa,specialIn->qDb,makesIn->qDc,instObj->qDd,excIn->qDo,takesIn->qDz,callWith_K->qEa,typeIn->qEk,looks_findIn->qEp,looks_mroIn->qEr,methodCall_KW->qFo,lookIn->qFs,plainGet_of->qFv,clsIn->qGe,methodObj->qGg,takerIn->qGn,hideAll->qGo,cellsFrom_some->qHg,hideAll_get->qHq,of_hideAll->qId,kitx_list->qIi,kitx_dict->qIj,handedIn->qIo,readsIn->qIt,findCls->qIu,OpenLaw->qIv,WalkO->qJd,KitX->qJi
open List renaming length_map->qAc,getElem?_eq_getElem->qAk,mem_append_right->qAm,length_append->qAp,size_toArray->qAr,not_mem_nil->qAw,range->qAy,getD_eq_getElem?_getD->qAz,mem_of_getElem?->qBe,mem_cons_of_mem->qBn,mem_cons->qBp,map_cons->qBq,length_take->qBv,map_append->qBw,getElem?_map->qBx,mem_singleton->qCb,length_cons->qCf,map_map->qCg,length_drop->qCl,filterMap_cons->qCo,filterMap_append->qCp,filterMap_map->qCs,append_nil->qCz,getElem?_append_right->qDh,getElem?_append_left->qDi,mem_append_left->qDl,range_succ->qDm,length_range->qDn,toArray->qDq,getElem_mem->qDs,getElem?_eq_none->qDt,filterMap_eq_map->qDu,map_congr_left->qDy,length_filterMap_le->qEb,mem_cons_self->qEc,getElem?_cons_succ->qEd,find?_cons->qEe,take_of_length_le->qEn,append_assoc->qEo,length_replicate->qEq,lookup->qEz,map_take->qFj,map_drop->qFk,filter_cons_of_pos->qFl,filter_cons_of_neg->qFm,any_cons->qFn,filterMap_eq_map'->qFq,length_set->qFt,all_append->qFu,getElem?_set_ne->qGb,replicate->qGf,all_cons->qGk,map_nil->qGq,take_length->qGt,of_mem_zip->qGy,nodup_cons->qGz,nodup_nil->qHi,mem_or_eq_of_mem_set->qHj,drop_zero->qHk,getElem?_cons_zero->qHm,range_succ_eq_map->qHr,getElem?_set_self->qHs,drop_of_length_le->qHt,take_append_drop->qIe,perm_append_comm->qIf,length_singleton->qIg,getElem?_of_mem->qIm,nodup_append->qJb,range'_succ->qJe,ext_getElem->qJf,nil_append->qJl,set->qJs,all_map->qKb
open PySem renaming wpAny_bind->qAe,Value->qAf,sizeLine->qAg,Shared->qAi,wpAny_pure->qAo,mainGlobals->qAq,FuncData->qAx,Program->qBf,starEach->qBg,wpAny->qBl,model->qBr,bootBuiltins->qBt,wpAny_truthy_bool->qBz,World->qCc,Around->qCd,wpAny_holding->qCq,compareOp->qCx,wpAny_Call_Name_kw->qDv,wpAny_passesOwn->qDx,sizeLine_eq->qEj,sysModules->qEl,backTo->qEm,wpAny_pyIter_list->qEs,wpAny_newObj_type->qEt,wpAny_mono->qEu,wpAny_tryCatch->qEv,binaryOp->qEw,codeAny_mono->qEy,PyData->qFb,wpAny_execs_nil->qFf,sliceBounds->qFg,foldedSetIterable->qFr,holding->qFx,codeAny->qFy,behindInMarks->qFz,letOwnedTupleGo->qGh,codeAny_builtin->qGi,wpAny_call->qGl,assignEach->qGm,plainId_quiet->qGw,getItem->qHd,Scope->qHe,IsPart->qHl,NameKind->qHp,wpAny_of_eq->qHw,wpAny_letGo->qHx,tupleKind->qHy,swapsWith->qHz,keywordEach->qIa,getMethod->qIb,callerA->qIc,assign->qIr,valueAt->qIy,bindArgs->qIz,BindsTo->qJa,cLine->qJh,standAt->qJp,relabel->qJq,typeOf->qJx,pyNext->qJy,backToKw->qJz,GenState->qKa,bindL->qKd,bindC->qKe,atKey->qKf,isTrue->qKp,Result->qKq
open PySem.Heap renaming get?_push_of_some->qAh,lt_size->qAt,get?_push_size->qBb,get?_update_ne->qFa,FlyingW->qFc,size_update->qFp,SameBut->qGr,get?_update_other->qHv,get?_none_of_le->qIn,get?_push_ne->qJc,size_push->qJn,MadeExcOf->qJo
open Bool renaming false_ne_true->qAj,and_eq_true->qAn,false_and->qBi,and_false->qBo,or_eq_true->qDe,false_eq_true->qEf,eq_iff_iff->qEg,not_true->qHn,false_or->qHo,and_true->qJv,or_true->qKc
open Nat renaming le_refl->qAl,lt_of_lt_of_le->qAv,ne_of_lt->qBc,le_of_lt->qBd,zero_le->qBy,lt_or_ge->qCa,le_trans->qCe,lt_of_le_of_lt->qCi,pow_le_pow_right->qCt,lt_irrefl->qDw,le_antisymm->qEh,eq_zero_or_pos->qEi,one_le_two_pow->qFd,sub_le->qGa,lt_succ_of_lt->qGp,lt_succ_self->qGu,div_eq_of_lt->qGv,le_succ->qHc,sub_zero->qIk,le_of_eq->qIl,min_eq_right->qJj,le_of_not_lt->qJk,min_eq_left->qJm,zero_div->qKi,succ_pos->qKj,sub_self->qKk,ne_of_gt->qKl,le_total->qKm
open PySem.Builtin renaming bitOr->qBs,bitAnd->qCh
open PyProof.Rows renaming seqObj->qCr,get?_update_seq->qFh,kindOf->qGc,envOfC->qGd,AllBare->qGj,IntsAre->qGs,sortedHeap->qHf,size_push'->qIs
open PySem.F renaming plain_min_loop->qCu,type_list_append->qDj,slot_list_append->qDk,plainAttrs_list->qDp,entry_min_loop->qFi,args_tuple_add_2->qGx,entry_tuple_add->qHb,slot_tuple_add->qHh
open Classical renaming byContradiction->qCw
open Int renaming toNat_of_nonneg->qCy,emod_nonneg->qDf,emod_lt_of_pos->qFe,zero_add->qFw,ofNat_sub->qHu,toNat_natCast->qJg,mul_nonneg->qJt,mul_le_mul->qJu,le_refl->qKo
open PyProof.Rows renaming slot_tuple_getitem->qDg,callWith_type1->qDr,lt_int->qKg,callWith_builtin1->qKh
open Array renaming length_toList->qEx,append_assoc->qIq,toList->qJw,getD->qKn
open PySem.Calls renaming Name_function_global->qHa,evalArgs_plain->qIh
open Option renaming isSome_map->qIp,getD_some->qIw,getD_none->qIx,none->qJr
theorem cP{α:Sort _}{a:α}{b:Prop}:a=a\/b:=.inl rfl
set_option Elab.async false
set_option linter.all false
set_option maxRecDepth 100000
namespace L2
open PySem PySem.Spec PyProof.Rows
theorem jS:1<=qAg:=by decide
theorem tF:2<=qAg:=by decide
theorem wF:3<=qAg:=by decide
abbrev Key:=Sum Int Str
def lY:Key->qAf->Bool
 | .inl k,v=>Value.isInt k v
 | .inr x,v=>Value.isStrOf x v
def IC(w:qCc):Key->Int
 | .inl k=>hashInt k
 | .inr x=>hashStr w x
theorem cH:∀{k:Key}{v:qAf},lY k v=true->(∃i t,k=Sum.inl i/\v=Value.int i t)\/(∃x t,k=Sum.inr x/\v=Value.str x t)
 | .inl i,v,h=>by
  obtain⟨t,e⟩:=Value.isInt_shape (k:=i) (v:=v) h;exact .inl ⟨i,t,rfl,e⟩
 | .inr x,v,h=>by
  obtain⟨t,e⟩:=Value.isStrOf_shape (x:=x) (v:=v) h;exact .inr ⟨x,t,rfl,e⟩
theorem uK(i:Int)(t:Tok):lY (.inl i) (.int i t)=true:=by simp[lY,Value.isInt]
theorem uL(x:Str)(t:Tok):lY (.inr x) (.str x t)=true:=by simp[lY,Value.isStrOf]
theorem Cc(a b:Int):decide ((Sum.inl a:Key)=Sum.inl b)=(a == b):=by
 by_cases e:a=b
 ·subst e;simp
 ·have h:¬(Sum.inl a:Key)=Sum.inl b:=fun q=>e (Sum.inl.inj q);rw[decide_eq_false h];exact(beq_eq_false_iff_ne.mpr e).symm
theorem Cd(a b:Str):decide ((Sum.inr a:Key)=Sum.inr b)=decide (a=b):=by
 by_cases e:a=b
 ·subst e;simp
 ·have h:¬(Sum.inr a:Key)=Sum.inr b:=fun q=>e (Sum.inr.inj q);rw[decide_eq_false h,decide_eq_false e]
theorem Ce(a:Int)(b:Str):decide ((Sum.inl a:Key)=Sum.inr b)=false:=decide_eq_false (fun q=>nomatch q)
theorem Cf(a:Str)(b:Int):decide ((Sum.inr a:Key)=Sum.inl b)=false:=decide_eq_false (fun q=>nomatch q)
def cV(prog:qBf)(w:qCc):PySem.KeyKind prog w Key where
 is:=lY
 hash:=IC w
 inj:=fun v a b ha hb=>by
  rcases cH ha with ⟨i,t,rfl,rfl⟩ | ⟨x,t,rfl,rfl⟩
  ·rcases cH hb with ⟨j,u,rfl,e⟩ | ⟨y,u,rfl,e⟩
   ·injection e with e1 _;rw[e1]
   ·exact nomatch e
  ·rcases cH hb with ⟨j,u,rfl,e⟩ | ⟨y,u,rfl,e⟩
   ·exact nomatch e
   ·injection e with e1 _;rw[e1]
 byValue:=fun k v h=>by
  rcases cH h with ⟨i,t,rfl,rfl⟩ | ⟨x,t,rfl,rfl⟩ <;> rfl
 pyHash:=fun hv h=>by
  rcases cH hv with ⟨i,t,rfl,rfl⟩ | ⟨x,t,rfl,rfl⟩
  ·exact wpAny_pyHash_int h
  ·exact wpAny_pyHash_str h
 eqBool:=fun hu hv h=>by
  rcases cH hu with ⟨i,t,rfl,rfl⟩ | ⟨x,t,rfl,rfl⟩
  ·rcases cH hv with ⟨j,u,rfl,rfl⟩ | ⟨y,u,rfl,rfl⟩
   ·rw[Cc] at h;exact wpAny_eqBool_int h
   ·rw[Ce] at h;exact SeqAt.EqAt.int_str i t y u _ _ _ _ h
  ·rcases cH hv with ⟨j,u,rfl,rfl⟩ | ⟨y,u,rfl,rfl⟩
   ·rw[Cf] at h;exact SeqAt.EqAt.str_int x t j u _ _ _ _ h
   ·rw[Cd] at h;exact wpAny_eqBool_str h
 «strs»:=fun k x t v h=>by
  rcases cH h with ⟨i,u,rfl,e⟩ | ⟨y,u,rfl,e⟩
  ·exact nomatch e
  ·injection e with e1 _
   subst e1;cases v <;> rfl
theorem oM(prog:qBf)(w:qCc)(i:Int)(t:Tok):(cV prog w).is (.inl i) (.int i t)=true:=uK i t
theorem oN(prog:qBf)(w:qCc)(x:Str)(t:Tok):(cV prog w).is (.inr x) (.str x t)=true:=uL x t
inductive V where
 | non | bl (b:Bool) | int (i:Int) | str (x:Str) | byt (b:Array UInt8) | flt (b:UInt64) | ref (a:Addr) | ty (n:String)
 deriving DecidableEq
def RelV:V->qAf->Prop
 | .non,u=>u=Value.none
 | .bl b,u=>u=Value.bool b
 | .int i,u=>∃t,u=Value.int i t
 | .str x,u=>∃t,u=Value.str x t
 | .byt b,u=>∃t,u=Value.bytes b t
 | .flt b,u=>∃t,u=Value.float b t
 | .ref a,u=>u=Value.ref a
 | .ty n,u=>u=Value.type n
abbrev Vals:List V->List qAf->Prop:=Paired RelV
theorem Vals.length(r:Vals xs us):xs.length=us.length:=Paired.length r
theorem Vals.get:∀{xs:List V}{us:List qAf}{i:Nat}{x:V},Vals xs us->xs[i]?=some x->∃u,us[i]?=some u/\RelV x u
 | _,_,_,_,.nil,e=>by simp at e
 | _,_,0,_,.cons r _,e=>by simp at e;subst e;exact⟨_,rfl,r⟩
 | _,_,i+1,x,.cons _ t,e=>by
  obtain⟨u,h1,h2⟩:=Vals.get (i:=i) (x:=x) t (by simpa using e);exact⟨u,by simpa using h1,h2⟩
theorem Vals.set(r:RelV x u):∀{xs:List V}{us:List qAf} (i:Nat),Vals xs us->Vals (xs.set i x) (us.set i u)
 | _,_,_,.nil=>.nil
 | _,_,0,.cons _ t=>.cons r t
 | _,_,i+1,.cons q t=>.cons q (Vals.set r i t)
theorem Vals.append:∀{xs ys:List V}{us ws:List qAf},Vals xs us->Vals ys ws->Vals (xs++ys) (us++ws)
 | _,_,_,_,.nil,s=>s
 | _,_,_,_,.cons r t,s=>.cons r (Vals.append t s)
theorem Vals.take:∀{xs:List V}{us:List qAf} (n:Nat),Vals xs us->Vals (xs.take n) (us.take n)
 | _,_,0,_=>.nil
 | _,_,_+1,.nil=>.nil
 | _,_,n+1,.cons r t=>.cons r (Vals.take n t)
theorem Vals.drop:∀{xs:List V}{us:List qAf} (n:Nat),Vals xs us->Vals (xs.drop n) (us.drop n)
 | _,_,0,r=>r
 | _,_,_+1,.nil=>.nil
 | _,_,n+1,.cons _ t=>Vals.drop n t
def hV:Option V->Option qAf->Prop
 | some v,some u=>RelV v u
 | none,none=>True
 | _,_=>False
def KV{κ:Type}:List (κ×V)->List (κ×qAf)->Prop:=Paired fun(p:κ×V) (q:κ×qAf)=>p.1=q.1/\RelV p.2 q.2
def kV:Key->V
 | .inl i=>.int i
 | .inr x=>.str x
inductive HO where
 | lst (xs:List V)
 | tup (xs:List V)
 | dK (kvs:List (Key×V)) | dT (kvs:List (List Key×V))
 | set (S:Int->Bool) (n:Nat)
 | ins (C dx:Addr) (fs:List (Str×V))
 | own (x:Addr)
 | xd (fs:List (Str×V))
 | met (f x:Addr)
 | rng (lo hi:Int)
 | frz (o:Obj) (u:HO)
 | tbl (ps:Array qAf)
 | ext (φ:Heap->Prop)
abbrev Hp:=Addr->Option HO
def upd(H:Hp)(a:Addr)(o:HO):Hp:=fun b=>if b=a then some o else H b
theorem aB:upd H a o a=some o:=by unfold upd;rw[if_pos rfl]
theorem aM(h:b≠a):upd H a o b=H b:=by unfold upd;rw[if_neg h]
theorem zS:upd (upd H a o) a u=upd H a u:=by
 funext b;unfold upd;split <;> rfl
theorem eR{H:Hp}{a b:Addr}{o u:HO}(h:H a=some o)(h':H b=some u)(d:o≠u):a≠b:=by
 intro e;subst e;rw[h] at h';exact d (Option.some.inj h')
theorem a9{H:Hp}{a b:Addr}{o:HO}(h:H a=some o)(h':H b=none):a≠b:=by
 intro e;subst e;rw[h] at h';cases h'
section
variable (P:qBf) (w:qCc)
def bZ(H:Hp)(h:Heap)(a:Addr):HO->Prop
 | .lst xs=>xs.length<=qAg/\∃(its:List qAf) (n:Nat),Vals xs its/\h.get? a=some { cls:=.type "list",data:=.seq its.toArray n }
 | .tup xs=>xs.length<=qAg/\∃its:List qAf,Vals xs its/\IsTup h a its.toArray
 | .dK kvs=>kvs.length<=qAg/\(a == qEl)=false/\∃vs,KV kvs vs/\h.DictOf (cV P w) a vs
 | .dT kvs=>kvs.length<=qAg/\(a == qEl)=false/\∃xs:List (List Key×Addr×qAf),
   Paired (fun(p:List Key×V) (q:List Key×Addr×qAf)=>p.1=q.1/\H q.2.1=some (.tup (p.1.map kV))/\RelV p.2 q.2.2) kvs xs /\
   ∃o es ep,h.get? a=some o/\o.ExactDict/\o.data = .dict es ep/\es.toList=xs.map (entryOfKey (qHy (cV P w)))/\(xs.map (·.1)).Nodup
 | .set S n=>h.SetOf (intKind P w) a S n
 | .ins C dx fs=>H dx=some (.own a)/\fs.length<=1000/\dx≠a/\h.get? a=some (qDd C dx) /\
   ∃mA,h.Ns1 dx mA/\(∀f,hV (fs.lookup f) (mA f))/\PySem.Within mA (fs.map (·.1))
 | .own _=>∃o,h.get? a=some o
 | .xd fs=>∃mA,h.Ns1 a mA/\∀f,hV (fs.lookup f) (mA f)
 | .rng lo hi=>∃t u v,h.get? a=some { cls:=.type "range",data:=.fields #[.int lo t,.int hi u,.int 1 v] }
 | .frz o u=>h.get? a=some o/\bZ H h a u
 | .tbl ps=>h.get? a=some { cls:=.none,data:=.fields ps }
 | .met f x=>h.get? a=some (qGg (.ref f) (.ref x))
 | .ext φ=>φ h/\(∃o,h.get? a=some o)/\∀h1 h2:Heap,φ h1->(∀o,h1.get? a=some o->h2.get? a=some o)->φ h2
def gZ(H:Hp)(h:Heap):Prop:=∀a o,H a=some o->bZ P w H h a o
end
section
variable {P:qBf}{w:qCc}{H H':Hp}{h h':Heap}{a:Addr}{o:HO}
theorem bZ.lt(x:bZ P w H h a o):a<h.objs.size:=by
 cases o with
 | lst xs=>obtain⟨_,_,_,_,e⟩:=x;exact qAt e
 | tup xs=>obtain⟨_,_,_,p⟩:=x;exact p.lt
 | dK kvs=>obtain⟨_,_,_,_,o,_,_,e,_⟩:=x;exact qAt e
 | dT kvs=>obtain⟨_,_,_,_,o,_,_,e,_⟩:=x;exact qAt e
 | set S n=>obtain⟨o,_,_,_,e,_⟩:=x;exact qAt e
 | ins C dx fs=>obtain⟨_,_,_,e,_⟩:=x;exact qAt e
 | own y=>obtain⟨_,e⟩:=x;exact qAt e
 | xd fs=>obtain⟨_,⟨_,_,_,e,_⟩,_⟩:=x;exact qAt e
 | rng lo hi=>obtain⟨_,_,_,e⟩:=x;exact qAt e
 | frz ob u=>obtain⟨e,_⟩:=x;exact qAt e
 | tbl ps=>exact qAt (show h.get? a=some _ from x)
 | met f y=>exact qAt (show h.get? a=some _ from x)
 | ext φ=>obtain⟨_,⟨_,e⟩,_⟩:=x;exact qAt e
theorem Paired.Cg:∀{l₁:List α}{l₂:List β},Paired F l₁ l₂->(∀a b,F a b->G a b)->Paired G l₁ l₂
 | _,_,.nil,_=>.nil
 | _,_,.cons r t,f=>.cons (f _ _ r) (Paired.Cg t f)
theorem bZ.iU(x:bZ P w H h a o)(k:∀b u,(b=a\/H b=some (.own a))->h.get? b=some u->h'.get? b=some u)
  (ho:∀b,H b=some (.own a)->H' b=some (.own a)) (ht:∀b xs,H b=some (.tup xs)->H' b=some (.tup xs)):bZ P w H' h' a o:=by
 induction o with
 | lst xs=>obtain⟨z,its,n,r,e⟩:=x;exact⟨z,its,n,r,k _ _ (.inl rfl) e⟩
 | tup xs=>obtain⟨z,its,r,ob,e,c⟩:=x;exact⟨z,its,r,ob,k _ _ (.inl rfl) e,c⟩
 | dK kvs=>obtain⟨z,y,vs,r,ob,es,ep,e,c⟩:=x;exact⟨z,y,vs,r,ob,es,ep,k _ _ (.inl rfl) e,c⟩
 | dT kvs =>
  obtain⟨z,y,xs,r,ob,es,ep,e,c⟩:=x;exact⟨z,y,xs,Paired.Cg r fun p q z=>⟨z.1,ht _ _ z.2.1,z.2.2⟩,ob,es,ep,k _ _ (.inl rfl) e,c⟩
 | set S n=>obtain⟨ob,es,ep,t,e,c⟩:=x;exact⟨ob,es,ep,t,k _ _ (.inl rfl) e,c⟩
 | ins C dx fs =>
  obtain⟨d,z,ne,e,mA,⟨od,es,ep,e2,c⟩,r⟩:=x;exact⟨ho _ d,z,ne,k _ _ (.inl rfl) e,mA,⟨od,es,ep,k _ _ (.inr d) e2,c⟩,r⟩
 | own y=>obtain⟨ob,e⟩:=x;exact⟨ob,k _ _ (.inl rfl) e⟩
 | xd fs=>obtain⟨mA,⟨od,es,ep,e,c⟩,r⟩:=x;exact⟨mA,⟨od,es,ep,k _ _ (.inl rfl) e,c⟩,r⟩
 | rng lo hi=>obtain⟨t,u,v,e⟩:=x;exact⟨t,u,v,k _ _ (.inl rfl) e⟩
 | frz ob u ih=>obtain⟨e,q⟩:=x;exact⟨k _ _ (.inl rfl) e,ih q⟩
 | tbl ps =>
  have e:h.get? a=some { cls:=.none,data:=.fields ps }:=x;show h'.get? a=some { cls:=.none,data:=.fields ps };exact k a _ (.inl rfl) e
 | met f y =>
  have e:h.get? a=some (qGg (.ref f) (.ref y)):=x;show h'.get? a=some (qGg (.ref f) (.ref y));exact k a _ (.inl rfl) e
 | ext φ=>obtain⟨p,⟨o,e⟩,st⟩:=x;exact⟨st _ _ p fun o q=>k _ _ (.inl rfl) q,⟨o,k _ _ (.inl rfl) e⟩,st⟩
theorem gZ.lt(x:gZ P w H h)(e:H a=some o):a<h.objs.size:=(x a o e).lt
theorem gZ.fresh(x:gZ P w H h)(e:h.objs.size<=a):H a=none:=by
 cases q:H a with
 | none=>rfl
 | some u=>exact absurd (qAv (x.lt q) e) (qDw _)
theorem gZ.kept(x:gZ P w H h)(k:∀b u,h.get? b=some u->h'.get? b=some u):gZ P w H h':=fun a o e =>
 (x a o e).iU (fun b u _ q=>k b u q) (fun _ q=>q) fun _ _ q=>q
theorem gZ.laid(x:gZ P w H h)(k:∀b u,h.get? b=some u->h'.get? b=some u)(hp:h.objs.size<=a)(new:bZ P w (upd H a o) h' a o):gZ P w (upd H a o) h':=fun b u e=>by
 have hn:=x.fresh hp;by_cases hb:b=a
 ·subst hb;rw[aB] at e;cases e;exact new
 ·rw[aM hb] at e;exact(x b u e).iU (fun c v _ q=>k c v q) (fun c q=>by rw[aM (a9 q hn)];exact q) fun c xs q=>by rw[aM (a9 q hn)];exact q
end
def Rd(H:Hp)(a:Addr)(u:HO):Prop:=H a=some u\/∃o,H a=some (.frz o u)
theorem Rd.ok(r:Rd H a u)(x:gZ P w H h):bZ P w H h a u:=by
 rcases r with r | ⟨o,r⟩
 ·exact x a u r
 ·obtain⟨_,q⟩:=x a _ r;exact q
def FQ:Option HO->Prop
 | some (.lst _)=>True
 | some (.dK _)=>True
 | some (.dT _)=>True
 | some (.set _ _)=>True
 | some (.ins _ _ _)=>True
 | some (.ext _)=>True
 | _=>False
section
variable {P:qBf}{w:qCc}{H:Hp}{h h':Heap}{x e:Addr}{o':HO}
theorem gZ.write(ok:gZ P w H h)(mu:FQ (H x))(he:e=x\/H e=some (.own x))(k:∀b u,b≠e->h.get? b=some u->h'.get? b=some u)(heo:∃u,h'.get? e=some u)
  (new:bZ P w (upd H x o') h' x o'):gZ P w (upd H x o') h':=fun b u q=>by
 have nown:∀c y,H c=some (.own y)->c≠x:=fun c y r z=>by subst z;rw[r] at mu;exact mu
 have ntup:∀c xs,H c=some (.tup xs)->c≠x:=fun c xs r z=>by subst z;rw[r] at mu;exact mu
 by_cases hb:b=x
 ·subst hb;rw[aB] at q;cases q;exact new
 ·rw[aM hb] at q;by_cases hbe:b=e
  ·have q':H b=some (.own x):=by
    rcases he with z | z
    ·exact absurd (hbe.trans z) hb
    ·rw[hbe];exact z
   rw[q] at q';cases q';obtain⟨v,hv⟩:=heo;exact⟨v,by rw[hbe];exact hv⟩
  ·refine(ok b u q).iU (fun c v hc r=>k c v ?_ r) (fun c r=>by rw[aM (nown c b r)];exact r) fun c xs r=>by rw[aM (ntup c xs r)];exact r
   rcases hc with rfl | hc
   ·exact hbe
   ·rintro rfl;rcases he with z | z
    ·exact nown c b hc z
    ·rw[hc] at z;cases z;exact hb rfl
end
structure Un (fs ex:List Addr) (H H':Hp) (h h':Heap):Prop where
 keep:∀b o,h.get? b=some o->H b=none->b∉fs->b∉ex->h'.get? b=some o
 slot:∀b o,h.get? b=some o->H b=none->b∈fs->b∉ex->∃sl,h'.get? b=some { o with slots:=sl }
 free:∀b o,h.get? b=some o->H b=none->b∉ex->H' b=none
 there:∀b o,h.get? b=some o->b∉ex->∃o',h'.get? b=some o'
 eT:∀b xs,H b=some (.tup xs)->H' b=some (.tup xs)
 gE:∀b o u,H b=some (.frz o u)->H' b=some (.frz o u)
 gW:∀b ps,H b=some (.tbl ps)->∃more,H' b=some (.tbl (ps++more))
section
variable {fs fs' ex ex':List Addr}{H H1 H2:Hp}{h h1 h2 h':Heap}{a x e:Addr}{o:HO}
theorem Un.any(u:Un fs ex H H1 h h1){b:Addr}{ob:Obj}(q:h.get? b=some ob)(n:H b=none)(hx:b∉ex):∃sl,h1.get? b=some { ob with slots:=sl }:=by
 by_cases hb:b∈fs
 ·exact u.slot b ob q n hb hx
 ·exact⟨ob.slots,u.keep b ob q n hb hx⟩
theorem Un.kept(k:∀b u,h.get? b=some u->h'.get? b=some u):Un fs ex H H h h' :=
 ⟨fun b ob q _ _ _=>k b ob q,fun b ob q _ _ _=>⟨ob.slots,k b ob q⟩,fun _ _ _ n _=>n,fun b ob q _=>⟨ob,k b ob q⟩,fun _ _ q=>q,fun _ _ _ q=>q,fun _ ps q=>⟨#[],by rw[q];simp⟩⟩
theorem Un.refl:Un fs ex H H h h:=Un.kept fun _ _ q=>q
theorem Un.laid(k:∀b u,h.get? b=some u->h'.get? b=some u)(hp:h.objs.size<=a)(hn:H a=none):Un fs ex H (upd H a o) h h' where
 keep:=fun b u q _ _ _=>k b u q
 slot:=fun b u q _ _ _=>⟨u.slots,k b u q⟩
 free:=fun b u q n _=>by rw[aM (qBc (qAv (qAt q) hp))];exact n
 there:=fun b u q _=>⟨u,k b u q⟩
 eT:=fun b xs q=>by rw[aM (a9 q hn)];exact q
 gE:=fun b u xs q=>by rw[aM (a9 q hn)];exact q
 gW:=fun b ps q=>⟨#[],by rw[aM (a9 q hn),q];simp⟩
theorem Un.write(mu:FQ (H x))(he:e=x\/H e=some (.own x))(k:∀b u,b≠e->h.get? b=some u->h'.get? b=some u)(heo:∃u,h'.get? e=some u):Un fs ex H (upd H x o) h h':=by
 have hx:∀b,H b=none->b≠x:=fun b n z=>by subst z;rw[n] at mu;exact mu
 have hb:∀b,H b=none->b≠e:=fun b n z=>by
  subst z;rcases he with r | r
  ·exact hx b n r
  ·rw[n] at r;cases r
 have hm:∀b u,H b=some u->¬FQ (some u)->b≠x:=fun b u q nm z=>by subst z;rw[q] at mu;exact nm mu
 refine⟨fun b u q n _ _=>k b u (hb b n) q,fun b u q n _ _=>⟨u.slots,k b u (hb b n) q⟩,fun b u q n _=>by rw[aM (hx b n)];exact n,fun b u q _=>?_,
  fun b xs q=>by rw[aM (hm b _ q fun z=>z)];exact q,fun b u xs q=>by rw[aM (hm b _ q fun z=>z)];exact q,fun b ps q=>⟨#[],by rw[aM (hm b _ q fun z=>z),q];simp⟩⟩
 by_cases hbe:b=e
 ·subst hbe;exact heo
 ·exact⟨u,k b u hbe q⟩
end
def Ip(h:Heap)(H:Hp):List Addr:=(qAy h.objs.size).filter fun a=>(H a).isSome
def nI(h:Heap)(H:Hp):Heap:=qGo h (Ip h H)
theorem uM(h:Heap)(H:Hp):(nI h H).objs.size=h.objs.size:=PySem.W.hideAll_size _ _
theorem wG(e:h.get? b=some o)(n:H b=none):(nI h H).get? b=some o :=
 qHq _ e fun hm=>by
  have q:(H b).isSome=true:=(List.mem_filter.mp hm).2;rw[n] at q;simp at q
theorem zT(e:(nI h H).get? b=some o):h.get? b=some o/\H b=none:=by
 have e':h.get? b=some o:=qId (Ip h H) e;refine⟨e',?_⟩;cases q:H b with
 | none=>rfl
 | some x =>
  have hm:b∈Ip h H:=List.mem_filter.mpr ⟨List.mem_range.mpr (qAt e'),by simp[q]⟩;have z:(nI h H).get? b=none:=PySem.W.hideAll_none (Ip h H) hm;rw[z] at e;cases e
def zU(g h:Heap)(L:Addr):List (Addr×Obj):=(qAy h.objs.size).filterMap fun a=>if a=L\/(g.get? a).isSome=true then none else (h.get? a).map fun o=>(a,o)
def rest(g h:Heap)(L d:Addr):List (Addr×Obj):=(zU g h L).filter fun p=>decide (p.1≠d)
structure Mod (K:qAa) (mg:Str->Option qAf) (base:Heap):Prop where
 Bh:K.In base
 glob:base.Ns qAq mg
 blt:∃mb,base.Ns builtinsNs mb/\∀x:Str,x≠"__name__"->mb x=qBt x
 nolimit:base.NoLimit
structure Cx where
 prog:qBf
 w:qCc
 K:qAa
 mg:Str->Option qAf
 base:Heap
 A:qCd
 N:List Str
 s₀:qAi
 H₀:Hp
 env:Env
 outer:List Env
 stack:List Env
 ex:List Addr
 fn:Str->Bool
 calm:Bool
 pn:List (Addr×Obj)
 xe:qAf->qAi->Prop
def jT(l:List Env):List Addr:=l.filterMap (·.frame)
abbrev Cx.fs(X:Cx):List Addr:=jT X.outer
def ID(sc:qHe)(x:Str):Prop:=sc.names.lookup x=some .local\/sc.names.lookup x=some .cell\/sc.names.lookup x=some .free
def Loc(sc:qHe)(x:Str):Prop:=sc.names.lookup x=some .local\/sc.names.lookup x=some .cell
def Look(env:Env)(h:Heap)(m:Str->Option qAf)(x:Str)(u:qAf):Prop :=
 (env.kindOf x=some .local/\m x=some u)\/((env.kindOf x=some .cell\/env.kindOf x=some .free)/\∃c,env.cells.lookup x=some c/\h.IsCell c (some u))
structure Cx.Ok (X:Cx):Prop where
 mod:Mod X.K X.mg X.base
 kind:X.env.scope.kind = .function
 glob:X.env.globals=qAq
 blt:X.env.builtins=builtinsNs
 above:X.s₀.heap.objs.size<=X.env.locals
 inj:∀x y c,X.env.cells.lookup x=some c->X.env.cells.lookup y=some c->x=y
 has:∀x,(X.env.kindOf x=some .cell\/X.env.kindOf x=some .free)->∃c,X.env.cells.lookup x=some c
 FR:∀x c,X.fn x=true->X.env.cells.lookup x=some c->X.s₀.heap.objs.size<=c
 hd:X.calm=true->X.A.handled=none
 frames:X.A.frames=some X.stack
 Iq:X.stack=X.outer\/(X.stack=X.env::X.outer/\X.env.frame=some X.env.locals)
 JK:∀b∈X.ex,b≠X.env.locals/\∀x c,X.env.cells.lookup x=some c->c≠b
 bs:∀b o,X.base.get? b=some o->X.s₀.heap.get? b=some o/\X.H₀ b=none
 zV:X.base.objs.size<=X.s₀.heap.objs.size
 wH:∀b o,X.base.get? b=some o->b∉X.ex
 zW:∀b∈X.ex,b∉X.fs
 gX:X.s₀.heap.FunFrames X.base X.outer
 Bi:∀b∈X.fs,X.H₀ b=none
structure Inv (X:Cx) (pins:List (Addr×Obj)) (σ:List (Option V)) (H:Hp) (s:qAi):Prop where
 ok:X.Ok
 os:s.os=X.s₀.os
 bare:qGj s.gens
 base:Un X.fs X.ex X.H₀ H X.s₀.heap s.heap
 loc:∃m,s.heap.Ns X.env.locals m/\∀(i:Nat) (x:Str) (v:V),X.N[i]?=some x->σ[i]?=some (some v)->ID X.env.scope x->∃u,RelV v u/\Look X.env s.heap m x u
 cell:∀x c,X.env.cells.lookup x=some c->∃v,s.heap.IsCell c v
 free:H X.env.locals=none
 gA:∀x c,X.env.cells.lookup x=some c->H c=none
 pin:∀p∈X.pn++pins,s.heap.get? p.1=some p.2/\H p.1=none/\p.1≠X.env.locals/\p.1∉X.fs/\∀v,p.2.data≠.cell v
 bX:gZ X.prog X.w H s.heap
 len:σ.length=X.N.length
section
variable {X:Cx}{pins:List (Addr×Obj)}{σ:List (Option V)}{H H':Hp}{s:qAi}{h':Heap}
theorem Cx.Ok.IE(ok:X.Ok){b:Addr}{o:Obj}(e:X.base.get? b=some o):b∉X.fs:=fun hb=>by
 have:=(ok.gX.mem hb).1;rw[e] at this;cases this
theorem Inv.bs(I:Inv X pins σ H s):∀b o,X.base.get? b=some o->s.heap.get? b=some o/\H b=none:=fun b o e =>
 ⟨I.base.keep b o (I.ok.bs b o e).1 (I.ok.bs b o e).2 (I.ok.IE e) (I.ok.wH b o e),I.base.free b o (I.ok.bs b o e).1 (I.ok.bs b o e).2 (I.ok.wH b o e)⟩
theorem Inv.bk(I:Inv X pins σ H s):∀b o,X.base.get? b=some o->s.heap.get? b=some o:=fun b o e=>(I.bs b o e).1
theorem Inv.mod(I:Inv X pins σ H s):Mod X.K X.mg X.base:=I.ok.mod
theorem Inv.j9(I:Inv X pins σ H s):X.K.In s.heap:=I.ok.mod.Bh.keeps I.bk
theorem Inv.lt(I:Inv X pins σ H s):X.env.locals<s.heap.objs.size:=let ⟨_,hn,_⟩:=I.loc;hn.lt
theorem Inv.sz(I:Inv X pins σ H s):X.s₀.heap.objs.size<=s.heap.objs.size:=qCe I.ok.above (qBd I.lt)
theorem Inv.FT(I:Inv X pins σ H s){a:Addr}(h:s.heap.objs.size<=a):a∉X.fs:=fun hb=>by
 obtain⟨_,o,ho,_⟩:=I.ok.gX.mem hb;exact absurd (qAv (qAt ho) (qCe I.sz h)) (qDw _)
theorem Inv.zX(I:Inv X pins σ H s):∀x c,X.env.cells.lookup x=some c->c≠X.env.locals:=fun x c e z=>by
 obtain⟨v,o,ho,hd⟩:=I.cell x c e;obtain⟨m,⟨o',es,ep,ho',hd',_⟩,_⟩:=I.loc;rw[z,ho'] at ho;cases ho;rw[hd'] at hd;cases hd
theorem Inv.gX(I:Inv X pins σ H s):s.heap.FunFrames X.base X.outer:=by
 have all:∀(l:List Env),(∀b∈jT l,b∈X.fs)->X.s₀.heap.FunFrames X.base l->s.heap.FunFrames X.base l:=by
  intro l;induction l with
  | nil=>intro _ _;trivial
  | cons env r ih =>
   intro hs hl;obtain⟨hk,⟨L,o,hf,hn,ho,hd⟩,hr⟩:=hl;have hL:L∈X.fs:=hs L (by unfold jT;rw[qCo,hf];exact qEc);obtain⟨sl,e⟩:=I.base.slot L o ho (I.ok.Bi L hL) hL fun z=>I.ok.zW L z hL;exact⟨hk,⟨L,_,hf,hn,e,hd⟩,ih (fun b hb=>hs b (by unfold jT;rw[qCo,hf];exact qBn _ hb)) hr⟩
 exact all X.outer (fun _ hb=>hb) I.ok.gX
theorem Inv.stack(I:Inv X pins σ H s):s.heap.FunFrames X.base X.stack:=by
 rcases I.ok.Iq with e | ⟨e,hf⟩
 ·rw[e];exact I.gX
 ·rw[e];obtain⟨m,hn,_⟩:=I.loc;refine .cons (by rw[I.ok.kind];decide) hf hn ?_ I.gX;exact qIn (qCe I.ok.zV I.ok.above)
theorem Inv.kA(I:Inv X pins σ H s):∀b∈jT X.stack,b∈X.env.locals::X.fs:=fun b hb=>by
 rcases I.ok.Iq with e | ⟨e,hf⟩
 ·rw[e] at hb;exact qBn _ hb
 ·rw[e] at hb;unfold jT at hb;rw[qCo,hf] at hb;exact hb
theorem Inv.jZ(I:Inv X pins σ H s):∀b∈jT X.stack,H b=none:=fun b hb=>by
 rcases List.mem_cons.mp (I.kA b hb) with e | hb
 ·rw[e];exact I.free
 ·obtain⟨_,o,ho,_⟩:=I.ok.gX.mem hb;exact I.base.free b o ho (I.ok.Bi b hb) fun z=>I.ok.zW b z hb
theorem Inv.step{g':Array qKa}{t':Nat}{d':Drawn}{ch:List Addr}(I:Inv X pins σ H s)
  (hch:∀b∈ch,(b∈X.ex\/X.s₀.heap.objs.size<=b)/\b≠X.env.locals/\(∀x c,X.env.cells.lookup x=some c->c≠b)/\∀p∈X.pn++pins,p.1≠b)
  (keep:∀b o,b≠X.env.locals->b∉X.fs->b∉ch->s.heap.get? b=some o->H b=none->h'.get? b=some o)
  (slot:∀b o,b≠X.env.locals->b∈X.fs->b∉ch->s.heap.get? b=some o->H b=none->∃sl,h'.get? b=some { o with slots:=sl }) (free:∀b o,b∉ch->s.heap.get? b=some o->H b=none->H' b=none)
  (there:∀b o,b∉ch->s.heap.get? b=some o->∃o',h'.get? b=some o')
  (eT:∀b xs,H b=some (.tup xs)->H' b=some (.tup xs)) (gE:∀b o u,H b=some (.frz o u)->H' b=some (.frz o u)) (gW:∀b ps,H b=some (.tbl ps)->∃more,H' b=some (.tbl (ps++more)))
  (ns:∀m,s.heap.Ns X.env.locals m->h'.Ns X.env.locals m) (bX:gZ X.prog X.w H' h') (hg:qGj g') :
  Inv X pins σ H' { s with heap:=h',gens:=g',drawn:=d',toks:=t' }:=by
 have neL:∀b o,X.s₀.heap.get? b=some o->b≠X.env.locals:=fun b o e=>qBc (qAv (qAt e) I.ok.above);have neC:∀b o,X.s₀.heap.get? b=some o->b∉X.ex->b∉ch:=fun b o e hx hb=>by
  rcases(hch b hb).1 with z | z
  ·exact hx z
  ·exact absurd (qAv (qAt e) z) (qDw _)
 have cellK:∀x c,X.env.cells.lookup x=some c->∀v,s.heap.IsCell c v->h'.IsCell c v:=fun x c e v ⟨o,ho,hd⟩=>by
  have nch:c∉ch:=fun z=>(hch c z).2.2.1 x c e rfl;by_cases hc:c∈X.fs
  ·obtain⟨sl,q⟩:=slot c o (I.zX x c e) hc nch ho (I.gA x c e);exact⟨_,q,hd⟩
  ·exact⟨o,keep c o (I.zX x c e) hc nch ho (I.gA x c e),hd⟩
 refine⟨I.ok,I.os,hg,⟨fun b o e n hb hx=>?_,fun b o e n hb hx=>?_,fun b o e n hx=>?_,fun b o e hx=>?_,fun b xs e=>eT b xs (I.base.eT b xs e),fun b o xs e=>gE b o xs (I.base.gE b o xs e),fun b ps e=>?_⟩,?_,fun x c e=>?_,?_,fun x c e=>?_,fun p hp=>?_,bX,I.len⟩
 ·exact keep b o (neL b o e) hb (neC b o e hx) (I.base.keep b o e n hb hx) (I.base.free b o e n hx)
 ·obtain⟨sl,e1⟩:=I.base.slot b o e n hb hx;obtain⟨sl',e2⟩:=slot b _ (neL b o e) hb (neC b o e hx) e1 (I.base.free b o e n hx);exact⟨sl',e2⟩
 ·obtain⟨o',e1⟩:=I.base.there b o e hx;exact free b o' (neC b o e hx) e1 (I.base.free b o e n hx)
 ·obtain⟨o',e1⟩:=I.base.there b o e hx;exact there b o' (neC b o e hx) e1
 ·obtain⟨m1,e1⟩:=I.base.gW b ps e;obtain⟨m2,e2⟩:=gW b _ e1;exact⟨m1++m2,by rw[e2,qIq]⟩
 ·obtain⟨m,hn,hl⟩:=I.loc;refine⟨m,ns m hn,fun i x v e1 e2 e3=>?_⟩;obtain⟨u,r,l⟩:=hl i x v e1 e2 e3;refine⟨u,r,?_⟩;rcases l with l | ⟨k,c,e,z⟩
  ·exact .inl l
  ·exact .inr ⟨k,c,e,cellK x c e _ z⟩
 ·obtain⟨v,z⟩:=I.cell x c e;exact⟨v,cellK x c e v z⟩
 ·obtain⟨m,⟨o,_,_,ho,_⟩,_⟩:=I.loc;exact free _ o (fun z=>(hch _ z).2.1 rfl) ho I.free
 ·obtain⟨v,o,ho,hd⟩:=I.cell x c e;exact free c o (fun z=>(hch c z).2.2.1 x c e rfl) ho (I.gA x c e)
 ·obtain⟨e,n,ne,nf,d⟩:=I.pin p hp;have nch:p.1∉ch:=fun z=>(hch p.1 z).2.2.2 p hp rfl;exact⟨keep p.1 p.2 ne nf nch e n,free p.1 p.2 nch e n,ne,nf,d⟩
theorem Inv.un{t':Nat}(I:Inv X pins σ H s)(u:Un X.fs [] H H' s.heap h')(bX:gZ X.prog X.w H' h'):Inv X pins σ H' { s with heap:=h',toks:=t' }:=by
 obtain⟨m,⟨o,es,ep,ho,r⟩,_⟩:=id I.loc;obtain⟨sl,hL⟩:=u.any ho I.free (by simp);exact I.step (g':=s.gens) (d':=s.drawn) (ch:=[]) (fun _ z=>nomatch z) (fun b o _ hb _ e n=>u.keep b o e n hb (by simp)) (fun b o _ hb _ e n=>u.slot b o e n hb (by simp)) (fun b o _ e n=>u.free b o e n (by simp)) (fun b o _ e=>u.there b o e (by simp)) u.eT u.gE u.gW (fun m' hm=>by
  obtain⟨o',es',ep',ho',r'⟩:=hm;rw[ho] at ho';cases ho';exact⟨_,es',ep',hL,r'⟩) bX I.bare
theorem Inv.call{g':Array qKa}{t':Nat}{d':Drawn}{ch:List Addr}(I:Inv X pins σ H s)(u:Un (jT X.stack) ch H H' s.heap h')(bX:gZ X.prog X.w H' h')(hg:qGj g')
  (hch:∀b∈ch,(b∈X.ex\/X.s₀.heap.objs.size<=b)/\b≠X.env.locals/\(∀x c,X.env.cells.lookup x=some c->c≠b)/\∀p∈X.pn++pins,p.1≠b) :
  Inv X pins σ H' { s with heap:=h',gens:=g',drawn:=d',toks:=t' }:=by
 obtain⟨m,⟨o,es,ep,ho,r⟩,_⟩:=id I.loc;obtain⟨sl,hL⟩:=u.any ho I.free fun z=>(hch _ z).2.1 rfl;exact I.step (ch:=ch) hch (fun b o hL hb hc e n=>u.keep b o e n (fun z=>(List.mem_cons.mp (I.kA b z)).elim hL hb) hc) (fun b o _ _ hc e n=>u.any e n hc) (fun b o hc e n=>u.free b o e n hc) (fun b o hc e=>u.there b o e hc) u.eT u.gE u.gW (fun m' hm=>by
  obtain⟨o',es',ep',ho',r'⟩:=hm;rw[ho] at ho';cases ho';exact⟨_,es',ep',hL,r'⟩) bX hg
theorem Inv.turned{t':Nat}{it:Addr}(I:Inv X pins σ H s)(k:∀b o,b≠it->s.heap.get? b=some o->h'.get? b=some o)(hn:H it=none)(hL:it≠X.env.locals)
  (h1:it∈X.ex\/X.s₀.heap.objs.size<=it) (h2:∀x c,X.env.cells.lookup x=some c->c≠it) (h3:∀p∈X.pn++pins,p.1≠it):Inv X pins σ H { s with heap:=h',toks:=t' }:=by
 have nit:∀b u,H b=some u->b≠it:=fun b u e z=>by rw[z,hn] at e;cases e
 refine I.step (g':=s.gens) (d':=s.drawn) (ch:=[it]) (fun b hb=>?_) (fun b o _ _ hc e _=>k b o (fun z=>hc (by simp[z])) e) (fun b o _ _ hc e _=>⟨o.slots,k b o (fun z=>hc (by simp[z])) e⟩) (fun _ _ _ _ n=>n)
  (fun b o hc e=>⟨o,k b o (fun z=>hc (by simp[z])) e⟩) (fun _ _ e=>e) (fun _ _ _ e=>e) (fun b ps e=>⟨#[],by rw[e];simp⟩) (fun m hm=>?_) (fun b u e=>?_) I.bare
 ·have e:b=it:=by simpa using hb
  subst e;exact⟨h1,hL,h2,h3⟩
 ·obtain⟨o,es,ep,ho,r⟩:=hm;exact⟨o,es,ep,k _ o (Ne.symm hL) ho,r⟩
 ·refine(I.bX b u e).iU (fun c v hc q=>k c v ?_ q) (fun _ q=>q) fun _ _ q=>q;rcases hc with z | z
  ·rw[z];exact nit b u e
  ·exact nit c _ z
theorem Inv.tok(I:Inv X pins σ H s)(t:Nat):Inv X pins σ H { s with toks:=t }:=I.un (h':=s.heap) (t':=t) Un.refl I.bX
theorem Inv.kept(I:Inv X pins σ H s)(k:∀b u,s.heap.get? b=some u->h'.get? b=some u):Inv X pins σ H { s with heap:=h',toks:=t' }:=I.un (Un.kept k) (I.bX.kept k)
theorem Inv.laid(I:Inv X pins σ H s)(k:∀b u,s.heap.get? b=some u->h'.get? b=some u)(hp:s.heap.objs.size<=a)(new:bZ X.prog X.w (upd H a o) h' a o):
  Inv X pins σ (upd H a o) { s with heap:=h',toks:=t' }:=I.un (Un.laid k hp (I.bX.fresh hp)) (I.bX.laid k hp new)
theorem Inv.write(I:Inv X pins σ H s)(mu:FQ (H x))(he:e=x\/H e=some (.own x))(k:∀b u,b≠e->s.heap.get? b=some u->h'.get? b=some u)(heo:∃u,h'.get? e=some u)
  (new:bZ X.prog X.w (upd H x o) h' x o):Inv X pins σ (upd H x o) { s with heap:=h',toks:=t' }:=I.un (Un.write mu he k heo) (I.bX.write mu he k heo new)
theorem Inv.nJ(I:Inv X pins σ H s)(h:∀p∈pins',s.heap.get? p.1=some p.2/\H p.1=none/\p.1≠X.env.locals/\p.1∉X.fs/\∀v,p.2.data≠.cell v):Inv X pins' σ H s :=
 ⟨I.ok,I.os,I.bare,I.base,I.loc,I.cell,I.free,I.gA,fun p hp=>(List.mem_append.mp hp).elim (fun z=>I.pin p (qDl _ z)) (h p),I.bX,I.len⟩
theorem kB{N:List Str}(hN:N.Nodup){i j:Nat}{x:Str}(a:N[i]?=some x)(b:N[j]?=some x):i=j:=by
 obtain⟨h1,e1⟩:=List.getElem?_eq_some_iff.mp a;obtain⟨h2,e2⟩:=List.getElem?_eq_some_iff.mp b;exact(List.getElem_inj hN).mp (e1.trans e2.symm)
theorem lZ{M:Model}{A:qCd}{E:qAf->qAi->Prop}{i:Nat}{x:Str}{v:V}{u:qAf}{Q:Unit->qAi->Prop}(I:Inv X pins σ H s)(hN:X.N.Nodup)(hi:X.N[i]?=some x)(hx:Loc X.env.scope x)(r:RelV v u)
  (h:∀s',Inv X pins (σ.set i (some v)) H s'->(∃a,qGr a s.heap s'.heap/\(a=X.env.locals\/X.env.cells.lookup x=some a))->Q () s') (hf:X.fn x=true\/X.env.scope.names.lookup x=some .local:=by first|exact .inl rfl | exact .inr rfl | assumption):qBl M A (storeName X.env x u) Q E s:=by
 obtain⟨m,hn,hl⟩:=id I.loc;have hcls:(X.env.scope.kind == .class||(X.env.scope.kind == .module&&X.env.locals != X.env.globals))=false:=by rw[I.ok.kind];rfl
 have hiσ:i<σ.length:=by rw[I.len];exact(List.getElem?_eq_some_iff.mp hi).1
 have zX:=I.zX;have tracked:∀{a:Addr}{h':Heap},(∃o,s.heap.get? a=some o/\H a=none)->qGr a s.heap h'->gZ X.prog X.w H h':=fun {a h'} ha hs b ob e=>by
  obtain⟨_,_,hfree⟩:=ha;refine(I.bX b ob e).iU (fun c w' hc q=>(hs.2 c ?_).trans q) (fun _ q=>q) fun _ _ q=>q;rintro rfl;rcases hc with rfl | hc
  ·rw[hfree] at e;cases e
  ·rw[hfree] at hc;cases hc
 rcases hx with hk | hk
 ·refine wpAny_storeName_local hk hn (fun h' hn' hs=>?_) hcls;obtain⟨oL,_,_,hoL,_⟩:=id hn;refine h _ ⟨I.ok,I.os,I.bare,⟨fun b o e n hb hx=>?_,fun b o e n hb hx=>?_,I.base.free,fun b o e hx=>?_,I.base.eT,I.base.gE,I.base.gW⟩,⟨_,hn',fun j y v' e1 e2 e3=>?_⟩,fun y c e=>?_,I.free,I.gA,fun p hp=>?_,tracked ⟨oL,hoL,I.free⟩ hs,by simpa using I.len⟩ ⟨_,hs,.inl rfl⟩
  ·exact(hs.2 b (qBc (qAv (qAt e) I.ok.above))).trans (I.base.keep b o e n hb hx)
  ·obtain⟨sl,e1⟩:=I.base.slot b o e n hb hx;exact⟨sl,(hs.2 b (qBc (qAv (qAt e) I.ok.above))).trans e1⟩
  ·obtain⟨o',e1⟩:=I.base.there b o e hx;exact⟨o',(hs.2 b (qBc (qAv (qAt e) I.ok.above))).trans e1⟩
  ·by_cases hj:j=i
   ·subst hj;rw[hi] at e1;cases e1;rw[qHs hiσ] at e2;cases e2;exact⟨u,r,.inl ⟨hk,by simp⟩⟩
   ·rw[qGb (Ne.symm hj)] at e2;obtain⟨u',r',q⟩:=hl j y v' e1 e2 e3;refine⟨u',r',?_⟩;rcases q with ⟨k,e⟩ | ⟨k,c,e,z⟩
    ·refine .inl ⟨k,?_⟩;have:y≠x:=fun e=>hj (kB hN e1 (e▸hi));simp[this,e]
    ·exact .inr ⟨k,c,e,z.sameBut hs (zX y c e)⟩
  ·obtain⟨w',z⟩:=I.cell y c e;exact⟨w',z.sameBut hs (zX y c e)⟩
  ·obtain⟨e,n,ne,nf,d⟩:=I.pin p hp;exact⟨(hs.2 p.1 ne).trans e,n,ne,nf,d⟩
 ·have hfn:X.fn x=true:=by
   rcases hf with z | z
   ·exact z
   ·rw[z] at hk;cases hk
  obtain⟨c,hc⟩:=I.ok.has x (.inl hk);obtain⟨w',z⟩:=I.cell x c hc;refine wpAny_storeName_cell I.ok.kind hk hc z (fun h' hc' hs=>?_);obtain⟨oc,hoc,hocd⟩:=id z;refine h { s with heap:=h' } ⟨I.ok,I.os,I.bare,⟨fun b o e n hb hx=>?_,fun b o e n hb hx=>?_,I.base.free,fun b o e hx=>?_,I.base.eT,I.base.gE,I.base.gW⟩,⟨m,hn.sameBut hs (Ne.symm (zX x c hc)),fun j y v' e1 e2 e3=>?_⟩,fun y c' e=>?_,I.free,I.gA,fun p hp=>?_,tracked ⟨oc,hoc,I.gA x c hc⟩ hs,by simpa using I.len⟩ ⟨c,hs,.inr hc⟩
  ·exact(hs.2 b (qBc (qAv (qAt e) (I.ok.FR x c hfn hc)))).trans (I.base.keep b o e n hb hx)
  ·obtain⟨sl,e1⟩:=I.base.slot b o e n hb hx;exact⟨sl,(hs.2 b (qBc (qAv (qAt e) (I.ok.FR x c hfn hc)))).trans e1⟩
  ·obtain⟨o',e1⟩:=I.base.there b o e hx;exact⟨o',(hs.2 b (qBc (qAv (qAt e) (I.ok.FR x c hfn hc)))).trans e1⟩
  ·by_cases hj:j=i
   ·subst hj;rw[hi] at e1;cases e1;rw[qHs hiσ] at e2;cases e2;exact⟨u,r,.inr ⟨.inl hk,c,hc,hc'⟩⟩
   ·rw[qGb (Ne.symm hj)] at e2;obtain⟨u',r',q⟩:=hl j y v' e1 e2 e3;refine⟨u',r',?_⟩;rcases q with q | ⟨k,c',e,z'⟩
    ·exact .inl q
    ·refine .inr ⟨k,c',e,z'.sameBut hs ?_⟩;rintro rfl;exact hj (kB hN e1 (I.ok.inj _ _ _ e hc▸hi))
  ·by_cases hcc:c'=c
   ·subst hcc;exact⟨_,hc'⟩
   ·obtain⟨w2,z2⟩:=I.cell y c' e;exact⟨w2,z2.sameBut hs hcc⟩
  ·obtain⟨e,n,ne,nf,d⟩:=I.pin p hp;refine⟨(hs.2 p.1 ?_).trans e,n,ne,nf,d⟩;intro q;rw[q,hoc] at e;have q':oc=p.2:=Option.some.inj e;exact d w' (by rw[<- q'];exact hocd)
theorem kC(I:Inv X pins σ H s)(hN:X.N.Nodup)(hi:X.N[i]?=some x)(hx:Loc X.env.scope x)(r:RelV v u)
  (h:∀s',Inv X pins (σ.set i (some v)) H s'->Q () s') (hf:X.fn x=true\/X.env.scope.names.lookup x=some .local:=by first|exact .inl rfl | exact .inr rfl | assumption):qBl M A (storeName X.env x u) Q E s :=
 lZ I hN hi hx r (fun s' I' _=>h s' I') hf
theorem Inv.call'(I:Inv X pins σ H s)(ho:s'.os=s.os)(u:Un (jT X.stack) ch H H' s.heap s'.heap)(bX:gZ X.prog X.w H' s'.heap)(hg:qGj s'.gens)
  (hch:∀b∈ch,(b∈X.ex\/X.s₀.heap.objs.size<=b)/\b≠X.env.locals/\(∀x c,X.env.cells.lookup x=some c->c≠b)/\∀p∈X.pn++pins,p.1≠b):Inv X pins σ H' s':=by
 obtain⟨h',g',d',t',o'⟩:=s';have e:o'=s.os:=ho;subst e;exact I.call (g':=g') (t':=t') (d':=d') u bX hg hch
end
abbrev XK:=qAf->Option Addr->Hp->Prop
abbrev St:=List (Option V)
abbrev VK:=V->Hp->Prop
abbrev TE:=St->Hp->VK->Prop
abbrev TT:=St->Hp->(Bool->Hp->Prop)->Prop
abbrev TA:=St->Hp->(List V->Hp->Prop)->Prop
structure Ends where
 nx:St->Hp->Prop
 rt:VK
 bk:St->Hp->Prop:=fun _ _=>False
 ct:St->Hp->Prop:=fun _ _=>False
abbrev TS:=Ends->St->Hp->Prop
def EP(X:Cx)(pins:List (Addr×Obj))(σ:St)(Q:VK)(u:qAf)(s':qAi):Prop:=∃v H',Inv X pins σ H' s'/\RelV v u/\Q v H'
def TP(X:Cx)(pins:List (Addr×Obj))(σ:St)(Q:Bool->Hp->Prop)(b:Bool)(s':qAi):Prop:=∃H',Inv X pins σ H' s'/\Q b H'
def AP(X:Cx)(pins:List (Addr×Obj))(σ:St)(Q:List V->Hp->Prop)(us:List qAf)(s':qAi):Prop:=∃vs H',Inv X pins σ H' s'/\Vals vs us/\Q vs H'
def SP(X:Cx)(pins:List (Addr×Obj))(D:Ends)(f:Flow)(s':qAi):Prop :=
 match f with
 | .next=>∃σ' H',Inv X pins σ' H' s'/\D.nx σ' H'
 | .brk=>∃σ' H',Inv X pins σ' H' s'/\D.bk σ' H'
 | .cont=>∃σ' H',Inv X pins σ' H' s'/\D.ct σ' H'
 | .ret u=>∃v σ' H',Inv X pins σ' H' s'/\RelV v u/\D.rt v H'
def PE(X:Cx)(e:Expr)(t:TE):Prop :=
 ∀(pins:List (Addr×Obj)) (s:qAi) (σ:St) (H:Hp) (Q:VK),Inv X pins σ H s->t σ H Q->qBl (qBr X.prog X.w) X.A (eval e X.env) (EP X pins σ Q) X.xe s
def PT(X:Cx)(e:Expr)(t:TT):Prop :=
 ∀(pins:List (Addr×Obj)) (s:qAi) (σ:St) (H:Hp) (Q:Bool->Hp->Prop),Inv X pins σ H s->t σ H Q->qBl (qBr X.prog X.w) X.A (qKp e X.env (eval e X.env)) (TP X pins σ Q) X.xe s
def PW(X:Cx)(e:Expr)(t:TT):Prop :=
 ∀(whole:Sem qAf) (pins:List (Addr×Obj)) (s:qAi) (σ:St) (H:Hp) (Q:Bool->Hp->Prop),Inv X pins σ H s->t σ H Q->qBl (qBr X.prog X.w) X.A (qKp e X.env whole) (TP X pins σ Q) X.xe s
theorem PW.pt(h:PW X e t):PT X e t:=h _
def PA(X:Cx)(es:List Expr)(t:TA):Prop :=
 ∀(pos:Pos) (pins:List (Addr×Obj)) (s:qAi) (σ:St) (H:Hp) (Q:List V->Hp->Prop),Inv X pins σ H s->t σ H Q->qBl (qBr X.prog X.w) X.A (spliced (qEm pos (qBg es X.env))) (AP X pins σ Q) X.xe s
def PS(X:Cx)(st:Stmt)(t:TS):Prop :=
 ∀(pins:List (Addr×Obj)) (s:qAi) (σ:St) (H:Hp) (D:Ends),Inv X pins σ H s->t D σ H->qBl (qBr X.prog X.w) X.A (exec st X.env) (SP X pins D) X.xe s
def lN(X:Cx)(st:List Stmt)(t:TS):Prop :=
 ∀(pins:List (Addr×Obj)) (s:qAi) (σ:St) (H:Hp) (D:Ends),Inv X pins σ H s->t D σ H->qBl (qBr X.prog X.w) X.A (execs st X.env) (SP X pins D) X.xe s
theorem bY(h:qBl M A t Q E s)(hQ:∀a s,Q a s->Q' a s):qBl M A t Q' E s:=qEu h hQ fun _ _ x=>x
section
variable {X:Cx}
def jU(i:Nat):TE:=fun σ H Q=>∃v,σ[i]?=some (some v)/\Q v H
def tC(v:V):TE:=fun _ H Q=>Q v H
theorem Ci(hN:X.N[i]?=some x)(hv:ID X.env.scope x)(hd:(x == ("__debug__":Str))=false:=by decide)(hcd:(x == ("__classdict__":Str))=false:=by decide):PE X (.Name x pos) (jU i):=by
 intro pins s σ H Q I h;obtain⟨v,e,h⟩:=h;obtain⟨m,hn,hl⟩:=I.loc;obtain⟨u,r,l⟩:=hl i x v hN e hv;have fin:EP X pins σ Q u s:=⟨v,H,I,r,h⟩;rcases l with ⟨hk,hm⟩ | ⟨hk,c,hc,hcell⟩
 ·exact wpAny_Name (wpAny_loadName_local I.ok.kind hk hn hm fin) hd
 ·rcases hk with hk | hk
  ·exact wpAny_Name (wpAny_loadName_cell I.ok.kind hk hc hcell fin) hd
  ·exact wpAny_Name (wpAny_loadName_free I.ok.kind hk hc hcell fin hcd) hd
theorem aC{i j pos}:PE X (.Constant (.int i) j pos) (tC (.int i)):=fun _ _ _ H _ I h=>wpAny_Constant_int ⟨.int i,H,I.tok _,⟨_,rfl⟩,h⟩
theorem hW{b j pos}:PE X (.Constant (.bool b) j pos) (tC (.bl b)):=fun _ _ _ H _ I h=>Constant_bool ⟨.bl b,H,I,rfl,h⟩
theorem iW{j pos}:PE X (.Constant .none j pos) (tC .non):=fun _ _ _ H _ I h=>Constant_none ⟨.non,H,I,rfl,h⟩
theorem eU{x j pos}:PE X (.Constant (.str x) j pos) (tC (.str x)):=fun _ _ _ H _ I h=>Calls.Constant_str ⟨.str x,H,I.tok _,⟨_,rfl⟩,h⟩
def Gl(X:Cx)(x:Str):Prop:=X.env.kindOf x=some .globalImplicit
theorem gQ(I:Inv X pins σ H s)(hg:Gl X x)(hm:X.mg x=some u)(h:Q u s)
  (hd:(x == ("__debug__":Str))=false:=by decide):qBl (qBr X.prog X.w) X.A (eval (.Name x pos) X.env) Q E s :=
 qHa I.ok.kind hg (Calls.loadGlobal_global (by rw[I.ok.glob];exact I.mod.glob.keeps I.bk) hm h) hd
theorem g7(I:Inv X pins σ H s)(hg:Gl X x)(hm:X.mg x=none)(hv:qBt x=some u)(h:Q u s)
  (hn:x≠"__name__":=by decide) (hd:(x == ("__debug__":Str))=false:=by decide):qBl (qBr X.prog X.w) X.A (eval (.Name x pos) X.env) Q E s:=by
 obtain⟨mb,h1,h2⟩:=I.mod.blt;exact qHa I.ok.kind hg (Calls.loadGlobal_builtin (by rw[I.ok.glob];exact I.mod.glob.keeps I.bk) hm (by rw[I.ok.blt];exact h1.keeps I.bk) ((h2 x hn).trans hv) h) hd
theorem a8(hg:Gl X x)(hm:X.mg x=some u)(r:RelV v u)(hd:(x == ("__debug__":Str))=false:=by decide):PE X (.Name x pos) (tC v) :=
 fun _ _ _ H _ I h=>gQ I hg hm ⟨v,H,I,r,h⟩ hd
theorem fF(hg:Gl X x)(hm:X.mg x=none)(hv:qBt x=some u)(r:RelV v u)(hn:x≠"__name__":=by decide)(hd:(x == ("__debug__":Str))=false:=by decide):PE X (.Name x pos) (tC v) :=
 fun _ _ _ H _ I h=>g7 I hg hm hv ⟨v,H,I,r,h⟩ hn hd
variable {a b:Expr}{ta tb:TE}{pos:Pos}
def PC(X:Cx)(op:CmpOp)(a b:Expr)(t:TE):Prop :=
 ∀(pins:List (Addr×Obj)) (s:qAi) (σ:St) (H:Hp) (Q:VK),Inv X pins σ H s->t σ H Q ->
  qBl (qBr X.prog X.w) X.A (eval a X.env) (fun v s₁=>qBl (qBr X.prog X.w) X.A (eval b X.env) (fun u s₂=>qBl (qBr X.prog X.w) X.A (qCx op v u) (EP X pins σ Q) X.xe s₂) X.xe s₁) X.xe s
def tB(t:TE):TT:=fun σ H Q=>t σ H fun x H1=>∃c,x = .bl c/\Q c H1
theorem Cj(h:PC X op a b t)(h1:qFz op b=false:=by first|exact nobehind _ (by decide) (by decide) | rfl):PT X (.Compare a [op] [b] pos) (tB t):=by
 intro pins s σ H Q I hw;refine wpAny_isTrue_Compare1 (bY (h pins s σ H _ I hw) fun v s1 h1=>bY h1 fun u s2 h2=>bY h2 fun c s3 ⟨x,H1,I1,r1,q1⟩=>?_) h1;obtain⟨d,rfl,q⟩:=q1;cases r1;exact qBz ⟨H1,I1,q⟩
theorem dG(h:PE X e t)(he:∀whole,qKp e X.env whole=(do let v <- whole;qJp e.pos;qFx [v] (truthy v)):=by intro _;rfl):PT X e (tB t):=by
 intro pins s σ H Q I hw;refine isTrue_plain (bY (h pins s σ H _ I hw) fun v s1 ⟨x,H1,I1,r1,q1⟩=>?_) (he _);obtain⟨d,rfl,q⟩:=q1;cases r1;exact qBz ⟨H1,I1,q⟩
variable {tA tB':TT}{rest:List Expr}
def IF(t u:TT):TT:=fun σ H Q=>t σ H fun c H1=>if c=true then u σ H1 Q else Q false H1
def Kb(t u:TT):TT:=fun σ H Q=>t σ H fun c H1=>if c=true then Q true H1 else u σ H1 Q
def IG(t:TT):TT:=fun σ H Q=>t σ H fun c H1=>Q (!c) H1
theorem pw_and1(ha:PT X a tA):PW X (.BoolOp .And [a] pos) tA:=by
 intro wh pins s σ H Q I h;refine isTrue_and (bY (ha pins s σ H Q I h) fun c s1 e=>?_);cases c with
 | true=>exact isTrue_and_nil e
 | false=>exact e
theorem pw_or1(ha:PT X a tA):PW X (.BoolOp .Or [a] pos) tA:=by
 intro wh pins s σ H Q I h;refine isTrue_or (bY (ha pins s σ H Q I h) fun c s1 e=>?_);cases c with
 | false=>exact isTrue_or_nil e
 | true=>exact e
theorem pw_and(ha:PT X a tA)(hb:PW X (.BoolOp .And (b::rest) pos) tB'):PW X (.BoolOp .And (a::b::rest) pos) (IF tA tB'):=by
 intro wh pins s σ H Q I h;refine isTrue_and (bY (ha pins s σ H _ I h) fun c s1 ⟨H1,I1,q1⟩=>?_);cases c with
 | true=>exact hb wh pins s1 σ H1 Q I1 q1
 | false=>exact⟨H1,I1,q1⟩
theorem pw_or(ha:PT X a tA)(hb:PW X (.BoolOp .Or (b::rest) pos) tB'):PW X (.BoolOp .Or (a::b::rest) pos) (Kb tA tB'):=by
 intro wh pins s σ H Q I h;refine isTrue_or (bY (ha pins s σ H _ I h) fun c s1 ⟨H1,I1,q1⟩=>?_);cases c with
 | true=>exact⟨H1,I1,q1⟩
 | false=>exact hb wh pins s1 σ H1 Q I1 q1
theorem fN(ha:PT X a tA):PT X (.UnaryOp .Not a pos) (IG tA):=by
 intro pins s σ H Q I h;exact isTrue_not (ha pins s σ H (fun c H1=>Q (!c) H1) I h)
def FU(ta tb:TE):TE:=fun σ H Q=>ta σ H fun x H1=>∃c,x = .bl c/\if c=true then tb σ H1 Q else Q (.bl false) H1
def IH(ta tb:TE):TE:=fun σ H Q=>ta σ H fun x H1=>∃c,x = .bl c/\if c=true then Q (.bl true) H1 else tb σ H1 Q
def FV(ta:TE):TE:=fun σ H Q=>ta σ H fun x H1=>∃c,x = .bl c/\Q (.bl (!c)) H1
theorem dY{op}{t:TE}(h:PE X a t):PE X (.BoolOp op [a] pos) t:=fun pins s σ H Q I hw=>BoolOp_one (h pins s σ H Q I hw)
theorem dZ(ha:PE X a ta)(hb:PE X (.BoolOp .And (b::rest) pos) tb):PE X (.BoolOp .And (a::b::rest) pos) (FU ta tb):=by
 intro pins s σ H Q I h;refine BoolOp_and (bY (ha pins s σ H _ I h) fun v s1 ⟨x,H1,I1,r1,q1⟩=>?_);obtain⟨c,rfl,q1⟩:=q1;cases r1;refine qBz ?_;cases c with
 | true=>exact hb pins s1 σ H1 Q I1 q1
 | false=>exact⟨.bl false,H1,I1,rfl,q1⟩
theorem Bj(ha:PE X a ta)(hb:PE X (.BoolOp .Or (b::rest) pos) tb):PE X (.BoolOp .Or (a::b::rest) pos) (IH ta tb):=by
 intro pins s σ H Q I h;refine BoolOp_or (bY (ha pins s σ H _ I h) fun v s1 ⟨x,H1,I1,r1,q1⟩=>?_);obtain⟨c,rfl,q1⟩:=q1;cases r1;refine qBz ?_;cases c with
 | false=>exact hb pins s1 σ H1 Q I1 q1
 | true=>exact⟨.bl true,H1,I1,rfl,q1⟩
theorem kD(ha:PE X a ta):PE X (.UnaryOp .Not a pos) (FV ta):=by
 intro pins s σ H Q I h;refine UnaryOp_ (bY (ha pins s σ H _ I h) fun v s1 ⟨x,H1,I1,r1,q1⟩=>?_);obtain⟨c,rfl,q1⟩:=q1;cases r1;exact not_of (qBz ⟨.bl (!c),H1,I1,rfl,q1⟩)
def Kc(t:TT)(ta tb:TE):TE:=fun σ H Q=>t σ H fun c H1=>if c=true then ta σ H1 Q else tb σ H1 Q
theorem wI(hc:PT X c tA)(ha:PE X a ta)(hb:PE X b tb):PE X (.IfExp c a b pos) (Kc tA ta tb):=by
 intro pins s σ H Q I h;refine wpAny_IfExp (bY (hc pins s σ H _ I h) fun d s1 ⟨H1,I1,q1⟩=>?_);cases d with
 | true=>exact ha pins s1 σ H1 Q I1 q1
 | false=>exact hb pins s1 σ H1 Q I1 q1
end
def aX(K:qAa)(H:Hp)(a:Addr)(xs:List V):Prop :=
 Rd H a (.lst xs) \/
  ∃(o:Obj) (its:Array qAf) (n:Nat),K.lookup a=some o/\o.cls = .type "list"/\o.dict=none/\o.data = .seq its n/\its.size<=qAg/\Vals xs its.toList
def dU(K:qAa)(H:Hp)(a:Addr)(xs:List V):Prop :=
 Rd H a (.tup xs) \/
  ∃(o:Obj) (its:Array qAf) (n:Nat),K.lookup a=some o/\o.cls = .type "tuple"/\o.data = .seq its n/\its.size<=qAg/\Vals xs its.toList
def II:qAf->Option V
 | .none=>some .non
 | .bool b=>some (.bl b)
 | .int i _=>some (.int i)
 | .str x _=>some (.str x)
 | .bytes b _=>some (.byt b)
 | .float b _=>some (.flt b)
 | .ref a=>some (.ref a)
 | .type n=>some (.ty n)
 | _=>none
theorem RelV.abs(r:RelV x u):II u=some x:=by
 cases x with
 | non=>cases r;rfl
 | bl _=>cases r;rfl
 | int _=>obtain⟨t,rfl⟩:=r;rfl
 | str _=>obtain⟨t,rfl⟩:=r;rfl
 | byt _=>obtain⟨t,rfl⟩:=r;rfl
 | flt _=>obtain⟨t,rfl⟩:=r;rfl
 | ref _=>cases r;rfl
 | ty _=>cases r;rfl
theorem RelV.inj(r:RelV x u)(q:RelV y u):x=y:=Option.some.inj (r.abs.symm.trans q.abs)
theorem Vals.inj:∀{xs ys:List V}{us:List qAf},Vals xs us->Vals ys us->xs=ys
 | _,_,_,.nil,.nil=>rfl
 | _,_,_,.cons r t,.cons r' t'=>by rw[r.inj r',Vals.inj t t']
section
variable {X:Cx}{pins:List (Addr×Obj)}{σ:St}{H:Hp}{s:qAi}{a:Addr}{xs ys:List V}
theorem aX.of{K:qAa}(h:H a=some (.lst xs)):aX K H a xs:=.inl (.inl h)
theorem dU.of{K:qAa}(h:H a=some (.tup xs)):dU K H a xs:=.inl (.inl h)
theorem Inv.list(I:Inv X pins σ H s)(h:aX X.K H a xs):∃its:List qAf,Vals xs its/\PlainL s.heap a its.toArray/\xs.length<=qAg:=by
 rcases h with h | ⟨o,its,n,hk,hc,hd,hs,hz,r⟩
 ·obtain⟨z,its,n,r,e⟩:=h.ok I.bX;exact⟨its,r,⟨_,n,e,rfl,rfl,rfl⟩,z⟩
 ·refine⟨its.toList,r,⟨o,n,I.j9 a o hk,hc,hd,by simpa using hs⟩,?_⟩;have e:=r.length;simp only[qEx] at e;lia
theorem Inv.tuple(I:Inv X pins σ H s)(h:dU X.K H a xs):∃its:List qAf,Vals xs its/\IsTup s.heap a its.toArray/\xs.length<=qAg:=by
 rcases h with h | ⟨o,its,n,hk,hc,hs,hz,r⟩
 ·obtain⟨z,its,r,p⟩:=h.ok I.bX;exact⟨its,r,p,z⟩
 ·refine⟨its.toList,r,⟨o,I.j9 a o hk,hc,n,by simpa using hs⟩,?_⟩;have e:=r.length;simp only[qEx] at e;lia
theorem Inv.oO(I:Inv X pins σ H s)(h:aX X.K H a xs)(h':aX X.K H a ys):xs=ys:=by
 obtain⟨its,r,⟨o,n,e,_,_,d⟩,_⟩:=I.list h;obtain⟨its',r',⟨o',n',e',_,_,d'⟩,_⟩:=I.list h';rw[e] at e';cases e';rw[d] at d';injection d' with d1 _;have:its=its':=by simpa using congrArg qJw d1
 subst this;exact r.inj r'
theorem Inv.uN(I:Inv X pins σ H s)(h:dU X.K H a xs)(h':dU X.K H a ys):xs=ys:=by
 obtain⟨its,r,⟨o,e,_,n,d⟩,_⟩:=I.tuple h;obtain⟨its',r',⟨o',e',_,n',d'⟩,_⟩:=I.tuple h';rw[e] at e';cases e';rw[d] at d';injection d' with d1 _;have:its=its':=by simpa using congrArg qJw d1
 subst this;exact r.inj r'
end
abbrev Cx.lO(X:Cx)(E:qAf->qAi->Prop):Cx:={ X with xe:=E }
abbrev Cx.Fo(X:Cx):Cx:=X.lO fun _ _=>False
theorem Cx.Ok.lO{X:Cx}(ok:X.Ok)(E:qAf->qAi->Prop):(X.lO E).Ok :=
 ⟨ok.mod,ok.kind,ok.glob,ok.blt,ok.above,ok.inj,ok.has,ok.FR,ok.hd,ok.frames,ok.Iq,ok.JK,ok.bs,ok.zV,ok.wH,ok.zW,ok.gX,ok.Bi⟩
theorem Cx.Ok.gF{X:Cx}{E:qAf->qAi->Prop}(ok:(X.lO E).Ok):X.Ok :=
 ⟨ok.mod,ok.kind,ok.glob,ok.blt,ok.above,ok.inj,ok.has,ok.FR,ok.hd,ok.frames,ok.Iq,ok.JK,ok.bs,ok.zV,ok.wH,ok.zW,ok.gX,ok.Bi⟩
section
variable {X:Cx}{pins:List (Addr×Obj)}{σ:St}{H:Hp}{s:qAi}{E:qAf->qAi->Prop}
theorem Inv.lO(I:Inv X pins σ H s)(E:qAf->qAi->Prop):Inv (X.lO E) pins σ H s:=⟨I.ok.lO E,I.os,I.bare,I.base,I.loc,I.cell,I.free,I.gA,I.pin,I.bX,I.len⟩
theorem Inv.gF(I:Inv (X.lO E) pins σ H s):Inv X pins σ H s:=⟨I.ok.gF,I.os,I.bare,I.base,I.loc,I.cell,I.free,I.gA,I.pin,I.bX,I.len⟩
theorem SP.gF(h:SP (X.lO E) pins D f s'):SP X pins D f s':=by
 cases f with
 | next=>obtain⟨σ',H',I,q⟩:=h;exact⟨σ',H',I.gF,q⟩
 | brk=>obtain⟨σ',H',I,q⟩:=h;exact⟨σ',H',I.gF,q⟩
 | cont=>obtain⟨σ',H',I,q⟩:=h;exact⟨σ',H',I.gF,q⟩
 | ret u=>obtain⟨v,σ',H',I,r,q⟩:=h;exact⟨v,σ',H',I.gF,r,q⟩
theorem lN.Fo{st:List Stmt}{t:TS}(h:lN X.Fo st t):lN X st t:=fun pins s σ H D I hw =>
 qEu (h pins s σ H D (I.lO _) hw) (fun _ _ q=>q.gF) fun _ _ z=>False.elim z
end
section
variable {X:Cx}{st:Stmt}{rest:List Stmt}{t u:TS}{e:Expr}{te:TE}{pos:Pos}
def cF:TS:=fun D σ H=>D.nx σ H
def Ck(t u:TS):TS:=fun D σ H=>t { D with nx:=u D } σ H
theorem aQ:lN X [] cF:=fun _ _ σ H _ I h=>qFf ⟨σ,H,I,h⟩
theorem aE(h1:PS X st t)(h2:lN X rest u):lN X (st::rest) (Ck t u):=by
 intro pins s σ H D I h;refine wpAny_execs_cons (bY (h1 pins s σ H { D with nx:=u D } I h) fun f s1 q=>?_);cases f with
 | next =>
  obtain⟨σ',H',I',q⟩:=q;exact h2 pins s1 σ' H' D I' q
 | ret v=>exact q
 | brk=>exact q
 | cont=>exact q
theorem aG(h1:PS X st t):lN X [st] t:=by
 intro pins s σ H D I h;refine wpAny_execs_cons (bY (h1 pins s σ H D I h) fun f s1 q=>?_);cases f with
 | next=>exact qFf q
 | ret v=>exact q
 | brk=>exact q
 | cont=>exact q
theorem Inv.quiet(I:Inv X pins σ H s):interactive X.env=false:=by simp[interactive,I.ok.kind]
def Bk(te:TE):TS:=fun D σ H=>te σ H fun _ H1=>D.nx σ H1
theorem bO(he:PE X e te)(hs:qHz e none pos.line X.env=pure false:=by rfl):PS X (.Expr e pos) (Bk te):=by
 intro pins s σ H D I h;exact wpAny_Expr_any (bY (he pins s σ H _ I h) fun v s1 ⟨x,H1,I1,r1,q1⟩=>⟨σ,H1,I1,q1⟩) I.quiet hs
def FW(te:TE):TS:=fun D σ H=>te σ H D.rt
theorem aN(he:PE X e te):PS X (.Return (some e) pos) (FW te):=by
 intro pins s σ H D I h;exact wpAny_Return_some (bY (he pins s σ H _ I h) fun v s1 ⟨x,H1,I1,r1,q1⟩=>⟨x,σ,H1,I1,r1,q1⟩)
def IJ(c:TT)(t u:TS):TS:=fun D σ H=>c σ H fun b H1=>if b=true then t D σ H1 else u D σ H1
theorem bC(hc:PT X c tc)(ha:lN X a t)(hb:lN X b u):PS X (.If c a b pos) (IJ tc t u):=by
 intro pins s σ H D I h;refine wpAny_If (bY (hc pins s σ H _ I h) fun d s1 ⟨H1,I1,q1⟩=>?_);cases d with
 | true=>exact ha pins s1 σ H1 D I1 q1
 | false=>exact hb pins s1 σ H1 D I1 q1
end
abbrev TG:=V->St->Hp->(St->Hp->Prop)->Prop
abbrev FX:=List V->St->Hp->(St->Hp->Prop)->Prop
def PG(X:Cx)(target:Expr)(t:TG):Prop :=
 ∀(pins:List (Addr×Obj)) (s:qAi) (σ:St) (H:Hp) (v:V) (u:qAf) (Q:St->Hp->Prop),Inv X pins σ H s->RelV v u->t v σ H Q ->
  qBl (qBr X.prog X.w) X.A (qIr target X.env u) (fun _ s'=>∃σ' H',Inv X pins σ' H' s'/\Q σ' H') X.xe s
def FY(X:Cx)(ts:List Expr)(t:FX):Prop :=
 ∀(pins:List (Addr×Obj)) (s:qAi) (σ:St) (H:Hp) (vs:List V) (us:List qAf) (Q:St->Hp->Prop),Inv X pins σ H s->Vals vs us->t vs σ H Q ->
  qBl (qBr X.prog X.w) X.A (assignInOrder ((qGm ts X.env).map (·.2)) us) (fun _ s'=>∃σ' H',Inv X pins σ' H' s'/\Q σ' H') X.xe s
abbrev FZ:=V->V->V->Hp->(Hp->Prop)->Prop
def Cm(X:Cx)(t:FZ):Prop :=
 ∀(pins:List (Addr×Obj)) (s:qAi) (σ:St) (H:Hp) (o i v:V) (ov iv u:qAf) (Q:Hp->Prop),Inv X pins σ H s->RelV o ov->RelV i iv->RelV v u->t o i v H Q ->
  qBl (qBr X.prog X.w) X.A (setItem ov iv u) (fun _ s'=>∃H',Inv X pins σ H' s'/\Q H') X.xe s
abbrev Ke:=V->V->Hp->VK->Prop
def Kf(X:Cx)(op:Operator)(t:Ke):Prop :=
 ∀(pins:List (Addr×Obj)) (s:qAi) (σ:St) (H:Hp) (x y:V) (v u:qAf) (Q:VK),Inv X pins σ H s->RelV x v->RelV y u->t x y H Q ->
  qBl (qBr X.prog X.w) X.A (inplaceOp op v u) (EP X pins σ Q) X.xe s
section
variable {X:Cx}{pos:Pos}
def bH(i:Nat):TG:=fun v σ H Q=>Q (σ.set i (some v)) H
theorem bI(hN:X.N.Nodup)(hi:X.N[i]?=some x)(hx:Loc X.env.scope x)(hf:X.fn x=true\/X.env.scope.names.lookup x=some .local:=by first|exact .inl rfl | exact .inr rfl | assumption):PG X (.Name x pos) (bH i):=by
 intro pins s σ H v u Q I r h;exact wpAny_assign_Name (kC I hN hi hx r (fun s' I'=>⟨_,H,I',h⟩) hf)
def zY:FX:=fun vs σ H Q=>vs=[]/\Q σ H
def hX(t:TG)(u:FX):FX:=fun vs σ H Q=>∃v r,vs=v::r/\t v σ H fun σ' H'=>u r σ' H' Q
theorem j3:FY X [] zY:=by
 intro pins s σ H vs us Q I r h;obtain⟨e,h⟩:=h;subst e;cases r;exact assignInOrder_nil ⟨σ,H,I,h⟩
theorem cU(h1:PG X e t)(h2:FY X es u)
  (hs:(qGm (e::es) X.env).map (·.2)=qIr e X.env::(qGm es X.env).map (·.2):=by rfl):FY X (e::es) (hX t u):=by
 intro pins s σ H vs us Q I r h;obtain⟨v,vr,e1,h⟩:=h;subst e1;cases r with
 | cons r rr =>
  rw[hs];refine assignInOrder_cons (bY (h1 pins s σ H _ _ _ I r h) fun _ s1 ⟨σ1,H1,I1,q1⟩=>?_);exact h2 pins s1 σ1 H1 _ _ Q I1 rr q1
def zZ(K:qAa)(n:Nat)(t:FX):TG:=fun v σ H Q=>∃a xs,v = .ref a/\dU K H a xs/\xs.length=n/\t xs σ H Q
theorem nK(hc:X.calm=true)(h:FY X es t)
  (hn:(qGm es X.env).length=n:=by rfl) (hst:(qGm es X.env).findIdx? (·.1)=none:=by rfl):PG X (.Tuple es k pos) (zZ X.K n t):=by
 intro pins s σ H v u Q I r hw;obtain⟨a,xs,e1,hq,hl,hw⟩:=hw;subst e1;cases r;obtain⟨its,rv,ht,hz⟩:=I.tuple hq;refine assign_Tuple_tuple (I.ok.hd hc) ht (by simp[hn,<- hl,rv.length]) hst fun h' hx=>?_;have I1:Inv X pins σ H { s with heap:=h' }:=I.kept (t':=s.toks) fun b o e=>hx b o (qBc (qAt e)) e;exact h pins _ σ H xs _ Q I1 (by simpa using rv) hw
def IK(to ti:TE)(t:FZ):TG:=fun v σ H Q=>to σ H fun o H1=>ti σ H1 fun i H2=>t o i v H2 fun H3=>Q σ H3
theorem kF(ho:PE X o to)(hi:PE X i ti)(hs:Cm X t)
  (ha:∀v,qIr (.Subscript o i pos) X.env v=(do
   let ov <- qFx [v] (eval o X.env)
   let iv <- qFx [v,ov] (eval i X.env)
   qJp pos
   qFx [v,ov,iv] (setItem ov iv v)
   release [v,ov,iv] []):=by intro _;rfl):PG X (.Subscript o i pos) (IK to ti t):=by
 intro pins s σ H v u Q I r h;rw[ha];refine qAe (qCq (bY (ho pins s σ H _ I h) fun ov s1 ⟨x,H1,I1,r1,q1⟩=>?_));refine qAe (qCq (bY (hi pins s1 σ H1 _ I1 q1) fun iv s2 ⟨y,H2,I2,r2,q2⟩=>?_));refine qAe (wpAny_standAt (qAe (qCq (bY (hs pins s2 σ H2 x y v ov iv u _ I2 r1 r2 r q2) fun _ s3 ⟨H3,I3,q3⟩=>?_))));exact wpAny_release ⟨σ,H3,I3,q3⟩
def Ga(te:TE)(g:TG):TS:=fun D σ H=>te σ H fun x H1=>g x σ H1 D.nx
theorem kG(he:PE X e te)(hg:PG X tg g)(hs:swapsWithSole [tg] e pos.line X.env=pure false:=by rfl)(hw:swappedStores [tg] e X.env=pure none:=by rfl)
  (h1:(qGm [tg] X.env).map (·.2)=[qIr tg X.env]:=by rfl):PS X (.Assign [tg] e pos) (Ga te g):=by
 intro pins s σ H D I h;refine wpAny_Assign_stores (bY (he pins s σ H _ I h) fun v s1 ⟨x,H1,I1,r1,q1⟩=>?_) hs hw;rw[h1];exact bY (hg pins s1 σ H1 x v _ I1 r1 q1) fun _ s2 q=>q
theorem aZ(hN:X.N.Nodup)(hi:X.N[i]?=some x)(hx:Loc X.env.scope x)(he:PE X e te)(hs:qHz e (some (.Name x pos')) pos.line X.env=pure false:=by rfl)(hf:X.fn x=true\/X.env.scope.names.lookup x=some .local:=by first|exact .inl rfl | exact .inr rfl | assumption):
  PS X (.Assign [.Name x pos'] e pos) (Ga te (bH i)):=by
 intro pins s σ H D I h;refine wpAny_Assign_Name (bY (he pins s σ H _ I h) fun v s1 ⟨y,H1,I1,r1,q1⟩=>?_) hs;exact kC I1 hN hi hx r1 (fun s2 I2=>⟨_,H1,I2,q1⟩) hf
def IL(X:Cx)(t:V->V->Hp->VK->Prop):Prop :=
 ∀(pins:List (Addr×Obj)) (s:qAi) (σ:St) (H:Hp) (o i:V) (ov iv:qAf) (Q:VK),Inv X pins σ H s->RelV o ov->RelV i iv->t o i H Q ->
  qBl (qBr X.prog X.w) X.A (qHd ov iv) (EP X pins σ Q) X.xe s
end
section
variable {X:Cx}{pos:Pos}
def Co(c:TT)(tb:TS):TS:=fun D σ H=>∃W:Nat->St->Hp->Prop,(∃m,W m σ H)/\∀m σ H,W m σ H ->
 c σ H fun b H1=>if b=true then ∃N:St->Hp->Prop,(∀σ' H',N σ' H'->∃m',m'<m/\W m' σ' H')/\tb { D with nx:=N,ct:=N,bk:=D.nx } σ H1 else D.nx σ H1
theorem wJ(hp:PassesOwn (qBr X.prog X.w) X.A X.env X.xe)(hc:PT X c tc)(hb:lN X body tb):PS X (.While c body [] pos) (Co tc tb):=by
 intro pins s σ H D I h;obtain⟨W,⟨m0,w0⟩,turn⟩:=h;refine wpAny_While (codeAny_whileLoop (fun n s'=>∃σ' H',Inv X pins σ' H' s'/\W n σ' H') ?_ m0 ⟨σ,H,I,w0⟩);rintro n s1 ⟨σ1,H1,I1,w1⟩;refine qDx hp (bY (hc pins s1 σ1 H1 _ I1 (turn n σ1 H1 w1)) fun b s2 ⟨H2,I2,q2⟩=>?_);cases b with
 | true =>
  obtain⟨N,hN,q2⟩:=q2;rw[if_pos rfl];refine qDx hp (bY (hb pins s2 σ1 H2 _ I2 q2) fun f s3 q3=>?_);cases f with
  | next =>
   obtain⟨σ3,H3,I3,n3⟩:=q3;obtain⟨m',hm,w3⟩:=hN σ3 H3 n3;exact⟨m',hm,σ3,H3,I3,w3⟩
  | cont =>
   obtain⟨σ3,H3,I3,n3⟩:=q3;obtain⟨m',hm,w3⟩:=hN σ3 H3 n3;exact⟨m',hm,σ3,H3,I3,w3⟩
  | brk=>exact q3
  | ret v=>exact q3
 | false =>
  rw[if_neg qAj];exact qFf ⟨σ1,H2,I2,q2⟩
end
structure It where
 go:Nat->Hp->Prop
 wK:Nat->Hp->V->Hp->Prop
 stop:Nat->Hp->Prop
def gC(X:Cx)(pins:List (Addr×Obj))(H:Hp)(b:Addr):Prop :=
 H b=none/\b≠X.env.locals/\b∉X.fs/\(b∈X.ex\/X.s₀.heap.objs.size<=b)/\(∀x c,X.env.cells.lookup x=some c->c≠b)/\∀p∈X.pn++pins,p.1≠b
theorem Inv.rJ(I:Inv X pins σ H s)(hb:s.heap.objs.size<=b)(hn:H' b=none):gC X pins H' b:=by
 refine⟨hn,qKl (qAv I.lt hb),I.FT hb,.inr (qCe I.sz hb),fun x c e z=>?_,fun p hp z=>?_⟩
 ·obtain⟨v,q⟩:=I.cell x c e;exact absurd (qAv q.lt (by rw[z];exact hb)) (qDw _)
 ·exact absurd (qAv (qAt (I.pin p hp).1) (by rw[z];exact hb)) (qDw _)
structure Turn (P:qBf) (w:qCc) (K:qAa) (tg:Expr) (J:It) (fp:List Addr) (it:Addr) (tn:Nat->Heap->Prop):Prop where
 mem:it∈fp
 obj:∀i h,tn i h->∀b∈fp,∃o,h.get? b=some o/\∀v,o.data≠.cell v
 keep:∀i h h',tn i h->(∀b∈fp,∀o,h.get? b=some o->h'.get? b=some o)->tn i h'
 item:∀(X:Cx),X.prog=P->X.w=w->X.K=K->X.calm=true->∀(i:Nat) (pins:List (Addr×Obj)) (s:qAi) (σ:St) (H:Hp) (E:qAf->qAi->Prop),Inv X pins σ H s->(∀b∈fp,gC X pins H b)->tn i s.heap->J.go i H ->
  qBl (qBr P w) X.A (qJy (.ref it)) (fun r s1=>∃u,r=some u /\
   qBl (qBr P w) X.A (qGh tg (.ref it) u) (fun _ s2=>∃x H',Inv X pins σ H' s2/\RelV x u/\J.wK i H x H'/\tn (i+1) s2.heap/\∀b∈fp,H' b=none) E s1) E s
 done:∀(X:Cx),X.prog=P->X.w=w->X.K=K->X.calm=true->∀(i:Nat) (pins:List (Addr×Obj)) (s:qAi) (σ:St) (H:Hp) (E:qAf->qAi->Prop),Inv X pins σ H s->(∀b∈fp,gC X pins H b)->tn i s.heap->J.stop i H ->
  qBl (qBr P w) X.A (qJy (.ref it)) (fun r s1=>r=none/\Inv X pins σ H s1) E s
 self:∀(A:qCd) (i:Nat) (s:qAi) (Q:qAf->qAi->Prop) (E:qAf->qAi->Prop),tn i s.heap->Q (.ref it) s->qBl (qBr P w) A (pyIter (.ref it)) Q E s
abbrev TI:=St->Hp->(It->Hp->Prop)->Prop
def JL(X:Cx)(pins:List (Addr×Obj))(σ:St)(tg:Expr)(R:It->Hp->Prop)(itv:qAf)(s2:qAi):Prop :=
 ∃(it:Addr) (fp:List Addr) (tn:Nat->Heap->Prop) (J:It) (H':Hp),itv = .ref it/\Inv X pins σ H' s2/\Turn X.prog X.w X.K tg J fp it tn/\tn 0 s2.heap/\(∀b∈fp,gC X pins H' b)/\R J H'
def PI(X:Cx)(tg iter:Expr)(wi:TI):Prop :=
 ∀(pins:List (Addr×Obj)) (s:qAi) (σ:St) (H:Hp) (R:It->Hp->Prop),Inv X pins σ H s->wi σ H R ->
  qBl (qBr X.prog X.w) X.A (eval iter X.env) (fun v s1=>qBl (qBr X.prog X.w) X.A (pyIter v) (JL X pins σ tg R) X.xe s1) X.xe s
theorem wL(ho:s.heap.get? it=some o)(hc:o.cls = .type n)(hd:o.data = .fields vs)
    (hn:["enumerate","zip","dict_itemiterator","dict_reverseitemiterator","odict_iterator","itertools.zip_longest","itertools.pairwise"].contains n=false) (hQ:Q () s):qBl M A (qGh tg (.ref it) u) Q E s:=by
  unfold qGh
  cases tg <;> first
    | exact qAo hQ
    | (cases u <;> first
        | exact qAo hQ
        | (refine qAe (wpAny_load ho ?_)
           rw[hc,hd]
           show qBl M A (if (["enumerate","zip","dict_itemiterator","dict_reverseitemiterator","odict_iterator","itertools.zip_longest","itertools.pairwise"].contains n&&vs[0]? == some (rawInt _))=true then _ else _) Q E s
           rw[if_neg (by intro h;rw[hn,qBi] at h;cases h)]
           exact qAo hQ))
def rK(K:qAa)(a:Addr):It :=
 ⟨fun i H=>∃xs x,aX K H a xs/\xs[i]?=some x,fun i H x H'=>H'=H/\∀xs,aX K H a xs->xs[i]?=some x,fun i H=>∃xs,aX K H a xs/\xs.length<=i⟩
def Gb(K:qAa)(a:Addr):It :=
 ⟨fun i H=>∃xs x,dU K H a xs/\xs[i]?=some x,fun i H x H'=>H'=H/\∀xs,dU K H a xs->xs[i]?=some x,fun i H=>∃xs,dU K H a xs/\xs.length<=i⟩
def zP(lo:Int)(n:Nat):It:=⟨fun i _=>i<n,fun i H x H'=>H'=H/\x = .int (lo+i),fun i _=>n<=i⟩
theorem mB{P:qBf}{w:qCc}{K:qAa}{tg:Expr}(a it:Addr):Turn P w K tg (rK K a) [it] it (fun i h=>h.IsListIter it a i) where
 mem:=by simp
 obj:=fun i h st b hb=>by
  have e:b=it:=by simpa using hb
  subst e;obtain⟨o,e,c,d⟩:=st;exact⟨o,e,fun v z=>by rw[d] at z;cases z⟩
 keep:=fun i h h' st k=>st.at fun o e=>k it (by simp) o e
 item:=by
  intro X hP hw hK hc i pins s σ H E I hf st hg;subst hP hw hK;obtain⟨xs,x,hq,hx⟩:=hg;obtain⟨its,rv,p,hz⟩:=I.list hq;obtain⟨u,hu,ru⟩:=rv.get hx;obtain⟨f0,f1,f2,f3,f4,f5⟩:=hf it (by simp);refine wpAny_pyNext_list_item st p.isList (x:=u) (by simpa using hu) fun h' st' sb=>?_;have I1:Inv X pins σ H { s with heap:=h' }:=I.turned (t':=s.toks) (fun b o hb e=>(sb.2 b hb).trans e) f0 f1 f3 f4 f5;obtain⟨o,e,c,d⟩:=id st';exact⟨u,rfl,wL (s:={ s with heap:=h' }) e c d (by decide) ⟨x,H,I1,ru,⟨rfl,fun ys hy=>by rw[I.oO hy hq];exact hx⟩,st',fun b hb=>(hf b hb).1⟩⟩
 done:=by
  intro X hP hw hK hc i pins s σ H E I hf st hg;subst hP hw hK;obtain⟨xs,hq,hx⟩:=hg;obtain⟨its,rv,p,hz⟩:=I.list hq;obtain⟨f0,f1,f2,f3,f4,f5⟩:=hf it (by simp);have hl:=rv.length;exact wpAny_pyNext_list_end (I.ok.hd hc) st p.isList (by simp;lia) fun h' eb=>⟨rfl,I.turned (t':=s.toks) (fun b o hb e=>eb b o hb e) f0 f1 f3 f4 f5⟩
 self:=fun _ _ _ _ _ st h=>wpAny_pyIter_listiter st h
theorem rL{P:qBf}{w:qCc}{K:qAa}{tg:Expr}(a it:Addr):Turn P w K tg (Gb K a) [it] it (fun i h=>h.IsTupleIter it a i) where
 mem:=by simp
 obj:=fun i h st b hb=>by
  have e:b=it:=by simpa using hb
  subst e;obtain⟨o,e,c,d⟩:=st;exact⟨o,e,fun v z=>by rw[d] at z;cases z⟩
 keep:=fun i h h' st k=>st.at fun o e=>k it (by simp) o e
 item:=by
  intro X hP hw hK hc i pins s σ H E I hf st hg;subst hP hw hK;obtain⟨xs,x,hq,hx⟩:=hg;obtain⟨its,rv,p,hz⟩:=I.tuple hq;obtain⟨u,hu,ru⟩:=rv.get hx;obtain⟨f0,f1,f2,f3,f4,f5⟩:=hf it (by simp);refine wpAny_pyNext_tuple_item st (show s.heap.IsTuple a its.toArray from p) (x:=u) (by simpa using hu) fun h' st' sb=>?_;have I1:Inv X pins σ H { s with heap:=h' }:=I.turned (t':=s.toks) (fun b o hb e=>(sb.2 b hb).trans e) f0 f1 f3 f4 f5;obtain⟨o,e,c,d⟩:=id st';exact⟨u,rfl,wL (s:={ s with heap:=h' }) e c d (by decide) ⟨x,H,I1,ru,⟨rfl,fun ys hy=>by rw[I.uN hy hq];exact hx⟩,st',fun b hb=>(hf b hb).1⟩⟩
 done:=by
  intro X hP hw hK hc i pins s σ H E I hf st hg;subst hP hw hK;obtain⟨xs,hq,hx⟩:=hg;obtain⟨its,rv,p,hz⟩:=I.tuple hq;obtain⟨f0,f1,f2,f3,f4,f5⟩:=hf it (by simp);have hl:=rv.length;exact wpAny_pyNext_tuple_end (I.ok.hd hc) st (show s.heap.IsTuple a its.toArray from p) (by simp;lia) fun h' eb=>⟨rfl,I.turned (t':=s.toks) (fun b o hb e=>eb b o hb e) f0 f1 f3 f4 f5⟩
 self:=fun _ _ _ _ _ st h=>wpAny_pyIter_tupleiter st h
theorem rQ{P:qBf}{w:qCc}{K:qAa}{tg:Expr}(it:Addr)(lo:Int)(n:Nat):Turn P w K tg (zP lo n) [it] it (fun i h=>IsRangeIter h it (lo+(i:Nat)*1) ((n:Int)-(i:Nat)) 1) where
 mem:=by simp
 obj:=fun i h st b hb=>by
  have e:b=it:=by simpa using hb
  subst e;exact⟨_,st,fun v z=>by
   have z':Data.fields _=Data.cell v:=z;cases z'⟩
 keep:=fun i h h' st k=>k it (by simp) _ st
 item:=by
  intro X hP hw hK hc i pins s σ H E I hf st hg;subst hP hw hK;obtain⟨f0,f1,f2,f3,f4,f5⟩:=hf it (by simp);have W:=Walks.range (prog:=X.prog) (w:=X.w) (I.ok.hd hc) it lo 1 n;refine W.item i s _ _ hg st fun v h' tk hv st' kk=>?_;obtain⟨t,rfl⟩:=hv;have I1:Inv X pins σ H { s with heap:=h',toks:=tk }:=I.turned (fun b o hb e=>kk b o (by simpa using hb) e) f0 f1 f3 f4 f5;refine⟨_,rfl,wL (s:={ s with heap:=h',toks:=tk }) (n:="range_iterator") st' rfl rfl (by decide) ⟨.int (lo+i),H,I1,⟨t,?_⟩,⟨rfl,rfl⟩,st',fun b hb=>(hf b hb).1⟩⟩;rw[Int.mul_one]
 done:=by
  intro X hP hw hK hc i pins s σ H E I hf st hg;subst hP hw hK;obtain⟨f0,f1,f2,f3,f4,f5⟩:=hf it (by simp);exact wpAny_pyNext_range_end (I.ok.hd hc) st (by have:n<=i:=hg;lia) fun h' eb=>⟨rfl,I.turned (t':=s.toks) (fun b o hb e=>eb b o hb e) f0 f1 f3 f4 f5⟩
 self:=fun _ _ _ _ _ st h=>wpAny_pyIter_rangeiter st h
section
variable {X:Cx}{tg:Expr}
def Gd(K:qAa)(tl:TE):TI:=fun σ H R=>tl σ H fun x H1=>∃a,x = .ref a/\(∃xs,aX K H1 a xs)/\R (rK K a) H1
theorem cW{l:Expr}{tl:TE}(hl:PE X l tl):PI X tg l (Gd X.K tl):=by
 intro pins s σ H R I h;refine bY (hl pins s σ H _ I h) fun v s1 ⟨x,H1,I1,r1,q1⟩=>?_;obtain⟨a,e,⟨xs,hq⟩,q⟩:=q1;subst e;cases r1;obtain⟨its,rv,p,hz⟩:=I1.list hq;refine qEs p.isList ?_;refine⟨s1.heap.objs.size,[s1.heap.objs.size],_,_,H1,rfl,I1.kept (t':=s1.toks) fun b o e=>qAh _ e,mB a _,⟨_,qBb _ rfl,rfl,rfl⟩,fun b hb=>?_,q⟩;have e:b=s1.heap.objs.size:=by simpa using hb
 subst e;exact I1.rJ (qAl _) (I1.bX.fresh (qAl _))
theorem oP{pins:List (Addr×Obj)}{σ:St}{H:Hp}{s:qAi}{R:It->Hp->Prop}{E:qAf->qAi->Prop}{lo hi:Int}{t u v:Tok}{tk:Nat}(I:Inv X pins σ H s)(h1:-(2^62)<=lo)(h2:lo<2^62)(h3:-(2^62)<=hi)(h4:hi<2^62)
  (q:R (zP lo (hi-lo).toNat) H):qBl (qBr X.prog X.w) X.A (pyIter (.ref s.heap.objs.size)) (JL X pins σ tg R) E { s with heap:=s.heap.push { cls:=.type "range",data:=.fields #[.int lo t,.int hi u,.int 1 v] },toks:=tk }:=by
 refine wpAny_pyIter_range (IsRange.new ..) (small_one h1 h2 h3 h4) ?_;have I1:Inv X pins σ H { s with heap:=s.heap.push { cls:=.type "range",data:=.fields #[.int lo t,.int hi u,.int 1 v] },toks:=tk }:=I.kept fun b o e=>qAh _ e;refine⟨(s.heap.push { cls:=.type "range",data:=.fields #[.int lo t,.int hi u,.int 1 v] }).objs.size,[(s.heap.push { cls:=.type "range",data:=.fields #[.int lo t,.int hi u,.int 1 v] }).objs.size],_,_,H,rfl,
  I1.kept (t':=tk) fun b o e=>qAh _ e,rQ _ lo (hi-lo).toNat,?_,fun b hb=>?_,q⟩
 ·have e1:lo+((0:Nat):Int)*1=lo:=by simp
  have e2:(((hi-lo).toNat:Nat):Int)-((0:Nat):Int)=Builtin.Range.rangeSize lo hi 1:=by rw[rangeSize_one];split <;> lia
  show IsRangeIter _ _ (lo+((0:Nat):Int)*1) ((((hi-lo).toNat:Nat):Int)-((0:Nat):Int)) 1;rw[e1,e2];exact qBb _ rfl
 ·have e:b=(s.heap.push { cls:=.type "range",data:=.fields #[.int lo t,.int hi u,.int 1 v] }).objs.size:=by simpa using hb
  subst e;exact I1.rJ (qAl _) (I1.bX.fresh (qAl _))
def Ge(ta:TA):TI:=fun σ H R=>ta σ H fun vs H1=>∃j:Int,vs=[.int j]/\-(2^62)<=j/\j<2^62/\R (zP 0 j.toNat) H1
def Gf(ta:TA):TI:=fun σ H R=>ta σ H fun vs H1=>∃i j:Int,vs=[.int i,.int j]/\(-(2^62)<=i/\i<2^62/\-(2^62)<=j/\j<2^62)/\R (zP i (j-i).toNat) H1
theorem eN{a:Expr}{ta:TA}{p pos:Pos}(hg:Gl X "range")(hm:X.mg "range"=none)(ha:PA X [a] ta)(hs:qBg [a] X.env=[(false,eval a X.env)]:=by rfl):PI X tg (.Call (.Name "range" p) [a] [] pos) (Ge ta):=by
 intro pins s σ H R I h;refine Call_ (g7 I hg hm boot_range (qDr (bY (ha pos pins s σ H _ I h) fun us s1 ⟨vs,H1,I1,r1,q1⟩=>?_) hs rfl));obtain⟨j,e,q1,q2,q⟩:=q1;subst e;cases r1 with
 | cons r rr =>
  cases rr
  obtain⟨t,rfl⟩:=r;exact call_range_1 (oP I1 (by lia) (by lia) q1 q2 (by simpa using q))
theorem uO(hg:Gl X "range")(hm:X.mg "range"=none)(ha:PA X [a,b] ta)(hs:qBg [a,b] X.env=[(false,eval a X.env),(false,eval b X.env)]:=by rfl)(hs2:qBg [b] X.env=[(false,eval b X.env)]:=by rfl):
  PI X tg (.Call (.Name "range" p) [a,b] [] pos) (Gf ta):=by
 intro pins s σ H R I h;refine Call_ (g7 I hg hm boot_range (qDr (bY (ha pos pins s σ H _ I h) fun us s1 ⟨vs,H1,I1,r1,q1⟩=>?_) (by rw[hs,hs2]) (by rw[hs2];rfl)));obtain⟨i,j,e,⟨q1,q2,q3,q4⟩,q⟩:=q1;subst e;cases r1 with
 | cons r rr =>
  cases rr with
  | cons r' rr =>
   cases rr
   obtain⟨t,rfl⟩:=r;obtain⟨t',rfl⟩:=r';exact call_range_2 (oP I1 q1 q2 q3 q4 q)
def IM(wi:TI)(g:TG)(tb:TS):TS:=fun D σ H=>wi σ H fun J H1=>∃W:Nat->Nat->St->Hp->Prop,(∃m,W 0 m σ H1)/\∀i m σ H,W i m σ H ->
 (J.stop i H/\D.nx σ H)\/(J.go i H/\∃N:St->Hp->Prop,(∀σ' H',N σ' H'->∃m',m'<m/\W (i+1) m' σ' H')/\∀x H',J.wK i H x H'->g x σ H' fun σ2 H2=>tb { D with nx:=N,ct:=N,bk:=D.nx } σ2 H2)
def kH(fp:List Addr)(h:Heap):List (Addr×Obj):=fp.filterMap fun b=>(h.get? b).map fun o=>(b,o)
theorem fW(hb:b∈fp)(e:h.get? b=some o):(b,o)∈kH fp h:=List.mem_filterMap.mpr ⟨b,hb,by rw[e];rfl⟩
theorem uP(hp:p∈kH fp h):p.1∈fp/\h.get? p.1=some p.2:=by
 obtain⟨b,hb,e⟩:=List.mem_filterMap.mp hp;cases q:h.get? b with
 | none=>rw[q] at e;cases e
 | some o =>
  rw[q] at e;have e':(b,o)=p:=Option.some.inj e;subst e';exact⟨hb,q⟩
theorem Inv.pinned(I:Inv X pins σ H s)(hf:∀b∈fp,gC X pins H b)(ho:∀b∈fp,∃o,s.heap.get? b=some o/\∀v,o.data≠.cell v):Inv X (pins++kH fp s.heap) σ H s :=
 I.nJ fun p hp=>(List.mem_append.mp hp).elim (fun z=>I.pin p (qAm _ z)) fun z=>by
  obtain⟨hb,e⟩:=uP z;obtain⟨f0,f1,f2,_⟩:=hf p.1 hb;obtain⟨o,e',d⟩:=ho p.1 hb;rw[e] at e';cases e';exact⟨e,f0,f1,f2,d⟩
theorem Inv.eC(I:Inv X (pins++pl) σ H s):Inv X pins σ H s:=I.nJ fun p hp=>I.pin p (qAm _ (qDl _ hp))
theorem g8(hp:PassesOwn (qBr X.prog X.w) X.A X.env X.xe)(hc:X.calm=true)(hi:PI X tg iter wi)(hg:PG X tg g)(hb:lN X body tb)
  (hs:∀x,qFr iter X.env x=pure x:=by intro _;rfl):PS X (.For tg iter body [] pos) (IM wi g tb):=by
 intro pins s σ H D I h;refine wpAny_For (bY (hi pins s σ H _ I h) fun v s1 h1=>bY h1 fun itv s2 h2=>?_) hs;obtain⟨it,fp,tn,J,H2,e,I2,T,st2,f2,W,⟨m0,w0⟩,turn⟩:=h2;subst e;have stat:∀{H':Hp},(∀b∈fp,H' b=none)->∀b∈fp,gC X pins H' b:=fun hn b hb=>⟨hn b hb,(f2 b hb).2⟩;refine codeAny_forLoop_any (fun n s'=>∃i σ' H',Inv X pins σ' H' s'/\tn i s'.heap/\(∀b∈fp,H' b=none)/\W i n σ' H') ?_ m0 ⟨0,σ,H2,I2,st2,fun b hb=>(f2 b hb).1,w0⟩;rintro n s3 ⟨i,σ3,H3,I3,st3,fr3,w3⟩;rcases turn i n σ3 H3 w3 with ⟨stop,qn⟩ | ⟨go,N,hN,step⟩
 ·refine qDx hp (bY (T.done X rfl rfl rfl hc i pins s3 σ3 H3 X.xe I3 (stat fr3) st3 stop) fun r s4 ⟨hr,I4⟩=>?_);subst hr;exact qFf ⟨σ3,H3,I4,qn⟩
 ·refine qDx hp (bY (T.item X rfl rfl rfl hc i pins s3 σ3 H3 X.xe I3 (stat fr3) st3 go) fun r s4 ⟨u,hr,h4⟩=>?_);subst hr;refine qDx hp (bY h4 fun _ s5 ⟨x,H5,I5,r5,y5,st5,fr5⟩=>?_);have I5':=I5.pinned (stat fr5) (T.obj _ _ st5);refine qDx hp (bY (hg _ s5 σ3 H5 x u _ I5' r5 (step x H5 y5)) fun _ s6 ⟨σ6,H6,I6,q6⟩=>?_);refine qDx hp (bY (hb _ s6 σ6 H6 _ I6 q6) fun f s7 q7=>?_);have again:∀{σ7:St}{H7:Hp},Inv X (pins++kH fp s5.heap) σ7 H7 s7->N σ7 H7->∃m,m<n/\∃i σ' H',Inv X pins σ' H' s7/\tn i s7.heap/\(∀b∈fp,H' b=none)/\W i m σ' H':=fun {σ7 H7} I7 n7=>by
   obtain⟨m',hm,w7⟩:=hN σ7 H7 n7;refine⟨m',hm,i+1,σ7,H7,I7.eC,T.keep _ _ _ st5 fun b hb o e=>(I7.pin (b,o) (qAm _ (qAm _ (fW hb e)))).1,fun b hb=>?_,w7⟩;obtain⟨o,e,d⟩:=T.obj _ _ st5 b hb;exact(I7.pin (b,o) (qAm _ (qAm _ (fW hb e)))).2.1
  cases f with
  | next=>obtain⟨σ7,H7,I7,n7⟩:=q7;exact again I7 n7
  | cont=>obtain⟨σ7,H7,I7,n7⟩:=q7;exact again I7 n7
  | brk=>obtain⟨σ7,H7,I7,q7⟩:=q7;exact⟨σ7,H7,I7.eC,q7⟩
  | ret v=>obtain⟨x7,σ7,H7,I7,r7,q7⟩:=q7;exact⟨x7,σ7,H7,I7.eC,r7,q7⟩
end
theorem hZ{K:qAa}{a:Addr}{xs:List V}{g:TG}{tb:TS}{D:Ends}{σ:St}{H:Hp}(Pv:Nat->St->Hp->Prop)(h0:Pv 0 σ H)(hl:∀i σ H,i<=xs.length->Pv i σ H->aX K H a xs)
  (hs:∀i x σ H,xs[i]?=some x->Pv i σ H->g x σ H fun σ2 H2=>tb { D with nx:=Pv (i+1),ct:=Pv (i+1),bk:=D.nx } σ2 H2) (hd:∀σ H,Pv xs.length σ H->D.nx σ H) :
  ∃W:Nat->Nat->St->Hp->Prop,(∃m,W 0 m σ H)/\∀i m σ H,W i m σ H ->
   ((rK K a).stop i H/\D.nx σ H)\/((rK K a).go i H/\∃N:St->Hp->Prop,(∀σ' H',N σ' H'->∃m',m'<m/\W (i+1) m' σ' H')/\∀x H',(rK K a).wK i H x H'->g x σ H' fun σ2 H2=>tb { D with nx:=N,ct:=N,bk:=D.nx } σ2 H2):=by
 refine⟨fun i m σ H=>m=xs.length-i/\i<=xs.length/\Pv i σ H,⟨xs.length,by simp,qBy _,h0⟩,?_⟩;rintro i m σ H ⟨rfl,hi,p⟩;have q:=hl i σ H hi p;by_cases hlt:i<xs.length
 ·refine .inr ⟨⟨xs,xs[i],q,by simp[hlt]⟩,Pv (i+1),fun σ' H' p'=>⟨xs.length-(i+1),by lia,rfl,hlt,p'⟩,fun x H' y=>?_⟩;obtain⟨e,y⟩:=y;subst e;exact hs i x σ _ (y xs q) p
 ·have e:i=xs.length:=by lia
  subst e;exact .inl ⟨⟨xs,q,qAl _⟩,hd σ H p⟩
theorem iX{lo:Int}{n:Nat}{g:TG}{tb:TS}{D:Ends}{σ:St}{H:Hp}(Pv:Nat->St->Hp->Prop)(h0:Pv 0 σ H)
  (hs:∀i σ H,i<n->Pv i σ H->g (.int (lo+i)) σ H fun σ2 H2=>tb { D with nx:=Pv (i+1),ct:=Pv (i+1),bk:=D.nx } σ2 H2) (hd:∀σ H,Pv n σ H->D.nx σ H) :
  ∃W:Nat->Nat->St->Hp->Prop,(∃m,W 0 m σ H)/\∀i m σ H,W i m σ H ->
   ((zP lo n).stop i H/\D.nx σ H)\/((zP lo n).go i H/\∃N:St->Hp->Prop,(∀σ' H',N σ' H'->∃m',m'<m/\W (i+1) m' σ' H')/\∀x H',(zP lo n).wK i H x H'->g x σ H' fun σ2 H2=>tb { D with nx:=N,ct:=N,bk:=D.nx } σ2 H2):=by
 refine⟨fun i m σ H=>m=n-i/\i<=n/\Pv i σ H,⟨n,by simp,qBy _,h0⟩,?_⟩;rintro i m σ H ⟨rfl,hi,p⟩;by_cases hlt:i<n
 ·refine .inr ⟨hlt,Pv (i+1),fun σ' H' p'=>⟨n-(i+1),by lia,rfl,hlt,p'⟩,fun x H' y=>?_⟩;obtain⟨e,y⟩:=y;subst e y;exact hs i σ _ hlt p
 ·have e:i=n:=by lia
  subst e;exact .inl ⟨qAl _,hd σ H p⟩
abbrev R2:=V->V->Hp->VK->Prop
def gR(X:Cx)(f:qAf->qAf->Sem qAf)(r:R2):Prop :=
 ∀(pins:List (Addr×Obj)) (s:qAi) (σ:St) (H:Hp) (x y:V) (v u:qAf) (Q:VK),Inv X pins σ H s->RelV x v->RelV y u->r x y H Q ->
  qBl (qBr X.prog X.w) X.A (f v u) (EP X pins σ Q) X.xe s
def Ir(X:Cx)(f:qAf->Sem qAf)(r:V->Hp->VK->Prop):Prop :=
 ∀(pins:List (Addr×Obj)) (s:qAi) (σ:St) (H:Hp) (x:V) (v:qAf) (Q:VK),Inv X pins σ H s->RelV x v->r x H Q ->
  qBl (qBr X.prog X.w) X.A (f v) (EP X pins σ Q) X.xe s
def eD(X:Cx)(f:qAf)(r:List V->Hp->VK->Prop):Prop :=
 ∀(pins:List (Addr×Obj)) (s:qAi) (σ:St) (H:Hp) (xs:List V) (us:List qAf) (Q:VK),Inv X pins σ H s->Vals xs us->r xs H Q ->
  qBl (qBr X.prog X.w) X.A (call f us) (EP X pins σ Q) X.xe s
def zQ(r:R2)(ta tb:TE):TE:=fun σ H Q=>ta σ H fun x H1=>tb σ H1 fun y H2=>r x y H2 Q
def Kg(r:V->Hp->VK->Prop)(ta:TE):TE:=fun σ H Q=>ta σ H fun x H1=>r x H1 Q
def rI(C:Int->Int->Prop)(g:Int->Int->V):R2:=fun x y H Q=>∃i j,x = .int i/\y = .int j/\C i j/\Q (g i j) H
def v9(g:Int->Int->V):R2:=fun x y H Q=>∃i j,x = .int i/\y = .int j/\Q (g i j) H
def rU(g:Int->V):V->Hp->VK->Prop:=fun x H Q=>∃i,x = .int i/\Q (g i) H
section
variable {X:Cx}{a b c:Expr}{ta tb tc:TE}{pos:Pos}
theorem Cp(ha:PE X a ta)(hb:PE X b tb){pins:List (Addr×Obj)}{s:qAi}{σ:St}{H:Hp}{R:V->V->Hp->Prop}(I:Inv X pins σ H s)
  (h:ta σ H fun x H1=>tb σ H1 fun y H2=>R x y H2){Q:qAf->qAi->Prop}{f:qAf->qAf->Sem qAf}
  (hf:∀v u s2 x y H2,Inv X pins σ H2 s2->RelV x v->RelV y u->R x y H2->qBl (qBr X.prog X.w) X.A (f v u) Q X.xe s2) :
  qBl (qBr X.prog X.w) X.A (eval a X.env) (fun v s₁=>qBl (qBr X.prog X.w) X.A (eval b X.env) (fun u s₂=>qBl (qBr X.prog X.w) X.A (f v u) Q X.xe s₂) X.xe s₁) X.xe s:=by
 refine bY (ha pins s σ H _ I h) fun v s1 ⟨x,H1,I1,r1,q1⟩=>?_;refine bY (hb pins s1 σ H1 _ I1 q1) fun u s2 ⟨y,H2,I2,r2,q2⟩=>?_;exact hf v u s2 x y H2 I2 r1 r2 q2
theorem aK(ho:gR X (qEw op) r)(ha:PE X a ta)(hb:PE X b tb):PE X (.BinOp a op b pos) (zQ r ta tb):=by
 intro pins s σ H Q I h;exact wpAny_BinOp (Cp ha hb I h fun v u s2 x y H2 I2 rx ry q=>ho pins s2 σ H2 x y v u Q I2 rx ry q)
theorem Bl(ho:Ir X (unaryOp op) r)(ha:PE X a ta):PE X (.UnaryOp op a pos) (Kg r ta):=by
 intro pins s σ H Q I h;exact UnaryOp_ (bY (ha pins s σ H _ I h) fun v s1 ⟨x,H1,I1,r1,q1⟩=>ho pins s1 σ H1 x v Q I1 r1 q1)
theorem Iu{f:qAf->qAf->Sem qAf}{C:Int->Int->Prop}{g:Int->Int->Int}
  (rule:∀(i j:Int) (t u:Tok) (s:qAi) (Q:qAf->qAi->Prop) (E:qAf->qAi->Prop),C i j->Q (.int (g i j) s.toks) { s with toks:=s.toks+1 }->qBl (qBr X.prog X.w) X.A (f (.int i t) (.int j u)) Q E s) :
  gR X f (rI C fun i j=>.int (g i j)):=by
 intro pins s σ H x y v u Q I rx ry h;obtain⟨i,j,rfl,rfl,hc,q⟩:=h;obtain⟨t,rfl⟩:=rx;obtain⟨t',rfl⟩:=ry;exact rule i j t t' s _ _ hc ⟨.int (g i j),H,I.tok _,⟨_,rfl⟩,q⟩
theorem z5{f:qAf->qAf->Sem qAf}{g:Int->Int->Int}
  (rule:∀(i j:Int) (t u:Tok) (s:qAi) (Q:qAf->qAi->Prop) (E:qAf->qAi->Prop),Q (.int (g i j) s.toks) { s with toks:=s.toks+1 }->qBl (qBr X.prog X.w) X.A (f (.int i t) (.int j u)) Q E s) :
  gR X f (v9 fun i j=>.int (g i j)):=by
 intro pins s σ H x y v u Q I rx ry h;obtain⟨i,j,rfl,rfl,q⟩:=h;obtain⟨t,rfl⟩:=rx;obtain⟨t',rfl⟩:=ry;exact rule i j t t' s _ _ ⟨.int (g i j),H,I.tok _,⟨_,rfl⟩,q⟩
theorem z6{f:qAf->qAf->Sem qAf}{g:Int->Int->Bool}
  (rule:∀(i j:Int) (t u:Tok) (s:qAi) (Q:qAf->qAi->Prop) (E:qAf->qAi->Prop),Q (.bool (g i j)) s->qBl (qBr X.prog X.w) X.A (f (.int i t) (.int j u)) Q E s) :
  gR X f (v9 fun i j=>.bl (g i j)):=by
 intro pins s σ H x y v u Q I rx ry h;obtain⟨i,j,rfl,rfl,q⟩:=h;obtain⟨t,rfl⟩:=rx;obtain⟨t',rfl⟩:=ry;exact rule i j t t' s _ _ ⟨.bl (g i j),H,I,rfl,q⟩
def Gg(i j:Int):Prop:=0<j/\j<1073741824
def IP(i j:Int):Prop:=0<=j/\j<=1000000/\i.natAbs<2^64
def Cq(i j:Int):Prop:=(-(2^64)<i/\i<2^64)\/(-(2^64)<j/\j<2^64)
theorem Cq.ok(h:Cq i j):IntMulOk i j:=by
 rcases h with ⟨h1,h2⟩ | ⟨h1,h2⟩
 ·exact .of_left (intBits_le_64 h1 h2)
 ·exact .of_right (intBits_le_64 h1 h2)
theorem cG:gR X (qEw .Add) (v9 fun i j=>.int (i+j)):=z5 fun _ _ _ _ _ _ _ q=>add_int q
theorem cL:gR X (qEw .Sub) (v9 fun i j=>.int (i-j)):=z5 fun _ _ _ _ _ _ _ q=>sub_int q
theorem fO:gR X (qEw .Mult) (rI Cq fun i j=>.int (i*j)):=Iu fun _ _ _ _ _ _ _ hc q=>mul_int q hc.ok
theorem bD:gR X (qEw .FloorDiv) (rI Gg fun i j=>.int (i/j)):=Iu fun i j _ _ _ _ _ hc q=>by
 have h1:(0:Int)<j:=hc.1;have h2:j<1073741824:=hc.2;exact floordiv_int (by lia) (by rw[Int.fdiv_eq_ediv_of_nonneg i (by lia)];exact q) (.inl (PyProof.noPylong_small (by lia)))
theorem bP:gR X (qEw .Mod) (rI (fun _ j=>0<j) fun i j=>.int (i%j)):=Iu fun i j _ _ _ _ _ hc q=>by
 have h1:(0:Int)<j:=hc;exact mod_int' (by lia) (by rw[Int.fmod_eq_emod_of_nonneg i (by lia)];exact q)
theorem kI:gR X (qEw .Pow) (rI IP fun i j=>.int (i^j.toNat)):=Iu fun _ _ _ _ _ _ _ hc q=>pow_int_small hc.1 hc.2.1 hc.2.2 q
theorem kJ:gR X (qEw .BitAnd) (v9 fun i j=>.int (qCh i j)):=z5 fun _ _ _ _ _ _ _ q=>and_int q
theorem oQ:gR X (qEw .BitOr) (v9 fun i j=>.int (qBs i j)):=z5 fun _ _ _ _ _ _ _ q=>or_int q
theorem Kh{f:qAf->Sem qAf}{g:Int->Int}
  (rule:∀(i:Int) (t:Tok) (s:qAi) (Q:qAf->qAi->Prop) (E:qAf->qAi->Prop),Q (.int (g i) s.toks) { s with toks:=s.toks+1 }->qBl (qBr X.prog X.w) X.A (f (.int i t)) Q E s) :
  Ir X f (rU fun i=>.int (g i)):=by
 intro pins s σ H x v Q I rx h;obtain⟨i,rfl,q⟩:=h;obtain⟨t,rfl⟩:=rx;exact rule i t s _ _ ⟨.int (g i),H,I.tok _,⟨_,rfl⟩,q⟩
theorem wM:Ir X (unaryOp .USub) (rU fun i=>.int (-i)):=Kh fun _ _ _ _ _ q=>neg_int q
end
def Gh:V->V->Bool
 | .non,.non=>true | .non,.int _=>true | .int _,.non=>true | .non,.bl _=>true | .bl _,.non=>true | .non,.str _=>true | .str _,.non=>true
 | .int _,.int _=>true | .bl _,.bl _=>true | .str _,.str _=>true | .byt _,.byt _=>true
 | .int _,.str _=>true | .str _,.int _=>true | .bl _,.str _=>true | .str _,.bl _=>true
 | _,_=>false
def Ki:R2:=fun x y H Q=>Gh x y=true/\Q (.bl (decide (x=y))) H
def JM:R2:=fun x y H Q=>Gh x y=true/\Q (.bl (!decide (x=y))) H
theorem tG:decide (V.int i=V.int j)=(i == j):=by
 rw[qEg];simp
theorem wN:decide (V.bl i=V.bl j)=(i == j):=by
 rw[qEg];simp
theorem tH:decide (V.str i=V.str j)=(i == j):=by
 rw[qEg];simp
theorem tI:decide (V.byt i=V.byt j)=(i.toList == j.toList):=by
 rw[qEg];cases i;cases j;simp
section
variable {X:Cx}{a b c:Expr}{ta tb tc:TE}{pos:Pos}
theorem bK(I:Inv X pins σ H s)(q:Q (.bl k) H)(e:k=k'):EP X pins σ Q (.bool k') s:=by
 subst e;exact⟨.bl k,H,I,rfl,q⟩
theorem bJ:gR X (qCx .Eq) Ki:=by
 intro pins s σ H x y v u Q I rx ry h;obtain⟨hs,q⟩:=h;cases x with
 | non =>
  cases rx
  cases y with
  | non=>cases ry;exact PySem.EqNone.eq_none_none (bK I q (by simp))
  | bl j=>cases ry;exact PySem.EqNone.eq_none_bool (bK I q (by simp))
  | int j=>obtain⟨t',rfl⟩:=ry;exact PySem.EqNone.eq_none_int (bK I q (by simp))
  | str j=>obtain⟨t',rfl⟩:=ry;exact PySem.EqNone.eq_none_str (bK I q (by simp))
  | _=>exact absurd (show false=true from hs) qAj
 | bl i =>
  cases rx
  cases y with
  | non=>cases ry;exact PySem.EqNone.eq_bool_none (bK I q (by simp))
  | bl j=>cases ry;exact eq_bool (bK I q wN)
  | str j=>obtain⟨t',rfl⟩:=ry;exact PySem.EqMixed.eq_bool_str (bK I q (by simp))
  | _=>exact absurd (show false=true from hs) qAj
 | int i =>
  obtain⟨t,rfl⟩:=rx;cases y with
  | non=>cases ry;exact PySem.EqNone.eq_int_none (bK I q (by simp))
  | int j=>obtain⟨t',rfl⟩:=ry;exact eq_int (bK I q tG)
  | str j=>obtain⟨t',rfl⟩:=ry;exact PySem.EqMixed.eq_int_str (bK I q (by simp))
  | _=>exact absurd (show false=true from hs) qAj
 | str i =>
  obtain⟨t,rfl⟩:=rx;cases y with
  | non=>cases ry;exact PySem.EqNone.eq_str_none (bK I q (by simp))
  | bl j=>cases ry;exact PySem.EqMixed.eq_str_bool (bK I q (by simp))
  | int j=>obtain⟨t',rfl⟩:=ry;exact PySem.EqMixed.eq_str_int (bK I q (by simp))
  | str j=>obtain⟨t',rfl⟩:=ry;exact eq_str (bK I q tH)
  | _=>exact absurd (show false=true from hs) qAj
 | byt i =>
  obtain⟨t,rfl⟩:=rx;cases y with
  | byt j=>obtain⟨t',rfl⟩:=ry;exact PySem.W.eq_bytes (bK I q tI)
  | _=>exact absurd (show false=true from hs) qAj
 | _=>cases y <;> exact absurd (show false=true from hs) qAj
theorem jG:gR X (qCx .NotEq) JM:=by
 intro pins s σ H x y v u Q I rx ry h;obtain⟨hs,q⟩:=h;cases x with
 | non =>
  cases rx
  cases y with
  | non=>cases ry;exact PySem.EqNone.ne_none_none (bK I q (by simp))
  | bl j=>cases ry;exact PySem.EqNone.ne_none_bool (bK I q (by simp))
  | int j=>obtain⟨t',rfl⟩:=ry;exact PySem.EqNone.ne_none_int (bK I q (by simp))
  | str j=>obtain⟨t',rfl⟩:=ry;exact PySem.EqNone.ne_none_str (bK I q (by simp))
  | _=>exact absurd (show false=true from hs) qAj
 | bl i =>
  cases rx
  cases y with
  | non=>cases ry;exact PySem.EqNone.ne_bool_none (bK I q (by simp))
  | bl j=>cases ry;exact ne_bool (bK I q (congrArg not wN))
  | str j=>obtain⟨t',rfl⟩:=ry;exact PySem.EqMixed.ne_bool_str (bK I q (by simp))
  | _=>exact absurd (show false=true from hs) qAj
 | int i =>
  obtain⟨t,rfl⟩:=rx;cases y with
  | non=>cases ry;exact PySem.EqNone.ne_int_none (bK I q (by simp))
  | int j=>obtain⟨t',rfl⟩:=ry;exact ne_int (bK I q (congrArg not tG))
  | str j=>obtain⟨t',rfl⟩:=ry;exact PySem.EqMixed.ne_int_str (bK I q (by simp))
  | _=>exact absurd (show false=true from hs) qAj
 | str i =>
  obtain⟨t,rfl⟩:=rx;cases y with
  | non=>cases ry;exact PySem.EqNone.ne_str_none (bK I q (by simp))
  | bl j=>cases ry;exact PySem.EqMixed.ne_str_bool (bK I q (by simp))
  | int j=>obtain⟨t',rfl⟩:=ry;exact PySem.EqMixed.ne_str_int (bK I q (by simp))
  | str j=>obtain⟨t',rfl⟩:=ry;exact ne_str (bK I q (congrArg not tH))
  | _=>exact absurd (show false=true from hs) qAj
 | byt i =>
  obtain⟨t,rfl⟩:=rx;cases y with
  | byt j=>obtain⟨t',rfl⟩:=ry;exact PySem.W.ne_bytes (bK I q (congrArg not tI))
  | _=>exact absurd (show false=true from hs) qAj
 | _=>cases y <;> exact absurd (show false=true from hs) qAj
theorem mC:gR X (qCx .Lt) (v9 fun i j=>.bl (decide (i<j))):=z6 fun _ _ _ _ _ _ _ q=>lt_int q
theorem wO:gR X (qCx .LtE) (v9 fun i j=>.bl (decide (i<=j))):=z6 fun _ _ _ _ _ _ _ q=>le_int q
theorem Bm:gR X (qCx .Gt) (v9 fun i j=>.bl (decide (j<i))):=z6 fun _ _ _ _ _ _ _ q=>gt_int q
theorem Gi:gR X (qCx .GtE) (v9 fun i j=>.bl (decide (j<=i))):=z6 fun _ _ _ _ _ _ _ q=>ge_int q
theorem Cr:gR X (qCx .Is) (fun x y H Q=>y = .non/\Q (.bl (decide (x = .non))) H):=by
 intro pins s σ H x y v u Q I rx ry h;obtain⟨rfl,q⟩:=h;cases ry;refine is_none_gen (bK I q ?_);cases x <;> first
  | (cases rx;rfl)
  | (obtain⟨t,rfl⟩:=rx;rfl)
theorem z7:gR X (qCx .IsNot) (fun x y H Q=>y = .non/\Q (.bl (!decide (x = .non))) H):=by
 intro pins s σ H x y v u Q I rx ry h;obtain⟨rfl,q⟩:=h;cases ry;refine isnot_none_gen (bK I q ?_);cases x <;> first
  | (cases rx;rfl)
  | (obtain⟨t,rfl⟩:=rx;rfl)
theorem aS(b:Expr){op:CmpOp}(h:op≠.In:=by decide)(h2:op≠.NotIn:=by decide):qFz op b=false:=by
 have e1:(op == CmpOp.In)=false:=by cases op <;> first | rfl | exact absurd rfl h
 have e2:(op == CmpOp.NotIn)=false:=by cases op <;> first | rfl | exact absurd rfl h2
 cases b <;> simp[qFz,e1,e2]
theorem eB(ho:gR X (qCx op) r)(ha:PE X a ta)(hb:PE X b tb)(hm:qFz op b=false):PE X (.Compare a [op] [b] pos) (zQ r ta tb):=by
 intro pins s σ H Q I h;exact wpAny_Compare1 (Cp ha hb I h fun v u s2 x y H2 I2 rx ry q=>ho pins s2 σ H2 x y v u Q I2 rx ry q) hm
def Gj(t:TE):TT:=fun σ H Q=>t σ H fun x H'=>∃k,x = .bl k/\Q k H'
theorem aO(ho:gR X (qCx op) r)(ha:PE X a ta)(hb:PE X b tb)(hm:qFz op b=false):PT X (.Compare a [op] [b] pos) (Gj (zQ r ta tb)):=by
 intro pins s σ H Q I h;refine wpAny_isTrue_Compare1 (bY (ha pins s σ H _ I h) fun v s1 ⟨x,H1,I1,r1,q1⟩=>bY (hb pins s1 σ H1 _ I1 q1) fun u s2 ⟨y,H2,I2,r2,q2⟩ =>
  bY (ho pins s2 σ H2 x y v u _ I2 r1 r2 q2) fun c s3 ⟨z,H3,I3,r3,k,e,q3⟩=>?_) hm
 subst e;cases r3;exact qBz ⟨H3,I3,q3⟩
def Cs(r r':R2)(ta tb tc:TE):TE:=fun σ H Q=>ta σ H fun x H1=>tb σ H1 fun y H2=>r x y H2 fun z H3=>∃k,z = .bl k /\
 (if k=true then tc σ H3 fun w' H4=>r' y w' H4 Q else Q (.bl false) H3)
theorem wQ(ho:gR X (qCx op) r)(ho':gR X (qCx op') r')(ha:PE X a ta)(hb:PE X b tb)(hc:PE X c tc)
  (hm:lastMarks [op,op'] [b,c]=false:=by with_unfolding_all rfl):PE X (.Compare a [op,op'] [b,c] pos) (Cs r r' ta tb tc):=by
 intro pins s σ H Q I h;refine Compare_chain (bY (ha pins s σ H _ I h) fun v s1 ⟨x,H1,I1,r1,q1⟩=>chain_link (bY (hb pins s1 σ H1 _ I1 q1) fun u s2 ⟨y,H2,I2,r2,q2⟩ =>
  bY (ho pins s2 σ H2 x y v u _ I2 r1 r2 q2) fun d s3 ⟨z,H3,I3,r3,k,e,q3⟩=>?_)) hm
 subst e;cases r3;refine qBz ?_;cases k with
 | false=>exact ite_ff ⟨.bl false,H3,I3,rfl,q3⟩
 | true=>exact ite_tt (chain_last (bY (hc pins s3 σ H3 _ I3 q3) fun w' s4 ⟨z',H4,I4,r4,q4⟩=>ho' pins s4 σ H4 y z' u w' Q I4 r2 r4 q4))
theorem nL:(qAg:Nat)<2^63:=by rw[qEj];decide
theorem vals1(r:Vals [x] us):∃u,us=[u]/\RelV x u:=by
 cases r with
 | cons r1 r2=>cases r2;exact⟨_,rfl,r1⟩
theorem vals2(r:Vals [x,y] us):∃u w',us=[u,w']/\RelV x u/\RelV y w':=by
 cases r with
 | cons r1 r2 =>
  cases r2 with
  | cons r3 r4=>cases r4;exact⟨_,_,rfl,r1,r3⟩
theorem oR:eD X (.builtin "abs") (fun xs H Q=>∃i,xs=[.int i]/\Q (.int (if i<0 then -i else i)) H):=by
 intro pins s σ H xs us Q I r h;obtain⟨i,rfl,q⟩:=h;obtain⟨u,rfl,t,rfl⟩:=vals1 r;exact call_abs_int fun u tk=>⟨.int (if i<0 then -i else i),H,I.tok _,⟨_,rfl⟩,q⟩
theorem uQ(hc:X.calm=true):eD X (.builtin "max") (fun xs H Q=>∃i j,xs=[.int i,.int j]/\Q (.int (if j>i then j else i)) H):=by
 intro pins s σ H xs us Q I r h;obtain⟨i,j,rfl,q⟩:=h;obtain⟨u,w',rfl,⟨t,rfl⟩,⟨t',rfl⟩⟩:=vals2 r;refine max_two_ints (I.ok.hd hc) fun h' tk k=>⟨_,H,I.kept k,?_,q⟩;by_cases hj:j>i
 ·rw[if_pos hj,if_pos hj];exact⟨_,rfl⟩
 ·rw[if_neg hj,if_neg hj];exact⟨_,rfl⟩
end
structure rS (h:Heap) (x dx C:Addr) (mA:Str->Option qAf):Prop where
 obj:h.get? x=some (qDd C dx)
 ns:h.Ns1 dx mA
 ne:dx≠x
theorem uR{h:Heap}{dx:Addr}{mA:Str->Option qAf}(n:h.Ns1 dx mA):∃od,h.get? dx=some od/\∀name,qFs name od=some (mA name):=by
 obtain⟨o,es,ep,ho,hd,hk,_,hm⟩:=n;refine⟨o,ho,fun name=>?_⟩;have e:=hm name;unfold nsFind findBy at e;rw[<- Array.find?_toList] at e;unfold qFs;rw[hd];dsimp only;split
 ·rename_i y q;rw[q] at e;exact congrArg some e
 ·rename_i q;rw[q] at e;have a:es.toList.any (·.refKey)=false:=by
   rw[List.any_eq_false];intro y hy;obtain⟨z,t,hkey⟩:=hk y (Array.mem_toList_iff.mp hy);simp[DictEntry.refKey,hkey]
  have a':¬es.toList.any (·.refKey)=true:=by rw[a];exact qAj
  rw[if_neg a'];exact congrArg some e
theorem rS.look(I:rS h x dx C mA):∃od,PySem.W.InstAt h x (qDd C dx) C (some od)/\∀name,qFs name od=some (mA name) :=
 let ⟨od,ho,hl⟩:=uR I.ns
 ⟨od,⟨I.obj,rfl,rfl,ho⟩,hl⟩
section
variable {prog:qBf}{w:qCc}{A:qCd}{E:qAf->qAi->Prop}{s:qAi}{K:qAa}{x dx C f:Addr}{mA:Str->Option qAf}{name:Str}{v:qAf}
theorem get_map(X:K.In s.heap)(I:rS s.heap x dx C mA)(hg:qCj K C name=true)(hh:qCm K C=true)
  (ha:qAd K (.ref C) name=some none) (hv:mA name=some v) (hv':qIo v=true) (h:Q v { s with toks:=s.toks+1 }) :
  qBl (qBr prog w) A (getAttr (.ref x) name expr) Q E s:=by
 obtain⟨od,J,hl⟩:=I.look;exact PySem.W.get_value X J (qFv hg).1 (PySem.W.findObj_own hh ha rfl (by rw[hl,hv])) hv' h
theorem wR(X:K.In s.heap)(I:rS s.heap x dx C mA)(hg:qCj K C name=true)
  (hf:qAd K (.ref C) name=some (some (.ref f))) (ht:qBu K (.ref f)=true) (hv:mA name=none) (h:Q (.ref f,[.ref x]) s) :
  qBl (qBr prog w) A (qIb (.ref x) name pl) Q E s:=by
 obtain⟨od,J,hl⟩:=I.look;exact PySem.W.method_fn X J (qFv hg).1 (qFv hg).2 hf (beq_iff_eq.mp ht) (by show(qFs name od).map (·.isSome)=some false;rw[hl,hv];rfl) h
theorem z8(X:K.In s.heap)(I:rS s.heap x dx C mA)
  (hs:qAd K (.ref C) "__setattr__"=some (some (.builtin "object.__setattr__"))) (hp:qCv K C=true) (ht:qGn K C name=some none) (hh:qCm K C=true)
  (hw:PySem.Within mA ns) (hsz:ns.length<=qAg)
  (h:∀h',rS h' x dx C (fun y=>if y=name then some v else mA y)->qGr dx s.heap h'->Q () { s with heap:=h',toks:=s.toks+2 }) :
  qBl (qBr prog w) A (setAttr (.ref x) name v) Q E s:=by
 obtain⟨od,J,hl⟩:=I.look;refine PySem.W.set_plain X J hs (PySem.W.osa_open (s:={ s with toks:=s.toks+1 }) (r:=none) X J hp ht fun b=>?_);obtain⟨cd,hc,hd'⟩:=PySem.W.any_some hh;have hx:s.heap.get? x=some ⟨.ref C,some dx,.plain,#[]⟩:=I.obj;refine qAe (qAo (qAe (qAe (wpAny_loadPart hx (qAe (PySem.W.Looks.here (s:={ s with toks:=s.toks+1 }) (PySem.W.looks_clsIn X hc) ?_))))));rw[hd'];refine qAo (a:=some dx) (qAe (qAo (qAe ?_)));refine wpAny_nsSet1 (s:={ s with toks:=s.toks+1 }) I.ns fun h' hn2 hs2=>?_;obtain⟨oD,esD,epD,hoD,hdD,hcD⟩:=hn2.count (PySem.Within.cons name v hw);refine qAe (wpAny_lookBehind hoD (by rw[hdD];exact pastItsLine_dict (qCe hcD (by rw[qCf];lia))) ?_);exact qAo (h _ ⟨(hs2.2 _ (Ne.symm I.ne)).trans I.obj,hn2,I.ne⟩ hs2)
theorem wU(X:K.In s.heap)(hm:qDc K C=true)
  (hi:qAd K (.ref C) "__init__"=some (some (.ref f))) (hf:qEk K (.ref f)=some (.type "function"))
  (h:qFy (qBr prog w) (A.under (.builtin "type.__call__" ⟨.ref C::vs,kw⟩)) (.call (.ref f) ⟨.ref (s.heap.objs.size+1)::vs,kw⟩) (PySem.W.InitBack (s.heap.objs.size+1) R)
   { s with heap:=(s.heap.push qCn).push (qDd C s.heap.objs.size) }) :
  qFy (qBr prog w) A (.call (.ref C) ⟨vs,kw⟩) R s:=by
 obtain⟨hh,g,d,t,os⟩:=s;exact PySem.W.make_core (PySem.W.makes_of X hm) (qEp X hi) (fun self=>PySem.W.bind_fn X self hf) (.inl rfl) h
end
def gG(f:Str)(v:V):List (Str×V)->List (Str×V)
 | []=>[(f,v)]
 | (g,x)::r=>if g=f then (g,v)::r else (g,x)::gG f v r
theorem jH(f g:Str)(v:V):∀fs:List (Str×V),(gG f v fs).lookup g=if g=f then some v else fs.lookup g
 | []=>by
  show qEz g [(f,v)]=_;by_cases h:g=f
  ·have hb:(g == f)=true:=beq_iff_eq.mpr h;simp only[qEz,hb,if_pos h]
  ·have hb:(g == f)=false:=beq_eq_false_iff_ne.mpr h;simp only[qEz,hb,if_neg h]
 | (k,x)::r=>by
  have ih:=jH f g v r;rw[show gG f v ((k,x)::r)=(if k=f then (k,v)::r else (k,x)::gG f v r) from rfl];by_cases hk:k=f
  ·rw[if_pos hk];by_cases h:g=k
   ·have hb:(g == k)=true:=beq_iff_eq.mpr h;simp only[qEz,hb,if_pos (h.trans hk)]
   ·have hb:(g == k)=false:=beq_eq_false_iff_ne.mpr h;simp only[qEz,hb,if_neg (fun e:g=f=>h (e.trans hk.symm))]
  ·rw[if_neg hk];by_cases h:g=k
   ·have hb:(g == k)=true:=beq_iff_eq.mpr h;simp only[qEz,hb,if_neg (fun e:g=f=>hk (h.symm.trans e))]
   ·have hb:(g == k)=false:=beq_eq_false_iff_ne.mpr h;simp only[qEz,hb];exact ih
theorem iY(f:Str)(v:V):∀fs:List (Str×V),f∈(gG f v fs).map (·.1)/\∀g,g∈fs.map (·.1)->g∈(gG f v fs).map (·.1)
 | []=>⟨by simp[gG],fun g h=>by simp at h⟩
 | (k,x)::r=>by
  obtain⟨i1,i2⟩:=iY f v r;rw[show gG f v ((k,x)::r)=(if k=f then (k,v)::r else (k,x)::gG f v r) from rfl];by_cases hk:k=f
  ·rw[if_pos hk];subst hk;exact⟨by simp,fun g h=>by simpa using h⟩
  ·rw[if_neg hk];refine⟨?_,fun g h=>?_⟩
   ·rw[qBq];exact qBn _ i1
   ·rw[qBq] at h|-;rcases List.mem_cons.mp h with e | e
    ·exact List.mem_cons.mpr (.inl e)
    ·exact qBn _ (i2 g e)
theorem jI(f:Str)(v:V):∀fs:List (Str×V),(gG f v fs).length<=fs.length+1
 | []=>by simp[gG]
 | (k,x)::r=>by
  have ih:=jI f v r;rw[show gG f v ((k,x)::r)=(if k=f then (k,v)::r else (k,x)::gG f v r) from rfl];by_cases hk:k=f
  ·rw[if_pos hk,qCf,qCf];lia
  ·rw[if_neg hk,qCf,qCf];lia
theorem hV.some_of(r:hV (some v) o):∃u,o=some u/\RelV v u:=by
 cases o with
 | none=>exact(show False from r).elim
 | some u=>exact⟨u,rfl,r⟩
theorem hV.none_of(r:hV none o):o=none:=by
 cases o with
 | none=>rfl
 | some u=>exact(show False from r).elim
theorem uS(r:RelV v u):qIo u=true:=by
 cases v with
 | non=>cases (show u=Value.none from r);rfl
 | bl b=>cases (show u=Value.bool b from r);rfl
 | int i=>obtain⟨t,e⟩:=(show ∃t,u=Value.int i t from r);cases e;rfl
 | str x=>obtain⟨t,e⟩:=(show ∃t,u=Value.str x t from r);cases e;rfl
 | byt b=>obtain⟨t,e⟩:=(show ∃t,u=Value.bytes b t from r);cases e;rfl
 | flt b=>obtain⟨t,e⟩:=(show ∃t,u=Value.float b t from r);cases e;rfl
 | ref a=>cases (show u=Value.ref a from r);rfl
 | ty n=>cases (show u=Value.type n from r);rfl
section
variable {P:qBf}{w:qCc}{H H':Hp}{h h':Heap}{a C dx:Addr}{fs fs':List (Str×V)}
theorem j4(bX:gZ P w H h)(e:H a=some (.ins C dx fs)):∃mA,rS h a dx C mA/\(∀f,hV (fs.lookup f) (mA f))/\PySem.Within mA (fs.map (·.1))/\fs.length<=1000/\H dx=some (.own a):=by
 obtain⟨d,z,ne,ob,mA,n,r,q⟩:=(show bZ P w H h a (.ins C dx fs) from bX a _ e);exact⟨mA,⟨ob,n,ne⟩,r,q,z,d⟩
end
structure wA (K:qAa) (C:Addr):Prop where
 pg:qCj K C Str.empty=true
 hd:qCm K C=true
 po:qCv K C=true
 sa:qAd K (.ref C) "__setattr__"=some (some (.builtin "object.__setattr__"))
theorem wA.get{K:qAa}{C:Addr}(c:wA K C)(f:Str):qCj K C f=true:=c.pg
def cI(K:qAa)(C:Addr)(f:Str):Prop:=qAd K (.ref C) f=some none
theorem cI.Gk{K:qAa}{C:Addr}{f:Str}(n:cI K C f):qGn K C f=some none:=by
 unfold qGn;rw[show qAd K (.ref C) f=some none from n];rfl
structure Meth (K:qAa) (C:Addr) (m:Str) (f:Addr):Prop where
 at_:qAd K (.ref C) m=some (some (.ref f))
 fn:qBu K (.ref f)=true
 kp:qAs K (.ref f)=true
section
variable {X:Cx}{pins:List (Addr×Obj)}{σ:St}{H:Hp}{s:qAi}{a C dx:Addr}{fs:List (Str×V)}{f:Str}{v:V}{A:qCd}{E:qAf->qAi->Prop}
theorem rT(I:Inv X pins σ H s)(e:H a=some (.ins C dx fs))(c:wA X.K C)(n:cI X.K C f)(l:fs.lookup f=some v)
  (h:∀u s',Inv X pins σ H s'->RelV v u->Q u s'):qBl (qBr X.prog X.w) A (getAttr (.ref a) f b) Q E s:=by
 obtain⟨mA,O,r,_,_,_⟩:=j4 I.bX e;obtain⟨u,hu,ru⟩:=hV.some_of (v:=v) (o:=mA f) (by rw[<- l];exact r f);exact get_map I.j9 O (c.get f) c.hd n hu (uS ru) (h u _ (I.tok _) ru)
theorem kK(I:Inv X pins σ H s)(e:H a=some (.ins C dx fs))(c:wA X.K C)(k:Meth X.K C m g)(l:fs.lookup m=none)
  (h:Q (.ref g,[.ref a]) s):qBl (qBr X.prog X.w) A (qIb (.ref a) m pl) Q E s:=by
 obtain⟨mA,O,r,_,_,_⟩:=j4 I.bX e;have hn:mA m=none:=hV.none_of (by rw[<- l];exact r m);exact wR I.j9 O (c.get m) k.at_ k.fn hn h
theorem rW(I:Inv X pins σ H s)(e:H a=some (.ins C dx fs))(c:wA X.K C)(n:cI X.K C f)(hl:fs.length<1000)(ry:RelV y u)
  (h:∀s',Inv X pins σ (upd H a (.ins C dx (gG f y fs))) s'->Q () s'):qBl (qBr X.prog X.w) A (setAttr (.ref a) f u) Q E s:=by
 obtain⟨mA,O,r,wi,_,ho⟩:=j4 I.bX e;have hz:(fs.map (·.1)).length<=qAg:=by rw[qAc,qEj];lia
 refine z8 I.j9 O c.sa c.po n.Gk c.hd wi hz fun h' O' sb=>h _ ?_;have hd:∃o,h'.get? dx=some o:=let ⟨o,_,_,e',_⟩:=O'.ns;⟨o,e'⟩;refine I.write (x:=a) (e:=dx) (by rw[e];exact True.intro) (.inr ho) (fun b q hb z=>(sb.2 b hb).trans z) hd ?_;refine⟨by rw[aM O.ne];exact ho,?_,O.ne,O'.obj,_,O'.ns,fun g=>?_,fun g hg=>?_⟩
 ·have:=jI f y fs;lia
 ·show hV ((gG f y fs).lookup g) (if g=f then some u else mA g);rw[jH];by_cases q:g=f
  ·rw[if_pos q,if_pos q];exact ry
  ·rw[if_neg q,if_neg q];exact r g
 ·by_cases q:g=f
  ·rw[q];exact(iY f y fs).1
  ·refine(iY f y fs).2 g (wi g fun z=>hg ?_);show(if g=f then some u else mA g)=none;rw[if_neg q];exact z
theorem Inv.made(I:Inv X pins σ H s):Inv X pins σ (upd (upd H s.heap.objs.size (.own (s.heap.objs.size+1))) (s.heap.objs.size+1) (.ins C s.heap.objs.size []))
  { s with heap:=(s.heap.push qCn).push (qDd C s.heap.objs.size) }:=by
 have e1:(s.heap.push qCn).get? s.heap.objs.size=some qCn:=qBb s.heap rfl;have e2:((s.heap.push qCn).push (qDd C s.heap.objs.size)).get? (s.heap.objs.size+1)=some (qDd C s.heap.objs.size):=by
  have:=qBb (s.heap.push qCn) (o:=qDd C s.heap.objs.size) rfl;rwa [qJn] at this
 have e3:(s.heap.push qCn).Ns s.heap.objs.size (fun _=>none):=⟨qCn,#[],_,e1,rfl,(fun e he=>absurd he (by simp)),fun _=>rfl⟩;have I1:=I.laid (a:=s.heap.objs.size) (o:=.own (s.heap.objs.size+1)) (h':=s.heap.push qCn) (t':=s.toks) (fun b u q=>qAh _ q) (qAl _) ⟨_,e1⟩;refine I1.laid (a:=s.heap.objs.size+1) (o:=.ins C s.heap.objs.size []) (t':=s.toks) (fun b u q=>qAh _ q) (qIl (qJn _ _)) ?_;have ne:s.heap.objs.size≠s.heap.objs.size+1:=qBc (qGu _);refine⟨by rw[aM ne,aB],qBy _,ne,e2,fun _=>none,(Heap.Ns1.of_empty e3).at fun o q=>qAh _ q,fun _=>True.intro,fun y hy=>absurd rfl hy⟩
theorem z9(hb:attributeBase e f env (eval e env)=eval e env)
  (h:qBl (qBr prog w) A (eval e env) (fun o s₁=>qBl (qBr prog w) A (getAttr o f true) Q E s₁) E s):qBl (qBr prog w) A (eval (.Attribute e f pos) env) Q E s :=
 Attribute_any_ h (by rw[arm_eval_Attribute,hb])
end
def IQ(K:qAa)(ta:TE)(f:Str):TE:=fun σ H Q=>ta σ H fun x H1=>∃a C dx fs v,x = .ref a/\H1 a=some (.ins C dx fs)/\wA K C/\cI K C f/\fs.lookup f=some v/\Q v H1
def IS(K:qAa)(ta tv:TE)(f:Str):TS:=fun D σ H=>tv σ H fun y H1=>ta σ H1 fun x H2=>∃a C dx fs,x = .ref a/\H2 a=some (.ins C dx fs)/\wA K C/\cI K C f/\fs.length<1000 /\
 D.nx σ (upd H2 a (.ins C dx (gG f y fs)))
section
variable {X:Cx}{o e value:Expr}{f:Str}{pos pos' tpos:Pos}{ta tv:TE}
theorem dH(he:PE X e ta)(hb:attributeBase e f X.env (eval e X.env)=eval e X.env):PE X (.Attribute e f pos) (IQ X.K ta f):=by
 intro pins s σ H Q I h;refine z9 hb (bY (he pins s σ H _ I h) fun u s1 ⟨x,H1,I1,rx,a,C,dx,fs,v,ex,ea,c,n,l,q⟩=>?_);subst ex;obtain rfl:u=Value.ref a:=rx;exact rT I1 ea c n l fun u' s2 I2 ru=>⟨v,H1,I2,ru,q⟩
theorem eV(ha:PE X o ta)(hv:PE X value tv)(hs:qHz value (some (.Attribute o f pos')) pos.line X.env=pure false):PS X (.Assign [.Attribute o f pos'] value pos) (IS X.K ta tv f):=by
 intro pins s σ H D I h;refine plainObj_wpAny_Assign_Attribute (bY (hv pins s σ H _ I h) fun u s1 ⟨y,H1,I1,ry,q⟩=>bY (ha pins s1 σ H1 _ I1 q) fun ov s2 ⟨x,H2,I2,rx,a,C,dx,fs,ex,ea,c,n,l,q2⟩=>?_) hs;subst ex;obtain rfl:ov=Value.ref a:=rx;exact rW I2 ea c n l ry fun s3 I3=>⟨σ,_,I3,q2⟩
end
section
variable {X:Cx}{pins:List (Addr×Obj)}{σ:St}{H:Hp}{s:qAi}{A:qCd}{E:qAf->qAi->Prop}{Q:qAf->qAi->Prop}{c:qAf}{b:Bool}
inductive gH (K:qAa) (H:Hp):V->qAf->Prop where
 | non:gH K H .non (.type "NoneType")
 | bl (x:Bool):gH K H (.bl x) (.type "bool")
 | int (i:Int):gH K H (.int i) (.type "int")
 | str (x:Str):gH K H (.str x) (.type "str")
 | flt (x:UInt64):gH K H (.flt x) (.type "float")
 | lst {a:Addr}{xs:List V} (e:H a=some (.lst xs)):gH K H (.ref a) (.type "list")
 | frz {a:Addr}{o:Obj}{xs:List V} (e:H a=some (.frz o (.lst xs))):gH K H (.ref a) (.type "list")
 | tup {a:Addr}{xs:List V} (e:H a=some (.tup xs)):gH K H (.ref a) (.type "tuple")
 | dK {a:Addr}{kvs:List (Key×V)} (e:H a=some (.dK kvs)):gH K H (.ref a) (.type "dict")
 | dT {a:Addr}{kvs:List (List Key×V)} (e:H a=some (.dT kvs)):gH K H (.ref a) (.type "dict")
 | ins {a C dx:Addr}{fs:List (Str×V)} (e:H a=some (.ins C dx fs)) (cl:wA K C) (ha:qAd K (.ref C) "__class__"=some (some (.builtin "object.__class__")))
   (hn:qDb K (.builtin "object.__class__") "__get__"=some (some (.builtin "getset_descriptor.__get__"))) (htk:qDz K (.builtin "object.__class__")=some true)
   (hm:qBa K C (.type "object")=some true):gH K H (.ref a) (.ref C)
end
structure cK (k:Nat) (A:qCd):Prop where
 hd:A.handled=none
 dp:A.depth+3*k+5<recursionLimit
 un:A.units+16*k+200<qJh
theorem cK.mono(r:cK k A)(h:j<=k):cK j A:=⟨r.hd,by have:=r.dp;lia,by have:=r.un;lia⟩
theorem cK.deeper(r:cK (k+1) A)(env:Env):cK k (A.deeper env) :=
 ⟨r.hd,by have:=r.dp;show A.depth+1+3*k+5<_;lia,by have:=r.un;show A.units+3+16*k+200<_;lia⟩
theorem cK.in1(r:cK (k+1) A):cK k A.in1 :=
 ⟨r.hd,by have:=r.dp;show A.depth+3*k+5<_;lia,by have:=r.un;show A.units+1+16*k+200<_;lia⟩
theorem rX{A:qCd}{C:Addr}{us:List qAf}{kw:List (Str×qAf)}:(A.under (.builtin "type.__call__" ⟨.ref C::us,kw⟩)).depth=A.depth+1:=by
 first | rfl | simp[Around.under,Code.weight,Code.isCreation,Code.isGuard,Code.isCaller,Code.frames,Code.isFrame,guardIds]
theorem rY{A:qCd}{C:Addr}{us:List qAf}{kw:List (Str×qAf)}:(A.under (.builtin "type.__call__" ⟨.ref C::us,kw⟩)).units=A.units+1:=by
 first | rfl | simp[Around.under,Code.cUnits,Code.frames,Code.isFrame]
theorem cK.make(r:cK (k+1) A)(C:Addr)(us:List qAf)(kw:List (Str×qAf)):cK k (A.under (.builtin "type.__call__" ⟨.ref C::us,kw⟩)) :=
 ⟨r.hd,by have:=r.dp;rw[rX];lia,by have:=r.un;rw[rY];lia⟩
theorem cK.depth(r:cK k A):A.depth<recursionLimit:=by have:=r.dp;lia
theorem cK.units(r:cK k A):A.units+64<qJh:=by have:=r.un;lia
def wV:TA:=fun _ H Q=>Q [] H
def oU(ta:TE)(tr:TA):TA:=fun σ H Q=>ta σ H fun x H1=>tr σ H1 fun xs H2=>Q (x::xs) H2
section
variable {X:Cx}{e:Expr}{es:List Expr}{te:TE}{t:TA}{pos:Pos}
theorem aD:PA X [] wV:=fun _ _ _ _ H Q I h=>Calls.spliced_nil ⟨[],H,I,.nil,h⟩
theorem aA(ha:PE X e te)(hr:PA X es t)(hs:qBg (e::es) X.env=(false,eval e X.env)::qBg es X.env:=by rfl):PA X (e::es) (oU te t):=by
 intro pos pins s σ H Q I h;rw[hs];show qBl _ _ (spliced ((false,eval e X.env)::qEm pos (qBg es X.env))) _ _ s;refine Calls.spliced_cons (bY (ha pins s σ H _ I h) fun u s1 ⟨x,H1,I1,r1,q1⟩=>?_);exact bY (hr pos pins s1 σ H1 _ I1 q1) fun us s2 ⟨xs,H2,I2,r2,q2⟩=>⟨x::xs,H2,I2,.cons r1 r2,q2⟩
def IT(t:TA):TE:=fun σ H Q=>t σ H fun xs H1=>xs.length<=qAg/\∀p,H1 p=none->Q (.ref p) (upd H1 p (.tup xs))
def Gm(t:TA):TE:=fun σ H Q=>t σ H fun xs H1=>xs.length<=qAg/\∀p,H1 p=none->Q (.ref p) (upd H1 p (.lst xs))
theorem eA{x1}(h:PA X es t):PE X (.Tuple es x1 pos) (IT t):=by
 intro pins s σ H Q I hq;refine wpAny_Tuple_spliced (bY (h pos pins s σ H _ I hq) fun us s1 ⟨xs,H1,I1,r,z,q⟩=>⟨by rw[<- r.length];exact z,?_⟩);have hf:H1 s1.heap.objs.size=none:=I1.bX.fresh (qAl _);refine⟨.ref s1.heap.objs.size,upd H1 s1.heap.objs.size (.tup xs),I1.laid (t':=s1.toks) (fun b u e=>qAh _ e) (qAl _) ?_,rfl,q _ hf⟩;exact⟨z,us,r,⟨_,qBb _ rfl,rfl,_,rfl⟩⟩
theorem bB(h:PA X es t):PE X (.List es pos) (Gm t):=by
 intro pins s σ H Q I hq;refine wpAny_List_spliced (bY (h pos pins s σ H _ I hq) fun us s1 ⟨xs,H1,I1,r,z,q⟩=>⟨by rw[<- r.length];exact z,?_⟩);have hf:H1 s1.heap.objs.size=none:=I1.bX.fresh (qAl _);refine⟨.ref s1.heap.objs.size,upd H1 s1.heap.objs.size (.lst xs),I1.laid (t':=s1.toks) (fun b u e=>qAh _ e) (qAl _) ?_,rfl,q _ hf⟩;exact⟨z,us,0,r,qBb _ rfl⟩
end
abbrev Sp:=List V->Hp->VK->XK->Prop
abbrev tJ:=List Env->Hp->qAi->XK->qAf->qAi->Prop
structure lP (P:qBf) (w:qCc) (K:qAa) (mg:Str->Option qAf) (base:Heap) (A:qCd) (outer:List Env) (s:qAi) (H:Hp):Prop where
 frames:A.frames=some outer
 mod:Mod K mg base
 bs:∀b o,base.get? b=some o->s.heap.get? b=some o/\H b=none
 zV:base.objs.size<=s.heap.objs.size
 gX:s.heap.FunFrames base outer
 Bi:∀b∈jT outer,H b=none
 bX:gZ P w H s.heap
 bare:qGj s.gens
def CE(outer:List Env)(P:qBf)(w:qCc)(H:Hp)(s:qAi)(Q:VK)(u:qAf)(s':qAi):Prop :=
 ∃v H',s'.os=s.os/\qGj s'.gens/\Un (jT outer) [] H H' s.heap s'.heap/\gZ P w H' s'.heap/\RelV v u/\Q v H'
def CR(CX:tJ)(outer:List Env)(P:qBf)(w:qCc)(H:Hp)(s:qAi)(Q:VK)(E:XK)(r:qKq)(s':qAi):Prop :=
 match r with
 | .ok (.ret u)=>CE outer P w H s Q u s'
 | .ok _=>False
 | .error e=>CX outer H s E e s'
structure eW (P:qBf) (w:qCc) (K:qAa) (mg:Str->Option qAf) (base:Heap) (CX:tJ) (k:Nat) (f:Addr) (fd:qAx) (ps:List Str) (sp:Sp):Prop where
 len:∀vs H Q E,sp vs H Q E->vs.length=ps.length
 run:∀(A:qCd) (outer:List Env) (s:qAi) (H:Hp) (args:Args) (us:List qAf) (vs:List V) (Q:VK) (E:XK),cK k A->lP P w K mg base A outer s H->qJa s fd args (ps.zip us)->Vals vs us->sp vs H Q E ->
  qFy (qBr P w) A (.call (.ref f) args) (CR CX outer P w H s Q E) s
theorem eW.imp{P:qBf}{w:qCc}{K:qAa}{mg:Str->Option qAf}{base:Heap}{CX:tJ}{k:Nat}{f:Addr}{fd:qAx}{ps:List Str}{sp sp':Sp}(F:eW P w K mg base CX k f fd ps sp)
  (h:∀vs H Q E,sp' vs H Q E->sp vs H Q E):eW P w K mg base CX k f fd ps sp' :=
 ⟨fun vs H Q E q=>F.len vs H Q E (h _ _ _ _ q),fun A outer s H args us vs Q E hr he hb hv hs=>F.run A outer s H args us vs Q E hr he hb hv (h _ _ _ _ hs)⟩
theorem lP.make{P:qBf}{w:qCc}{K:qAa}{mg:Str->Option qAf}{base:Heap}{A:qCd}{outer:List Env}{s:qAi}{H:Hp}(e:lP P w K mg base A outer s H)(C:Addr)(us:List qAf)(kw:List (Str×qAf)):
  lP P w K mg base (A.under (.builtin "type.__call__" ⟨.ref C::us,kw⟩)) outer s H:=⟨by first|exact e.frames | (simpa [Around.under,Code.envs,Code.isFrame,pushEnvs] using e.frames),e.mod,e.bs,e.zV,e.gX,e.Bi,e.bX,e.bare⟩
theorem lP.in1{P:qBf}{w:qCc}{K:qAa}{mg:Str->Option qAf}{base:Heap}{A:qCd}{outer:List Env}{s:qAi}{H:Hp}(e:lP P w K mg base A outer s H):
  lP P w K mg base A.in1 outer s H:=⟨e.frames,e.mod,e.bs,e.zV,e.gX,e.Bi,e.bX,e.bare⟩
section
variable {X:Cx}{pins:List (Addr×Obj)}{σ:St}{H:Hp}{s s':qAi}
theorem Inv.Aa(I:Inv X pins σ H s):lP X.prog X.w X.K X.mg X.base X.A X.stack s H :=
 ⟨I.ok.frames,I.ok.mod,I.bs,qCe I.ok.zV I.sz,I.stack,I.jZ,I.bX,I.bare⟩
theorem Inv.after(I:Inv X pins σ H s)(h:CE X.stack X.prog X.w H s Q u s'):EP X pins σ Q u s':=by
 obtain⟨v,H',os,bare,un,bX,r,q⟩:=h;obtain⟨hh,g,d,t,os'⟩:=s';obtain rfl:os'=s.os:=os;exact⟨v,H',I.call (h':=hh) (g':=g) (d':=d) (t':=t) (ch:=[]) un bX bare (fun b z=>absurd z (by simp)),r,q⟩
end
def wW(sp:Sp)(dvs:List V)(E:XK)(t:TA):TE:=fun σ H Q=>t σ H fun vs H1=>sp (vs++dvs) H1 Q E
def Binds(K:qAa)(fd:qAx)(ps:List Str)(ds:List qAf):Prop :=
 ∀(s:qAi) (us:List qAf),K.In s.heap->(us++ds).length=ps.length->qJa s fd ⟨us,[]⟩ (ps.zip (us++ds))
theorem Binds.all{K:qAa}{fd:qAx}{ps:List Str}(h:∀us:List qAf,us.length=ps.length->qIz fd ⟨us,[]⟩=pure (ps.zip us)):Binds K fd ps []:=fun s us _ hl=>by
 rw[qCz] at hl|-;exact .of_eq (h us hl)
def Passes(CX:tJ)(X:Cx)(E:XK):Prop:=∀(pins:List (Addr×Obj)) (σ:St) (H:Hp) (s:qAi) (e:qAf) (s':qAi),Inv X pins σ H s->CX X.stack H s E e s'->X.xe e s'
section
variable {X:Cx}{CX:tJ}{k:Nat}{f C:Addr}{fd:qAx}{ps:List Str}{sp:Sp}{dvs:List V}{ds:List qAf}{E:XK}{x m:Str}{p pos apos:Pos}{e o:Expr}{es:List Expr}{ta:TE}{t:TA}
theorem Ct(F:eW X.prog X.w X.K X.mg X.base CX k f fd ps sp)(hr:cK k X.A)(hb:Binds X.K fd ps ds)(hd:Vals dvs ds)(hx:Passes CX X E)
  (I:Inv X pins σ H s) (r:Vals vs us) (h:sp (vs++dvs) H Q E):qBl (qBr X.prog X.w) X.A (call (.ref f) us) (EP X pins σ Q) X.xe s:=by
 have r2:Vals (vs++dvs) (us++ds):=r.append hd;have hl:(us++ds).length=ps.length:=by rw[<- r2.length];exact F.len _ _ _ _ h
 refine qGl (qEy (F.run X.A X.stack s H ⟨us,[]⟩ (us++ds) (vs++dvs) Q E hr I.Aa (hb s us I.j9 hl) r2 h) fun r s' hq=>?_);cases r with
 | error e=>exact hx pins σ H s e s' I hq
 | ok fl =>
  cases fl with
  | ret u=>exact I.after hq
  | next=>exact False.elim hq
  | brk=>exact False.elim hq
  | cont=>exact False.elim hq
theorem Ab(F:eW X.prog X.w X.K X.mg X.base CX k f fd ps sp)(hr:cK k X.A)(hg:Gl X x)(hm:X.mg x=some (.ref f))(hk:qAs X.K (.ref f)=true)(hb:Binds X.K fd ps ds)(hd:Vals dvs ds)(hx:Passes CX X E)
  (ha:PA X (e::es) t) (hdb:(x == ("__debug__":Str))=false:=by decide) (he:qBg (e::es) X.env=(false,eval e X.env)::qBg es X.env:=by rfl) (hpl:(qEm pos (qBg es X.env)).any (·.1)=false:=by rfl) :
  PE X (.Call (.Name x p) (e::es) [] pos) (wW sp dvs E t):=by
 intro pins s σ H Q I h;refine qDv (gQ I hg hm ?_ hdb);refine qEa (h₀:=X.base) I.ok.mod.Bh hk (bY (ha pos pins s σ H _ I h) fun us s1 ⟨vs,H1,I1,r,q⟩=>⟨I1.j9,?_⟩) he hpl;exact Ct F hr hb hd hx I1 r q
structure Mk (K:qAa) (C f:Addr):Prop where
 makes:qDc K C=true
 init:qAd K (.ref C) "__init__"=some (some (.ref f))
 fn:qBu K (.ref f)=true
 kp:qAs K (.ref C)=true
end
section
variable {X:Cx}{CX:tJ}{k:Nat}{f C:Addr}{fd:qAx}{ps ks:List Str}{sp:Sp}{E:XK}{x m:Str}{p pos apos kpos:Pos}{e o:Expr}{es:List Expr}{kws:List Keyword}{te ta:TE}{t tk:TA}{nm:Option Str}
variable {g:List qAf->List qAf->List qAf}{gV:List V->List V->List V}
end
structure aL (N P:List Str) (sc:qHe):Prop where
 kind:sc.kind = .function
 co:sc.isCoroutine=false
 gen:sc.isGenerator=false
 nd:N.Nodup
 pre:N.take P.length=P
 par:∀x∈P,sc.names.lookup x=some .local\/sc.names.lookup x=some .cell
 Cu:∀y∈sc.names,y.2≠.free
theorem mD{qGc:Str->Option qHp}{x:Str}:∀{binds:List (Str×qAf)}{m:Str->Option qAf},(∀v,(x,v)∉binds)->qKd qGc binds m x=m x
 | [],_,_=>rfl
 | (n,v)::r,m,h=>by
  unfold qKd;rw[mD fun w hw=>h w (qBn _ hw)];split
  ·have:x≠n:=by rintro rfl;exact h v qEc
   simp[this]
  ·rfl
theorem mE{qGc:Str->Option qHp}{x:Str}:∀{binds:List (Str×qAf)}{m:Str->Option qAf},(∀v,(x,v)∉binds)->qKe qGc binds m x=m x
 | [],_,_=>rfl
 | (n,v)::r,m,h=>by
  unfold qKe;rw[mE fun w hw=>h w (qBn _ hw)];split
  ·rfl
  ·have:x≠n:=by rintro rfl;exact h v qEc
   simp[this]
theorem mF{qGc:Str->Option qHp}{x:Str}{v:qAf}:∀{P:List Str}{vs:List qAf}{i:Nat}{m:Str->Option qAf},P.Nodup->P[i]?=some x->vs[i]?=some v->qGc x=some .local ->
  qKd qGc (P.zip vs) m x=some v
 | [],_,_,_,_,h,_,_=>by simp at h
 | _::_,[],_,_,_,_,h,_=>by simp at h
 | p::P,w::vs,0,m,nd,h1,h2,hk=>by
  simp at h1 h2;subst h1;subst h2;show qKd qGc ((p,w)::P.zip vs) m p=_;unfold qKd;rw[mD fun v hv=>(List.nodup_cons.mp nd).1 (qGy hv).1,if_pos hk];simp
 | p::P,w::vs,i+1,m,nd,h1,h2,hk=>by
  show qKd qGc ((p,w)::P.zip vs) m x=_;unfold qKd;exact mF (i:=i) (List.nodup_cons.mp nd).2 (by simpa using h1) (by simpa using h2) hk
theorem mG{qGc:Str->Option qHp}{x:Str}{v:qAf}:∀{P:List Str}{vs:List qAf}{i:Nat}{m:Str->Option qAf},P.Nodup->P[i]?=some x->vs[i]?=some v->qGc x≠some .local ->
  qKe qGc (P.zip vs) m x=some v
 | [],_,_,_,_,h,_,_=>by simp at h
 | _::_,[],_,_,_,_,h,_=>by simp at h
 | p::P,w::vs,0,m,nd,h1,h2,hk=>by
  simp at h1 h2;subst h1;subst h2;show qKe qGc ((p,w)::P.zip vs) m p=_;unfold qKe;rw[mE fun v hv=>(List.nodup_cons.mp nd).1 (qGy hv).1,if_neg hk];simp
 | p::P,w::vs,i+1,m,nd,h1,h2,hk=>by
  show qKe qGc ((p,w)::P.zip vs) m x=_;unfold qKe;exact mG (i:=i) (List.nodup_cons.mp nd).2 (by simpa using h1) (by simpa using h2) hk
def start(N:List Str)(vs:List V):St:=vs.map some++qGf (N.length-vs.length) none
def gY(CX:tJ)(P:qBf)(w:qCc)(K:qAa)(mg:Str->Option qAf)(base:Heap)(N:List Str)(qual:Str)(scope:qHe)(f:Addr)(cd:qAf)(A:qCd)(outer:List Env)(s:qAi)(H:Hp)(E:XK):Cx where
 prog:=P
 w:=w
 K:=K
 mg:=mg
 base:=base
 A:=A.deeper (qGd qual scope s.heap.objs.size f cd)
 N:=N
 s₀:=s
 H₀:=H
 env:=qGd qual scope s.heap.objs.size f cd
 outer:=outer
 stack:=qGd qual scope s.heap.objs.size f cd::outer
 ex:=[]
 calm:=true
 fn:=fun _=>true
 pn:=[]
 xe:=fun e s'=>qBl (qBr P w) (A.deeper (qGd qual scope s.heap.objs.size f cd)) (leaving (qGd qual scope s.heap.objs.size f cd) e) (fun _ s''=>CX outer H s E e s'') (fun e' s''=>CX outer H s E e' s'') s'
theorem oV{sc:qHe}{n:Nat}{x:Str}(h:sc.names.lookup x=some .cell):∃c,(cellsFrom n sc.names []).lookup x=some c:=by
 have q:=qHg sc.names n [] (.inl h);exact Option.isSome_iff_exists.mp q
theorem uT{CX:tJ}{P:qBf}{w:qCc}{K:qAa}{mg:Str->Option qAf}{base:Heap}{N ps:List Str}{qual:Str}{scope:qHe}{f:Addr}{cd:qAf}{A:qCd}{outer:List Env}{s s1:qAi}{H:Hp}{E:XK}{us:List qAf}{vs:List V}
  (S:aL N ps scope) (hd:A.handled=none) (e0:lP P w K mg base A outer s H) (hl:vs.length=ps.length) (r:Vals vs us)
  (x:InCallC s s.heap.objs.size (qKd (qGd qual scope s.heap.objs.size f cd).kindOf (ps.zip us) fun _=>none) (cellsFrom (s.heap.objs.size+1) scope.names []) (qKe (qGd qual scope s.heap.objs.size f cd).kindOf (ps.zip us) fun _=>none) s1) :
  Inv (gY CX P w K mg base N qual scope f cd A outer s H E) [] (start N vs) H s1:=by
 have hpl:ps.length<=N.length:=by have:=congrArg List.length S.pre;rw[qBv] at this;lia
 obtain⟨h1,tk,rfl,hk⟩:=x.done;have noA:∀b:Addr,b∉(gY CX P w K mg base N qual scope f cd A outer s H E).ex:=fun b z=>absurd (show b∈([]:List Addr) from z) (by simp);refine⟨⟨e0.mod,S.kind,rfl,rfl,qAl _,fun y z c h1 h2=>?_,fun y hy=>?_,fun y c _ h=>?_,fun _=>hd,Around.frames_deeper e0.frames,.inr ⟨rfl,rfl⟩,fun b z=>absurd z (noA b),e0.bs,e0.zV,fun b _ _=>noA b,fun b z=>absurd z (noA b),e0.gX,e0.Bi⟩,
  rfl,e0.bare,Un.kept hk,⟨_,x.toInCall.ns,fun i y v h1 h2 h3=>?_⟩,fun y c h=>⟨_,x.cell y c h⟩,e0.bX.fresh (qAl _),fun y c h=>?_,fun p hp=>absurd (show p∈([]:List (Addr×Obj)) from hp) (by simp),e0.bX.kept hk,?_⟩
 ·exact name_of_addr x.apart (PySem.mem_of_lookup h1) (PySem.mem_of_lookup h2)
 ·have hy:scope.names.lookup y=some .cell\/scope.names.lookup y=some .free:=hy;rcases hy with hy | hy
  ·exact oV hy
  ·exact absurd rfl (S.Cu _ (PySem.mem_of_lookup hy))
 ·exact qBd (x.above y c (PySem.mem_of_lookup h))
 ·have hi:i<vs.length:=by
   unfold start at h2;by_cases hi:i<vs.length
   ·exact hi
   ·rw[qDh (by simpa using hi)] at h2;rw[List.getElem?_replicate] at h2;split at h2 <;> cases h2
  have ha:vs[i]?=some v:=by
   unfold start at h2;rw[qDi (by simpa using hi),qBx] at h2;cases e:vs[i]? with
   | none=>rw[e] at h2;cases h2
   | some a=>rw[e] at h2;cases h2;rfl
  obtain⟨u,hu,rv⟩:=r.get ha;have hp:ps[i]?=some y:=by
   rw[<- S.pre,List.getElem?_take_of_lt (by lia)];exact h1
  have ndP:ps.Nodup:=by rw[<- S.pre];exact S.nd.sublist (List.take_sublist _ _)
  refine⟨u,rv,?_⟩;rcases S.par y (qBe hp) with k | k
  ·exact .inl ⟨k,mF ndP hp hu k⟩
  ·obtain⟨c,e⟩:=oV (n:=s.heap.objs.size+1) k;refine .inr ⟨.inl k,c,e,?_⟩;have q:=x.cell y c e;rw[mG ndP hp hu (by show scope.names.lookup y≠_;rw[k];decide)] at q;exact q
 ·exact e0.bX.fresh (qBd (x.above y c (PySem.mem_of_lookup h)))
 ·unfold start;show _=N.length;rw[qAp,qAc,qEq];lia
theorem Bo{CX:tJ}{P:qBf}{w:qCc}{K:qAa}{mg:Str->Option qAf}{base:Heap}{k:Nat}{f:Addr}{name qual:Str}{params:Arguments}{body:List Stmt}{scope:qHe}{dV kV doc pm cdv ct oc:qAf}{an od:Option Addr}
  {osl:Array (Option qAf)}{N ps:List Str}{sp:Sp} (lk:K.lookup f=some ⟨oc,od,.func (qBk name qual params body scope dV kV doc pm an cdv ct),osl⟩) (hcd:qBh K cdv qual=true) (S:aL N ps scope)
  (len:∀vs H Q E,sp vs H Q E->vs.length=ps.length)
  (hbody:∀(A:qCd) (outer:List Env) (s:qAi) (H:Hp) (vs:List V) (Q:VK) (E:XK),cK k (A.deeper (qGd qual scope s.heap.objs.size f cdv))->sp vs H Q E ->
   ∃t,lN (gY CX P w K mg base N qual scope f cdv A outer s H E) body t/\t { nx:=fun _ H'=>Q .non H',rt:=Q } (start N vs) H) :
  eW P w K mg base CX (k+1) f (qBk name qual params body scope dV kV doc pm an cdv ct) ps sp:=by
 refine⟨len,fun A outer s H args us vs Q E hr e0 hb r hsp=>?_⟩;have hl:=len _ _ _ _ hsp;have KX:K.In s.heap:=e0.mod.Bh.keeps fun b o e=>(e0.bs b o e).1;have lim:s.heap.NoLimit:=e0.mod.nolimit.keeps fun b o e=>(e0.bs b o e).1;have hkind:∀y∈ps.zip us,scope.names.lookup y.1=some .local\/(scope.names.lookup y.1=some .cell/\((cellsFrom (s.heap.objs.size+1) scope.names []).lookup y.1).isSome=true):=fun⟨n,v⟩ hy=>by
  rcases S.par n (qGy hy).1 with q | q
  ·exact .inl q
  ·exact .inr ⟨q,qHg _ _ _ (.inl q)⟩
 refine codeAny_call_function hr.depth (KX _ _ lk) rfl S.co S.gen rfl (PySem.W.codeRec_of KX hcd) (hb _ _ _ _ ?_);refine wpAny_newFunctionEnv_cells S.kind hkind fun env he s1 x=>?_;subst he;refine⟨lim.keeps x.toInCall.keep,codeAny_func ?_⟩;obtain⟨t,ht,hq⟩:=hbody A outer s H vs Q E (hr.deeper _) hsp;have I:Inv (gY CX P w K mg base N qual scope f cdv A outer s H E) [] (start N vs) H s1:=uT S hr.hd e0 hl r x;refine qEu (ht [] s1 (start N vs) H _ I hq) (fun fl s' hs=>?_) fun e s' hs=>hs;have fin:∀{σ':St}{H':Hp}{v:V}{u:qAf},Inv (gY CX P w K mg base N qual scope f cdv A outer s H E) [] σ' H' s'->RelV v u->Q v H'->CE outer P w H s Q u s' :=
  fun {σ' H' v u} J rv q=>⟨v,H',J.os,J.bare,J.base,J.bX,rv,q⟩
 cases fl with
 | ret u =>
  obtain⟨v,σ',H',J,rv,q⟩:=hs;exact fin J rv q
 | next =>
  obtain⟨σ',H',J,q⟩:=hs;exact fin (v:=V.non) (u:=Value.none) J rfl q
 | brk =>
  obtain⟨_,_,_,q⟩:=hs;exact False.elim q
 | cont =>
  obtain⟨_,_,_,q⟩:=hs;exact False.elim q
section
variable {X:Cx}{x:Str}{p pos:Pos}{e:Expr}{es:List Expr}{t:TA}{id T:String}{r:List V->Hp->VK->Prop}
def JN(r:List V->Hp->VK->Prop)(t:TA):TE:=fun σ H Q=>t σ H fun vs H1=>r vs H1 Q
theorem aP(hc:eD X (.builtin id) r)(hg:Gl X x)(hm:X.mg x=none)(hv:qBt x=some (.builtin id))(ha:PA X (e::es) t)(hn:x≠"__name__":=by decide)(hdb:(x == ("__debug__":Str))=false:=by decide)
  (he:qBg (e::es) X.env=(false,eval e X.env)::qBg es X.env:=by rfl) (hpl:(qEm pos (qBg es X.env)).any (·.1)=false:=by rfl):PE X (.Call (.Name x p) (e::es) [] pos) (JN r t):=by
 intro pins s σ H Q I h;refine qDv (g7 I hg hm hv ?_ hn hdb);exact qKh (bY (ha pos pins s σ H _ I h) fun us s1 ⟨vs,H1,I1,r1,q1⟩=>hc pins s1 σ H1 vs us Q I1 r1 q1) he hpl
theorem eO(hc:eD X (.type T) r)(hg:Gl X x)(hm:X.mg x=none)(hv:qBt x=some (.type T))(ha:PA X (e::es) t)(hn:x≠"__name__":=by decide)(hdb:(x == ("__debug__":Str))=false:=by decide)
  (he:qBg (e::es) X.env=(false,eval e X.env)::qBg es X.env:=by rfl) (hpl:(qEm pos (qBg es X.env)).any (·.1)=false:=by rfl):PE X (.Call (.Name x p) (e::es) [] pos) (JN r t):=by
 intro pins s σ H Q I h;refine qDv (g7 I hg hm hv ?_ hn hdb);exact qDr (bY (ha pos pins s σ H _ I h) fun us s1 ⟨vs,H1,I1,r1,q1⟩=>hc pins s1 σ H1 vs us Q I1 r1 q1) he hpl
end
end L2
namespace HT
open PySem PyProof.Rows
def lexLt:List Int->List Int->Bool
 | [],[]=>false
 | [],_::_=>true
 | _::_,[]=>false
 | x::xs,y::ys=>if x=y then lexLt xs ys else decide (x<y)
theorem rZ(x y:Int)(xs ys:List Int):lexLt (x::xs) (y::ys)=if x=y then lexLt xs ys else decide (x<y):=rfl
section
open PySem.SeqAt
open PySem.AutoSeq1 (wpAny_loadPart')
open PySem.MeetsSeq PySem.MeetsSeq2 PySem.MeetsSeq3
end
section
variable {prog:qBf}{w:qCc}{A:qCd}{E:qAf->qAi->Prop}{s:qAi}
theorem Ac(ht:IsTup s.heap t vs.toArray)(hb:IsTup s.heap b ws.toArray)(hv:vs≠[])
  (h1:ws=[]->Q (.ref t) s) (h2:ws≠[]->Q (.ref s.heap.objs.size) { s with heap:=s.heap.push { cls:=.type "tuple",data:=.seq (vs++ws).toArray } })
  (hsz:vs.length+ws.length<=qAg):qBl (qBr prog w) A (qEw .Add (.ref t) (.ref b)) Q E s:=by
 obtain⟨⟨cls,dd,data,sl⟩,ho,hc,n,hd⟩:=id ht;obtain⟨⟨cls2,dd2,data2,sl2⟩,ho2,hc2,n2,hd2⟩:=id hb;simp only at hc hd hc2 hd2;subst hc hd hc2 hd2;have e:vs.toArray++ws.toArray=(vs++ws).toArray:=by simp
 by_cases hw:ws=[]
 ·exact concat_meets ⟨_,ho,rfl⟩ ⟨_,ho2,rfl⟩ noFill_tuple_add seq_tuple_add qHh qHb (qGx _ _)
   (tuple_addW1 t b vs.toArray ws.toArray n n2 dd dd2 sl sl2 (by simpa using hv) (by simp[hw])) ⟨ho,ho2,h1 hw⟩
 ·refine concat_meets ⟨_,ho,rfl⟩ ⟨_,ho2,rfl⟩ noFill_tuple_add seq_tuple_add qHh qHb (qGx _ _)
   (tuple_addW2 t b vs.toArray ws.toArray n n2 dd dd2 sl sl2 (by simpa using hv) (by simpa using hw) (by rw[qAr,qAr];exact hsz)) ⟨ho,ho2,?_⟩
  rw[e];exact h2 hw
def c9(n d:Nat):Option Int->Nat
 | none=>d
 | some v=>if v<0 then (v+(n:Int)).toNat else min v.toNat n
theorem kL(n d:Nat):c9 n d none=d:=rfl
theorem tK(n d k:Nat):c9 n d (some (k:Int))=min k n:=by
 show(if (k:Int)<0 then ((k:Int)+(n:Int)).toNat else min (k:Int).toNat n)=min k n;rw[if_neg (by lia),qJg]
theorem Cv(n d:Nat)(hd:d<=n)(o:Option Int):c9 n d o<=n:=by
 cases o with
 | none=>exact hd
 | some v =>
  show(if v<0 then (v+(n:Int)).toNat else min v.toNat n)<=n;by_cases hv:v<0
  ·rw[if_pos hv];lia
  ·rw[if_neg hv];exact Nat.min_le_right _ _
theorem tL(v:Int)(n d:Nat):(if v<0 then max (v+(n:Int)) 0 else min v (n:Int))=((c9 n d (some v):Nat):Int):=by
 show(if v<0 then max (v+(n:Int)) 0 else min v (n:Int))=(((if v<0 then (v+(n:Int)).toNat else min v.toNat n):Nat):Int);by_cases hv:v<0
 ·simp only[if_pos hv];lia
 ·simp only[if_neg hv];lia
theorem r8(lo hi:Option Int)(n:Nat):Builtin.Slice.sliceAdjust lo hi 1 (n:Int)=(((c9 n 0 lo:Nat):Int),((c9 n n hi:Nat):Int)):=by
 have h1:¬((1:Int)<0):=by lia
 unfold Builtin.Slice.sliceAdjust;simp only[h1,if_false];refine Prod.ext ?_ ?_
 ·cases lo with
  | none=>rfl
  | some v=>exact tL v n 0
 ·cases hi with
  | none=>rfl
  | some v=>exact tL v n n
theorem r9(i j:Nat):Builtin.Slice.slicePlaces (i:Int) (j:Int) 1=j-i:=by
 unfold Builtin.Slice.slicePlaces;have h1:(1:Int)>0:=by lia
 simp only[h1,if_true,Int.ediv_one];split <;> lia
theorem kM(p:qHl v o)(h:Q o s):qBl (qBr prog w) A (Builtin.Slice.slicePartIndex v) Q E s:=by
 cases p with
 | none=>exact slicePart_none h
 | int i t=>exact slicePart_int h
theorem fT{sl:Addr}{vl vu:qAf}{lo hi:Option Int}{n:Nat}{Q:Int×Int×Nat->qAi->Prop}(hs:s.heap.IsSliceOf sl vl vu .none)(pl:qHl vl lo)(pu:qHl vu hi)
  (h:Q (((c9 n 0 lo:Nat):Int),1,c9 n n hi-c9 n 0 lo) s):qBl (qBr prog w) A (Builtin.Slice.sliceApplied (.ref sl) (pure (n:Int))) Q E s:=by
 obtain⟨os,hos,hcs,hds⟩:=id hs;unfold Builtin.Slice.sliceApplied Builtin.Slice.sliceFields;refine qAe (qAe (wpAny_field hos hds (x:=vl) rfl (qAe (wpAny_field hos hds (x:=vu) rfl (qAe (wpAny_field hos hds (x:=.none) rfl (qAo ?_)))))));refine qAe (slicePart_none ?_);show qBl _ _ (if ((1:Int) == 0)=true then _ else _) _ _ s;rw[if_neg (by decide)];refine qAe (kM pl (qAe (kM pu (qAe (qAo ?_)))));show qBl _ _ (match Builtin.Slice.sliceAdjust lo hi 1 (n:Int) with | (lo,hi)=>pure (lo,(1:Int),Builtin.Slice.slicePlaces lo hi 1)) _ _ s
 rw[r8 lo hi n];show qBl _ _ (pure (((c9 n 0 lo:Nat):Int),(1:Int),Builtin.Slice.slicePlaces ((c9 n 0 lo:Nat):Int) ((c9 n n hi:Nat):Int) 1)) _ _ s;rw[r9];exact qAo h
theorem wX(xs:Array qAf)(i k:Nat):((qAy k).filterMap fun(m:Nat)=>xs[((i:Int)+(m:Int)*1).toNat]?).toArray=((xs.toList.drop i).take k).toArray:=by
 have e:(fun(m:Nat)=>xs[((i:Int)+(m:Int)*1).toNat]?)=fun m=>xs[i+m]?:=by
  funext m
  have:((i:Int)+(m:Int)*1).toNat=i+m:=by lia
  rw[this]
 rw[e];have:=pick_run xs i k;rw[qCs] at this;have e2:((fun x=>xs[x]?)∘fun x=>i+x)=fun m=>xs[i+m]?:=rfl;rw[e2] at this;rw[this]
theorem iB{t sl:Addr}{items:Array qAf}{vl vu:qAf}{lo hi:Option Int}{Q:qAf->qAi->Prop}(ht:IsTup s.heap t items)(hs:s.heap.IsSliceOf sl vl vu .none)(pl:qHl vl lo)(pu:qHl vu hi)
  (hw:¬(c9 items.size 0 lo=0/\c9 items.size items.size hi=items.size))
  (h:Q (.ref s.heap.objs.size) { s with heap:=s.heap.push { cls:=.type "tuple",data:=.seq ((items.toList.drop (c9 items.size 0 lo)).take (c9 items.size items.size hi-c9 items.size 0 lo)).toArray } })
  (hsz:items.size<=qAg):qBl (qBr prog w) A (qHd (.ref t) (.ref sl)) Q E s:=by
 have htake:sizeOk (.seq ((items.toList.drop (c9 items.size 0 lo)).take (c9 items.size items.size hi-c9 items.size 0 lo)).toArray):=by
  show((items.toList.drop (c9 items.size 0 lo)).take (c9 items.size items.size hi-c9 items.size 0 lo)).toArray.size<=qAg;rw[qAr,qBv,qCl,qEx];lia
 have hj:c9 items.size items.size hi<=items.size:=Cv _ _ (qAl _) hi;obtain⟨os,hos,hcs,hds⟩:=id hs;have hTs:s.TypeIs (.ref sl) "slice":=⟨os,hos,hcs⟩;unfold qHd;try with_reducible refine qCq ?_
 first | refine qAe (qAo ?_) | skip
 refine qAe (wpAny_sequenceKey ht.typeIs (by decide) ?_);refine qAe (wpAny_callSpecial?_slot (name:=Str.ofString "__getitem__") ht.typeIs qDg
  (wpAny_call_entry qDg ht.typeIs entry_tuple_getitem ?_ (args_tuple_getitem _ _)))
 show qBl _ _ (Builtin.Tuple.tupleItemsOf (.ref t) >>= _) _ _ s;refine qAe (tupleItemsOf_ ht ?_);refine qAe (wpAny_typeOf hTs ?_);rw[if_pos (by decide)];refine qAe (fT hs pl pu ?_);have hno:¬((((c9 items.size 0 lo:Nat):Int) == 0&&(1:Int) == 1&&(c9 items.size items.size hi-c9 items.size 0 lo) == items.size)=true):=by
  intro q;rw[qAn,qAn] at q;have q1:((c9 items.size 0 lo:Nat):Int)=0:=eq_of_beq q.1.1;have q2:c9 items.size items.size hi-c9 items.size 0 lo=items.size:=eq_of_beq q.2;exact hw ⟨by lia,by lia⟩
 show qBl _ _ (if (((c9 items.size 0 lo:Nat):Int) == 0&&(1:Int) == 1&&(c9 items.size items.size hi-c9 items.size 0 lo) == items.size)=true then _ else _) _ _ s;rw[if_neg hno,wX];first
  | exact qAe (m:=Builtin.Tuple.tupleExact _) (qEt (qAo ⟨_,rfl,qAo h⟩) htake)
  | exact qAe (m:=Builtin.Tuple.tupleExact _) (qEt (qAe (qAo (qAo ⟨_,rfl,qAo h⟩))) htake)
  | exact qAe (qAe (m:=Builtin.Tuple.tupleExact _) (qEt (qAo (qAo ⟨_,rfl,qAo h⟩)) htake))
  | exact qAe (qAe (m:=Builtin.Tuple.tupleExact _) (qEt (qAo ⟨_,rfl,qAo h⟩) htake))
end
end HT
namespace L2
open PySem PySem.Spec PyProof.Rows
abbrev TO:=St->Hp->(Option Int->Hp->Prop)->Prop
def PO(X:Cx)(e:Option Expr)(t:TO):Prop :=
 ∀(pins:List (Addr×Obj)) (s:qAi) (σ:St) (H:Hp) (Q:Option Int->Hp->Prop),Inv X pins σ H s->t σ H Q ->
  qBl (qBr X.prog X.w) X.A (evalPart e X.env) (fun u s'=>∃o H',Inv X pins σ H' s'/\qHl u o/\Q o H') X.xe s
def nM:TO:=fun _ H Q=>Q none H
def wY(t:TE):TO:=fun σ H Q=>t σ H fun x H1=>∃i,x = .int i/\Q (some i) H1
theorem intsAre_of:∀{us:List qAf},Vals (ns.map V.int) us->qGs us ns:=by
 induction ns with
 | nil=>intro us r;rw[qGq] at r;cases r;exact .nil
 | cons n ns ih =>
  intro us r;rw[qBq] at r;cases r with
  | cons r1 r2 =>
   obtain⟨t,e⟩:=r1;subst e;exact .cons n t (ih r2)
section
variable {X:Cx}{e:Expr}{te:TE}{lo hi:Option Expr}{tl th:TO}{pos p2:Pos}
theorem cN:PO X none nM:=by
 intro pins s σ H Q I h;rw[evalPart_none];exact qAo ⟨none,H,I,.none,h⟩
theorem cO(h:PE X e te):PO X (some e) (wY te):=by
 intro pins s σ H Q I hw;rw[evalPart_some];refine bY (h pins s σ H _ I hw) fun u s1 ⟨x,H1,I1,r1,q1⟩=>?_;obtain⟨i,rfl,q⟩:=q1;obtain⟨t,rfl⟩:=r1;exact⟨some i,H1,I1,.int i t,q⟩
def Gn(X:Cx)(r:V->Option Int->Option Int->Hp->VK->Prop):Prop :=
 ∀(pins:List (Addr×Obj)) (s:qAi) (σ:St) (H:Hp) (x:V) (v vl vu:qAf) (lo hi:Option Int) (sl:Addr) (Q:VK),Inv X pins σ H s->RelV x v->s.heap.IsSliceOf sl vl vu .none->qHl vl lo->qHl vu hi->r x lo hi H Q ->
  ∃T id,typeLookup (.type T) "__getitem__"=pure (some (.builtin id))/\s.TypeIs v T/\qBl (qBr X.prog X.w) X.A (qHd v (.ref sl)) (EP X pins σ Q) X.xe s
def IU(r:V->Option Int->Option Int->Hp->VK->Prop)(te:TE)(tl th:TO):TE:=fun σ H Q=>te σ H fun x H1=>tl σ H1 fun l H2=>th σ H2 fun u H3=>r x l u H3 Q
theorem cA(hr:Gn X r)(he:PE X e te)(hl:PO X lo tl)(hu:PO X hi th):PE X (.Subscript e (.Slice lo hi none p2) pos) (IU r te tl th):=by
 intro pins s σ H Q I h;refine Subscript_ (bY (he pins s σ H _ I h) fun v s1 ⟨x,H1,I1,r1,q1⟩=>?_);refine wpAny_Slice (bY (hl pins s1 σ H1 _ I1 q1) fun vl s2 ⟨l,H2,I2,pl,q2⟩=>bY (hu pins s2 σ H2 _ I2 q2) fun vu s3 ⟨u,H3,I3,pu,q3⟩=>?_);rw[evalPart_none];refine qAo ?_;have I4:Inv X pins σ H3 { s3 with heap:=s3.heap.push { cls:=.type "slice",data:=.fields #[vl,vu,.none] } }:=I3.kept (t':=s3.toks) fun b ob q=>qAh _ q;obtain⟨T,id,hT,ht,hg⟩:=hr pins { s3 with heap:=s3.heap.push { cls:=.type "slice",data:=.fields #[vl,vu,.none] } } σ H3 x v vl vu l u s3.heap.objs.size Q I4 r1 (Heap.IsSliceOf.new ..) pl pu q3;show qBl (qBr X.prog X.w) X.A (subscriptTail e (.Slice lo hi none p2) v (.ref s3.heap.objs.size)) (EP X pins σ Q) X.xe { s3 with heap:=s3.heap.push { cls:=.type "slice",data:=.fields #[vl,vu,.none] } };exact tail_any (ops:=[.ref s3.heap.objs.size,v]) ht hT hg (by with_unfolding_all rfl)
def c8(xs:List V)(lo hi:Option Int):List V:=(xs.drop (HT.c9 xs.length 0 lo)).take (HT.c9 xs.length xs.length hi-HT.c9 xs.length 0 lo)
theorem jJ(xs:List V)(lo hi:Option Int):(c8 xs lo hi).length<=xs.length:=by
 unfold c8;rw[qBv,qCl];lia
def IV(K:qAa):V->Option Int->Option Int->Hp->VK->Prop:=fun x lo hi H Q=>∃a xs,x = .ref a/\dU K H a xs /\
 ¬(HT.c9 xs.length 0 lo=0/\HT.c9 xs.length xs.length hi=xs.length)/\∀p,H p=none->Q (.ref p) (upd H p (.tup (c8 xs lo hi)))
theorem Cw:Gn X (IV X.K):=by
 intro pins s σ H x v vl vu lo hi sl Q I rx hs pl pu h;obtain⟨a,xs,rfl,hx,hw,q⟩:=h;cases rx;obtain⟨its,r,ht,hz⟩:=I.tuple hx;have hlen:its.toArray.size=xs.length:=by rw[qAr];exact r.length.symm
 refine⟨"tuple",_,PyProof.Rows.slot_tuple_getitem.lookup,ht.typeIs,?_⟩;refine HT.iB ht hs pl pu (by rw[hlen];exact hw) ?_ (by rw[hlen];exact hz);rw[hlen];refine⟨.ref s.heap.objs.size,_,I.laid (t':=s.toks) (o:=.tup (c8 xs lo hi)) (fun b ob q=>qAh _ q) (qAl _) ?_,rfl,q _ (I.bX.fresh (qAl _))⟩;exact⟨qCe (jJ xs lo hi) hz,_,(r.drop (HT.c9 xs.length 0 lo)).take (HT.c9 xs.length xs.length hi-HT.c9 xs.length 0 lo),IsTup.new _ _⟩
def Gp(K:qAa):R2:=fun x y H Q=>∃a b xs ys,x = .ref a/\y = .ref b/\dU K H a xs/\dU K H b ys/\xs≠[]/\xs.length+ys.length<=qAg /\
 (ys=[]->Q (.ref a) H)/\(ys≠[]->∀p,H p=none->Q (.ref p) (upd H p (.tup (xs++ys))))
theorem Vals.nN(r:Vals xs us):us=[]↔xs=[]:=by
 cases r with
 | nil=>simp
 | cons _ _=>simp
theorem Ad:gR X (qEw .Add) (Gp X.K):=by
 intro pins s σ H x y v u Q I rx ry h;obtain⟨a,b,xs,ys,rfl,rfl,ha,hb,hx,hz,q1,q2⟩:=h;cases rx;cases ry;obtain⟨its,r1,p1,_⟩:=I.tuple ha;obtain⟨its2,r2,p2,_⟩:=I.tuple hb;refine HT.Ac p1 p2 (fun z=>hx (r1.nN.mp z)) (fun z=>⟨.ref a,H,I,rfl,q1 (r2.nN.mp z)⟩) (fun z=>?_) (by rw[<- r1.length,<- r2.length];exact hz);refine⟨.ref s.heap.objs.size,_,I.laid (t':=s.toks) (o:=.tup (xs++ys)) (fun b ob q=>qAh _ q) (qAl _) ?_,rfl,q2 (fun w=>z (r2.nN.mpr w)) _ (I.bX.fresh (qAl _))⟩;exact⟨by rw[qAp];exact hz,_,r1.append r2,IsTup.new _ _⟩
end
def zR(n:Nat)(i:Int):Option Nat:=if 0<=i then (if i<n then some i.toNat else none) else if -(n:Int)<=i then some (i+n).toNat else none
def lQ{α:Type}(xs:List α)(i:Int):Option α:=(zR xs.length i).bind fun j=>xs[j]?
theorem tM(h:zR n i=some j):seqIndex? i n=some j/\j<n/\-(n:Int)<=i/\i<n:=by
 unfold zR at h;by_cases h0:0<=i
 ·rw[if_pos h0] at h;by_cases h1:i<n
  ·rw[if_pos h1] at h;have e:i.toNat=j:=Option.some.inj h;exact⟨by rw[seqIndex_of h0 h1,e],by lia,by lia,h1⟩
  ·rw[if_neg h1] at h;cases h
 ·rw[if_neg h0] at h;by_cases h1:-(n:Int)<=i
  ·rw[if_pos h1] at h;have e:(i+n).toNat=j:=Option.some.inj h;exact⟨by rw[seqIndex_neg (by lia) h1,e],by lia,h1,by lia⟩
  ·rw[if_neg h1] at h;cases h
theorem tN(h:lQ xs i=some v):∃j,seqIndex? i xs.length=some j/\xs[j]?=some v/\j<xs.length/\-(xs.length:Int)<=i/\i<xs.length:=by
 unfold lQ at h;cases e:zR xs.length i with
 | none=>rw[e] at h;cases h
 | some j =>
  rw[e] at h;obtain⟨h1,h2,h3,h4⟩:=tM e;exact⟨j,h1,h,h2,h3,h4⟩
theorem bA{α:Type}{xs:List α}{j:Nat}{v:α}(h:xs[j]?=some v):lQ xs (j:Int)=some v:=by
 have hj:j<xs.length:=(List.getElem?_eq_some_iff.mp h).1;have e:zR xs.length (j:Int)=some j:=by
  unfold zR;rw[if_pos (by lia),if_pos (by lia)];simp
 unfold lQ;rw[e];exact h
def Ae(b:Expr):Prop:=∀o i,subscripted b false o i=operate [o,i] (qHd o i)
def Fp(X:Cx)(r:R2):Prop :=
 ∀(value slice:Expr) (pins:List (Addr×Obj)) (s:qAi) (σ:St) (H:Hp) (x y:V) (v u:qAf) (Q:VK),Inv X pins σ H s->RelV x v->RelV y u->r x y H Q ->
  subscripted slice false v u=operate [v,u] (qHd v u)->qBl (qBr X.prog X.w) X.A (subscriptTail value slice v u) (EP X pins σ Q) X.xe s
def Iv(X:Cx)(id:String)(r:V->List V->Hp->VK->Prop):Prop :=
 ∀(pins:List (Addr×Obj)) (s:qAi) (σ:St) (H:Hp) (x:V) (xs:List V) (v:qAf) (us:List qAf) (Q:VK),Inv X pins σ H s->RelV x v->Vals xs us->r x xs H Q ->
  qBl (qBr X.prog X.w) X.A (call (.builtin id) (v::us)) (EP X pins σ Q) X.xe s
section
variable {X:Cx}{a b:Expr}{ta tb:TE}{pos:Pos}
theorem aY(hr:Fp X r)(ha:PE X a ta)(hb:PE X b tb)(hs:Ae b):PE X (.Subscript a b pos) (zQ r ta tb):=by
 intro pins s σ H Q I h;exact Subscript_ (Cp ha hb I h fun v u s2 x y H2 I2 rx ry q=>hr a b pins s2 σ H2 x y v u Q I2 rx ry q (hs _ _))
def Gq(K:qAa):R2:=fun x y H Q=>∃p xs i v,x = .ref p/\y = .int i/\aX K H p xs/\lQ xs i=some v/\Q v H
def Gr(K:qAa):R2:=fun x y H Q=>∃p xs i v,x = .ref p/\y = .int i/\dU K H p xs/\lQ xs i=some v/\Q v H
theorem aU:Fp X (Gq X.K):=by
 intro value slice pins s σ H x y v u Q I rx ry h hs;obtain⟨p,xs,i,z,rfl,rfl,hq,he,q⟩:=h;cases rx;obtain⟨t,rfl⟩:=ry;obtain⟨its,r,pl,hz⟩:=I.list hq;obtain⟨j,h1,h2,h3,h4,h5⟩:=tN he;obtain⟨w,ew,rw'⟩:=r.get h2;have hl:=r.length;have hn:=nL;have fin:EP X pins σ Q w s:=⟨z,H,I,rw',q⟩;by_cases h0:0<=i
 ·have hj:i.toNat=j:=by
   rw[seqIndex_of h0 h5] at h1;exact Option.some.inj h1
  exact item_listR pl.isList h0 (by lia) (by rw[hj];simpa using ew) fin hs
 ·have hj:(i+(its.toArray.size:Int)).toNat=j:=by
   rw[seqIndex_neg (by lia) h4] at h1;rw[qAr,<- hl];exact Option.some.inj h1
  exact subscriptTail_builtinR (x:=w) pl.isList.typeIs slot_list_getitem.lookup
   (wpAny_getItem_list_neg (Q:=fun r s'=>r=w/\EP X pins σ Q r s') pl.isList (by lia) (by rw[qAr] <;> lia) (by lia) (by rw[hj];simpa using ew) ⟨rfl,fin⟩) hs
theorem bU:Fp X (Gr X.K):=by
 intro value slice pins s σ H x y v u Q I rx ry h hs;obtain⟨p,xs,i,z,rfl,rfl,hq,he,q⟩:=h;cases rx;obtain⟨t,rfl⟩:=ry;obtain⟨its,r,pl,hz⟩:=I.tuple hq;obtain⟨j,h1,h2,h3,h4,h5⟩:=tN he;obtain⟨w,ew,rw'⟩:=r.get h2;have hl:=r.length;have hn:=nL;have fin:EP X pins σ Q w s:=⟨z,H,I,rw',q⟩;exact subscriptTail_builtinR (x:=w) pl.typeIs slot_tuple_getitem.lookup
  (getItem_tuple (j:=j) (Q:=fun r s'=>r=w/\EP X pins σ Q r s') pl (by lia) (by lia) (by rw[qAr,<- hl];exact h1) (by simpa using ew) ⟨rfl,fin⟩) hs
theorem sA(its:List qAf)(n j:Nat)(u:qAf):Obj.mapSeq (·.setIfInBounds j u) { cls:=.type "list",data:=.seq its.toArray n }={ cls:=.type "list",data:=.seq (its.set j u).toArray n }:=by
 simp[Obj.mapSeq]
theorem Inv.lst(I:Inv X pins σ H s)(h:H p=some (.lst xs)):
  ∃(its:List qAf) (n:Nat),Vals xs its/\s.heap.get? p=some { cls:=.type "list",data:=.seq its.toArray n }/\xs.length<=qAg:=by
 obtain⟨z,its,n,r,e⟩:=I.bX p _ h;exact⟨its,n,r,e,z⟩
theorem Inv.Cy{pins:List (Addr×Obj)}{σ:St}{H:Hp}{s:qAi}{p:Addr}{xs ys:List V}{its its':List qAf}{n n':Nat}{f:Obj->Obj}(I:Inv X pins σ H s)(h:H p=some (.lst xs))
  (ho:s.heap.get? p=some { cls:=.type "list",data:=.seq its.toArray n }) (hf:f { cls:=.type "list",data:=.seq its.toArray n }={ cls:=.type "list",data:=.seq its'.toArray n' }) (r:Vals ys its') (hz:ys.length<=qAg) (t:Nat) :
  Inv X pins σ (upd H p (.lst ys)) { s with heap:=s.heap.update p f,toks:=t }:=by
 have e:(s.heap.update p f).get? p=some { cls:=.type "list",data:=.seq its'.toArray n' }:=by
  rw[Heap.get?_update_self f ho (by rw[hf] <;> rfl),hf]
 refine I.write (x:=p) (e:=p) (by rw[h];trivial) (.inl rfl) (fun b u hb q=>(qHv _ _ (Ne.symm hb)).trans q) ⟨_,e⟩ ?_;exact⟨hz,its',n',r,e⟩
def Gs:V->V->V->Hp->(Hp->Prop)->Prop:=fun o i v H Q=>∃p xs k j,o = .ref p/\i = .int k/\H p=some (.lst xs)/\zR xs.length k=some j/\Q (upd H p (.lst (xs.set j v)))
theorem set_list:Cm X Gs:=by
 intro pins s σ H o i v ov iv u Q I ro ri rv h;obtain⟨p,xs,k,j,rfl,rfl,hp,hj,q⟩:=h;cases ro;obtain⟨t,rfl⟩:=ri;obtain⟨its,n,r,ho,hz⟩:=I.lst hp;obtain⟨h1,h2,h3,h4⟩:=tM hj;have hl:=r.length;have hn:=nL;have I':Inv X pins σ (upd H p (.lst (xs.set j v))) { s with heap:=s.heap.update p (Obj.mapSeq (·.setIfInBounds j u)) } :=
  I.Cy hp ho (sA its n j u) (r.set rv j) (by rw[qFt];exact hz) s.toks
 by_cases h0:0<=k
 ·have hk:k.toNat=j:=by
   rw[seqIndex_of h0 h4] at h1;exact Option.some.inj h1
  exact PySem.W.ki_setAt ho h0 (by lia) (by rw[qAr,<- hl];exact h4) (by rw[hk];exact⟨_,I',q⟩)
 ·have hk:(k+(its.toArray.size:Int)).toNat=j:=by
   rw[seqIndex_neg (by lia) h3] at h1;rw[qAr,<- hl];exact Option.some.inj h1
  exact PySem.W.ki_setBack ho (by lia) (by rw[qAr,<- hl];exact h3) (by lia) (by rw[hk];exact⟨_,I',q⟩)
theorem nO(lo hi:Option Int)(n:Nat):(qFg lo hi none n).1=((HT.c9 n 0 lo:Nat):Int)/\(qFg lo hi none n).2.1=((HT.c9 n n hi:Nat):Int)/\(qFg lo hi none n).2.2=1:=by
 refine⟨?_,?_,rfl⟩
 ·cases lo with
  | none=>simp[qFg,HT.c9]
  | some i =>
   simp only[qFg,HT.c9,qIx,show(1:Int)>0 by decide,if_true];by_cases h:i<0
   ·simp only[h,if_true] <;> lia
   ·simp only[h,if_false] <;> lia
 ·cases hi with
  | none=>simp[qFg,HT.c9]
  | some i =>
   simp only[qFg,HT.c9,qIx,show(1:Int)>0 by decide,if_true];by_cases h:i<0
   ·simp only[h,if_true] <;> lia
   ·simp only[h,if_false] <;> lia
theorem lR(its:List qAf)(lo hi:Option Int):slicePick its.toArray lo hi none=((its.drop (HT.c9 its.length 0 lo)).take (HT.c9 its.length its.length hi-HT.c9 its.length 0 lo)).toArray:=by
 obtain⟨h1,h2,h3⟩:=nO lo hi its.toArray.size;unfold slicePick;rw[h1,h2,h3];simp only[sliceRange_one,pick_run,qAr] <;> rfl
def Cz(K:qAa):V->Option Int->Option Int->Hp->VK->Prop:=fun x lo hi H Q=>∃a xs,x = .ref a/\aX K H a xs/\∀p,H p=none->Q (.ref p) (upd H p (.lst (c8 xs lo hi)))
theorem cX:Gn X (Cz X.K):=by
 intro pins s σ H x v vl vu lo hi sl Q I rx hs pl pu h;obtain⟨a,xs,rfl,hx,q⟩:=h;cases rx;obtain⟨its,r,ht,hz⟩:=I.list hx;have hlen:=r.length;refine⟨"list",_,slot_list_getitem.lookup,ht.isList.typeIs,?_⟩;refine wpAny_getItem_list_slice ht.isList hs pl pu .none (by simp) ?_ (by rw[qAr] <;> lia);rw[lR,<- hlen];refine⟨.ref s.heap.objs.size,_,I.laid (t':=s.toks) (o:=.lst (c8 xs lo hi)) (fun b ob q=>qAh _ q) (qAl _) ?_,rfl,q _ (I.bX.fresh (qAl _))⟩;exact⟨qCe (jJ xs lo hi) hz,_,0,(r.drop (HT.c9 xs.length 0 lo)).take (HT.c9 xs.length xs.length hi-HT.c9 xs.length 0 lo),qBb _ rfl⟩
def jK:V->Bool
 | .non=>true
 | .bl _=>true
 | .int _=>true
 | .str _=>true
 | _=>false
def Af:V->V->Bool
 | .non,.non=>true
 | .bl a,.bl b=>a == b
 | .bl a,.int b=>(if a then 1 else 0) == b
 | .int a,.bl b=>a == (if b then 1 else 0)
 | .int a,.int b=>a == b
 | .str a,.str b=>a == b
 | _,_=>false
theorem CA(ry:RelV y u)(rx:RelV x v)(fy:jK y=true)(fx:jK x=true):SeqAt.EqAt A s u v (Af y x):=by
 cases y with
 | non =>
  cases ry
  cases x with
  | non=>cases rx;exact SeqAt.EqAt.same _
  | bl b=>cases rx;exact SeqAt.EqAt.none_bool b
  | int b=>obtain⟨t,rfl⟩:=rx;exact SeqAt.EqAt.none_int b t
  | str b=>obtain⟨t,rfl⟩:=rx;exact SeqAt.EqAt.none_str b t
  | _=>exact absurd (show false=true from fx) qAj
 | bl a =>
  cases ry
  cases x with
  | non=>cases rx;exact SeqAt.EqAt.bool_none a
  | bl b=>cases rx;exact SeqAt.EqAt.bool_bool a b
  | int b=>obtain⟨t,rfl⟩:=rx;exact SeqAt.EqAt.bool_int a b t
  | str b=>obtain⟨t,rfl⟩:=rx;exact SeqAt.EqAt.bool_str a b t
  | _=>exact absurd (show false=true from fx) qAj
 | int a =>
  obtain⟨t',rfl⟩:=ry;cases x with
  | non=>cases rx;exact SeqAt.EqAt.int_none a t'
  | bl b=>cases rx;exact SeqAt.EqAt.int_bool a t' b
  | int b=>obtain⟨t,rfl⟩:=rx;exact SeqAt.EqAt.int_int a t' b t
  | str b=>obtain⟨t,rfl⟩:=rx;exact SeqAt.EqAt.int_str a t' b t
  | _=>exact absurd (show false=true from fx) qAj
 | str a =>
  obtain⟨t',rfl⟩:=ry;cases x with
  | non=>cases rx;exact SeqAt.EqAt.str_none a t'
  | bl b=>cases rx;exact SeqAt.EqAt.str_bool a t' b
  | int b=>obtain⟨t,rfl⟩:=rx;exact SeqAt.EqAt.str_int a t' b t
  | str b=>obtain⟨t,rfl⟩:=rx;exact SeqAt.EqAt.str_str a t' b t
  | _=>exact absurd (show false=true from fx) qAj
 | _=>exact absurd (show false=true from fy) qAj
def Ah(x:V)(u:qAf):Bool:=match u with
 | .none=>Af .non x
 | .bool b=>Af (.bl b) x
 | .int i _=>Af (.int i) x
 | .str z _=>Af (.str z) x
 | _=>false
theorem wZ(r:RelV y u)(f:jK y=true):Ah x u=Af y x:=by
 cases y with
 | non=>cases r;rfl
 | bl b=>cases r;rfl
 | int i=>obtain⟨t,rfl⟩:=r;rfl
 | str z=>obtain⟨t,rfl⟩:=r;rfl
 | _=>exact absurd (show false=true from f) qAj
theorem nP:∀{xs:List V}{us:List qAf},Vals xs us->xs.all jK=true->us.any (Ah x)=xs.any fun y=>Af y x
 | _,_,.nil,_=>rfl
 | y::xs,u::us,.cons r t,f=>by
  rw[qGk,qAn] at f;rw[qFn,qFn,wZ r f.1,nP t f.2]
theorem kN(rx:RelV x v)(fx:jK x=true):∀{xs:List V}{us:List qAf},Vals xs us->xs.all jK=true->∀u∈us,SeqAt.EqAt A s u v (Ah x u)
 | _,_,.nil,_=>fun u hu=>by cases hu
 | y::xs,u::us,.cons r t,f=>fun u' hu=>by
  rw[qGk,qAn] at f;rcases List.mem_cons.mp hu with rfl | hu
  ·rw[wZ r f.1];exact CA r rx f.1 fx
  ·exact kN rx fx t f.2 u' hu
def Gu(x:V)(xs:List V):Bool:=xs.any fun y=>Af y x
def Kj(K:qAa)(neg:Bool):R2:=fun x y H Q=>∃p xs,y = .ref p/\(aX K H p xs\/dU K H p xs)/\jK x=true/\xs.all jK=true/\Q (.bl (if neg then !Gu x xs else Gu x xs)) H
theorem nQ:gR X (qCx .NotIn) (Kj X.K true):=by
 intro pins s σ H x y v u Q I rx ry h;obtain⟨p,xs,rfl,hq,fx,fs,q⟩:=h;cases ry;rcases hq with hq | hq
 ·obtain⟨its,r,pl,hz⟩:=I.list hq;refine SeqAt.notIn_listAt (Ah x) pl.isList (fun w hw=>kN rx fx r fs w (by simpa using hw)) ⟨.bl _,H,I,rfl,?_⟩;rw[show its.toArray.any (Ah x)=its.any (Ah x) by simp,nP r fs];exact q
 ·obtain⟨its,r,pl,hz⟩:=I.tuple hq;refine SeqAt.notIn_tupleAt (Ah x) pl (fun w hw=>kN rx fx r fs w (by simpa using hw)) ⟨.bl _,H,I,rfl,?_⟩;rw[show its.toArray.any (Ah x)=its.any (Ah x) by simp,nP r fs];exact q
theorem bE:eD X (.builtin "len") (fun xs H Q=>∃p ys,xs=[.ref p]/\(aX X.K H p ys\/dU X.K H p ys)/\Q (.int ys.length) H):=by
 intro pins s σ H xs us Q I r h;obtain⟨p,ys,rfl,hq,q⟩:=h;obtain⟨u,rfl,rx⟩:=vals1 r;cases rx;have hn:=nL;rcases hq with hq | hq
 ·obtain⟨its,r',pl,hz⟩:=I.list hq;have hlen:=r'.length;exact Calls.call_len_list pl.isList (by simp only[qAr] <;> lia) ⟨.int ys.length,H,I.tok _,⟨s.toks+1,by rw[qAr,hlen]⟩,q⟩
 ·obtain⟨its,r',pl,hz⟩:=I.tuple hq;have hlen:=r'.length;exact len_tuple pl (by simp only[qAr] <;> lia) ⟨.int ys.length,H,I.tok _,⟨s.toks+1,by rw[qAr,hlen]⟩,q⟩
theorem dJ:eD X (.type "list") (fun xs H Q=>∃p ys,xs=[.ref p]/\(aX X.K H p ys\/dU X.K H p ys)/\∀l,H l=none->Q (.ref l) (upd H l (.lst ys))):=by
 intro pins s σ H xs us Q I r h;obtain⟨p,ys,rfl,hq,q⟩:=h;obtain⟨u,rfl,rx⟩:=vals1 r;cases rx;have fin:∀(its:List qAf),Vals ys its->ys.length<=qAg->∀(h':Heap) (c':Nat),(∀b o',s.heap.get? b=some o'->h'.get? b=some o') ->
   h'.get? s.heap.objs.size=some { cls:=.type "list",dict:=none,data:=.seq its.toArray c',slots:=#[] }->EP X pins σ Q (.ref s.heap.objs.size) { s with heap:=h' }:=fun its r' hz h' c' kp e =>
  ⟨.ref s.heap.objs.size,_,I.laid (t':=s.toks) kp (qAl _) (show bZ X.prog X.w _ h' _ (.lst ys) from⟨hz,its,c',r',e⟩),rfl,q _ (I.bX.fresh (qAl _))⟩
 rcases hq with hq | hq
 ·obtain⟨its,r',pl,hz⟩:=I.list hq;have hlen:=r'.length;obtain⟨o,ho,hc,n,hd⟩:=pl.isList;exact call_list_seq p (.inl rfl) ho hc hd (fun h' c' kp e=>fin its r' hz h' c' kp e) (by simp only[qAr] <;> lia)
 ·obtain⟨its,r',pl,hz⟩:=I.tuple hq;have hlen:=r'.length;obtain⟨o,ho,hc,n,hd⟩:=pl;exact call_list_seq p (.inr rfl) ho hc hd (fun h' c' kp e=>fin its r' hz h' c' kp e) (by simp only[qAr] <;> lia)
theorem lS:eD X (.type "tuple") (fun xs H Q=>∃p ys,xs=[.ref p]/\((aX X.K H p ys/\∀l,H l=none->Q (.ref l) (upd H l (.tup ys)))\/(dU X.K H p ys/\Q (.ref p) H))):=by
 intro pins s σ H xs us Q I r h;obtain⟨p,ys,rfl,h⟩:=h;obtain⟨u,rfl,rx⟩:=vals1 r;cases rx;rcases h with ⟨hq,q⟩ | ⟨hq,q⟩
 ·obtain⟨its,r',pl,hz⟩:=I.list hq;have hlen:=r'.length;refine call_tuple_list pl.isList (fun h' kp=>?_) (by simp only[qAr] <;> lia);have I1:Inv X pins σ H { s with heap:=h' }:=I.kept (t':=s.toks) kp;have I2:Inv X pins σ (upd H h'.objs.size (.tup ys)) { s with heap:=h'.push { cls:=.type "tuple",data:=.seq its.toArray } } :=
   I1.laid (t':=s.toks) (fun b o e=>qAh _ e) (qAl _) (show bZ X.prog X.w _ _ _ (.tup ys) from⟨hz,its,r',IsTup.new _ _⟩)
  exact⟨.ref h'.objs.size,_,I2,rfl,q _ (I1.bX.fresh (qAl _))⟩
 ·obtain⟨its,r',pl,hz⟩:=I.tuple hq;exact call_tuple_same pl ⟨.ref p,H,I,rfl,q⟩
def JO(K:qAa)(T:String)(x:V)(H:Hp):Prop:=match x with
 | .str _=>T="str"
 | .int _=>T="int"
 | .ref p=>(T="list"/\∃xs,aX K H p xs)\/(T="tuple"/\∃o,K.lookup p=some o/\o.cls = .type "tuple"/\o.dict=none) \/
   (T="dict"/\((∃kvs,H p=some (.dK kvs))\/∃kvs,H p=some (.dT kvs)))\/(T="set"/\∃S n,H p=some (.set S n))
 | _=>False
theorem CB(I:Inv X pins σ H s)(r:RelV x v)(ty:JO X.K T x H):
  s.TypeIs v T/\∀a,v = .ref a->∃ob,s.heap.get? a=some ob/\ob.dict=none:=by
 cases x with
 | str z =>
  obtain⟨t,rfl⟩:=r;cases (show T="str" from ty);exact⟨typeIs_str s z t,fun _ e=>nomatch e⟩
 | int i =>
  obtain⟨t,rfl⟩:=r;cases (show T="int" from ty);exact⟨typeIs_int s i t,fun _ e=>nomatch e⟩
 | ref p =>
  cases r
  rcases ty with ⟨rfl,xs,hq⟩ | ⟨rfl,o,hk,hc,hd⟩ | ⟨rfl,hk⟩ | ⟨rfl,S,n,hk⟩
  ·obtain⟨its,_,pl,_⟩:=I.list hq;refine⟨pl.isList.typeIs,fun a e=>?_⟩;cases e;obtain⟨o,n,e,c,hd,_⟩:=pl;exact⟨o,e,hd⟩
  ·refine⟨⟨o,I.j9 p o hk,hc⟩,fun a e=>?_⟩;cases e;exact⟨o,I.j9 _ o hk,hd⟩
  ·have z:∃o,s.heap.get? p=some o/\o.ExactDict:=by
    rcases hk with ⟨kvs,hk⟩ | ⟨kvs,hk⟩
    ·obtain⟨_,_,_,_,o,_,_,e,ex,_⟩:=I.bX p _ hk;exact⟨o,e,ex⟩
    ·obtain⟨_,_,_,_,o,_,_,e,ex,_⟩:=I.bX p _ hk;exact⟨o,e,ex⟩
   obtain⟨o,e,ex⟩:=z;refine⟨⟨o,e,ex.1⟩,fun a e2=>?_⟩;cases e2;exact⟨o,e,ex.2.1⟩
  ·obtain⟨o,_,_,_,e,ex,_⟩:=I.bX p _ hk;refine⟨⟨o,e,ex.1⟩,fun a e2=>?_⟩;cases e2;exact⟨o,e,ex.2.1⟩
 | _=>exact False.elim ty
def Kk(K:qAa)(T:String)(r:V->List V->Hp->VK->Prop)(to:TE)(t:TA):TE:=fun σ H Q=>to σ H fun x H1=>JO K T x H1/\t σ H1 fun xs H2=>r x xs H2 Q
variable {o e:Expr}{es:List Expr}{to:TE}{t:TA}{name:Str}{apos cpos:Pos}{T id:String}{r:V->List V->Hp->VK->Prop}
theorem mH(pa:PlainAttrs T)(slot:Slot T name id)(hty:qJx (.builtin id)=pure (.type "method_descriptor"))(hm:Iv X id r)(ho:PE X o to)(ha:PA X (e::es) t)
  (hbase:attributeBase o name X.env (eval o X.env)=eval o X.env:=by rfl)
  (hfew:((qEm cpos (qBg (e::es) X.env)).all (fun x=>!x.1)&&(qJz cpos (qIa [] X.env)).all (fun x=>x.1.isSome)
   && decide ((e::es).length+([]:List Keyword).length+(if ([]:List Keyword).isEmpty then 0 else 1)<30))=true:=by rfl)
  (hline:(apos.endLine == cpos.line)=true:=by rfl) (hs:qBg (e::es) X.env=(false,eval e X.env)::qBg es X.env:=by rfl) (hplain:(qEm cpos (qBg es X.env)).any (·.1)=false:=by rfl) :
  PE X (.Call (.Attribute o name apos) (e::es) [] cpos) (Kk X.K T r to t):=by
 intro pins s σ H Q I h;refine wpAny_Call_method_late hbase hfew hline rfl (bY (ho pins s σ H _ I h) fun v s1 ⟨x,H1,I1,r1,ty,q1⟩=>?_);obtain⟨h1,h2⟩:=CB I1 r1 ty;refine⟨T,id,pa,slot,hty,h1,h2,?_⟩;have hA:=ha cpos pins s1 σ H1 _ I1 q1;rw[hs] at hA|-;refine Calls.callWith_builtin (by show(false||(qEm cpos (qBg es X.env)).any (·.1))=false;rw[hplain] <;> rfl) (qIh ?_)
 exact bY hA fun us s2 ⟨vs,H2,I2,r2,q2⟩=>hm pins s2 σ H2 x vs v us Q I2 r1 r2 q2
end
def JP(X:Cx)(id:String)(r:V->List V->Hp->VK->Prop):Prop :=
 ∀(pins:List (Addr×Obj)) (s:qAi) (σ:St) (H:Hp) (x:V) (xs:List V) (v:qAf) (us:List qAf) (Q:VK),Inv X pins σ H s->RelV x v->Vals xs us->r x xs H Q ->
  qBl (qBr X.prog X.w) X.A (call (.builtin id) (v::us)) (EP X pins σ Q) X.xe s
theorem Vals.one:∀{x:V}{us:List qAf},Vals [x] us->∃u,us=[u]/\RelV x u
 | _,_,.cons r .nil=>⟨_,rfl,r⟩
section
variable {X:Cx}{pins:List (Addr×Obj)}{σ:St}{H:Hp}{s:qAi}{l b:Addr}{xs ys zs:List V}
theorem Inv.IW{its its':List qAf}{n:Nat}{f:Array qAf->Array qAf}{t':Nat}(I:Inv X pins σ H s)(hH:H l=some (.lst xs))
  (e:s.heap.get? l=some { cls:=.type "list",data:=.seq its.toArray n }) (hf:f its.toArray=its'.toArray) (hv:Vals ys its') (hz:ys.length<=qAg) :
  Inv X pins σ (upd H l (.lst ys)) { s with heap:=s.heap.update l (Obj.mapSeq f),toks:=t' }:=by
 have q:=PySem.IsL.update e f;rw[hf] at q;refine I.write (x:=l) (e:=l) (by rw[hH];exact trivial) (.inl rfl) (fun b' u hb hu=>(qHv s.heap (Obj.mapSeq f) (Ne.symm hb)).trans hu) ⟨_,q⟩ ?_;exact⟨hz,its',_,hv,q⟩
theorem Inv.IX(I:Inv X pins σ H s)(hv:Vals ys its)(hz:ys.length<=qAg):
  Inv X pins σ (upd H s.heap.objs.size (.lst ys)) { s with heap:=s.heap.push { cls:=.type "list",data:=.seq its.toArray },toks:=t' } :=
 I.laid (fun _ _ q=>qAh _ q) (qAl _) ⟨hz,its,0,hv,qBb _ rfl⟩
theorem Inv.fresh(I:Inv X pins σ H s):H s.heap.objs.size=none:=I.bX.fresh (qAl _)
theorem Inv.IY(I:Inv X pins σ H s)(hH:H l=some (.lst xs)):xs.length<=qAg/\∃(its:List qAf) (n:Nat),Vals xs its/\xs.length=its.length/\s.heap.get? l=some { cls:=.type "list",data:=.seq its.toArray n }:=by
 obtain⟨z,its,n,r,e⟩:=I.bX l _ hH;exact⟨z,its,n,r,r.length,e⟩
end
section
variable {X:Cx}
def tO:V->List V->Hp->VK->Prop:=fun x vs H Q=>∃l xs y,x = .ref l/\vs=[y]/\H l=some (.lst xs)/\xs.length<qAg/\Q .non (upd H l (.lst (xs++[y])))
theorem mI:JP X "list.append" tO:=by
 intro pins s σ H x vs v us Q I rx rv h;obtain⟨l,xs,y,rfl,rfl,hH,hz,q⟩:=h;cases rx;obtain⟨u,rfl,ru⟩:=rv.one;obtain⟨z,its,n,r,hl,e⟩:=I.IY hH;refine call_meets F.slot_list_append ⟨_,e,rfl⟩ F.entry_list_append (F.args_list_append_2 _ _) (PySem.list_append l its.toArray n u (by rw[qAr];lia)) ⟨e,?_⟩;refine⟨.non,_,I.IW (its':=its++[u]) hH e (by simp) (r.append (.cons ru .nil)) ?_,rfl,q⟩;rw[qAp,qIg];lia
end
section
variable {prog:qBf}{w:qCc}{A:qCd}{E:qAf->qAi->Prop}{s:qAi}
set_option maxRecDepth 100000 in
end
section
variable {X:Cx}
end
end L2
namespace Att
open PySem PySem.W PySem.Calls PyProof.Rows
theorem jV:∀(ns:List Int) (vs:List qAf),WellAll P h vs (ns.map WData.int)->qGs vs ns:=by
 intro ns;induction ns with
 | nil =>
  intro vs w;rw[qGq] at w;cases w;exact .nil
 | cons n ns ih =>
  intro vs w;rw[qBq] at w;cases w with
  | cons a b =>
   cases a
   exact .cons _ _ (ih _ b)
theorem uU{l:OpenLaw}{n:Nat}(hn:l.most=some n){P:Params}{h:Heap}{args:List WData}{vals:List qAf}
  (hpre:l.row.toRowW.claim.pre args=true) (hwl:WellAll P h vals args) :
  ∃a vs ns,vals=[Value.ref a]/\args=[WData.list (ns.map WData.int)]/\h.get? a=some { cls:=.type "list",data:=.seq vs.toArray }/\qGs vs ns/\ns.length<=n:=by
 have hsh:WShape.hasAll [] args [.list .int]=true:=(pre_splitW hpre).1;have hc:l.pre.holds [] { args:=args }=true:=(pre_splitW hpre).2;obtain⟨d,r,rfl,h1,h2⟩:=hasAllW_cons hsh;obtain rfl:=hasAllW_nil h2;obtain⟨xs,rfl,h3⟩:=hasW_list h1;obtain⟨ns,rfl⟩:=items_int h3;have hlen:ns.length<=n:=by
  unfold OpenLaw.pre at hc;have h4:(WTm.not (.lt (.lit (.int (n:Int))) (.len (.arg 0)))).holds [] { args:=[.list (ns.map .int)] }=true:=by
   have h4:=(holds_andW hc).1;rw[hn] at h4;exact h4
  have h5:=condW_of h4 (w_not (w_lt w_lit (w_len_list (w_arg rfl))));rw[qAc] at h5;refine qJk fun q=>?_;have q':(n:Int)<((ns.length:Nat):Int):=by lia
  first
   | (rw[decide_eq_true q'] at h5;exact absurd h5 (by decide))
   | (simp at h5;lia)
 cases hwl with
 | cons w1 w2 =>
  cases w2
  cases w1 with
  | list ho hall=>exact⟨_,_,ns,rfl,rfl,ho,jV ns _ hall,hlen⟩
theorem uV(l:OpenLaw)(args:List WData):l.row.toRowW.claim.post args (.bool true) args=true :=
 postW_of (r:=l.row.toRowW) (X:=(true == true))
  (show WShape.has [] (.bool true) .bool=true by first | rfl | decide | simp[WShape.has,WShape.arms,WShape.armsAll])
  (show(WTm.eq .res (.lit (.bool true))).value [] { args:=args,res:=some (.bool true),after:=args }=some (.bool (true == true)) from w_eq_bool (w_res rfl) w_lit) rfl
theorem oW{l:OpenLaw}{n:Nat}{q:qBf}{loose:List Str}{XP:(Str->Option qAf)->Heap->Prop}{YP:qCc->Heap->Prop}{d:DefRec}
  (hn:l.most=some n) (hdf:d.params.defaults=[])
  (call:∀(w:qCc) (s₀ s₁:qAi) (mg mb:Str->Option qAf) (fa:Addr) (o:Obj) (pm cd doc:qAf) (a:Addr) (vs:List qAf) (ns:List Int),
   Ground q loose [] XP w s₀ mg mb s₁.heap->YP w s₁.heap ->
   s₁.heap.get? fa=some o->o.data = .func (docDef d.name d.params d.body d.scope pm cd doc)->s₁.heap.CodeRec cd d.name->mg d.name=some (.ref fa) ->
   s₁.heap.get? a=some { cls:=.type "list",data:=.seq vs.toArray }->qGs vs ns->ns.length<=n->s₁.gens=#[] ->
   qFy (qBr l.prog w) qIc (.call (.ref fa) ⟨[.ref a],[]⟩) (fun r s'=>r = .ok (.ret (.bool true))/\OldK s₁.heap s'.heap/\s'.os=s₁.os/\qGj s'.gens) s₁) :
  WalkO q loose XP YP l.row.toRowW d [] (fun f vs=>PySem.call f vs):=by
 intro w s₀ s₁ mg mb G Y fa o pm cd doc dV kV ho hd hcd hD hmg hg args vals as hpre hlay hrd hwl hlo;obtain rfl:dV = .none:=Dflts.none hD hdf;obtain rfl:kV = .none:=Dflts.noKw hD;obtain⟨a,vs,ns,rfl,rfl,hobj,hints,hlen⟩:=uU hn hpre hwl;refine enter_call (qEy (call w s₀ s₁ mg mb fa o pm cd doc a vs ns G Y ho (fd_plain hd) hcd hmg hobj hints hlen hg) fun r s' hq=>?_);obtain⟨rfl,h2,h3,h4⟩:=hq;exact⟨.inl ⟨.bool true,.bool true,[],rfl,fun _=>rfl,.bool true,uV l _,fun _=>⟨List.Pairwise.nil,fun _ hm=>(nomatch hm)⟩⟩,h2,h3,h4⟩
section
variable {prog:qBf}{w:qCc}{A:qCd}{E:qAf->qAi->Prop}{s:qAi}{K:Frag}
end
end Att
namespace L2
open PySem PySem.Spec PyProof.Rows
theorem mJ:∀{vs:List qAf}{ns:List Int},qGs vs ns->Vals (ns.map V.int) vs
 | _,_,.nil=>.nil
 | _,_,.cons n t h=>.cons ⟨t,rfl⟩ (mJ h)
def CC(H:Hp):Prop:=∀b,H b=none\/∃o xs,H b=some (.frz o (.lst xs))
theorem w4{P:qBf}{w:qCc}{K:qAa}{mg mb:Str->Option qAf}{CX:tJ}{k:Nat}{fa a:Addr}{fd:qAx}{x:Str}{sp:Sp}{s₁:qAi}{vs:List qAf}{ns:List Int}
  (KX:K.In s₁.heap) (hns:s₁.heap.Ns qAq mg) (hb:s₁.heap.Ns builtinsNs mb) (hbb:∀x:Str,x≠"__name__"->mb x=qBt x) (hlim:s₁.heap.NoLimit) (hg:s₁.gens=#[])
  (ha:s₁.heap.get? a=some { cls:=.type "list",data:=.seq vs.toArray }) (hi:qGs vs ns) (hl:ns.length<=qAg) (hr:cK k qIc)
  (F:∀base:Heap,K.In base->base.Ns qAq mg->eW P w K mg base CX k fa fd [x] sp) (hbind:∀(s:qAi) (u:qAf),qJa s fd ⟨[u],[]⟩ [(x,u)])
  (hsp:∀H:Hp,CC H->aX K H a (ns.map V.int)->sp [.ref a] H (fun v _=>v = .bl true) fun _ _ _=>False)
  (hCX:∀H e s',CX [] H s₁ (fun _ _ _=>False) e s'->False) :
  qFy (qBr P w) qIc (.call (.ref fa) ⟨[.ref a],[]⟩) (fun r s'=>r = .ok (.ret (.bool true))/\OldK s₁.heap s'.heap/\s'.os=s₁.os/\qGj s'.gens) s₁:=by
 have rv:=mJ hi;have lenV:=hi.length;have core:∀H:Hp,CC H->aX K H a (ns.map V.int)->gZ P w H s₁.heap->(∀b,H b≠none->b=a)->(H a≠none->K.lookup a=none) ->
   qFy (qBr P w) qIc (.call (.ref fa) ⟨[.ref a],[]⟩) (fun r s'=>r = .ok (.ret (.bool true))/\OldK s₁.heap s'.heap/\s'.os=s₁.os/\qGj s'.gens) s₁:=by
  intro H hO hS bX hA hK;have base_of:∀{b:Addr}{o:Obj},s₁.heap.get? b=some o->H b=none->(nI s₁.heap H).get? b=some o:=fun e n=>wG e n;have noA:∀{b:Addr}{o:Obj}{es:Array DictEntry}{ep:Nat},s₁.heap.get? b=some o->o.data = .dict es ep->H b=none:=fun {b o es ep} e d=>by
   cases q:H b with
   | none=>rfl
   | some u =>
    have e':b=a:=hA b (by rw[q];simp);subst e';rw[ha] at e;cases e;have d':Data.seq vs.toArray _=Data.dict es ep:=d;cases d'
  have nsK:∀{b:Addr}{m:Str->Option qAf},s₁.heap.Ns b m->(nI s₁.heap H).Ns b m:=fun {b m} ⟨o,es,ep,e,d,r⟩=>⟨o,es,ep,base_of e (noA e d),d,r⟩;have hKb:K.In (nI s₁.heap H):=fun b o e=>base_of (KX b o e) (by
   cases q:H b with
   | none=>rfl
   | some u =>
    have e':b=a:=hA b (by rw[q];simp);subst e';rw[hK (by rw[q];simp)] at e;cases e)
  have hM:Mod K mg (nI s₁.heap H):=⟨hKb,nsK hns,⟨mb,nsK hb,hbb⟩,let ⟨mc,h1,h2⟩:=hlim;⟨mc,nsK h1,h2⟩⟩;have e0:lP P w K mg (nI s₁.heap H) qIc [] s₁ H:=⟨rfl,hM,fun b o e=>zT e,qIl (uM _ _),trivial,fun b hb=>absurd (show b∈([]:List Addr) from hb) (by simp),bX,.of_eq hg⟩;refine qEy ((F _ hKb (nsK hns)).run qIc [] s₁ H ⟨[.ref a],[]⟩ [.ref a] [.ref a] _ _ hr e0 (hbind s₁ (.ref a)) (.cons rfl .nil) (hsp H hO hS)) fun r s' h=>?_;cases r with
  | error e=>exact(hCX H e s' h).elim
  | ok fl =>
   cases fl with
   | next=>exact False.elim h
   | brk=>exact False.elim h
   | cont=>exact False.elim h
   | ret u =>
    obtain⟨v,H',os,bare,un,hok',r',q⟩:=h;have q':v = .bl true:=q;subst q';obtain rfl:u=Value.bool true:=r';refine⟨rfl,OldK.of_keep fun b o e=>?_,os,bare⟩;cases q:H b with
    | none=>exact un.keep b o e q (by intro z;exact absurd (show b∈([]:List Addr) from z) (by simp)) (by simp)
    | some u =>
     rcases hO b with z | ⟨ob,xs,z⟩
     ·rw[q] at z;cases z
     ·have z2:=un.gE b ob _ z;obtain⟨e1,_⟩:=bX b _ z;obtain⟨e2,_⟩:=hok' b _ z2;rw[e] at e1;cases e1;exact e2
 cases hk:K.lookup a with
 | some o =>
  have e:=KX a o hk;rw[ha] at e;cases e;refine core (fun _=>none) (fun _=>.inl rfl) (.inr ⟨_,vs.toArray,_,hk,rfl,rfl,rfl,by rw[qAr,lenV];exact hl,by simpa using rv⟩) (fun b u z=>by have z':(none:Option HO)=some u:=z;cases z') (fun b z=>absurd rfl z) fun z=>absurd rfl z
 | none =>
  refine core (fun b=>if b=a then some (.frz { cls:=.type "list",data:=.seq vs.toArray } (.lst (ns.map V.int))) else none) (fun b=>?_) (.inl (.inr ⟨{ cls:=.type "list",data:=.seq vs.toArray },if_pos rfl⟩)) (fun b u z=>?_) (fun b z=>?_) fun _=>hk
  ·by_cases hb:b=a
   ·exact .inr ⟨_,_,if_pos hb⟩
   ·exact .inl (if_neg hb)
  ·by_cases hb:b=a
   ·have z':=(if_pos hb).symm.trans z;cases z';subst hb;exact⟨ha,by rw[qAc];exact hl,vs,_,rv,ha⟩
   ·have z':=(if_neg hb).symm.trans z;cases z'
  ·by_cases hb:b=a
   ·exact hb
   ·exact absurd (if_neg hb) z
theorem Ai{l:qIv}{n k:Nat}{q:qBf}{loose:List Str}{XP:(Str->Option qAf)->Heap->Prop}{YP:qCc->Heap->Prop}{d:DefRec}{K:Params->qAa}{CX:qCc->tJ}{sp:qCc->Sp}{x:Str}
  (hn:l.most=some n) (hn2:n<=qAg) (hdf:d.params.defaults=[]) (hr:cK k qIc)
  (hY:∀(w:qCc) (h:Heap),YP w h->(K w.params).In h)
  (F:∀(w:qCc) (mg:Str->Option qAf) (fa:Addr) (h:Heap),(K w.params).In h->h.Ns qAq mg->mg d.name=some (.ref fa) ->
   ∃fd:qAx,(∀(s:qAi) (u:qAf),qJa s fd ⟨[u],[]⟩ [(x,u)]) /\
    ∀base:Heap,(K w.params).In base->base.Ns qAq mg->eW l.prog w (K w.params) mg base (CX w) k fa fd [x] (sp w))
  (hsp:∀(w:qCc) (H:Hp) (a:Addr) (ns:List Int),ns.length<=n->CC H->aX (K w.params) H a (ns.map V.int)->sp w [.ref a] H (fun v _=>v = .bl true) fun _ _ _=>False)
  (hCX:∀(w:qCc) (H:Hp) (s:qAi) (e:qAf) (s':qAi),CX w [] H s (fun _ _ _=>False) e s'->False) :
  qJd q loose XP YP l.row.toRowW d [] (fun f vs=>PySem.call f vs):=by
 refine Att.oW hn hdf fun w s₀ s₁ mg mb fa o pm cd doc a vs ns G Y ho hd hcd hmg hobj hints hlen hg=>?_;have KX:=hY w _ Y;obtain⟨fd,hb,hF⟩:=F w mg fa _ KX G.T.g hmg;exact w4 KX G.T.g G.T.b G.T.builtins G.T.nolimit hg hobj hints (qCe hlen hn2) hr hF hb (fun H hO hS=>hsp w H a ns hlen hO hS) fun H e s'=>hCX w H s₁ e s'
def inClass(s:Stmt)(j:Nat):Stmt:=match s with
 | .ClassDef _ _ _ body _ _ _ _ _ _ _=>body.getD j (.Pass ⟨0,0,0,0⟩)
 | _=>.Pass ⟨0,0,0,0⟩
def bL(s:Stmt):Arguments:=match s with
 | .FunctionDef _ a _ _ _ _ _ _ _ _=>a
 | _=>{ posonlyargs:=[],args:=[],vararg:=none,kwonlyargs:=[],kw_defaults:=[],kwarg:=none,defaults:=[] }
def bG(s:Stmt):List Stmt:=match s with
 | .FunctionDef _ _ b _ _ _ _ _ _ _=>b
 | _=>[]
def aH(s:Stmt):qHe:=match s with
 | .FunctionDef _ _ _ _ _ _ sc _ _ _=>sc
 | _=>{ kind:=.function,names:=[],isGenerator:=false,isCoroutine:=false }
abbrev cE:tJ:=fun _ _ _ _ _ _=>False
abbrev E0:XK:=fun _ _ _=>False
theorem Gv:Passes cE X E0:=fun _ _ _ _ _ _ _ h=>h.elim
structure CD (K:qAa) (x qual:Str) (st:Stmt) (f:Addr) (fd:qAx):Prop where
 ex:∃(oc:qAf) (od:Option Addr) (kV doc pm:qAf) (an:Option Addr) (cdv ct:qAf) (osl:Array (Option qAf)),
  fd=qBk x qual (bL st) (bG st) (aH st) .none kV doc pm an cdv ct/\K.lookup f=some ⟨oc,od,.func fd,osl⟩/\qBh K cdv qual=true
 kp:qAs K (.ref f)=true
section
variable {P:qBf}{w:qCc}{K:qAa}{mg:Str->Option qAf}{base:Heap}
theorem CD.ok{x qual:Str}{st:Stmt}{f:Addr}{fd:qAx}{N ps:List Str}{k:Nat}{sp:Sp}(F:CD K x qual st f fd)(S:aL N ps (aH st))(len:∀vs H Q E,sp vs H Q E->vs.length=ps.length)
  (hbody:∀(cdv:qAf) (A:qCd) (outer:List Env) (s:qAi) (H:Hp) (vs:List V) (Q:VK) (E:XK),cK k (A.deeper (qGd qual (aH st) s.heap.objs.size f cdv))->sp vs H Q E ->
   ∃t,lN (gY cE P w K mg base N qual (aH st) f cdv A outer s H E).Fo (bG st) t/\t { nx:=fun _ H'=>Q .non H',rt:=Q } (start N vs) H):eW P w K mg base cE (k+1) f fd ps sp:=by
 obtain⟨oc,od,kV,doc,pm,an,cdv,ct,osl,rfl,lk,hcd⟩:=F.ex;refine Bo lk hcd S len fun A outer s H vs Q E hr hsp=>?_;obtain⟨t,h,q⟩:=hbody cdv A outer s H vs Q E hr hsp;exact⟨t,h.Fo,q⟩
theorem w8{x qual:Str}{st:Stmt}{f:Addr}{oc:qAf}{od an:Option Addr}{osl:Array (Option qAf)}{kV doc pm cdv ct:qAf}(l:K.lookup f=some ⟨oc,od,.func (qBk x qual (bL st) (bG st) (aH st) .none kV doc pm an cdv ct),osl⟩)
  (c:qBh K cdv qual=true) (k:qAs K (.ref f)=true):CD K x qual st f (qBk x qual (bL st) (bG st) (aH st) .none kV doc pm an cdv ct):=⟨⟨oc,od,kV,doc,pm,an,cdv,ct,osl,rfl,l,c⟩,k⟩
end
theorem Bp(hr:cK k A):A.units+1<qJh:=qCi (Nat.add_le_add_left (by decide:1<=64) _) hr.units
theorem aW(h:n<=1000):n<qAg:=qCi h (by decide)
section
variable {X:Cx}
theorem pv(i:Nat){x:Str}{pos:Pos}(hN:X.N[i]?=some x:=by rfl)(hv:ID X.env.scope x:=by first|exact Or.inl rfl | exact Or.inr cP | exact Or.inr (Or.inr rfl))(hd:(x == ("__debug__":Str))=false:=by decide)
  (hcd:(x == ("__classdict__":Str))=false:=by decide):PE X (.Name x pos) (jU i):=Ci hN hv hd hcd
end
theorem cT{A B:Prop}(h:B):if false=true then A else B:=by
 rw[if_neg qAj];exact h
theorem cZ{A B:Prop}(h:A):if true=true then A else B:=by
 rw[if_pos rfl];exact h
theorem bN{c A B:Prop} [Decidable c] (h1:c->A)(h2:¬c->B):if c then A else B:=by
 by_cases h:c
 ·rw[if_pos h];exact h1 h
 ·rw[if_neg h];exact h2 h
def aJ(H H':Hp):Prop:=∀b o,H b=some o->H' b=some o
theorem aJ.refl(H:Hp):aJ H H:=fun _ _ h=>h
theorem aJ.trans(a:aJ H H1)(b:aJ H1 H2):aJ H H2:=fun c o h=>b c o (a c o h)
theorem aJ.free(e:aJ H H'){l:Addr}(h:H' l=qJr):H l=qJr:=by
 cases q:H l with
 | none=>rfl
 | some o =>
  rw[e l o q] at h;cases h
theorem aJ.seq{K:qAa}{H H':Hp}{a:Addr}{xs:List V}(e:aJ H H')(h:aX K H a xs):aX K H' a xs:=by
 rcases h with (h | ⟨o,h⟩) | h
 ·exact .inl (.inl (e _ _ h))
 ·exact .inl (.inr ⟨o,e _ _ h⟩)
 ·exact .inr h
def mK(cells:List (Str×Addr)):List (Str×Addr)->Prop
 | []=>True
 | p::r=>cells.lookup p.1=some p.2/\mK cells r
theorem mK.of:∀{cl:List (Str×Addr)},mK cells cl->∀x c,cl.lookup x=some c->cells.lookup x=some c
 | [],_,x,c,h=>by cases h
 | (y,d)::r,hl,x,c,h=>by
  rw[List.lookup_cons] at h;cases hx:x == y with
  | true =>
   rw[hx] at h;have e:x=y:=by simpa using hx
   subst e;cases h;exact hl.1
  | false =>
   rw[hx] at h;exact mK.of hl.2 x c h
def nR(X:Cx)(NB:List Str)(sc:qHe)(cl:List (Str×Addr))(s₃:qAi)(H₃:Hp)(fp:List Addr):Cx :=
 { X with N:=NB,s₀:=s₃,H₀:=H₃,env:=compEnvC sc cl s₃.heap.objs.size X.env,outer:=X.stack,stack:=X.stack,ex:=fp,fn:=fun _=>false,pn:=[],xe:=fun _ _=>False }
structure Fq (X:Cx) (NB:List Str) (pick:List (Option Nat)) (sc:qHe) (cl:List (Str×Addr)):Prop where
 CF:closureFor sc X.env=pure cl
 kind:sc.kind = .function
 sC:∀y∈sc.names,y.2≠.cell
 names:∀y∈sc.names,y.2 = .local->sc.names.lookup y.1=some .local
 sub:mK X.env.cells cl
 has:∀x,((qJq sc X.env).names.lookup x=some .cell\/(qJq sc X.env).names.lookup x=some .free)->∃c,cl.lookup x=some c
 len:pick.length=NB.length
 got:∀(j i:Nat) (x:Str),pick[j]?=some (some i)->NB[j]?=some x->X.N[i]?=some x/\(X.env.kindOf x=some .cell\/X.env.kindOf x=some .free)/\(qJq sc X.env).names.lookup x=some .cell
def hasB(cl:List (Str×Addr))(L:List (Str×qHp)):Bool:=L.all fun p=>!(p.2 == .cell||p.2 == .free)||(cl.lookup p.1).isSome
theorem Aj(h:hasB cl L=true)(x:Str)(hx:L.lookup x=some .cell\/L.lookup x=some .free):∃c,cl.lookup x=some c:=by
 have get:∀k,L.lookup x=some k->(k == NameKind.cell||k == NameKind.free)=true->∃c,cl.lookup x=some c:=fun k hk hb=>by
  have z:=List.all_eq_true.mp h (x,k) (PySem.mem_of_lookup hk);dsimp only at z;rw[hb] at z;exact Option.isSome_iff_exists.mp z
 rcases hx with hx | hx
 ·exact get _ hx rfl
 ·exact get _ hx rfl
def sD(N:List Str)(k1 k2:List (Str×qHp)):List (Option Nat)->List Str->Bool
 | some i::p,x::r=>decide (N[i]?=some x)&&(decide (k1.lookup x=some .cell)||decide (k1.lookup x=some .free))&&decide (k2.lookup x=some .cell)&&sD N k1 k2 p r
 | none::p,_::r=>sD N k1 k2 p r
 | [],[]=>true
 | _,_=>false
theorem kO:∀{p:List (Option Nat)}{r:List Str},sD N k1 k2 p r=true->p.length=r.length
 | [],[],_=>rfl
 | [],_::_,h=>by cases h
 | none::_,[],h=>by cases h
 | some _::_,[],h=>by cases h
 | none::p,_::r,h=>congrArg Nat.succ (kO (p:=p) (r:=r) h)
 | some i::p,x::r,h=>by
  have h':(decide (N[i]?=some x)&&(decide (k1.lookup x=some .cell)||decide (k1.lookup x=some .free))&&decide (k2.lookup x=some .cell)&&sD N k1 k2 p r)=true:=h
  rw[qAn] at h';exact congrArg Nat.succ (kO h'.2)
theorem nT:∀{p:List (Option Nat)}{r:List Str},sD N k1 k2 p r=true->∀(j i:Nat) (x:Str),p[j]?=some (some i)->r[j]?=some x ->
  N[i]?=some x/\(k1.lookup x=some .cell\/k1.lookup x=some .free)/\k2.lookup x=some .cell
 | [],_,_,j,i,x,h1,_=>by simp at h1
 | none::_,[],h,_,_,_,_,_=>by cases h
 | some _::_,[],h,_,_,_,_,_=>by cases h
 | none::p,_::r,h,j,i,x,h1,h2=>by
  cases j with
  | zero=>simp at h1
  | succ j=>exact nT (p:=p) (r:=r) h j i x (by simpa using h1) (by simpa using h2)
 | some i'::p,x'::r,h,j,i,x,h1,h2=>by
  have h':(decide (N[i']?=some x')&&(decide (k1.lookup x'=some .cell)||decide (k1.lookup x'=some .free))&&decide (k2.lookup x'=some .cell)&&sD N k1 k2 p r)=true:=h
  rw[qAn,qAn,qAn,qDe] at h';obtain⟨⟨⟨a,b⟩,c⟩,d⟩:=h';cases j with
  | zero =>
   simp at h1 h2;subst h1 h2;exact⟨of_decide_eq_true a,b.elim (fun z=>.inl (of_decide_eq_true z)) fun z=>.inr (of_decide_eq_true z),of_decide_eq_true c⟩
  | succ j=>exact nT d j i x (by simpa using h1) (by simpa using h2)
theorem dC(CF:closureFor sc X.env=pure cl)(sub:mK X.env.cells cl)(kind:sc.kind = .function)(sC:∀y∈sc.names,y.2≠.cell)
  (names:∀y∈sc.names,y.2 = .local->sc.names.lookup y.1=some .local) (has:hasB cl (qJq sc X.env).names=true) (got:sD X.N X.env.scope.names (qJq sc X.env).names pick NB=true):Fq X NB pick sc cl :=
 ⟨CF,kind,sC,names,sub,Aj has,kO got,fun j i x h1 h2=>nT got j i x h1 h2⟩
def tP(pick:List (Option Nat))(σ:St):St:=pick.map fun o=>o.bind fun i=>(σ[i]?).join
section
variable {X:Cx}{NB:List Str}{pick:List (Option Nat)}{sc:qHe}{cl:List (Str×Addr)}{pins:List (Addr×Obj)}{σ:St}{H:Hp}{s:qAi}{fp:List Addr}
theorem CG(I:Inv X pins σ H s)(B:Fq X NB pick sc cl)(hf:∀b∈fp,gC X pins H b)(hex:∀b∈fp,∃o,s.heap.get? b=some o):(nR X NB sc cl s H fp).Ok:=by
 have nfs:∀b∈fp,b∉jT X.stack:=fun b hb z=>by
  rcases List.mem_cons.mp (I.kA b z) with e | e
  ·exact(hf b hb).2.1 e
  ·exact(hf b hb).2.2.1 e
 refine⟨I.ok.mod,B.kind,I.ok.glob,I.ok.blt,qAl _,fun x y c h1 h2=>?_,fun x hx=>B.has x hx,fun x c h _=>(qAj h).elim,I.ok.hd,I.ok.frames,.inl rfl,fun b hb=>⟨?_,fun x c h e=>?_⟩,I.bs,qCe I.ok.zV I.sz,fun b o e hb=>?_,nfs,I.stack,I.jZ⟩
 ·exact I.ok.inj x y c (B.sub.of x c h1) (B.sub.of y c h2)
 ·obtain⟨o,ho⟩:=hex b hb;exact qBc (qAt ho)
 ·exact(hf b hb).2.2.2.2.1 x c (B.sub.of x c h) e
 ·rcases(hf b hb).2.2.2.1 with z | z
  ·exact I.ok.wH b o e z
  ·exact absurd (qAv (qAt (I.ok.bs b o e).1) z) (qDw _)
theorem uW(I:Inv X pins σ H s)(B:Fq X NB pick sc cl)(hf:∀b∈fp,gC X pins H b)(hex:∀b∈fp,∃o,s.heap.get? b=some o)
  (hn:h'.Ns s.heap.objs.size (fun _=>none)) (hs:∀b o,s.heap.get? b=some o->h'.get? b=some o) (t:Nat):Inv (nR X NB sc cl s H fp) [] (tP pick σ) H { s with heap:=h',toks:=t }:=by
 refine⟨CG I B hf hex,rfl,I.bare,Un.kept hs,⟨_,hn,fun j x v h1 h2 h3=>?_⟩,fun x c e=>?_,I.bX.fresh (qAl _),fun x c e=>I.gA x c (B.sub.of x c e),fun p hp=>absurd (show p∈([]:List (Addr×Obj)) from hp) (by simp),I.bX.kept hs,?_⟩
 ·have h2':(pick.map fun o=>o.bind fun i=>(σ[i]?).join)[j]?=some (some v):=h2;rw[qBx] at h2';cases hp:pick[j]? with
  | none=>rw[hp] at h2';cases h2'
  | some o =>
   rw[hp] at h2';cases o with
   | none=>cases h2'
   | some i =>
    have h2'':(σ[i]?).join=some v:=Option.some.inj h2';obtain⟨g1,g2,g3⟩:=B.got j i x hp h1;have hσ:σ[i]?=some (some v):=by
     cases hq:σ[i]? with
     | none=>rw[hq] at h2'';cases h2''
     | some z=>rw[hq] at h2'';have e:z=some v:=h2'';rw[e]
    obtain⟨m,_,hl⟩:=I.loc;obtain⟨u,r,L⟩:=hl i x v g1 hσ (.inr g2);refine⟨u,r,?_⟩;rcases L with ⟨k,_⟩ | ⟨_,c,hc,⟨o,ho,hd⟩⟩
    ·rcases g2 with g2 | g2 <;> rw[k] at g2 <;> cases g2
    ·obtain⟨c',hc'⟩:=B.has x (.inl g3);have e:c'=c:=Option.some.inj ((B.sub.of x c' hc').symm.trans hc);subst e;exact .inr ⟨.inl g3,c',hc',o,hs _ _ ho,hd⟩
 ·obtain⟨v,o,ho,hd⟩:=I.cell x c (B.sub.of x c e);exact⟨v,o,hs _ _ ho,hd⟩
 ·show(tP pick σ).length=NB.length;unfold tP;rw[qAc];exact B.len
theorem Ak(I:Inv X pins σ H s)(hf:∀b∈fp,gC X pins H b)(J:Inv (nR X NB sc cl s H fp) [] σ' H' s'):Inv X pins σ H' s':=by
 refine I.call' (ch:=fp) J.os J.base J.bX J.bare fun b hb=>?_;obtain⟨_,f1,_,f3,f4,f5⟩:=hf b hb;exact⟨f3,f1,f4,f5⟩
end
def xA(wi:TI)(pick:List (Option Nat))(g:TG)(c:TT)(te:TE):St->Hp->(Addr->Hp->Prop)->Prop:=fun σ H Q =>
 wi σ H fun J H1=>∀D,H1 D=none->∃W:Nat->Nat->St->Hp->Prop,(∃m,W 0 m (tP pick σ) (upd H1 D (.lst [])))/\∀i m σ1 H2,W i m σ1 H2 ->
  (J.stop i H2/\Q D H2)\/(J.go i H2/\∃N:St->Hp->Prop,(∀σ' H',N σ' H'->∃m',m'<m/\W (i+1) m' σ' H') /\
   ∀x H',J.wK i H2 x H'->g x σ1 H' fun σ2 H3=>c σ2 H3 fun b H4=>if b=true then te σ2 H4 fun y H5=>∃xs,H5 D=some (.lst xs)/\xs.length<qAg/\N σ2 (upd H5 D (.lst (xs++[y]))) else N σ2 H4)
section
variable {prog:qBf}{w:qCc}{A:qCd}{R:qKq->qAi->Prop}{s:qAi}
theorem nU(W:Nat->qAi->Prop)
  (turn:∀n s,W n s->qBl (qBr prog w) A (qJy it) (fun r s₁=>match r with
   | none=>R (.ok .next) s₁
   | some v=>qBl (qBr prog w) A (qGh target it v) (fun _ s₀=>qBl (qBr prog w) A (qIr target env v) (fun _ s₂ =>
     qBl (qBr prog w) A (forIn ifs true fun c r=>if r=true then do let ok <- qKp c env (eval c env);pure (ForInStep.yield ok) else pure (ForInStep.yield r)) (fun ok s₃ =>
      if ok=true then qBl (qBr prog w) A (eval elt env) (fun x s₄ =>
       qBl (qBr prog w) A (call (.builtin "list.append") [acc,x]) (fun _ s₅=>∃m,m<n/\W m s₅) (fun _ _=>False) s₄) (fun _ _=>False) s₃
      else ∃m,m<n/\W m s₃) (fun _ _=>False) s₂) (fun _ _=>False) s₀) (fun _ _=>False) s₁) (fun _ _=>False) s)
  (n:Nat) (h:W n s) :
  qFy (qBr prog w) A (.compLoop (.ListComp elt [⟨target,iter,ifs,0⟩] scope pos) 0 it acc env) R s:=by
 refine codeAny_loop rfl W (fun n s hI=>?_) n h;show qBl _ A ((compTurn (.ListComp elt [⟨target,iter,ifs,0⟩] scope pos) 0 it acc env).onRaise (fun x=>do noteFrame x env;theTreesLotGoes x)) _ _ s;refine wpAny_noted (wpAny_noRaise ?_);rw[compTurn_list];refine qAe (wpAny_standAt (qAe (bY (turn n s hI) fun r s₁ h₁=>?_)));cases r with
 | none=>exact qAo h₁
 | some v =>
  refine qAe (bY h₁ fun _ s₀ h₀=>qAe (bY h₀ fun _ s₂ h₂=>qAe (bY h₂ fun ok s₃ h₃=>?_)));cases ok with
  | false=>exact qAo ⟨rfl,h₃⟩
  | true=>exact qAe (qAe (bY h₃ fun x s₄ h₄=>qAe (bY h₄ fun _ s₅ h₅=>qAo (qAo ⟨rfl,h₅⟩))))
end
def uX(X:Cx)(ifs:List Expr)(c:TT):Prop :=
 ∀(pins:List (Addr×Obj)) (s:qAi) (σ:St) (H:Hp) (Q:Bool->Hp->Prop),Inv X pins σ H s->c σ H Q ->
  qBl (qBr X.prog X.w) X.A (forIn ifs true fun c r=>if r=true then do let ok <- qKp c X.env (eval c X.env);pure (ForInStep.yield ok) else pure (ForInStep.yield r)) (TP X pins σ Q) X.xe s
def IZ:TT:=fun _ H Q=>Q true H
theorem dA:uX X [] IZ:=fun pins s σ H Q I h=>qAo ⟨H,I,h⟩
theorem nV(hc:PT X e c):uX X [e] c:=fun pins s σ H Q I h=>wpAny_tests_one (hc pins s σ H Q I h)
section
variable {X:Cx}{NB:List Str}{pick:List (Option Nat)}{sc:qHe}{cl:List (Str×Addr)}{elt target iter:Expr}{ifs:List Expr}{pos:Pos}{wi:TI}{g:TG}{c:TT}{te:TE}
theorem oX(B:Fq X NB pick sc cl)(hc:X.calm=true)(hi:PI X target iter wi)
  (hg:∀s₃ H₃ fp,PG (nR X NB sc cl s₃ H₃ fp) target g) (ht:∀s₃ H₃ fp,uX (nR X NB sc cl s₃ H₃ fp) ifs c) (he:∀s₃ H₃ fp,PE (nR X NB sc cl s₃ H₃ fp) elt te)
  (hs:∀x,qFr iter X.env x=pure x) (I:Inv X pins σ H s) (h:xA wi pick g c te σ H Q)
  (fin:∀(D C:Addr) (s':qAi) (H':Hp),Inv X pins σ H' s'->Q D H'->H' C=none->C≠X.env.locals->X.s₀.heap.objs.size<=C->(∀x a,X.env.cells.lookup x=some a->a≠C)->(∀p∈X.pn++pins,p.1≠C)->(∃m,s'.heap.Ns C m) ->
   compPost (qBr X.prog X.w) X.A X.xe use QV (.ref D) C (.ok .next) s') :
  qBl (qBr X.prog X.w) X.A (comprehension (.ListComp elt [⟨target,iter,ifs,0⟩] sc pos) sc X.env (firstIterPos [⟨target,iter,ifs,0⟩] pos) (newList []) false (eval iter X.env) use) QV X.xe s:=by
 refine wpAny_comprehension_free rfl hs B.CF B.kind B.names (bY (hi pins s σ H _ I h) fun v s1 h1=>bY h1 fun itv s2 h2=>?_);obtain⟨it,fp,tn,J,H2,e,I2,T,st2,f2,h2⟩:=h2;subst e;refine qEt ?_;have I3:Inv X pins σ (upd H2 s2.heap.objs.size (.lst [])) { s2 with heap:=s2.heap.push { cls:=.type "list",dict:=none,data:=.seq ([]:List qAf).toArray } } :=
  I2.laid (t':=s2.toks) (fun b u e=>qAh _ e) (qAl _) ⟨qBy _,[],0,.nil,qBb _ rfl⟩
 have hf:H2 s2.heap.objs.size=none:=I2.bX.fresh (qAl _);have lt:∀b∈fp,b≠s2.heap.objs.size:=fun b hb=>by
  obtain⟨o,ho,_⟩:=T.obj _ _ st2 b hb;exact qBc (qAt ho)
 have f3:∀b∈fp,gC X pins (upd H2 s2.heap.objs.size (.lst [])) b:=fun b hb=>⟨by rw[aM (lt b hb)];exact(f2 b hb).1,(f2 b hb).2⟩;generalize hs3:({ s2 with heap:=s2.heap.push { cls:=.type "list",dict:=none,data:=.seq ([]:List qAf).toArray } }:qAi)=s3 at I3|-;have kp3:∀b o,s2.heap.get? b=some o->s3.heap.get? b=some o:=fun b o e=>by
  rw[<- hs3];exact qAh _ e
 have hex:∀b∈fp,∃o,s3.heap.get? b=some o:=fun b hb=>by
  obtain⟨o,ho,_⟩:=T.obj _ _ st2 b hb;exact⟨o,kp3 b o ho⟩
 have st3:tn 0 s3.heap:=T.keep _ _ _ st2 fun b _ o e=>kp3 b o e;obtain⟨W,⟨m0,w0⟩,turn⟩:=h2 _ hf;refine wpAny_newFunctionEnv B.sC (by intro y hy;simp at hy) (fun h₁ hns₁ hsb₁=>?_) B.kind;have kp4:∀b o,s3.heap.get? b=some o->h₁.get? b=some o:=fun b o e=>(hsb₁.2 b (qBc (qAt e))).trans (qAh _ e);have J4:=uW I3 B f3 hex hns₁ kp4 (s3.toks+([]:List (Str×qAf)).length);have st4:tn 0 h₁:=T.keep _ _ _ st3 fun b _ o e=>kp4 b o e;have stat:∀{H':Hp},(∀b∈fp,H' b=none)->∀b∈fp,gC (nR X NB sc cl s3 (upd H2 s2.heap.objs.size (.lst [])) fp) [] H' b:=fun {H'} hn b hb=>by
  obtain⟨o,ho⟩:=hex b hb;refine⟨hn b hb,qBc (qAt ho),fun z=>?_,.inl hb,fun x a e=>(f2 b hb).2.2.2.2.1 x a (B.sub.of x a e),fun p hp=>absurd (show p∈([]:List (Addr×Obj)) from hp) (by simp)⟩;rcases List.mem_cons.mp (I2.kA b z) with e | e
  ·exact(f2 b hb).2.1 e
  ·exact(f2 b hb).2.2.1 e
 have loop:qFy (qBr X.prog X.w) X.A (.compLoop (.ListComp elt [⟨target,iter,ifs,0⟩] sc pos) 0 (.ref it) (.ref s2.heap.objs.size) (nR X NB sc cl s3 (upd H2 s2.heap.objs.size (.lst [])) fp).env)
   (compPost (qBr X.prog X.w) X.A X.xe use QV (.ref s2.heap.objs.size) s3.heap.objs.size) { s3 with heap:=h₁,toks:=s3.toks+([]:List (Str×qAf)).length }:=by
  refine nU (fun n s'=>∃i σ' H',Inv (nR X NB sc cl s3 (upd H2 s2.heap.objs.size (.lst [])) fp) [] σ' H' s'/\tn i s'.heap/\(∀b∈fp,H' b=none)/\W i n σ' H') ?_ m0 ⟨0,_,_,J4,st4,fun b hb=>(f3 b hb).1,w0⟩;rintro n s5 ⟨i,σ5,H5,I5,st5,fr5,w5⟩;rcases turn i n σ5 H5 w5 with ⟨stop,qn⟩ | ⟨go,N,hN,step⟩
  ·refine bY (T.done (nR X NB sc cl s3 (upd H2 s2.heap.objs.size (.lst [])) fp) rfl rfl rfl hc i [] s5 σ5 H5 _ I5 (stat fr5) st5 stop) fun r s6 ⟨hr,I6⟩=>?_;subst hr;refine fin s2.heap.objs.size s3.heap.objs.size s6 H5 (Ak I3 f3 I6) qn I6.free (qBc I3.lt).symm I3.sz (fun x a e=>?_) (fun p hp=>?_) ?_
   ·obtain⟨v,o,ho,_⟩:=I3.cell x a e;exact qBc (qAt ho)
   ·exact qBc (qAt (I3.pin p hp).1)
   ·obtain⟨m,hn,_⟩:=I6.loc;exact⟨m,hn⟩
  ·refine bY (T.item (nR X NB sc cl s3 (upd H2 s2.heap.objs.size (.lst [])) fp) rfl rfl rfl hc i [] s5 σ5 H5 _ I5 (stat fr5) st5 go) fun r s6 ⟨u,hr,h6⟩=>?_;subst hr;refine bY h6 fun _ s7 ⟨x,H7,I7,r7,y7,st7,fr7⟩=>?_;have I7':=I7.pinned (stat fr7) (T.obj _ _ st7);have again:∀{s9:qAi}{σ9:St}{H9:Hp},Inv (nR X NB sc cl s3 (upd H2 s2.heap.objs.size (.lst [])) fp) ([]++kH fp s7.heap) σ9 H9 s9->N σ9 H9 ->
     ∃m,m<n/\∃i σ' H',Inv (nR X NB sc cl s3 (upd H2 s2.heap.objs.size (.lst [])) fp) [] σ' H' s9/\tn i s9.heap/\(∀b∈fp,H' b=none)/\W i m σ' H':=fun {s9 σ9 H9} I9 n9=>by
    obtain⟨m',hm,w9⟩:=hN σ9 H9 n9;refine⟨m',hm,i+1,σ9,H9,I9.eC,T.keep _ _ _ st7 fun b hb o e=>(I9.pin (b,o) (qAm _ (qAm _ (fW hb e)))).1,fun b hb=>?_,w9⟩;obtain⟨o,e,d⟩:=T.obj _ _ st7 b hb;exact(I9.pin (b,o) (qAm _ (qAm _ (fW hb e)))).2.1
   refine bY (hg _ _ _ _ s7 σ5 H7 x u _ I7' r7 (step x H7 y7)) fun _ s8 ⟨σ8,H8,I8,q8⟩=>?_;refine bY (ht _ _ _ _ s8 σ8 H8 _ I8 q8) fun b s9 ⟨H9,I9,q9⟩=>?_;cases b with
   | false =>
    rw[if_neg qAj];exact again I9 (by rw[if_neg qAj] at q9;exact q9)
   | true =>
    rw[if_pos rfl] at q9|-;refine bY (he _ _ _ _ s9 σ8 H9 _ I9 q9) fun y s10 ⟨vy,H10,I10,r10,xs,hD,hl,q10⟩=>?_;refine bY (mI _ s10 σ8 H10 (.ref s2.heap.objs.size) [vy] (.ref s2.heap.objs.size) [y] (fun _ H'=>N σ8 H') I10 rfl (.cons r10 .nil) ⟨_,xs,vy,rfl,rfl,hD,hl,q10⟩) fun _ s11 ⟨_,H11,I11,_,q11⟩=>?_;exact again I11 q11
 refine codeAny_compStart_list loop (T.self _ 0 _ _ _ st4 loop)
theorem dB(B:Fq X NB pick sc cl)(hc:X.calm=true)(hi:PI X target iter wi)
  (hg:∀s₃ H₃ fp,PG (nR X NB sc cl s₃ H₃ fp) target g) (ht:∀s₃ H₃ fp,uX (nR X NB sc cl s₃ H₃ fp) ifs c) (he:∀s₃ H₃ fp,PE (nR X NB sc cl s₃ H₃ fp) elt te)
  (hs:∀x,qFr iter X.env x=pure x:=by intro _;rfl):PE X (.ListComp elt [⟨target,iter,ifs,0⟩] sc pos) (fun σ H Q=>xA wi pick g c te σ H fun D H'=>Q (.ref D) H'):=by
 intro pins s σ H Q I h;rw[eval_ListComp];refine oX (use:=none) (QV:=EP X pins σ Q) B hc hi hg ht he hs I h fun D C s' H' I' q c0 c1 c2 c3 c4 hn=>?_;obtain⟨m,hm⟩:=hn;exact⟨m,hm,fun hh hsb=>⟨.ref D,H',I'.turned (t':=s'.toks) (fun b o hb e=>(hsb.2 b hb).trans e) c0 c1 (.inr c2) c3 c4,rfl,q⟩⟩
theorem nW(hN:X.N.Nodup)(hx1:X.N[i]?=some x)(hx2:Loc X.env.scope x)
  (hsw:qHz (.ListComp elt [⟨target,iter,ifs,0⟩] sc pos) (some (.Name x pos')) spos.line X.env=pure true) (B:Fq X NB pick sc cl) (hc:X.calm=true) (hi:PI X target iter wi)
  (hg:∀s₃ H₃ fp,PG (nR X NB sc cl s₃ H₃ fp) target g) (ht:∀s₃ H₃ fp,uX (nR X NB sc cl s₃ H₃ fp) ifs c) (he:∀s₃ H₃ fp,PE (nR X NB sc cl s₃ H₃ fp) elt te)
  (hs:∀x,qFr iter X.env x=pure x:=by intro _;rfl) (hfn:X.fn x=true\/X.env.scope.names.lookup x=some .local:=by first|exact .inl rfl | exact .inr rfl | assumption) :
  PS X (.Assign [.Name x pos'] (.ListComp elt [⟨target,iter,ifs,0⟩] sc pos) spos) (fun D σ H=>xA wi pick g c te σ H fun l H'=>D.nx (σ.set i (some (.ref l))) H'):=by
 intro pins s σ H D I h;rw[exec_Assign_Name_used _ _ _ _ hsw];refine qAe (wpAny_standAt (qAe ?_));show qBl _ _ (do let _ <- comprehension (.ListComp elt [⟨target,iter,ifs,0⟩] sc pos) sc X.env _ (newList []) false (eval iter X.env) (some (qIr (.Name x pos') X.env))) _ _ s;refine qAe (bY (oX (use:=some (qIr (.Name x pos') X.env)) (QV:=fun _ s'=>SP X pins D .next s') B hc hi hg ht he hs I h fun l C s' H' I' q c0 c1 c2 c3 c4 hn=>?_) fun _ s' hq=>qAo (qAo hq));obtain⟨m,hm⟩:=hn;show qBl _ _ (qIr (.Name x pos') X.env (.ref l)) _ _ _;refine wpAny_assign_Name (lZ (v:=.ref l) I' hN hx1 hx2 rfl (fun s'' I'' ⟨a,hsb,ha⟩=>?_) hfn);have ne:C≠a:=by
  rcases ha with e | e
  ·rw[e];exact c1
  ·exact(c3 x a e).symm
 refine⟨m,hm.sameBut hsb ne,fun hh hsb2=>?_⟩;exact⟨_,H',I''.turned (t':=s''.toks) (fun b o hb e=>(hsb2.2 b hb).trans e) c0 c1 (.inr c2) c3 c4,q⟩
end
theorem bZ.there(x:bZ P w H h a o):∃ob,h.get? a=some ob:=by
 induction o with
 | lst xs=>obtain⟨_,_,_,_,e⟩:=x;exact⟨_,e⟩
 | tup xs=>obtain⟨_,_,_,ob,e,_⟩:=x;exact⟨ob,e⟩
 | dK kvs=>obtain⟨_,_,_,_,ob,_,_,e,_⟩:=x;exact⟨ob,e⟩
 | dT kvs=>obtain⟨_,_,_,_,ob,_,_,e,_⟩:=x;exact⟨ob,e⟩
 | set S n=>obtain⟨ob,_,_,_,e,_⟩:=x;exact⟨ob,e⟩
 | ins C dx fs=>obtain⟨_,_,_,e,_⟩:=x;exact⟨_,e⟩
 | own y=>exact x
 | xd fs=>obtain⟨_,⟨ob,_,_,e,_⟩,_⟩:=x;exact⟨ob,e⟩
 | rng lo hi=>obtain⟨_,_,_,e⟩:=x;exact⟨_,e⟩
 | frz ob u ih=>exact⟨ob,x.1⟩
 | tbl ps=>exact⟨_,x⟩
 | met f y=>exact⟨_,x⟩
 | ext φ=>exact x.2.1
structure jL (P:qBf) (w:qCc) (outer:List Env) (H:Hp) (s:qAi) (e C:Addr) (H':Hp) (s':qAi):Prop where
 os:s'.os=s.os
 bare:qGj s'.gens
 ex:∃(a0:qAf) (B:Heap),qFc B outer e (.ref C) a0 s'.heap/\gZ P w H' B/\(∀b o,s.heap.get? b=some o->b∉jT outer->∃o',B.get? b=some o') /\
  ∀b o,s.heap.get? b=some o->H b=none->b∉jT outer->B.get? b=some o
 slot:∀b o,s.heap.get? b=some o->H b=none->b∈jT outer->∃sl,s'.heap.get? b=some { o with slots:=sl }
 free:∀b o,s.heap.get? b=some o->H b=none->H' b=none
 eT:∀b xs,H b=some (.tup xs)->H' b=some (.tup xs)
 gE:∀b o u,H b=some (.frz o u)->H' b=some (.frz o u)
 gW:∀b ps,H b=some (.tbl ps)->∃more,H' b=some (.tbl (ps++more))
def gB(P:qBf)(w:qCc):tJ:=fun outer H s E ev s'=>∃(e C:Addr) (H':Hp),ev = .ref e/\jL P w outer H s e C H' s'/\E (.ref C) none H'
section
variable {X:Cx}{pins:List (Addr×Obj)}{σ:St}{H H':Hp}{s s':qAi}{e C:Addr}
theorem jL.un(F:jL X.prog X.w X.stack H s e C H' s')(I:Inv X pins σ H s):Un (jT X.stack) [] H H' s.heap s'.heap:=by
 obtain⟨a0,B,fl,bX,th,kp⟩:=F.ex;refine⟨fun b o q n h1 _=>fl.1 b o (kp b o q n h1),fun b o q n h1 _=>F.slot b o q n h1,fun b o q n _=>F.free b o q n,fun b o q _=>?_,F.eT,F.gE,F.gW⟩;by_cases hb:b∈jT X.stack
 ·obtain⟨sl,z⟩:=F.slot b o q (I.jZ b hb) hb;exact⟨_,z⟩
 ·obtain⟨o',z⟩:=th b o q hb;exact⟨o',fl.1 b o' z⟩
theorem jL.bX(F:jL P w outer H s e C H' s'):gZ P w H' s'.heap:=by
 obtain⟨a0,B,fl,bX,_⟩:=F.ex;exact bX.kept fl.1
theorem jL.inv(F:jL X.prog X.w X.stack H s e C H' s')(I:Inv X pins σ H s):Inv X pins σ H' s' :=
 I.call' (ch:=[]) F.os (F.un I) F.bX F.bare fun b hb=>absurd hb (by simp)
theorem jL.new(F:jL P w outer H s e C H' s'):s.heap.get? e=none:=by
 obtain⟨a0,B,⟨f1,f2,f3,oe,vs,T,oT,ts,he,hc,hd,_⟩,bX,th,_⟩:=F.ex;cases q:s.heap.get? e with
 | none=>rfl
 | some o =>
  by_cases hb:e∈jT outer
  ·obtain⟨_,o',ho',hnf⟩:=f3.mem hb;rw[he] at ho';cases ho';exact absurd hd (hnf vs)
  ·obtain⟨o',z⟩:=th e o q hb;rw[f2] at z;cases z
theorem jL.uY(F:jL P w outer H s e C H' s'):H' e=none:=by
 obtain⟨a0,B,⟨f1,f2,_⟩,bX,_⟩:=F.ex;cases q:H' e with
 | none=>rfl
 | some o =>
  obtain⟨ob,z⟩:=(bX e o q).there;rw[f2] at z;cases z
theorem jL.obj(F:jL P w outer H s e C H' s'):∃oe vs,s'.heap.get? e=some oe/\oe.cls = .ref C/\oe.data = .fields vs:=by
 obtain⟨a0,B,⟨f1,f2,f3,oe,vs,T,oT,ts,he,hc,hd,_⟩,_⟩:=F.ex;exact⟨oe,vs,he,hc.1,hd⟩
theorem jL.go(F:jL P w outer H s e C H' s')(k:∀a0 B,qFc B outer e (.ref C) a0 s'.heap->(∀h'',qFc B outer e (.ref C) a0 h''->s'.heap.UpToSlots h''->jL P w outer H s e C H' { s' with heap:=h'' })->Prop)
  (hk:∀a0 B fl g,k a0 B fl g):∃a0 B fl g,k a0 B fl g:=by
 obtain⟨a0,B,fl,bX,th,kp⟩:=F.ex;refine⟨a0,B,fl,fun h'' fl2 up=>⟨F.os,F.bare,⟨a0,B,fl2,bX,th,kp⟩,fun b o q n hb=>?_,F.free,F.eT,F.gE,F.gW⟩,hk _ _ _ _⟩;obtain⟨sl,z⟩:=F.slot b o q n hb;obtain⟨_,o',ho',hnf⟩:=fl.2.2.1.mem hb;rw[z] at ho';cases ho';obtain⟨sl',z'⟩:=up b _ z hnf;exact⟨sl',z'⟩
theorem jL.more(F:jL P w outer H s e C H' s'):∃a0 B,qFc B outer e (.ref C) a0 s'.heap /\
  ∀h'',qFc B outer e (.ref C) a0 h''->s'.heap.UpToSlots h''->jL P w outer H s e C H' { s' with heap:=h'' }:=by
 obtain⟨a0,B,fl,g,_⟩:=F.go (fun _ _ _ _=>True) fun _ _ _ _=>trivial;exact⟨a0,B,fl,g⟩
end
structure Own (X:Cx):Prop where
 st:X.stack=X.env::X.outer
 fr:X.env.frame=some X.env.locals
 ex:X.ex=[]
section
variable {X:Cx}{pins:List (Addr×Obj)}{σ:St}{H H':Hp}{s s':qAi}{e C:Addr}{Q:Unit->qAi->Prop}{E:qAf->qAi->Prop}{M:Model}
theorem Own.sub(O:Own X){b:Addr}(h:b∈X.fs):b∈jT X.stack:=by
 rw[O.st];unfold jT;rw[qCo,O.fr];exact qBn _ h
theorem Own.not(O:Own X)(I:Inv X pins σ H s){b:Addr}{o:Obj}(q:X.s₀.heap.get? b=some o)(h:b∉X.fs):b∉jT X.stack:=fun z=>by
 rcases List.mem_cons.mp (I.kA b z) with r | r
 ·exact absurd (qAv (qAt q) I.ok.above) (by rw[r];exact qDw _)
 ·exact h r
theorem Own.wB(O:Own X)(b:Addr):b∉X.ex:=by
 rw[O.ex];simp
theorem oY(O:Own X)(I:Inv X pins σ H s)(hx:qJo s.heap h' e (.ref C) vs)
  (k:∀h'',jL X.prog X.w X.outer X.H₀ X.s₀ e C H { s with heap:=h'' }->Q () { s with heap:=h'' }):qBl M X.A (leaving X.env (.ref e)) Q E { s with heap:=h' }:=by
 have hst:=I.stack;have hfr:=I.ok.frames;rw[O.st] at hst hfr;have hin:∀env∈(X.env::X.outer),∀b,env.frame=some b->b∈jT X.stack:=fun env he b hb=>by
  rw[O.st];exact List.mem_filterMap.mpr ⟨env,he,hb⟩
 have get:∀{b:Addr}{o:Obj},s.heap.get? b=some o->b∉jT X.stack->(qGo s.heap (jT X.stack)).get? b=some o:=fun q hb=>qHq _ q hb;refine wpAny_leaves_madeW (base:=qGo s.heap (jT X.stack)) (h:=s.heap) (s:={ s with heap:=h' }) hfr O.fr (fun b o q=>qId _ q) (PySem.W.funFrames_hide hst hin) hx fun h'' t x1 _ _ x4=>k h'' ⟨I.os,I.bare,⟨_,_,x1,fun a o q=>?_,fun b o q hb=>?_,fun b o q n hb=>?_⟩,fun b o q n hb=>?_,fun b o q n=>I.base.free b o q n (O.wB b),I.base.eT,I.base.gE,I.base.gW⟩
 ·refine(I.bX a o q).iU (fun b u hb z=>get z fun hm=>?_) (fun _ z=>z) fun _ _ z=>z;have hn:=I.jZ b hm;rcases hb with rfl | hb
  ·rw[hn] at q;cases q
  ·rw[hn] at hb;cases hb
 ·obtain⟨o',z⟩:=I.base.there b o q (O.wB b);exact⟨o',get z (O.not I q hb)⟩
 ·exact get (I.base.keep b o q n hb (O.wB b)) (O.not I q hb)
 ·obtain⟨sl,z⟩:=I.base.slot b o q n hb (O.wB b);obtain⟨_,o',ho',hnf⟩:=I.ok.gX.mem hb;rw[q] at ho';cases ho';obtain⟨sl',z'⟩:=x4 b _ (hx.keeps b _ z) hnf;exact⟨sl',z'⟩
theorem uZ(O:Own X)(I:Inv X pins σ H s)(F:jL X.prog X.w X.stack H s e C H' s')
  (k:∀h'',jL X.prog X.w X.outer X.H₀ X.s₀ e C H' { s' with heap:=h'' }->Q () { s' with heap:=h'' }):qBl M X.A (leaving X.env (.ref e)) Q E s':=by
 obtain⟨a0,B,fl,bX,th,kp⟩:=F.ex;have hfr:=I.ok.frames;rw[O.st] at fl hfr;refine wpAny_leaves_onW hfr O.fr fl fun h'' x1 x2=>k h'' ⟨F.os.trans I.os,F.bare,⟨a0,B,x1,bX,fun b o q hb=>?_,fun b o q n hb=>?_⟩,fun b o q n hb=>?_,fun b o q n=>?_,fun b xs q=>F.eT b xs (I.base.eT b xs q),fun b o u q=>F.gE b o u (I.base.gE b o u q),fun b ps q=>?_⟩
 ·obtain⟨o',z⟩:=I.base.there b o q (O.wB b);exact th b o' z (O.not I q hb)
 ·exact kp b o (I.base.keep b o q n hb (O.wB b)) (I.base.free b o q n (O.wB b)) (O.not I q hb)
 ·obtain⟨sl,z⟩:=I.base.slot b o q n hb (O.wB b);obtain⟨sl',z'⟩:=F.slot b _ z (I.base.free b o q n (O.wB b)) (O.sub hb);obtain⟨_,o',ho',hnf⟩:=I.ok.gX.mem hb;rw[q] at ho';cases ho';obtain⟨sl2,z2⟩:=x2 b _ z' hnf;exact⟨sl2,z2⟩
 ·obtain⟨o',z⟩:=I.base.there b o q (O.wB b);exact F.free b o' z (I.base.free b o q n (O.wB b))
 ·obtain⟨m1,e1⟩:=I.base.gW b ps q;obtain⟨m2,e2⟩:=F.gW b _ e1;exact⟨m1++m2,by rw[e2,qIq]⟩
end
abbrev XS:=qAf->St->Hp->Prop
structure Pass (X:Cx) (Ex:XS):Prop where
 on:∀(pins:List (Addr×Obj)) (σ:St) (H:Hp) (s:qAi) (e C:Addr) (H':Hp) (s':qAi),Inv X pins σ H s->jL X.prog X.w X.stack H s e C H' s'->Ex (.ref C) σ H'->X.xe (.ref e) s'
structure Gw (X:Cx) (Ex:XS):Prop extends Pass X Ex where
 nw:∀(pins:List (Addr×Obj)) (σ:St) (H:Hp) (s:qAi) (e C:Addr) (h':Heap) (vs:List qAf),Inv X pins σ H s->qJo s.heap h' e (.ref C) vs->Ex (.ref C) σ H->X.xe (.ref e) { s with heap:=h' }
 own:PassesOwn (qBr X.prog X.w) X.A X.env X.xe
theorem aV{P:qBf}{w:qCc}{K:qAa}{mg:Str->Option qAf}{base:Heap}{N:List Str}{qual:Str}{scope:qHe}{f:Addr}{cd:qAf}{A:qCd}{outer:List Env}{s:qAi}{H:Hp}{E:XK}:
  Gw (gY (gB P w) P w K mg base N qual scope f cd A outer s H E) (fun c _ H'=>E c none H') where
 on:=fun pins σ H1 s1 e C H' s' I F q=>uZ ⟨rfl,rfl,rfl⟩ I F fun h'' F'=>⟨e,C,H',rfl,F',q⟩
 nw:=fun pins σ H1 s1 e C h' vs I hx q=>oY ⟨rfl,rfl,rfl⟩ I hx fun h'' F'=>⟨e,C,H1,rfl,F',q⟩
 own:=PassesOwn.leaving
section
variable {P:qBf}{w:qCc}{K:qAa}{mg:Str->Option qAf}{base:Heap}
theorem CD.Al{x qual:Str}{st:Stmt}{f:Addr}{fd:qAx}{N ps:List Str}{k:Nat}{sp:Sp}(F:CD K x qual st f fd)(S:aL N ps (aH st))(len:∀vs H Q E,sp vs H Q E->vs.length=ps.length)
  (hbody:∀(cdv:qAf) (A:qCd) (outer:List Env) (s:qAi) (H:Hp) (vs:List V) (Q:VK) (E:XK),cK k (A.deeper (qGd qual (aH st) s.heap.objs.size f cdv))->sp vs H Q E ->
   ∃t,lN (gY (gB P w) P w K mg base N qual (aH st) f cdv A outer s H E) (bG st) t/\t { nx:=fun _ H'=>Q .non H',rt:=Q } (start N vs) H):eW P w K mg base (gB P w) (k+1) f fd ps sp:=by
 obtain⟨oc,od,kV,doc,pm,an,cdv,ct,osl,rfl,lk,hcd⟩:=F.ex;exact Bo lk hcd S len fun A outer s H vs Q E hr hsp=>hbody cdv A outer s H vs Q E hr hsp
end
def nX(sp:Sp)(dvs:List V)(Ex:XS)(t:TA):TE:=fun σ H Q=>t σ H fun vs H1=>sp (vs++dvs) H1 Q fun c _ H'=>Ex c σ H'
section
variable {X:Cx}{Ex:XS}{k:Nat}{f C:Addr}{fd:qAx}{ps:List Str}{sp:Sp}{dvs:List V}{ds:List qAf}{x m:Str}{p pos apos:Pos}{e o:Expr}{es:List Expr}{ta:TE}{t:TA}
theorem j5(R:Pass X Ex)(F:eW X.prog X.w X.K X.mg X.base (gB X.prog X.w) k f fd ps sp)(hr:cK k X.A)(hb:Binds X.K fd ps ds)(hd:Vals dvs ds)
  (I:Inv X pins σ H s) (r:Vals vs us) (h:sp (vs++dvs) H Q fun c _ H'=>Ex c σ H'):qBl (qBr X.prog X.w) X.A (call (.ref f) us) (EP X pins σ Q) X.xe s:=by
 have r2:Vals (vs++dvs) (us++ds):=r.append hd;have hl:(us++ds).length=ps.length:=by rw[<- r2.length];exact F.len _ _ _ _ h
 refine qGl (qEy (F.run X.A X.stack s H ⟨us,[]⟩ (us++ds) (vs++dvs) Q _ hr I.Aa (hb s us I.j9 hl) r2 h) fun r s' hq=>?_);cases r with
 | error ev =>
  obtain⟨e,C,H',rfl,Fl,q⟩:=hq;exact R.on pins σ H s e C H' s' I Fl q
 | ok fl =>
  cases fl with
  | ret u=>exact I.after hq
  | next=>exact False.elim hq
  | brk=>exact False.elim hq
  | cont=>exact False.elim hq
theorem xB(R:Pass X Ex)(F:eW X.prog X.w X.K X.mg X.base (gB X.prog X.w) k f fd ps sp)(hr:cK k X.A)(hg:Gl X x)(hm:X.mg x=some (.ref f))(hk:qAs X.K (.ref f)=true)(hb:Binds X.K fd ps ds)(hd:Vals dvs ds)
  (ha:PA X (e::es) t) (hdb:(x == ("__debug__":Str))=false:=by decide) (he:qBg (e::es) X.env=(false,eval e X.env)::qBg es X.env:=by rfl) (hpl:(qEm pos (qBg es X.env)).any (·.1)=false:=by rfl) :
  PE X (.Call (.Name x p) (e::es) [] pos) (nX sp dvs Ex t):=by
 intro pins s σ H Q I h;refine qDv (gQ I hg hm ?_ hdb);refine qEa (h₀:=X.base) I.ok.mod.Bh hk (bY (ha pos pins s σ H _ I h) fun us s1 ⟨vs,H1,I1,r,q⟩=>⟨I1.j9,?_⟩) he hpl;exact j5 R F hr hb hd I1 r q
end
abbrev CH:List qAf:=[.type "ValueError",.type "Exception",.type "BaseException",.type "object"]
structure fX (K:qAa) (C:Addr):Prop where
 cls:(qGe K C).isSome=true
 ty:qEk K (.ref C)=some (.type "type")
 ga:qAd K (.ref C) "__getattribute__"=some (some (.builtin "BaseException.__getattribute__"))
 gx:qAd K (.ref C) "__getattr__"=some none
 ca:qAd K (.ref C) "__class__"=some (some (.builtin "object.__class__"))
 cg:qDb K (.builtin "object.__class__") "__get__"=some (some (.builtin "getset_descriptor.__get__"))
 ct:qDz K (.builtin "object.__class__")=some true
 mo:qBa K C (.type "object")=some true
 mb:qBa K C (.type "BaseException")=some true
theorem Am{K:qAa}{h:Heap}{C:Addr}{bmB:List qAf}{newId:String}(X:K.In h)(q:qDo K C bmB newId=true):
  ∃bm N nm q bs hdct sn sub ab col dd k0 k1 k2 k3 k5 mN,h.get? C=some (excClassObj nm q C N bs bm hdct sn sub ab col dd k0 k1 k2 k3 k5 newId)/\h.Ns N mN/\mN "__init__"=none/\OwnTail h bmB bm:=by
 unfold qDo at q;split at q
 ·rename_i dd cd sl ho;split at q
  ·rename_i C' bm k0 k1 k2 k3 n k5 hm hs;rw[qAn,qAn,qAn,qAn,qAn] at q;obtain⟨⟨⟨⟨⟨q1,q2⟩,q3⟩,ht⟩,bX⟩,hni⟩:=q;obtain rfl:=beq_iff_eq.mp q1;obtain rfl:=beq_iff_eq.mp q2;have hdel:cd.hasDel=false:=by
    cases z:cd.hasDel with
    | false=>rfl
    | true=>rw[z] at q3;cases q3
   have hni':=beq_iff_eq.mp hni;obtain⟨nm,bs,mro,ns,qn,hd,sn,sub,ab,col,del⟩:=cd;dsimp only at hm hdel bX hni';subst hm hdel;obtain⟨l⟩:=sl;dsimp only at hs;subst hs;exact⟨bm,ns,nm,qn,bs,hd,sn,sub,ab,col,dd,k0,k1,k2,k3,k5,_,X _ _ ho,.of_isNs (PySem.W.isNs_of_in X bX),PySem.W.nsMap_none_of_in X bX hni',PySem.W.tail_of_in X ht⟩
  ·cases q
 ·cases q
def CI(C:Addr)(Ex:XS)(t:TA):TS:=fun _ σ H=>t σ H fun vs H1=>vs.length<=qAg/\Ex (.ref C) σ H1
section
variable {X:Cx}{Ex:XS}{x:Str}{C:Addr}{e₀:Expr}{rest:List Expr}{np cpos pos:Pos}{t:TA}
theorem dM(R:Gw X Ex)(hc:X.calm=true)(hg:Gl X x)(hm:X.mg x=some (.ref C))(q:qDo X.K C CH "ValueError.__new__"=true)(ha:PA X (e₀::rest) t)
  (he:qBg (e₀::rest) X.env=(false,eval e₀ X.env)::qBg rest X.env:=by rfl) (hplain:(qEm cpos (qBg rest X.env)).any (·.1)=false:=by rfl) (hd:(x == ("__debug__":Str))=false:=by decide) :
  PS X (.Raise (some (.Call (.Name x np) (e₀::rest) [] cpos)) none pos) (CI C Ex t):=by
 intro pins s σ H D I h;obtain⟨tl,N,nm,qn,bs,hdct,sn,sub,ab,col,dd,k0,k1,k2,k3,k5,mN,hC,hN,hni,T⟩:=Am I.mod.Bh q;have FB:=PySem.F.excBase_ValueError;refine wpAny_Raise_call_subT (C:=C) (nm:=nm) (q:=qn) (N:=N) (bs:=bs) (bm:=tl) (hdct:=hdct) (sn:=sn) (sub:=sub) (ab:=ab) (col:=col) (dd:=dd) (k0:=k0) (k1:=k1) (k2:=k2) (k3:=k3) (k5:=k5)
  FB (mN:=mN) (T.hasType FB.hasBase) (I.ok.hd hc) (by rw[he];show(false||(qEm cpos (qBg rest X.env)).any (·.1))=false;rw[hplain];rfl) hni (gQ I hg hm ⟨rfl,?_⟩ hd)
 have hs:=ha cpos pins s σ H _ I h;rw[he] at hs|-;refine qIh (bY hs fun us s2 ⟨vs,H2,I2,r,z,q2⟩=>?_);have kb:∀b o,X.base.get? b=some o->s2.heap.get? b=some o:=I2.bk;exact⟨rfl,by show us.length<=qAg;rw[<- r.length];exact z,kb _ _ hC,hN.keeps kb,T.keeps kb,fun h' e hx=>R.nw pins σ H2 s2 e C h' us I2 hx q2⟩
end
def kP(e C:Addr):HO:=.ext fun h=>∃oe,h.get? e=some oe/\oe.cls = .ref C
section
variable {X:Cx}{pins:List (Addr×Obj)}{σ:St}{H H':Hp}{s s':qAi}{e C:Addr}
theorem Inv.Bq(I:Inv X pins σ H s)(hn:H e=none)(h0:X.s₀.heap.get? e=none)(hL:e≠X.env.locals)(hc:∀x c,X.env.cells.lookup x=some c->c≠e)(hp:∀p∈X.pn++pins,p.1≠e)(hfs:e∉X.fs)
  (new:bZ X.prog X.w (upd H e o) s.heap e o):Inv X pins σ (upd H e o) s:=by
 have ne:∀b u,H b=some u->b≠e:=fun b u q=>a9 q hn;refine⟨I.ok,I.os,I.bare,⟨I.base.keep,I.base.slot,fun b ob q n hx=>?_,I.base.there,fun b xs q=>?_,fun b ob u q=>?_,fun b ps q=>?_⟩,I.loc,I.cell,?_,fun x c q=>?_,fun p q=>?_,fun b u q=>?_,I.len⟩
 ·rw[aM (fun z=>by rw[z,h0] at q;cases q)];exact I.base.free b ob q n hx
 ·have z:=I.base.eT b xs q;rw[aM (ne _ _ z)];exact z
 ·have z:=I.base.gE b ob u q;rw[aM (ne _ _ z)];exact z
 ·obtain⟨m,z⟩:=I.base.gW b ps q;exact⟨m,by rw[aM (ne _ _ z)];exact z⟩
 ·rw[aM hL.symm];exact I.free
 ·rw[aM (hc x c q)];exact I.gA x c q
 ·obtain⟨z1,z2,z3⟩:=I.pin p q;exact⟨z1,by rw[aM (hp p q)];exact z2,z3⟩
 ·by_cases hb:b=e
  ·subst hb;rw[aB] at q;cases q;exact new
  ·rw[aM hb] at q;exact(I.bX b u q).iU (fun c v _ z=>z) (fun c z=>by rw[aM (ne _ _ z)];exact z) fun c xs z=>by rw[aM (ne _ _ z)];exact z
end
def xC(X:Cx)(e:Addr):Cx:={ X with A:=X.A.mark (some (.ref e)),calm:=false,xe:=fun _ _=>False }
def xD(X:Cx)(pins:List (Addr×Obj))(Ex:XS):Cx :=
 { X with pn:=X.pn++pins,xe:=fun ev s'=>∃e C σ H s H',ev=Value.ref e/\Inv X pins σ H s/\jL X.prog X.w X.stack H s e C H' s'/\Ex (.ref C) σ H' }
section
variable {X:Cx}{pins:List (Addr×Obj)}{σ:St}{H H':Hp}{s s':qAi}{e C:Addr}{Ex:XS}
theorem Inv.JQ(I:Inv X pins σ H s)(e:Addr):Inv (xC X e) pins σ H s:=by
 obtain⟨⟨o1,o2,o3,o4,o5,o6,o7,o8,o9,o10,o11,o12,o13,o14,o15,o16,o17,o18⟩,i2,i3,i4,i5,i6,i7,i8,i9,i10,i11⟩:=I;exact⟨⟨o1,o2,o3,o4,o5,o6,o7,o8,fun z=>(qAj z).elim,o10,o11,o12,o13,o14,o15,o16,o17,o18⟩,i2,i3,i4,i5,i6,i7,i8,i9,i10,i11⟩
theorem Inv.tQ(hd:X.calm=true->X.A.handled=none)(I:Inv (xC X e) pins σ H s):Inv X pins σ H s:=by
 obtain⟨⟨o1,o2,o3,o4,o5,o6,o7,o8,o9,o10,o11,o12,o13,o14,o15,o16,o17,o18⟩,i2,i3,i4,i5,i6,i7,i8,i9,i10,i11⟩:=I;exact⟨⟨o1,o2,o3,o4,o5,o6,o7,o8,hd,o10,o11,o12,o13,o14,o15,o16,o17,o18⟩,i2,i3,i4,i5,i6,i7,i8,i9,i10,i11⟩
theorem Inv.Gx(I:Inv X pins σ H s)(Ex:XS):Inv (xD X pins Ex) [] σ H s:=by
 obtain⟨⟨o1,o2,o3,o4,o5,o6,o7,o8,o9,o10,o11,o12,o13,o14,o15,o16,o17,o18⟩,i2,i3,i4,i5,i6,i7,i8,i9,i10,i11⟩:=I;exact⟨⟨o1,o2,o3,o4,o5,o6,o7,o8,o9,o10,o11,o12,o13,o14,o15,o16,o17,o18⟩,i2,i3,i4,i5,i6,i7,i8,fun p hp=>i9 p (by simpa [xD] using hp),i10,i11⟩
theorem Inv.kR(I:Inv (xD X pins Ex) pins2 σ H s):Inv X pins σ H s:=by
 obtain⟨⟨o1,o2,o3,o4,o5,o6,o7,o8,o9,o10,o11,o12,o13,o14,o15,o16,o17,o18⟩,i2,i3,i4,i5,i6,i7,i8,i9,i10,i11⟩:=I;exact⟨⟨o1,o2,o3,o4,o5,o6,o7,o8,o9,o10,o11,o12,o13,o14,o15,o16,o17,o18⟩,i2,i3,i4,i5,i6,i7,i8,fun p hp=>i9 p (qDl _ hp),i10,i11⟩
theorem xF:Pass (xD X pins Ex) Ex where
 on:=fun pins2 σ H s e C H' s' I F q=>⟨e,C,σ,H,s,H',rfl,I.kR,F,q⟩
theorem name_goes(I:Inv X pins σ H s)(hN:X.N.Nodup)(hi:X.N[i]?=some x)(hk:X.env.scope.names.lookup x=some .local)
  (h:∀s',Inv X pins (σ.set i none) H s'->Q () s'):qBl M A (do bindName X.env x .none;unbindBehindTheSuite X.env x pos) Q E s:=by
 obtain⟨m,hn,hl⟩:=id I.loc;have hcls:(X.env.scope.kind == .class||(X.env.scope.kind == .module&&X.env.locals != X.env.globals))=false:=by rw[I.ok.kind];rfl
 refine wpAny_nameGoes_keeps hk hn hcls fun h' v hn' hs=>?_;have below:∀b o,X.s₀.heap.get? b=some o->b≠X.env.locals:=fun b o e=>qBc (qAv (qAt e) I.ok.above);refine h _ ⟨I.ok,I.os,I.bare,⟨fun b o e n hb hx=>?_,fun b o e n hb hx=>?_,I.base.free,fun b o e hx=>?_,I.base.eT,I.base.gE,I.base.gW⟩,⟨_,hn',fun j y v' e1 e2 e3=>?_⟩,fun y c e=>?_,I.free,I.gA,fun p hp=>?_,fun b ob e=>?_,by simpa using I.len⟩
 ·exact(hs.2 b (below b o e)).trans (I.base.keep b o e n hb hx)
 ·obtain⟨sl,e1⟩:=I.base.slot b o e n hb hx;exact⟨sl,(hs.2 b (below b o e)).trans e1⟩
 ·obtain⟨o',e1⟩:=I.base.there b o e hx;exact⟨o',(hs.2 b (below b o e)).trans e1⟩
 ·by_cases hj:j=i
  ·subst hj;rw[List.getElem?_set] at e2;split at e2
   ·split at e2 <;> cases e2
   ·rename_i z;exact absurd rfl z
  ·rw[qGb (Ne.symm hj)] at e2;obtain⟨u',r',q⟩:=hl j y v' e1 e2 e3;refine⟨u',r',?_⟩;have hy:y≠x:=fun e=>hj (kB hN e1 (e▸hi));rcases q with ⟨k,e⟩ | ⟨k,c,e,z⟩
   ·exact .inl ⟨k,by show(if y=x then v else m y)=some u';rw[if_neg hy];exact e⟩
   ·exact .inr ⟨k,c,e,z.sameBut hs (I.zX y c e)⟩
 ·obtain⟨w',z⟩:=I.cell y c e;exact⟨w',z.sameBut hs (I.zX y c e)⟩
 ·obtain⟨e,n,ne,nf,d⟩:=I.pin p hp;exact⟨(hs.2 p.1 ne).trans e,n,ne,nf,d⟩
 ·refine(I.bX b ob e).iU (fun c w' hc q=>(hs.2 c ?_).trans q) (fun _ q=>q) fun _ _ q=>q;rintro rfl;rcases hc with rfl | hc
  ·rw[I.free] at e;cases e
  ·rw[I.free] at hc;cases hc
end
theorem oZ{K:qAa}{M:Model}{A:qCd}{E:qAf->qAi->Prop}{s:qAi}{e C S:Addr}{oe:Obj}{Q:Bool->qAi->Prop}(X:K.In s.heap)(c:fX K S)(he:s.heap.get? e=some oe)(hc:oe.cls = .ref C)
  (hs:qBa K C (.ref S)=some true) (h:Q true s):qBl M A (excMatches (.ref e) (.ref S)) Q E s:=by
 have L0:qCk M s.heap (qJx (.ref S)) (.type "type"):=PySem.W.looks_typeIn X c.ty;have L1:qCk M s.heap (isSubtype (.type "type") (.type "tuple")) false:=PySem.W.Looks.of_pure tc_notTuple;have L2:qCk M s.heap (isInstance (.ref S) (.type "tuple")) false:=L0.andThen L1;have L3:qCk M s.heap (isSubtype (.ref S) (.type "BaseException")) true:=qEr X c.mb;have L4:qCk M s.heap (isSubtype (.ref C) (.ref S)) true:=qEr X hs;have L5:qCk M s.heap (qJx (.ref e)) (.ref C):=hc▸(PySem.W.Looks.ld he).andThen .now;have L6:qCk M s.heap (isType (.ref S)) true:=by
  have z:=c.cls;unfold qGe at z;split at z
  ·rename_i c' d' cd' sl' ho;intro A' Q' E' s' k q;unfold isType loadHead;exact qAe (wpAny_loadPart (k _ _ (X _ _ ho)) (qAo q))
  ·cases z
 obtain⟨hh,g,d,t,os⟩:=s;unfold excMatches;refine qAe (L2.at ?_);simp only[qEf,if_false];refine qAe (qAo ?_);simp only[List.forIn_cons,List.forIn_nil];refine qAe (qAe ?_);unfold isExcClass;refine qAe (qAe (L6.at ?_));simp only[if_true];refine L3.at ?_;simp only[qHn,qEf,if_false];refine qAo (qAo ?_);refine qAe (L5.at ?_);refine qAe (qAe (qAe (L4.at ?_)));simp only[if_true];exact qAo (qAo (qAo h))
section
open Builtin Builtin.ObjectAttr Builtin.Getset_descriptor
theorem xG{K:qAa}{M:Model}{h:Heap}{e C:Addr}{name:Str}{a g:qAf}(X:K.In h)(h1:qAd K (.ref C) name=some (some a))(h2:qDb K a "__get__"=some (some g))(h3:qDz K a=some true):
  qCk M h (find (.ref e) (.ref C) name) (.bind g a):=by
 have L1:=qEp (M:=M) X h1;have L2:qCk M h (getOf (some a)) (some g):=PySem.W.looks_specialIn X h2;have L3:=PySem.W.looks_takesIn (M:=M) X h3;exact L1.andThen (L2.andThen ((show qCk M h (dataDescriptor? (some a) (some g)) (some (g,a)) from L3.andThen .now).andThen (PySem.W.Looks.tag .now)))
theorem lT{prog:qBf}{w:qCc}{A:qCd}{s:qAi}{K:qAa}{x C:Addr}{R:qKq->qAi->Prop}{tp:qAf}(X:K.In s.heap)(I:∀M,qCk M s.heap (qJx (.ref x)) (.ref C))
  (hm:qBa K C (.type "object")=some true) (h:R (.ok (.ret (.ref C))) s):qFy (qBr prog w) A (.call (.builtin "getset_descriptor.__get__") ⟨[.builtin "object.__class__",.ref x,tp],[]⟩) R s:=by
 obtain⟨hh,g,dr,t,os⟩:=s;have L0:=I (qBr prog w);have L1:=qEr (M:=qBr prog w) X hm;refine codeAny_call_builtin PySem.W.KF.slot_gs.plain PySem.W.KF.entry_gs (PySem.W.KF.slot_gs.check _ _ _ _ _ _ _ _ PySem.W.KF.type_class (PySem.W.KF.args_gs _ _ _) ?_);unfold Builtin.«getset_descriptor.__get__» descrGet;rw[PySem.W.dga_obj];refine qAe (qAo ?_);unfold descrGetter descrCheckInstance descrNameAndClass isInstance;simp only[PySem.W.KF.owner_class];repeat lk
 refine⟨Code.quiet_builtin _ (by decide +kernel),qGi PySem.W.KF.entry_class ?_⟩;unfold Builtin.«object.__class__» shownTypeOf;repeat lk
 exact h
end
theorem nY{M:Model}{A:qCd}{E:qAf->qAi->Prop}{s:qAi}{K:qAa}{x C:Addr}{nameV:qAf}{Q:Unit->qAi->Prop}(X:K.In s.heap)(I:qCk M s.heap (qJx (.ref x)) (.ref C))
  (hm:qBa K C (.type "BaseException")=some true) (hq:Q () s):qBl M A (checkBuiltinCall "BaseException.__getattribute__" ⟨[.ref x,nameV],[]⟩) Q E s:=by
 have hk:builtinKind "BaseException.__getattribute__"=some .slot:=by decide +kernel
 have hsplit:splitId "BaseException.__getattribute__"=some ("BaseException","__getattribute__"):=by decide +kernel
 have L1:=qEr (M:=M) X hm;have L2:qCk M s.heap (isInstance (.ref x) (.type "BaseException")) true:=I.andThen L1;have ha:=F.args_bexc_ga (.ref x) nameV;obtain⟨hh,g,dr,t,os⟩:=s;simp only[checkBuiltinCall,hk,hsplit];refine qAe (L2.at ?_);repeat (first | assumption | wp_step)
section
open Builtin Builtin.ObjectAttr Builtin.Getset_descriptor
theorem CJ{prog:qBf}{w:qCc}{A:qCd}{E:qAf->qAi->Prop}{s:qAi}{K:qAa}{x C:Addr}{Q:Option qAf->qAi->Prop}(X:K.In s.heap)(c:fX K C)(I:∀M,qCk M s.heap (qJx (.ref x)) (.ref C))
  (h:Q (some (.ref C)) { s with toks:=s.toks+1 }):qBl (qBr prog w) A (getAttr? (.ref x) "__class__") Q E s:=by
 obtain⟨hh,g,d,t,os⟩:=s;have L0:=I (qBr prog w);have L1:=qEp (M:=qBr prog w) X c.ga;have L2:=qEp (M:=qBr prog w) X c.gx;have L3:=xG (M:=qBr prog w) (e:=x) X c.ca c.cg c.ct;have hx2:(Value.builtin "BaseException.__getattribute__" == Value.builtin "object.__getattribute__")=false:=by decide +kernel
 have f3:=F.excAttr_ValueError.ga.bind (.ref x);unfold getAttr? getAttrBy? getAttrBy;refine qAe (wpAny_mkText (qAe (wpAny_attempt (qCq (qAe (L0.at (qAe (L1.at ?_))))))));dsimp only;rw[if_neg (by rw[hx2,qBo];exact qAj)];unfold getAttrByItsOwn hookBefore;rw[if_pos (show onTheHeap (Value.ref C)=true from rfl)];refine qAe (L2.at ?_);refine qAe (wpAny_attempt (qCq ?_));unfold callGetattribute;rw[if_neg (by decide)];unfold boundAndCalled;refine qAe (qHw f3 ?_);refine qGl (codeAny_call_builtin F.excAttr_ValueError.ga.plain F.entry_bexc_ga (nY X L0 c.mb ?_));show qBl _ _ (Builtin.«object.__getattribute__» ⟨[.ref x,.str "__class__" t],[]⟩) _ _ _;unfold Builtin.«object.__getattribute__»;refine qAe (qHw (a:=(Value.ref x,[Value.str "__class__" t])) rfl ?_);refine qAe (qHw (a:=("__class__":Str)) rfl ?_);refine qAe (L0.at (qAe (L3.at ?_)));show qBl _ _ (qFx [Value.builtin "object.__class__"] (call (.builtin "getset_descriptor.__get__") [.builtin "object.__class__",.ref x,.ref C]) >>= ret) _ _ _;refine qAe (qCq (qGl (lT (s:=⟨hh,g,d,t+1,os⟩) X I c.mo ?_)));show qBl _ _ (ret (Value.ref C)) _ _ _;refine qAo ?_;show qBl _ _ (handedOut (Value.ref C)) _ _ _;exact PySem.W.handed_on rfl (qAo h)
end
inductive xI (K:qAa) (H:Hp):V->qAf->Prop where
 | of {v:V}{t:qAf} (h:gH K H v t):xI K H v t
 | exc {e C:Addr} (h:H e=some (kP e C)) (c:fX K C):xI K H (.ref e) (.ref C)
theorem xJ{K:qAa}{e C:Addr}(c:fX K C):qJi K (.ref e) (.ref C) (fun h=>∃oe,h.get? e=some oe/\oe.cls = .ref C) where
 ty:=fun M h _ ⟨oe,h1,h2⟩=>h2▸(PySem.W.Looks.ld h1).andThen .now
 it:=fun _ _ X _=>by
  have z:=c.cls;unfold qGe at z;split at z
  ·rename_i c' d' cd' sl' ho;intro A' Q' E' s' k q;unfold isType loadHead;exact qAe (wpAny_loadPart (k _ _ (X _ _ ho)) (qAo q))
  ·cases z
 ne:=fun h tp dd its n sl X htp=>by
  refine Bool.eq_false_iff.mpr fun q=>?_;have e:C=tp:=Value.ref.inj (beq_iff_eq.mp q);subst e;have z:=c.cls;unfold qGe at z;split at z
  ·rename_i c' d' cd' sl' ho;have z:=(X _ _ ho).symm.trans htp;cases z
  ·cases z
 ca:=fun X ⟨oe,h1,h2⟩ k=>CJ X c (fun M=>h2▸(PySem.W.Looks.ld h1).andThen .now) k
section
variable {X:Cx}{pins:List (Addr×Obj)}{σ:St}{H:Hp}{s:qAi}
theorem xI.JR{x:V}{u t:qAf}(I:Inv X pins σ H s)(rx:RelV x u)(ty:xI X.K H x t):∃φ:Heap->Prop,qJi X.K u t φ/\φ s.heap/\u≠.builtin "__main__.__loader__#opaque":=by
 cases ty with
 | exc h c =>
  rename_i e C;cases (show u=Value.ref e from rx);obtain⟨z,_⟩:=I.bX e _ h;exact⟨_,xJ c,z,fun z=>nomatch z⟩
 | of ty =>
  cases ty with
  | non=>cases (show u=Value.none from rx);exact⟨_,PySem.W.kitx_none,True.intro,fun z=>nomatch z⟩
  | bl y=>cases (show u=Value.bool y from rx);exact⟨_,PySem.W.kitx_bool,True.intro,fun z=>nomatch z⟩
  | int i=>obtain⟨t,q⟩:=(show ∃t,u=Value.int i t from rx);cases q;exact⟨_,PySem.W.kitx_int,True.intro,fun z=>nomatch z⟩
  | str y=>obtain⟨t,q⟩:=(show ∃t,u=Value.str y t from rx);cases q;exact⟨_,PySem.W.kitx_str,True.intro,fun z=>nomatch z⟩
  | flt y=>obtain⟨t,q⟩:=(show ∃t,u=Value.float y t from rx);cases q;exact⟨_,PySem.W.kitx_float,True.intro,fun z=>nomatch z⟩
  | @lst a xs ea =>
   cases (show u=Value.ref a from rx)
   obtain⟨_,_,n,_,h1⟩:=(show bZ X.prog X.w H s.heap a (.lst xs) from I.bX a _ ea);exact⟨_,qIi,⟨_,h1,rfl⟩,fun z=>nomatch z⟩
  | @frz a ob xs ea =>
   cases (show u=Value.ref a from rx)
   obtain⟨_,_,_,n,_,h1⟩:=(show bZ X.prog X.w H s.heap a (.frz ob (.lst xs)) from I.bX a _ ea);exact⟨_,qIi,⟨_,h1,rfl⟩,fun z=>nomatch z⟩
  | @tup a xs ea =>
   cases (show u=Value.ref a from rx)
   obtain⟨_,_,_,p⟩:=(show bZ X.prog X.w H s.heap a (.tup xs) from I.bX a _ ea);obtain⟨o,h1,h2,_⟩:=p;exact⟨_,PySem.W.kitx_tuple,⟨o,h1,h2⟩,fun z=>nomatch z⟩
  | @dK a kvs ea =>
   cases (show u=Value.ref a from rx)
   obtain⟨_,_,vs,_,p⟩:=(show bZ X.prog X.w H s.heap a (.dK kvs) from I.bX a _ ea);obtain⟨o,es,ep,h1,h2,_⟩:=p;exact⟨_,qIj,⟨o,h1,h2.1⟩,fun z=>nomatch z⟩
  | @dT a kvs ea =>
   cases (show u=Value.ref a from rx)
   obtain⟨_,_,xs,_,o,es,ep,h1,h2,_⟩:=(show bZ X.prog X.w H s.heap a (.dT kvs) from I.bX a _ ea);exact⟨_,qIj,⟨o,h1,h2.1⟩,fun z=>nomatch z⟩
  | @ins a C dx fs ea cl ha hn htk hm =>
   cases (show u=Value.ref a from rx)
   obtain⟨mA,O,_⟩:=j4 I.bX ea;obtain⟨od,J,_⟩:=O.look;exact⟨_,PySem.W.kitx_own (cl.get _) cl.hd ha hn htk hm,J,fun z=>nomatch z⟩
def pA:V->Option qAf
 | .ty n=>some (.type n)
 | .ref a=>some (.ref a)
 | _=>none
theorem pB(h:pA c=some cv)(r:RelV c u):u=cv:=by
 cases c <;> first | (cases h;exact r) | cases h
theorem mL:∀{cs:List V}{cvs us:List qAf},cs.map pA=cvs.map some->Vals cs us->us=cvs
 | [],[],_,_,.nil=>rfl
 | [],_::_,_,h,_=>by cases h
 | _::_,[],_,h,_=>by cases h
 | c::cs,cv::cvs,_,h,.cons r t=>by
  have h':=List.cons.inj (show pA c::cs.map pA=some cv::cvs.map some from h);rw[pB h'.1 r,mL h'.2 t]
theorem cB:eD X (.builtin "isinstance") (fun xs H Q=>∃v c t cv b,xs=[v,c]/\pA c=some cv/\xI X.K H v t/\qAb X.K t cv=some b/\Q (.bl b) H):=by
 intro pins s σ H xs us Q I r h;obtain⟨v,c,t,cv,b,rfl,hc,ty,hk,q⟩:=h;obtain⟨u,cu,rfl,ru,rc⟩:=vals2 r;obtain rfl:=pB hc rc;obtain⟨φ,Z,p,ne⟩:=ty.JR I ru;exact PySem.W.kia_one Z I.j9 p hk ne fun tk=>⟨.bl b,H,I.tok tk,rfl,q⟩
theorem u7:eD X (.builtin "isinstance") (fun xs H Q=>∃v tp cs t cvs b,xs=[v,.ref tp]/\H tp=some (.tup cs)/\cs.map pA=cvs.map some/\xI X.K H v t/\qDa X.K t cvs=some b/\Q (.bl b) H):=by
 intro pins s σ H xs us Q I r h;obtain⟨v,tp,cs,t,cvs,b,rfl,ht,hc,ty,hk,q⟩:=h;obtain⟨u,cu,rfl,ru,rc⟩:=vals2 r;cases (show cu=Value.ref tp from rc);obtain⟨φ,Z,p,ne⟩:=ty.JR I ru;obtain⟨_,its,rv,o,h1,h2,n,h3⟩:=(show bZ X.prog X.w H s.heap tp (.tup cs) from I.bX tp _ ht);obtain rfl:=mL hc rv;obtain⟨oc,od,odt,osl⟩:=o;dsimp only at h2 h3;subst h2 h3;exact PySem.W.kia_tup Z I.j9 p h1 hk ne fun tk=>⟨.bl b,H,I.tok tk,rfl,q⟩
end
section
variable {X:Cx}
theorem fU(K:qAa)(h:X.K=K:=by rfl):eD X (.builtin "isinstance") (fun xs H Q=>∃v c t cv b,xs=[v,c]/\pA c=some cv/\xI K H v t/\qAb K t cv=some b/\Q (.bl b) H):=h▸cB
theorem kS(K:qAa)(h:X.K=K:=by rfl):eD X (.builtin "isinstance") (fun xs H Q=>∃v tp cs t cvs b,xs=[v,.ref tp]/\H tp=some (.tup cs)/\cs.map pA=cvs.map some/\xI K H v t/\qDa K t cvs=some b/\Q (.bl b) H):=h▸u7
theorem xK(K:qAa)(h:X.K=K:=by rfl):Fp X (Gq K):=h▸aU
theorem An(K:qAa)(h:X.K=K:=by rfl):Fp X (Gr K):=h▸bU
end
def Ja(tb:XS->TS)(K:qAa)(S:Addr)(i:Nat)(th:TS):TS:=fun D σ H =>
 tb (fun c σ' H'=>∃C,c = .ref C/\qBa K C (.ref S)=some true/\∀e,H' e=none ->
  th { nx:=fun σ2 H2=>D.nx (σ2.set i none) H2,rt:=D.rt,bk:=fun σ2 H2=>D.bk (σ2.set i none) H2,ct:=fun σ2 H2=>D.ct (σ2.set i none) H2 } (σ'.set i (some (.ref e))) (upd H' e (kP e C))) D σ H
theorem CK(O:Own X)(hc:X.calm=true)(hb:∀pins Ex,lN (xD X pins Ex) body (tb Ex))(hg:Gl X x)(hm:X.mg x=some (.ref S))(cS:fX X.K S)
  (hN:X.N.Nodup) (hi:X.N[i]?=some n) (hl:X.env.scope.names.lookup n=some .local) (hh:∀e,lN (xC X e) (b₀::suite) th) (hd:(x == ("__debug__":Str))=false:=by decide) :
  PS X (.Try body [.ExceptHandler (some (.Name x np)) (some n) (b₀::suite) hpos] [] [] pos) (Ja tb X.K S i th):=by
 intro pins s σ H D I h;refine wpAny_Try_except (qEu (hb pins _ [] s σ H D (I.Gx _) h) (fun f s1 q=>?_) fun ev s1 q=>?_)
 ·cases f with
  | next=>obtain⟨σ1,H1,I1,q1⟩:=q;exact qFf ⟨σ1,H1,I1.kR,q1⟩
  | brk=>obtain⟨σ1,H1,I1,q1⟩:=q;exact⟨σ1,H1,I1.kR,q1⟩
  | cont=>obtain⟨σ1,H1,I1,q1⟩:=q;exact⟨σ1,H1,I1.kR,q1⟩
  | ret u=>obtain⟨v1,σ1,H1,I1,r1,q1⟩:=q;exact⟨v1,σ1,H1,I1.kR,r1,q1⟩
 ·obtain⟨e,C,σ1,H1,s2,H2,rfl,I2,F,C',ec,hs,k⟩:=q;cases ec;have hfr:=I2.ok.frames;obtain⟨a0,B,fl,go⟩:=F.more;have st:=O.st;rw[st] at hfr;have fl':qFc B (X.env::X.outer) e (.ref C) a0 s1.heap:=st▸fl;refine wpAny_looks_onW hfr O.fr fl' fun h1 held1 up1=>?_;refine wpAny_landsW held1 fun h2 fl2 up2=>?_;have F2:jL X.prog X.w X.stack H1 s2 e C H2 { s1 with heap:=h2 }:=go h2 (st.symm▸fl2) (up1.trans up2);have I3:=F2.inv I2;have I3h:=I3.JQ e;obtain⟨oe,vs,he,hec,_⟩:=F2.obj;refine wpAny_handleBy_cons (codeAny_handlers_test (gQ (X:=xC X e) I3h hg hm ?_ hd)) (by intro q;cases q);refine oZ (K:=X.K) I3.j9 cS he hec hs ?_;refine codeAny_handlers_suite_as (lands_againW fl2 fun h3 fl3 up3=>?_);have F3:jL X.prog X.w X.stack H1 s2 e C H2 { s1 with heap:=h3 }:=go h3 (st.symm▸fl3) ((up1.trans up2).trans up3);have I4:=F3.inv I2;have nw:=F3.new;have hn:=F3.uY;obtain⟨oe3,vs3,he3,hec3,_⟩:=F3.obj;have I5:Inv X pins σ1 (upd H2 e (kP e C)) { s1 with heap:=h3 }:=by
   refine I4.Bq hn ?_ ?_ (fun y c q z=>?_) (fun p hp z=>?_) (fun z=>?_) ⟨⟨oe3,he3,hec3⟩,⟨oe3,he3⟩,fun g1 g2 q1 q2=>?_⟩
   ·cases q:X.s₀.heap.get? e with
    | none=>rfl
    | some o =>
     obtain⟨o',z⟩:=I2.base.there e o q (O.wB e);rw[nw] at z;cases z
   ·rintro rfl;obtain⟨m,⟨o,_,_,ho,_⟩,_⟩:=I2.loc;rw[nw] at ho;cases ho
   ·subst z;obtain⟨v,o,ho,_⟩:=I2.cell y c q;rw[nw] at ho;cases ho
   ·have ho:=(I2.pin p hp).1;rw[z,nw] at ho;cases ho
   ·obtain⟨_,o,ho,_⟩:=I2.gX.mem z;rw[nw] at ho;cases ho
   ·obtain⟨o,z1,z2⟩:=q1;exact⟨o,q2 o z1,z2⟩
  refine kC (X:=xC X e) (v:=.ref e) (I5.JQ e) hN hi (.inl hl) rfl (fun s4 I6=>?_) (.inr hl);refine qEu (hh e pins s4 _ _ _ I6 (k e hn)) (fun f s5 q5=>?_) fun _ _ z=>z.elim;have hdl:X.calm=true->X.A.handled=none:=I2.ok.hd;cases f with
  | next=>obtain⟨σ5,H5,I7,q7⟩:=q5;exact name_goes (I7.tQ hdl) hN hi hl fun s6 I8=>⟨_,H5,I8,q7⟩
  | brk=>obtain⟨σ5,H5,I7,q7⟩:=q5;exact name_goes (I7.tQ hdl) hN hi hl fun s6 I8=>⟨_,H5,I8,q7⟩
  | cont=>obtain⟨σ5,H5,I7,q7⟩:=q5;exact name_goes (I7.tQ hdl) hN hi hl fun s6 I8=>⟨_,H5,I8,q7⟩
  | ret u=>obtain⟨v5,σ5,H5,I7,r7,q7⟩:=q5;exact name_goes (I7.tQ hdl) hN hi hl fun s6 I8=>⟨v5,_,H5,I8,r7,q7⟩
section
variable {X:Cx}
def xM(K:qAa):R2:=fun x y H Q=>∃l b xs zs,x = .ref l/\y = .ref b/\aX K H l xs/\aX K H b zs/\xs.length+zs.length<=qAg/\∀p,H p=none->Q (.ref p) (upd H p (.lst (xs++zs)))
theorem cC:gR X (qEw .Add) (xM X.K):=by
 intro pins s σ H x y v u Q I rx ry h;obtain⟨l,b,xs,zs,rfl,rfl,hH,hB,hz,q⟩:=h;cases rx;cases ry;obtain⟨its,r,pl,hl⟩:=I.list hH;obtain⟨its2,r2,pl2,hl2⟩:=I.list hB;obtain⟨⟨cls,dd,data,sl⟩,n,ho,hc,_,hd⟩:=pl;obtain⟨⟨cls2,dd2,data2,sl2⟩,n2,ho2,hc2,_,hd2⟩:=pl2;dsimp only at hc hd hc2 hd2;subst hc hd hc2 hd2;have ea:its.toArray++its2.toArray=(its++its2).toArray:=by simp
 refine concat_meets ⟨_,ho,rfl⟩ ⟨_,ho2,rfl⟩ noFill_list_add seq_list_add PySem.F.slot_list_add PySem.F.entry_list_add (PySem.F.args_list_add_2 _ _) (list_addW l b its.toArray its2.toArray n n2 dd dd2 sl sl2 (by rw[qAr,qAr,<- r.length,<- r2.length];exact hz)) ⟨ho,ho2,?_⟩;rw[ea];exact⟨.ref _,_,I.IX (t':=s.toks) (r.append r2) (by rw[qAp];exact hz),rfl,q _ I.fresh⟩
theorem Inv.big(I:Inv X pins σ H s):qEl<s.heap.objs.size:=by
 have h:qAq<s.heap.objs.size:=(I.mod.glob.keeps I.bk).lt;exact Nat.lt_trans (by decide) h
theorem xN(h:Heap)(hb:qEl<h.objs.size):bZ P w H (h.push { cls:=.type "dict",data:=.dict #[] }) h.objs.size (.dK []) :=
 ⟨qBy _,beq_eq_false_iff_ne.mpr (Ne.symm (qBc hb)),[],.nil,Heap.DictOf.new h⟩
def CL:TE:=fun _ H Q=>∀p,H p=none->Q (.ref p) (upd H p (.dK []))
theorem xO:PE X (.Dict [] [] pos) CL:=fun pins s σ H Q I h =>
 wpAny_Dict_empty ⟨.ref s.heap.objs.size,_,I.laid (a:=s.heap.objs.size) (o:=.dK []) (t':=s.toks) (fun _ _ q=>qAh _ q) (qAl _) (xN s.heap I.big),rfl,h _ (I.bX.fresh (qAl _))⟩
end
structure Tx (K:qAa) (mg:Str->Option qAf) (x:Str) (st:Stmt) (ps:List Str) (f:Addr) (fd:qAx):Prop where
 fn:CD K x x st f fd
 at_:mg x=some (.ref f)
 bd:∀us:List qAf,us.length=ps.length->qIz fd ⟨us,[]⟩=pure (ps.zip us)
theorem bQ{K:qAa}{mg:Str->Option qAf}{h:Heap}{x:Str}{st:Stmt}{ps:List Str}{f:Addr}{oc:qAf}{od an:Option Addr}{osl:Array (Option qAf)}{kV doc pm cdv ct:qAf}(X:K.In h)(G:h.Ns qAq mg)
  (a:qAu K qAq x=some (some (.ref f))) (l:K.lookup f=some ⟨oc,od,.func (qBk x x (bL st) (bG st) (aH st) .none kV doc pm an cdv ct),osl⟩)
  (c:qBh K cdv x=true) (k:qAs K (.ref f)=true)
  (hb:∀(kV doc pm:qAf) (an:Option Addr) (cdv ct:qAf) (us:List qAf),us.length=ps.length->qIz (qBk x x (bL st) (bG st) (aH st) .none kV doc pm an cdv ct) ⟨us,[]⟩=pure (ps.zip us)) :
  ∃f fd,Tx K mg x st ps f fd:=⟨f,_,w8 l c k,qBm X G a,hb kV doc pm an cdv ct⟩
structure Df (P:qBf) (w:qCc) (K:qAa) (mg:Str->Option qAf) (base:Heap) (CX:tJ) (k:Nat) (x:Str) (ps:List Str) (sp:Sp) (f:Addr) (fd:qAx):Prop where
 at_:mg x=some (.ref f)
 kp:qAs K (.ref f)=true
 ok:eW P w K mg base CX k f fd ps sp
 bd:Binds K fd ps []
section
variable {P:qBf}{w:qCc}{K:qAa}{mg:Str->Option qAf}{base:Heap}{x:Str}{st:Stmt}{ps N:List Str}{f:Addr}{fd:qAx}{k:Nat}{sp:Sp}
theorem Tx.iC(t:Tx K mg x st ps f fd)(S:aL N ps (aH st))(len:∀vs H Q E,sp vs H Q E->vs.length=ps.length)
  (hbody:∀(cdv:qAf) (A:qCd) (outer:List Env) (s:qAi) (H:Hp) (vs:List V) (Q:VK) (E:XK),cK k (A.deeper (qGd x (aH st) s.heap.objs.size f cdv))->sp vs H Q E ->
   ∃t,lN (gY cE P w K mg base N x (aH st) f cdv A outer s H E).Fo (bG st) t/\t { nx:=fun _ H'=>Q .non H',rt:=Q } (start N vs) H):Df P w K mg base cE (k+1) x ps sp f fd :=
 ⟨t.at_,t.fn.kp,t.fn.ok S len hbody,.all t.bd⟩
theorem Tx.Ao(t:Tx K mg x st ps f fd)(S:aL N ps (aH st))(len:∀vs H Q E,sp vs H Q E->vs.length=ps.length)
  (hbody:∀(cdv:qAf) (A:qCd) (outer:List Env) (s:qAi) (H:Hp) (vs:List V) (Q:VK) (E:XK),cK k (A.deeper (qGd x (aH st) s.heap.objs.size f cdv))->sp vs H Q E ->
   ∃t,lN (gY (gB P w) P w K mg base N x (aH st) f cdv A outer s H E) (bG st) t/\t { nx:=fun _ H'=>Q .non H',rt:=Q } (start N vs) H):Df P w K mg base (gB P w) (k+1) x ps sp f fd :=
 ⟨t.at_,t.fn.kp,t.fn.Al S len hbody,.all t.bd⟩
end
section
variable {X:Cx}{Ex:XS}{k j:Nat}{f:Addr}{fd:qAx}{ps:List Str}{sp:Sp}{x:Str}{p pos:Pos}{e:Expr}{es:List Expr}{t:TA}
theorem bF(D:Df X.prog X.w X.K X.mg X.base cE k x ps sp f fd)(hr:cK j X.A)(hj:k<=j)(hg:Gl X x)(ha:PA X (e::es) t)(hdb:(x == ("__debug__":Str))=false:=by decide)(he:qBg (e::es) X.env=(false,eval e X.env)::qBg es X.env:=by rfl)(hpl:(qEm pos (qBg es X.env)).any (·.1)=false:=by rfl):
  PE X (.Call (.Name x p) (e::es) [] pos) (wW sp [] E0 t):=Ab D.ok (hr.mono hj) hg D.at_ D.kp D.bd .nil Gv ha hdb he hpl
theorem dN(R:Pass X Ex)(D:Df X.prog X.w X.K X.mg X.base (gB X.prog X.w) k x ps sp f fd)(hr:cK j X.A)(hj:k<=j)(hg:Gl X x)(ha:PA X (e::es) t)(hdb:(x == ("__debug__":Str))=false:=by decide)(he:qBg (e::es) X.env=(false,eval e X.env)::qBg es X.env:=by rfl)(hpl:(qEm pos (qBg es X.env)).any (·.1)=false:=by rfl):
  PE X (.Call (.Name x p) (e::es) [] pos) (nX sp [] Ex t):=xB R D.ok (hr.mono hj) hg D.at_ D.kp D.bd .nil ha hdb he hpl
end
theorem fG:Pass X (fun _ _ _=>False):=⟨fun _ _ _ _ _ _ _ _ _ _ q=>q.elim⟩
theorem iD{n:Nat}{σ0:St}{H1:Hp}{i0:Nat}{c:TT}{te:TE}{Q:Addr->Hp->Prop}(f:Nat->Option V)(hn:n<=qAg)
  (step:∀(i:Nat) (H2:Hp) (k:VK) (k0:Hp->Prop),i<n->(∀y,f i=some y->k y H2)->(f i=none->k0 H2) ->
   c (σ0.set i0 (some (.int (0+(i:Int))))) H2 fun b H4=>if b=true then te (σ0.set i0 (some (.int (0+(i:Int))))) H4 k else k0 H4)
  (h:∀D,H1 D=none->Q D (upd H1 D (.lst ((qAy n).filterMap f)))) :
  ∀D,H1 D=none->∃W:Nat->Nat->St->Hp->Prop,(∃m,W 0 m σ0 (upd H1 D (.lst [])))/\∀i m σ1 H2,W i m σ1 H2 ->
   ((zP 0 n).stop i H2/\Q D H2)\/((zP 0 n).go i H2/\∃N:St->Hp->Prop,(∀σ' H',N σ' H'->∃m',m'<m/\W (i+1) m' σ' H') /\
    ∀x H',(zP 0 n).wK i H2 x H'->bH i0 x σ1 H' fun σ2 H3=>c σ2 H3 fun b H4=>if b=true then te σ2 H4 fun y H5=>∃xs,H5 D=some (.lst xs)/\xs.length<qAg/\N σ2 (upd H5 D (.lst (xs++[y]))) else N σ2 H4):=by
 intro D hD;refine⟨fun i m σ1 H2=>σ1.set i0 none=σ0.set i0 none/\H2=upd H1 D (.lst ((qAy i).filterMap f))/\i<=n/\m=n-i,⟨n,rfl,rfl,qBy _,rfl⟩,?_⟩;rintro i m σ1 H2 ⟨hσ,rfl,hi,rfl⟩;have hset:∀v:Option V,σ1.set i0 v=σ0.set i0 v:=fun v=>by
  have z:=congrArg (fun l=>qJs l i0 v) hσ;simpa using z
 rcases qCa i n with hlt | hge
 ·right
  refine⟨hlt,fun σ' H'=>σ'.set i0 none=σ0.set i0 none/\H'=upd H1 D (.lst ((qAy (i+1)).filterMap f)),fun σ' H' ⟨a,b⟩=>⟨n-(i+1),by lia,a,b,hlt,rfl⟩,?_⟩;rintro x H' ⟨rfl,rfl⟩;show c (σ1.set i0 (some (.int (0+(i:Int))))) _ _;rw[hset];refine step i _ _ _ hlt (fun y hy=>⟨_,aB,?_,?_,?_⟩) fun hno=>⟨?_,?_⟩
  ·refine qCi (qEb _ _) ?_;rw[qDn];lia
  ·simp
  ·rw[zS,qDm,qCp];simp[hy]
  ·simp
  ·rw[qDm,qCp];simp[hno]
 ·left
  obtain rfl:i=n:=qEh hi hge;exact⟨qAl _,h D hD⟩
theorem sF(h0:0<=i)(h1:i<xs.length):∃v,lQ xs i=some v/\v∈xs:=by
 have hn:i.toNat<xs.length:=by lia
 refine⟨xs[i.toNat],?_,qDs hn⟩;have z:=bA (xs:=xs) (j:=i.toNat) (qAk hn);rw[qCy h0] at z;exact z
theorem aJ.aI(h:H p=none):aJ H (upd H p o):=fun b u e=>by
 rw[aM (a9 e h)];exact e
theorem aJ.ty{K:qAa}{H H':Hp}{v:V}{t:qAf}(s:aJ H H')(h:gH K H v t):gH K H' v t:=by
 cases h with
 | non=>exact .non
 | bl x=>exact .bl x
 | int i=>exact .int i
 | str x=>exact .str x
 | flt x=>exact .flt x
 | lst e=>exact .lst (s _ _ e)
 | frz e=>exact .frz (s _ _ e)
 | tup e=>exact .tup (s _ _ e)
 | dK e=>exact .dK (s _ _ e)
 | dT e=>exact .dT (s _ _ e)
 | ins e cl ha hn htk hm=>exact .ins (s _ _ e) cl ha hn htk hm
theorem cJ:qBt "isinstance"=some (.builtin "isinstance"):=by decide +kernel
theorem xP:qBt "int"=some (.type "int"):=by decide +kernel
theorem tR:qBt "bool"=some (.type "bool"):=by decide +kernel
theorem fY:qBt "list"=some (.type "list"):=by decide +kernel
theorem pC:qBt "tuple"=some (.type "tuple"):=by decide +kernel
theorem dD:qBt "len"=some (.builtin "len"):=by decide +kernel
theorem xQ:qBt "abs"=some (.builtin "abs"):=by decide +kernel
theorem Gy:qBt "ValueError"=some (.type "ValueError"):=by decide +kernel
theorem sG{K:qAa}{C:Addr}(h2:qEk K (.ref C)=some (.type "type"))(h3:qAd K (.ref C) "__getattribute__"=some (some (.builtin "BaseException.__getattribute__")))(h4:qAd K (.ref C) "__getattr__"=some none)
  (h5:qAd K (.ref C) "__class__"=some (some (.builtin "object.__class__"))) (h6:qDb K (.builtin "object.__class__") "__get__"=some (some (.builtin "getset_descriptor.__get__"))) (h7:qDz K (.builtin "object.__class__")=some true)
  (h8:qBa K C (.type "object")=some true) (h9:qBa K C (.type "BaseException")=some true):fX K C:=by
 refine⟨?_,h2,h3,h4,h5,h6,h7,h8,h9⟩;unfold qBa at h8;obtain⟨cd,a,_⟩:=Option.bind_eq_some_iff.mp h8;rw[a];rfl
inductive Kd:String->Prop where
 | non:Kd "NoneType"
 | bl:Kd "bool"
 | int:Kd "int"
 | str:Kd "str"
 | tup:Kd "tuple"
 | lst:Kd "list"
 | dic:Kd "dict"
theorem Kd.Gz(K:qAa){T:String}(h:Kd T):qAb K (.type T) (.type "int")=some (T == "int" || T == "bool"):=by
 cases h <;> rfl
theorem Kd.Br(K:qAa){T:String}(h:Kd T):qAb K (.type T) (.type "bool")=some (T == "bool"):=by
 cases h <;> rfl
theorem Kd.GA(K:qAa){T:String}(h:Kd T):qAb K (.type T) (.type "list")=some (T == "list"):=by
 cases h <;> rfl
theorem Kd.CM(K:qAa){T:String}(h:Kd T):qAb K (.type T) (.type "tuple")=some (T == "tuple"):=by
 cases h <;> rfl
def eK:V->Bool
 | .int _=>true
 | _=>false
structure Pl (K:qAa) (H:Hp) (v:V):Prop where
 ex:∃T,gH K H v (.type T)/\Kd T
theorem Pl.int{K:qAa}{H:Hp}(i:Int):Pl K H (.int i):=⟨_,.int i,.int⟩
theorem Pl.eK{K:qAa}{H:Hp}{v:V}{T:String}(h:gH K H v (.type T)):eK v=(T == "int"):=by
 cases h <;> rfl
theorem Pl.same{K:qAa}{H H':Hp}{v:V}(h:Pl K H v)(s:aJ H H'):Pl K H' v:=let ⟨T,a,b⟩:=h.ex;⟨T,s.ty a,b⟩
def gD(lo hi:Int):V->Bool
 | .int i=>decide (lo<=i)&&decide (i<=hi)
 | _=>false
section
variable {X:Cx}{pins:List (Addr×Obj)}{σ:St}{H H':Hp}{s:qAi}{h':Heap}
theorem Inv.tS{t':Nat}{fp:List Addr}(I:Inv X pins σ H s)(k:∀b o,b∉fp->s.heap.get? b=some o->h'.get? b=some o)(hf:∀b∈fp,gC X pins H b):Inv X pins σ H { s with heap:=h',toks:=t' }:=by
 have nit:∀b u,H b=some u->b∉fp:=fun b u e z=>by rw[(hf b z).1] at e;cases e
 refine I.step (g':=s.gens) (d':=s.drawn) (ch:=fp) (fun b hb=>?_) (fun b o _ _ hc e _=>k b o hc e) (fun b o _ _ hc e _=>⟨o.slots,k b o hc e⟩) (fun _ _ _ _ n=>n)
  (fun b o hc e=>⟨o,k b o hc e⟩) (fun _ _ e=>e) (fun _ _ _ e=>e) (fun b ps e=>⟨#[],by rw[e];simp⟩) (fun m hm=>?_) (fun b u e=>?_) I.bare
 ·obtain⟨_,f1,_,f3,f4,f5⟩:=hf b hb;exact⟨f3,f1,f4,f5⟩
 ·obtain⟨o,es,ep,ho,r⟩:=hm;exact⟨o,es,ep,k _ o (fun z=>(hf _ z).2.1 rfl) ho,r⟩
 ·refine(I.bX b u e).iU (fun c v hc q=>k c v ?_ q) (fun _ q=>q) fun _ _ q=>q;rcases hc with z | z
  ·rw[z];exact nit b u e
  ·exact nit c _ z
end
@[reducible] def JS (A:qCd):qCd:={ A with handled:=none }
section
variable {X:Cx}{k j:Nat}{f:Addr}{fd:qAx}{ps:List Str}{sp:Sp}{x:Str}{p pos:Pos}{e:Expr}{es:List Expr}{t:TA}
end
end L2
namespace L2
open PySem PySem.Spec PyProof.Rows PySem.W PySem.Calls
end L2
namespace PySem.SeqAt
open AutoSeq1 (wpAny_loadPart')
open MeetsSeq MeetsSeq2 MeetsSeq3 SeqRoads2
theorem jW(f:Nat->β->Sem (ForInStep β))(I:Nat->β->qAi->Prop)(Q:β->qAi->Prop)(n:Nat)
  (turn:∀i b s,i<n->I i b s->qBl M A (f i b) (fun r s'=>match r with | .yield b'=>I (i+1) b' s' | .done b'=>Q b' s') E s)
  (fin:∀b s,I n b s->Q b s) (b:β) (h:I 0 b s):qBl M A (forIn [0:n] b f) Q E s:=by
 rw[Std.Legacy.Range.forIn_eq_forIn_range'];refine wpAny_forIn_list f (fun rest b s=>∃i,i<=n/\rest=List.range' i (n-i)/\I i b s) Q ?_ ?_ _ b ⟨0,qBy _,?_,h⟩
 ·rintro x rest b s ⟨i,hi,hr,hI⟩;have hlt:i<n:=by
   rcases qCa i n with z | z
   ·exact z
   ·rw[show n-i=0 by lia] at hr;cases hr
  obtain⟨k,hk⟩:∃k,n-i=k+1:=⟨n-i-1,by lia⟩;rw[hk,qJe] at hr;obtain⟨rfl,rfl⟩:=List.cons.inj hr;refine qEu (turn x b s hlt hI) (fun r s' hr=>?_) fun _ _ z=>z;cases r with
  | done b'=>exact hr
  | yield b'=>exact⟨x+1,hlt,by rw[show n-(x+1)=k by lia],hr⟩
 ·rintro b s ⟨i,hi,hr,hI⟩;have:i=n:=by
   rcases qCa i n with z | z
   ·obtain⟨k,hk⟩:∃k,n-i=k+1:=⟨n-i-1,by lia⟩;rw[hk,qJe] at hr;cases hr
   ·lia
  subst this;exact fin _ _ hI
 ·simp[Std.Legacy.Range.size]
theorem lU(l:Addr)(items:Array qAf)(n:Nat)(dd:Option Addr)(sl:Array (Option qAf))(x:qAf)(e:qAf->Bool)(j:Nat)(hj:j<items.size)
  (hit:e items[j]=true) (hno:∀m (hm:m<items.size),m<j->e items[m]=false) :
  Meets (Builtin.«tuple.index» ⟨[.ref l,x],[]⟩)
   (fun A R s=>s.heap.get? l=some { cls:=.type "tuple",dict:=dd,data:=.seq items n,slots:=sl }/\(∀y,y∈items->EqAt A.in1 s y x (e y))/\R (.ok (.ret (.int (j:Nat) s.toks))) { s with toks:=s.toks+1 }) :=
 .of_wp fun prog w A R s h=>by
  obtain⟨hp,g,d,tk,os⟩:=s;obtain⟨hl,he,h⟩:=h;wp_walk using wpAny_loadPart' hl,jW _ (fun i b s'=>b.1=none/\s'=⟨hp,g,d,tk,os⟩/\i<=j) _ _
  case turn =>
   rintro i b s' hi ⟨hb,rfl,hij⟩;have hi':i<items.size:=by lia
   rw[Array.getElem?_eq_getElem hi'];refine qAe (he _ (Array.getElem_mem hi') prog w _ _ ?_);rcases qCa i j with z | z
   ·rw[hno i hi' z];wp_walk;exact⟨rfl,rfl,z⟩
   ·obtain rfl:i=j:=by lia
    rw[hit];wp_walk;exact⟨_,rfl,h⟩
  case fin =>
   rintro⟨b1,b2⟩ s' ⟨hb,rfl,hij⟩;lia
  case h =>
   exact⟨rfl,rfl,qBy _⟩
end PySem.SeqAt
namespace L2
open PySem PySem.Spec PyProof.Rows
theorem aJ.Iw{K:qAa}{H H':Hp}{a:Addr}{xs:List V}(e:aJ H H')(h:dU K H a xs):dU K H' a xs:=by
 rcases h with (h | ⟨o,h⟩) | h
 ·exact .inl (.inl (e _ _ h))
 ·exact .inl (.inr ⟨o,e _ _ h⟩)
 ·exact .inr h
theorem aJ.upd_ne'(s:aJ H H')(h:H D=none):aJ H (upd H' D o):=fun b u e=>by
 rw[aM (a9 e h)];exact s b u e
theorem nZ(F:α->β):∀xs:List α,((qAy xs.length).filterMap fun i=>(xs[i]?).bind fun x=>some (F x))=xs.map F
 | []=>rfl
 | x::r=>by
  rw[qCf,qHr,qCo,qCs];show F x::_=F x::r.map F;rw[<- nZ F r];rfl
theorem fJ(f:α->Option β):∀xs:List α,((qAy xs.length).filterMap fun i=>(xs[i]?).bind f)=xs.filterMap f
 | []=>rfl
 | x::r=>by
  rw[qCf,qHr,qCo,qCs,qCo,<- fJ f r];rfl
theorem Pl.eL{K:qAa}{H:Hp}{x C dx C' dx':Addr}{fs fs':List (Str×V)}{v:V}(h:Pl K H v)(hx:H x=some (.ins C dx fs)):Pl K (upd H x (.ins C' dx' fs')) v:=by
 obtain⟨T,ty,kd⟩:=h.ex;refine⟨T,?_,kd⟩;have at_:∀b o,H b=some o->(∀C dx fs,o≠.ins C dx fs)->upd H x (.ins C' dx' fs') b=some o:=fun b o e n=>by
  rw[aM]
  ·exact e
  ·rintro rfl;rw[hx] at e;exact n _ _ _ (Option.some.inj e).symm
 cases ty with
 | non=>exact .non
 | bl x=>exact .bl x
 | int i=>exact .int i
 | str x=>exact .str x
 | flt x=>exact .flt x
 | lst e=>exact .lst (at_ _ _ e (by intro _ _ _ z;cases z))
 | frz e=>exact .frz (at_ _ _ e (by intro _ _ _ z;cases z))
 | tup e=>exact .tup (at_ _ _ e (by intro _ _ _ z;cases z))
 | dK e=>exact .dK (at_ _ _ e (by intro _ _ _ z;cases z))
 | dT e=>exact .dT (at_ _ _ e (by intro _ _ _ z;cases z))
def SameBut(x:Addr)(H H':Hp):Prop:=∀b o,b≠x->H b=some o->H' b=some o
theorem aJ.but(s:aJ H H')(x:Addr):SameBut x H H':=fun b o _ e=>s b o e
theorem SameBut.then(a:SameBut x H H1)(b:aJ H1 H2):SameBut x H H2:=fun c o n e=>b c o (a c o n e)
theorem SameBut.gJ(a:SameBut x H H1)(u:HO):SameBut x H (upd H1 x u):=fun c o n e=>by rw[aM n];exact a c o n e
theorem SameBut.made(hx:H x=none)(hd:H dx=none)(ne:dx≠x)(s:SameBut x (upd (upd H dx (.own x)) x (.ins C dx [])) H'):aJ H H':=fun b o e=>by
 have n1:b≠x:=a9 e hx;have n2:b≠dx:=a9 e hd;exact s b o n1 (by rw[aM n1,aM n2];exact e)
theorem eW.up{P:qBf}{w:qCc}{K:qAa}{mg:Str->Option qAf}{base:Heap}{k:Nat}{f:Addr}{fd:qAx}{ps:List Str}{sp:Sp}(F:eW P w K mg base cE k f fd ps sp):eW P w K mg base (gB P w) k f fd ps sp :=
 ⟨F.len,fun A outer s H args us vs Q E hr he hb hv hs=>qEy (F.run A outer s H args us vs Q E hr he hb hv hs) fun r s' h=>by
  cases r with
  | error e=>exact False.elim h
  | ok fl=>cases fl <;> exact h⟩
structure Mx (K:qAa) (x qual:Str) (st:Stmt) (ps:List Str) (f:Addr) (fd:qAx):Prop where
 fn:CD K x qual st f fd
 bd:∀us:List qAf,us.length=ps.length->qIz fd ⟨us,[]⟩=pure (ps.zip us)
theorem eG{K:qAa}{x qual:Str}{st:Stmt}{ps:List Str}{f:Addr}{oc:qAf}{od an:Option Addr}{osl:Array (Option qAf)}{kV doc pm cdv ct:qAf}
  (l:K.lookup f=some ⟨oc,od,.func (qBk x qual (bL st) (bG st) (aH st) .none kV doc pm an cdv ct),osl⟩)
  (c:qBh K cdv qual=true) (k:qAs K (.ref f)=true)
  (hb:∀(kV doc pm:qAf) (an:Option Addr) (cdv ct:qAf) (us:List qAf),us.length=ps.length->qIz (qBk x qual (bL st) (bG st) (aH st) .none kV doc pm an cdv ct) ⟨us,[]⟩=pure (ps.zip us)) :
  ∃fd,Mx K x qual st ps f fd:=⟨_,w8 l c k,hb kV doc pm an cdv ct⟩
structure Md (P:qBf) (w:qCc) (K:qAa) (mg:Str->Option qAf) (base:Heap) (k:Nat) (ps:List Str) (sp:Sp) (f:Addr):Prop where
 ex:∃fd,eW P w K mg base (gB P w) k f fd ps sp/\Binds K fd ps []
section
variable {P:qBf}{w:qCc}{K:qAa}{mg:Str->Option qAf}{base:Heap}{x qual:Str}{st:Stmt}{ps N:List Str}{f:Addr}{fd:qAx}{k j:Nat}{sp sp':Sp}
theorem Mx.Ap(t:Mx K x qual st ps f fd)(S:aL N ps (aH st))(len:∀vs H Q E,sp vs H Q E->vs.length=ps.length)
  (hbody:∀(cdv:qAf) (A:qCd) (outer:List Env) (s:qAi) (H:Hp) (vs:List V) (Q:VK) (E:XK),cK k (A.deeper (qGd qual (aH st) s.heap.objs.size f cdv))->sp vs H Q E ->
   ∃t,lN (gY cE P w K mg base N qual (aH st) f cdv A outer s H E).Fo (bG st) t/\t { nx:=fun _ H'=>Q .non H',rt:=Q } (start N vs) H):Md P w K mg base (k+1) ps sp f :=
 ⟨fd,(t.fn.ok S len hbody).up,.all t.bd⟩
theorem Mx.Bs(t:Mx K x qual st ps f fd)(S:aL N ps (aH st))(len:∀vs H Q E,sp vs H Q E->vs.length=ps.length)
  (hbody:∀(cdv:qAf) (A:qCd) (outer:List Env) (s:qAi) (H:Hp) (vs:List V) (Q:VK) (E:XK),cK k (A.deeper (qGd qual (aH st) s.heap.objs.size f cdv))->sp vs H Q E ->
   ∃t,lN (gY (gB P w) P w K mg base N qual (aH st) f cdv A outer s H E) (bG st) t/\t { nx:=fun _ H'=>Q .non H',rt:=Q } (start N vs) H):Md P w K mg base (k+1) ps sp f :=
 ⟨fd,t.fn.Al S len hbody,.all t.bd⟩
theorem Md.up(M:Md P w K mg base k ps sp f)(h:k<=j):Md P w K mg base j ps sp f:=let ⟨fd,F,b⟩:=M.ex;⟨fd,⟨F.len,fun A outer s H args us vs Q E hr he hb hv hs=>F.run A outer s H args us vs Q E (hr.mono h) he hb hv hs⟩,b⟩
theorem Md.imp(M:Md P w K mg base k ps sp f)(h:∀vs H Q E,sp' vs H Q E->sp vs H Q E):Md P w K mg base k ps sp' f:=let ⟨fd,F,b⟩:=M.ex;⟨fd,F.imp h,b⟩
end
structure Bt (K:qAa) (C:Addr) (m:Str) (f:Addr):Prop where
 ga:qDb K (.ref C) "__getattribute__"=some (some (.builtin "type.__getattribute__"))
 rd:qIt K C (.type "type")=true
 at_:qIu K (.ref C) (.type "type") m=some (.val (.ref f))
 kp:qAs K (.ref f)=true
section
variable {X:Cx}{Ex:XS}{k j:Nat}{f C:Addr}{ps:List Str}{sp:Sp}{x m:Str}{p pos apos:Pos}{e o:Expr}{es:List Expr}{ta:TE}{t:TA}
theorem mM(R:Pass X Ex)(hg:Gl X x)(hm:X.mg x=some (.ref C))(M:Bt X.K C m f)(F:Md X.prog X.w X.K X.mg X.base k ps sp f)(hr:cK j X.A)(hj:k<=j)(ha:PA X (e::es) t)
  (hdb:(x == ("__debug__":Str))=false:=by decide)
  (hst:qBg (e::es) X.env=(false,eval e X.env)::qBg es X.env:=by rfl) (hpl:(qEm pos (qBg es X.env)).any (·.1)=false:=by rfl)
  (ht:eval (.Call (.Attribute (.Name x p) m apos) (e::es) [] pos) X.env=(do
   let ov <- eval (.Name x p) X.env
   qJp apos.atName
   let (f,first) <- qFx [ov] (qIb ov m pl)
   callWith pos f first (qEm pos (qBg (e::es) X.env)) (qJz pos (qIa [] X.env))):=by rfl) :
  PE X (.Call (.Attribute (.Name x p) m apos) (e::es) [] pos) (nX sp [] Ex t):=by
 intro pins s σ H Q I h;obtain⟨fd,F,hb⟩:=F.ex;refine qFo (pl:=pl) (bY (a8 (v:=.ref C) hg hm rfl hdb pins s σ H (fun v H'=>v = .ref C/\H'=H) I ⟨rfl,rfl⟩) fun u s1 ⟨x,H1,I1,rx,ex,eH⟩=>?_) ht;subst ex eH;obtain rfl:u=Value.ref C:=rx;refine PySem.W.method_cls I1.j9 M.ga (PySem.W.cls_value I1.j9 M.rd M.at_ rfl ?_);refine qEa (first:=[]) (h₀:=X.base) I.ok.mod.Bh M.kp (bY (ha pos pins _ σ _ _ (I1.tok _) h) fun us s2 ⟨vs,H2,I2,r,q2⟩=>⟨I2.j9,?_⟩) hst hpl;exact j5 R F (hr.mono hj) hb .nil I2 r q2
def xR(K:qAa)(MO:Addr->Sp->Prop)(m:Str)(Ex:XS)(ta:TE)(t:TA):TE:=fun σ H Q=>ta σ H fun x H1=>∃a C dx fs g sp,x = .ref a/\H1 a=some (.ins C dx fs)/\fs.lookup m=none/\wA K C/\Meth K C m g/\MO g sp /\
 t σ H1 fun vs H2=>sp (x::vs) H2 Q fun c _ H'=>Ex c σ H'
theorem iE(R:Pass X Ex)(he:PE X o ta)(hr:cK j X.A)(hj:k<=j)(ha:PA X (e::es) t)
  (hst:qBg (e::es) X.env=(false,eval e X.env)::qBg es X.env:=by rfl) (hpl:(qEm pos (qBg es X.env)).any (·.1)=false:=by rfl)
  (ht:eval (.Call (.Attribute o m apos) (e::es) [] pos) X.env=(do
   let ov <- eval o X.env
   qJp apos.atName
   let (f,first) <- qFx [ov] (qIb ov m pl)
   callWith pos f first (qEm pos (qBg (e::es) X.env)) (qJz pos (qIa [] X.env))):=by rfl) :
  PE X (.Call (.Attribute o m apos) (e::es) [] pos) (xR X.K (fun g sp=>∃ps,Md X.prog X.w X.K X.mg X.base k ps sp g) m Ex ta t):=by
 intro pins s σ H Q I h;refine qFo (pl:=pl) (bY (he pins s σ H _ I h) fun u s1 ⟨x,H1,I1,rx,a,C,dx,fs,g,sp,ex,ea,l,c,hm,⟨ps,F⟩,q⟩=>?_) ht;subst ex;obtain rfl:u=Value.ref a:=rx;obtain⟨fd,F,hb⟩:=F.ex;refine kK I1 ea c hm l ?_;refine qEa (first:=[.ref a]) (h₀:=X.base) I.ok.mod.Bh hm.kp (bY (ha pos pins s1 σ H1 _ I1 q) fun us s2 ⟨vs,H2,I2,r,q2⟩=>⟨I2.j9,?_⟩) hst hpl;exact j5 (us:=.ref a::us) (vs:=.ref a::vs) R F (hr.mono hj) hb .nil I2 (.cons rfl r) (by rw[qCz];exact q2)
theorem mO(R:Pass X Ex)(he:PE X o ta)(hr:cK j X.A)(hj:k<=j)
  (ht:eval (.Call (.Attribute o m apos) [] [] pos) X.env=(do
   let ov <- eval o X.env
   qJp apos.atName
   let (f,first) <- qFx [ov] (qIb ov m pl)
   callWith pos f first (qEm pos (qBg [] X.env)) (qJz pos (qIa [] X.env))):=by rfl) :
  PE X (.Call (.Attribute o m apos) [] [] pos) (xR X.K (fun g sp=>∃ps,Md X.prog X.w X.K X.mg X.base k ps sp g) m Ex ta wV):=by
 intro pins s σ H Q I h;refine qFo (pl:=pl) (bY (he pins s σ H _ I h) fun u s1 ⟨x,H1,I1,rx,a,C,dx,fs,g,sp,ex,ea,l,c,hm,⟨ps,F⟩,q⟩=>?_) ht;subst ex;obtain rfl:u=Value.ref a:=rx;obtain⟨fd,F,hb⟩:=F.ex;refine kK I1 ea c hm l ?_;exact PySem.W.callWith_K0 (first:=[.ref a]) I1.j9 hm.kp (j5 (us:=[.ref a]) (vs:=[.ref a]) R F (hr.mono hj) hb .nil I1 (.cons rfl .nil) q)
def CN(C:Addr)(sp:Sp)(Ex:XS)(t:TA):TE:=fun σ H Q=>t σ H fun vs H1=>∀x dx,H1 x=none->H1 dx=none->dx≠x ->
 sp (.ref x::vs) (upd (upd H1 dx (.own x)) x (.ins C dx [])) (fun v H2=>v = .non/\Q (.ref x) H2) fun c _ H'=>Ex c σ H'
theorem vA(R:Pass X Ex)(M:Mk X.K C f)(F:eW X.prog X.w X.K X.mg X.base (gB X.prog X.w) k f fd ps sp)(hr:cK (k+1) X.A)(hb:Binds X.K fd ps [])
  (I:Inv X pins σ H s) (r:Vals vs us)
  (h:∀x dx,H x=none->H dx=none->dx≠x->sp (.ref x::vs) (upd (upd H dx (.own x)) x (.ins C dx [])) (fun v H2=>v = .non/\Q (.ref x) H2) fun c _ H'=>Ex c σ H') :
  qBl (qBr X.prog X.w) X.A (call (.ref C) us) (EP X pins σ Q) X.xe s:=by
 have hq:=h (s.heap.objs.size+1) s.heap.objs.size (I.bX.fresh (qHc _)) (I.bX.fresh (qAl _)) (qBc (qGu _));have I2:=Inv.made (C:=C) I;have r2:Vals (V.ref (s.heap.objs.size+1)::vs) (Value.ref (s.heap.objs.size+1)::us):=.cons rfl r;have hl:(Value.ref (s.heap.objs.size+1)::us).length=ps.length:=by
  have e:=r2.length;rw[F.len _ _ _ _ hq] at e;exact e.symm
 have hb2:=hb { s with heap:=(s.heap.push qCn).push (qDd C s.heap.objs.size) } (Value.ref (s.heap.objs.size+1)::us) I2.j9 (by rw[qCz];exact hl);rw[qCz] at hb2;refine qGl (wU (f:=f) I.j9 M.makes M.init (beq_iff_eq.mp M.fn) (qEy (F.run _ X.stack _ _ ⟨Value.ref (s.heap.objs.size+1)::us,[]⟩ (Value.ref (s.heap.objs.size+1)::us) _ _ _ (hr.make C us [])
  (I2.Aa.make C us []) hb2 r2 hq) fun r s' hq'=>?_))
 cases r with
 | error ev =>
  obtain⟨e,C',H',rfl,Fl,q⟩:=hq';exact R.on pins σ _ _ e C' H' s' I2 Fl q
 | ok fl =>
  cases fl with
  | ret u =>
   obtain⟨v,H',I3,rv,ev,q3⟩:=I2.after hq';subst ev;exact⟨rv,⟨V.ref (s.heap.objs.size+1),H',I3,rfl,q3⟩⟩
  | next=>exact False.elim hq'
  | brk=>exact False.elim hq'
  | cont=>exact False.elim hq'
theorem eX(R:Pass X Ex)(M:Mk X.K C f)(F:Md X.prog X.w X.K X.mg X.base k ps sp f)(hr:cK j X.A)(hj:k+1<=j)(hg:Gl X x)(hm:X.mg x=some (.ref C))
  (ha:PA X (e::es) t) (hdb:(x == ("__debug__":Str))=false:=by decide) (he:qBg (e::es) X.env=(false,eval e X.env)::qBg es X.env:=by rfl) (hpl:(qEm pos (qBg es X.env)).any (·.1)=false:=by rfl) :
  PE X (.Call (.Name x p) (e::es) [] pos) (CN C sp Ex t):=by
 intro pins s σ H Q I h;obtain⟨fd,F,hb⟩:=F.ex;refine qDv (gQ I hg hm ?_ hdb);refine qEa (h₀:=X.base) I.ok.mod.Bh M.kp (bY (ha pos pins s σ H _ I h) fun us s1 ⟨vs,H1,I1,r,q⟩=>⟨I1.j9,?_⟩) he hpl;exact vA R M F (hr.mono hj) hb I1 r q
end
structure vB (K:qAa) (C:Addr):Prop where
 cl:wA K C
 ca:qAd K (.ref C) "__class__"=some (some (.builtin "object.__class__"))
 cg:qDb K (.builtin "object.__class__") "__get__"=some (some (.builtin "getset_descriptor.__get__"))
 ct:qDz K (.builtin "object.__class__")=some true
 mo:qBa K C (.type "object")=some true
theorem vB.ty{K:qAa}{H:Hp}{a C dx:Addr}{fs:List (Str×V)}(c:vB K C)(e:H a=some (.ins C dx fs)):xI K H (.ref a) (.ref C):=.of (.ins e c.cl c.ca c.cg c.ct c.mo)
section
variable {X:Cx}
theorem iF(hh:X.calm=true):eD X (.builtin "sum") (fun xs H Q=>∃(p:Addr) (ns:List Int),xs=[.ref p]/\(aX X.K H p (ns.map V.int)\/dU X.K H p (ns.map V.int))/\Q (.int ns.sum) H):=by
 intro pins s σ H xs us Q I r h;obtain⟨p,ns,rfl,hq,q⟩:=h;obtain⟨u,rfl,rx⟩:=vals1 r;cases rx;rcases hq with hq | hq
 ·obtain⟨its,r',pl,hz⟩:=I.list hq;have hi:=intsAre_of r';obtain⟨xs,hx⟩:=hi.allInts.items;have hl':s.heap.IsList p (intItems xs):=hx▸pl.isList;refine sum_intListG (I.ok.hd hh) hl' fun h' tk t' hk=>?_;have e1:ns=xs.toList.map (·.1):=by
   rw[<- nums_intItems,<- hx];exact(show numsOf its.toArray.toList=ns from hi.numsOf).symm
  have e2:preSum (numAt xs) xs.size=ns.sum:=by
   rw[preSum_eq,qEn (by simp),e1]
  rw[e2];exact⟨.int ns.sum,H,I.kept (t':=tk) hk,⟨_,rfl⟩,q⟩
 ·obtain⟨its,r',pl,hz⟩:=I.tuple hq;have hi:=intsAre_of r';obtain⟨xs,hx⟩:=hi.allInts.items;have hl':s.heap.IsTuple p (intItems xs):=hx▸pl;refine PySem.W.ktm_sumG (I.ok.hd hh) hl' fun h' tk t' hk=>?_;have e1:ns=xs.toList.map (·.1):=by
   rw[<- nums_intItems,<- hx];exact(show numsOf its.toArray.toList=ns from hi.numsOf).symm
  have e2:preSum (numAt xs) xs.size=ns.sum:=by
   rw[preSum_eq,qEn (by simp),e1]
  rw[e2];exact⟨.int ns.sum,H,I.kept (t':=tk) hk,⟨_,rfl⟩,q⟩
theorem jM:∀{us:List qAf},Vals (bs.map V.bl) us->LSm.BoolsAre us bs:=by
 induction bs with
 | nil=>intro us h;cases h;exact .nil
 | cons b bs ih =>
  intro us h;cases h with
  | cons r t=>cases r;exact .cons b (ih t)
theorem pD(hh:X.calm=true):eD X (.builtin "all") (fun xs H Q=>∃(p:Addr) (bs:List Bool),xs=[.ref p]/\aX X.K H p (bs.map V.bl)/\Q (.bl (bs.all id)) H):=by
 intro pins s σ H xs us Q I r h;obtain⟨p,bs,rfl,hq,q⟩:=h;obtain⟨u,rfl,rx⟩:=vals1 r;cases rx;obtain⟨its,r',pl,hz⟩:=I.list hq;have hb:=jM r';have hl:=pl.isList;have hlt:p<s.heap.objs.size:=by obtain⟨_,e,_⟩:=hl;exact qAt e
 refine call_all_walk (qEs hl ?_);refine⟨s.heap.objs.size,[s.heap.objs.size,p],[s.heap.objs.size],its.toArray.size,_,_,fun i=>(bs[i]?).getD true,rfl,Walks.list (A:=X.A.in1) (I.ok.hd hh) _ p (qBc hlt) its.toArray,
  ⟨⟨_,qBb _ rfl,rfl,rfl⟩,hl.push _⟩,fun i v s' Q' E' hP hQ=>?_,fun h' tk hk=>?_⟩
 ·obtain⟨b,e,rfl⟩:=hb.get i v (by simpa using hP);simp only[e,qIw] at hQ;exact qBz hQ
 ·have e:((qAy its.toArray.size).all fun i=>(bs[i]?).getD true)=bs.all id:=by
   rw[qAr,hb.length];exact LSm.range_all bs
  rw[e];exact⟨.bl _,H,I.kept (t':=tk) (LSm.kept_iter hk),rfl,q⟩
theorem xS(hh:X.calm=true):eD X (.builtin "any") (fun xs H Q=>∃(p:Addr) (bs:List Bool),xs=[.ref p]/\aX X.K H p (bs.map V.bl)/\Q (.bl (bs.any id)) H):=by
 intro pins s σ H xs us Q I r h;obtain⟨p,bs,rfl,hq,q⟩:=h;obtain⟨u,rfl,rx⟩:=vals1 r;cases rx;obtain⟨its,r',pl,hz⟩:=I.list hq;have hb:=jM r';have hl:=pl.isList;have hlt:p<s.heap.objs.size:=by obtain⟨_,e,_⟩:=hl;exact qAt e
 refine call_any_walk (qEs hl ?_);refine⟨s.heap.objs.size,[s.heap.objs.size,p],[s.heap.objs.size],its.toArray.size,_,_,fun i=>(bs[i]?).getD false,rfl,Walks.list (A:=X.A.in1) (I.ok.hd hh) _ p (qBc hlt) its.toArray,
  ⟨⟨_,qBb _ rfl,rfl,rfl⟩,hl.push _⟩,fun i v s' Q' E' hP hQ=>?_,fun h' tk hk=>?_⟩
 ·obtain⟨b,e,rfl⟩:=hb.get i v (by simpa using hP);simp only[e,qIw] at hQ;exact qBz hQ
 ·have e:((qAy its.toArray.size).any fun i=>(bs[i]?).getD false)=bs.any id:=by
   rw[qAr,hb.length];exact LSm.range_any bs
  rw[e];exact⟨.bl _,H,I.kept (t':=tk) (LSm.kept_iter hk),rfl,q⟩
theorem oA:qBt "sum"=some (.builtin "sum"):=by decide +kernel
theorem xT:qBt "all"=some (.builtin "all"):=by decide +kernel
theorem CO:qBt "any"=some (.builtin "any"):=by decide +kernel
def Aq(K:qAa):V->List V->Hp->VK->Prop:=fun x vs H Q=>∃(p:Addr) (ns:List Int) (i:Int) (j:Nat),x = .ref p/\vs=[.int i]/\dU K H p (ns.map V.int)/\ns[j]?=some i/\(∀m,m<j->ns[m]?≠some i)/\Q (.int (j:Nat)) H
def Kl(i:Int)(u:qAf):Bool:=match u with
 | .int k _=>k == i
 | _=>false
theorem eY:Iv X "list.append" tO:=mI
theorem xU:Iv X "tuple.index" (Aq X.K):=by
 intro pins s σ H x vs v us Q I rx rv h;obtain⟨p,ns,i,j,rfl,rfl,hq,hj,hno,q⟩:=h;cases rx;obtain⟨u,rfl,ru⟩:=rv.one;obtain⟨t,rfl⟩:=(show ∃t,u=Value.int i t from ru);obtain⟨its,r',pl,hz⟩:=I.tuple hq;have hi:=intsAre_of r';obtain⟨⟨oc,od,odt,osl⟩,h1,h2,n,h3⟩:=id pl;dsimp only at h2 h3;subst h2 h3;have at_:∀(m:Nat) (k:Int),ns[m]?=some k->∃t,its[m]?=some (.int k t):=fun m k hm=>by
  obtain⟨u,hu,ru⟩:=r'.get (i:=m) (x:=.int k) (by rw[qBx,hm];rfl);obtain⟨t,rfl⟩:=(show ∃t,u=Value.int k t from ru);exact⟨t,hu⟩
 have hl:=r'.length;rw[qAc] at hl;obtain⟨t1,ht1⟩:=at_ j i hj;have hjl:j<its.length:=by
  rcases qCa j its.length with z | z
  ·exact z
  ·rw[qDt z] at ht1;cases ht1
 refine call_meets F.slot_tuple_index ⟨_,h1,rfl⟩ F.entry_tuple_index (F.args_tuple_index_2 _ _) (SeqAt.lU p its.toArray n od osl (.int i t) (Kl i) j (by simpa using hjl) ?_ fun m hm hmj=>?_) ⟨h1,fun y hy=>?_,?_⟩
 ·have e:its.toArray[j]'(by simpa using hjl) = .int i t1:=by
   have:=qAk hjl;rw[ht1] at this;simpa using (Option.some.inj this).symm
  rw[e];show(i == i)=true;simp
 ·have hml:m<its.length:=by simpa using hm
  have hmn:m<ns.length:=by lia
  obtain⟨t2,ht2⟩:=at_ m _ (qAk hmn);have e:its.toArray[m]'hm = .int ns[m] t2:=by
   have:=qAk hml;rw[ht2] at this;simpa using (Option.some.inj this).symm
  rw[e];show(ns[m] == i)=false;rw[beq_eq_false_iff_ne];intro z;exact hno m hmj (by rw[qAk hmn,z])
 ·have hy':y∈its:=by simpa using hy
  obtain⟨m,hm,e⟩:=List.getElem_of_mem hy';have hmn:m<ns.length:=by lia
  obtain⟨t2,ht2⟩:=at_ m _ (qAk hmn);rw[qAk hm,e] at ht2;obtain rfl:y = .int ns[m] t2:=Option.some.inj ht2;exact SeqAt.EqAt.int_int _ _ _ _
 ·exact⟨.int (j:Nat),H,I.tok _,⟨_,rfl⟩,q⟩
mutual
inductive Dat (K:qAa) (H:Hp):V->qFb->Prop
 | int (i:Int):Dat K H (.int i) (.int i)
 | lst {p:Addr}{xs:List V}{ds:List qFb}:aX K H p xs->DatAll K H xs ds->Dat K H (.ref p) (.list ds)
 | tup {p:Addr}{xs:List V}{ds:List qFb}:dU K H p xs->DatAll K H xs ds->Dat K H (.ref p) (.tuple ds)
inductive DatAll (K:qAa) (H:Hp):List V->List qFb->Prop
 | nil:DatAll K H [] []
 | cons {x:V}{d:qFb}{xs:List V}{ds:List qFb}:Dat K H x d->DatAll K H xs ds->DatAll K H (x::xs) (d::ds)
end
end
def Jb(K:qAa)(tl:TE):TI:=fun σ H R=>tl σ H fun x H1=>∃a,x = .ref a/\(((∃xs,aX K H1 a xs)/\R (rK K a) H1)\/((∃xs,dU K H1 a xs)/\R (Gb K a) H1))
theorem CP(hl:PE X l tl):PI X tg l (Jb X.K tl):=by
 intro pins s σ H R I h;refine bY (hl pins s σ H _ I h) fun v s1 ⟨x,H1,I1,r1,q1⟩=>?_;obtain⟨a,e,q⟩:=q1;subst e;cases r1;rcases q with ⟨⟨xs,hq⟩,q⟩ | ⟨⟨xs,hq⟩,q⟩
 ·obtain⟨its,rv,p,hz⟩:=I1.list hq;refine qEs p.isList ?_;refine⟨s1.heap.objs.size,[s1.heap.objs.size],_,_,H1,rfl,I1.kept (t':=s1.toks) fun b o e=>qAh _ e,mB a _,⟨_,qBb _ rfl,rfl,rfl⟩,fun b hb=>?_,q⟩;have e:b=s1.heap.objs.size:=by simpa using hb
  subst e;exact I1.rJ (qAl _) (I1.bX.fresh (qAl _))
 ·obtain⟨its,rv,p,hz⟩:=I1.tuple hq;refine wpAny_pyIter_tuple (show s1.heap.IsTuple a its.toArray from p) ?_;refine⟨s1.heap.objs.size,[s1.heap.objs.size],_,_,H1,rfl,I1.kept (t':=s1.toks) fun b o e=>qAh _ e,rL a _,⟨_,qBb _ rfl,rfl,rfl⟩,fun b hb=>?_,q⟩;have e:b=s1.heap.objs.size:=by simpa using hb
  subst e;exact I1.rJ (qAl _) (I1.bX.fresh (qAl _))
theorem iG{prog:qBf}{w:qCc}{A:qCd}{E:qAf->qAi->Prop}{s:qAi}{t sl:Addr}{items:Array qAf}{vl vu:qAf}{lo hi:Option Int}{Q:qAf->qAi->Prop}(ht:IsTup s.heap t items)(hs:s.heap.IsSliceOf sl vl vu .none)(pl:qHl vl lo)(pu:qHl vu hi)
  (h0:HT.c9 items.size 0 lo=0) (h1:HT.c9 items.size items.size hi=items.size)
  (h:Q (.ref t) s):qBl (qBr prog w) A (qHd (.ref t) (.ref sl)) Q E s:=by
 obtain⟨os,hos,hcs,hds⟩:=id hs;have hTs:s.TypeIs (.ref sl) "slice":=⟨os,hos,hcs⟩;unfold qHd;try with_reducible refine qCq ?_
 first | refine qAe (qAo ?_) | skip
 refine qAe (wpAny_sequenceKey ht.typeIs (by decide) ?_);refine qAe (wpAny_callSpecial?_slot (name:=Str.ofString "__getitem__") ht.typeIs qDg
  (wpAny_call_entry qDg ht.typeIs entry_tuple_getitem ?_ (args_tuple_getitem _ _)))
 show qBl _ _ (Builtin.Tuple.tupleItemsOf (.ref t) >>= _) _ _ s;refine qAe (tupleItemsOf_ ht ?_);refine qAe (wpAny_typeOf hTs ?_);rw[if_pos (by decide)];refine qAe (HT.fT hs pl pu ?_);have hy:(((HT.c9 items.size 0 lo:Nat):Int) == 0&&(1:Int) == 1&&(HT.c9 items.size items.size hi-HT.c9 items.size 0 lo) == items.size)=true:=by
  rw[h0,h1];simp
 show qBl _ _ (if (((HT.c9 items.size 0 lo:Nat):Int) == 0&&(1:Int) == 1&&(HT.c9 items.size items.size hi-HT.c9 items.size 0 lo) == items.size)=true then _ else _) _ _ s;rw[if_pos hy];refine qAe (m:=Builtin.Tuple.tupleIsExact (.ref t)) ?_;unfold Builtin.Tuple.tupleIsExact;refine qAe (wpAny_typeOf ht.typeIs (qAo ?_));rw[if_pos (by decide)];first
  | exact qAe (wpAny_rule (qAo ⟨_,rfl,qAo h⟩))
  | exact qAe (wpAny_rule (qAe (qAo (qAo ⟨_,rfl,qAo h⟩))))
def Jc(K:qAa):V->Option Int->Option Int->Hp->VK->Prop:=fun x lo hi H Q=>∃a xs,x = .ref a/\dU K H a xs/\∀p H',aJ H H'->dU K H' p (c8 xs lo hi)->Q (.ref p) H'
theorem tT:Gn X (Jc X.K):=by
 intro pins s σ H x v vl vu lo hi sl Q I rx hs pl pu h;obtain⟨a,xs,rfl,hx,q⟩:=h;by_cases hw:HT.c9 xs.length 0 lo=0/\HT.c9 xs.length xs.length hi=xs.length
 ·cases rx
  obtain⟨its,r,ht,hz⟩:=I.tuple hx;have hlen:its.toArray.size=xs.length:=by rw[qAr];exact r.length.symm
  refine⟨"tuple",_,PyProof.Rows.slot_tuple_getitem.lookup,ht.typeIs,?_⟩;refine iG ht hs pl pu (by rw[hlen];exact hw.1) (by rw[hlen];exact hw.2) ⟨.ref a,H,I,rfl,q a H (.refl H) ?_⟩;unfold c8;rw[hw.1,hw.2,qHk,qIk,qGt];exact hx
 ·exact Cw pins s σ H (.ref a) v vl vu lo hi sl Q I rx hs pl pu ⟨a,xs,rfl,hx,hw,fun p hp=>q p _ (.aI hp) (dU.of aB)⟩
section
variable {K:qAa}{a:Addr}{xs:List V}{σ0:St}{H1:Hp}{i0:Nat}{c:TT}{te:TE}{Q:Addr->Hp->Prop}
theorem eJ(f:Nat->V->Option V)(hq:aX K H1 a xs)(hn:xs.length<=qAg)
  (step:∀(i:Nat) (x:V) (H2:Hp) (k:VK) (k0:Hp->Prop),aJ H1 H2->xs[i]?=some x->(∀y,f i x=some y->∀H3,aJ H2 H3->k y H3)->(f i x=none->∀H3,aJ H2 H3->k0 H3) ->
   c (σ0.set i0 (some x)) H2 fun b H4=>if b=true then te (σ0.set i0 (some x)) H4 k else k0 H4)
  (h:∀D H2,H1 D=none->aJ H1 H2->H2 D=some (.lst ((qAy xs.length).filterMap fun i=>(xs[i]?).bind (f i)))->Q D H2) :
  ∀D,H1 D=none->∃W:Nat->Nat->St->Hp->Prop,(∃m,W 0 m σ0 (upd H1 D (.lst [])))/\∀i m σ1 H2,W i m σ1 H2 ->
   ((rK K a).stop i H2/\Q D H2)\/((rK K a).go i H2/\∃N:St->Hp->Prop,(∀σ' H',N σ' H'->∃m',m'<m/\W (i+1) m' σ' H') /\
    ∀x H',(rK K a).wK i H2 x H'->bH i0 x σ1 H' fun σ2 H3=>c σ2 H3 fun b H4=>if b=true then te σ2 H4 fun y H5=>∃xs,H5 D=some (.lst xs)/\xs.length<qAg/\N σ2 (upd H5 D (.lst (xs++[y]))) else N σ2 H4):=by
 intro D hD;refine⟨fun i m σ1 H2=>σ1.set i0 none=σ0.set i0 none/\aJ H1 H2/\H2 D=some (.lst ((qAy i).filterMap fun i=>(xs[i]?).bind (f i)))/\i<=xs.length/\m=xs.length-i,⟨xs.length,rfl,.aI hD,aB,qBy _,rfl⟩,?_⟩;rintro i m σ1 H2 ⟨hσ,hs,hd,hi,rfl⟩;have hset:∀v:Option V,σ1.set i0 v=σ0.set i0 v:=fun v=>by
  have z:=congrArg (fun l=>qJs l i0 v) hσ;simpa using z
 rcases qCa i xs.length with hlt | hge
 ·right
  refine⟨⟨xs,xs[i],hs.seq hq,by simp[hlt]⟩,fun σ' H'=>σ'.set i0 none=σ0.set i0 none/\aJ H1 H'/\H' D=some (.lst ((qAy (i+1)).filterMap fun i=>(xs[i]?).bind (f i))),fun σ' H' ⟨a,b,c⟩=>⟨xs.length-(i+1),by lia,a,b,c,hlt,rfl⟩,?_⟩;rintro x H' ⟨rfl,hx⟩;have hx:=hx xs (hs.seq hq);show c (σ1.set i0 (some x)) _ _;rw[hset];refine step i x _ _ _ hs hx (fun y hy H3 hs3=>⟨_,hs3 _ _ hd,?_,?_,?_,?_⟩) fun hno H3 hs3=>⟨?_,hs.trans hs3,?_⟩
  ·refine qCi (qEb _ _) ?_;rw[qDn];lia
  ·simp
  ·refine(hs.trans hs3).upd_ne' hD
  ·rw[aB,qDm,qCp];simp[hx,hy]
  ·simp
  ·rw[hs3 _ _ hd,qDm,qCp];simp[hx,hno]
 ·left
  obtain rfl:i=xs.length:=qEh hi hge;exact⟨⟨xs,hs.seq hq,qAl _⟩,h D _ hD hs hd⟩
theorem xV(f:Nat->V->Option V)(hq:dU K H1 a xs)(hn:xs.length<=qAg)
  (step:∀(i:Nat) (x:V) (H2:Hp) (k:VK) (k0:Hp->Prop),aJ H1 H2->xs[i]?=some x->(∀y,f i x=some y->∀H3,aJ H2 H3->k y H3)->(f i x=none->∀H3,aJ H2 H3->k0 H3) ->
   c (σ0.set i0 (some x)) H2 fun b H4=>if b=true then te (σ0.set i0 (some x)) H4 k else k0 H4)
  (h:∀D H2,H1 D=none->aJ H1 H2->H2 D=some (.lst ((qAy xs.length).filterMap fun i=>(xs[i]?).bind (f i)))->Q D H2) :
  ∀D,H1 D=none->∃W:Nat->Nat->St->Hp->Prop,(∃m,W 0 m σ0 (upd H1 D (.lst [])))/\∀i m σ1 H2,W i m σ1 H2 ->
   ((Gb K a).stop i H2/\Q D H2)\/((Gb K a).go i H2/\∃N:St->Hp->Prop,(∀σ' H',N σ' H'->∃m',m'<m/\W (i+1) m' σ' H') /\
    ∀x H',(Gb K a).wK i H2 x H'->bH i0 x σ1 H' fun σ2 H3=>c σ2 H3 fun b H4=>if b=true then te σ2 H4 fun y H5=>∃xs,H5 D=some (.lst xs)/\xs.length<qAg/\N σ2 (upd H5 D (.lst (xs++[y]))) else N σ2 H4):=by
 intro D hD;refine⟨fun i m σ1 H2=>σ1.set i0 none=σ0.set i0 none/\aJ H1 H2/\H2 D=some (.lst ((qAy i).filterMap fun i=>(xs[i]?).bind (f i)))/\i<=xs.length/\m=xs.length-i,⟨xs.length,rfl,.aI hD,aB,qBy _,rfl⟩,?_⟩;rintro i m σ1 H2 ⟨hσ,hs,hd,hi,rfl⟩;have hset:∀v:Option V,σ1.set i0 v=σ0.set i0 v:=fun v=>by
  have z:=congrArg (fun l=>qJs l i0 v) hσ;simpa using z
 rcases qCa i xs.length with hlt | hge
 ·right
  refine⟨⟨xs,xs[i],hs.Iw hq,by simp[hlt]⟩,fun σ' H'=>σ'.set i0 none=σ0.set i0 none/\aJ H1 H'/\H' D=some (.lst ((qAy (i+1)).filterMap fun i=>(xs[i]?).bind (f i))),fun σ' H' ⟨a,b,c⟩=>⟨xs.length-(i+1),by lia,a,b,c,hlt,rfl⟩,?_⟩;rintro x H' ⟨rfl,hx⟩;have hx:=hx xs (hs.Iw hq);show c (σ1.set i0 (some x)) _ _;rw[hset];refine step i x _ _ _ hs hx (fun y hy H3 hs3=>⟨_,hs3 _ _ hd,?_,?_,?_,?_⟩) fun hno H3 hs3=>⟨?_,hs.trans hs3,?_⟩
  ·refine qCi (qEb _ _) ?_;rw[qDn];lia
  ·simp
  ·refine(hs.trans hs3).upd_ne' hD
  ·rw[aB,qDm,qCp];simp[hx,hy]
  ·simp
  ·rw[hs3 _ _ hd,qDm,qCp];simp[hx,hno]
 ·left
  obtain rfl:i=xs.length:=qEh hi hge;exact⟨⟨xs,hs.Iw hq,qAl _⟩,h D _ hD hs hd⟩
end
section
variable {X:Cx}
theorem CQ:qBt "min"=some (.builtin "min"):=by decide +kernel
end
section
variable {K:qAa}{lo:Int}{n:Nat}{σ0:St}{H1:Hp}{i0:Nat}{c:TT}{te:TE}{Q:Addr->Hp->Prop}
end
section
variable {X:Cx}
theorem CS:qBt "max"=some (.builtin "max"):=by decide +kernel
end
def GB(K:qAa)(l:Addr):It :=
  ⟨fun i H=>∃xs x,aX K H l xs/\xs[i]?=some x,
   fun i H v H'=>∃t x,v = .ref t/\H t=none/\H'=upd H t (.tup [.int (i:Int),x])/\∀xs,aX K H l xs->xs[i]?=some x,
   fun i H=>∃xs,aX K H l xs/\xs.length<=i⟩
def CT(e it l:Addr)(i:Nat)(h:Heap):Prop:=(∃old,IsEnum h e it (i:Int) old)/\h.IsListIter it l i
theorem vC{P:qBf}{w:qCc}{K:qAa}{elts:List Expr}{x1}{pos:Pos}{e it l:Addr}(hne:e≠it):
  Turn P w K (.Tuple elts x1 pos) (GB K l) [e,it] e (CT e it l) where
 mem:=by simp
 obj:=fun i h ⟨⟨old,he⟩,⟨o,ho,_,d⟩⟩ b hb=>by
  simp only[qBp,qAw,or_false] at hb;rcases hb with rfl | rfl
  ·exact⟨_,he,fun v q=>nomatch q⟩
  ·exact⟨_,ho,fun v q=>by rw[d] at q;cases q⟩
 keep:=fun i h h' ⟨⟨old,he⟩,h1⟩ k=>⟨⟨old,k e (by simp) _ he⟩,h1.at fun o q=>k it (by simp) o q⟩
 item:=by
  intro X hP hw hK hc i pins s σ H E I hf st hg;subst hP hw hK;obtain⟨⟨old,he⟩,h1⟩:=st;obtain⟨xs,x,q1,hx⟩:=hg;obtain⟨its1,r1,p1,z1⟩:=I.list q1;obtain⟨u,hu,ru⟩:=r1.get hx;refine wpAny_pyNext_enum_item he h1 p1.isList (by simpa using hu) hne fun h' a1 a2 a3 a4 a5=>⟨_,rfl,?_⟩;refine wpAny_letOwnedTupleGo_enum a1 fun h'' b1 hs=>?_;have lt:∀c o,s.heap.get? c=some o->c≠s.heap.objs.size:=fun c o e=>qBc (qAt e);have lte:s.heap.objs.size≠e:=(lt e _ he).symm;have I1:Inv X pins σ H { s with heap:=h'',toks:=s.toks+1 }:=I.tS (t':=s.toks+1) (fun c o hb e=>(hs.2 c (fun q=>hb (by simp[q]))).trans (a5 c o (fun q=>hb (by simp[q])) (fun q=>hb (by simp[q])) e)) hf;have ht:h''.get? s.heap.objs.size=some { cls:=.type "tuple",data:=.seq #[.int i s.toks,u] }:=(hs.2 _ lte).trans a3;have hn:H s.heap.objs.size=none:=I.bX.fresh (qAl _);have I2:Inv X pins σ (upd H s.heap.objs.size (.tup [.int (i:Int),x])) { s with heap:=h'',toks:=s.toks+1 }:=by
   refine I1.Bq hn (qIn I.sz) (qBc I.lt).symm (fun y c q=>?_) (fun p hp=>?_) (I.FT (qAl _)) ⟨tF,[.int i s.toks,u],.cons ⟨_,rfl⟩ (.cons ru .nil),_,ht,rfl,_,rfl⟩
   ·obtain⟨_,o,ho,_⟩:=I.cell y c q;exact lt c o ho
   ·exact lt _ _ (I.pin p hp).1
  refine⟨.ref s.heap.objs.size,_,I2,rfl,⟨_,x,rfl,hn,rfl,fun xs' q=>?_⟩,⟨⟨u,?_⟩,a2.at fun o e=>(hs.2 _ hne.symm).trans e⟩,fun c hb=>?_⟩
  ·rw[I.oO q q1];exact hx
  ·rw[show((i+1:Nat):Int)=(i:Int)+1 by push_cast;rfl];exact b1
  ·obtain⟨o,ho,_⟩:∃o,s.heap.get? c=some o/\True:=by
    simp only[qBp,qAw,or_false] at hb;rcases hb with rfl | rfl
    ·exact⟨_,he,trivial⟩
    ·obtain⟨o,ho,_⟩:=h1;exact⟨o,ho,trivial⟩
   rw[aM (lt c o ho)];exact(hf c hb).1
 done:=by
  intro X hP hw hK hc i pins s σ H E I hf st hg;subst hP hw hK;obtain⟨⟨old,he⟩,h1⟩:=st;obtain⟨xs,q1,hend⟩:=hg;obtain⟨its1,r1,p1,z1⟩:=I.list q1;have e1:=r1.length;exact wpAny_pyNext_enum_end (I.ok.hd hc) he h1 p1.isList (by simp;lia) fun h' k=>⟨rfl,I.tS (t':=s.toks) (fun c o hb e=>k c o (fun q=>hb (by simp[q])) e) hf⟩
 self:=fun _ _ _ _ _ ⟨⟨_,he⟩,_⟩ h=>wpAny_pyIter_enum he h
def GC(K:qAa)(ta:TA):TI:=fun σ H R=>ta σ H fun vs H1=>∃l,vs=[.ref l]/\(∃xs,aX K H1 l xs)/\R (GB K l) H1
theorem Ar:qBt "enumerate"=some (.type "enumerate"):=by decide +kernel
theorem As{X:Cx}{elts:List Expr}{x1}{tpos:Pos}{a:Expr}{ta:TA}{p pos:Pos}(hg:Gl X "enumerate")(hm:X.mg "enumerate"=none)(ha:PA X [a] ta)(hs:qBg [a] X.env=[(false,eval a X.env)]:=by rfl):
  PI X (.Tuple elts x1 tpos) (.Call (.Name "enumerate" p) [a] [] pos) (GC X.K ta):=by
 intro pins s σ H R I h;refine Call_ (g7 I hg hm Ar (qDr (bY (ha pos pins s σ H _ I h) fun us s1 ⟨vs,H1,I1,r1,q1⟩=>?_) hs rfl));obtain⟨l,e,⟨xs,q1⟩,q⟩:=q1;subst e;obtain⟨u,rfl,ru⟩:=vals1 r1;cases (show u=Value.ref l from ru);obtain⟨its1,r1,p1,z1⟩:=I1.list q1;refine call_enumerate_list p1.isList fun h' hE hI hsz hk=>?_;refine wpAny_pyIter_enum hE ?_;have I2:Inv X pins σ H1 { s1 with heap:=h' }:=I1.kept (t':=s1.toks) hk;refine⟨_,[s1.heap.objs.size+1,s1.heap.objs.size],_,_,H1,rfl,I2,vC (Nat.succ_ne_self _),⟨⟨_,hE⟩,hI⟩,fun c hc=>?_,q⟩;have hge:s1.heap.objs.size<=c:=by
  simp only[qBp,qAw,or_false] at hc;rcases hc with h | h
  all_goals first | (rw[h];exact Nat.le_add_right _ _) | exact qIl h.symm
 have:=I1.rJ (H':=H1) hge (I1.bX.fresh hge);exact this
section
variable {K:qAa}{a a':Addr}{xs ys:List V}{σ0:St}{H1:Hp}{g:TG}{c:TT}{te:TE}{Q:Addr->Hp->Prop}
end
section
variable {X:Cx}
end
section
variable {K:qAa}{a:Addr}{xs:List V}{lo:Int}{n:Nat}{σ0:St}{H1:Hp}{i0:Nat}{c:TT}{te:TE}{Q:Addr->Hp->Prop}
def fK(H H':Hp):Prop:=∀b xs,H b=some (.tup xs)->H' b=some (.tup xs)
theorem aJ.t(s:aJ H H'):fK H H':=fun _ _ e=>s _ _ e
theorem fK.lst(h:H D=some (.lst ys)):fK H (upd H D o):=fun b xs e=>by
 rw[aM fun q=>by subst q;rw[h] at e;cases e];exact e
end
section
variable {X:Cx}{tg:Expr}
end
section
variable {X:Cx}{e c:Expr}{te:TE}{ts:TO}{pos p2:Pos}
end
def kT(h:Heap)(vs:List qAf):Heap:=((h.push (qCr "list" #[] 0)).update h.objs.size (Obj.mapSeq (· ++ vs.toArray))).push (qCr "list" vs.toArray 0)
section
variable {X:Cx}
end
section
variable {X:Cx}
mutual
inductive fP (K:qAa) (H:Hp):V->qFb->Prop
 | int (i:Int):fP K H (.int i) (.int i)
 | non:fP K H .non .none
 | bl (b:Bool):fP K H (.bl b) (.bool b)
 | str (x:Str):PyData.strOk x=true->fP K H (.str x) (.str x)
 | lst {p:Addr}{xs:List V}{ds:List qFb}:aX K H p xs->bS K H xs ds->fP K H (.ref p) (.list ds)
 | tup {p:Addr}{xs:List V}{ds:List qFb}:dU K H p xs->bS K H xs ds->fP K H (.ref p) (.tuple ds)
inductive bS (K:qAa) (H:Hp):List V->List qFb->Prop
 | nil:bS K H [] []
 | cons {x:V}{d:qFb}{xs:List V}{ds:List qFb}:fP K H x d->bS K H xs ds->bS K H (x::xs) (d::ds)
end
mutual
theorem fP.reads(I:Inv X pins σ H s):∀{v:V}{d:qFb}{u:qAf},fP X.K H v d->RelV v u->∃as,Reads s.heap u d as
 | _,_,u,.int i,r=>by obtain⟨t,rfl⟩:=(show ∃t,u=Value.int i t from r);exact⟨_,.int i t⟩
 | _,_,u,.non,r=>by obtain rfl:u=Value.none:=r;exact⟨_,.none⟩
 | _,_,u,.bl b,r=>by obtain rfl:u=Value.bool b:=r;exact⟨_,.bool b⟩
 | _,_,u,.str x _,r=>by obtain⟨t,rfl⟩:=(show ∃t,u=Value.str x t from r);exact⟨_,.str x t⟩
 | _,_,u,.lst (p:=p) hq ha,r=>by
  obtain rfl:u = .ref p:=r;obtain⟨its,r',pl,hz⟩:=I.list hq;obtain⟨o,ho,hc,n,hd⟩:=pl.isList;obtain⟨as,z⟩:=bS.reads I ha r';exact⟨_,.list ho hc hd (by simpa using z)⟩
 | _,_,u,.tup (p:=p) hq ha,r=>by
  obtain rfl:u = .ref p:=r;obtain⟨its,r',pl,hz⟩:=I.tuple hq;obtain⟨o,ho,hc,n,hd⟩:=pl;obtain⟨as,z⟩:=bS.reads I ha r';exact⟨_,.tuple ho hc hd (by simpa using z)⟩
theorem bS.reads(I:Inv X pins σ H s):∀{vs:List V}{ds:List qFb}{us:List qAf},bS X.K H vs ds->Vals vs us->∃as,ReadsAll s.heap us ds as
 | _,_,_,.nil,.nil=>⟨_,.nil⟩
 | _,_,_,.cons h t,.cons r rs=>by
  obtain⟨a1,z1⟩:=fP.reads I h r;obtain⟨a2,z2⟩:=bS.reads I t rs;exact⟨_,.cons z1 z2⟩
end
mutual
theorem fP.lay{K:qAa}{H:Hp}:∀{v:V}{d:qFb},fP K H v d->d.canLay0=true/\PyData.eqv d d=true
 | _,_,.int i=>⟨rfl,by simp[PyData.eqv]⟩
 | _,_,.non=>⟨rfl,by simp[PyData.eqv]⟩
 | _,_,.bl b=>⟨rfl,by simp[PyData.eqv]⟩
 | _,_,.str x h=>⟨h,by simp[PyData.eqv]⟩
 | _,_,.lst _ h=>by
  obtain⟨a,b⟩:=bS.lay h;exact⟨by simpa [PyData.canLay0] using a,by simpa [PyData.eqv] using b⟩
 | _,_,.tup _ h=>by
  obtain⟨a,b⟩:=bS.lay h;exact⟨by simpa [PyData.canLay0] using a,by simpa [PyData.eqv] using b⟩
theorem bS.lay{K:qAa}{H:Hp}:∀{vs:List V}{ds:List qFb},bS K H vs ds->PyData.canLayAll0 ds=true/\PyData.eqvAll ds ds=true
 | _,_,.nil=>⟨rfl,rfl⟩
 | _,_,.cons h t=>by
  obtain⟨a,b⟩:=fP.lay h;obtain⟨c,d⟩:=bS.lay t;exact⟨by simp[PyData.canLayAll0,a,c],by simp[PyData.eqvAll,b,d]⟩
end
mutual
theorem fP.same{K:qAa}{H H':Hp}(s:aJ H H'):∀{v:V}{d:qFb},fP K H v d->fP K H' v d
 | _,_,.int i=>.int i
 | _,_,.non=>.non
 | _,_,.bl b=>.bl b
 | _,_,.str x h=>.str x h
 | _,_,.lst q h=>.lst (s.seq q) (bS.same s h)
 | _,_,.tup q h=>.tup (s.Iw q) (bS.same s h)
theorem bS.same{K:qAa}{H H':Hp}(s:aJ H H'):∀{vs:List V}{ds:List qFb},bS K H vs ds->bS K H' vs ds
 | _,_,.nil=>.nil
 | _,_,.cons h t=>.cons (fP.same s h) (bS.same s t)
end
end
section
variable {X:Cx}
end
section
variable {X:Cx}
variable {o e:Expr}{es:List Expr}{to:TE}{t:TA}{name:Str}{apos cpos:Pos}{T id:String}{r:V->List V->Hp->VK->Prop}
end
section
variable {A:qCd}{prog:qBf}{w:qCc}{E:qAf->qAi->Prop}
end
section
variable {X:Cx}{pos:Pos}
end
section
variable {κ:Type} [DecidableEq κ]
def g9(kvs:List (κ×V))(k:κ):Option V:=(kvs.find? fun kv=>decide (kv.1=k)).map (·.2)
def putK(kvs:List (κ×V))(k:κ)(v:V):List (κ×V) :=
 if (kvs.any fun kv=>decide (kv.1=k))=true then kvs.map (fun kv=>if kv.1=k then (kv.1,v) else kv) else kvs++[(k,v)]
theorem iH{p:κ×V}{r:List (κ×V)}{k:κ}(e:p.1=k):g9 (p::r) k=some p.2:=by simp[g9,qEe,e]
theorem iI{p:κ×V}{r:List (κ×V)}{k:κ}(e:¬p.1=k):g9 (p::r) k=g9 r k:=by simp[g9,qEe,e]
theorem kU(k:κ):∀kvs:List (κ×V),(kvs.any fun kv=>decide (kv.1=k))=(g9 kvs k).isSome
 | []=>rfl
 | p::r=>by
  rw[qFn];by_cases e:p.1=k
  ·simp only[iH e,decide_eq_true e,Bool.true_or,Option.isSome_some]
  ·rw[iI e,decide_eq_false e,qHo];exact kU k r
theorem jN(kvs:List (κ×V))(k:κ)(v:V):(putK kvs k v).length<=kvs.length+1:=by
 unfold putK;split
 ·rw[qAc];lia
 ·rw[qAp,qCf,List.length_nil];lia
theorem xW{kvs:List (κ×V)}{k:κ}(v:V)(h:g9 kvs k=none):putK kvs k v=kvs++[(k,v)]:=by
 unfold putK;rw[kU,h];exact if_neg (by decide)
theorem hV.iZ(r:hV o u):o.isSome=u.isSome:=by
 cases o with
 | none=>cases u with
  | none=>rfl
  | some _=>exact(show False from r).elim
 | some _=>cases u with
  | none=>exact(show False from r).elim
  | some _=>rfl
theorem KV.val{kvs:List (κ×V)}{vs:List (κ×qAf)}(r:KV kvs vs)(k:κ):hV (g9 kvs k) (qIy vs k):=by
 unfold KV at r;induction r with
 | nil=>exact True.intro
 | @cons p q ps qs h t ih =>
  obtain⟨h1,h2⟩:=h;by_cases e:p.1=k
  ·have e':q.1=k:=h1.symm.trans e;have b:qIy (q::qs) k=some q.2:=by simp[qIy,qEe,e']
   rw[iH e,b];exact h2
  ·have e':¬q.1=k:=fun z=>e (h1.trans z);have b:qIy (q::qs) k=qIy qs k:=by simp[qIy,qEe,e']
   rw[iI e,b];exact ih
theorem KV.any(r:KV kvs vs)(k:κ):(kvs.any fun kv=>decide (kv.1=k))=vs.any fun kv=>decide (kv.1=k):=by
 unfold KV at r;induction r with
 | nil=>rfl
 | cons h t ih=>rw[qFn,qFn,ih,h.1]
theorem KV.CU(r:KV kvs vs)(k:κ){y:V}{u:qAf}(ry:RelV y u):
  KV (kvs.map fun kv=>if kv.1=k then (kv.1,y) else kv) (vs.map fun kv=>if kv.1=k then (kv.1,u) else kv):=by
 unfold KV at r|-;induction r with
 | nil=>exact .nil
 | @cons p q ps qs h t ih =>
  rw[qBq,qBq];refine .cons ?_ ih;obtain⟨h1,h2⟩:=h;by_cases e:p.1=k
  ·rw[if_pos e,if_pos (h1.symm.trans e)];exact⟨h1,ry⟩
  ·rw[if_neg e,if_neg (fun z=>e (h1.trans z))];exact⟨h1,h2⟩
theorem KV.put(r:KV kvs vs)(k:κ){y:V}{u:qAf}(ry:RelV y u):KV (putK kvs k y) (stored vs k u):=by
 unfold putK stored;rw[r.any k];by_cases e:(vs.any fun kv=>decide (kv.1=k))=true
 ·rw[if_pos e,if_pos e];exact r.CU k ry
 ·rw[if_neg e,if_neg e];exact Paired.snoc r ⟨rfl,ry⟩
theorem KV.length(r:KV kvs vs):kvs.length=vs.length:=Paired.length r
end
theorem xX(r:RelV (kV k) u):(cV P w).is k u=true:=by
 cases k with
 | inl i=>obtain⟨t,e⟩:=(show ∃t,u=Value.int i t from r);subst e;exact oM P w i t
 | inr x=>obtain⟨t,e⟩:=(show ∃t,u=Value.str x t from r);subst e;exact oN P w x t
theorem mP:∀{ks:List Key}{us:List qAf},Vals (ks.map kV) us->ItemsAre (cV P w) ks us
 | [],_,r=>by rw[qGq] at r;cases r;exact .nil
 | k::ks,_,r=>by
  rw[qBq] at r;cases r with
  | cons h t=>exact .cons (xX h) (mP t)
abbrev KT(H:Hp):List (List Key×V)->List (List Key×Addr×qAf)->Prop:=Paired fun p q=>p.1=q.1/\H q.2.1=some (.tup (p.1.map kV))/\RelV p.2 q.2.2
theorem KT.val{H:Hp}{kvs:List (List Key×V)}{xs:List (List Key×Addr×qAf)}(r:KT H kvs xs)(k:List Key):hV (g9 kvs k) ((qKf xs k).map (·.2)):=by
 induction r with
 | nil=>exact True.intro
 | @cons p q ps qs h t ih =>
  obtain⟨h1,_,h2⟩:=h;by_cases e:p.1=k
  ·have e':q.1=k:=h1.symm.trans e;have b:qKf (q::qs) k=some q.2:=by simp[qKf,qEe,e']
   rw[iH e,b];exact h2
  ·have e':¬q.1=k:=fun z=>e (h1.trans z);have b:qKf (q::qs) k=qKf qs k:=by simp[qKf,qEe,e']
   rw[iI e,b];exact ih
theorem KT.CU(r:KT H kvs xs)(k:List Key){y:V}{u:qAf}(ry:RelV y u):
  KT H (kvs.map fun kv=>if kv.1=k then (kv.1,y) else kv) (xs.map (putAt k u)):=by
 induction r with
 | nil=>exact .nil
 | @cons p q ps qs h t ih =>
  rw[qBq,qBq];refine .cons ?_ ih;obtain⟨h1,h2,h3⟩:=h;unfold putAt;by_cases e:p.1=k
  ·rw[if_pos e,if_pos (h1.symm.trans e)];exact⟨h1,h2,ry⟩
  ·rw[if_neg e,if_neg (fun z=>e (h1.trans z))];exact⟨h1,h2,h3⟩
theorem KT.put(r:KT H kvs xs)(k:List Key){b:Addr}{y:V}{u:qAf}(hb:H b=some (.tup (k.map kV)))(ry:RelV y u):
  KT H (putK kvs k y) (storedH xs k b u):=by
 have e:(kvs.any fun kv=>decide (kv.1=k))=(qKf xs k).isSome:=by
  rw[kU,(r.val k).iZ,qIp]
 unfold putK storedH;rw[e];by_cases q:(qKf xs k).isSome=true
 ·rw[if_pos q,if_pos q];exact r.CU k ry
 ·rw[if_neg q,if_neg q];exact Paired.snoc r ⟨rfl,hb,ry⟩
theorem KT.keeps(r:KT H kvs xs)(ht:∀b ys,H b=some (.tup ys)->H' b=some (.tup ys)):KT H' kvs xs :=
 Paired.Cg r fun _ _ z=>⟨z.1,ht _ _ z.2.1,z.2.2⟩
section
variable {P:qBf}{w:qCc}{H:Hp}{h:Heap}{a:Addr}
theorem Bu(ok:gZ P w H h)(e:Rd H a u):bZ P w H h a u:=e.ok ok
theorem Bv(ok:gZ P w H h)(e:Rd H a (.dK kvs)):kvs.length<=qAg/\(a == qEl)=false/\∃vs,KV kvs vs/\h.DictOf (cV P w) a vs :=
 show bZ P w H h a (.dK kvs) from Bu ok e
theorem GD(ok:gZ P w H h)(e:H a=some (.dK kvs)):kvs.length<=qAg/\(a == qEl)=false/\∃vs,KV kvs vs/\h.DictOf (cV P w) a vs:=Bv ok (.inl e)
theorem sH(ok:gZ P w H h)(e:H a=some (.tup (ks.map kV))):(qHy (cV P w)).is h ks a:=by
 obtain⟨_,its,r,o,h1,h2,n,h3⟩:=(show bZ P w H h a (.tup (ks.map kV)) from ok a _ e);exact⟨o,its.toArray,n,h1,h2,h3,by simpa using mP r⟩
theorem Bw(ok:gZ P w H h)(e:Rd H a (.dT kvs)):kvs.length<=qAg/\(a == qEl)=false /\
  ∃xs,KT H kvs xs/\h.DictOfH (qHy (cV P w)) a xs:=by
 obtain⟨z,y,xs,r,o,es,ep,h1,h2,h3,h4,h5⟩:=(show bZ P w H h a (.dT kvs) from Bu ok e);refine⟨z,y,xs,r,o,es,ep,h1,h2,h3,h4,fun x hx=>?_,h5⟩;have all:∀{l:List (List Key×V)}{m:List (List Key×Addr×qAf)},KT H l m->∀x∈m,(qHy (cV P w)).is h x.1 x.2.1:=by
  intro l m q;induction q with
  | nil=>intro x hx;exact nomatch hx
  | @cons p q ps qs hq t ih =>
   intro x hx;rcases List.mem_cons.mp hx with e | hx
   ·subst e;exact sH ok (by rw[<- hq.1];exact hq.2.1)
   ·exact ih x hx
 exact all r x hx
theorem GF(ok:gZ P w H h)(e:H a=some (.dT kvs)):kvs.length<=qAg/\(a == qEl)=false /\
  ∃xs,KT H kvs xs/\h.DictOfH (qHy (cV P w)) a xs:=Bw ok (.inl e)
end
def xY(H:Hp)(a:Addr)(y:V)(r:Option V):Prop :=
 (∃kvs k,Rd H a (.dK kvs)/\y=kV k/\r=g9 kvs k)\/∃kvs k b,Rd H a (.dT kvs)/\y = .ref b/\H b=some (.tup (k.map kV))/\r=g9 kvs k
def xZ(H:Hp)(a:Addr)(y v:V)(H':Hp):Prop :=
 (∃kvs k,H a=some (.dK kvs)/\y=kV k/\kvs.length<qAg/\H'=upd H a (.dK (putK kvs k v))) \/
 ∃kvs k b,H a=some (.dT kvs)/\y = .ref b/\H b=some (.tup (k.map kV))/\kvs.length<qAg/\H'=upd H a (.dT (putK kvs k v))
theorem xY.t{H:Hp}{a b:Addr}{kvs:List (List Key×V)}{k:List Key}(e:H a=some (.dT kvs))(eb:H b=some (.tup (k.map kV))):xY H a (.ref b) (g9 kvs k):=.inr ⟨kvs,k,b,.inl e,rfl,eb,rfl⟩
theorem xZ.t{H:Hp}{a b:Addr}{kvs:List (List Key×V)}{k:List Key}{v:V}(e:H a=some (.dT kvs))(eb:H b=some (.tup (k.map kV)))(hl:kvs.length<qAg):
  xZ H a (.ref b) v (upd H a (.dT (putK kvs k v))):=.inr ⟨kvs,k,b,e,rfl,eb,hl,rfl⟩
section
variable {X:Cx}{pins:List (Addr×Obj)}{σ:St}{H:Hp}{s:qAi}{a:Addr}{y v:V}{u r:qAf}{o:Option V}{A:qCd}{E:qAf->qAi->Prop}
theorem Jd(hu:A.units+1<qJh)(I:Inv X pins σ H s)(g:xY H a y o)(ry:RelV y u)(h:∀s',Inv X pins σ H s'->Q (.bool o.isSome) s'):
  qBl (qBr X.prog X.w) A (qCx .In u (.ref a)) Q E s:=by
 rcases g with ⟨kvs,k,e,ey,l⟩ | ⟨kvs,k,b,e,ey,eb,l⟩
 ·subst ey;obtain⟨z,hd,vs,rel,dd⟩:=Bv I.bX e;refine wpAny_in_of (xX ry) hd dd.mapOf ?_;rw[<- (rel.val k).iZ,<- l];exact h _ (I.tok _)
 ·subst ey;cases (show u=Value.ref b from ry);obtain⟨z,hd,xs,rel,dd⟩:=Bw I.bX e;refine wpAny_in_heap (tupleKind_room_in1 hu) (sH I.bX eb) hd dd ?_;have q:=(rel.val k).iZ;rw[qIp] at q;rw[<- q,<- l];exact h _ (I.tok _)
theorem tU(I:Inv X pins σ H s)(mu:FQ (H a))(hs:qGr a s.heap h')(he:∃q,h'.get? a=some q)(new:bZ X.prog X.w (upd H a ob) h' a ob):
  Inv X pins σ (upd H a ob) { s with heap:=h',toks:=t' } :=
 I.write (x:=a) (e:=a) mu (.inl rfl) (fun b q hb z=>(hs.2 b hb).trans z) he new
theorem CV(z:kvs.length<=qAg)(hd:(a == qEl)=false)(rel:KV kvs vs)(dd:h'.DictOf (cV P w) a vs):
  bZ P w H' h' a (.dK kvs):=⟨z,hd,vs,rel,dd⟩
theorem vD(hu:A.units+1<qJh)(I:Inv X pins σ H s)(g:xZ H a y v H')(ry:RelV y u)(rv:RelV v r)(h:∀s',Inv X pins σ H' s'->Q () s'):
  qBl (qBr X.prog X.w) A (setItem (.ref a) u r) Q E s:=by
 rcases g with ⟨kvs,k,e,ey,l,eH⟩ | ⟨kvs,k,b,e,ey,eb,l,eH⟩
 ·subst ey eH;obtain⟨z,hd,vs,rel,dd⟩:=GD I.bX e;have hz:vs.length<=qAg:=by rw[<- rel.length];exact z
  have hl:(putK kvs k v).length<=qAg:=by have:=jN kvs k v;lia
  refine wpAny_setItem_pairs (hsz:=hz) (xX ry) dd fun h' dd' hs=>h _ ?_;have he:∃q,h'.get? a=some q:=let ⟨q,_,_,hq,_⟩:=dd';⟨q,hq⟩;exact tU I (by rw[e];exact True.intro) hs he (CV hl hd (rel.put k rv) dd')
 ·subst ey eH;cases (show u=Value.ref b from ry);obtain⟨z,hd,xs,rel,dd⟩:=GF I.bX e;have hz:xs.length<=qAg:=by rw[<- Paired.length rel];exact z
  have hl:(putK kvs k v).length<=qAg:=by have:=jN kvs k v;lia
  refine wpAny_setItem_heap (hsz:=hz) (tupleKind_room_in1 hu) (sH I.bX eb) dd fun h' dd' hs=>h _ ?_;obtain⟨q,es,ep,hq,h2,h3,h4,_,h5⟩:=dd';refine tU I (by rw[e];exact True.intro) hs ⟨q,hq⟩ ⟨hl,hd,_,(rel.put k eb rv).keeps fun c ys ec=>?_,q,es,ep,hq,h2,h3,h4,h5⟩;rw[aM (eR ec e (fun z=>nomatch z))];exact ec
end
section
variable {X:Cx}{pins:List (Addr×Obj)}{σ:St}{H:Hp}{s:qAi}{a:Addr}{kvs:List (Key×V)}{k:Key}{u:qAf}{A:qCd}{E:qAf->qAi->Prop}
end
def Je(ty td:TE):TE:=fun σ H Q=>ty σ H fun y H1=>td σ H1 fun x H2=>∃a o,x = .ref a/\xY H2 a y o/\Q (.bl o.isSome) H2
def GG(td ty tv:TE):TS:=fun D σ H=>tv σ H fun v H1=>td σ H1 fun x H2=>ty σ H2 fun y H3=>∃a H4,x = .ref a/\xZ H3 a y v H4/\D.nx σ H4
section
variable {X:Cx}{o i e value:Expr}{pos pos' tpos:Pos}{td ty tv:TE}
theorem CW(hu:X.A.units+1<qJh)(hi:PE X i ty)(ho:PE X o td):PC X .In i o (Je ty td):=by
 intro pins s σ H Q I h;refine bY (hi pins s σ H _ I h) fun iv s1 ⟨y,H1,I1,ry,q1⟩=>bY (ho pins s1 σ H1 _ I1 q1) fun u s2 ⟨x,H2,I2,rx,a,ov,ex,g,q2⟩=>?_;subst ex;obtain rfl:u=Value.ref a:=rx;exact Jd hu I2 g ry fun s3 I3=>⟨.bl ov.isSome,H2,I3,rfl,q2⟩
theorem Au(hu:X.A.units+1<qJh)(ho:PE X o td)(hi:PE X i ty)(hv:PE X value tv)(hs:qHz value (some (.Subscript o i pos')) pos.line X.env=pure false):
  PS X (.Assign [.Subscript o i pos'] value pos) (GG td ty tv):=by
 intro pins s σ H D I h;refine wpAny_Assign_Subscript (bY (hv pins s σ H _ I h) fun r s1 ⟨v,H1,I1,rv,q1⟩=>bY (ho pins s1 σ H1 _ I1 q1) fun u s2 ⟨x,H2,I2,rx,q2⟩=>bY (hi pins s2 σ H2 _ I2 q2) fun iv s3 ⟨y,H3,I3,ry,a,H4,ex,g,q3⟩=>?_) hs;subst ex;obtain rfl:u=Value.ref a:=rx;exact vD hu I3 g ry rv fun s4 I4=>⟨σ,H4,I4,q3⟩
end
section
variable {κ:Type} [DecidableEq κ]
end
theorem yA(h:Heap)(hb:qEl<h.objs.size):bZ P w H (h.push { cls:=.type "dict",data:=.dict #[] }) h.objs.size (.dT []) :=
 ⟨qBy _,beq_eq_false_iff_ne.mpr (Ne.symm (qBc hb)),[],.nil,_,#[],0,qBb _ rfl,⟨rfl,rfl,rfl⟩,rfl,rfl,qHi⟩
def CY:TE:=fun _ H Q=>∀p,H p=none->Q (.ref p) (upd H p (.dT []))
section
variable {X:Cx}{pos:Pos}
theorem yB:PE X (.Dict [] [] pos) CY:=fun pins s σ H Q I h =>
 wpAny_Dict_empty ⟨.ref s.heap.objs.size,_,I.laid (a:=s.heap.objs.size) (o:=.dT []) (t':=s.toks) (fun _ _ q=>qAh _ q) (qAl _) (yA s.heap I.big),rfl,h _ (I.bX.fresh (qAl _))⟩
end
end L2
namespace PySem.W
open PySem PySem.Calls PyProof.Rows
def KasT.Ok{α:Type}(n:Nat)(P:α->Prop):KasT α->Prop
 | .ret a=>P a
 | .ask i j k=>i<n/\j<n/\∀b,(k b).Ok n P
theorem KasT.Ok.bind{α β:Type}{n:Nat}{P:α->Prop}{P':β->Prop}{f:α->KasT β}:∀{t:KasT α},t.Ok n P->(∀a,P a->(f a).Ok n P')->(t.bind f).Ok n P'
 | .ret a,h,hf=>hf a h
 | .ask i j k,h,hf=>⟨h.1,h.2.1,fun b=>KasT.Ok.bind (h.2.2 b) hf⟩
def KasT.run{α:Type}(lt:Nat->Nat->Bool):KasT α->α
 | .ret a=>a
 | .ask i j k=>(k (lt i j)).run lt
theorem KasT.Ok.wp(lt:Nat->Nat->Bool)(hc:∀i j C,i<n->j<n->C (lt i j) s->cmp i j C s):
  ∀{t:KasT α},t.Ok n P->(∀a,P a->a=t.run lt->Q a s)->t.kasWp cmp Q s
 | .ret a,h,hQ=>hQ a h rfl
 | .ask i j k,h,hQ=>hc i j _ h.1 h.2.1 (KasT.Ok.wp lt hc (h.2.2 (lt i j)) hQ)
def jO(n:Nat)(p:Array Nat):Prop:=p.toList.Perm (qAy n)
theorem jO.lt(h:jO n p)(hn:0<n)(i:Nat):p.getD i 0<n:=by
 by_cases hi:i<p.size
 ·have e:p.getD i 0=p[i]:=by simp[qKn,hi]
  rw[e];exact List.mem_range.mp (h.mem_iff.mp (by simp))
 ·have e:p.getD i 0=0:=by simp[qKn,hi]
  rw[e];exact hn
theorem jO.rev(h:jO n p)(i j:Nat):jO n (kas_rev p i j):=(Array.perm_iff_toList_perm.mp (mirror_perm p i j ((j-i)/2))).trans h
theorem jO.Km(h:jO n p)(i j:Nat):jO n (bubble p i j):=(Array.perm_iff_toList_perm.mp (bubble_perm p i j)).trans h
theorem sI(h:jO n p)(hn:0<n):∀f m,(kas_asc p f m).Ok n (fun _=>True)
 | 0,m=>trivial
 | f+1,m=>⟨h.lt hn _,h.lt hn _,fun b=>by
  cases b with
  | true=>exact trivial
  | false=>exact sI h hn f (m+1)⟩
theorem j6(hn:0<n):∀f p m q,jO n p->(kas_desc f p m q).Ok n (fun r=>jO n r.1)
 | 0,p,m,q,h=>h
 | f+1,p,m,q,h=>⟨h.lt hn _,h.lt hn _,fun b=>by
  cases b with
  | true =>
   show KasT.Ok n _ (if q>0 then _ else _);split
   ·exact j6 hn f _ _ _ (h.rev _ _)
   ·exact j6 hn f _ _ _ h
  | false=>exact⟨h.lt hn _,h.lt hn _,fun d=>by
    cases d with
    | true=>exact h
    | false=>exact j6 hn f _ _ _ h⟩⟩
theorem pE{n:Nat}(hn:0<n)(a m:Nat){p:Array Nat}(h:jO n p):(kas_tail3 a m p).Ok n (fun r=>jO n r.2) :=
 KasT.Ok.bind (sI (h.rev 0 a) hn _ _) fun _ _=>h.rev 0 a
theorem jP{n:Nat}(hn:0<n)(a m:Nat){p:Array Nat}(h:jO n p):(kas_descPart a m p).Ok n (fun r=>jO n r.2) :=
 KasT.Ok.bind (j6 hn _ _ _ _ h) fun r hr=>by
  show KasT.Ok n _ (if r.2.2>0 then _ else _);split
  ·exact pE hn _ _ (hr.rev _ _)
  ·exact pE hn _ _ hr
theorem yC{n:Nat}(hn:0<n)(m:Nat){p:Array Nat}(h:jO n p):(kas_count m p).Ok n (fun r=>jO n r.2) :=
 KasT.Ok.bind (sI h hn _ _) fun a _=>by
  show KasT.Ok n _ (if (a == m)=true then _ else if a>1 then _ else _);split
  ·exact h
  ·split
   ·exact⟨h.lt hn _,h.lt hn _,fun b=>by
     cases b with
     | true=>exact h
     | false=>exact jP hn _ _ (h.rev _ _)⟩
   ·exact jP hn _ _ h
theorem kW(h:jO n p)(hn:0<n)(k:Nat):∀f l r,(kas_place p k f l r).Ok n (fun _=>True)
 | 0,l,r=>trivial
 | f+1,l,r=>by
  show KasT.Ok n _ (if l≥r then _ else _);split
  ·exact trivial
  ·exact⟨h.lt hn _,h.lt hn _,fun b=>by
    cases b with
    | true=>exact kW h hn k f _ _
    | false=>exact kW h hn k f _ _⟩
theorem yD{n:Nat}(hn:0<n):∀f p k,jO n p->(kas_bin f p k).Ok n (jO n)
 | 0,p,k,h=>h
 | f+1,p,k,h=>KasT.Ok.bind (kW h hn k _ _ _) fun l _=>yD hn f _ _ (h.Km _ _)
theorem Av{n:Nat}(hn:0<n):(kas_sort n).Ok n (jO n) :=
 KasT.Ok.bind (yC hn n (show jO n (qDq (qAy n)) from List.Perm.refl _)) fun r hr=>by
  show KasT.Ok n _ (if r.1<n then _ else _);split
  ·exact yD hn _ _ _ hr
  ·exact hr
section
variable {prog:qBf}{w:qCc}{A:qCd}{E:qAf->qAi->Prop}{s:qAi}
theorem vE(h:n<2)(lt:Nat->Nat->Bool):(kas_sort n).run lt=qDq (qAy n):=by
 have c:n=0\/n=1:=by lia
 rcases c with rfl | rfl
 ·rfl
 ·rfl
theorem lV(ho:s.heap.get? a=some (qCr "list" vs.toArray n))(h64:vs.length<64)(lt:Nat->Nat->Bool)
  (ht:∀h',(∀b o,b≠a->s.heap.get? b=some o->h'.get? b=some o)->KatTups h' vs fs) (hT:∀v∈fs,∃i t,v=Value.int i t)
  (ask:∀h',(∀b o,b≠a->s.heap.get? b=some o->h'.get? b=some o)->∀i j C,i<vs.length->j<vs.length->C (lt i j) { s with heap:=h' }->kas_ask prog w A (tuples' true) vs i j C { s with heap:=h' })
  (h:∀p:Array Nat,jO vs.length p->p=(kas_sort vs.length).run lt->P (.done (.ret .none)) { s with heap:=qHf s.heap a vs (qDq (p.toList.map fun i=>vs.getD i Value.none)) }) :
  qBl (qBr prog w) A (Builtin.«list.sort» ⟨[.ref a],[]⟩) P E s:=by
 have ha:a<s.heap.objs.size:=qAt ho;have hsz:vs.toArray.size=vs.length:=by simp
 rw[list_sort_plain];refine qAe (listItems_at ho rfl ?_);refine qAe (listUpdate_at ho rfl ?_ (by rw[qAr,qEj];lia) (qBy _));obtain⟨e1,ho1⟩:∃e1,(s.heap.update a (Obj.mapSeq fun _=>(#[]:Array qAf))).get? a=some (qCr "list" #[] e1):=⟨_,qFh ho fun _=>#[]⟩;refine qAe (seqEpoch_at ho1 rfl ?_);refine qAe (wpAny_newTuple ?_ (by show vs.length<=_;rw[qEj];lia));refine qAe (wpAny_newList ?_ (qBy _));refine qCq ?_;have ho6:(((s.heap.update a (Obj.mapSeq fun _=>(#[]:Array qAf))).push (qCr "tuple" vs.toArray 0)).push (qCr "list" #[] 0)).get? a=some (qCr "list" #[] e1):=by
  rw[qJc _ _ _ (by rw[qIs,qFp];exact qBc (qGp ha)),qJc _ _ _ (by rw[qFp];exact qBc ha)];exact ho1
 have keep:∀b o,b≠a->s.heap.get? b=some o->(((s.heap.update a (Obj.mapSeq fun _=>(#[]:Array qAf))).push (qCr "tuple" vs.toArray 0)).push (qCr "list" #[] 0)).get? b=some o:=fun b o hb q=>by
  refine qAh _ (qAh _ ?_);rw[qFa _ _ _ _ hb];exact q
 show qBl (qBr prog w) A _ P E { s with heap:=((s.heap.update a (Obj.mapSeq fun _=>(#[]:Array qAf))).push (qCr "tuple" vs.toArray 0)).push (qCr "list" #[] 0) };dsimp only;by_cases h2:vs.toArray.size<2
 ·rw[if_pos h2,if_pos h2];refine qAe (qAo ?_);rw[StateT.run_pure];refine qAe (qAo ?_);dsimp only;refine qAe (seqEpoch_at ho6 rfl ?_);refine qAe (listUpdate_at ho6 rfl ?_ (qBy _) (by rw[Array.size_map];show(pairsOf vs).size<=_;rw[pairsOf_size,qEj];lia));simp only[bne_self_eq_false,qEf,if_false];have e:(arrOf (SortSt.mk' general' (vs.toArray.zip vs.toArray) #[] 7 none)).map (·.2)=qDq ((qDq (qAy vs.length)).toList.map fun i=>vs.getD i Value.none):=by
   have hr:=kas_range (vs.toArray.zip vs.toArray);rw[show(vs.toArray.zip vs.toArray).size=vs.length by simp] at hr;exact kat_snds (ks:=vs) (vs:=vs) rfl (st:=SortSt.mk' general' (vs.toArray.zip vs.toArray) #[] 7 none) (p:=qDq (qAy vs.length)) hr.symm
  have z:=h (qDq (qAy vs.length)) (List.Perm.refl _) (vE (by lia) lt).symm;rw[<- e] at z;exact qAo z
 ·rw[if_neg h2,if_neg h2];have h2':2<=vs.length:=by lia
  refine qAe (kat_kind (T:=.type "int") (ht _ keep) ?_ (fun v hv=>?_) (by decide) ?_)
  ·have t:=ht _ keep;cases vs with
   | nil=>simp at h2'
   | cons v r =>
    cases fs with
    | nil=>exact t.elim
    | cons f fr=>exact qKj _
  ·obtain⟨i,t,rfl⟩:=hT v hv;exact .now
  show qBl (qBr prog w) A _ P E _;refine qAe (qEu (kat_run (ks:=vs) (κ:=tuples' true) (G:=fun p s'=>(jO vs.length p/\p=(kas_sort vs.length).run lt)/\s'={ s with heap:=((s.heap.update a (Obj.mapSeq fun _=>(#[]:Array qAf))).push (qCr "tuple" vs.toArray 0)).push (qCr "list" #[] 0) })
   (Q:=fun st' s'=>∃p:Array Nat,p.size=vs.length/\arrOf st'=p.map (kas_item (vs.toArray.zip vs.toArray))/\failedOf st'=none/\(jO vs.length p/\p=(kas_sort vs.length).run lt)/\s'={ s with heap:=((s.heap.update a (Obj.mapSeq fun _=>(#[]:Array qAf))).push (qCr "tuple" vs.toArray 0)).push (qCr "list" #[] 0) })
   rfl h2' h64 (fun p' st' s' a1 a2 a3 a4=>⟨p',a1,a2,a3,a4.1,a4.2⟩) ((Av (by lia)).wp lt (ask _ keep) fun p hp hrun=>⟨⟨hp,hrun⟩,rfl⟩)) ?_ fun _ _ e=>e)
  rintro⟨⟨⟩,st'⟩ s' ⟨p,hp,har,hf,hpm,rfl⟩;dsimp only;have hout:=kat_snds (ks:=vs) (vs:=vs) rfl har;rw[hout];refine qAe (seqEpoch_at ho6 rfl ?_);refine qAe (listUpdate_at ho6 rfl ?_ (qBy _) (by rw[qAr,qAc,qEx,hp,qEj];lia));rw[hf];simp only[bne_self_eq_false,qEf,if_false];exact qAo (h p hpm.1 hpm.2)
def gT(h:Heap)(vs:List qAf):Heap:=((h.push (qCr "list" #[] 0)).update h.objs.size (Obj.mapSeq (· ++ vs.toArray))).push (qCr "list" vs.toArray 0)
theorem iJ(q:h.get? b=some o):(gT h vs).get? b=some o:=by
 have hlt:b<h.objs.size:=qAt q;refine qAh _ ?_;rw[qFa _ _ _ _ (qBc hlt)];exact qAh _ q
theorem sJ(hl:s.heap.IsList l vs.toArray)(h64:vs.length<64)(lt:Nat->Nat->Bool)
  (ht:∀h':Heap,(∀b o,s.heap.get? b=some o->h'.get? b=some o)->KatTups h' vs fs) (hT:∀v∈fs,∃i t,v=Value.int i t)
  (ask:∀h':Heap,(∀b o,s.heap.get? b=some o->h'.get? b=some o)->∀i j C,i<vs.length->j<vs.length->C (lt i j) { s with heap:=h' }->kas_ask prog w A.in1.in1 (tuples' true) vs i j C { s with heap:=h' })
  (h:∀p:Array Nat,jO vs.length p->p=(kas_sort vs.length).run lt->Q (.ref (s.heap.objs.size+1)) { s with heap:=sortedAll s.heap vs (qDq (p.toList.map fun i=>vs.getD i Value.none)) }) :
  qBl (qBr prog w) A (call (.builtin "sorted") [.ref l]) Q E s:=by
 refine Calls.call_function_entry kind_sorted plain_sorted entry_sorted (args_sorted1 _) ?_;unfold Builtin.«sorted»;refine qAe (m:=checkCount "sorted" 1 1 _) (qAo ?_);refine qAe (collect_list hl ?_ (by rw[qEj];lia));refine qAe (wpAny_newList ?_ (by rw[qEj];lia));have hsz:((s.heap.push (qCr "list" #[] 0)).update s.heap.objs.size (Obj.mapSeq (· ++ vs.toArray))).objs.size=s.heap.objs.size+1:=by
  rw[qFp,qIs]
 have hoL:(((s.heap.push (qCr "list" #[] 0)).update s.heap.objs.size (Obj.mapSeq (· ++ vs.toArray))).push (qCr "list" vs.toArray 0)).get? (s.heap.objs.size+1)=some (qCr "list" vs.toArray 0):=by
  rw[<- hsz];exact qBb _ rfl
 show qBl _ _ _ _ _ { s with heap:=((s.heap.push (qCr "list" #[] 0)).update s.heap.objs.size (Obj.mapSeq (· ++ vs.toArray))).push (qCr "list" vs.toArray 0) };rw[hsz];have kp:∀h':Heap,(∀b o,b≠s.heap.objs.size+1->(gT s.heap vs).get? b=some o->h'.get? b=some o)->∀b o,s.heap.get? b=some o->h'.get? b=some o:=fun h' hk b o q =>
  hk b o (qBc (qGp (qAt q))) (iJ q)
 refine qAe (qCq (wpAny_call_entry slot_list_sort ⟨_,hoL,rfl⟩ entry_list_sort (lV (s:={ s with heap:=gT s.heap vs }) (fs:=fs) hoL h64 lt (fun h' hk=>ht h' (kp h' hk)) hT (fun h' hk i j C hi hj hC=>ask h' (kp h' hk) i j C hi hj hC) fun p hp hrun=>⟨_,rfl,?_⟩) (args_list_sort _)));exact qAo ⟨_,rfl,h p hp hrun⟩
end
end PySem.W
namespace L2
open PySem PySem.Spec PyProof.Rows PySem.W
theorem tV:∀(vs us:List qAf) (ns ms:List Int) (i:Nat),qGs vs ns->qGs us ms->Q (HT.lexLt ns ms) s->KatLex prog w A true (decide (vs.length<us.length)) Q (vs.zip us) i s
 | [],[],_,_,i,.nil,.nil,h=>h
 | [],_::_,_,_,i,.nil,.cons ..,h=>by
  show Q (decide _) s;rw[decide_eq_true (by simp)];exact h
 | _::_,[],_,_,i,.cons ..,.nil,h=>by
  show Q (decide _) s;rw[decide_eq_false (by simp)];exact h
 | _,_,_,_,i,.cons n t (vs:=vs) (ns:=ns) hv,.cons m u (vs:=us) (ns:=ms) hu,h=>by
  show KatLex prog w A true (decide (vs.length+1<us.length+1)) Q ((Value.int n t,Value.int m u)::vs.zip us) i s;refine kat_cons ((SeqAt.EqAt.int_int n t m u) prog w _ _ ?_);rw[show decide (vs.length+1<us.length+1)=decide (vs.length<us.length) from decide_eq_decide.mpr (by lia)];rw[HT.rZ] at h;by_cases e:n=m
  ·rw[if_pos e] at h;rw[show(n == m)=true from by simpa using e];exact kat_yes (tV vs us ns ms (i+1) hv hu h)
  ·rw[if_neg e] at h;rw[show(n == m)=false from by simpa using e];refine kat_no ?_;cases hb:(true&&i == 0) with
   | true=>exact oneLt_int h
   | false=>exact kat_one _ _ (qKg h)
def intOf:V->Int
 | .int i=>i
 | _=>0
def fM(H:Hp)(a:Addr):List Int:=match H a with
 | some (.tup xs)=>xs.map intOf
 | _=>[]
theorem iK(h:H a=some (.tup (ns.map V.int))):fM H a=ns:=by
 unfold fM;rw[h];show(ns.map V.int).map intOf=ns;rw[qCg];exact List.map_id'' (fun _=>rfl) ns
theorem mQ:∀{as:List Addr}{us:List qAf},Vals (as.map V.ref) us->us=as.map Value.ref
 | [],_,.nil=>rfl
 | a::as,_,.cons r t=>by
  cases r
  rw[mQ t];rfl
theorem mR:∀(as:List Addr),Vals (as.map V.ref) (as.map Value.ref)
 | []=>.nil
 | a::as=>.cons rfl (mR as)
section
variable {X:Cx}{pins:List (Addr×Obj)}{σ:St}{H:Hp}{s:qAi}
def yE(H:Hp)(a:Addr):Prop:=∃(i:Int) (ns:List Int),H a=some (.tup ((i::ns).map V.int))
theorem yE.there(I:Inv X pins σ H s){a:Addr}(h:yE H a):∃(o:Obj) (xs:List qAf) (n:Nat) (i:Int) (t:Tok),s.heap.get? a=some o/\o.cls = .type "tuple"/\o.data = .seq xs.toArray n/\qGs xs (fM H a)/\xs[0]?=some (.int i t):=by
 obtain⟨i,ns,h⟩:=h;obtain⟨its,r,⟨o,h1,h2,n,h3⟩,_⟩:=I.tuple (dU.of h);have hi:=intsAre_of r;rw[<- iK h] at hi;refine⟨o,its,n,i,?_⟩;obtain⟨u,hu,⟨t,rfl⟩⟩:=r.get (i:=0) (x:=.int i) rfl;exact⟨t,h1,h2,h3,hi,hu⟩
theorem kX(I:Inv X pins σ H s):∀(as:List Addr),(∀a∈as,yE H a)->∃fs,(∀v∈fs,∃i t,v=Value.int i t)/\∀h':Heap,(∀b o,s.heap.get? b=some o->h'.get? b=some o)->KatTups h' (as.map Value.ref) fs
 | [],_=>⟨[],fun v hv=>(by cases hv),fun _ _=>KatTups.nil⟩
 | a::as,h=>by
  obtain⟨fs,h1,h2⟩:=kX I as fun b hb=>h b (by simp[hb]);obtain⟨o,xs,n,i,t,g1,g2,g3,g4,g5⟩:=(h a (by simp)).there I;refine⟨.int i t::fs,fun v hv=>?_,fun h' k=>KatTups.cons (k _ _ g1) g2 g3 (by simpa using g5) (h2 h' k)⟩;rcases List.mem_cons.mp hv with rfl | hv
  ·exact⟨i,t,rfl⟩
  ·exact h1 v hv
theorem jX(hb:b≠a)(q:h.get? b=some o):(qHf h a vs out).get? b=some o:=by
 unfold qHf;rw[qFa _ _ _ _ hb];refine qAh _ (qAh _ ?_);rw[qFa _ _ _ _ hb];exact q
theorem sortedHeap_at(ho:h.get? a=some (qCr "list" vs.toArray n)):∃c,(qHf h a vs out).get? a=some (qCr "list" out c):=by
 obtain⟨e1,ho1⟩:∃e1,(h.update a (Obj.mapSeq fun _=>(#[]:Array qAf))).get? a=some (qCr "list" #[] e1):=⟨_,qFh ho fun _=>#[]⟩;unfold qHf;exact⟨_,qFh (qAh _ (qAh _ ho1)) fun _=>out⟩
theorem range_getD(as:List Addr):(qAy as.length).map (fun i=>as.getD i 0)=as:=by
 refine qJf (by simp) fun i h1 h2=>?_;simp[h2]
theorem lW:eD X (.builtin "sorted") (fun xs H Q=>∃(p:Addr) (as:List Addr),xs=[.ref p]/\aX X.K H p (as.map V.ref)/\(∀a∈as,yE H a)/\as.length<64/\∀(l:Addr) (bs:List Addr),H l=none->bs.Perm as->bs=((kas_sort as.length).run fun i j=>HT.lexLt (fM H (as.getD i 0)) (fM H (as.getD j 0))).toList.map (fun i=>as.getD i 0)->Q (.ref l) (upd H l (.lst (bs.map V.ref)))):=by
 intro pins s σ H xs us Q I r h;obtain⟨p,as,rfl,hq,ht,h64,q⟩:=h;obtain⟨u,rfl,rx⟩:=vals1 r;cases rx;obtain⟨its,r',pl,hz⟩:=I.list hq;obtain rfl:=mQ r';obtain⟨fs,f1,f2⟩:=kX I as ht;have hlen:(as.map Value.ref).length=as.length:=qAc _;refine sJ pl.isList (by rw[hlen];exact h64) (fun i j=>HT.lexLt (fM H (as.getD i 0)) (fM H (as.getD j 0))) f2 f1 (fun h' k i j C hi hj hC=>?_) fun pm hp hrun=>?_
 ·rw[hlen] at hi hj;obtain⟨o1,x1,n1,_,_,a1,a2,a3,a4,_⟩:=(ht (as.getD i 0) (by rw[qAz,qAk hi];exact qDs hi)).there I;obtain⟨o2,x2,n2,_,_,b1,b2,b3,b4,_⟩:=(ht (as.getD j 0) (by rw[qAz,qAk hj];exact qDs hj)).there I;have e:∀i,i<as.length->(as.map Value.ref).getD i Value.none = .ref (as.getD i 0):=fun i hi=>by
   rw[qAz,qBx,qAk hi,qAz,qAk hi];rfl
  unfold kas_ask;rw[e i hi,e j hj];refine kat_lt (k _ _ a1) a3 (k _ _ b1) b3 ?_;simpa using tV x1 x2 _ _ 0 a4 b4 hC
 ·rw[hlen] at hp;have kp:∀b o,s.heap.get? b=some o->(sortedAll s.heap (as.map Value.ref) (qDq (pm.toList.map fun i=>(as.map Value.ref).getD i Value.none))).get? b=some o:=fun b o e =>
   jX (h:=gT s.heap (as.map Value.ref)) (qBc (qGp (qAt e))) (iJ e)
  have hsz:((s.heap.push (qCr "list" #[] 0)).update s.heap.objs.size (Obj.mapSeq (· ++ (as.map Value.ref).toArray))).objs.size=s.heap.objs.size+1:=by
   rw[qFp,qIs]
  have hoL:(gT s.heap (as.map Value.ref)).get? (s.heap.objs.size+1)=some (qCr "list" (as.map Value.ref).toArray 0):=by
   unfold gT;rw[<- hsz];exact qBb _ rfl
  obtain⟨c,hc⟩:=sortedHeap_at (out:=qDq (pm.toList.map fun i=>(as.map Value.ref).getD i Value.none)) hoL;have eo:(pm.toList.map fun i=>(as.map Value.ref).getD i Value.none)=(pm.toList.map fun i=>as.getD i 0).map Value.ref:=by
   rw[qCg];refine qDy fun i hi=>?_;have hi:i<as.length:=List.mem_range.mp (hp.mem_iff.mp hi);show _=Value.ref (as.getD i 0);rw[qAz,qBx,qAk hi,qAz,qAk hi];rfl
  have hpm:(pm.toList.map fun i=>as.getD i 0).Perm as:=by
   have z:=hp.map (fun i=>as.getD i 0);rw[range_getD] at z;exact z
  refine⟨.ref (s.heap.objs.size+1),_,I.laid (a:=s.heap.objs.size+1) (o:=.lst ((pm.toList.map fun i=>as.getD i 0).map V.ref)) (t':=s.toks) kp (qHc _) ?_,rfl,q _ _ (I.bX.fresh (qHc _)) hpm (by rw[hrun,hlen])⟩;refine⟨?_,(pm.toList.map fun i=>as.getD i 0).map Value.ref,c,mR _,?_⟩
  ·rw[qAc,hpm.length_eq,qEj];lia
  ·rw[<- eo];exact hc
theorem oB:eD X (.builtin "sorted") (fun xs H Q=>∃(p:Addr) (as:List Addr),xs=[.ref p]/\aX X.K H p (as.map V.ref)/\(∀a∈as,yE H a)/\as.length<64/\∀(l:Addr) (bs:List Addr),H l=none->bs.Perm as->Q (.ref l) (upd H l (.lst (bs.map V.ref)))) :=
 fun pins s σ H xs us Q I r h=>lW pins s σ H xs us Q I r (let ⟨p,as,e1,e2,e3,e4,q⟩:=h;⟨p,as,e1,e2,e3,e4,fun l bs a b _=>q l bs a b⟩)
theorem vF:qBt "sorted"=some (.builtin "sorted"):=by decide +kernel
end
section
variable {X:Cx}{a b c d:Expr}{ta tb tc td:TE}{pos:Pos}
def Aw(r r' r'':R2)(ta tb tc td:TE):TT:=fun σ H Q=>ta σ H fun x H1=>tb σ H1 fun y H2=>r x y H2 fun z H3=>∃k,z = .bl k /\
 (if k=true then tc σ H3 fun w' H4=>r' y w' H4 fun z2 H5=>∃k2,z2 = .bl k2/\(if k2=true then td σ H5 fun v' H6=>r'' w' v' H6 fun z3 H7=>∃k3,z3 = .bl k3/\Q k3 H7 else Q false H5) else Q false H3)
theorem vG(ho:gR X (qCx op) r)(ho':gR X (qCx op') r')(ho'':gR X (qCx op'') r'')(ha:PE X a ta)(hb:PE X b tb)(hc:PE X c tc)(hd:PE X d td)
  (hm:lastMarks [op,op',op''] [b,c,d]=false:=by with_unfolding_all rfl):PT X (.Compare a [op,op',op''] [b,c,d] pos) (Aw r r' r'' ta tb tc td):=by
 intro pins s σ H Q I h;refine isTrue_chain (bY (ha pins s σ H _ I h) fun v s1 ⟨x,H1,I1,r1,q1⟩=>test_link (bY (hb pins s1 σ H1 _ I1 q1) fun u s2 ⟨y,H2,I2,r2,q2⟩ =>
  bY (ho pins s2 σ H2 x y v u _ I2 r1 r2 q2) fun e1 s3 ⟨z,H3,I3,r3,k,e,q3⟩=>?_)) hm
 subst e;cases r3;refine qBz ?_;cases k with
 | false=>exact ite_ff ⟨H3,I3,q3⟩
 | true =>
  refine ite_tt (test_link (bY (hc pins s3 σ H3 _ I3 q3) fun w' s4 ⟨z',H4,I4,r4,q4⟩=>bY (ho' pins s4 σ H4 y z' u w' _ I4 r2 r4 q4) fun d' s5 ⟨z2,H5,I5,r5,k2,e2,q5⟩=>?_));subst e2;cases r5;refine qBz ?_;cases k2 with
  | false=>exact ite_ff ⟨H5,I5,q5⟩
  | true =>
   refine ite_tt (test_last (bY (hd pins s5 σ H5 _ I5 q5) fun v' s6 ⟨z4,H6,I6,r6,q6⟩=>bY (ho'' pins s6 σ H6 z' z4 w' v' _ I6 r4 r6 q6) fun d2 s7 ⟨z3,H7,I7,r7,k3,e3,q7⟩=>?_));subst e3;cases r7;exact qBz ⟨H7,I7,q7⟩
end
section
variable {K:qAa}{a:Addr}{xs:List V}{σ0:St}{H1:Hp}{g:TG}{c:TT}{te:TE}{Q:Addr->Hp->Prop}
theorem vH(Ag:St->Prop)(f:Nat->V->Option V)(h0:Ag σ0)(hq:aX K H1 a xs)(hn:xs.length<=qAg)
  (step:∀(i:Nat) (x:V) (σ1:St) (H2:Hp) (k:St->VK) (k0:St->Hp->Prop),Ag σ1->aJ H1 H2->xs[i]?=some x->(∀σ2 y,Ag σ2->f i x=some y->∀H3,aJ H2 H3->k σ2 y H3)->(∀σ2,Ag σ2->f i x=none->∀H3,aJ H2 H3->k0 σ2 H3) ->
   g x σ1 H2 fun σ2 H3=>c σ2 H3 fun b H4=>if b=true then te σ2 H4 (k σ2) else k0 σ2 H4)
  (h:∀D H2,H1 D=none->aJ H1 H2->H2 D=some (.lst ((qAy xs.length).filterMap fun i=>(xs[i]?).bind (f i)))->Q D H2) :
  ∀D,H1 D=none->∃W:Nat->Nat->St->Hp->Prop,(∃m,W 0 m σ0 (upd H1 D (.lst [])))/\∀i m σ1 H2,W i m σ1 H2 ->
   ((rK K a).stop i H2/\Q D H2)\/((rK K a).go i H2/\∃N:St->Hp->Prop,(∀σ' H',N σ' H'->∃m',m'<m/\W (i+1) m' σ' H') /\
    ∀x H',(rK K a).wK i H2 x H'->g x σ1 H' fun σ2 H3=>c σ2 H3 fun b H4=>if b=true then te σ2 H4 fun y H5=>∃xs,H5 D=some (.lst xs)/\xs.length<qAg/\N σ2 (upd H5 D (.lst (xs++[y]))) else N σ2 H4):=by
 intro D hD;refine⟨fun i m σ1 H2=>Ag σ1/\aJ H1 H2/\H2 D=some (.lst ((qAy i).filterMap fun i=>(xs[i]?).bind (f i)))/\i<=xs.length/\m=xs.length-i,⟨xs.length,h0,.aI hD,aB,qBy _,rfl⟩,?_⟩;rintro i m σ1 H2 ⟨hσ,hs,hd,hi,rfl⟩;rcases qCa i xs.length with hlt | hge
 ·right
  refine⟨⟨xs,xs[i],hs.seq hq,by simp[hlt]⟩,fun σ' H'=>Ag σ'/\aJ H1 H'/\H' D=some (.lst ((qAy (i+1)).filterMap fun i=>(xs[i]?).bind (f i))),fun σ' H' ⟨a,b,c⟩=>⟨xs.length-(i+1),by lia,a,b,c,hlt,rfl⟩,?_⟩;rintro x H' ⟨rfl,hx⟩;have hx:=hx xs (hs.seq hq);refine step i x σ1 _ (fun σ2 y H5=>∃xs,H5 D=some (.lst xs)/\xs.length<qAg/\_) _ hσ hs hx (fun σ2 y a2 hy H3 hs3=>⟨_,hs3 _ _ hd,?_,a2,?_,?_⟩) fun σ2 a2 hno H3 hs3=>⟨a2,hs.trans hs3,?_⟩
  ·refine qCi (qEb _ _) ?_;rw[qDn];lia
  ·exact(hs.trans hs3).upd_ne' hD
  ·rw[aB,qDm,qCp];simp[hx,hy]
  ·rw[hs3 _ _ hd,qDm,qCp];simp[hx,hno]
 ·left
  obtain rfl:i=xs.length:=qEh hi hge;exact⟨⟨xs,hs.seq hq,qAl _⟩,h D _ hD hs hd⟩
end
section
variable {X:Cx}{Ex:XS}{o e:Expr}{es:List Expr}{ta:TE}{t:TA}{m:Str}{apos pos:Pos}{j k:Nat}
end
section
variable {X:Cx}
end
section
variable {K:qAa}{a:Addr}{xs:List V}{σ0:St}{H1:Hp}{i0:Nat}{c:TT}{te:TE}{Q:Addr->Hp->Prop}
end
section
variable {M:Model}{A:qCd}{E:qAf->qAi->Prop}{s:qAi}
end
section
variable {X:Cx}{NB:List Str}{pick:List (Option Nat)}{sc:qHe}{cl:List (Str×Addr)}{y0:Str}{pins:List (Addr×Obj)}{σ:St}{H:Hp}{s:qAi}{fp:List Addr}
end
section
variable {X:Cx}{NB:List Str}{pick:List (Option Nat)}{sc:qHe}{cl:List (Str×Addr)}{y0:Str}{elt target iter:Expr}{ifs:List Expr}{pos:Pos}{wi:TI}{g:TG}{c:TT}{te:TE}
end
end L2
namespace HT
open PySem PyProof.Rows
section
open PySem.SeqAt
open PySem.AutoSeq1 (wpAny_loadPart')
open PySem.MeetsSeq PySem.MeetsSeq2 PySem.MeetsSeq3
end
section
variable {prog:qBf}{w:qCc}{A:qCd}{E:qAf->qAi->Prop}{s:qAi}
end
end HT
namespace L2
open PySem PySem.Spec PyProof.Rows
section
variable {X:Cx}
end
section
variable {X:Cx}
end
end L2
namespace PySem
section
variable {prog:qBf}{w:qCc}{K:Type} [DecidableEq K] {knd:HeapKind prog w K}{A:qCd}{E:qAf->qAi->Prop}{s:qAi}
end
section
variable {prog:qBf}{w:qCc}{K:Type} [DecidableEq K] {knd:KeyKind prog w K}{A:qCd}{E:qAf->qAi->Prop}{s:qAi}
end
end PySem
namespace L2
open PySem PySem.Spec PyProof.Rows
section
variable {X:Cx}
end
section
variable {X:Cx}
end
section
variable {X:Cx}
def GH(K:qAa):R2:=fun x y H Q=>∃d d',fP K H x d/\fP K H y d'/\d.depth<=64/\d'.depth<=64/\Q (.bl (!PyData.eqv d d')) H
theorem Ax(hu:X.A.units+64<qJh):gR X (qCx .NotEq) (GH X.K):=by
 intro pins s σ H x y v u Q I rx ry h;obtain⟨d,d',h1,h2,hd,hd',q⟩:=h;obtain⟨as,r1⟩:=h1.reads I rx;obtain⟨bs,r2⟩:=h2.reads I ry;have sh:SeqAt.shaped d=true:=by
  show(d.canLay0&&decide (d.depth<=64))=true;rw[h1.lay.1,decide_eq_true hd];rfl
 have sh':SeqAt.shaped d'=true:=by
  show(d'.canLay0&&decide (d'.depth<=64))=true;rw[h2.lay.1,decide_eq_true hd'];rfl
 exact ne_dataH r1 r2 sh sh' hu ⟨.bl (!PyData.eqv d d'),H,I,rfl,q⟩
end
end L2
set_option maxHeartbeats 4000000
namespace L2
open PySem PySem.Spec PyProof.Rows
section
variable {X:Cx}{pins:List (Addr×Obj)}{σ:St}{H:Hp}{s:qAi}
theorem yF(F:eW X.prog X.w X.K X.mg X.base cE k f fd ps sp)(hr:cK (k+1) X.A)(hb:Binds X.K fd ps [])(I:Inv X pins σ H s)(r:Vals vs us)(h:sp vs H Q E0):
  qBl (qBr X.prog X.w) X.A.in1 (call (.ref f) us) (EP X pins σ Q) (fun _ _=>False) s:=by
 have hl:(us++[]).length=ps.length:=by rw[qCz,<- r.length];exact F.len _ _ _ _ h
 have b:=hb s us I.j9 hl;rw[qCz] at b;refine qGl (qEy (F.run X.A.in1 X.stack s H ⟨us,[]⟩ us vs Q E0 hr.in1 I.Aa.in1 b r h) fun r s' hq=>?_);cases r with
 | error e=>exact hq.elim
 | ok fl =>
  cases fl with
  | ret u=>exact I.after hq
  | next=>exact False.elim hq
  | brk=>exact False.elim hq
  | cont=>exact False.elim hq
theorem Ay(I:Inv X pins σ H s)(fS:gC X pins H S)(fI:gC X pins H Ia)(eS:s.heap.get? S=some oS)(eI:s.heap.get? Ia=some oI)(dS:∀v,oS.data≠.cell v)(dI:∀v,oI.data≠.cell v):Inv X (pins++[(S,oS),(Ia,oI)]) σ H s :=
 I.nJ fun p hp=>by
  rcases List.mem_append.mp hp with z | z
  ·exact I.pin p (qAm _ z)
  ·rcases List.mem_cons.mp z with rfl | z
   ·exact⟨eS,fS.1,fS.2.1,fS.2.2.1,dS⟩
   ·rw[List.mem_singleton.mp z];exact⟨eI,fI.1,fI.2.1,fI.2.2.1,dI⟩
theorem Az(kf:Nat->Int)(F:eW X.prog X.w X.K X.mg X.base cE k f fd ps sp)(hr:cK (k+1) X.A)(hb:Binds X.K fd ps [])
  (fS:gC X pins H S) (fI:gC X pins H Ia) (hSI:S≠Ia) (hq:aX X.K H l xs) (key:∀i v,xs[i]?=some v->sp [v] H (fun r H'=>r = .int (kf i)/\H'=H) E0){R:qKq->qAi->Prop}
  (hR:∀i x u s',xs[i]?=some x->RelV x u->(∀j,j<xs.length->kf i<=kf j/\(j<i->kf i<kf j))->Inv X pins σ H s'->R (.ok (.ret u)) s') :
  ∀(r j i:Nat) (s:qAi) (x:V) (vb:qAf) (tb:Tok) (c:Nat) (oI:Obj),xs.length-(j+1)=r->j+1<=xs.length->Inv X (pins++[(S,qCr "list" #[vb,.int (kf i) tb] c),(Ia,oI)]) σ H s->s.heap.IsListIter Ia l (j+1) ->
   xs[i]?=some x->RelV x vb->i<=j->(∀j',j'<=j->kf i<=kf j'/\(j'<i->kf i<kf j')) ->
   qFy (qBr X.prog X.w) X.A (.builtin "min.loop" ⟨[.ref Ia,.ref f,.ref S],[]⟩) R s:=by
 have hname:(toString "min" ++ toString ".loop":String)="min.loop":=by decide
 intro r;induction r with
 | zero =>
  intro j i s x vb tb c oI hr' hj I hit hx hxb hij hbest;have hin:j+1=xs.length:=by lia
  obtain⟨its,rv,p,hz⟩:=I.list hq;have hlen:=rv.length;have nS:=(I.pin (S,qCr "list" #[vb,.int (kf i) tb] c) (qAm _ (qAm _ (.head _)))).1;have I0:=I.eC;obtain⟨a0,a1,a2,a3,a4,a5⟩:=fI;obtain⟨b0,b1,b2,b3,b4,b5⟩:=fS;refine qGi qFi ?_;rw[Around.under_plainId qCu _];show qBl _ X.A.in1 (seqItems? (.ref S) >>= _) _ _ _;refine qAe (wpAny_seqItems nS rfl ?_);show qBl _ X.A.in1 (tryCatch (qJy (.ref Ia)) _ >>= _) _ _ _;refine qAe (qEv (wpAny_pyNext_list_end hr.in1.hd hit p.isList (by simp;lia) fun h' eb=>?_));have I1:Inv X pins σ H { s with heap:=h' }:=I0.turned (t':=s.toks) (fun b o hb e=>eb b o hb e) a0 a1 a3 a4 a5;have hS':h'.get? S=some (qCr "list" #[vb,.int (kf i) tb] c):=eb S _ hSI nS;have s1:=Heap.SameBut.update h' S (Obj.mapSeq fun _=>(#[]:Array qAf));show qBl _ X.A.in1 (updateSeq S (fun _=>#[]) >>= _) _ _ _;refine qAe ?_;refine wpAny_updateSeq hS' rfl (qAe (qHx (qAo ?_)));exact hR i x vb _ hx hxb (fun j' hj'=>hbest j' (by lia)) (I1.turned (fun b o hb e=>(s1.2 b hb).trans e) b0 b1 b3 b4 b5)
 | succ r ih =>
  intro j i s x vb tb c oI hr' hj I hit hx hxb hij hbest;have hlt:j+1<xs.length:=by lia
  obtain⟨its,rv,p,hz⟩:=I.list hq;have hlen:=rv.length;obtain⟨y,hy⟩:∃y,xs[j+1]?=some y:=⟨_,qAk hlt⟩;obtain⟨v,hv,rv'⟩:=rv.get hy;have nS:=(I.pin (S,qCr "list" #[vb,.int (kf i) tb] c) (qAm _ (qAm _ (.head _)))).1;have I0:=I.eC;have fI':=fI;have fS':=fS;obtain⟨a0,a1,a2,a3,a4,a5⟩:=fI;obtain⟨b0,b1,b2,b3,b4,b5⟩:=fS;refine qGi qFi ?_;rw[Around.under_plainId qCu _];show qBl _ X.A.in1 (seqItems? (.ref S) >>= _) _ _ _;refine qAe (wpAny_seqItems nS rfl ?_);show qBl _ X.A.in1 (tryCatch (qJy (.ref Ia)) _ >>= _) _ _ _;refine qAe (qEv (wpAny_pyNext_list_item hit p.isList (x:=v) (by simpa using hv) fun h' st' sb=>?_));have I1:Inv X pins σ H { s with heap:=h' }:=I0.turned (t':=s.toks) (fun b o hb e=>(sb.2 b hb).trans e) a0 a1 a3 a4 a5;obtain⟨oI',eI',ec,ed⟩:=id st';have eS':h'.get? S=some (qCr "list" #[vb,.int (kf i) tb] c):=(sb.2 S hSI).trans nS;have I2:=Ay I1 fS' fI' eS' eI' (fun v z=>nomatch z) (fun v z=>by rw[ed] at z;cases z);show qBl _ X.A.in1 (tryCatch (qFx [v] (call (.ref f) [v])) _ >>= _) _ _ _;refine qAe (qEv (qCq (qEu (yF F hr hb I2 (.cons rv' .nil) (key (j+1) y hy)) (fun x' s2 he=>?_) fun _ _ hF=>hF.elim)));obtain⟨kv,H',I3,rk,rfl,rfl⟩:=he;obtain⟨t2,rfl⟩:=(show ∃t,x'=Value.int (kf (j+1)) t from rk);have nS2:=(I3.pin (S,qCr "list" #[vb,.int (kf i) tb] c) (qAm _ (qAm _ (.head _)))).1;have nI2:=(I3.pin (Ia,oI') (qAm _ (qAm _ (.tail _ (.head _))))).1;have hit2:s2.heap.IsListIter Ia l (j+1+1):=⟨oI',nI2,ec,ed⟩;show qBl _ X.A.in1 (tryCatch (qFx [v,.int (kf (j+1)) t2] (richCompare .Lt (.int (kf (j+1)) t2) (.int (kf i) tb) >>= _)) _ >>= _) _ _ _;refine qAe (qEv (qCq (qAe (CmpOf.ints_lt (prog:=X.prog) (w:=X.w) (A:=X.A.in1) (P:=fun i v=>∃t,v = .int (kf i) t) kf (fun i v h=>h) (j+1) i _ _ _ _ _ ⟨t2,rfl⟩ ⟨tb,rfl⟩ ?_))));refine qAe (qCq (qBz ?_));refine qAe (qHx (qAo ?_));by_cases hlt2:kf (j+1)<kf i
  ·have s1:=Heap.SameBut.update s2.heap S (Obj.mapSeq fun _=>#[v,.int (kf (j+1)) t2]);obtain⟨c2,hc2⟩:∃c2,(s2.heap.update S (Obj.mapSeq fun _=>#[v,.int (kf (j+1)) t2])).get? S=some (qCr "list" #[v,.int (kf (j+1)) t2] c2):=⟨_,qFh nS2 fun _=>#[v,.int (kf (j+1)) t2]⟩;simp only[hlt2,decide_true,if_true];refine qAe ?_;refine wpAny_updateSeq nS2 rfl (qAe (qHx ?_));rw[hname];have eI4:(s2.heap.update S (Obj.mapSeq fun _=>#[v,.int (kf (j+1)) t2])).get? Ia=some oI':=(s1.2 Ia hSI.symm).trans nI2;refine qAo ⟨qGw qCu _,ih (j+1) (j+1) _ y v t2 c2 oI' (by lia) hlt (Ay (I3.eC.turned (fun b o hb e=>(s1.2 b hb).trans e) b0 b1 b3 b4 b5) fS' fI' hc2 eI4 (fun v z=>nomatch z) (fun v z=>by rw[ed] at z;cases z)) ⟨oI',eI4,ec,ed⟩ hy rv' (qAl _) fun j' hj'=>?_⟩;by_cases e:j'=j+1
   ·subst e;exact⟨by lia,fun _=>by lia⟩
   ·have q1:=(hbest j' (by lia)).1;exact⟨by lia,fun _=>by lia⟩
  ·simp only[hlt2,decide_false,qEf,if_false];refine qAe (qHx ?_);rw[hname];refine qAo ⟨qGw qCu _,ih (j+1) i _ x vb tb c oI' (by lia) hlt (I3.tok _) hit2 hx hxb (by lia) fun j' hj'=>?_⟩;by_cases e:j'=j+1
   ·subst e;exact⟨by lia,fun _=>by lia⟩
   ·exact hbest j' (by lia)
theorem AA(kf:Nat->Int)(F:eW X.prog X.w X.K X.mg X.base cE k f fd ps sp)(hr:cK (k+1) X.A)(hb:Binds X.K fd ps [])(I:Inv X pins σ H s)
  (hq:aX X.K H l xs) (h0:0<xs.length) (key:∀i v,xs[i]?=some v->sp [v] H (fun r H'=>r = .int (kf i)/\H'=H) E0)
  (hQ:∀i x,xs[i]?=some x->(∀j,j<xs.length->kf i<=kf j/\(j<i->kf i<kf j))->Q x H) :
  qBl (qBr X.prog X.w) X.A (call (.builtin "min") [.ref l] [(Str.ofString "key",.ref f)]) (EP X pins σ Q) X.xe s:=by
 have hname:(toString "min" ++ toString ".loop":String)="min.loop":=by decide
 obtain⟨its,rv,p,hz⟩:=I.list hq;have hlen:=rv.length;obtain⟨y,hy⟩:∃y,xs[0]?=some y:=⟨_,qAk h0⟩;obtain⟨v,hv,rv'⟩:=rv.get hy;refine kmk_tree PySem.F.kind_min PySem.F.plain_min PySem.F.entry_min (kmk_min_key _ _) ?_;show qBl _ X.A.in1 (Builtin.Builtins.bindParams "min" ["key","default"] 0 ⟨[],[(Str.ofString "key",.ref f)]⟩ >>= _) _ _ s;refine qAe (qHw (show Builtin.Builtins.bindParams "min" ["key","default"] 0 ⟨[],[(Str.ofString "key",.ref f)]⟩=pure [some (.ref f),none] from rfl) ?_);refine qAe (qAo ?_);refine qAe (qEs p.isList ?_);refine qAe (wpAny_newList ?_ (qBy _));rw[hname];have hS:(s.heap.push { cls:=.type "list_iterator",data:=.fields #[.ref l,.int 0 0] }).objs.size=s.heap.objs.size+1:=qIs ..;have hSI:(s.heap.push { cls:=.type "list_iterator",data:=.fields #[.ref l,.int 0 0] }).objs.size≠s.heap.objs.size:=by rw[hS];exact qKl (qGu _)
 have gI:((s.heap.push { cls:=.type "list_iterator",data:=.fields #[.ref l,.int 0 0] }).push (qCr "list" #[] 0)).get? s.heap.objs.size=some { cls:=.type "list_iterator",data:=.fields #[.ref l,.int 0 0] }:=qAh _ (qBb _ rfl);have gS:((s.heap.push { cls:=.type "list_iterator",data:=.fields #[.ref l,.int 0 0] }).push (qCr "list" #[] 0)).get? (s.heap.push { cls:=.type "list_iterator",data:=.fields #[.ref l,.int 0 0] }).objs.size=some (qCr "list" #[] 0):=qBb _ rfl;have I1:Inv X pins σ H { s with heap:=(s.heap.push { cls:=.type "list_iterator",data:=.fields #[.ref l,.int 0 0] }).push (qCr "list" #[] 0) }:=I.kept (t':=s.toks) fun b u e=>qAh _ (qAh _ e);have fI:gC X pins H s.heap.objs.size:=I.rJ (qAl _) (I.bX.fresh (qAl _));have hSle:s.heap.objs.size<=(s.heap.push { cls:=.type "list_iterator",data:=.fields #[.ref l,.int 0 0] }).objs.size:=by rw[hS];exact qHc _
 have fS:gC X pins H (s.heap.push { cls:=.type "list_iterator",data:=.fields #[.ref l,.int 0 0] }).objs.size:=I.rJ hSle (I.bX.fresh hSle);refine qAo ⟨qGw qCu _,?_⟩;show qFy (qBr X.prog X.w) X.A (.builtin "min.loop" ⟨[.ref s.heap.objs.size,.ref f,.ref (s.heap.push { cls:=.type "list_iterator",data:=.fields #[.ref l,.int 0 0] }).objs.size],[]⟩) _ { s with heap:=(s.heap.push { cls:=.type "list_iterator",data:=.fields #[.ref l,.int 0 0] }).push (qCr "list" #[] 0) };generalize (s.heap.push { cls:=.type "list_iterator",data:=.fields #[.ref l,.int 0 0] }).objs.size=S at hSI gS fS|-;generalize s.heap.objs.size=Ia at hSI gI fI|-;generalize (s.heap.push { cls:=.type "list_iterator",data:=.fields #[.ref l,.int 0 0] }).push (qCr "list" #[] 0)=hp at gI gS I1|-;obtain⟨its1,rv1,p1,_⟩:=I1.list hq;obtain⟨v1,hv1,rv1'⟩:=rv1.get hy;obtain⟨a0,a1,a2,a3,a4,a5⟩:=id fI;obtain⟨b0,b1,b2,b3,b4,b5⟩:=id fS;refine qGi qFi ?_;rw[Around.under_plainId qCu _];show qBl _ X.A.in1 (seqItems? (.ref S) >>= _) _ _ _;refine qAe (wpAny_seqItems gS rfl ?_);show qBl _ X.A.in1 (tryCatch (qJy (.ref Ia)) _ >>= _) _ _ _;refine qAe (qEv (wpAny_pyNext_list_item (i:=0) ⟨_,gI,rfl,rfl⟩ p1.isList (x:=v1) (by simpa using hv1) fun h' st' sb=>?_));have I2:Inv X pins σ H { s with heap:=h' }:=I1.turned (t':=s.toks) (fun b o hb e=>(sb.2 b hb).trans e) a0 a1 a3 a4 a5;obtain⟨oI',eI',ec,ed⟩:=id st';have eS':h'.get? S=some (qCr "list" #[] 0):=(sb.2 S hSI).trans gS;have I3:=Ay I2 fS fI eS' eI' (fun v z=>nomatch z) (fun v z=>by rw[ed] at z;cases z);show qBl _ X.A.in1 (tryCatch (qFx [v1] (call (.ref f) [v1])) _ >>= _) _ _ _;refine qAe (qEv (qCq (qEu (yF F hr hb I3 (.cons rv1' .nil) (key 0 y hy)) (fun x' s2 he=>?_) fun _ _ hF=>hF.elim)));obtain⟨kv,H',I4,rk,rfl,rfl⟩:=he;obtain⟨t2,rfl⟩:=(show ∃t,x'=Value.int (kf 0) t from rk);have nS2:=(I4.pin (S,qCr "list" #[] 0) (qAm _ (qAm _ (.head _)))).1;have nI2:=(I4.pin (Ia,oI') (qAm _ (qAm _ (.tail _ (.head _))))).1;have s1:=Heap.SameBut.update s2.heap S (Obj.mapSeq fun _=>#[v1,.int (kf 0) t2]);obtain⟨c2,hc2⟩:∃c2,(s2.heap.update S (Obj.mapSeq fun _=>#[v1,.int (kf 0) t2])).get? S=some (qCr "list" #[v1,.int (kf 0) t2] c2):=⟨_,qFh nS2 fun _=>#[v1,.int (kf 0) t2]⟩;have eI4:(s2.heap.update S (Obj.mapSeq fun _=>#[v1,.int (kf 0) t2])).get? Ia=some oI':=(s1.2 Ia hSI.symm).trans nI2;show qBl _ X.A.in1 (updateSeq S (fun _=>#[v1,.int (kf 0) t2]) >>= _) _ _ _;refine qAe ?_;refine wpAny_updateSeq nS2 rfl ?_;rw[hname];refine qAo ⟨qGw qCu _,Az kf F hr hb fS fI hSI hq key (fun i x u s' hx ru hb' I'=>⟨x,H',I',ru,hQ i x hx hb'⟩) _ 0 0 _ y v1 t2 c2 oI' rfl h0 (Ay (I4.eC.turned (t':=s2.toks) (fun b o hb e=>(s1.2 b hb).trans e) b0 b1 b3 b4 b5) fS fI hc2 eI4 (fun v z=>nomatch z) (fun v z=>by rw[ed] at z;cases z)) ⟨oI',eI4,ec,ed⟩ hy rv1' (qAl _) fun j' hj'=>?_⟩;have e:j'=0:=by lia
 subst e;exact⟨qKo _,fun h=>absurd h (qDw _)⟩
def AB(K:qAa)(sp:Sp)(t:TA):TE:=fun σ H Q=>t σ H fun vs H1=>∃(l:Addr) (xs:List V) (kf:Nat->Int),vs=[.ref l]/\aX K H1 l xs/\0<xs.length/\(∀i v,xs[i]?=some v->sp [v] H1 (fun r H'=>r = .int (kf i)/\H'=H1) E0) /\
 ∀i x,xs[i]?=some x->(∀j,j<xs.length->kf i<=kf j/\(j<i->kf i<kf j))->Q x H1
theorem vI(D:Df X.prog X.w X.K X.mg X.base cE k y ps sp f fd)(hr:cK j X.A)(hj:k+1<=j)(hg:Gl X "min")(hm:X.mg "min"=none)(hgk:PE X (.Name y p2) (tC (.ref f)))(ha:PA X [e] t)
  (he:qEm pos (qBg [e] X.env)=(false,eval e X.env)::qEm pos (qBg [] X.env):=by rfl) (hpl:(qEm pos (qBg [e] X.env)).any (·.1)=false:=by rfl) :
  PE X (.Call (.Name "min" p) [e] [⟨some "key",.Name y p2,kp⟩] pos) (AB X.K sp t):=by
 intro pins s σ H Q I h;refine qDv (g7 I hg hm CQ ?_ (by decide) (by decide));refine callWith_kw (bY (ha pos pins s σ H _ I h) fun us s1 ⟨vs,H1,I1,r1,q1⟩=>?_) he hpl;refine kws_cons (bY (hgk pins s1 σ H1 (fun v H'=>v = .ref f/\H'=H1) I1 ⟨rfl,rfl⟩) fun u s2 ⟨v,H2,I2,r2,e1,e2⟩=>kws_nil ?_);subst e1 e2;obtain rfl:u=Value.ref f:=r2;obtain⟨l,xs,kf,rfl,hq,h0,key,hQ⟩:=q1;obtain⟨u1,rfl,ru⟩:=vals1 r1;cases ru;exact AA kf D.ok (hr.mono hj) D.bd I2 hq h0 key hQ
end
end L2
set_option maxHeartbeats 4000000
namespace PySem.W
open PySem PySem.Calls PyProof.Rows
namespace S6
def rk(n:Nat)(code:Nat->Nat)(i:Nat):Nat:=((qAy n).filter fun k=>decide (code k<code i)).length
end S6
end PySem.W
namespace L2
open PySem PySem.Spec PyProof.Rows PySem.W
section
variable {X:Cx}
end
end L2
set_option maxHeartbeats 4000000
namespace L2
open PySem PySem.Spec PyProof.Rows
section
variable {prog:qBf}{w:qCc}{A:qCd}{E:qAf->qAi->Prop}{s:qAi}{d it:Addr}{o:Obj}{es:Array DictEntry}{ep:Nat}
end
section
variable {X:Cx}{tg:Expr}
end
section
variable {K:qAa}{a:Addr}{xs:List V}{σ0:St}{H1:Hp}{g:TG}{c:TT}{te:TE}{Q:Addr->Hp->Prop}
theorem sL(Ag:St->Prop)(R:Nat->V->Hp->Prop)(mono:∀i y H H',fK H H'->R i y H->R i y H')(h0:Ag σ0)(hq:aX K H1 a xs)(hn:xs.length<=qAg)
  (step:∀(i:Nat) (x:V) (t:Addr) (σ1:St) (H2:Hp) (k:St->VK) (k0:St->Hp->Prop),Ag σ1->aJ H1 H2->xs[i]?=some x->H2 t=some (.tup [.int (i:Int),x])->(∀σ2 y H3,Ag σ2->aJ H2 H3->R i y H3->k σ2 y H3) ->
   g (.ref t) σ1 H2 fun σ2 H3=>c σ2 H3 fun b H4=>if b=true then te σ2 H4 (k σ2) else k0 σ2 H4)
  (h:∀D ys H2,H1 D=none->aJ H1 H2->ys.length=xs.length->(∀i y,ys[i]?=some y->R i y H2)->H2 D=some (.lst ys)->Q D H2) :
  ∀D,H1 D=none->∃W:Nat->Nat->St->Hp->Prop,(∃m,W 0 m σ0 (upd H1 D (.lst [])))/\∀i m σ1 H2,W i m σ1 H2 ->
   ((GB K a).stop i H2/\Q D H2)\/((GB K a).go i H2/\∃N:St->Hp->Prop,(∀σ' H',N σ' H'->∃m',m'<m/\W (i+1) m' σ' H') /\
    ∀x H',(GB K a).wK i H2 x H'->g x σ1 H' fun σ2 H3=>c σ2 H3 fun b H4=>if b=true then te σ2 H4 fun y H5=>∃xs,H5 D=some (.lst xs)/\xs.length<qAg/\N σ2 (upd H5 D (.lst (xs++[y]))) else N σ2 H4):=by
 intro D hD;refine⟨fun i m σ1 H2=>Ag σ1/\aJ H1 H2/\(∃ys,ys.length=i/\(∀j y,ys[j]?=some y->R j y H2)/\H2 D=some (.lst ys))/\i<=xs.length/\m=xs.length-i,⟨xs.length,h0,.aI hD,⟨[],rfl,fun j y e=>(by cases e),aB⟩,qBy _,rfl⟩,?_⟩;rintro i m σ1 H2 ⟨hσ,hs,⟨ys,hy,hR,hd⟩,hi,rfl⟩;rcases qCa i xs.length with hlt | hge
 ·right
  refine⟨⟨xs,xs[i],hs.seq hq,by simp[hlt]⟩,fun σ' H'=>Ag σ'/\aJ H1 H'/\∃ys,ys.length=i+1/\(∀j y,ys[j]?=some y->R j y H')/\H' D=some (.lst ys),fun σ' H' ⟨a,b,c⟩=>⟨xs.length-(i+1),by lia,a,b,c,hlt,rfl⟩,?_⟩;rintro v H' ⟨t,x,rfl,ht,rfl,hx⟩;have hx:=hx xs (hs.seq hq);have hst:aJ H1 (upd H2 t (.tup [.int (i:Int),x])):=hs.trans (.aI ht);have u2:=aJ.aI (o:=.tup [.int (i:Int),x]) ht;have hdt:=u2 _ _ hd;refine step i x t σ1 _ (fun σ2 y H5=>∃xs,H5 D=some (.lst xs)/\xs.length<qAg/\_) _ hσ hst hx aB (fun σ2 y H3 a2 hs3 hR3=>⟨_,hs3 _ _ hdt,by lia,a2,(hst.trans hs3).upd_ne' hD,ys++[y],by rw[qAp];show _+1=_;lia,fun j z e=>?_,aB⟩);have keep:∀{j z},R j z H3->R j z (upd H3 D (.lst (ys++[y]))):=fun {j z} q=>mono _ _ _ _ (.lst (hs3 _ _ hdt)) q;rcases qCa j ys.length with z1 | z1
  ·rw[qDi z1] at e;exact keep (mono _ _ _ _ hs3.t (mono _ _ _ _ u2.t (hR j z e)))
  ·rw[qDh z1] at e;obtain⟨rfl,rfl⟩:j=i/\y=z:=by
    rcases qEi (j-ys.length) with q | q
    ·rw[q] at e;exact⟨by lia,Option.some.inj e⟩
    ·rw[qDt (by show 1<=_;lia)] at e;cases e
   exact keep hR3
 ·left
  obtain rfl:i=xs.length:=qEh hi hge;exact⟨⟨xs,hs.seq hq,qAl _⟩,h D ys _ hD hs hy hR hd⟩
end
section
variable {X:Cx}
end
section
variable {K:qAa}{a:Addr}{xs:List V}{lo:Int}{n:Nat}{σ0:St}{H1:Hp}{i0:Nat}{c:TT}{te:TE}{Q:Addr->Hp->Prop}
end
section
variable {X:Cx}
end
section
variable {K:qAa}{a a':Addr}{xs xs':List V}{lo:Int}{n:Nat}{σ0:St}{H1:Hp}{i0:Nat}{c:TT}{te:TE}{g:TG}{Q:Addr->Hp->Prop}
end
section
variable {X:Cx}
end
section
variable {K:qAa}{lo:Int}{n:Nat}{σ0:St}{H1:Hp}{i0:Nat}{c:TT}{te:TE}{Q:Addr->Hp->Prop}
end
section
variable {prog:qBf}{w:qCc}{A:qCd}{E:qAf->qAi->Prop}{s:qAi}
end
section
variable {X:Cx}
end
section
variable {X:Cx}
end
end L2
namespace L2
namespace ST
open PySem
end ST
end L2
namespace L2
namespace ST
open PySem PySem.Spec PyProof.Rows
def iv:qAf->Int
 | .int n _=>n
 | _=>0
section
variable {prog:qBf}{w:qCc}{A:qCd}{E:qAf->qAi->Prop}{s:qAi}
end
section
variable {prog:qBf}{w:qCc}{A:qCd}{R:qKq->qAi->Prop}{I:Addr}{fp wr:List Addr}{G:Array qKa->Array qKa->Prop}{n:Nat}{P:Nat->qAf->Prop}{St:Nat->qAi->Prop}
end
end ST
end L2
namespace PySem
namespace ST
open L2.ST
section
variable {prog:qBf}{w:qCc}{A:qCd}{E:qAf->qAi->Prop}{s:qAi}
set_option maxHeartbeats 3200000 in
end
end ST
end PySem
namespace PySem
namespace ST
open L2.ST
section
variable {prog:qBf}{w:qCc}{A:qCd}{E:qAf->qAi->Prop}{s:qAi}{I S:Addr}{o:Obj}{es:Array (Int×qAf)}{ep:Nat}{t:SetTable}
end
end ST
end PySem
namespace PySem
namespace ST
open L2.ST PyProof.Rows
section
variable {prog:qBf}{w:qCc}{A:qCd}{E:qAf->qAi->Prop}{s:qAi}{I S:Addr}{o:Obj}{es:Array (Int×qAf)}{ep:Nat}{t:SetTable}
end
end ST
end PySem
namespace PySem
namespace ST
open L2.ST PyProof.Rows
section
variable {prog:qBf}{w:qCc}{A:qCd}{E:qAf->qAi->Prop}{s:qAi}{S:Addr}{σ:List Int}
end
end ST
end PySem
namespace L2
open PySem PySem.Spec PyProof.Rows
section
variable {X:Cx}
end
end L2
set_option maxHeartbeats 4000000
namespace L2
open PySem PySem.Spec PyProof.Rows
section
variable {X:Cx}{tg:Expr}
end
section
variable {K:qAa}{a a':Addr}{xs xs':List V}{lo:Int}{n:Nat}{σ0:St}{H1:Hp}{i0:Nat}{c:TT}{te:TE}{g:TG}{Q:Addr->Hp->Prop}
end
end L2
set_option maxHeartbeats 4000000
namespace L2
open PySem PySem.Spec PyProof.Rows
end L2
set_option maxHeartbeats 4000000
namespace L2
open PySem PySem.Spec PyProof.Rows
section
variable {X:Cx}
end
section
variable {X:Cx}
end
end L2
set_option maxHeartbeats 4000000
namespace PySem.W
open PySem PySem.Calls PyProof.Rows
namespace SG
section
variable {n:Nat}{code:Nat->Nat}
abbrev lc(code:Nat->Nat):Nat->Nat->Bool:=fun i j=>decide (code i<code j)
end
end SG
end PySem.W
namespace L2
open PySem PySem.Spec PyProof.Rows PySem.W
section
variable {X:Cx}
end
section
variable {K:qAa}{a:Addr}{xs:List V}{σ0:St}{H1:Hp}{g:TG}{c:TT}{te:TE}{Q:Addr->Hp->Prop}
theorem sM(Ag:St->Prop)(R:Nat->V->Hp->Prop)(mono:∀i y H H',fK H H'->R i y H->R i y H')(h0:Ag σ0)(hq:aX K H1 a xs)(hn:xs.length<=qAg)
  (step:∀(i:Nat) (x:V) (σ1:St) (H2:Hp) (k:St->VK) (k0:St->Hp->Prop),Ag σ1->aJ H1 H2->xs[i]?=some x->(∀σ2 y H3,Ag σ2->aJ H2 H3->R i y H3->k σ2 y H3) ->
   g x σ1 H2 fun σ2 H3=>c σ2 H3 fun b H4=>if b=true then te σ2 H4 (k σ2) else k0 σ2 H4)
  (h:∀D ys H2,H1 D=none->aJ H1 H2->ys.length=xs.length->(∀i y,ys[i]?=some y->R i y H2)->H2 D=some (.lst ys)->Q D H2) :
  ∀D,H1 D=none->∃W:Nat->Nat->St->Hp->Prop,(∃m,W 0 m σ0 (upd H1 D (.lst [])))/\∀i m σ1 H2,W i m σ1 H2 ->
   ((rK K a).stop i H2/\Q D H2)\/((rK K a).go i H2/\∃N:St->Hp->Prop,(∀σ' H',N σ' H'->∃m',m'<m/\W (i+1) m' σ' H') /\
    ∀x H',(rK K a).wK i H2 x H'->g x σ1 H' fun σ2 H3=>c σ2 H3 fun b H4=>if b=true then te σ2 H4 fun y H5=>∃xs,H5 D=some (.lst xs)/\xs.length<qAg/\N σ2 (upd H5 D (.lst (xs++[y]))) else N σ2 H4):=by
 intro D hD;refine⟨fun i m σ1 H2=>Ag σ1/\aJ H1 H2/\(∃ys,ys.length=i/\(∀j y,ys[j]?=some y->R j y H2)/\H2 D=some (.lst ys))/\i<=xs.length/\m=xs.length-i,⟨xs.length,h0,.aI hD,⟨[],rfl,fun j y e=>(by cases e),aB⟩,qBy _,rfl⟩,?_⟩;rintro i m σ1 H2 ⟨hσ,hs,⟨ys,hy,hR,hd⟩,hi,rfl⟩;rcases qCa i xs.length with hlt | hge
 ·right
  refine⟨⟨xs,xs[i],hs.seq hq,by simp[hlt]⟩,fun σ' H'=>Ag σ'/\aJ H1 H'/\∃ys,ys.length=i+1/\(∀j y,ys[j]?=some y->R j y H')/\H' D=some (.lst ys),fun σ' H' ⟨a,b,c⟩=>⟨xs.length-(i+1),by lia,a,b,c,hlt,rfl⟩,?_⟩;rintro x H' ⟨rfl,hx⟩;have hx:=hx xs (hs.seq hq);refine step i x σ1 _ (fun σ2 y H5=>∃xs,H5 D=some (.lst xs)/\xs.length<qAg/\_) _ hσ hs hx (fun σ2 y H3 a2 hs3 hR3=>⟨_,hs3 _ _ hd,by lia,a2,(hs.trans hs3).upd_ne' hD,ys++[y],by rw[qAp];show _+1=_;lia,fun j z e=>?_,aB⟩);have keep:∀{j z},R j z H3->R j z (upd H3 D (.lst (ys++[y]))):=fun {j z} q=>mono _ _ _ _ (.lst (hs3 _ _ hd)) q;rcases qCa j ys.length with z1 | z1
  ·rw[qDi z1] at e;exact keep (mono _ _ _ _ hs3.t (hR j z e))
  ·rw[qDh z1] at e;obtain⟨rfl,rfl⟩:j=i/\y=z:=by
    rcases qEi (j-ys.length) with q | q
    ·rw[q] at e;exact⟨by lia,Option.some.inj e⟩
    ·rw[qDt (by show 1<=_;lia)] at e;cases e
   exact keep hR3
 ·left
  obtain rfl:i=xs.length:=qEh hi hge;exact⟨⟨xs,hs.seq hq,qAl _⟩,h D ys _ hD hs hy hR hd⟩
end
section
variable {X:Cx}
def tW:V->Prop
 | .non=>True
 | .bl _=>True
 | .int _=>True
 | .str _=>True
 | .ref _=>True
 | _=>False
theorem yG{A:qCd}{s:qAi}{x:V}{u v:qAf}(h:tW x)(r:RelV x u)(q:RelV x v):PySem.SeqAt.EqAt A s u v true:=by
 cases x with
 | non=>cases r;cases q;exact .same _
 | bl b=>cases r;cases q;exact .same _
 | int i =>
  obtain⟨t,rfl⟩:=r;obtain⟨t',rfl⟩:=q;have z:=PySem.SeqAt.EqAt.int_int (A:=A) (s:=s) i t i t';rw[beq_self_eq_true] at z;exact z
 | str b =>
  obtain⟨t,rfl⟩:=r;obtain⟨t',rfl⟩:=q;have z:=PySem.SeqAt.EqAt.str_str (A:=A) (s:=s) b t b t';rw[beq_self_eq_true] at z;exact z
 | ref a=>cases r;cases q;exact .same _
 | byt b=>cases h
 | flt b=>cases h
 | ty b=>cases h
def JT(K:qAa)(H:Hp)(x y:V):Prop:=(x=y/\tW x)\/∃(a b:Addr) (zs:List V),x = .ref a/\y = .ref b/\aX K H a zs/\aX K H b zs/\∀z∈zs,tW z
def Jf(K:qAa):R2:=fun x y H Q=>∃(l l':Addr) (xs ys:List V),x = .ref l/\y = .ref l'/\aX K H l xs/\aX K H l' ys/\xs.length=ys.length/\(∀(i:Nat) (x y:V),xs[i]?=some x->ys[i]?=some y->JT K H x y)/\Q (.bl false) H
theorem all_true(n:Nat):(qAy n).all (fun _=>true)=true:=List.all_eq_true.mpr fun _ _=>rfl
theorem j7{xs:List V}{us:List qAf}(r:Vals xs us){j:Nat}(h:j<us.toArray.size):∃x,xs[j]?=some x/\RelV x us.toArray[j]:=by
 have hl:j<xs.length:=by rw[r.length];exact h
 obtain⟨u,e,z⟩:=Vals.get r (qAk hl);refine⟨_,qAk hl,?_⟩;have:us.toArray[j]=u:=by
  have y:us[j]?=some us.toArray[j]:=by
   rw[qAk h];rfl
  rw[e] at y;exact(Option.some.inj y).symm
 rw[this];exact z
theorem yH(hu:X.A.units+64<qJh):gR X (qCx .NotEq) (Jf X.K):=by
 intro pins s σ H x y v u Q I rx ry h;obtain⟨l,l',xs,ys,rfl,rfl,h1,h2,hl,al,q⟩:=h;cases rx;cases ry;obtain⟨its,r,pl,hz⟩:=I.list h1;obtain⟨its2,r2,pl2,hz2⟩:=I.list h2;have hsz:its.toArray.size=its2.toArray.size:=by
  show its.length=its2.length;rw[<- r.length,<- r2.length,hl]
 refine PySem.SeqAt.RcNeAt.lists (e:=fun _=>true) pl.isList pl2.isList hsz (by lia) (fun j a b=>?_) _ _ _ _ ?_
 ·obtain⟨x,ex,qx⟩:=j7 r a;obtain⟨y,ey,qy⟩:=j7 r2 b;rcases al j x y ex ey with ⟨rfl,im⟩ | ⟨a',b',zs,rfl,rfl,g1,g2,im⟩
  ·exact yG im qx qy
  ·have qx:its.toArray[j]=Value.ref a':=qx;have qy:its2.toArray[j]=Value.ref b':=qy;rw[qx,qy];by_cases c:a'=b'
   ·rw[c];exact .same _
   ·obtain⟨jt,k,pk,_⟩:=I.list g1;obtain⟨jt2,k2,pk2,_⟩:=I.list g2;have z:=PySem.SeqAt.RcAt.lists (A:=X.A.in1) (e:=fun _=>true) pk.isList pk2.isList (by show jt.length=jt2.length;rw[<- k.length,<- k2.length]) (by show X.A.units+1<_;lia) (fun i a b=>by
     obtain⟨x,ex,qx⟩:=j7 k a;obtain⟨y,ey,qy⟩:=j7 k2 b;rw[ex] at ey;cases ey;exact yG (im x (qBe ex)) qx qy)
    rw[all_true] at z;exact .of_refs c z
 ·rw[all_true];exact⟨.bl false,H,I,rfl,q⟩
def Jg(K:qAa):R2:=fun x y H Q=>∃(l l':Addr) (xs:List V),x = .ref l/\y = .ref l'/\aX K H l xs/\aX K H l' []/\Q (.bl (decide (xs≠[]))) H
theorem CZ(hu:X.A.units+64<qJh):gR X (qCx .NotEq) (Jg X.K):=by
 intro pins s σ H x y v u Q I rx ry h;obtain⟨l,l',xs,rfl,rfl,h1,h2,q⟩:=h;cases rx;cases ry;obtain⟨its,r,pl,hz⟩:=I.list h1;obtain⟨its2,r2,pl2,hz2⟩:=I.list h2;have l2:its2.length=0:=by rw[<- r2.length];rfl
 by_cases c:xs=[]
 ·subst c;have l1:its.length=0:=by rw[<- r.length];rfl
  refine PySem.SeqAt.RcNeAt.lists (e:=fun _=>true) pl.isList pl2.isList (by show its.length=its2.length;lia) (by lia) (fun j a b=>absurd a (by show ¬j<its.length;lia)) _ _ _ _ ?_;rw[all_true];exact⟨.bl false,H,I,rfl,q⟩
 ·have l1:its.length≠0:=fun z=>c (List.length_eq_zero_iff.mp (by rw[r.length];exact z));refine PySem.SeqAt.RcNeAt.lists_lengths pl.isList pl2.isList (by show(its.length != its2.length)=true;rw[l2];exact bne_iff_ne.mpr l1) (by lia) _ _ _ _ ?_;rw[decide_eq_true c] at q;exact⟨.bl true,H,I,rfl,q⟩
end
end L2
set_option maxHeartbeats 4000000
namespace K10
open PySem L2
seal PE PT PW PA PS lN PG FY PI gR Ir eD PO Gn Fp Iv JP uX Cm Kf IL
def top(i:Nat):Stmt:=PySem.Challenge.pw_shareparley_k10_rules_refused.main.body.getD i (.Pass ⟨0,0,0,0⟩)
abbrev Dc:Stmt:=top 15
abbrev yI:Stmt:=top 16
abbrev Dd:Stmt:=top 17
abbrev Jh:Stmt:=top 20
abbrev De:Stmt:=top 21
abbrev Dg:Stmt:=top 22
abbrev Dh:Stmt:=top 25
abbrev Di:Stmt:=top 26
abbrev Dj:Stmt:=top 28
abbrev Dk:Stmt:=top 29
abbrev Dl:Stmt:=top 30
abbrev Ji:Stmt:=top 31
abbrev Dm:Stmt:=top 32
abbrev Jj:Stmt:=top 40
abbrev Jk:Stmt:=top 41
abbrev Dn:Stmt:=top 43
abbrev Dp:Stmt:=top 44
abbrev Dq:Stmt:=top 45
abbrev Dr:Stmt:=top 46
abbrev Ds:Stmt:=top 47
abbrev Dt:Stmt:=top 50
abbrev Du:Stmt:=top 51
abbrev Dv:Stmt:=top 52
abbrev Dw:Stmt:=top 53
abbrev Dx:Stmt:=top 54
abbrev Dy:Stmt:=top 55
abbrev Dz:Stmt:=top 56
abbrev DA:Stmt:=top 57
abbrev DB:Stmt:=top 58
abbrev DC:Stmt:=top 59
abbrev DD:Stmt:=top 60
abbrev sN:Stmt:=top 61
abbrev DE:Stmt:=top 62
abbrev DF:Stmt:=top 63
abbrev DG:Stmt:=top 64
abbrev DI:Stmt:=top 65
abbrev DJ:Stmt:=top 66
abbrev DK:Stmt:=top 67
abbrev Fs:Stmt:=inClass (top 33) 0
abbrev Ft:Stmt:=inClass (top 33) 1
abbrev vJ:Stmt:=inClass (top 33) 2
abbrev Fu:Stmt:=inClass (top 33) 3
abbrev Fv:Stmt:=inClass (top 34) 0
abbrev Fw:Stmt:=inClass (top 34) 1
abbrev Fx:Stmt:=inClass (top 37) 0
abbrev Fy:Stmt:=inClass (top 37) 1
abbrev vK:Stmt:=inClass (top 35) 0
abbrev vL:Stmt:=inClass (top 35) 1
abbrev Fz:Stmt:=inClass (top 36) 0
abbrev FA:Stmt:=inClass (top 36) 1
abbrev FC:Stmt:=inClass (top 42) 0
abbrev FD:Stmt:=inClass (top 42) 1
abbrev FE:Stmt:=inClass (top 48) 0
abbrev vM:Stmt:=inClass (top 48) 1
abbrev vN:Stmt:=inClass (top 48) 2
theorem pF{v:V}{m:Nat}(h1:gD 0 (2^m-1) v=true):∃g:Nat,v = .int (g:Int)/\g<2^m:=by
 cases v with
 | int i =>
  have z:(decide (0<=i)&&decide (i<=2^m-1))=true:=h1;rw[qAn] at z;have z1:=of_decide_eq_true z.1;have z2:=of_decide_eq_true z.2;have e:((2^m:Nat):Int)=2^m:=by push_cast;rfl
  exact⟨i.toNat,by rw[qCy z1],by lia⟩
 | _=>exact(qAj h1).elim
theorem tX{g m:Nat}(hg:g<2^m):gD 0 (2^m-1) (.int (g:Int))=true:=by
 show(decide (0<=(g:Int))&&decide ((g:Int)<=2^m-1))=true;have e:((2^m:Nat):Int)=2^m:=by push_cast;rfl
 rw[decide_eq_true (by lia),decide_eq_true (by lia)];rfl
def gK:List Int:=[1,2,4,8,16,32]
def alone(i:Nat):Int:=gK.getD i 0
def mS(g:Nat)(i:Nat):Option V:=if qCh (g:Int) (alone i)=0 then none else some (.int (i:Int))
def hN(g:Nat):Nat->List Int
 | 0=>[]
 | i+1=>if g/2^i%2=1 then hN g i++[(i:Int)] else hN g i
def dE(g:Nat):List Int:=hN g 6
theorem sO:∀g:_root_.Fin 64,(qAy 6).filterMap (mS g.1)=(dE g.1).map V.int:=by decide +kernel
theorem sP(g:Nat):∀i,(hN g i).length<=i
 | 0=>qAl _
 | i+1=>by
  have h:=sP g i;unfold hN;split
  ·rw[qAp,qIg];lia
  ·lia
theorem sQ{g m:Nat}(hg:g<2^m):∀(i:Nat) (x:Int),x∈hN g i->0<=x/\x<m
 | 0,x,h=>by cases h
 | i+1,x,h=>by
  unfold hN at h;split at h
  ·rename_i hb;rcases List.mem_append.mp h with h | h
   ·exact sQ hg i x h
   ·have:x=(i:Int):=by simpa using h
    rcases qCa i m with z | z
    ·lia
    ·have:g/2^i=0:=qGv (qAv hg (qCt (by decide) z));lia
  ·exact sQ hg i x h
def kT(ns:List Int)(g:Nat):Nat->Int
 | 0=>0
 | i+1=>if g/2^i%2=1 then kT ns g i+ns.getD i 0 else kT ns g i
def sR(ns:List Int)(g:Nat):Int:=kT ns g ns.length
theorem mT{ns:List Int}{g m:Nat}(hg:g<2^m):∀k,kT ns g (m+k)=kT ns g m
 | 0=>rfl
 | k+1=>by
  have:g/2^(m+k)=0:=qGv (qAv hg (qCt (by decide) (by lia)));show(if g/2^(m+k)%2=1 then _ else kT ns g (m+k))=_;rw[if_neg (by lia)];exact mT hg k
theorem oC(ns:List Int)(g:Nat):∀i,((hN g i).map fun h=>ns.getD h.toNat 0).sum=kT ns g i
 | 0=>rfl
 | i+1=>by
  unfold hN kT;split
  ·rw[qBw,List.sum_append,oC ns g i];simp
  ·exact oC ns g i
theorem sS{ns:List Int}{g:Nat}(hl:ns.length<=6)(hg:g<2^ns.length):((dE g).map fun h=>ns.getD h.toNat 0).sum=sR ns g:=by
 unfold dE;rw[oC];obtain⟨k,hk⟩:∃k,6=ns.length+k:=⟨6-ns.length,by lia⟩;rw[hk];exact mT hg k
theorem kY(xs:List V)(n:Nat):c8 xs (some (n:Int)) none=xs.drop n:=by
 unfold c8;rw[HT.tK,HT.kL];rcases qKm n xs.length with h | h
 ·rw[qJm h];exact qEn (by rw[qCl];lia)
 ·rw[qJj h,List.drop_length,qHt h];simp
theorem jA(xs:List V)(n:Nat):c8 xs none (some (n:Int))=xs.take n:=by
 unfold c8;rw[HT.tK,HT.kL,qHk,qIk];rcases qKm n xs.length with h | h
 ·rw[qJm h]
 ·rw[qJj h,qGt,qEn h]
theorem yJ{m:Nat}(h:m<=6):2^m<=64:=qCt (n:=2) (by decide) h
theorem cD{K:qAa}{H:Hp}{ns:List Int}:∀u∈ns.map V.int,Pl K H u:=fun u hu=>by
 obtain⟨x,_,rfl⟩:=List.mem_map.mp hu;exact .int x
theorem all_ints(ns:List Int):(ns.map V.int).all eK=true:=by
 induction ns with
 | nil=>rfl
 | cons n r ih=>exact ih
theorem pG{α β:Type}{f g:α->Option β}:∀{l:List α},(∀x∈l,f x=g x)->l.filterMap f=l.filterMap g
 | [],_=>rfl
 | x::r,h=>by
  rw[qCo,qCo,h x (by simp),pG fun y hy=>h y (by simp[hy])]
def kZ:List Int:=[1,2,4,8,16,32,64]
structure RC (K:qAa) (fE fH RU C g:Addr):Prop where
 oc:vB K C
 nm:cI K C "many"
 me:Meth K C "earn" fE
 mh:Meth K C "hands" fH
 mr:Meth K C "reckon" g
 DM:qAb K (.ref C) (.ref RU)=some true
def DN(fs:List (Str×V)):Prop:=fs.lookup ("earn":Str)=none/\fs.lookup ("hands":Str)=none/\fs.lookup ("reckon":Str)=none
def jY(P:qBf)(w:qCc)(K:qAa)(mg:Str->Option qAf)(base:Heap)(fE fH RU:Addr)(H:Hp)(a:Addr)(m:Nat)(e:Nat->Int):Prop :=
 ∃(C dx g:Addr) (fs:List (Str×V)),H a=some (.ins C dx fs)/\RC K fE fH RU C g/\fs.lookup ("many":Str)=some (.int (m:Int))/\1<=m/\m<=6/\DN fs /\
  ∃ps,Md P w K mg base 6 ps (fun vs H2 Q _=>∃gr:Nat,vs=[.ref a,.int (gr:Int)]/\gr<2^m/\aJ H H2/\∀H3,aJ H2 H3->Q (.int (e gr)) H3) g
theorem jY.same{P:qBf}{w:qCc}{K:qAa}{mg:Str->Option qAf}{base:Heap}{fE fH RU:Addr}{H H':Hp}{a:Addr}{m:Nat}{e:Nat->Int}(r:jY P w K mg base fE fH RU H a m e)(s:aJ H H'):jY P w K mg base fE fH RU H' a m e:=by
 obtain⟨C,dx,g,fs,h1,h2,h3,h4,h5,h6,ps,h7⟩:=r;exact⟨C,dx,g,fs,s _ _ h1,h2,h3,h4,h5,h6,ps,h7.imp fun vs H2 Q _ ⟨gr,a,b,c,d⟩=>⟨gr,a,b,s.trans c,d⟩⟩
def okN(xs:List V):Bool:=decide (1<=xs.length)&&decide (xs.length<=6)&&xs.all eK
theorem fQ(n:Nat):gD 1 6 (.int (n:Int))=(decide (1<=n)&&decide (n<=6)):=by
 show(decide (1<=(n:Int))&&decide ((n:Int)<=6))=_;rw[qEg,qAn,qAn,decide_eq_true_iff,decide_eq_true_iff,decide_eq_true_iff,decide_eq_true_iff];lia
structure T (K:qAa) (mg:Str->Option qAf) (AL LN RU OW PL PA VO MA NE fE fH rR rO rP rA rV rM rN iR iO iP iA iV iM iN fL SE NG NN NO NR NL NS NT NX NV TM UL:Addr):Prop where
 cQ:mg "isinstance"=none
 mU:mg "int"=none
 jB:mg "bool"=none
 dO:mg "range"=none
 dP:mg "len"=none
 eZ:mg "list"=none
 jQ:mg "sum"=none
 mV:mg "all"=none
 pH:mg "any"=none
 gL:mg "sorted"=none
 gU:mg "tuple"=none
 pI:mg "min"=none
 mW:mg "abs"=none
 k8:mg "enumerate"=none
 pJ:mg "max"=none
 yK:mg "ValueError"=none
 rG:mg "ALONE"=some (.ref AL)
 al:∀H:Hp,dU K H AL (gK.map V.int)
 FF:mg "LENGTHS"=some (.ref LN)
 ln:∀H:Hp,dU K H LN (kZ.map V.int)
 Kn:∃o,K.lookup LN=some o/\o.cls = .type "tuple"/\o.dict=none
 we:∃tk,mg "WELL"=some (.int 64 tk)
 wC:mg "Rule"=some (.ref RU)
 DO:RC K fE fH RU RU rR
 Ko:Mk K RU iR
 FG:mg "Own"=some (.ref OW)
 DP:RC K fE fH RU OW rO
 Kp:Mk K OW iO
 JU:cI K OW "numbers"
 FH:mg "Plain"=some (.ref PL)
 DQ:RC K fE fH RU PL rP
 Kq:Mk K PL iP
 JV:cI K PL "earnings"
 FI:mg "Pairs"=some (.ref PA)
 DR:RC K fE fH RU PA rA
 Kr:Mk K PA iA
 JW:cI K PA "pairs"
 FJ:mg "Votes"=some (.ref VO)
 yL:RC K fE fH RU VO rV
 Ks:Mk K VO iV
 JX:cI K VO "quota"
 GI:cI K VO "prize"
 GJ:cI K VO "weights"
 FK:mg "Match"=some (.ref MA)
 AD:RC K fE fH RU MA rM
 Kt:Mk K MA iM
 JY:cI K MA "pairs"
 GK:cI K MA "best"
 FL:mg "Net"=some (.ref NE)
 vO:RC K fE fH RU NE rN
 Ku:Mk K NE iN
 JZ:cI K NE "costs"
 DS:cI K NE "ropes"
 Kv:Meth K NE "least" fL
 Kw:∃fd,Mx K "__init__" "Rule.__init__" Fs ["self","many"] iR fd
 xH:∃fd,Mx K "hands" "Rule.hands" Ft ["self"] fH fd
 xE:∃fd,Mx K "earn" "Rule.earn" vJ ["self","group"] fE fd
 Kx:∃fd,Mx K "reckon" "Rule.reckon" Fu ["self","group"] rR fd
 Ky:∃fd,Mx K "__init__" "Own.__init__" Fv ["self","numbers"] iO fd
 Kz:∃fd,Mx K "reckon" "Own.reckon" Fw ["self","group"] rO fd
 KA:∃fd,Mx K "__init__" "Plain.__init__" Fx ["self","table"] iP fd
 KC:∃fd,Mx K "reckon" "Plain.reckon" Fy ["self","group"] rP fd
 Jl:∃fd,Mx K "__init__" "Pairs.__init__" vK ["self","many","pairs"] iA fd
 Jm:∃fd,Mx K "reckon" "Pairs.reckon" vL ["self","group"] rA fd
 KD:∃fd,Mx K "__init__" "Votes.__init__" Fz ["self","quota","prize","weights"] iV fd
 KG:∃fd,Mx K "reckon" "Votes.reckon" FA ["self","group"] rV fd
 KH:∃fd,Mx K "__init__" "Match.__init__" FC ["self","many","pairs"] iM fd
 KI:∃fd,Mx K "reckon" "Match.reckon" FD ["self","group"] rM fd
 KJ:∃fd,Mx K "__init__" "Net.__init__" FE ["self","costs","ropes"] iN fd
 Jn:∃fd,Mx K "least" "Net.least" vM ["self","group"] fL fd
 Jo:∃fd,Mx K "reckon" "Net.reckon" vN ["self","group"] rN fd
 FN:Bt K RU "__init__" iR
 GL:mg "ShareError"=some (.ref SE)
 FO:mg "NoGroup"=some (.ref NG)
 GN:mg "NoNumber"=some (.ref NN)
 GO:mg "NoOrder"=some (.ref NO)
 GP:mg "NoRows"=some (.ref NR)
 vP:mg "NoRule"=some (.ref NL)
 GQ:mg "NoShares"=some (.ref NS)
 DT:mg "NoTable"=some (.ref NT)
 GR:mg "NoText"=some (.ref NX)
 GS:mg "NoVotes"=some (.ref NV)
 GU:mg "TooMany"=some (.ref TM)
 GV:mg "Unlike"=some (.ref UL)
 KL:fX K SE
 Jp:fX K NL
 Jq:fX K NT
 yM:qDo K NL CH "ValueError.__new__"=true
 GW:qDo K NT CH "ValueError.__new__"=true
 GX:qDo K NG CH "ValueError.__new__"=true
 GY:qBa K NL (.ref SE)=some true
 GZ:qAb K (.ref NL) (.type "ValueError")=some true
 mX:qAb K (.ref NL) (.ref NL)=some true
 pK:qAb K (.ref NL) (.ref NT)=some false
 Ha:qDa K (.ref NL) [.ref NG,.ref NN,.ref NO,.ref NR,.ref NS]=some false
 Hb:qDa K (.ref NL) [.ref NX,.ref NV,.ref TM,.ref UL]=some false
 Hc:qBa K NT (.ref SE)=some true
 Hd:qAb K (.ref NT) (.type "ValueError")=some true
 mY:qAb K (.ref NT) (.ref NL)=some false
 pL:qAb K (.ref NT) (.ref NT)=some true
 He:qDa K (.ref NT) [.ref NG,.ref NN,.ref NO,.ref NR,.ref NS]=some false
 Hf:qDa K (.ref NT) [.ref NX,.ref NV,.ref TM,.ref UL]=some false
 pM:qAb K (.ref RU) (.ref OW)=some false
 pN:qAb K (.ref RU) (.ref VO)=some false
 pO:qAb K (.ref RU) (.ref PL)=some false
 pP:qAb K (.ref RU) (.ref PA)=some false
 pQ:qAb K (.ref RU) (.ref MA)=some false
 pR:qAb K (.ref RU) (.ref NE)=some false
 pS:qAb K (.ref OW) (.ref OW)=some true
 pT:qAb K (.ref OW) (.ref VO)=some false
 pU:qAb K (.ref OW) (.ref PL)=some false
 pV:qAb K (.ref OW) (.ref PA)=some false
 pW:qAb K (.ref OW) (.ref MA)=some false
 pX:qAb K (.ref OW) (.ref NE)=some false
 pY:qAb K (.ref VO) (.ref OW)=some false
 pZ:qAb K (.ref VO) (.ref VO)=some true
 p0:qAb K (.ref VO) (.ref PL)=some false
 p3:qAb K (.ref VO) (.ref PA)=some false
 p4:qAb K (.ref VO) (.ref MA)=some false
 p5:qAb K (.ref VO) (.ref NE)=some false
 p6:qAb K (.ref PL) (.ref OW)=some false
 p7:qAb K (.ref PL) (.ref VO)=some false
 p8:qAb K (.ref PL) (.ref PL)=some true
 p9:qAb K (.ref PL) (.ref PA)=some false
 qA:qAb K (.ref PL) (.ref MA)=some false
 qB:qAb K (.ref PL) (.ref NE)=some false
 qC:qAb K (.ref PA) (.ref OW)=some false
 qD:qAb K (.ref PA) (.ref VO)=some false
 qE:qAb K (.ref PA) (.ref PL)=some false
 qF:qAb K (.ref PA) (.ref PA)=some true
 qG:qAb K (.ref PA) (.ref MA)=some false
 qH:qAb K (.ref PA) (.ref NE)=some false
 qI:qAb K (.ref MA) (.ref OW)=some false
 qJ:qAb K (.ref MA) (.ref VO)=some false
 qK:qAb K (.ref MA) (.ref PL)=some false
 qL:qAb K (.ref MA) (.ref PA)=some false
 qM:qAb K (.ref MA) (.ref MA)=some true
 qN:qAb K (.ref MA) (.ref NE)=some false
 qO:qAb K (.ref NE) (.ref OW)=some false
 qP:qAb K (.ref NE) (.ref VO)=some false
 qQ:qAb K (.ref NE) (.ref PL)=some false
 qR:qAb K (.ref NE) (.ref PA)=some false
 qS:qAb K (.ref NE) (.ref MA)=some false
 qT:qAb K (.ref NE) (.ref NE)=some true
section
variable {P:qBf}{w:qCc}{K:qAa}{mg:Str->Option qAf}{base:Heap}{AL LN RU OW PL PA VO MA NE fE fH rR rO rP rA rV rM rN iR iO iP iA iV iM iN fL SE NG NN NO NR NL NS NT NX NV TM UL:Addr}{f:Addr}{fd:qAx}
def mZ(K:qAa):Sp:=fun vs H Q _=>∃v,vs=[v]/\Pl K H v/\Q (.bl (eK v)) H
theorem Hg:aL ["thing"] ["thing"] (aH Dc):=by constructor<;>first|rfl|decide +kernel
theorem DU(t:Tx K mg "is_number" Dc ["thing"] f fd)(T:T K mg AL LN RU OW PL PA VO MA NE fE fH rR rO rP rA rV rM rN iR iO iP iA iV iM iN fL SE NG NN NO NR NL NS NT NX NV TM UL):Df P w K mg base cE 1 "is_number" ["thing"] (mZ K) f fd:=by
 refine t.iC Hg (fun vs H Q E h=>?_) (fun cdv A outer s H vs Q E hr h=>?_)
 ·obtain⟨v,rfl,_⟩:=h;rfl
 ·obtain⟨v,rfl,pl,k⟩:=h;obtain⟨Ty,ty,kd⟩:=pl.ex;refine⟨_,aG (aN (dZ (aP cB (by rfl) T.cQ cJ (aA (pv 0) (aA (fF (v:=.ty "int") (by rfl) T.mU xP rfl) aD)))
   (dY (kD (aP cB (by rfl) T.cQ cJ (aA (pv 0) (aA (fF (v:=.ty "bool") (by rfl) T.jB tR rfl) aD))))))),?_⟩
  refine⟨_,rfl,v,.ty "int",_,_,_,rfl,rfl,.of ty,kd.Gz K,_,rfl,?_⟩;refine bN (fun h1=>?_) (fun h1=>?_)
  ·refine⟨_,rfl,v,.ty "bool",_,_,_,rfl,rfl,.of ty,kd.Br K,_,rfl,?_⟩;have e:(!(Ty == "bool"))=eK v:=by
    rw[Pl.eK ty];cases kd <;> first | rfl | (exact absurd h1 (by decide))
   rw[e];exact k
  ·have e:false=eK v:=by
    rw[Pl.eK ty];cases kd <;> first | rfl | (exact absurd rfl h1)
   rw[e];exact k
def sT(K:qAa):Sp:=fun vs H Q _=>∃(v:V) (lo hi:Int),vs=[v,.int lo,.int hi]/\Pl K H v/\Q (.bl (gD lo hi v)) H
theorem DV:aL ["thing","least","most"] ["thing","least","most"] (aH yI):=by constructor<;>first|rfl|decide +kernel
theorem AE{f1:Addr}{fd1:qAx}(t:Tx K mg "is_number_within" yI ["thing","least","most"] f fd)(D:Df P w K mg base cE 1 "is_number" ["thing"] (mZ K) f1 fd1):
  Df P w K mg base cE 2 "is_number_within" ["thing","least","most"] (sT K) f fd:=by
 refine t.iC DV (fun vs H Q E h=>?_) (fun cdv A outer s H vs Q E hr h=>?_)
 ·obtain⟨v,lo,hi,rfl,_⟩:=h;rfl
 ·obtain⟨v,lo,hi,rfl,pl,k⟩:=h;refine⟨_,aG (aN (dZ (bF D hr (qAl _) (by rfl) (aA (pv 0) aD)) (dY (wQ wO wO (pv 1) (pv 0) (pv 2))))),?_⟩;refine⟨_,rfl,v,rfl,pl,_,rfl,?_⟩;cases v with
  | int i =>
   refine cZ ⟨_,rfl,_,rfl,lo,i,rfl,rfl,_,rfl,?_⟩;refine bN (fun h1=>⟨_,rfl,i,hi,rfl,rfl,?_⟩) (fun h1=>?_)
   ·have e:decide (i<=hi)=gD lo hi (.int i):=by
     show _=(decide (lo<=i)&&decide (i<=hi));rw[h1,Bool.true_and]
    show Q (.bl (decide (i<=hi))) H;rw[e];exact k
   ·have e:false=gD lo hi (.int i):=by
     show _=(decide (lo<=i)&&decide (i<=hi));rw[Bool.eq_false_iff.mpr h1,qBi]
    rw[e];exact k
  | _=>exact cT k
theorem Hh:aL ["_law_found"] ["_law_found"] (aH Dt):=by constructor<;>first|rfl|decide +kernel
theorem DW(t:Tx K mg "_law_whole" Dt ["_law_found"] f fd)(T:T K mg AL LN RU OW PL PA VO MA NE fE fH rR rO rP rA rV rM rN iR iO iP iA iV iM iN fL SE NG NN NO NR NL NS NT NX NV TM UL):Df P w K mg base cE 1 "_law_whole" ["_law_found"] (mZ K) f fd:=by
 refine t.iC Hh (fun vs H Q E h=>?_) (fun cdv A outer s H vs Q E hr h=>?_)
 ·obtain⟨v,rfl,_⟩:=h;rfl
 ·obtain⟨v,rfl,pl,k⟩:=h;obtain⟨Ty,ty,kd⟩:=pl.ex;refine⟨_,aG (aN (dZ (aP cB (by rfl) T.cQ cJ (aA (pv 0) (aA (fF (v:=.ty "int") (by rfl) T.mU xP rfl) aD)))
   (dY (kD (aP cB (by rfl) T.cQ cJ (aA (pv 0) (aA (fF (v:=.ty "bool") (by rfl) T.jB tR rfl) aD))))))),?_⟩
  refine⟨_,rfl,v,.ty "int",_,_,_,rfl,rfl,.of ty,kd.Gz K,_,rfl,?_⟩;refine bN (fun h1=>?_) (fun h1=>?_)
  ·refine⟨_,rfl,v,.ty "bool",_,_,_,rfl,rfl,.of ty,kd.Br K,_,rfl,?_⟩;have e:(!(Ty == "bool"))=eK v:=by
    rw[Pl.eK ty];cases kd <;> first | rfl | (exact absurd h1 (by decide))
   rw[e];exact k
  ·have e:false=eK v:=by
    rw[Pl.eK ty];cases kd <;> first | rfl | (exact absurd rfl h1)
   rw[e];exact k
def Bx(K:qAa)(NL:Addr):Sp:=fun vs H Q E=>∃v,vs=[v]/\Pl K H v/\if gD 1 6 v=true then Q .non H else E (.ref NL) none H
theorem Hi:aL ["many"] ["many"] (aH Dd):=by constructor<;>first|rfl|decide +kernel
theorem DX{f1:Addr}{fd1:qAx}(t:Tx K mg "check_many" Dd ["many"] f fd)(T:T K mg AL LN RU OW PL PA VO MA NE fE fH rR rO rP rA rV rM rN iR iO iP iA iV iM iN fL SE NG NN NO NR NL NS NT NX NV TM UL)(D_is_number_within:Df P w K mg base cE 2 "is_number_within" ["thing","least","most"] (sT K) f1 fd1):
  Df P w K mg base (gB P w) 3 "check_many" ["many"] (Bx K NL) f fd:=by
 refine t.Ao Hi (fun vs H Q E h=>?_) (fun cdv A outer s H vs Q E hr h=>?_)
 ·obtain⟨v,rfl,_⟩:=h;rfl
 ·obtain⟨v,rfl,pl,k⟩:=h;refine⟨_,(aG (bC (fN (dG (bF D_is_number_within hr (by decide) (by rfl) (aA (pv 0) (aA aC (aA aC aD)))))) (aG (dM aV rfl (by rfl) T.vP T.yM (aA eU aD))) aQ)),?_⟩;refine⟨_,rfl,v,1,6,rfl,pl,_,rfl,?_⟩;cases e:gD 1 6 v with
  | true =>
   rw[e,if_pos rfl] at k;exact cT k
  | false =>
   rw[e,if_neg qAj] at k;exact cZ ⟨jS,k⟩
def DY:Sp:=fun vs H Q _=>∃m:Nat,vs=[.int (m:Int)]/\m<=6/\∀H',aJ H H'->Q (.int (2^m-1)) H'
theorem vQ:∀m:_root_.Fin 7,(gK.take m.1).sum=2^m.1-1:=by decide
theorem Jr:aL ["many"] ["many"] (aH Jh):=by constructor<;>first|rfl|decide +kernel
theorem Hj(t:Tx K mg "whole_company" Jh ["many"] f fd)(T:T K mg AL LN RU OW PL PA VO MA NE fE fH rR rO rP rA rV rM rN iR iO iP iA iV iM iN fL SE NG NN NO NR NL NS NT NX NV TM UL):Df P w K mg base cE 1 "whole_company" ["many"] DY f fd:=by
 refine t.iC Jr (fun vs H Q E h=>?_) (fun cdv A outer s H vs Q E hr h=>?_)
 ·obtain⟨m,rfl,_⟩:=h;rfl
 ·obtain⟨m,rfl,hm,k⟩:=h;refine⟨_,(aG (aN (aP (iF rfl) (by rfl) T.jQ oA (aA (cA tT (a8 (v:=.ref AL) (by rfl) T.rG rfl) cN (cO (pv 0))) aD)))),?_⟩;refine⟨_,rfl,_,rfl,AL,_,rfl,T.al _,fun p H' s hq=>⟨p,gK.take m,rfl,.inr ?_,?_⟩⟩
  ·rw[jA,<- qFj] at hq;exact hq
  ·rw[vQ ⟨m,by lia⟩];exact k H' s
def yN(K:qAa)(NG:Addr):Sp:=fun vs H Q E=>∃(v:V) (m:Nat),vs=[v,.int (m:Int)]/\m<=6/\Pl K H v/\(gD 0 (2^m-1) v=false->∀H',aJ H H'->E (.ref NG) none H')/\(gD 0 (2^m-1) v=true->∀H',aJ H H'->Q .non H')
theorem Hk:aL ["group","many"] ["group","many"] (aH De):=by constructor<;>first|rfl|decide +kernel
theorem DZ{f1 f2:Addr}{fd1 fd2:qAx}(t:Tx K mg "check_group" De ["group","many"] f fd)(T:T K mg AL LN RU OW PL PA VO MA NE fE fH rR rO rP rA rV rM rN iR iO iP iA iV iM iN fL SE NG NN NO NR NL NS NT NX NV TM UL)(D_is_number_within:Df P w K mg base cE 2 "is_number_within" ["thing","least","most"] (sT K) f1 fd1)
  (D_whole_company:Df P w K mg base cE 1 "whole_company" ["many"] DY f2 fd2):Df P w K mg base (gB P w) 3 "check_group" ["group","many"] (yN K NG) f fd:=by
 refine t.Ao Hk (fun vs H Q E h=>?_) (fun cdv A outer s H vs Q E hr h=>?_)
 ·obtain⟨v,m,rfl,_⟩:=h;rfl
 ·obtain⟨v,m,rfl,hm,pl,k0,k⟩:=h;refine⟨_,(aG (bC (fN (dG (bF D_is_number_within hr (by decide) (by rfl) (aA (pv 0) (aA aC (aA (bF D_whole_company hr (by decide) (by rfl) (aA (pv 1) aD)) aD)))))) (aG (dM aV rfl (by rfl) T.FO T.GX (aA eU aD))) aQ)),?_⟩;refine⟨_,rfl,_,rfl,m,rfl,hm,fun H' s=>⟨v,0,_,rfl,pl.same s,_,rfl,?_⟩⟩;cases e:gD 0 (2^m-1) v with
  | true=>exact cT (k e H' s)
  | false=>exact cZ ⟨jS,k0 e H' s⟩
theorem iL{i:Int}(h0:0<=i)(h5:i<=5):lQ (gK.map V.int) i=some (.int (alone i.toNat)):=by
 have h:i.toNat<6:=by lia
 have all:∀j:_root_.Fin 6,(gK.map V.int)[j.1]?=some (.int (alone j.1)):=by decide
 have z:=bA (all ⟨i.toNat,h⟩);rw[show(((⟨i.toNat,h⟩:_root_.Fin 6).1:Nat):Int)=i from qCy h0] at z;exact z
def yO(K:qAa)(NG:Addr):Sp:=fun vs H Q E=>∃v,vs=[v]/\Pl K H v/\(gD 0 (2^6-1) v=false->∀H',aJ H H'->E (.ref NG) none H') /\
 ∀(g:Nat) (l:Addr) (H':Hp),v = .int (g:Int)->g<64->H l=none->aJ H H'->H' l=some (.lst ((dE g).map V.int))->Q (.ref l) H'
theorem Hl:aL ["group"] ["group"] (aH Dg):=by constructor<;>first|rfl|decide +kernel
theorem Ea{f1:Addr}{fd1:qAx}(t:Tx K mg "hands_of" Dg ["group"] f fd)(T:T K mg AL LN RU OW PL PA VO MA NE fE fH rR rO rP rA rV rM rN iR iO iP iA iV iM iN fL SE NG NN NO NR NL NS NT NX NV TM UL)(D_check_group:Df P w K mg base (gB P w) 3 "check_group" ["group","many"] (yN K NG) f1 fd1):
  Df P w K mg base (gB P w) 4 "hands_of" ["group"] (yO K NG) f fd:=by
 refine t.Ao Hl (fun vs H Q E h=>?_) (fun cdv A outer s H vs Q E hr h=>?_)
 ·obtain⟨v,rfl,_⟩:=h;rfl
 ·obtain⟨v,rfl,pl,k0,k⟩:=h;refine⟨_,(aE (bO (dN aV.toPass D_check_group hr (by decide) (by rfl) (aA (pv 0) (aA (aP bE (by rfl) T.dP dD (aA (a8 (v:=.ref AL) (by rfl) T.rG rfl) aD)) aD))))
   (aG (aN (dB (NB:=["hand","group"]) (pick:=[none,some 0]) (dC (by with_unfolding_all rfl) (by exact(And.intro rfl trivial)) rfl (by decide +kernel) (by decide +kernel) (by rfl) (by rfl)) rfl
     (eN (by rfl) T.dO (aA (aP bE (by rfl) T.dP dD (aA (a8 (v:=.ref AL) (by rfl) T.rG rfl) aD)) aD)) (fun _ _ _=>bI (i:=0) (show(["hand","group"]:List Str).Nodup from by decide +kernel) rfl cP)
     (fun _ _ _=>nV (aO jG (aK kJ (pv 1) (aY (An K) (a8 (v:=.ref AL) (by rfl) T.rG rfl) (pv 0) (fun _ _=>rfl))) aC (aS _))) (fun _ _ _=>(pv 0)))))),?_⟩
  refine⟨_,rfl,AL,_,rfl,.inr (T.al _),v,6,rfl,by decide,pl,k0,fun h1 H' s1=>?_⟩;obtain⟨g,rfl,hg⟩:=pF h1;have hg:g<64:=hg;refine⟨AL,_,rfl,.inr (T.al _),_,rfl,by decide,by decide,?_⟩;refine iD (mS g) (by decide) (fun i H2 kk kk0 hi h1 h2=>?_) fun D hD=>?_
  ·obtain⟨j,rfl⟩:∃j:Nat,j=i:=⟨i,rfl⟩;have e0:(0:Int)+(j:Int)=(j:Int):=qFw _;have hat:lQ (gK.map V.int) ((0:Int)+(j:Int))=some (.int (alone j)):=by
    rw[e0];have z:=iL (i:=(j:Int)) (by lia) (by have:j<6:=hi;lia);simpa using z
   refine⟨_,rfl,_,rfl,AL,_,_,_,rfl,rfl,T.al _,hat,_,_,rfl,rfl,rfl,_,rfl,?_⟩;refine bN (fun h3=>⟨_,rfl,h1 _ ?_⟩) (fun h3=>h2 ?_)
   ·have z:¬V.int (qCh (g:Int) (alone j))=V.int 0:=of_decide_eq_false (by
     have z:(!decide (V.int (qCh (g:Int) (alone j))=V.int 0))=true:=h3;simpa using z)
    rw[e0];unfold mS;rw[if_neg fun q=>z (congrArg V.int q)]
   ·unfold mS;refine if_pos (qCw fun q=>h3 ?_);show(!decide (V.int (qCh (g:Int) (alone j))=V.int 0))=true;rw[decide_eq_false fun z=>q (V.int.inj z)];rfl
  ·have e':(qAy 6).filterMap (mS g)=(dE g).map V.int:=sO ⟨g,hg⟩;show Q _ (upd H' D (.lst ((qAy 6).filterMap (mS g))));rw[e'];exact k g D _ rfl hg (s1.free hD) (s1.trans (.aI hD)) aB
def eM(xs:List V):Bool:=[2,4,8,16,32,64].contains xs.length&&xs.all eK&&decide (xs[0]?=some (.int 0))
def By(K:qAa):Sp:=fun vs H Q _=>∃(p:Addr) (xs:List V),vs=[.ref p]/\H p=some (.lst xs)/\(∀v∈xs,Pl K H v)/\xs.length<=1000/\∀H',aJ H H'->Q (.bl (eM xs)) H'
theorem Hm:aL ["thing"] ["thing"] (aH Dh):=by constructor<;>first|rfl|decide +kernel
theorem AF(n:Nat):(!Gu (.int (n:Int)) (c8 (kZ.map V.int) (some 1) none)) = !([2,4,8,16,32,64].contains n):=by
 have e:c8 (kZ.map V.int) (some 1) none=[V.int 2,.int 4,.int 8,.int 16,.int 32,.int 64]:=by decide
 rw[e];have q:∀k:Nat,Af (.int (k:Int)) (.int (n:Int))=(n == k):=fun k=>by
  show((k:Int) == (n:Int))=(n == k);rw[qEg,beq_iff_eq,beq_iff_eq];lia
 have:=q 2;have:=q 4;have:=q 8;have:=q 16;have:=q 32;have:=q 64;simp_all [Gu];rfl
theorem Eb{f1:Addr}{fd1:qAx}(t:Tx K mg "is_table" Dh ["thing"] f fd)(T:T K mg AL LN RU OW PL PA VO MA NE fE fH rR rO rP rA rV rM rN iR iO iP iA iV iM iN fL SE NG NN NO NR NL NS NT NX NV TM UL)(D_is_number:Df P w K mg base cE 1 "is_number" ["thing"] (mZ K) f1 fd1):
  Df P w K mg base cE 2 "is_table" ["thing"] (By K) f fd:=by
 refine t.iC Hm (fun vs H Q E h=>?_) (fun cdv A outer s H vs Q E hr h=>?_)
 ·obtain⟨p,xs,rfl,_⟩:=h;rfl
 ·obtain⟨p,xs,rfl,hp,pl,hlen,k⟩:=h;refine⟨_,(aE (bC (PW.pt (pw_or (fN (dG (aP cB (by rfl) T.cQ cJ (aA (pv 0) (aA (fF (v:=.ty "list") (by rfl) T.eZ fY rfl) aD))))) (pw_or1 (aO nQ (aP bE (by rfl) T.dP dD (aA (pv 0) aD)) (cA tT (a8 (v:=.ref LN) (by rfl) T.FF rfl) (cO aC) cN) (by rfl))))) (aG (aN hW)) aQ)
   (aG (aN (dZ (aP (pD rfl) (by rfl) T.mV xT (aA (dB (NB:=["number"]) (pick:=[none]) (dC (by with_unfolding_all rfl) (by exact trivial) rfl (by decide +kernel) (by decide +kernel) (by rfl) (by rfl)) rfl
     (cW (pv 0)) (fun _ _ _=>bI (i:=0) (show(["number"]:List Str).Nodup from by decide +kernel) rfl cP)
     (fun _ _ _=>dA) (fun _ _ _=>(bF D_is_number hr (by decide) (by rfl) (aA (pv 0) aD)))) aD)) (dY (eB bJ (aY aU (pv 0) aC (fun _ _=>rfl)) aC (aS _))))))),?_⟩
  refine⟨_,rfl,.ref p,.ty "list",_,_,_,rfl,rfl,.of (.lst hp),Kd.lst.GA K,_,rfl,cT ?_⟩;refine⟨_,rfl,p,_,rfl,.inl (aX.of hp),_,rfl,LN,_,rfl,T.ln _,fun q H1 s1 hq=>⟨q,_,rfl,.inr hq,rfl,by decide,_,rfl,?_⟩⟩;show if (!Gu (.int (xs.length:Int)) (c8 (kZ.map V.int) (some 1) none))=true then _ else _;rw[AF];cases ec:[2,4,8,16,32,64].contains xs.length with
  | false =>
   have e:false=eM xs:=by unfold eM;rw[ec];rfl
   refine cZ ?_;have z:=k H1 s1;rw[<- e] at z;exact z
  | true =>
   refine cT ⟨_,rfl,p,rfl,⟨xs,aX.of (s1 _ _ hp)⟩,?_⟩;refine eJ (xs:=xs) (fun _ x=>some (.bl (eK x))) (aX.of (s1 _ _ hp)) (qBd (aW hlen)) (fun i x H2 kk kk0 s2 hx h1 h2=>?_) fun D H2 hD s2 hd=>?_
   ·exact⟨_,rfl,x,rfl,(pl x (qBe hx)).same (s1.trans s2),h1 _ rfl _ (.refl _)⟩
   ·have ed:((qAy xs.length).filterMap fun i=>(xs[i]?).bind fun x=>some (V.bl (eK x)))=(xs.map eK).map V.bl:=by
     rw[qCg,<- nZ];rfl
    rw[ed] at hd;refine⟨D,_,rfl,aX.of hd,_,rfl,?_⟩;have ea:(xs.map eK).all id=xs.all eK:=by rw[qKb];rfl
    rw[ea];cases eb:xs.all eK with
    | false =>
     have e:false=eM xs:=by unfold eM;rw[ec,eb];rfl
     refine cT ?_;have z:=k H2 (s1.trans s2);rw[<- e] at z;exact z
    | true =>
     have hpos:0<xs.length:=by
      cases xs with
      | nil=>exact absurd ec (by decide)
      | cons _ _=>exact qKj _
     obtain⟨i,hi⟩:∃i,xs[0]?=some (.int i):=by
      have hm:=List.all_eq_true.mp eb xs[0] (qDs hpos);cases e0:xs[0] with
      | int i=>exact⟨i,by rw[qAk hpos,e0]⟩
      | _=>rw[e0] at hm;exact(qAj hm).elim
     refine cZ ⟨_,rfl,p,_,_,_,rfl,rfl,aX.of (s2 _ _ (s1 _ _ hp)),bA hi,rfl,?_⟩;have e:decide (V.int i=V.int 0)=eM xs:=by unfold eM;rw[ec,eb,hi];simp
     show Q (.bl (decide (V.int i=V.int 0))) H2;rw[e];exact k H2 (s1.trans s2)
def Bz(K:qAa)(NT:Addr):Sp:=fun vs H Q E=>∃(p:Addr) (xs:List V),vs=[.ref p]/\H p=some (.lst xs)/\(∀v∈xs,Pl K H v)/\xs.length<=1000/\(eM xs=false->∀H',aJ H H'->E (.ref NT) none H') /\
 ∀m:Nat,1<=m->m<=6->xs.length=2^m->eM xs=true->∀H',aJ H H'->Q (.int (m:Int)) H'
theorem Hn:aL ["table"] ["table"] (aH Di):=by constructor<;>first|rfl|decide +kernel
theorem AG{xs:List V}(h:eM xs=true):∃m:Nat,1<=m/\m<=6/\xs.length=2^m:=by
 have z:[2,4,8,16,32,64].contains xs.length=true:=by
  unfold eM at h;rw[qAn,qAn] at h;exact h.1.1
 have z:xs.length∈[2,4,8,16,32,64]:=by simpa using z
 simp only[qBp,qAw,or_false] at z;rcases z with z | z | z | z | z | z
 ·exact⟨1,by decide,by decide,z⟩
 ·exact⟨2,by decide,by decide,z⟩
 ·exact⟨3,by decide,by decide,z⟩
 ·exact⟨4,by decide,by decide,z⟩
 ·exact⟨5,by decide,by decide,z⟩
 ·exact⟨6,by decide,by decide,z⟩
theorem AH:∀m:_root_.Fin 7,kZ[m.1]?=some ((2:Int)^m.1)/\∀j:_root_.Fin 7,j.1<m.1->kZ[j.1]?≠some ((2:Int)^m.1):=by decide
theorem Ec{f1:Addr}{fd1:qAx}(t:Tx K mg "hands_in" Di ["table"] f fd)(T:T K mg AL LN RU OW PL PA VO MA NE fE fH rR rO rP rA rV rM rN iR iO iP iA iV iM iN fL SE NG NN NO NR NL NS NT NX NV TM UL)(D_is_table:Df P w K mg base cE 2 "is_table" ["thing"] (By K) f1 fd1):
  Df P w K mg base (gB P w) 3 "hands_in" ["table"] (Bz K NT) f fd:=by
 refine t.Ao Hn (fun vs H Q E h=>?_) (fun cdv A outer s H vs Q E hr h=>?_)
 ·obtain⟨p,xs,rfl,_⟩:=h;rfl
 ·obtain⟨p,xs,rfl,hp,pl,hlen,k0,k⟩:=h;refine⟨_,(aE (bC (fN (dG (bF D_is_table hr (by decide) (by rfl) (aA (pv 0) aD)))) (aG (dM aV rfl (by rfl) T.DT T.GW (aA eU aD))) aQ)
   (aG (aN (mH PySem.F.plainAttrs_tuple PySem.F.slot_tuple_index PySem.F.type_tuple_index xU (a8 (v:=.ref LN) (by rfl) T.FF rfl) (aA (aP bE (by rfl) T.dP dD (aA (pv 0) aD)) aD))))),?_⟩
  refine⟨_,rfl,p,xs,rfl,hp,pl,hlen,fun H1 s1=>⟨_,rfl,?_⟩⟩;cases e:eM xs with
  | false=>exact cZ ⟨jS,k0 e H1 s1⟩
  | true =>
   obtain⟨m,h1,h6,hm⟩:=AG e;obtain⟨l1,l2⟩:=AH ⟨m,by lia⟩;refine cT ⟨.inr (.inl ⟨rfl,T.Kn⟩),_,rfl,p,_,rfl,.inl (aX.of (s1 _ _ hp)),LN,kZ,_,m,rfl,rfl,T.ln _,?_,?_,k m h1 h6 hm e H1 s1⟩
   ·rw[hm,l1];push_cast;rfl
   ·intro j hj;have z:=l2 ⟨j,by lia⟩ hj;rw[hm];intro q;refine z (q.trans ?_);push_cast;rfl
def qU(K:qAa)(NL:Addr):Sp:=fun vs H Q E=>∃(p:Addr) (xs:List V),vs=[.ref p]/\(H p=some (.lst xs)\/H p=some (.tup xs))/\(∀v∈xs,Pl K H v)/\xs.length<=1000/\(xs.all eK=false->∀H',aJ H H'->E (.ref NL) none H')/\(xs.all eK=true->∀H',aJ H H'->Q .non H')
theorem Ho:aL ["things"] ["things"] (aH Dj):=by constructor<;>first|rfl|decide +kernel
theorem Ed{f1:Addr}{fd1:qAx}(t:Tx K mg "check_numbers" Dj ["things"] f fd)(T:T K mg AL LN RU OW PL PA VO MA NE fE fH rR rO rP rA rV rM rN iR iO iP iA iV iM iN fL SE NG NN NO NR NL NS NT NX NV TM UL)(D_is_number:Df P w K mg base cE 1 "is_number" ["thing"] (mZ K) f1 fd1):
  Df P w K mg base (gB P w) 2 "check_numbers" ["things"] (qU K NL) f fd:=by
 refine t.Ao Ho (fun vs H Q E h=>?_) (fun cdv A outer s H vs Q E hr h=>?_)
 ·obtain⟨p,xs,rfl,_⟩:=h;rfl
 ·obtain⟨p,xs,rfl,hp,pl,hlen,k0,k⟩:=h;refine⟨_,(aG (bC (fN (dG (aP (pD rfl) (by rfl) T.mV xT (aA (dB (NB:=["thing"]) (pick:=[none]) (dC (by with_unfolding_all rfl) (by exact trivial) rfl (by decide +kernel) (by decide +kernel) (by rfl) (by rfl)) rfl
     (CP (pv 0)) (fun _ _ _=>bI (i:=0) (show(["thing"]:List Str).Nodup from by decide +kernel) rfl cP)
     (fun _ _ _=>dA) (fun _ _ _=>(bF D_is_number hr (by decide) (by rfl) (aA (pv 0) aD)))) aD)))) (aG (dM aV rfl (by rfl) T.vP T.yM (aA eU aD))) aQ)),?_⟩
  have fin:∀(D:Addr) (H2:Hp),aJ H H2->H2 D=some (.lst ((qAy xs.length).filterMap fun i=>(xs[i]?).bind fun x=>some (V.bl (eK x)))) ->
    ∃bs:List Bool,aX K H2 D (bs.map V.bl)/\bs.all id=xs.all eK:=fun D H2 s2 hd=>by
   refine⟨xs.map eK,?_,by rw[qKb];rfl⟩;rw[qCg,<- nZ] at *;exact aX.of hd
  have step:∀(i:Nat) (x:V) (H2:Hp),aJ H H2->xs[i]?=some x->Pl K H2 x:=fun i x H2 s2 hx=>(pl x (qBe hx)).same s2;have endk:∀(D:Addr) (H2:Hp) (bs:List Bool),aJ H H2->bs.all id=xs.all eK->if (!(bs.all id))=true then (1<=qAg/\E (.ref NL) none H2) else Q .non H2:=fun D H2 bs s2 e=>by
   rw[e];cases eb:xs.all eK with
   | false=>exact cZ ⟨by decide,k0 eb H2 s2⟩
   | true=>exact cT (k eb H2 s2)
  rcases hp with hp | hp
  ·refine⟨_,rfl,p,rfl,.inl ⟨⟨xs,aX.of hp⟩,?_⟩⟩;refine eJ (xs:=xs) (fun _ x=>some (.bl (eK x))) (aX.of hp) (qBd (aW hlen)) (fun i x H2 kk kk0 s2 hx h1 h2=>?_) fun D H2 hD s2 hd=>?_
   ·exact⟨_,rfl,x,rfl,step i x H2 s2 hx,h1 _ rfl _ (.refl _)⟩
   ·obtain⟨bs,q1,q2⟩:=fin D H2 s2 hd;exact⟨D,bs,rfl,q1,_,rfl,endk D H2 bs s2 q2⟩
  ·refine⟨_,rfl,p,rfl,.inr ⟨⟨xs,dU.of hp⟩,?_⟩⟩;refine xV (xs:=xs) (fun _ x=>some (.bl (eK x))) (dU.of hp) (qBd (aW hlen)) (fun i x H2 kk kk0 s2 hx h1 h2=>?_) fun D H2 hD s2 hd=>?_
   ·exact⟨_,rfl,x,rfl,step i x H2 s2 hx,h1 _ rfl _ (.refl _)⟩
   ·obtain⟨bs,q1,q2⟩:=fin D H2 s2 hd;exact⟨D,bs,rfl,q1,_,rfl,endk D H2 bs s2 q2⟩
def lM(m:Int):List V->Bool
 | [.int i,.int j,.int _]=>decide (0<=i)&&decide (i<j)&&decide (j<m)
 | _=>false
theorem k9{m:Int}{xs:List V}(h:lM m xs=true):∃i j n:Int,xs=[.int i,.int j,.int n]/\0<=i/\i<j/\j<m:=by
 unfold lM at h;split at h
 ·rename_i i j n;rw[qAn,qAn] at h;exact⟨i,j,n,rfl,of_decide_eq_true h.1.1,of_decide_eq_true h.1.2,of_decide_eq_true h.2⟩
 ·cases h
theorem sU{m:Int}{xs:List V}(h:¬∃i j n:Int,xs=[.int i,.int j,.int n]/\0<=i/\i<j/\j<m):lM m xs=false:=by
 cases e:lM m xs with
 | false=>rfl
 | true=>exact absurd (k9 e) h
def BA(K:qAa)(NL:Addr):Sp:=fun vs H Q E=>∃(m:Int) (a:Addr) (xs:List V),vs=[.int m,.ref a]/\H a=some (.tup xs)/\(∀v∈xs,Pl K H v)/\xs.length<=1000/\(lM m xs=false->∀H',aJ H H'->E (.ref NL) none H')/\(lM m xs=true->∀H',aJ H H'->Q .non H')
theorem Hq:aL ["many","pair"] ["many","pair"] (aH Dk):=by constructor<;>first|rfl|decide +kernel
theorem Ee{f1:Addr}{fd1:qAx}(t:Tx K mg "check_pair" Dk ["many","pair"] f fd)(T:T K mg AL LN RU OW PL PA VO MA NE fE fH rR rO rP rA rV rM rN iR iO iP iA iV iM iN fL SE NG NN NO NR NL NS NT NX NV TM UL)(D_check_numbers:Df P w K mg base (gB P w) 2 "check_numbers" ["things"] (qU K NL) f1 fd1):
  Df P w K mg base (gB P w) 3 "check_pair" ["many","pair"] (BA K NL) f fd:=by
 refine t.Ao Hq (fun vs H Q E h=>?_) (fun cdv A outer s H vs Q E hr h=>?_)
 ·obtain⟨m,a,xs,rfl,_⟩:=h;rfl
 ·obtain⟨m,a,xs,rfl,ha,pl,hlen,k0,k⟩:=h;refine⟨_,(aE (bC (PW.pt (pw_or (fN (dG (aP cB (by rfl) T.cQ cJ (aA (pv 1) (aA (fF (v:=.ty "tuple") (by rfl) T.gU pC rfl) aD))))) (pw_or1 (aO jG (aP bE (by rfl) T.dP dD (aA (pv 1) aD)) aC (aS _))))) (aG (dM aV rfl (by rfl) T.vP T.yM (aA eU aD))) aQ)
   (aE (bO (dN aV.toPass D_check_numbers hr (by decide) (by rfl) (aA (pv 1) aD)))
   (aG (bC (fN (vG wO mC mC aC (aY bU (pv 1) aC (fun _ _=>rfl)) (aY bU (pv 1) aC (fun _ _=>rfl)) (pv 0))) (aG (dM aV rfl (by rfl) T.vP T.yM (aA eU aD))) aQ)))),?_⟩
  refine⟨_,rfl,.ref a,.ty "tuple",_,_,_,rfl,rfl,.of (.tup ha),Kd.tup.CM K,_,rfl,cT ?_⟩;refine⟨_,rfl,a,_,rfl,.inr (dU.of ha),rfl,_,rfl,?_⟩;refine bN (fun h3=>?_) (fun h3=>?_)
  ·refine⟨jS,k0 (sU ?_) H (.refl H)⟩;rintro⟨i,j,n,rfl,_⟩;have e:decide (V.int (([V.int i,V.int j,V.int n].length:Nat):Int)=V.int 3)=true:=decide_eq_true rfl;rw[e] at h3;cases h3
  have e3:xs.length=3:=by
   refine qCw fun z=>h3 ?_;rw[decide_eq_false]
   ·rfl
   ·intro q;have:=V.int.inj q;lia
  refine⟨_,rfl,a,_,rfl,.inr ha,pl,hlen,fun no H1 s1=>k0 (sU ?_) H1 s1,fun yes H1 s1=>?_⟩
  ·rintro⟨i,j,n,rfl,_⟩;exact absurd no (by show ¬true=false;decide)
  obtain⟨i,j,n,rfl⟩:∃i j n:Int,xs=[.int i,.int j,.int n]:=by
   match xs,e3,yes with
   | [u,v,w'],_,yes =>
    rw[List.all_eq_true] at yes;have y1:=yes u (by simp);have y2:=yes v (by simp);have y3:=yes w' (by simp);cases u <;> first | (exact absurd y1 qAj) | skip
    cases v <;> first | (exact absurd y2 qAj) | skip
    cases w' <;> first | (exact absurd y3 qAj) | skip
    exact⟨_,_,_,rfl⟩
  have fail:¬(0<=i/\i<j/\j<m)->1<=qAg/\E (.ref NL) none H1:=fun z=>⟨by decide,k0 (sU (by
   rintro⟨i',j',n',e,z'⟩;cases e;exact z z')) H1 s1⟩
  refine⟨_,rfl,a,_,_,_,rfl,rfl,dU.of (s1 _ _ ha),rfl,_,_,rfl,rfl,_,rfl,?_⟩;refine bN (fun h1=>?_) (fun h1=>cZ (fail fun z=>h1 (decide_eq_true z.1)));refine⟨_,rfl,a,_,_,_,rfl,rfl,dU.of (s1 _ _ ha),rfl,_,_,rfl,rfl,_,rfl,?_⟩;refine bN (fun h2=>?_) (fun h2=>cZ (fail fun z=>h2 (decide_eq_true z.2.1)));refine⟨_,rfl,_,_,rfl,rfl,_,rfl,?_⟩;cases h3':decide (j<m) with
  | false=>exact cZ (fail fun z=>(of_decide_eq_false h3') z.2.2)
  | true =>
   refine cT (k ?_ H1 s1);show(decide (0<=i)&&decide (i<j)&&decide (j<m))=true;rw[h1,h2,h3'];rfl
def cM:List V->Int×Int
 | [.int i,.int j,.int _]=>(i,j)
 | _=>(0,0)
def e8(m:Int):List (Int×Int)->List (List V)->Bool
 | _,[]=>true
 | seen,xs::r=>lM m xs && !(seen.contains (cM xs))&&e8 m (seen++[cM xs]) r
def fB(m:Int)(xss:List (List V)):Bool:=e8 m [] xss
theorem fZ{m:Int}:∀{xss:List (List V)}{seen:List (Int×Int)},e8 m seen xss=true->∀xs∈xss,lM m xs=true
 | [],_,_,xs,h=>by cases h
 | x::r,seen,h,xs,hx=>by
  have h':(lM m x && !(seen.contains (cM x))&&e8 m (seen++[cM x]) r)=true:=h;rw[qAn,qAn] at h';rcases List.mem_cons.mp hx with rfl | hx
  ·exact h'.1.1
  ·exact fZ h'.2 xs hx
def lA(ks:List (Int×Int)):List (List Key×V):=ks.map fun k=>([Sum.inl k.1,Sum.inl k.2],V.bl true)
theorem jC(i j:Int):∀ks:List (Int×Int),g9 (lA ks) [Sum.inl i,Sum.inl j]=if ks.contains (i,j)=true then some (.bl true) else none
 | []=>rfl
 | k::r=>by
  have ih:=jC i j r;by_cases e:k=(i,j)
  ·subst e;rw[if_pos (by simp)];exact iH (p:=([Sum.inl i,Sum.inl j],V.bl true)) rfl
  ·have z:g9 (lA (k::r)) [Sum.inl i,Sum.inl j]=g9 (lA r) [Sum.inl i,Sum.inl j]:=iI (p:=([Sum.inl k.1,Sum.inl k.2],V.bl true)) (r:=lA r) (fun q=>e (by
    have q1:=List.cons.inj q;have q2:=List.cons.inj q1.2;exact Prod.ext (Sum.inl.inj q1.1) (Sum.inl.inj q2.1)))
   rw[z,ih];have e2:((k::r).contains (i,j))=r.contains (i,j):=by
    rw[List.contains_cons];have:((i,j) == k)=false:=by
     rw[beq_eq_false_iff_ne];exact fun q=>e q.symm
    rw[this,qHo]
   rw[e2]
def bT(H:Hp)(a:Addr):List V:=match H a with
 | some (.tup xs)=>xs
 | _=>[]
theorem bW{H:Hp}{a:Addr}{xs:List V}(h:H a=some (.tup xs)):bT H a=xs:=by
 unfold bT;rw[h]
def fA(K:qAa)(H:Hp)(as:List Addr):Prop:=∀a∈as,∃xs,H a=some (.tup xs)/\(∀v∈xs,Pl K H v)/\xs.length<=1000
theorem fA.eq{K:qAa}{H H':Hp}{as:List Addr}(t:fA K H as)(s:∀a xs,H a=some (.tup xs)->H' a=some (.tup xs)):as.map (bT H')=as.map (bT H):=by
 refine qDy fun a ha=>?_;obtain⟨xs,h,_⟩:=t a ha;rw[bW h,bW (s a xs h)]
def tY(K:qAa)(NL:Addr):Sp:=fun vs H Q E=>∃(m:Int) (p:Addr) (as:List Addr),vs=[.int m,.ref p]/\H p=some (.lst (as.map V.ref))/\fA K H as/\as.length<64/\(fB m (as.map (bT H))=false->∀H',aJ H H'->E (.ref NL) none H') /\
 (fB m (as.map (bT H))=true->∀(l:Addr) (bs:List Addr) (H':Hp),H l=none->bs.Perm as->aJ H H'->H' l=some (.lst (bs.map V.ref))->Q (.ref l) H')
theorem tZ:aL ["many","pairs","seen","pair","hands"] ["many","pairs"] (aH Dl):=by constructor<;>first|rfl|decide +kernel
theorem Ef{f1:Addr}{fd1:qAx}(t:Tx K mg "sorted_pairs" Dl ["many","pairs"] f fd)(T:T K mg AL LN RU OW PL PA VO MA NE fE fH rR rO rP rA rV rM rN iR iO iP iA iV iM iN fL SE NG NN NO NR NL NS NT NX NV TM UL)(D_check_pair:Df P w K mg base (gB P w) 3 "check_pair" ["many","pair"] (BA K NL) f1 fd1):
  Df P w K mg base (gB P w) 4 "sorted_pairs" ["many","pairs"] (tY K NL) f fd:=by
 refine t.Ao tZ (fun vs H Q E h=>?_) (fun cdv A outer s H vs Q E hr h=>?_)
 ·obtain⟨m,p,as,rfl,_⟩:=h;rfl
 ·obtain⟨m,p,as,rfl,hp,ht,h64,k0,k⟩:=h;refine⟨_,(aE (aZ (i:=2) tZ.nd rfl cP yB)
   (aE (g8 aV.own rfl (cW (pv 1)) (bI (i:=3) tZ.nd rfl cP)
    (aE (bO (dN aV.toPass D_check_pair hr (by decide) (by rfl) (aA (pv 0) (aA (pv 3) aD))))
    (aE (aZ (i:=4) tZ.nd rfl cP (eA (aA (aY bU (pv 3) aC (fun _ _=>rfl)) (aA (aY bU (pv 3) aC (fun _ _=>rfl)) aD))))
    (aE (bC (Cj (CW (Bp hr) (pv 4) (pv 2))) (aG (dM aV rfl (by rfl) T.vP T.yM (aA eU aD))) aQ)
    (aG (Au (Bp hr) (pv 2) (pv 4) hW rfl))))))
   (aG (aN (aP oB (by rfl) T.gL vF (aA (pv 1) aD)))))),?_⟩
  refine fun d hd=>⟨_,rfl,p,rfl,⟨_,aX.of (aJ.aI hd _ _ hp)⟩,?_⟩;refine hZ (xs:=as.map V.ref) (fun i σ' H'=>aJ H H'/\(∃o3 o4:Option V,σ'=[some (.int m),some (.ref p),some (.ref d),o3,o4])/\∃ks:List (Int×Int),ks.length<=i/\H' d=some (.dT (lA ks))/\fB m (as.map (bT H))=e8 m ks ((as.map (bT H)).drop i)) ?_ ?_ ?_ ?_
  ·exact⟨.aI hd,⟨_,_,rfl⟩,[],qBy _,aB,rfl⟩
  ·rintro i σ' H' _ ⟨s1,_⟩;exact aX.of (s1 _ _ hp)
  ·rintro i x σ' H' hx ⟨s1,⟨o3,o4,rfl⟩,ks,hks,hd1,he⟩;obtain⟨a,ha,rfl⟩:∃a,as[i]?=some a/\x = .ref a:=by
    rw[qBx] at hx;cases e:as[i]? with
    | none=>rw[e] at hx;cases hx
    | some y=>rw[e] at hx;exact⟨y,rfl,(Option.some.inj hx).symm⟩
   have hi:i<as.length:=by
    rcases qCa i as.length with z | z
    ·exact z
    ·rw[qDt z] at ha;cases ha
   obtain⟨xs,hxs,pl,hlen⟩:=ht a (qBe ha);have hdrop:(as.map (bT H)).drop i=xs::(as.map (bT H)).drop (i+1):=by
    rw[List.drop_eq_getElem_cons (by rw[qAc];exact hi),List.getElem_map];have:as[i]=a:=Option.some.inj ((qAk hi).symm.trans ha);rw[this,bW hxs]
   rw[hdrop] at he;have he':fB m (as.map (bT H))=(lM m xs && !(ks.contains (cM xs))&&e8 m (ks++[cM xs]) ((as.map (bT H)).drop (i+1))):=he;refine⟨_,rfl,_,rfl,m,a,xs,rfl,s1 _ _ hxs,fun v hv=>(pl v hv).same s1,hlen,fun no H2 s2=>?_,fun yes H2 s2=>?_⟩
   ·exact k0 (by rw[he',no];rfl) H2 (s1.trans s2)
   obtain⟨u,v,n,rfl,_⟩:=k9 yes;have ha2:=s2 _ _ (s1 _ _ hxs);refine⟨_,rfl,a,_,_,_,rfl,rfl,dU.of ha2,rfl,_,rfl,a,_,_,_,rfl,rfl,dU.of ha2,rfl,tF,fun tt htt=>?_⟩;have u3:=aJ.aI (o:=.tup [V.int u,V.int v]) htt;have hd3:=u3 _ _ (s2 _ _ hd1);refine⟨_,rfl,_,rfl,d,_,rfl,xY.t (k:=[Sum.inl u,Sum.inl v]) hd3 aB,_,rfl,?_⟩;rw[jC];cases hc:ks.contains (u,v) with
   | true =>
    rw[if_pos rfl];refine cZ ⟨jS,k0 ?_ _ ((s1.trans s2).trans u3)⟩;rw[he',show cM [V.int u,V.int v,V.int n]=(u,v) from rfl,hc,yes];rfl
   | false =>
    rw[if_neg qAj];refine cT ⟨_,rfl,_,rfl,d,_,rfl,xZ.t (k:=[Sum.inl u,Sum.inl v]) hd3 aB (by unfold lA;rw[qAc];exact aW (by lia)),?_⟩;refine⟨((s1.trans s2).trans u3).upd_ne' hd,⟨_,_,rfl⟩,ks++[(u,v)],by rw[qAp];show _+1<=_;lia,?_,?_⟩
    ·rw[aB,xW _ (by rw[jC,hc];rfl)];unfold lA;rw[qBw];rfl
    ·rw[he',show cM [V.int u,V.int v,V.int n]=(u,v) from rfl,hc,yes];rfl
  ·rintro σ' H' ⟨s1,⟨o3,o4,rfl⟩,ks,hks,hd1,he⟩;rw[qAc,qHt (by rw[qAc];exact qAl _)] at he;have he:fB m (as.map (bT H))=true:=he;refine⟨_,rfl,p,as,rfl,aX.of (s1 _ _ hp),fun a ha=>?_,h64,fun l bs hl hb=>k he l bs _ (s1.free hl) hb (s1.trans (.aI hl)) aB⟩;obtain⟨xs,hxs,_⟩:=ht a ha;obtain⟨u,v,n,e,_⟩:=k9 (fZ he xs (by rw[<- bW hxs];exact List.mem_map.mpr ⟨a,ha,rfl⟩));subst e;exact⟨u,[v,n],s1 _ _ hxs⟩
def both(g i j:Nat):Bool:=decide (g/2^i%2=1)&&decide (g/2^j%2=1)
theorem AI:∀(g:_root_.Fin 64) (i j:_root_.Fin 6),decide (qCh (g.1:Int) (qBs (alone i.1) (alone j.1))=qBs (alone i.1) (alone j.1))=both g.1 i.1 j.1:=by decide +kernel
def Eg:Sp:=fun vs H Q _=>∃g i j:Nat,vs=[.int (g:Int),.int (i:Int),.int (j:Int)]/\g<64/\i<6/\j<6/\Q (.bl (both g i j)) H
theorem Hr:aL ["group","one","other","both"] ["group","one","other"] (aH Ji):=by constructor<;>first|rfl|decide +kernel
theorem Hs(t:Tx K mg "has_both" Ji ["group","one","other"] f fd)(T:T K mg AL LN RU OW PL PA VO MA NE fE fH rR rO rP rA rV rM rN iR iO iP iA iV iM iN fL SE NG NN NO NR NL NS NT NX NV TM UL):Df P w K mg base cE 1 "has_both" ["group","one","other"] Eg f fd:=by
 refine t.iC Hr (fun vs H Q E h=>?_) (fun cdv A outer s H vs Q E hr h=>?_)
 ·obtain⟨g,i,j,rfl,_⟩:=h;rfl
 ·obtain⟨g,i,j,rfl,hg,hi,hj,k⟩:=h;refine⟨_,(aE (aZ (i:=3) Hr.nd rfl cP (aK oQ (aY bU (a8 (v:=.ref AL) (by rfl) T.rG rfl) (pv 1) (fun _ _=>rfl)) (aY bU (a8 (v:=.ref AL) (by rfl) T.rG rfl) (pv 2) (fun _ _=>rfl))))
   (aG (aN (eB bJ (aK kJ (pv 0) (pv 3)) (pv 3) (aS _))))),?_⟩
  have a1:=iL (i:=(i:Int)) (by lia) (by lia);have a2:=iL (i:=(j:Int)) (by lia) (by lia);refine⟨_,rfl,AL,_,_,_,rfl,rfl,T.al _,a1,_,rfl,AL,_,_,_,rfl,rfl,T.al _,a2,_,_,rfl,rfl,?_⟩;refine⟨_,rfl,_,rfl,_,_,rfl,rfl,_,rfl,rfl,?_⟩;have e:=AI ⟨g,hg⟩ ⟨i,hi⟩ ⟨j,hj⟩;have e':decide (V.int (qCh (g:Int) (qBs (alone i) (alone j)))=V.int (qBs (alone i) (alone j)))=both g i j:=by
   rw[<- e];exact decide_eq_decide.mpr ⟨V.int.inj,congrArg V.int⟩
  show Q (.bl (decide (V.int (qCh (g:Int) (qBs (alone i) (alone j)))=V.int (qBs (alone i) (alone j))))) H;rw[e'];exact k
def yP:Sp:=fun vs H Q _=>∃(l:Addr) (ns:List Int) (g:Nat),vs=[.ref l,.int (g:Int)]/\H l=some (.lst (ns.map V.int))/\ns.length<=6/\g<2^ns.length/\∀H',aJ H H'->Q (.int (sR ns g)) H'
theorem Ht:aL ["numbers","group"] ["numbers","group"] (aH Dm):=by constructor<;>first|rfl|decide +kernel
theorem Eh{f1:Addr}{fd1:qAx}(t:Tx K mg "sum_of_hands" Dm ["numbers","group"] f fd)(T:T K mg AL LN RU OW PL PA VO MA NE fE fH rR rO rP rA rV rM rN iR iO iP iA iV iM iN fL SE NG NN NO NR NL NS NT NX NV TM UL)(D_hands_of:Df P w K mg base (gB P w) 4 "hands_of" ["group"] (yO K NG) f1 fd1):
  Df P w K mg base cE 5 "sum_of_hands" ["numbers","group"] yP f fd:=by
 refine t.iC Ht (fun vs H Q E h=>?_) (fun cdv A outer s H vs Q E hr h=>?_)
 ·obtain⟨l,ns,g,rfl,_⟩:=h;rfl
 ·obtain⟨l,ns,g,rfl,hl,h6,hg,k⟩:=h;have hg64:g<64:=qAv hg (yJ h6);refine⟨_,(aG (aN (aP (iF rfl) (by rfl) T.jQ oA (aA (dB (NB:=["hand","numbers"]) (pick:=[none,some 0]) (dC (by with_unfolding_all rfl) (by exact(And.intro rfl trivial)) rfl (by decide +kernel) (by decide +kernel) (by rfl) (by rfl)) rfl
     (cW (dN fG D_hands_of hr (by decide) (by rfl) (aA (pv 1) aD))) (fun _ _ _=>bI (i:=0) (show(["hand","numbers"]:List Str).Nodup from by decide +kernel) rfl cP)
     (fun _ _ _=>dA) (fun _ _ _=>(aY (xK K) (pv 1) (pv 0) (fun _ _=>rfl)))) aD)))),?_⟩
  refine⟨_,rfl,_,rfl,.int _,fun no=>?_,fun g' q H1 hv _ hq s1 h1=>?_⟩
  ·exact absurd no (by rw[tX (m:=6) hg64];decide)
  ·have eg:g'=g:=by have:=V.int.inj hv;lia
   subst eg;refine⟨q,rfl,⟨_,aX.of h1⟩,?_⟩;refine eJ (xs:=(dE g').map V.int) (fun _ x=>match x with | .int i=>some (.int (ns.getD i.toNat 0)) | _=>none) (aX.of h1) ?_ (fun i x H2 kk kk0 s2 hx h1 h2=>?_) fun D H2 hD s2 hd=>?_
   ·rw[qAc];exact qBd (aW (qCe (sP g' 6) (by decide)))
   ·obtain⟨j,hj,rfl⟩:=List.mem_map.mp (qBe hx);obtain⟨j0,jl⟩:=sQ hg 6 j hj;have hjn:j.toNat<ns.length:=by lia
    have hat:lQ (ns.map V.int) j=some (.int (ns.getD j.toNat 0)):=by
     have z:=bA (xs:=ns.map V.int) (j:=j.toNat) (v:=.int (ns.getD j.toNat 0)) (by rw[qBx,qAz,qAk hjn];rfl);rw[qCy j0] at z;exact z
    exact⟨_,rfl,_,rfl,l,_,_,_,rfl,rfl,aX.of (s2 _ _ (s1 _ _ hl)),hat,h1 _ rfl _ (.refl _)⟩
   ·have ed:((qAy ((dE g').map V.int).length).filterMap fun i=>(((dE g').map V.int)[i]?).bind fun x=>match x with | .int i=>some (V.int (ns.getD i.toNat 0)) | _=>none)=((dE g').map fun h=>ns.getD h.toNat 0).map V.int:=by
     rw[fJ,qCs,qCg];show(dE g').filterMap (fun i=>some (V.int (ns.getD i.toNat 0)))=_;rw[qFq];rfl
    rw[ed] at hd;refine⟨D,_,rfl,.inl (aX.of hd),?_⟩;rw[sS h6 hg];exact k H2 (s1.trans s2)
def lX(K:qAa)(NL:Addr):Sp:=fun vs H Q E=>∃(x C dx:Addr) (v:V),vs=[.ref x,v]/\H x=some (.ins C dx [])/\wA K C/\cI K C "many"/\Pl K H v/\(gD 1 6 v=false->E (.ref NL) none H)/\(gD 1 6 v=true->Q .non (upd H x (.ins C dx [("many",v)])))
theorem Js:aL ["self","many"] ["self","many"] (aH Fs):=by constructor<;>first|rfl|decide +kernel
theorem Hu{f1:Addr}{fd1:qAx}(t:Mx K "__init__" "Rule.__init__" Fs ["self","many"] f fd)(T:T K mg AL LN RU OW PL PA VO MA NE fE fH rR rO rP rA rV rM rN iR iO iP iA iV iM iN fL SE NG NN NO NR NL NS NT NX NV TM UL)(D_check_many:Df P w K mg base (gB P w) 3 "check_many" ["many"] (Bx K NL) f1 fd1):
  Md P w K mg base 4 ["self","many"] (lX K NL) f:=by
 refine t.Bs Js (fun vs H Q E h=>?_) (fun cdv A outer s H vs Q E hr h=>?_)
 ·obtain⟨x,C,dx,v,rfl,_⟩:=h;rfl
 ·obtain⟨x,C,dx,v,rfl,hx,c,n,pl,k0,k⟩:=h;refine⟨_,(aE (bO (dN aV.toPass D_check_many hr (by decide) (by rfl) (aA (pv 1) aD)))
   (aG (eV (pv 0) (pv 1) rfl))),?_⟩
  refine⟨_,rfl,v,rfl,pl,?_⟩;cases e:gD 1 6 v with
  | false=>rw[if_neg qAj];exact k0 e
  | true =>
   rw[if_pos rfl];exact⟨_,rfl,_,rfl,x,C,dx,[],rfl,hx,c,n,by decide,k e⟩
def Hv(K:qAa):Sp:=fun vs H Q _=>∃(a C dx:Addr) (fs:List (Str×V)) (v:V),vs=[.ref a]/\H a=some (.ins C dx fs)/\wA K C/\cI K C "many"/\fs.lookup ("many":Str)=some v/\Q v H
theorem Jt:aL ["self"] ["self"] (aH Ft):=by constructor<;>first|rfl|decide +kernel
theorem Hw(t:Mx K "hands" "Rule.hands" Ft ["self"] f fd):Md P w K mg base 1 ["self"] (Hv K) f:=by
 refine t.Ap Jt (fun vs H Q E h=>?_) (fun cdv A outer s H vs Q E hr h=>?_)
 ·obtain⟨a,C,dx,fs,v,rfl,_⟩:=h;rfl
 ·obtain⟨a,C,dx,fs,v,rfl,ha,c,n,hl,k⟩:=h;refine⟨_,(aG (aN (dH (pv 0) rfl))),?_⟩;exact⟨_,rfl,a,C,dx,fs,v,rfl,ha,c,n,hl,k⟩
def Ei:Sp:=fun vs H Q _=>∃u v,vs=[u,v]/\Q (.int 0) H
theorem Ju:aL ["self","group"] ["self","group"] (aH Fu):=by constructor<;>first|rfl|decide +kernel
theorem Hx(t:Mx K "reckon" "Rule.reckon" Fu ["self","group"] f fd):Md P w K mg base 1 ["self","group"] Ei f:=by
 refine t.Ap Ju (fun vs H Q E h=>?_) (fun cdv A outer s H vs Q E hr h=>?_)
 ·obtain⟨u,v,rfl,_⟩:=h;rfl
 ·obtain⟨u,v,rfl,k⟩:=h;exact⟨_,(aG (aN aC)),k⟩
def BB(P:qBf)(w:qCc)(K:qAa)(mg:Str->Option qAf)(base:Heap)(fE fH RU NG:Addr):Sp:=fun vs H Q E=>∃(a:Addr) (m:Nat) (e:Nat->Int) (v:V),vs=[.ref a,v]/\jY P w K mg base fE fH RU H a m e/\Pl K H v /\
 (gD 0 (2^m-1) v=false->∀H',aJ H H'->E (.ref NG) none H')/\∀(g:Nat),v = .int (g:Int)->g<2^m->∀H',aJ H H'->Q (.int (e g)) H'
theorem Hy:aL ["self","group"] ["self","group"] (aH vJ):=by constructor<;>first|rfl|decide +kernel
theorem Ej{f1:Addr}{fd1:qAx}(t:Mx K "earn" "Rule.earn" vJ ["self","group"] f fd)(T:T K mg AL LN RU OW PL PA VO MA NE fE fH rR rO rP rA rV rM rN iR iO iP iA iV iM iN fL SE NG NN NO NR NL NS NT NX NV TM UL)(D_check_group:Df P w K mg base (gB P w) 3 "check_group" ["group","many"] (yN K NG) f1 fd1):
  Md P w K mg base 7 ["self","group"] (BB P w K mg base fE fH RU NG) f:=by
 refine t.Bs Hy (fun vs H Q E h=>?_) (fun cdv A outer s H vs Q E hr h=>?_)
 ·obtain⟨a,m,e,v,rfl,_⟩:=h;rfl
 ·obtain⟨a,m,e,v,rfl,ro,pl,k0,k⟩:=h;refine⟨_,(aE (bO (dN aV.toPass D_check_group hr (by decide) (by rfl) (aA (pv 1) (aA (dH (pv 0) rfl) aD))))
   (aG (aN (iE (k:=6) aV.toPass (pv 0) hr (by decide) (aA (pv 1) aD))))),?_⟩
  obtain⟨C,dx,g,fs,h1,h2,h3,h4,h5,h6,ps,h7⟩:=ro;refine⟨_,rfl,_,rfl,a,C,dx,fs,_,rfl,h1,h2.oc.cl,h2.nm,h3,v,m,rfl,h5,pl,k0,fun yes H1 s1=>?_⟩;obtain⟨gr,rfl,hg⟩:=pF yes;refine⟨_,rfl,a,C,dx,fs,g,_,rfl,s1 _ _ h1,h6.2.2,h2.oc.cl,h2.mr,⟨ps,h7⟩,?_⟩;exact⟨_,rfl,gr,rfl,hg,s1,fun H3 s3=>k gr rfl hg H3 (s1.trans s3)⟩
def AJ(K:qAa)(NL OW:Addr):Sp:=fun vs H Q E=>∃(x dx p:Addr) (xs:List V),vs=[.ref x,.ref p]/\H x=some (.ins OW dx [])/\H p=some (.lst xs)/\(∀v∈xs,Pl K H v)/\xs.length<=1000 /\
 (okN xs=false->∀H',SameBut x H H'->E (.ref NL) none H') /\
 (okN xs=true->∀l H',H l=none->SameBut x H H'->H' x=some (.ins OW dx [("many",.int (xs.length:Int)),("numbers",.ref l)])->H' l=some (.lst xs)->Q .non H')
theorem Jv:aL ["self","numbers"] ["self","numbers"] (aH Fv):=by constructor<;>first|rfl|decide +kernel
theorem HA{f1:Addr}{fd1:qAx}(t:Mx K "__init__" "Own.__init__" Fv ["self","numbers"] f fd)(T:T K mg AL LN RU OW PL PA VO MA NE fE fH rR rO rP rA rV rM rN iR iO iP iA iV iM iN fL SE NG NN NO NR NL NS NT NX NV TM UL)(D_RI:Md P w K mg base 4 ["self","many"] (lX K NL) iR)(D_check_numbers:Df P w K mg base (gB P w) 2 "check_numbers" ["things"] (qU K NL) f1 fd1):
  Md P w K mg base 5 ["self","numbers"] (AJ K NL OW) f:=by
 refine t.Bs Jv (fun vs H Q E h=>?_) (fun cdv A outer s H vs Q E hr h=>?_)
 ·obtain⟨x,dx,p,xs,rfl,_⟩:=h;rfl
 ·obtain⟨x,dx,p,xs,rfl,hx,hp,pl,hlen,k0,k⟩:=h;refine⟨_,(aE (bO (mM aV.toPass (by rfl) T.wC T.FN D_RI hr (by decide) (aA (pv 0) (aA (aP bE (by rfl) T.dP dD (aA (pv 1) aD)) aD))))
   (aE (bO (dN aV.toPass D_check_numbers hr (by decide) (by rfl) (aA (pv 1) aD)))
   (aG (eV (pv 0) (eO dJ (by rfl) T.eZ fY (aA (pv 1) aD)) rfl)))),?_⟩
  refine⟨_,rfl,_,rfl,p,_,rfl,.inl (aX.of hp),x,OW,dx,_,rfl,hx,T.DP.oc.cl,T.DP.nm,.int _,fun no=>?_,fun yes=>?_⟩
  ·refine k0 ?_ H ((aJ.refl H).but x);unfold okN;rw[fQ] at no;rw[no];rfl
  have ne:p≠x:=eR hp hx (by intro z;cases z);have hp1:upd H x (.ins OW dx [("many",V.int (xs.length:Int))]) p=some (.lst xs):=by rw[aM ne];exact hp
  have sb:SameBut x H (upd H x (.ins OW dx [("many",V.int (xs.length:Int))])):=((aJ.refl H).but x).gJ _;have pl1:∀v∈xs,Pl K (upd H x (.ins OW dx [("many",V.int (xs.length:Int))])) v:=fun v hv=>(pl v hv).eL hx;refine⟨_,rfl,p,xs,rfl,.inl hp1,pl1,hlen,fun no H1 s1=>?_,fun yes2 H1 s1=>?_⟩
  ·refine k0 ?_ H1 (sb.then s1);unfold okN;rw[no,qBo]
  refine⟨_,rfl,p,_,rfl,.inl (aX.of (s1 _ _ hp1)),fun l hl=>?_⟩;have u2:=aJ.aI (o:=.lst xs) hl;have hx2:=u2 _ _ (s1 _ _ (aB (H:=H) (a:=x) (o:=.ins OW dx [("many",V.int (xs.length:Int))])));refine⟨_,rfl,x,OW,dx,_,rfl,hx2,T.DP.oc.cl,T.JU,(by show 1<1000;decide),?_⟩;have nl:l≠x:=(a9 (s1 _ _ (aB (H:=H) (a:=x) (o:=.ins OW dx [("many",V.int (xs.length:Int))]))) hl).symm;refine k ?_ l _ ?_ ((sb.then (s1.trans u2)).gJ _) aB (by rw[aM nl];exact aB)
  ·unfold okN;rw[fQ] at yes;rw[yes,yes2];rfl
  ·cases e:H l with
   | none=>rfl
   | some o =>
    have z:=s1 l o (by rw[aM nl];exact e);rw[hl] at z;cases z
def Ek(OW:Addr):Sp:=fun vs H Q _=>∃(a dx l:Addr) (ns:List Int) (g:Nat),vs=[.ref a,.int (g:Int)]/\H a=some (.ins OW dx [("many",.int (ns.length:Int)),("numbers",.ref l)])/\H l=some (.lst (ns.map V.int))/\ns.length<=6/\g<2^ns.length/\∀H',aJ H H'->Q (.int (sR ns g)) H'
theorem Jw:aL ["self","group"] ["self","group"] (aH Fw):=by constructor<;>first|rfl|decide +kernel
theorem HB{f1:Addr}{fd1:qAx}(t:Mx K "reckon" "Own.reckon" Fw ["self","group"] f fd)(T:T K mg AL LN RU OW PL PA VO MA NE fE fH rR rO rP rA rV rM rN iR iO iP iA iV iM iN fL SE NG NN NO NR NL NS NT NX NV TM UL)(D_sum_of_hands:Df P w K mg base cE 5 "sum_of_hands" ["numbers","group"] yP f1 fd1):
  Md P w K mg base 6 ["self","group"] (Ek OW) f:=by
 refine t.Ap Jw (fun vs H Q E h=>?_) (fun cdv A outer s H vs Q E hr h=>?_)
 ·obtain⟨a,dx,l,ns,g,rfl,_⟩:=h;rfl
 ·obtain⟨a,dx,l,ns,g,rfl,ha,hl,h6,hg,k⟩:=h;refine⟨_,(aG (aN (bF D_sum_of_hands hr (by decide) (by rfl) (aA (dH (pv 0) rfl) (aA (pv 1) aD))))),?_⟩;exact⟨_,rfl,a,OW,dx,_,_,rfl,ha,T.DP.oc.cl,T.JU,rfl,_,rfl,l,ns,g,rfl,hl,h6,hg,k⟩
theorem AK(D:Md P w K mg base 6 ["self","group"] (Ek OW) rO)(c:RC K fE fH RU OW rO){H:Hp}{a dx l:Addr}{ns:List Int}(ha:H a=some (.ins OW dx [("many",.int (ns.length:Int)),("numbers",.ref l)]))(hl:H l=some (.lst (ns.map V.int)))(h1:1<=ns.length)(h6:ns.length<=6):
  jY P w K mg base fE fH RU H a ns.length (sR ns) :=
 ⟨OW,dx,rO,_,ha,c,rfl,h1,h6,⟨rfl,rfl,rfl⟩,_,D.imp fun vs H2 Q _ ⟨gr,e,hg,s,q⟩=>⟨a,dx,l,ns,gr,e,s _ _ ha,s _ _ hl,h6,hg,q⟩⟩
def AM(K:qAa)(NT PL:Addr):Sp:=fun vs H Q E=>∃(x dx p:Addr) (xs:List V),vs=[.ref x,.ref p]/\H x=some (.ins PL dx [])/\H p=some (.lst xs)/\(∀v∈xs,Pl K H v)/\xs.length<=1000 /\
 (eM xs=false->∀H',SameBut x H H'->E (.ref NT) none H') /\
 (eM xs=true->∀(m:Nat) l H',1<=m->m<=6->xs.length=2^m->H l=none->SameBut x H H'->H' x=some (.ins PL dx [("many",.int (m:Int)),("earnings",.ref l)])->H' l=some (.lst xs)->Q .non H')
theorem Jx:aL ["self","table"] ["self","table"] (aH Fx):=by constructor<;>first|rfl|decide +kernel
theorem HC{f1:Addr}{fd1:qAx}(t:Mx K "__init__" "Plain.__init__" Fx ["self","table"] f fd)(T:T K mg AL LN RU OW PL PA VO MA NE fE fH rR rO rP rA rV rM rN iR iO iP iA iV iM iN fL SE NG NN NO NR NL NS NT NX NV TM UL)(D_RI:Md P w K mg base 4 ["self","many"] (lX K NL) iR)(D_hands_in:Df P w K mg base (gB P w) 3 "hands_in" ["table"] (Bz K NT) f1 fd1):
  Md P w K mg base 5 ["self","table"] (AM K NT PL) f:=by
 refine t.Bs Jx (fun vs H Q E h=>?_) (fun cdv A outer s H vs Q E hr h=>?_)
 ·obtain⟨x,dx,p,xs,rfl,_⟩:=h;rfl
 ·obtain⟨x,dx,p,xs,rfl,hx,hp,pl,hlen,k0,k⟩:=h;refine⟨_,(aE (bO (mM aV.toPass (by rfl) T.wC T.FN D_RI hr (by decide) (aA (pv 0) (aA (dN aV.toPass D_hands_in hr (by decide) (by rfl) (aA (pv 1) aD)) aD))))
   (aG (eV (pv 0) (eO dJ (by rfl) T.eZ fY (aA (pv 1) aD)) rfl))),?_⟩
  refine⟨_,rfl,_,rfl,p,xs,rfl,hp,pl,hlen,fun no H1 s1=>k0 no H1 (s1.but x),fun m h1 h6 hm yes H1 s1=>?_⟩;have i16:gD 1 6 (.int (m:Int))=true:=by rw[fQ,decide_eq_true h1,decide_eq_true h6];rfl
  refine⟨x,PL,dx,_,rfl,s1 _ _ hx,T.DQ.oc.cl,T.DQ.nm,.int _,fun no=>?_,fun _=>?_⟩
  ·rw[i16] at no;cases no
  have ne:p≠x:=eR hp hx (by intro z;cases z);have hp1:upd H1 x (.ins PL dx [("many",V.int (m:Int))]) p=some (.lst xs):=by rw[aM ne];exact s1 _ _ hp
  refine⟨_,rfl,p,_,rfl,.inl (aX.of hp1),fun l hl=>?_⟩;have u2:=aJ.aI (o:=.lst xs) hl;have hx2:=u2 _ _ (aB (H:=H1) (a:=x) (o:=.ins PL dx [("many",V.int (m:Int))]));refine⟨_,rfl,x,PL,dx,_,rfl,hx2,T.DQ.oc.cl,T.JV,(by show 1<1000;decide),?_⟩;have nl:l≠x:=(a9 (aB (H:=H1) (a:=x) (o:=.ins PL dx [("many",V.int (m:Int))])) hl).symm;refine k yes m l _ h1 h6 hm ?_ ((((s1.but x).gJ _).then u2).gJ _) aB (by rw[aM nl];exact aB);rw[aM nl] at hl;exact s1.free hl
def El(PL:Addr):Sp:=fun vs H Q _=>∃(a dx l:Addr) (m:Nat) (ns:List Int) (g:Nat),vs=[.ref a,.int (g:Int)]/\H a=some (.ins PL dx [("many",.int (m:Int)),("earnings",.ref l)])/\H l=some (.lst (ns.map V.int))/\g<ns.length/\∀H',aJ H H'->Q (.int (ns.getD g 0)) H'
theorem Jy:aL ["self","group"] ["self","group"] (aH Fy):=by constructor<;>first|rfl|decide +kernel
theorem HD(t:Mx K "reckon" "Plain.reckon" Fy ["self","group"] f fd)(T:T K mg AL LN RU OW PL PA VO MA NE fE fH rR rO rP rA rV rM rN iR iO iP iA iV iM iN fL SE NG NN NO NR NL NS NT NX NV TM UL):Md P w K mg base 1 ["self","group"] (El PL) f:=by
 refine t.Ap Jy (fun vs H Q E h=>?_) (fun cdv A outer s H vs Q E hr h=>?_)
 ·obtain⟨a,dx,l,m,ns,g,rfl,_⟩:=h;rfl
 ·obtain⟨a,dx,l,m,ns,g,rfl,ha,hl,hg,k⟩:=h;refine⟨_,(aG (aN (aY aU (dH (pv 0) rfl) (pv 1) (fun _ _=>rfl)))),?_⟩;have hat:lQ (ns.map V.int) (g:Int)=some (.int (ns.getD g 0)):=bA (by rw[qBx,qAz,qAk hg];rfl);exact⟨_,rfl,a,PL,dx,_,_,rfl,ha,T.DQ.oc.cl,T.JV,rfl,_,rfl,l,_,_,_,rfl,rfl,aX.of hl,hat,k H (.refl H)⟩
theorem vR(D:Md P w K mg base 1 ["self","group"] (El PL) rP)(c:RC K fE fH RU PL rP){H:Hp}{a dx l:Addr}{m:Nat}{ns:List Int}(ha:H a=some (.ins PL dx [("many",.int (m:Int)),("earnings",.ref l)]))(hl:H l=some (.lst (ns.map V.int)))(hn:ns.length=2^m)(h1:1<=m)(h6:m<=6):
  jY P w K mg base fE fH RU H a m (fun g=>ns.getD g 0) :=
 ⟨PL,dx,rP,_,ha,c,rfl,h1,h6,⟨rfl,rfl,rfl⟩,_,(D.up (by decide)).imp fun vs H2 Q _ ⟨gr,e,hg,s,q⟩=>⟨a,dx,l,m,ns,gr,e,s _ _ ha,s _ _ hl,by lia,q⟩⟩
theorem yQ(D:Md P w K mg base 1 ["self","group"] Ei rR)(c:RC K fE fH RU RU rR){H:Hp}{a dx:Addr}{m:Nat}(ha:H a=some (.ins RU dx [("many",.int (m:Int))]))(h1:1<=m)(h6:m<=6):
  jY P w K mg base fE fH RU H a m (fun _=>0) :=
 ⟨RU,dx,rR,_,ha,c,rfl,h1,h6,⟨rfl,rfl,rfl⟩,_,(D.up (by decide)).imp fun vs H2 Q _ ⟨gr,e,hg,s,q⟩=>⟨_,_,e,q H2 (.refl _)⟩⟩
def t4(K:qAa)(NL PA:Addr):Sp:=fun vs H Q E=>∃(x dx p:Addr) (v:V) (as:List Addr),vs=[.ref x,v,.ref p]/\H x=some (.ins PA dx [])/\Pl K H v/\H p=some (.lst (as.map V.ref))/\fA K H as/\as.length<64 /\
 (gD 1 6 v=false->∀H',SameBut x H H'->E (.ref NL) none H')/\∀m:Int,v = .int m->gD 1 6 v=true ->
  (fB m (as.map (bT H))=false->∀H',SameBut x H H'->E (.ref NL) none H') /\
  (fB m (as.map (bT H))=true->∀(l:Addr) (bs:List Addr) (H':Hp),H l=none->bs.Perm as->SameBut x H H'->H' x=some (.ins PA dx [("many",v),("pairs",.ref l)])->H' l=some (.lst (bs.map V.ref))->Q .non H')
theorem HE:aL ["self","many","pairs"] ["self","many","pairs"] (aH vK):=by constructor<;>first|rfl|decide +kernel
theorem Em{f1:Addr}{fd1:qAx}(t:Mx K "__init__" "Pairs.__init__" vK ["self","many","pairs"] f fd)(T:T K mg AL LN RU OW PL PA VO MA NE fE fH rR rO rP rA rV rM rN iR iO iP iA iV iM iN fL SE NG NN NO NR NL NS NT NX NV TM UL)(D_RI:Md P w K mg base 4 ["self","many"] (lX K NL) iR)(D_sorted_pairs:Df P w K mg base (gB P w) 4 "sorted_pairs" ["many","pairs"] (tY K NL) f1 fd1):
  Md P w K mg base 5 ["self","many","pairs"] (t4 K NL PA) f:=by
 refine t.Bs HE (fun vs H Q E h=>?_) (fun cdv A outer s H vs Q E hr h=>?_)
 ·obtain⟨x,dx,p,v,as,rfl,_⟩:=h;rfl
 ·obtain⟨x,dx,p,v,as,rfl,hx,pl,hp,ht,h64,k0,k⟩:=h;refine⟨_,(aE (bO (mM aV.toPass (by rfl) T.wC T.FN D_RI hr (by decide) (aA (pv 0) (aA (pv 1) aD))))
   (aG (eV (pv 0) (dN aV.toPass D_sorted_pairs hr (by decide) (by rfl) (aA (pv 1) (aA (pv 2) aD))) rfl))),?_⟩
  refine⟨_,rfl,_,rfl,x,PA,dx,v,rfl,hx,T.DR.oc.cl,T.DR.nm,pl,fun no=>k0 no H ((aJ.refl H).but x),fun yes=>?_⟩;obtain⟨m,rfl⟩:∃m,v = .int m:=by
   cases v <;> first | (exact⟨_,rfl⟩) | (exact absurd yes qAj)
  obtain⟨k1,k2⟩:=k m rfl yes;have at_:∀b o,(∀C dx fs,o≠HO.ins C dx fs)->H b=some o->upd H x (.ins PA dx [("many",V.int m)]) b=some o:=fun b o n e=>by
   rw[aM]
   ·exact e
   ·rintro rfl;rw[hx] at e;exact n _ _ _ (Option.some.inj e).symm
  have hp1:=at_ _ _ (by intro _ _ _ z;cases z) hp;have ht1:fA K (upd H x (.ins PA dx [("many",V.int m)])) as:=fun a ha=>by
   obtain⟨xs,h1,h2,h3⟩:=ht a ha;exact⟨xs,at_ _ _ (by intro _ _ _ z;cases z) h1,fun v hv=>(h2 v hv).eL hx,h3⟩
  have eqm:as.map (bT (upd H x (.ins PA dx [("many",V.int m)])))=as.map (bT H):=ht.eq fun a xs e=>at_ _ _ (by intro _ _ _ z;cases z) e;have sb:SameBut x H (upd H x (.ins PA dx [("many",V.int m)])):=((aJ.refl H).but x).gJ _;refine⟨_,rfl,_,rfl,m,p,as,rfl,hp1,ht1,h64,fun no H1 s1=>?_,fun ok l bs H1 hl hb s1 h1=>?_⟩
  ·rw[eqm] at no;exact k1 no H1 (sb.then s1)
  rw[eqm] at ok;have hx1:=s1 _ _ (aB (H:=H) (a:=x) (o:=.ins PA dx [("many",V.int m)]));have nl:l≠x:=(a9 (aB (H:=H) (a:=x) (o:=.ins PA dx [("many",V.int m)])) hl).symm;refine⟨_,rfl,x,PA,dx,_,rfl,hx1,T.DR.oc.cl,T.JW,(by show 1<1000;decide),?_⟩;refine k2 ok l bs _ ?_ hb ((sb.then s1).gJ _) aB (by rw[aM nl];exact h1);rw[aM nl] at hl;exact hl
def pNum(t:List Int)(g:Nat):Option Int:=if both g (t.getD 0 0).toNat (t.getD 1 0).toNat=true then some (t.getD 2 0) else none
def sV(H:Hp)(bs:List Addr)(g:Nat):Int:=(bs.filterMap fun b=>pNum (fM H b) g).sum
def lB(H:Hp)(b:Addr):Prop:=∃(i j:Nat) (n:Int),H b=some (.tup [.int (i:Int),.int (j:Int),.int n])/\i<6/\j<6
theorem lB.same{H H':Hp}{b:Addr}(h:lB H b)(s:aJ H H'):lB H' b:=let ⟨i,j,n,e,z⟩:=h;⟨i,j,n,s _ _ e,z⟩
theorem vS{H H':Hp}{bs:List Addr}(h:∀b∈bs,lB H b)(s:∀b∈bs,∀o,H b=some o->H' b=some o)(g:Nat):sV H' bs g=sV H bs g:=by
 unfold sV;congr 1;refine pG fun b hb=>?_;obtain⟨i,j,n,e,_⟩:=h b hb;rw[iK (ns:=[(i:Int),j,n]) e,iK (ns:=[(i:Int),j,n]) (s b hb _ e)]
def yR(PA:Addr):Sp:=fun vs H Q _=>∃(a dx l:Addr) (m:Int) (bs:List Addr) (g:Nat),vs=[.ref a,.int (g:Int)]/\H a=some (.ins PA dx [("many",.int m),("pairs",.ref l)])/\H l=some (.lst (bs.map V.ref))/\bs.length<=1000/\(∀b∈bs,lB H b)/\g<64/\∀H',aJ H H'->Q (.int (sV H bs g)) H'
theorem HF:aL ["self","group"] ["self","group"] (aH vL):=by constructor<;>first|rfl|decide +kernel
theorem En{f1:Addr}{fd1:qAx}(t:Mx K "reckon" "Pairs.reckon" vL ["self","group"] f fd)(T:T K mg AL LN RU OW PL PA VO MA NE fE fH rR rO rP rA rV rM rN iR iO iP iA iV iM iN fL SE NG NN NO NR NL NS NT NX NV TM UL)(D_has_both:Df P w K mg base cE 1 "has_both" ["group","one","other"] Eg f1 fd1):
  Md P w K mg base 2 ["self","group"] (yR PA) f:=by
 refine t.Ap HF (fun vs H Q E h=>?_) (fun cdv A outer s H vs Q E hr h=>?_)
 ·obtain⟨a,dx,l,m,bs,g,rfl,_⟩:=h;rfl
 ·obtain⟨a,dx,l,m,bs,g,rfl,ha,hl,hlen,hb,hg,k⟩:=h;refine⟨_,(aG (aN (aP (iF rfl) (by rfl) T.jQ oA (aA (dB (NB:=["one","other","number","group"]) (pick:=[none,none,none,some 1]) (dC (by with_unfolding_all rfl) (by exact(And.intro rfl trivial)) rfl (by decide +kernel) (by decide +kernel) (by rfl) (by rfl)) rfl
     (cW (dH (pv 0) rfl)) (fun _ _ _=>(show PG _ _ (zZ K 3 (hX (bH 0) (hX (bH 1) (hX (bH 2) zY)))) from nK rfl (cU (bI (i:=0) (show(["one","other","number","group"]:List Str).Nodup from by decide +kernel) rfl cP) (cU (bI (i:=1) (show(["one","other","number","group"]:List Str).Nodup from by decide +kernel) rfl cP) (cU (bI (i:=2) (show(["one","other","number","group"]:List Str).Nodup from by decide +kernel) rfl cP) j3)))))
     (fun _ _ _=>nV (dG (bF D_has_both hr (by decide) (by rfl) (aA (pv 3) (aA (pv 0) (aA (pv 1) aD)))))) (fun _ _ _=>(pv 2))) aD)))),?_⟩
  refine⟨_,rfl,a,PA,dx,_,_,rfl,ha,T.DR.oc.cl,T.JW,rfl,l,rfl,⟨_,aX.of hl⟩,?_⟩;refine vH (xs:=bs.map V.ref) (fun σ'=>∃o0 o1 o2:Option V,σ'=[o0,o1,o2,some (.int (g:Int))]) (fun _ x=>match x with | .ref b=>(pNum (fM H b) g).map V.int | _=>none) ⟨_,_,_,rfl⟩ (aX.of hl) (by rw[qAc];exact qBd (aW hlen)) (fun i x σ1 H2 kk kk0 hσ s2 hx h1 h2=>?_) fun D H2 hD s2 hd=>?_
  ·obtain⟨o0,o1,o2,rfl⟩:=hσ;obtain⟨b,hbm,rfl⟩:=List.mem_map.mp (qBe hx);obtain⟨u,v,n,e,hu,hv⟩:=hb b hbm;have et:pNum (fM H b) g=if both g u v=true then some n else none:=by rw[iK (ns:=[(u:Int),v,n]) e];rfl
   refine⟨b,_,rfl,dU.of (s2 _ _ e),rfl,_,_,rfl,_,_,rfl,_,_,rfl,rfl,?_⟩;refine⟨_,rfl,_,rfl,_,rfl,g,u,v,rfl,hg,hu,hv,_,rfl,?_⟩;cases eb:both g u v with
   | true=>exact cZ ⟨_,rfl,h1 _ _ ⟨_,_,_,rfl⟩ (by show(pNum (fM H b) g).map V.int=_;rw[et,eb];rfl) _ (.refl _)⟩
   | false=>exact cT (h2 _ ⟨_,_,_,rfl⟩ (by show(pNum (fM H b) g).map V.int=_;rw[et,eb];rfl) _ (.refl _))
  ·have ed:H2 D=some (.lst ((bs.filterMap fun b=>pNum (fM H b) g).map V.int)):=by
    rw[hd,fJ,qCs,List.map_filterMap];rfl
   refine⟨D,_,rfl,.inl (aX.of ed),k H2 s2⟩
theorem vT(D:Md P w K mg base 2 ["self","group"] (yR PA) rA)(c:RC K fE fH RU PA rA){H:Hp}{a dx l:Addr}{m:Nat}{bs:List Addr}(ha:H a=some (.ins PA dx [("many",.int (m:Int)),("pairs",.ref l)]))(hl:H l=some (.lst (bs.map V.ref)))(hlen:bs.length<=1000)(hb:∀b∈bs,lB H b)(h1:1<=m)(h6:m<=6):
  jY P w K mg base fE fH RU H a m (sV H bs) :=
 ⟨PA,dx,rA,_,ha,c,rfl,h1,h6,⟨rfl,rfl,rfl⟩,_,(D.up (by decide)).imp fun vs H2 Q _ ⟨gr,e,hg,s,q⟩=>⟨a,dx,l,_,bs,gr,e,s _ _ ha,s _ _ hl,hlen,fun b hb'=>(hb b hb').same s,qAv hg (yJ h6),by
  rw[vS hb fun b _ o e=>s b o e];exact q⟩⟩
def lC(vq vp:V)(xs:List V):Bool:=okN xs&&eK vq&&eK vp&&(match vq with | .int q=>decide (1<=q) | _=>false)
def AN(K:qAa)(NL VO:Addr):Sp:=fun vs H Q E=>∃(x dx p:Addr) (vq vp:V) (xs:List V),vs=[.ref x,vq,vp,.ref p]/\H x=some (.ins VO dx [])/\Pl K H vq/\Pl K H vp/\H p=some (.lst xs)/\(∀v∈xs,Pl K H v)/\xs.length<=1000 /\
 (lC vq vp xs=false->∀H',SameBut x H H'->E (.ref NL) none H') /\
 (lC vq vp xs=true->∀l H',H l=none->SameBut x H H'->H' x=some (.ins VO dx [("many",.int (xs.length:Int)),("quota",vq),("prize",vp),("weights",.ref l)])->H' l=some (.lst xs)->Q .non H')
theorem Jz:aL ["self","quota","prize","weights"] ["self","quota","prize","weights"] (aH Fz):=by constructor<;>first|rfl|decide +kernel
theorem HG{f1:Addr}{fd1:qAx}(t:Mx K "__init__" "Votes.__init__" Fz ["self","quota","prize","weights"] f fd)(T:T K mg AL LN RU OW PL PA VO MA NE fE fH rR rO rP rA rV rM rN iR iO iP iA iV iM iN fL SE NG NN NO NR NL NS NT NX NV TM UL)(D_RI:Md P w K mg base 4 ["self","many"] (lX K NL) iR)(D_check_numbers:Df P w K mg base (gB P w) 2 "check_numbers" ["things"] (qU K NL) f1 fd1):
  Md P w K mg base 5 ["self","quota","prize","weights"] (AN K NL VO) f:=by
 refine t.Bs Jz (fun vs H Q E h=>?_) (fun cdv A outer s H vs Q E hr h=>?_)
 ·obtain⟨x,dx,p,vq,vp,xs,rfl,_⟩:=h;rfl
 ·obtain⟨x,dx,p,vq,vp,xs,rfl,hx,plq,plp,hp,pl,hlen,k0,k⟩:=h;refine⟨_,(aE (bO (mM aV.toPass (by rfl) T.wC T.FN D_RI hr (by decide) (aA (pv 0) (aA (aP bE (by rfl) T.dP dD (aA (pv 3) aD)) aD))))
   (aE (bO (dN aV.toPass D_check_numbers hr (by decide) (by rfl) (aA (bB (aA (pv 1) (aA (pv 2) aD))) aD)))
   (aE (bO (dN aV.toPass D_check_numbers hr (by decide) (by rfl) (aA (pv 3) aD)))
   (aE (bC (aO mC (pv 1) aC (aS _)) (aG (dM aV rfl (by rfl) T.vP T.yM (aA eU aD))) aQ)
   (aE (eV (pv 0) (pv 1) rfl)
   (aE (eV (pv 0) (pv 2) rfl)
   (aG (eV (pv 0) (eO dJ (by rfl) T.eZ fY (aA (pv 3) aD)) rfl)))))))),?_⟩
  refine⟨_,rfl,_,rfl,p,_,rfl,.inl (aX.of hp),x,VO,dx,_,rfl,hx,T.yL.oc.cl,T.yL.nm,.int _,fun no=>?_,fun yes=>?_⟩
  ·refine k0 ?_ H ((aJ.refl H).but x);unfold lC okN;rw[fQ] at no;rw[no];rfl
  rw[fQ] at yes;have ne:p≠x:=eR hp hx (by intro z;cases z);have hp1:upd H x (.ins VO dx [("many",V.int (xs.length:Int))]) p=some (.lst xs):=by rw[aM ne];exact hp
  have hx1:upd H x (.ins VO dx [("many",V.int (xs.length:Int))]) x=some (.ins VO dx [("many",V.int (xs.length:Int))]):=aB;have sb:SameBut x H (upd H x (.ins VO dx [("many",V.int (xs.length:Int))])):=((aJ.refl H).but x).gJ _;have pl1:∀v∈xs,Pl K (upd H x (.ins VO dx [("many",V.int (xs.length:Int))])) v:=fun v hv=>(pl v hv).eL hx;have plq1:Pl K (upd H x (.ins VO dx [("many",V.int (xs.length:Int))])) vq:=plq.eL hx;have plp1:Pl K (upd H x (.ins VO dx [("many",V.int (xs.length:Int))])) vp:=plp.eL hx;generalize upd H x (.ins VO dx [("many",V.int (xs.length:Int))])=H0 at hp1 hx1 sb pl1 plq1 plp1|-;refine⟨_,rfl,_,rfl,tF,fun c hc=>?_⟩;have u1:=aJ.aI (o:=.lst [vq,vp]) hc;refine⟨c,_,rfl,.inl aB,fun v hv=>?_,by show 2<=1000;decide,fun no H1 s1=>?_,fun yes2 H1 s1=>?_⟩
  ·simp only[qBp,qAw,or_false] at hv;rcases hv with rfl | rfl
   ·exact plq1.same u1
   ·exact plp1.same u1
  ·refine k0 ?_ H1 (sb.then (u1.trans s1));have z:(eK vq&&(eK vp&&true))=false:=no;unfold lC;rw[qJv] at z;rw[Bool.and_assoc (okN xs),z,qBo,qBi]
  have z:(eK vq&&(eK vp&&true))=true:=yes2;rw[qJv,qAn] at z;have t1:=u1.trans s1;refine⟨_,rfl,p,xs,rfl,.inl (t1 _ _ hp1),fun v hv=>(pl1 v hv).same t1,hlen,fun no H2 s2=>?_,fun yes3 H2 s2=>?_⟩
  ·refine k0 ?_ H2 (sb.then (t1.trans s2));unfold lC okN;rw[no,qBo,qBi,qBi,qBi]
  have t2:=t1.trans s2;obtain⟨q,rfl⟩:∃q,vq = .int q:=by
   cases vq <;> first | (exact⟨_,rfl⟩) | (exact absurd z.1 qAj)
  refine⟨_,rfl,_,_,rfl,rfl,_,rfl,?_⟩;cases hq:decide (q<1) with
  | true =>
   refine cZ ⟨jS,k0 ?_ H2 (sb.then t2)⟩;have:¬1<=q:=by have:=of_decide_eq_true hq;lia
   unfold lC;show(_&&decide (1<=q))=false;rw[decide_eq_false this,qBo]
  | false =>
   have hq1:1<=q:=by have:=of_decide_eq_false hq;lia
   refine cT ?_;have hx2:=t2 _ _ hx1;refine⟨_,rfl,_,rfl,x,VO,dx,_,rfl,hx2,T.yL.oc.cl,T.JX,(by show 1<1000;decide),?_⟩;refine⟨_,rfl,_,rfl,x,VO,dx,_,rfl,aB,T.yL.oc.cl,T.GI,(by show 2<1000;decide),?_⟩;have ne2:p≠x:=ne;have hp3:upd (upd H2 x (.ins VO dx [("many",V.int (xs.length:Int)),("quota",.int q)])) x (.ins VO dx [("many",V.int (xs.length:Int)),("quota",.int q),("prize",vp)]) p=some (.lst xs):=by rw[aM ne2,aM ne2];exact t2 _ _ hp1
   refine⟨_,rfl,p,_,rfl,.inl (aX.of hp3),fun l hl=>?_⟩;have hx3:upd (upd H2 x (.ins VO dx [("many",V.int (xs.length:Int)),("quota",.int q)])) x (.ins VO dx [("many",V.int (xs.length:Int)),("quota",.int q),("prize",vp)]) x=some (.ins VO dx [("many",V.int (xs.length:Int)),("quota",.int q),("prize",vp)]):=aB;have u4:=aJ.aI (o:=.lst xs) hl;have nl:l≠x:=(a9 hx3 hl).symm;refine⟨_,rfl,x,VO,dx,_,rfl,u4 _ _ hx3,T.yL.oc.cl,T.GJ,(by show 3<1000;decide),?_⟩;refine k ?_ l _ ?_ (((((sb.then t2).gJ _).gJ _).then u4).gJ _) aB (by rw[aM nl];exact aB)
   ·unfold lC okN;show(_&&_&&decide (1<=q))=true;rw[yes,yes3,z.2,decide_eq_true hq1];rfl
   ·rw[aM nl,aM nl] at hl;cases e:H l with
    | none=>rfl
    | some o =>
     have z:=(sb.then t2) l o nl e;rw[hl] at z;cases z
def yS(q pz:Int)(ws:List Int)(g:Nat):Int:=if q<=sR ws g then pz else 0
def Eo(VO:Addr):Sp:=fun vs H Q _=>∃(a dx l:Addr) (q pz:Int) (ws:List Int) (g:Nat),vs=[.ref a,.int (g:Int)]/\H a=some (.ins VO dx [("many",.int (ws.length:Int)),("quota",.int q),("prize",.int pz),("weights",.ref l)])/\H l=some (.lst (ws.map V.int))/\ws.length<=6/\g<2^ws.length/\∀H',aJ H H'->Q (.int (yS q pz ws g)) H'
theorem JA:aL ["self","group"] ["self","group"] (aH FA):=by constructor<;>first|rfl|decide +kernel
theorem HH{f1:Addr}{fd1:qAx}(t:Mx K "reckon" "Votes.reckon" FA ["self","group"] f fd)(T:T K mg AL LN RU OW PL PA VO MA NE fE fH rR rO rP rA rV rM rN iR iO iP iA iV iM iN fL SE NG NN NO NR NL NS NT NX NV TM UL)(D_sum_of_hands:Df P w K mg base cE 5 "sum_of_hands" ["numbers","group"] yP f1 fd1):
  Md P w K mg base 6 ["self","group"] (Eo VO) f:=by
 refine t.Ap JA (fun vs H Q E h=>?_) (fun cdv A outer s H vs Q E hr h=>?_)
 ·obtain⟨a,dx,l,q,pz,ws,g,rfl,_⟩:=h;rfl
 ·obtain⟨a,dx,l,q,pz,ws,g,rfl,ha,hl,h6,hg,k⟩:=h;refine⟨_,(aG (aN (wI (aO Gi (bF D_sum_of_hands hr (by decide) (by rfl) (aA (dH (pv 0) rfl) (aA (pv 1) aD))) (dH (pv 0) rfl) (aS _)) (dH (pv 0) rfl) aC))),?_⟩;refine⟨_,rfl,a,VO,dx,_,_,rfl,ha,T.yL.oc.cl,T.GJ,rfl,_,rfl,l,ws,g,rfl,hl,h6,hg,fun H1 s1=>?_⟩;refine⟨_,rfl,a,VO,dx,_,_,rfl,s1 _ _ ha,T.yL.oc.cl,T.JX,rfl,_,_,rfl,rfl,_,rfl,?_⟩;have z:=k H1 s1;unfold yS at z;refine bN (fun h1=>?_) (fun h1=>?_)
  ·rw[if_pos (of_decide_eq_true h1)] at z;exact⟨_,rfl,a,VO,dx,_,_,rfl,s1 _ _ ha,T.yL.oc.cl,T.GI,rfl,z⟩
  ·rw[if_neg (fun q=>h1 (decide_eq_true q))] at z;exact z
theorem vU(D:Md P w K mg base 6 ["self","group"] (Eo VO) rV)(c:RC K fE fH RU VO rV){H:Hp}{a dx l:Addr}{q pz:Int}{ws:List Int}(ha:H a=some (.ins VO dx [("many",.int (ws.length:Int)),("quota",.int q),("prize",.int pz),("weights",.ref l)]))(hl:H l=some (.lst (ws.map V.int)))(h1:1<=ws.length)(h6:ws.length<=6):
  jY P w K mg base fE fH RU H a ws.length (yS q pz ws) :=
 ⟨VO,dx,rV,_,ha,c,rfl,h1,h6,⟨rfl,rfl,rfl⟩,_,D.imp fun vs H2 Q _ ⟨gr,e,hg,s,z⟩=>⟨a,dx,l,q,pz,ws,gr,e,s _ _ ha,s _ _ hl,h6,hg,z⟩⟩
def bV(m:Nat)(H:Hp)(bs:List Addr):Prop:=(∀b∈bs,∃(u v:Nat) (n:Int),H b=some (.tup [.int (u:Int),.int (v:Int),.int n])/\u<v/\v<m)/\(bs.map fun b=>cM (bT H b)).Nodup/\bs.length<=15
theorem bV.same{m:Nat}{H H':Hp}{bs:List Addr}(h:bV m H bs)(s:∀b∈bs,∀o,H b=some o->H' b=some o):bV m H' bs:=by
 refine⟨fun b hb=>?_,?_,h.2.2⟩
 ·obtain⟨u,v,n,e,z⟩:=h.1 b hb;exact⟨u,v,n,s b hb _ e,z⟩
 ·have e:(bs.map fun b=>cM (bT H' b))=bs.map fun b=>cM (bT H b):=qDy fun b hb=>by
   obtain⟨u,v,n,e,_⟩:=h.1 b hb;rw[bW e,bW (s b hb _ e)]
  rw[e];exact h.2.1
theorem bV.oE{m:Nat}{H:Hp}{bs cs:List Addr}(h:bV m H bs)(p:cs.Perm bs):bV m H cs :=
 ⟨fun b hb=>h.1 b (p.mem_iff.mp hb),((p.map _).nodup_iff).mpr h.2.1,by rw[p.length_eq];exact h.2.2⟩
theorem bV.pair{m:Nat}{H:Hp}{bs:List Addr}(h:bV m H bs)(h6:m<=6):∀b∈bs,lB H b:=fun b hb=>by
 obtain⟨u,v,n,e,z⟩:=h.1 b hb;exact⟨u,v,n,e,by lia,by lia⟩
theorem nA{m:Int}:∀{xss:List (List V)}{seen:List (Int×Int)},(∀xs∈xss,lM m xs=true)->(xss.map cM).Nodup->(∀k∈xss.map cM,seen.contains k=false)->e8 m seen xss=true
 | [],_,_,_,_=>rfl
 | xs::r,seen,h,hn,hs=>by
  show(lM m xs && !(seen.contains (cM xs))&&e8 m (seen++[cM xs]) r)=true;rw[qBq,qGz] at hn;have ih:e8 m (seen++[cM xs]) r=true:=nA (fun x hx=>h x (qBn _ hx)) hn.2 fun k hk=>by
   have a:=hs k (by rw[qBq];exact qBn _ hk);have ne:k≠cM xs:=fun z=>hn.1 (z▸hk);rw[Bool.eq_false_iff] at a|-;intro z;rw[List.contains_iff_mem,List.mem_append] at z;rcases z with z | z
   ·exact a (List.contains_iff_mem.mpr z)
   ·exact ne (by simpa using z)
  rw[h xs (by simp),hs (cM xs) (by simp),ih];rfl
theorem bV.ok{m:Nat}{H:Hp}{bs:List Addr}(h:bV m H bs):fB (m:Int) (bs.map (bT H))=true:=by
 refine nA (fun xs hx=>?_) (by rw[qCg];exact h.2.1) (fun k _=>rfl);obtain⟨b,hb,rfl⟩:=List.mem_map.mp hx;obtain⟨u,v,n,e,z1,z2⟩:=h.1 b hb;rw[bW e];show(decide ((0:Int)<=u)&&decide ((u:Int)<v)&&decide ((v:Int)<m))=true;rw[decide_eq_true (by lia),decide_eq_true (by lia),decide_eq_true (by lia)];rfl
theorem bV.eT{K:qAa}{m:Nat}{H:Hp}{bs:List Addr}(h:bV m H bs):fA K H bs:=fun b hb=>by
 obtain⟨u,v,n,e,_⟩:=h.1 b hb;refine⟨_,e,fun x hx=>?_,by show 3<=1000;decide⟩;simp only[qBp,qAw,or_false] at hx;rcases hx with rfl | rfl | rfl
 ·exact .int _
 ·exact .int _
 ·exact .int _
abbrev P3:=Nat×Nat×Int
abbrev E2:=Int×List (Nat×Nat)
def lo(g:Nat):Nat:=((dE g).headD 0).toNat
def aT(g i:Nat):Bool:=decide (g/2^i%2=1)
def Pw(m:Nat)(ps:List P3):Prop:=(∀p∈ps,p.1<p.2.1/\p.2.1<m)/\(ps.map fun p=>(p.1,p.2.1)).Nodup
theorem lo_facts:∀g:_root_.Fin 64,g.1≠0->lo g.1<6/\aT g.1 (lo g.1)=true/\(∀k:_root_.Fin 6,k.1<lo g.1->aT g.1 k.1=false)/\dE g.1=(lo g.1:Int)::(dE g.1).tail/\(dE g.1).length<=6:=by decide +kernel
theorem t5:∀(g:_root_.Fin 64) (i k:_root_.Fin 6),aT g.1 i.1=true->2^i.1<=g.1/\aT (g.1-2^i.1) k.1=(aT g.1 k.1&&decide (k.1≠i.1)):=by decide +kernel
theorem vV{g i k:Nat}(hg:g<64)(hi:i<6)(hk:k<6)(h:aT g i=true):aT (g-2^i) k=(aT g k&&decide (k≠i)):=(t5 ⟨g,hg⟩ ⟨i,hi⟩ ⟨k,hk⟩ h).2
theorem sW{g i:Nat}(hg:g<64)(hi:i<6)(h:aT g i=true):2^i<=g:=(t5 ⟨g,hg⟩ ⟨i,hi⟩ ⟨i,hi⟩ h).1
theorem HI{g i j k:Nat}(hg:g<64)(hi:i<6)(hj:j<6)(hk:k<6)(h:aT g i=true)(h2:aT g j=true)(ne:j≠i):aT (g-2^i-2^j) k=(aT g k&&decide (k≠i)&&decide (k≠j)):=by
 have z:aT (g-2^i) j=true:=by rw[vV hg hi hj h,h2,decide_eq_true ne];rfl
 rw[vV (qCi (qGa _ _) hg) hj hk z,vV hg hi hk h]
def dW(B:Nat->E2)(g:Nat)(f:E2)(p:P3):E2:=if p.1=lo g/\both g p.1 p.2.1=true then (if p.2.2+(B (g-2^p.1-2^p.2.1)).1>f.1 then (p.2.2+(B (g-2^p.1-2^p.2.1)).1,(p.1,p.2.1)::(B (g-2^p.1-2^p.2.1)).2) else f) else f
def lD(B:Nat->E2)(ps:List P3)(g:Nat):E2:=ps.foldl (dW B g) (B (g-2^lo g))
def dX(ps:List P3):Nat->List E2
 | 0=>[(0,[])]
 | n+1=>dX ps n++[lD (fun i=>(dX ps n).getD i (0,[])) ps (n+1)]
def bR(ps:List P3)(g:Nat):E2:=(dX ps g).getD g (0,[])
theorem eP(ps:List P3):∀n,(dX ps n).length=n+1
 | 0=>rfl
 | n+1=>by rw[dX,qAp,eP ps n];rfl
theorem qV(ps:List P3)(n:Nat):(dX ps n)[n]?=some (bR ps n):=by
 have h:n<(dX ps n).length:=by rw[eP];lia
 unfold bR;rw[qAz,qAk h];rfl
theorem jD(ps:List P3):∀{i n:Nat},i<=n->(dX ps n)[i]?=some (bR ps i)
 | i,0,h=>by
  have:i=0:=by lia
  subst this;rfl
 | i,n+1,h=>by
  rcases qCa n i with z | z
  ·have:i=n+1:=by lia
   subst this;exact qV ps _
  ·rw[dX,qDi (by rw[eP];lia)];exact jD ps z
theorem qW{B B':Nat->E2}{ps:List P3}{n:Nat}(h:∀i,i<=n->B i=B' i):lD B ps (n+1)=lD B' ps (n+1):=by
 have p1:∀k,1<=2^k:=fun k=>qFd;have e:dW B (n+1)=dW B' (n+1):=by
  funext f p
  unfold dW;rw[h (n+1-2^p.1-2^p.2.1) (by have:=p1 p.1;generalize 2^p.1=x at *;generalize 2^p.2.1=y at *;lia)]
 unfold lD;rw[e,h (n+1-2^lo (n+1)) (by have:=p1 (lo (n+1));generalize 2^lo (n+1)=x at *;lia)]
theorem lF(ps:List P3)(n:Nat):bR ps (n+1)=lD (fun i=>(dX ps n).getD i (0,[])) ps (n+1):=by
 have z:=qV ps (n+1);rw[dX,qDh (by rw[eP];exact qAl _),eP,qKk] at z;exact(Option.some.inj z).symm
theorem nB(ps:List P3){g:Nat}(h:g≠0):bR ps g=lD (bR ps) ps g:=by
 obtain⟨n,rfl⟩:∃n,g=n+1:=⟨g-1,by lia⟩;rw[lF];refine qW fun i hi=>?_;rw[qAz,jD ps hi];rfl
theorem nC{α β:Type}{f:β->α->β}{Q:β->Prop}:∀{xs:List α}{b:β},Q b->(∀b x,x∈xs->Q b->Q (f b x))->Q (xs.foldl f b)
 | [],_,h,_=>h
 | x::xs,b,h,st=>nC (xs:=xs) (st b x (by simp) h) fun b y hy=>st b y (qBn _ hy)
inductive Good (ps:List P3):Nat->Nat->Int->List (Nat×Nat)->Prop
 | nil (b g:Nat):Good ps b g 0 []
 | cons {b g i j:Nat}{n s:Int}{r:List (Nat×Nat)}:b<=i->i<j->j<6->aT g i=true->aT g j=true->(i,j,n)∈ps->Good ps (i+1) (g-2^i-2^j) s r->Good ps b g (n+s) ((i,j)::r)
theorem Good.raise{ps:List P3}{b g0:Nat}{s:Int}{r:List (Nat×Nat)}(h:Good ps b g0 s r):∀(g l:Nat),g<64->l<6->aT g l=true->g0=g-2^l->Good ps b g s r:=by
 induction h with
 | nil b g0=>exact fun g l _ _ _ _=>.nil b g
 | @cons b g0 i j n s r h1 h2 h3 h4 h5 h6 _ ih =>
  intro g l hg hl hb e;subst e;rw[vV hg hl (by lia) hb,qAn,decide_eq_true_iff] at h4;rw[vV hg hl (by lia) hb,qAn,decide_eq_true_iff] at h5;refine .cons h1 h2 h3 h4.1 h5.1 h6 (ih _ l (qCi (qCe (qGa _ _) (qGa _ _)) hg) hl ?_ ?_)
  ·have n1:l≠i:=fun z=>h4.2 z.symm;have n2:l≠j:=fun z=>h5.2 z.symm;rw[HI hg (by lia) h3 hl h4.1 h5.1 (by lia),hb,decide_eq_true n1,decide_eq_true n2];rfl
  ·generalize 2^i=x;generalize 2^j=y;generalize 2^l=z;lia
theorem Good.lift{ps:List P3}{b b' g:Nat}{s:Int}{r:List (Nat×Nat)}(h:Good ps b g s r)(z:∀k,k<b'->k<6->aT g k=false):Good ps b' g s r:=by
 cases h with
 | nil=>exact .nil _ _
 | @cons _ _ i j n s r h1 h2 h3 h4 h5 h6 h7 =>
  refine .cons (qJk fun q=>?_) h2 h3 h4 h5 h6 h7;rw[z i q (by lia)] at h4;exact qAj h4
theorem vW{ps:List P3}(hp:∀p∈ps,p.1<p.2.1/\p.2.1<6):∀g,g<64->Good ps 0 g (bR ps g).1 (bR ps g).2:=by
 intro g;induction g using Nat.strongRecOn with
 | ind g ih =>
  intro hg;rcases qEi g with rfl | pos
  ·exact .nil _ _
  have ne:g≠0:=by lia
  obtain⟨l6,lb,lmin,_⟩:=lo_facts ⟨g,hg⟩ ne;have l6:lo g<6:=l6;have lb:aT g (lo g)=true:=lb;have p1:∀k,1<=2^k:=fun k=>qFd;rw[nB ps ne];unfold lD;refine nC (Q:=fun f:E2=>Good ps 0 g f.1 f.2) ?_ fun f p hm hf=>?_
  ·have q1:=p1 (lo g);exact(ih (g-2^lo g) (by generalize 2^lo g=x at *;lia) (by generalize 2^lo g=x at *;lia)).raise g (lo g) hg l6 lb rfl
  ·unfold dW;split
   ·rename_i c;split
    ·obtain⟨i,j,n⟩:=p;obtain⟨c1,c2⟩:=c;have c1:i=lo g:=c1;obtain⟨h1,h2⟩:=hp _ hm;have h1:i<j:=h1;have h2:j<6:=h2;have c2:(aT g i&&aT g j)=true:=c2;rw[qAn] at c2;have q1:=p1 i;refine .cons (qBy _) h1 h2 c2.1 c2.2 hm ((ih (g-2^i-2^j) ?_ ?_).lift fun k hk k6=>?_)
     ·show g-2^i-2^j<g;generalize 2^i=x at *;generalize 2^j=y at *;lia
     ·show g-2^i-2^j<64;generalize 2^i=x at *;generalize 2^j=y at *;lia
     ·rw[HI hg (by lia) h2 k6 c2.1 c2.2 (by lia)];rcases qCa k (lo g) with z | z
      ·have y:aT g k=false:=lmin ⟨k,k6⟩ z;rw[y];rfl
      ·have:k=i:=by lia
       rw[decide_eq_false (fun q=>q this),qBo];rfl
    ·exact hf
   ·exact hf
inductive A2 {α:Type} (R:Addr->α->Prop):List Addr->List α->Prop
 | nil:A2 R [] []
 | cons {a:Addr}{x:α}{as:List Addr}{xs:List α}:R a x->A2 R as xs->A2 R (a::as) (x::xs)
theorem A2.len{α:Type}{R:Addr->α->Prop}{as:List Addr}{xs:List α}(h:A2 R as xs):as.length=xs.length:=by
 induction h with
 | nil=>rfl
 | cons _ _ ih=>rw[qCf,qCf,ih]
theorem A2.imp{α:Type}{R S:Addr->α->Prop}{as:List Addr}{xs:List α}(h:A2 R as xs)(f:∀a x,R a x->S a x):A2 S as xs:=by
 induction h with
 | nil=>exact .nil
 | cons r _ ih=>exact .cons (f _ _ r) ih
theorem A2.at{α:Type}{R:Addr->α->Prop}{as:List Addr}{xs:List α}(h:A2 R as xs):∀{i:Nat}{a:Addr},as[i]?=some a->∃x,xs[i]?=some x/\R a x:=by
 induction h with
 | nil=>intro i a e;simp at e
 | cons r _ ih =>
  intro i b e;cases i with
  | zero=>simp only[qHm,Option.some.injEq] at e;subst e;exact⟨_,rfl,r⟩
  | succ i=>rw[qEd] at e;exact ih e
theorem A2.get{α:Type}{R:Addr->α->Prop}{as:List Addr}{xs:List α}(h:A2 R as xs):∀{i:Nat}{x:α},xs[i]?=some x->∃a,as[i]?=some a/\R a x:=by
 induction h with
 | nil=>intro i a e;simp at e
 | cons r _ ih =>
  intro i b e;cases i with
  | zero=>simp only[qHm,Option.some.injEq] at e;subst e;exact⟨_,rfl,r⟩
  | succ i=>rw[qEd] at e;exact ih e
theorem A2.snoc{α:Type}{R:Addr->α->Prop}{as:List Addr}{xs:List α}{a:Addr}{x:α}(h:A2 R as xs)(r:R a x):A2 R (as++[a]) (xs++[x]):=by
 induction h with
 | nil=>exact .cons r .nil
 | cons r' _ ih=>exact .cons r' ih
def fD(H:Hp)(b:Addr)(p:P3):Prop:=H b=some (.tup [.int (p.1:Int),.int (p.2.1:Int),.int p.2.2])
def Iy(H:Hp)(b:Addr)(d:Nat×Nat):Prop:=H b=some (.tup [.int (d.1:Int),.int (d.2:Int)])
def t6(H:Hp)(t:Addr)(e:E2):Prop:=∃(q:Addr) (rs:List Addr),H t=some (.tup [.int e.1,.ref q])/\H q=some (.tup (rs.map V.ref))/\A2 (Iy H) rs e.2
theorem fD.keep{H H':Hp}{b:Addr}{p:P3}(h:fD H b p)(s:fK H H'):fD H' b p:=s _ _ h
theorem Iy.keep{H H':Hp}{b:Addr}{p:Nat×Nat}(h:Iy H b p)(s:fK H H'):Iy H' b p:=s _ _ h
theorem t6.keep{H H':Hp}{b:Addr}{e:E2}(h:t6 H b e)(s:fK H H'):t6 H' b e :=
 let ⟨q,rs,h1,h2,h3⟩:=h;⟨q,rs,s _ _ h1,s _ _ h2,h3.imp fun _ _ h=>h.keep s⟩
theorem bV.list{m:Nat}{H:Hp}:∀{bs:List Addr},(∀b∈bs,∃(u v:Nat) (n:Int),H b=some (.tup [.int (u:Int),.int (v:Int),.int n])/\u<v/\v<m)->∃ps,A2 (fD H) bs ps/\(∀p∈ps,p.1<p.2.1/\p.2.1<m)/\(bs.map fun b=>cM (bT H b))=ps.map fun p=>((p.1:Int),(p.2.1:Int))
 | [],_=>⟨[],.nil,fun _ h=>(qAw h).elim,rfl⟩
 | b::bs,h=>by
  obtain⟨ps,h1,h2,h3⟩:=bV.list (bs:=bs) fun c hc=>h c (qBn _ hc);obtain⟨u,v,n,e,z⟩:=h b (by simp);refine⟨(u,v,n)::ps,.cons e h1,fun p hp=>?_,?_⟩
  ·rcases List.mem_cons.mp hp with rfl | hp
   ·exact z
   ·exact h2 p hp
  ·rw[qBq,qBq,h3,bW e];rfl
theorem bV.pw{m:Nat}{H:Hp}{bs:List Addr}(h:bV m H bs):∃ps,A2 (fD H) bs ps/\Pw m ps:=by
 obtain⟨ps,h1,h2,h3⟩:=bV.list h.1;refine⟨ps,h1,h2,?_⟩;have nd:=h.2.1;rw[h3] at nd;have e:(ps.map fun p=>((p.1:Int),(p.2.1:Int)))=(ps.map fun p=>(p.1,p.2.1)).map fun q=>((q.1:Int),(q.2:Int)):=by rw[qCg];rfl
 rw[e] at nd;refine List.Pairwise.of_map _ (fun a b ne=>?_) nd;rintro rfl;exact ne rfl
theorem j8{as:List Addr}{i:Nat}{a:Addr}(h:as[i]?=some a):lQ (as.map V.ref) (i:Int)=some (.ref a):=bA (by rw[qBx,h];rfl)
theorem at_of{as:List Addr}{i:Nat}{x:V}(h:(as.map V.ref)[i]?=some x):∃a,as[i]?=some a/\x = .ref a:=by
 rw[qBx] at h;cases e:as[i]? with
 | none=>rw[e] at h;cases h
 | some y=>rw[e] at h;exact⟨y,rfl,(Option.some.inj h).symm⟩
theorem lG{H:Hp}{ts:List Addr}{ps:List P3}{n i:Nat}(h:A2 (t6 H) ts (dX ps n))(hi:i<=n):∃t,ts[i]?=some t/\t6 H t (bR ps i):=h.get (jD ps hi)
theorem Good.len{ps:List P3}{b g:Nat}{s:Int}{r:List (Nat×Nat)}(h:Good ps b g s r)(hb:b<=6):r.length+b<=6:=by
 induction h with
 | nil b g=>simpa using hb
 | @cons b g i j n s r h1 h2 h3 _ _ _ _ ih =>
  have:=ih (by lia);rw[qCf];lia
theorem vX:∀i:_root_.Fin 6,alone i.1=((2^i.1:Nat):Int):=by decide
theorem eQ{i:Nat}(h:i<6):lQ (gK.map V.int) (i:Int)=some (.int ((2^i:Nat):Int)):=by
 have z:=iL (i:=(i:Int)) (by lia) (by lia);rw[qJg,vX ⟨i,h⟩] at z;exact z
theorem vY{α β:Type}{f:β->α->β}{b:β}{xs:List α}{i:Nat}{x:α}(h:xs[i]?=some x):(xs.take (i+1)).foldl f b=f ((xs.take i).foldl f b) x:=by
 rw[List.take_succ,h,List.foldl_append];rfl
def HJ:Sp:=fun vs H Q _=>∃(lb lp:Addr) (ts bs:List Addr) (ps:List P3) (n:Nat),vs=[.ref lb,.ref lp,.int ((n+1:Nat):Int)]/\H lb=some (.lst (ts.map V.ref))/\A2 (t6 H) ts (dX ps n)/\H lp=some (.lst (bs.map V.ref))/\A2 (fD H) bs ps/\(∀p∈ps,p.1<p.2.1/\p.2.1<6)/\n+1<64 /\
 ∀t H',aJ H H'->t6 H' t (bR ps (n+1))->Q (.ref t) H'
theorem qX:aL ["best","pairs","group","least","found","one","other","number","rest"] ["best","pairs","group"] (aH Jj):=by constructor<;>first|rfl|decide +kernel
theorem HK{f1 f2:Addr}{fd1 fd2:qAx}(t:Tx K mg "best_of_group" Jj ["best","pairs","group"] f fd)(T:T K mg AL LN RU OW PL PA VO MA NE fE fH rR rO rP rA rV rM rN iR iO iP iA iV iM iN fL SE NG NN NO NR NL NS NT NX NV TM UL)(D_hands_of:Df P w K mg base (gB P w) 4 "hands_of" ["group"] (yO K NG) f1 fd1)(D_has_both:Df P w K mg base cE 1 "has_both" ["group","one","other"] Eg f2 fd2):
  Df P w K mg base cE 5 "best_of_group" ["best","pairs","group"] HJ f fd:=by
 refine t.iC qX (fun vs H Q E h=>?_) (fun cdv A outer s H vs Q E hr h=>?_)
 ·obtain⟨lb,lp,ts,bs,ps,n,rfl,_⟩:=h;rfl
 ·obtain⟨lb,lp,ts,bs,ps,n,rfl,hlb,hts,hlp,hbs,hps,hn,k⟩:=h;refine⟨_,(aE (aZ (i:=3) qX.nd rfl cP (aY aU (dN fG D_hands_of hr (by decide) (by rfl) (aA (pv 2) aD)) aC (fun _ _=>rfl)))
   (aE (aZ (i:=4) qX.nd rfl cP (aY aU (pv 0) (aK cL (pv 2) (aY bU (a8 (v:=.ref AL) (by rfl) T.rG rfl) (pv 3) (fun _ _=>rfl))) (fun _ _=>rfl)))
   (aE (g8 PassesOwn.never rfl (cW (pv 1)) (nK rfl (cU (bI (i:=5) qX.nd rfl cP) (cU (bI (i:=6) qX.nd rfl cP) (cU (bI (i:=7) qX.nd rfl cP) j3))))
    (aG (bC (PW.pt (pw_and (aO bJ (pv 5) (pv 3) (aS _)) (pw_and1 (dG (bF D_has_both hr (by decide) (by rfl) (aA (pv 2) (aA (pv 5) (aA (pv 6) aD)))))))) (aE (aZ (i:=8) qX.nd rfl cP (aY aU (pv 0) (aK cL (aK cL (pv 2) (aY bU (a8 (v:=.ref AL) (by rfl) T.rG rfl) (pv 5) (fun _ _=>rfl))) (aY bU (a8 (v:=.ref AL) (by rfl) T.rG rfl) (pv 6) (fun _ _=>rfl))) (fun _ _=>rfl)))
     (aG (bC (aO Bm (aK cG (pv 7) (aY bU (pv 8) aC (fun _ _=>rfl))) (aY bU (pv 4) aC (fun _ _=>rfl)) (aS _)) (aG (aZ (i:=4) qX.nd rfl cP (eA (aA (aK cG (pv 7) (aY bU (pv 8) aC (fun _ _=>rfl))) (aA (aK Ad (eA (aA (eA (aA (pv 5) (aA (pv 6) aD))) aD)) (aY bU (pv 8) aC (fun _ _=>rfl))) aD))))) aQ))) aQ)))
   (aG (aN (pv 4)))))),?_⟩
  have p1:∀k,1<=2^k:=fun k=>qFd;have ne:n+1≠0:=by lia
  obtain⟨l6,lb1,lmin,hh,_⟩:=lo_facts ⟨n+1,hn⟩ ne;have l6:lo (n+1)<6:=l6;have lb1:aT (n+1) (lo (n+1))=true:=lb1;have hh:dE (n+1)=(lo (n+1):Int)::(dE (n+1)).tail:=hh;have hle:=sW hn l6 lb1;refine⟨_,rfl,_,rfl,.int _,fun no=>?_,fun g l H1 eg hg hl s1 h1=>?_⟩
  ·have z:=tX (g:=n+1) (m:=6) hn;rw[z] at no;cases no
  have eg:g=n+1:=by have:=V.int.inj eg;lia
  subst eg;rw[hh] at h1;obtain⟨t0,ht0,e0⟩:=lG hts (i:=n+1-2^lo (n+1)) (by have:=p1 (lo (n+1));generalize 2^lo (n+1)=x at *;lia);have hat:lQ (ts.map V.ref) (((n+1:Nat):Int)-((2^lo (n+1):Nat):Int))=some (.ref t0):=by
   rw[<- qHu hle];exact j8 ht0
  refine⟨l,_,_,_,rfl,rfl,aX.of h1,bA (xs:=((lo (n+1):Int)::(dE (n+1)).tail).map V.int) (j:=0) (v:=V.int (lo (n+1):Int)) rfl,?_⟩;refine⟨_,rfl,_,rfl,_,rfl,AL,_,_,_,rfl,rfl,T.al _,eQ l6,_,_,rfl,rfl,lb,_,_,_,rfl,rfl,aX.of (s1 _ _ hlb),hat,?_⟩;refine⟨_,rfl,lp,rfl,⟨_,aX.of (s1 _ _ hlp)⟩,?_⟩;refine hZ (xs:=bs.map V.ref) (fun i σ' H'=>aJ H H'/\∃(tf:Addr) (o5 o6 o7 o8:Option V),t6 H' tf ((ps.take i).foldl (dW (bR ps) (n+1)) (bR ps (n+1-2^lo (n+1))))/\σ'=[some (.ref lb),some (.ref lp),some (.int ((n+1:Nat):Int)),some (.int (lo (n+1):Int)),some (.ref tf),o5,o6,o7,o8]) ?_ ?_ ?_ ?_
  ·exact⟨s1,t0,none,none,none,none,e0.keep s1.t,rfl⟩
  ·rintro i σ' H' _ ⟨s2,_⟩;exact aX.of (s2 _ _ hlp)
  ·rintro i x σ' H2 hx ⟨s2,tf,o5,o6,o7,o8,ef,rfl⟩;obtain⟨b,hb,rfl⟩:=at_of hx;obtain⟨⟨u,v,c⟩,hp,ep⟩:=hbs.at hb;obtain⟨huv,hv⟩:=hps _ (qBe hp);have huv:u<v:=huv;have hv:v<6:=hv;have tk:=vY (f:=dW (bR ps) (n+1)) (b:=bR ps (n+1-2^lo (n+1))) hp;refine⟨b,_,rfl,dU.of (s2 _ _ ep),rfl,_,_,rfl,_,_,rfl,_,_,rfl,rfl,?_⟩;have iU:dW (bR ps) (n+1) ((ps.take i).foldl (dW (bR ps) (n+1)) (bR ps (n+1-2^lo (n+1)))) (u,v,c)=(ps.take i).foldl (dW (bR ps) (n+1)) (bR ps (n+1-2^lo (n+1)))->t6 H2 tf ((ps.take (i+1)).foldl (dW (bR ps) (n+1)) (bR ps (n+1-2^lo (n+1)))):=fun z=>by
    rw[tk,z];exact ef
   generalize hF:(ps.take i).foldl (dW (bR ps) (n+1)) (bR ps (n+1-2^lo (n+1)))=F at *;refine⟨_,rfl,_,rfl,rfl,_,rfl,?_⟩;refine bN (fun h3=>?_) (fun h3=>?_)
   ·have c1:u=lo (n+1):=by have:=V.int.inj (of_decide_eq_true h3);lia
    refine⟨_,rfl,_,rfl,_,rfl,n+1,u,v,rfl,hn,by lia,hv,_,rfl,?_⟩;refine bN (fun h4=>?_) (fun h4=>?_)
    ·have h4:both (n+1) u v=true:=h4;have h4':(aT (n+1) u&&aT (n+1) v)=true:=h4;rw[qAn] at h4';have w1:2^u<=n+1:=sW hn (by lia) h4'.1;have w2:2^v<=n+1-2^u:=sW (qCi (qGa _ _) hn) hv (by rw[vV hn (by lia) hv h4'.1,h4'.2,decide_eq_true (show v≠u by lia)];rfl);obtain⟨tr,htr,er⟩:=lG hts (i:=n+1-2^u-2^v) (by have:=p1 u;generalize 2^u=x at *;generalize 2^v=y at *;lia);have hat2:lQ (ts.map V.ref) (((n+1:Nat):Int)-((2^u:Nat):Int)-((2^v:Nat):Int))=some (.ref tr):=by
      rw[<- qHu w1,<- qHu w2];exact j8 htr
     obtain⟨rq,rr,r1,r2,r3⟩:=er.keep s2.t;obtain⟨fq,fr,g1,g2,g3⟩:=ef;have gl:(bR ps (n+1-2^u-2^v)).2.length+0<=6:=(vW hps (n+1-2^u-2^v) (qCi (qCe (qGa _ _) (qGa _ _)) hn)).len (by lia);refine⟨_,rfl,_,rfl,_,rfl,AL,_,_,_,rfl,rfl,T.al _,eQ (by lia),_,_,rfl,rfl,_,rfl,AL,_,_,_,rfl,rfl,T.al _,eQ hv,_,_,rfl,rfl,lb,_,_,_,rfl,rfl,aX.of (s2 _ _ hlb),hat2,?_⟩;refine⟨_,rfl,_,rfl,tr,_,_,_,rfl,rfl,dU.of r1,rfl,_,_,rfl,rfl,_,rfl,tf,_,_,_,rfl,rfl,dU.of g1,rfl,_,_,rfl,rfl,_,rfl,?_⟩;refine bN (fun h5=>?_) (fun h5=>?_)
     ·have h5:c+(bR ps (n+1-2^u-2^v)).1>F.1:=of_decide_eq_true h5;have eF:dW (bR ps) (n+1) F (u,v,c)=(c+(bR ps (n+1-2^u-2^v)).1,(u,v)::(bR ps (n+1-2^u-2^v)).2):=by
       unfold dW;rw[if_pos ⟨c1,h4⟩,if_pos h5]
      rw[eF] at tk;refine⟨_,rfl,_,rfl,tr,_,_,_,rfl,rfl,dU.of r1,rfl,_,_,rfl,rfl,_,rfl,_,rfl,tF,fun t1 ht1=>⟨jS,fun t2 ht2=>?_⟩⟩;have u1:=aJ.aI (o:=.tup [V.int (u:Int),V.int (v:Int)]) ht1;have u2:=aJ.aI (o:=.tup [V.ref t1]) ht2;have u12:=u1.trans u2;have d1:=u2 _ _ (aB (H:=H2) (a:=t1) (o:=.tup [V.int (u:Int),V.int (v:Int)]));have fin:∀(p:Addr) (H3:Hp),aJ (upd (upd H2 t1 (.tup [V.int (u:Int),V.int (v:Int)])) t2 (.tup [V.ref t1])) H3->H3 p=some (.tup ((t1::rr).map V.ref))->∀tt,H3 tt=none->t6 (upd H3 tt (.tup [.int (c+(bR ps (n+1-2^u-2^v)).1),.ref p])) tt ((ps.take (i+1)).foldl (dW (bR ps) (n+1)) (bR ps (n+1-2^lo (n+1))))/\aJ H (upd H3 tt (.tup [.int (c+(bR ps (n+1-2^u-2^v)).1),.ref p])):=fun p H3 s3 hp3 tt htt=>by
       have u3:=aJ.aI (o:=.tup [.int (c+(bR ps (n+1-2^u-2^v)).1),.ref p]) htt;rw[tk];refine⟨⟨p,t1::rr,aB,u3 _ _ hp3,.cons (u3 _ _ (s3 _ _ d1)) (r3.imp fun _ _ z=>z.keep ((u12.trans s3).trans u3).t)⟩,((s2.trans u12).trans s3).trans u3⟩
      refine⟨_,rfl,tr,_,_,_,rfl,rfl,dU.of (u12 _ _ r1),rfl,t2,rq,_,_,rfl,rfl,dU.of aB,dU.of (u12 _ _ r2),by simp,?_,fun e=>?_,fun e p hp=>?_⟩
      ·rw[qAc,r3.len];show 1+_<=qAg;exact qCe (m:=7) (by lia) (by decide)
      ·refine⟨tF,fun tt htt=>?_⟩;have e':rr=[]:=by simpa using e
       subst e';obtain⟨q1,q2⟩:=fin t2 _ (.refl _) aB tt htt;exact⟨q2,tt,_,_,_,_,q1,rfl⟩
      ·refine⟨tF,fun tt htt=>?_⟩;obtain⟨q1,q2⟩:=fin p _ (.aI hp) aB tt htt;exact⟨q2,tt,_,_,_,_,q1,rfl⟩
     ·have h5:¬c+(bR ps (n+1-2^u-2^v)).1>F.1:=fun z=>h5 (decide_eq_true z);refine⟨s2,tf,_,_,_,_,iU ?_,rfl⟩;unfold dW;rw[if_pos ⟨c1,h4⟩,if_neg h5]
    ·have h4:¬both (n+1) u v=true:=h4;refine⟨s2,tf,_,_,_,_,iU ?_,rfl⟩;unfold dW;rw[if_neg fun z=>h4 z.2]
   ·have c1:¬u=lo (n+1):=fun z=>h3 (decide_eq_true (by rw[z]));refine cT ?_;refine⟨s2,tf,_,_,_,_,iU ?_,rfl⟩;unfold dW;rw[if_neg fun z=>c1 z.1]
  ·rintro σ' H2 ⟨s2,tf,o5,o6,o7,o8,ef,rfl⟩;rw[qAc,hbs.len,qGt] at ef;exact⟨_,rfl,k tf H2 s2 (by rw[nB ps ne];exact ef)⟩
def HL:Sp:=fun vs H Q _=>∃(lp:Addr) (bs:List Addr) (ps:List P3) (m:Nat),vs=[.int (m:Int),.ref lp]/\H lp=some (.lst (bs.map V.ref))/\A2 (fD H) bs ps/\(∀p∈ps,p.1<p.2.1/\p.2.1<6)/\1<=m/\m<=6 /\
 ∀(l:Addr) (ts:List Addr) (H':Hp),H l=none->aJ H H'->H' l=some (.lst (ts.map V.ref))->A2 (t6 H') ts (dX ps (2^m-1))->Q (.ref l) H'
theorem Ep:aL ["many","pairs","best","group"] ["many","pairs"] (aH Jk):=by constructor<;>first|rfl|decide +kernel
theorem HM{f1 f2:Addr}{fd1 fd2:qAx}(t:Tx K mg "best_pairings" Jk ["many","pairs"] f fd)(T:T K mg AL LN RU OW PL PA VO MA NE fE fH rR rO rP rA rV rM rN iR iO iP iA iV iM iN fL SE NG NN NO NR NL NS NT NX NV TM UL)(D_whole_company:Df P w K mg base cE 1 "whole_company" ["many"] DY f1 fd1)(D_best_of_group:Df P w K mg base cE 5 "best_of_group" ["best","pairs","group"] HJ f2 fd2):
  Df P w K mg base cE 6 "best_pairings" ["many","pairs"] HL f fd:=by
 refine t.iC Ep (fun vs H Q E h=>?_) (fun cdv A outer s H vs Q E hr h=>?_)
 ·obtain⟨lp,bs,ps,m,rfl,_⟩:=h;rfl
 ·obtain⟨lp,bs,ps,m,rfl,hlp,hbs,hps,m1,m6,k⟩:=h;refine⟨_,(aE (aZ (i:=2) Ep.nd rfl cP (bB (aA (eA (aA aC (aA (eA aD) aD))) aD)))
   (aE (g8 PassesOwn.never rfl (uO (by rfl) T.dO (aA aC (aA (aK cG (bF D_whole_company hr (by decide) (by rfl) (aA (pv 0) aD)) aC) aD))) (bI (i:=3) Ep.nd rfl cP)
    (aG (bO (mH qDp qDk qDj eY (pv 2) (aA (bF D_best_of_group hr (by decide) (by rfl) (aA (pv 2) (aA (pv 1) (aA (pv 3) aD)))) aD)))))
   (aG (aN (pv 2))))),?_⟩
  have h64:2^m<=64:=qCt (n:=2) (by decide) m6;have h2:1<=2^m:=qFd;refine⟨by show 0<=qAg;decide,fun te hte=>⟨tF,fun t0 ht0=>⟨jS,fun l hl=>?_⟩⟩⟩;have u1:=aJ.aI (o:=.tup []) hte;have u2:=aJ.aI (o:=.tup [V.int 0,V.ref te]) ht0;have u3:=aJ.aI (o:=.lst [V.ref t0]) hl;have s0:=(u1.trans u2).trans u3;have l0:H l=none:=(u1.trans u2).free hl;have e0:t6 (upd (upd (upd H te (.tup [])) t0 (.tup [V.int 0,V.ref te])) l (.lst [V.ref t0])) t0 ((0,[]):E2):=⟨te,[],u3 _ _ aB,u3 _ _ (u2 _ _ aB),.nil⟩;have hl0:upd (upd (upd H te (.tup [])) t0 (.tup [V.int 0,V.ref te])) l (.lst [V.ref t0]) l=some (.lst ([t0].map V.ref)):=aB;generalize upd (upd (upd H te (.tup [])) t0 (.tup [V.int 0,V.ref te])) l (.lst [V.ref t0])=H1 at s0 e0 hl0|-;clear u1 u2 u3 hte ht0 hl;have e2:((2:Int)^m-1+1-1).toNat=2^m-1:=by
   have e:((2^m:Nat):Int)=2^m:=by push_cast;rfl
   lia
  have e3:((2^m:Nat):Int)=2^m:=by push_cast;rfl
  refine⟨_,rfl,m,rfl,m6,fun H2 s2=>⟨_,_,rfl,rfl,1,_,rfl,⟨by decide,by decide,by lia,by lia⟩,?_⟩⟩;rw[e2];refine iX (n:=2^m-1) (fun i σ' H'=>aJ H H'/\∃(ts:List Addr) (o3:Option V),H' l=some (.lst (ts.map V.ref))/\A2 (t6 H') ts (dX ps i)/\σ'=[some (.int (m:Int)),some (.ref lp),some (.ref l),o3]) ?_ ?_ ?_
  ·exact⟨s0.trans s2,[t0],none,s2 _ _ hl0,.cons (e0.keep s2.t) .nil,rfl⟩
  ·rintro i σ' H3 hi ⟨s3,ts,o3,h3,h4,rfl⟩;refine⟨_,rfl,.inl ⟨rfl,_,aX.of h3⟩,_,rfl,_,rfl,_,rfl,l,lp,ts,bs,ps,i,?_,h3,h4,s3 _ _ hlp,hbs.imp fun _ _ z=>z.keep s3.t,hps,by lia,fun tn H4 s4 e4=>?_⟩
   ·show [V.ref l,V.ref lp,V.int (1+(i:Int))]=_;rw[show(1:Int)+(i:Int)=((i+1:Nat):Int) by lia]
   refine⟨l,_,_,rfl,rfl,s4 _ _ h3,?_,(s3.trans s4).upd_ne' l0,ts++[tn],_,by rw[aB,qBw];rfl,?_,rfl⟩
   ·rw[qAc,h4.len,eP];exact aW (by lia)
   ·have kt:fK H4 (upd H4 l (.lst (ts.map V.ref++[V.ref tn]))):=fK.lst (s4 _ _ h3);have z:dX ps (i+1)=dX ps i++[bR ps (i+1)]:=by rw[lF];rfl
    rw[z];exact(h4.imp fun _ _ z=>z.keep (fun b xs e=>kt _ _ (s4 _ _ e))).snoc (e4.keep kt)
  ·rintro σ' H3 ⟨s3,ts,o3,h3,h4,rfl⟩;exact⟨_,rfl,k l ts H3 l0 s3 h3 h4⟩
theorem A2.mem{α:Type}{R:Addr->α->Prop}{as:List Addr}{xs:List α}(h:A2 R as xs):(∀a∈as,∃x∈xs,R a x)/\∀x∈xs,∃a∈as,R a x:=by
 induction h with
 | nil=>exact⟨fun _ h=>(qAw h).elim,fun _ h=>(qAw h).elim⟩
 | cons r _ ih =>
  refine⟨fun a ha=>?_,fun x hx=>?_⟩
  ·rcases List.mem_cons.mp ha with rfl | ha
   ·exact⟨_,by simp,r⟩
   ·obtain⟨x,hx,e⟩:=ih.1 a ha;exact⟨x,qBn _ hx,e⟩
  ·rcases List.mem_cons.mp hx with rfl | hx
   ·exact⟨_,by simp,r⟩
   ·obtain⟨a,ha,e⟩:=ih.2 x hx;exact⟨a,qBn _ ha,e⟩
theorem fD.eq{H:Hp}{b:Addr}{p p':P3}(h:fD H b p)(h':fD H b p'):p=p':=by
 obtain⟨u,v,n⟩:=p;obtain⟨u',v',n'⟩:=p';have z:some (HO.tup [.int (u:Int),.int (v:Int),.int n])=some (HO.tup [.int (u':Int),.int (v':Int),.int n']):=h.symm.trans h';have z:=HO.tup.inj (Option.some.inj z);simp only[List.cons.injEq,V.int.injEq,and_true] at z;obtain⟨z1,z2,z3⟩:=z;rw[show u=u' by lia,show v=v' by lia,z3]
def sX(MA:Addr)(H:Hp)(a lb:Addr)(m:Nat)(ps:List P3):Prop:=∃(dx l:Addr) (ts:List Addr),H a=some (.ins MA dx [("many",.int (m:Int)),("pairs",.ref l),("best",.ref lb)])/\H lb=some (.lst (ts.map V.ref))/\A2 (t6 H) ts (dX ps (2^m-1))/\1<=m/\m<=6/\Pw m ps
theorem sX.same{MA:Addr}{H H':Hp}{a lb:Addr}{m:Nat}{ps:List P3}(h:sX MA H a lb m ps)(s:aJ H H'):sX MA H' a lb m ps :=
 let ⟨dx,l,ts,h1,h2,h3,h4⟩:=h;⟨dx,l,ts,s _ _ h1,s _ _ h2,h3.imp fun _ _ z=>z.keep s.t,h4⟩
theorem Pw.six{m:Nat}{ps:List P3}(h:Pw m ps)(h6:m<=6):Pw 6 ps:=⟨fun p hp=>let ⟨a,b⟩:=h.1 p hp;⟨a,by lia⟩,h.2⟩
def AO(K:qAa)(NL MA:Addr):Sp:=fun vs H Q E=>∃(x dx p:Addr) (v:V) (as:List Addr),vs=[.ref x,v,.ref p]/\H x=some (.ins MA dx [])/\Pl K H v/\H p=some (.lst (as.map V.ref))/\fA K H as/\as.length<64 /\
 ((gD 1 6 v=false/\∀H',SameBut x H H'->E (.ref NL) none H')\/∃m:Nat,v = .int (m:Int)/\1<=m/\m<=6/\((fB (m:Int) (as.map (bT H))=false/\∀H',SameBut x H H'->E (.ref NL) none H')\/bV m H as /\
 ∀(lb:Addr) (ps:List P3) (H':Hp),H lb=none->SameBut x H H'->sX MA H' x lb m ps->Q .non H'))
theorem JB:aL ["self","many","pairs"] ["self","many","pairs"] (aH FC):=by constructor<;>first|rfl|decide +kernel
theorem HN{f1 f2:Addr}{fd1 fd2:qAx}(t:Mx K "__init__" "Match.__init__" FC ["self","many","pairs"] f fd)(T:T K mg AL LN RU OW PL PA VO MA NE fE fH rR rO rP rA rV rM rN iR iO iP iA iV iM iN fL SE NG NN NO NR NL NS NT NX NV TM UL)(D_RI:Md P w K mg base 4 ["self","many"] (lX K NL) iR)(D_sorted_pairs:Df P w K mg base (gB P w) 4 "sorted_pairs" ["many","pairs"] (tY K NL) f1 fd1)(D_best_pairings:Df P w K mg base cE 6 "best_pairings" ["many","pairs"] HL f2 fd2):
  Md P w K mg base 7 ["self","many","pairs"] (AO K NL MA) f:=by
 refine t.Bs JB (fun vs H Q E h=>?_) (fun cdv A outer s H vs Q E hr h=>?_)
 ·obtain⟨x,dx,p,v,as,rfl,_⟩:=h;rfl
 ·obtain⟨x,dx,p,v,as,rfl,hx,pl,hp,ht,h64,k⟩:=h;refine⟨_,(aE (bO (mM aV.toPass (by rfl) T.wC T.FN D_RI hr (by decide) (aA (pv 0) (aA (pv 1) aD))))
   (aE (eV (pv 0) (dN aV.toPass D_sorted_pairs hr (by decide) (by rfl) (aA (pv 1) (aA (pv 2) aD))) rfl)
   (aG (eV (pv 0) (bF D_best_pairings hr (by decide) (by rfl) (aA (pv 1) (aA (dH (pv 0) rfl) aD))) rfl)))),?_⟩
  refine⟨_,rfl,_,rfl,x,MA,dx,_,rfl,hx,T.AD.oc.cl,T.AD.nm,pl,fun no=>?_,fun yes=>?_⟩
  ·rcases k with ⟨_,k⟩ | ⟨m,rfl,m1,m6,_⟩
   ·exact k H ((aJ.refl H).but x)
   ·rw[fQ,decide_eq_true m1,decide_eq_true m6] at no;cases no
  rcases k with ⟨no,_⟩ | ⟨m,rfl,m1,m6,k⟩
  ·rw[no] at yes;cases yes
  have at_:∀b o,(∀C dx fs,o≠HO.ins C dx fs)->H b=some o->upd H x (.ins MA dx [("many",V.int (m:Int))]) b=some o:=fun b o n e=>by
   rw[aM]
   ·exact e
   ·rintro rfl;rw[hx] at e;exact n _ _ _ (Option.some.inj e).symm
  have hp1:=at_ _ _ (by intro _ _ _ z;cases z) hp;have ht1:fA K (upd H x (.ins MA dx [("many",V.int (m:Int))])) as:=fun a ha=>by
   obtain⟨xs,h1,h2,h3⟩:=ht a ha;exact⟨xs,at_ _ _ (by intro _ _ _ z;cases z) h1,fun v hv=>(h2 v hv).eL hx,h3⟩
  have eqm:as.map (bT (upd H x (.ins MA dx [("many",V.int (m:Int))])))=as.map (bT H):=ht.eq fun a xs e=>at_ _ _ (by intro _ _ _ z;cases z) e;have sb:SameBut x H (upd H x (.ins MA dx [("many",V.int (m:Int))])):=((aJ.refl H).but x).gJ _;refine⟨_,rfl,_,rfl,(m:Int),p,as,rfl,hp1,ht1,h64,fun no H1 s1=>?_,fun yes l bs H1 hl hb s1 h1=>?_⟩
  ·rw[eqm] at no;rcases k with ⟨_,k⟩ | ⟨ok,_⟩
   ·exact k H1 (sb.then s1)
   ·rw[ok.ok] at no;cases no
  rw[eqm] at yes;rcases k with ⟨no,_⟩ | ⟨ok,k⟩
  ·rw[no] at yes;cases yes
  have Al:bV m (upd H x (.ins MA dx [("many",V.int (m:Int))])) as:=ok.same fun b hb o e=>by
   obtain⟨u,v,n,e',_⟩:=ok.1 b hb;rw[e'] at e;exact(Option.some.inj e)▸at_ _ _ (by intro _ _ _ z;cases z) e'
  have hx1:=s1 _ _ (aB (H:=H) (a:=x) (o:=.ins MA dx [("many",V.int (m:Int))]));refine⟨_,rfl,x,MA,dx,_,rfl,hx1,T.AD.oc.cl,T.JY,(by show 1<1000;decide),?_⟩;have nl:l≠x:=(a9 (aB (H:=H) (a:=x) (o:=.ins MA dx [("many",V.int (m:Int))])) hl).symm;have ok2:bV m H1 bs:=(Al.oE hb).same fun b _ o e=>s1 _ _ e;obtain⟨ps,a2,pw⟩:=ok2.pw;have at2:∀b xs,H1 b=some (HO.tup xs)->upd H1 x (.ins MA dx [("many",V.int (m:Int)),("pairs",.ref l)]) b=some (.tup xs):=fun b xs e=>by
   rw[aM (eR e hx1 (fun z=>nomatch z))];exact e
  refine⟨_,rfl,_,rfl,x,MA,dx,_,_,rfl,aB,T.AD.oc.cl,T.JY,rfl,l,bs,ps,m,rfl,(by show upd _ _ _ l=_;rw[aM nl];exact h1),a2.imp fun _ _ z=>z.keep at2,(pw.six m6).1,m1,m6,fun lb ts H2 hlb s2 h2 hts=>?_⟩;have hx2:=s2 _ _ (aB (H:=H1) (a:=x) (o:=.ins MA dx [("many",V.int (m:Int)),("pairs",.ref l)]));have nlb:lb≠x:=(a9 (aB (H:=H1) (a:=x) (o:=.ins MA dx [("many",V.int (m:Int)),("pairs",.ref l)])) hlb).symm;refine⟨_,rfl,x,MA,dx,_,rfl,hx2,T.AD.oc.cl,T.GK,(by show 2<1000;decide),?_⟩;have hlb0:H lb=none:=by
   have z:H1 lb=none:=by
    have:upd H1 x (.ins MA dx [("many",V.int (m:Int)),("pairs",.ref l)]) lb=none:=hlb;rw[aM nlb] at this;exact this
   have y:=s1.free z;rw[aM nlb] at y;exact y
  have at3:∀(o:HO),fK H2 (upd H2 x o):=fun o b xs e=>by
   rw[aM (eR e hx2 (fun z=>nomatch z))];exact e
  exact k lb ps _ hlb0 ((((sb.then s1).gJ _).then s2).gJ _) ⟨dx,l,ts,aB,(by rw[aM nlb];exact h2),hts.imp fun _ _ z=>z.keep (at3 _),m1,m6,pw⟩
def Er(MA:Addr):Sp:=fun vs H Q _=>∃(a lb:Addr) (m:Nat) (ps:List P3) (g:Nat),vs=[.ref a,.int (g:Int)]/\sX MA H a lb m ps/\g<2^m/\Q (.int (bR ps g).1) H
theorem JC:aL ["self","group"] ["self","group"] (aH FD):=by constructor<;>first|rfl|decide +kernel
theorem HP(t:Mx K "reckon" "Match.reckon" FD ["self","group"] f fd)(T:T K mg AL LN RU OW PL PA VO MA NE fE fH rR rO rP rA rV rM rN iR iO iP iA iV iM iN fL SE NG NN NO NR NL NS NT NX NV TM UL):Md P w K mg base 1 ["self","group"] (Er MA) f:=by
 refine t.Ap JC (fun vs H Q E h=>?_) (fun cdv A outer s H vs Q E hr h=>?_)
 ·obtain⟨a,lb,m,ps,g,rfl,_⟩:=h;rfl
 ·obtain⟨a,lb,m,ps,g,rfl,mo,hg,k⟩:=h;refine⟨_,(aG (aN (aY bU (aY aU (dH (pv 0) rfl) (pv 1) (fun _ _=>rfl)) aC (fun _ _=>rfl)))),?_⟩;obtain⟨dx,l,ts,h1,h2,h3,h4⟩:=mo;obtain⟨tb,hb,q,rs,e1,e2,e3⟩:=lG h3 (i:=g) (by lia);exact⟨_,rfl,a,MA,dx,_,_,rfl,h1,T.AD.oc.cl,T.GK,rfl,_,rfl,lb,_,_,_,rfl,rfl,aX.of h2,j8 hb,tb,_,_,_,rfl,rfl,dU.of e1,rfl,k⟩
theorem vZ(D:Md P w K mg base 1 ["self","group"] (Er MA) rM)(c:RC K fE fH RU MA rM){H:Hp}{a lb:Addr}{m:Nat}{ps:List P3}(h:sX MA H a lb m ps):jY P w K mg base fE fH RU H a m (fun g=>(bR ps g).1):=by
 have h':=h;obtain⟨dx,l,ts,h1,h2,h3,h4,h5,h6⟩:=h';exact⟨MA,dx,rM,_,h1,c,rfl,h4,h5,⟨rfl,rfl,rfl⟩,_,(D.up (by decide)).imp fun vs H2 Q _ ⟨gr,e,hg,s,q⟩=>⟨a,lb,m,ps,gr,e,h.same s,hg,q H2 (.refl _)⟩⟩
def ea(r:P3):Nat:=r.1
def eb(r:P3):Nat:=if r.1=r.2.1 then 6 else r.2.1
def cY(r:P3):Nat:=2^ea r+2^eb r
def c5(r:P3):Prop:=r.1<=r.2.1/\r.2.1<6
def wD(G:Nat)(r:P3):Bool:=aT G (ea r)&&aT G (eb r)
def jn(J G:Nat)(r:P3):Bool:=wD G r&&(aT J (ea r) != aT J (eb r))
theorem c5.lt{r:P3}(h:c5 r):ea r<6/\eb r<7/\ea r≠eb r:=by
 obtain⟨h1,h2⟩:=h;unfold ea eb;split <;> lia
theorem Es:∀(J:_root_.Fin 128) (a b k:_root_.Fin 7),aT (J.1 ||| (2^a.1+2^b.1)) k.1=(aT J.1 k.1||decide (k.1=a.1)||decide (k.1=b.1))\/a.1=b.1:=by decide +kernel
theorem HQ:∀(J:_root_.Fin 128) (a b:_root_.Fin 7),J.1 ||| (2^a.1+2^b.1)<128\/a.1=b.1:=by decide +kernel
theorem gM{J k:Nat}{r:P3}(hJ:J<128)(h:c5 r)(hk:k<7):aT (J ||| cY r) k=(aT J k||decide (k=ea r)||decide (k=eb r)):=by
 obtain⟨h1,h2,h3⟩:=h.lt;exact(Es ⟨J,hJ⟩ ⟨ea r,by lia⟩ ⟨eb r,h2⟩ ⟨k,hk⟩).resolve_right h3
theorem oF{J:Nat}{r:P3}(hJ:J<128)(h:c5 r):J ||| cY r<128:=by
 obtain⟨h1,h2,h3⟩:=h.lt;exact(HQ ⟨J,hJ⟩ ⟨ea r,by lia⟩ ⟨eb r,h2⟩).resolve_right h3
def gN(J:Nat):Nat:=((qAy 7).filter (aT J)).length
theorem yT:∀(J:_root_.Fin 128) (a b:_root_.Fin 7),(aT J.1 a.1 != aT J.1 b.1)=true->gN (J.1 ||| (2^a.1+2^b.1))=gN J.1+1:=by decide +kernel
theorem oG{J:Nat}{r:P3}(hJ:J<128)(h:c5 r)(hj:(aT J (ea r) != aT J (eb r))=true):gN (J ||| cY r)=gN J+1:=by
 obtain⟨h1,h2,h3⟩:=h.lt;exact yT ⟨J,hJ⟩ ⟨ea r,by lia⟩ ⟨eb r,h2⟩ hj
theorem sY:∀g:_root_.Fin 64,gN (g.1+64)=(dE g.1).length+1:=by decide +kernel
def gO(xs:List P3)(r:P3):Prop:=∃i,xs[i]?=some r/\∀(j:Nat) (y:P3),xs[j]?=some y->r.2.2<=y.2.2/\(j<i->r.2.2<y.2.2)
theorem gO.uniq{xs:List P3}{r r':P3}(h:gO xs r)(h':gO xs r'):r=r':=by
 obtain⟨i,hi,h1⟩:=h;obtain⟨i',hi',h2⟩:=h';have a:=h1 i' r' hi';have b:=h2 i r hi;have e:i=i':=by
  rcases Nat.lt_trichotomy i i' with z | z | z
  ·have:=b.2 z;have:=a.1;lia
  ·exact z
  ·have:=a.2 z;have:=b.1;lia
 subst e;exact Option.some.inj (hi.symm.trans hi')
theorem gO.mem{xs:List P3}{r:P3}(h:gO xs r):r∈xs:=let ⟨_,hi,_⟩:=h;qBe hi
theorem gO.le{xs:List P3}{r y:P3}(h:gO xs r)(hy:y∈xs):r.2.2<=y.2.2:=by
 obtain⟨i,_,h1⟩:=h;obtain⟨j,hj⟩:=qIm hy;exact(h1 j y hj).1
inductive Run (rs:List P3) (G:Nat):Nat->List P3->Prop
 | stop:Run rs G G []
 | step {J:Nat}{r:P3}{l:List P3}:J≠G->gO (rs.filter (jn J G)) r->Run rs G (J ||| cY r) l->Run rs G J (r::l)
theorem Run.uniq{rs:List P3}{G J:Nat}{l l':List P3}(h:Run rs G J l)(h':Run rs G J l'):l=l':=by
 induction h generalizing l' with
 | stop =>
  cases h' with
  | stop=>rfl
  | step ne _ _=>exact absurd rfl ne
 | step ne m _ ih =>
  cases h' with
  | stop=>exact absurd rfl ne
  | step _ m' r' =>
   have e:=m.uniq m';subst e;rw[ih r']
theorem qY{J G:Nat}{rs:List P3}{r:P3}(h:gO (rs.filter (jn J G)) r):r∈rs/\wD G r=true/\(aT J (ea r) != aT J (eb r))=true:=by
 have m:=List.mem_filter.mp h.mem;have z:(wD G r&&(aT J (ea r) != aT J (eb r)))=true:=m.2;rw[qAn] at z;exact⟨m.1,z.1,z.2⟩
theorem Run.facts{rs:List P3}{G J:Nat}{l:List P3}(ok:∀r∈rs,c5 r)(h:Run rs G J l)(hJ:J<128):(∀r∈l,r∈rs/\wD G r=true)/\(∀r∈l,¬(aT J (ea r)=true/\aT J (eb r)=true))/\(l.map fun r=>(r.1,r.2.1)).Nodup/\l.length+gN J=gN G:=by
 induction h with
 | stop=>exact⟨fun _ h=>(qAw h).elim,fun _ h=>(qAw h).elim,qHi,by simp⟩
 | @step J r l ne m h ih =>
  obtain⟨hr,hg,hj⟩:=qY m;have o:=ok r hr;obtain⟨o1,o2,o3⟩:=o.lt;obtain⟨i1,i2,i3,i4⟩:=ih (oF hJ o);have up:∀k,k<7->aT J k=true->aT (J ||| cY r) k=true:=fun k hk z=>by rw[gM hJ o hk,z];rfl
  have both:aT (J ||| cY r) (ea r)=true/\aT (J ||| cY r) (eb r)=true:=⟨by rw[gM hJ o (by lia)];simp,by rw[gM hJ o o2];simp⟩;refine⟨fun r' hr'=>?_,fun r' hr' z=>?_,?_,?_⟩
  ·rcases List.mem_cons.mp hr' with rfl | hr'
   ·exact⟨hr,hg⟩
   ·exact i1 r' hr'
  ·rcases List.mem_cons.mp hr' with rfl | hr'
   ·rw[z.1,z.2] at hj;exact absurd hj (by decide)
   ·obtain⟨p1,p2,_⟩:=(ok r' (i1 r' hr').1).lt;exact i2 r' hr' ⟨up _ (by lia) z.1,up _ p2 z.2⟩
  ·rw[qBq,qGz];refine⟨fun z=>?_,i3⟩;obtain⟨r',hr',e⟩:=List.mem_map.mp z;have e1:r'.1=r.1:=(Prod.mk.inj e).1;have e2:r'.2.1=r.2.1:=(Prod.mk.inj e).2;have f1:ea r'=ea r:=e1;have f2:eb r'=eb r:=by unfold eb;rw[e1,e2]
   exact i2 r' hr' (by rw[f1,f2];exact both)
  ·rw[qCf];have:=oG hJ o hj;lia
inductive Cn (R:P3->Prop):Nat->Nat->Prop
 | refl (a:Nat):Cn R a a
 | fw {a:Nat}{r:P3}:R r->Cn R a (ea r)->Cn R a (eb r)
 | bw {a:Nat}{r:P3}:R r->Cn R a (eb r)->Cn R a (ea r)
theorem Cn.trans{R:P3->Prop}{a b c:Nat}(h:Cn R a b)(h':Cn R b c):Cn R a c:=by
 induction h' with
 | refl=>exact h
 | fw r _ ih=>exact .fw r ih
 | bw r _ ih=>exact .bw r ih
theorem Cn.symm{R:P3->Prop}{a b:Nat}(h:Cn R a b):Cn R b a:=by
 induction h with
 | refl=>exact .refl _
 | fw r _ ih=>exact(Cn.bw r (.refl _)).trans ih
 | bw r _ ih=>exact(Cn.fw r (.refl _)).trans ih
theorem Cn.mono{R S:P3->Prop}(f:∀r,R r->S r){a b:Nat}(h:Cn R a b):Cn S a b:=by
 induction h with
 | refl=>exact .refl _
 | fw r _ ih=>exact .fw (f _ r) ih
 | bw r _ ih=>exact .bw (f _ r) ih
theorem Cn.HR{R:P3->Prop}{a b J:Nat}(h:Cn R a b)(hb:aT J a≠aT J b):∃r,R r/\(aT J (ea r) != aT J (eb r))=true:=by
 induction h with
 | refl=>exact absurd rfl hb
 | @fw r hr h ih =>
  by_cases e:aT J (ea r)=aT J (eb r)
  ·exact ih (by rw[e];exact hb)
  ·exact⟨r,hr,by simpa using e⟩
 | @bw r hr h ih =>
  by_cases e:aT J (ea r)=aT J (eb r)
  ·exact ih (by rw[<- e];exact hb)
  ·exact⟨r,hr,by simpa using e⟩
def Bn(rs:List P3)(G J:Nat)(L:List P3):Prop:=∀(c:Int) (a b:Nat),a<7->b<7->aT J a=true->aT J b=true->Cn (fun r=>r∈rs/\wD G r=true/\r.2.2<=c) a b->Cn (fun r=>r∈L/\r.2.2<=c) a b
theorem Bn.step{rs:List P3}{G J:Nat}{L:List P3}{r:P3}(ok:∀r∈rs,c5 r)(h:Bn rs G J L)(hJ:J<128)(m:gO (rs.filter (jn J G)) r):Bn rs G (J ||| cY r) (L++[r]):=by
 obtain⟨hr,hg,hj⟩:=qY m;have o:=ok r hr;obtain⟨o1,o2,o3⟩:=o.lt;have old:∀c a b,a<7->b<7->aT J a=true->aT J b=true->Cn (fun r=>r∈rs/\wD G r=true/\r.2.2<=c) a b->Cn (fun r'=>r'∈L++[r]/\r'.2.2<=c) a b:=fun c a b ha hb h1 h2 z =>
  (h c a b ha hb h1 h2 z).mono fun r' q=>⟨qDl _ q.1,q.2⟩
 obtain⟨p,w,hp7,hw7,hp,hw,hw',join⟩:∃p w,p<7/\w<7/\aT J p=true/\aT J w=false/\(∀k,k<7->aT (J ||| cY r) k=true->aT J k=true\/k=w)/\∀(R:P3->Prop),R r->Cn R p w:=by
  cases e1:aT J (ea r) with
  | true =>
   have e2:aT J (eb r)=false:=by
    cases e2:aT J (eb r) with
    | true=>rw[e1,e2] at hj;exact absurd hj (by decide)
    | false=>rfl
   refine⟨ea r,eb r,by lia,o2,e1,e2,fun k hk z=>?_,fun R hR=>.fw hR (.refl _)⟩;rw[gM hJ o hk,qDe,qDe] at z;rcases z with (z | z) | z
   ·exact .inl z
   ·have:=of_decide_eq_true z;subst this;exact .inl e1
   ·exact .inr (of_decide_eq_true z)
  | false =>
   have e2:aT J (eb r)=true:=by
    cases e2:aT J (eb r) with
    | false=>rw[e1,e2] at hj;exact absurd hj (by decide)
    | true=>rfl
   refine⟨eb r,ea r,o2,by lia,e2,e1,fun k hk z=>?_,fun R hR=>.bw hR (.refl _)⟩;rw[gM hJ o hk,qDe,qDe] at z;rcases z with (z | z) | z
   ·exact .inl z
   ·exact .inr (of_decide_eq_true z)
   ·have:=of_decide_eq_true z;subst this;exact .inl e2
 have new:∀c b,b<7->aT J b=true->Cn (fun r=>r∈rs/\wD G r=true/\r.2.2<=c) w b->Cn (fun r'=>r'∈L++[r]/\r'.2.2<=c) w b:=fun c b hb h2 z=>by
  obtain⟨r',⟨q1,q2,q3⟩,q4⟩:=z.HR (J:=J) (by rw[hw,h2];decide);have q5:r'∈rs.filter (jn J G):=List.mem_filter.mpr ⟨q1,by unfold jn;rw[q2,q4];rfl⟩;have le:=m.le q5;have rc:r.2.2<=c:=by lia
  have y:=old c p b hp7 hb hp h2 ((join _ ⟨hr,hg,rc⟩).trans z);exact(join (fun r'=>r'∈L++[r]/\r'.2.2<=c) ⟨qAm _ (List.mem_singleton.mpr rfl),rc⟩).symm.trans y
 intro c a b ha hb h1 h2 z;rcases hw' a ha h1 with a1 | a1
 ·rcases hw' b hb h2 with b1 | b1
  ·exact old c a b ha hb a1 b1 z
  ·subst b1;exact(new c a ha a1 z.symm).symm
 ·subst a1;rcases hw' b hb h2 with b1 | b1
  ·exact new c b hb b1 z
  ·subst b1;exact .refl _
theorem Run.bn{rs:List P3}{G J:Nat}{l:List P3}(ok:∀r∈rs,c5 r)(h:Run rs G J l):∀L,J<128->Bn rs G J L->Bn rs G G (L++l):=by
 induction h with
 | stop=>intro L _ b;rw[qCz];exact b
 | @step J r l ne m h ih =>
  intro L hJ b;have o:=ok r (qY m).1;have z:=ih (L++[r]) (oF hJ o) (b.step ok hJ m);rw[qEo] at z;exact z
theorem iQ:∀k:_root_.Fin 7,aT 64 k.1=true->k.1=6:=by decide
theorem AQ(rs:List P3)(G:Nat):Bn rs G 64 []:=fun c a b ha hb h1 h2 _=>by
 have e1:a=6:=iQ ⟨a,ha⟩ h1;have e2:b=6:=iQ ⟨b,hb⟩ h2;rw[e1,e2];exact .refl _
theorem Run.well{rs:List P3}{G J:Nat}{l:List P3}(ok:∀r∈rs,c5 r)(h:Run rs G J l):∀L,J<128->(∀k,k<7->aT J k=true->Cn (fun r=>r∈L) 6 k)->∀k,k<7->aT G k=true->Cn (fun r=>r∈L++l) 6 k:=by
 induction h with
 | stop=>intro L _ b;rw[qCz];exact b
 | @step J r l ne m h ih =>
  intro L hJ b;obtain⟨hr,hg,hj⟩:=qY m;have o:=ok r hr;obtain⟨o1,o2,o3⟩:=o.lt;have z:=ih (L++[r]) (oF hJ o) fun k hk q=>by
   have old:∀k,k<7->aT J k=true->Cn (fun r'=>r'∈L++[r]) 6 k:=fun k hk y=>(b k hk y).mono fun r' q=>qDl _ q;have hm:r∈L++[r]:=qAm _ (List.mem_singleton.mpr rfl);rw[gM hJ o hk,qDe,qDe] at q;rcases q with (q | q) | q
   ·exact old k hk q
   ·have e:=of_decide_eq_true q;subst e;cases e1:aT J (ea r) with
    | true=>exact old _ (by lia) e1
    | false =>
     have e2:aT J (eb r)=true:=by
      cases e2:aT J (eb r) with
      | false=>rw[e1,e2] at hj;exact absurd hj (by decide)
      | true=>rfl
     exact .bw hm (old _ o2 e2)
   ·have e:=of_decide_eq_true q;subst e;cases e2:aT J (eb r) with
    | true=>exact old _ o2 e2
    | false =>
     have e1:aT J (ea r)=true:=by
      cases e1:aT J (ea r) with
      | false=>rw[e1,e2] at hj;exact absurd hj (by decide)
      | true=>rfl
     exact .fw hm (old _ (by lia) e1)
  rw[qEo] at z;exact z
theorem v3{rs:List P3}{g:Nat}{l:List P3}(ok:∀r∈rs,c5 r)(hg:g<64)(h:Run rs (g+64) 64 l):
  (∀r∈l,r∈rs/\wD (g+64) r=true)/\(l.map fun r=>(r.1,r.2.1)).Nodup/\l.length=(dE g).length/\(∀k,k<7->aT (g+64) k=true->Cn (fun r=>r∈l) 6 k) /\
  ∀r∈rs,wD (g+64) r=true->Cn (fun r'=>r'∈l/\r'.2.2<=r.2.2) (ea r) (eb r):=by
 obtain⟨f1,f2,f3,f4⟩:=h.facts ok (by decide);have c1:=sY ⟨g,hg⟩;have c1:gN (g+64)=(dE g).length+1:=c1;have c2:gN 64=1:=by decide
 have w:=h.well ok [] (by decide) fun k hk q=>by
  have e:k=6:=iQ ⟨k,hk⟩ q;rw[e];exact .refl _
 have b:=h.bn ok [] (by decide) (AQ rs _);rw[qJl] at w b;refine⟨f1,f3,by lia,w,fun r hr hi=>?_⟩;have o:=ok r hr;obtain⟨o1,o2,o3⟩:=o.lt;have i2:=hi;unfold wD at i2;rw[qAn] at i2;exact b r.2.2 (ea r) (eb r) (by lia) o2 i2.1 i2.2 (.fw ⟨hr,hi,qKo _⟩ (.refl _))
def t7:Sp:=fun vs H Q _=>∃(b:Addr) (r:P3),vs=[.ref b]/\fD H b r/\Q (.int r.2.2) H
theorem HS:aL ["rope"] ["rope"] (aH Dp):=by constructor<;>first|rfl|decide +kernel
theorem Et(t:Tx K mg "cost_of" Dp ["rope"] f fd)(T:T K mg AL LN RU OW PL PA VO MA NE fE fH rR rO rP rA rV rM rN iR iO iP iA iV iM iN fL SE NG NN NO NR NL NS NT NX NV TM UL):Df P w K mg base cE 1 "cost_of" ["rope"] t7 f fd:=by
 refine t.iC HS (fun vs H Q E h=>?_) (fun cdv A outer s H vs Q E hr h=>?_)
 ·obtain⟨b,r,rfl,_⟩:=h;rfl
 ·obtain⟨b,r,rfl,hb,k⟩:=h;refine⟨_,(aG (aN (aY bU (pv 0) aC (fun _ _=>rfl)))),?_⟩;exact⟨_,rfl,b,_,_,_,rfl,rfl,dU.of hb,rfl,k⟩
theorem AR:∀u:_root_.Fin 6,qBs ((2^u.1:Nat):Int) 64=((2^u.1+2^6:Nat):Int):=by decide +kernel
theorem Eu:∀u v:_root_.Fin 6,u.1<v.1->qBs ((2^u.1:Nat):Int) ((2^v.1:Nat):Int)=((2^u.1+2^v.1:Nat):Int):=by decide +kernel
def yU:Sp:=fun vs H Q _=>∃(b:Addr) (r:P3),vs=[.ref b]/\fD H b r/\c5 r/\Q (.int (cY r:Int)) H
theorem HU:aL ["rope"] ["rope"] (aH Dq):=by constructor<;>first|rfl|decide +kernel
theorem Ew(t:Tx K mg "ends_of" Dq ["rope"] f fd)(T:T K mg AL LN RU OW PL PA VO MA NE fE fH rR rO rP rA rV rM rN iR iO iP iA iV iM iN fL SE NG NN NO NR NL NS NT NX NV TM UL):Df P w K mg base cE 1 "ends_of" ["rope"] yU f fd:=by
 refine t.iC HU (fun vs H Q E h=>?_) (fun cdv A outer s H vs Q E hr h=>?_)
 ·obtain⟨b,r,rfl,_⟩:=h;rfl
 ·obtain⟨b,⟨u,v,c⟩,rfl,hb,⟨h1,h2⟩,k⟩:=h;obtain⟨tkWE,hWE⟩:=T.we;refine⟨_,(aE (bC (aO bJ (aY bU (pv 0) aC (fun _ _=>rfl)) (aY bU (pv 0) aC (fun _ _=>rfl)) (aS _)) (aG (aN (aK oQ (aY bU (a8 (v:=.ref AL) (by rfl) T.rG rfl) (aY bU (pv 0) aC (fun _ _=>rfl)) (fun _ _=>rfl)) (a8 (v:=.int 64) (by rfl) hWE ⟨tkWE,rfl⟩)))) aQ)
   (aG (aN (aK oQ (aY bU (a8 (v:=.ref AL) (by rfl) T.rG rfl) (aY bU (pv 0) aC (fun _ _=>rfl)) (fun _ _=>rfl)) (aY bU (a8 (v:=.ref AL) (by rfl) T.rG rfl) (aY bU (pv 0) aC (fun _ _=>rfl)) (fun _ _=>rfl)))))),?_⟩
  have h1:u<=v:=h1;have h2:v<6:=h2;have hb:H b=some (.tup [.int (u:Int),.int (v:Int),.int c]):=hb;refine⟨_,rfl,b,_,_,_,rfl,rfl,dU.of hb,rfl,_,rfl,b,_,_,_,rfl,rfl,dU.of hb,rfl,rfl,_,rfl,bN (fun h3=>?_) (fun h3=>?_)⟩
  ·have e:u=v:=by have:=V.int.inj (of_decide_eq_true h3);lia
   subst e;refine⟨_,rfl,b,_,_,_,rfl,rfl,dU.of hb,rfl,AL,_,_,_,rfl,rfl,T.al _,eQ h2,_,_,rfl,rfl,?_⟩;have z:=AR ⟨u,h2⟩;have e:cY (u,u,c)=2^u+2^6:=by
    unfold cY ea eb;rw[if_pos rfl]
   rw[e] at k;show Q (.int (qBs ((2^u:Nat):Int) 64)) H;rw[show qBs ((2^u:Nat):Int) 64=((2^u+2^6:Nat):Int) from z];exact k
  ·have e:u≠v:=fun z=>h3 (decide_eq_true (by rw[z]));refine⟨_,rfl,b,_,_,_,rfl,rfl,dU.of hb,rfl,AL,_,_,_,rfl,rfl,T.al _,eQ (by lia),_,rfl,b,_,_,_,rfl,rfl,dU.of hb,rfl,AL,_,_,_,rfl,rfl,T.al _,eQ h2,_,_,rfl,rfl,?_⟩;have z:=Eu ⟨u,by lia⟩ ⟨v,h2⟩ (by show u<v;lia);have e2:cY (u,v,c)=2^u+2^v:=by
    unfold cY ea eb;rw[if_neg e]
   rw[e2] at k;show Q (.int (qBs ((2^u:Nat):Int) ((2^v:Nat):Int))) H;rw[show qBs ((2^u:Nat):Int) ((2^v:Nat):Int)=((2^u+2^v:Nat):Int) from z];exact k
theorem AS:∀(J:_root_.Fin 128) (a b:_root_.Fin 7),a.1≠b.1->decide (qCh ((2^a.1+2^b.1:Nat):Int) (J.1:Int)=((2^a.1+2^b.1:Nat):Int))=(aT J.1 a.1&&aT J.1 b.1)/\decide (qCh ((2^a.1+2^b.1:Nat):Int) (J.1:Int)=0)=(!aT J.1 a.1 && !aT J.1 b.1):=by decide +kernel
theorem yV{J:Nat}{r:P3}(hJ:J<128)(h:c5 r):decide (qCh (cY r:Int) (J:Int)=(cY r:Int))=(aT J (ea r)&&aT J (eb r))/\decide (qCh (cY r:Int) (J:Int)=0)=(!aT J (ea r) && !aT J (eb r)):=by
 obtain⟨h1,h2,h3⟩:=h.lt;exact AS ⟨J,hJ⟩ ⟨ea r,by lia⟩ ⟨eb r,h2⟩ h3
def BC:Sp:=fun vs H Q _=>∃(b:Addr) (r:P3) (J G:Nat),vs=[.ref b,.int (J:Int),.int (G:Int)]/\fD H b r/\c5 r/\J<128/\G<128/\Q (.bl (jn J G r)) H
theorem Ey{a b:Int}:decide (V.int a=V.int b)=decide (a=b):=decide_eq_decide.mpr ⟨V.int.inj,congrArg V.int⟩
theorem BD:aL ["rope","joined","ground","ends"] ["rope","joined","ground"] (aH Dr):=by constructor<;>first|rfl|decide +kernel
theorem Ez{f1:Addr}{fd1:qAx}(t:Tx K mg "joins_on" Dr ["rope","joined","ground"] f fd)(T:T K mg AL LN RU OW PL PA VO MA NE fE fH rR rO rP rA rV rM rN iR iO iP iA iV iM iN fL SE NG NN NO NR NL NS NT NX NV TM UL)(D_ends_of:Df P w K mg base cE 1 "ends_of" ["rope"] yU f1 fd1):Df P w K mg base cE 2 "joins_on" ["rope","joined","ground"] BC f fd:=by
 refine t.iC BD (fun vs H Q E h=>?_) (fun cdv A outer s H vs Q E hr h=>?_)
 ·obtain⟨b,r,J,G,rfl,_⟩:=h;rfl
 ·obtain⟨b,r,J,G,rfl,hb,ok,hJ,hG,k⟩:=h;refine⟨_,(aE (aZ (i:=3) BD.nd rfl cP (bF D_ends_of hr (by decide) (by rfl) (aA (pv 0) aD)))
   (aG (aN (dZ (eB bJ (aK kJ (pv 3) (pv 2)) (pv 3) (aS _)) (dZ (eB jG (aK kJ (pv 3) (pv 1)) aC (aS _)) (dY (eB jG (aK kJ (pv 3) (pv 1)) (pv 3) (aS _)))))))),?_⟩
  refine⟨_,rfl,b,r,rfl,hb,ok,?_⟩;obtain⟨g1,_⟩:=yV hG ok;obtain⟨j1,j2⟩:=yV hJ ok;refine⟨_,rfl,_,rfl,_,_,rfl,rfl,_,rfl,rfl,_,rfl,?_⟩;rw[Ey,g1];have ek:jn J G r=((aT G (ea r)&&aT G (eb r))&&(aT J (ea r) != aT J (eb r))):=rfl;rw[ek] at k;cases eg:(aT G (ea r)&&aT G (eb r)) with
  | false =>
   rw[eg] at k;exact cT k
  | true =>
   rw[eg] at k;refine cZ ?_;refine⟨_,rfl,_,rfl,_,_,rfl,rfl,rfl,_,rfl,?_⟩;rw[Ey,j2];have last:(!aT J (ea r) && !aT J (eb r))=false->zQ JM (zQ (v9 fun i j=>V.int (qCh i j)) (jU 3) (jU 1)) (jU 3) [some (.ref b),some (.int (J:Int)),some (.int (G:Int)),some (.int (cY r:Int))] H Q:=fun z=>by
    refine⟨_,rfl,_,rfl,_,_,rfl,rfl,_,rfl,rfl,?_⟩;rw[Ey,j1];cases e1:aT J (ea r) <;> cases e2:aT J (eb r)
    ·rw[e1,e2] at z;cases z
    ·rw[e1,e2] at k;exact k
    ·rw[e1,e2] at k;exact k
    ·rw[e1,e2] at k;exact k
   cases e3:(!aT J (ea r) && !aT J (eb r)) with
   | true =>
    have e4:aT J (ea r)=false/\aT J (eb r)=false:=by
     cases e1:aT J (ea r) <;> cases e2:aT J (eb r) <;> rw[e1,e2] at e3 <;> first | exact⟨rfl,rfl⟩ | cases e3
    rw[e4.1,e4.2] at k;exact cT k
   | false=>exact cZ (last e3)
def dQ(H:Hp)(b:Addr):P3:=match H b with
 | some (.tup [.int u,.int v,.int c])=>(u.toNat,v.toNat,c)
 | _=>(0,0,0)
theorem fD.of{H:Hp}{b:Addr}{r:P3}(h:fD H b r):dQ H b=r:=by
 unfold dQ;rw[show H b=some (.tup [.int (r.1:Int),.int (r.2.1:Int),.int r.2.2]) from h];rfl
theorem A2.filter{H:Hp}{as:List Addr}{rs:List P3}(p:P3->Bool)(h:A2 (fD H) as rs):A2 (fD H) (as.filter fun b=>p (dQ H b)) (rs.filter p):=by
 induction h with
 | nil=>exact .nil
 | @cons a x as xs r _ ih =>
  cases e:p x with
  | true =>
   rw[qFl (by rw[r.of];exact e),qFl e];exact .cons r ih
  | false =>
   rw[qFm (by rw[r.of,e];decide),qFm (by rw[e];decide)];exact ih
theorem jR(p:Addr->Bool):∀as:List Addr,(as.map V.ref).filterMap (fun x=>match x with | .ref b=>if p b=true then some (V.ref b) else none | _=>none)=(as.filter p).map V.ref
 | []=>rfl
 | a::as=>by
  have ih:=jR p as;rw[qBq];cases e:p a with
  | true =>
   rw[List.filterMap_cons_some (b:=V.ref a) (by show(if p a=true then _ else _)=_;rw[if_pos e]),qFl e,ih];rfl
  | false =>
   rw[List.filterMap_cons_none (by show(if p a=true then _ else _)=_;rw[if_neg (by rw[e];decide)]),qFm (by rw[e];decide),ih]
def BE:Sp:=fun vs H Q _=>∃(lr:Addr) (as:List Addr) (rs:List P3) (g:Nat),vs=[.ref lr,.int (g:Int)]/\H lr=some (.lst (as.map V.ref))/\A2 (fD H) as rs/\(∀r∈rs,c5 r)/\(∀h,h<6->aT g h=true->∃r∈rs,r.1=h/\r.2.1=h)/\g<64/\as.length<=100 /\
 ∀(l:Addr) (cs:List Addr) (L:List P3) (H':Hp),H l=none->aJ H H'->H' l=some (.lst (cs.map V.ref))->A2 (fD H') cs L->Run rs (g+64) 64 L->Q (.ref l) H'
theorem AU:∀g:_root_.Fin 64,qBs (g.1:Int) 64=((g.1+64:Nat):Int):=by decide +kernel
theorem AV:∀(J:_root_.Fin 128) (a b:_root_.Fin 7),qBs (J.1:Int) ((2^a.1+2^b.1:Nat):Int)=((J.1 ||| (2^a.1+2^b.1):Nat):Int):=by decide +kernel
theorem sZ:∀(g:_root_.Fin 64) (h:_root_.Fin 7),aT (g.1+64) h.1=(aT g.1 h.1||decide (h.1=6)):=by decide +kernel
theorem AW:∀(J G:_root_.Fin 128),(∀h:_root_.Fin 7,aT J.1 h.1=aT G.1 h.1)->J.1=G.1:=by decide +kernel
theorem yW{rs:List P3}{g J:Nat}(hg:g<64)(hJ:J<128)(sub:∀h,h<7->aT J h=true->aT (g+64) h=true)(w6:aT J 6=true)(ne:J≠g+64)(wr:∀h,h<6->aT g h=true->∃r∈rs,r.1=h/\r.2.1=h):0<(rs.filter (jn J (g+64))).length:=by
 obtain⟨h,hh7,hh⟩:∃h,h<7/\aT J h≠aT (g+64) h:=by
  refine qCw fun z=>ne ?_;exact AW ⟨J,hJ⟩ ⟨g+64,by lia⟩ fun h=>qCw fun q=>z ⟨h.1,h.2,q⟩
 have hG:aT (g+64) h=true:=by
  cases e:aT (g+64) h with
  | true=>rfl
  | false =>
   cases e2:aT J h with
   | true=>rw[sub h hh7 e2] at e;cases e
   | false=>rw[e,e2] at hh;exact absurd rfl hh
 have hJf:aT J h=false:=by
  cases e2:aT J h with
  | true=>rw[e2,hG] at hh;exact absurd rfl hh
  | false=>rfl
 have h6:h≠6:=fun z=>by rw[z,w6] at hJf;cases hJf
 have hb:=sZ ⟨g,hg⟩ ⟨h,hh7⟩;have hb:aT (g+64) h=(aT g h||decide (h=6)):=hb
 rw[hG,decide_eq_false h6,Bool.or_false] at hb;obtain⟨r,hr,e1,e2⟩:=wr h (by lia) hb.symm;have a1:ea r=h:=e1;have a2:eb r=6:=by unfold eb;rw[if_pos (by rw[e1,e2])]
 have hw:=sZ ⟨g,hg⟩ ⟨6,by decide⟩;have hw:aT (g+64) 6=(aT g 6||decide (6=6)):=hw
 rw[decide_eq_true rfl,qKc] at hw;refine List.length_pos_of_mem (List.mem_filter.mpr ⟨hr,?_⟩);unfold jn wD;rw[a1,a2,hG,hw,hJf,w6];rfl
theorem oH(J:Nat):gN J<=7:=by
 unfold gN;exact qCe (List.length_filter_le _ _) (by decide)
theorem EA{J:Nat}{r:P3}(hJ:J<128)(h:c5 r):qBs (J:Int) (cY r:Int)=((J ||| cY r:Nat):Int):=by
 obtain⟨h1,h2,h3⟩:=h.lt;exact AV ⟨J,hJ⟩ ⟨ea r,by lia⟩ ⟨eb r,h2⟩
theorem nD:aL ["ropes","group","ground","joined","laid","rope"] ["ropes","group"] (aH Ds):=by constructor<;>first|rfl|decide +kernel
theorem EB{fC f1 f2:Addr}{fdC fd1 fd2:qAx}(t:Tx K mg "least_net" Ds ["ropes","group"] f fd)(T:T K mg AL LN RU OW PL PA VO MA NE fE fH rR rO rP rA rV rM rN iR iO iP iA iV iM iN fL SE NG NN NO NR NL NS NT NX NV TM UL)(D_joins_on:Df P w K mg base cE 2 "joins_on" ["rope","joined","ground"] BC f1 fd1)(D_ends_of:Df P w K mg base cE 1 "ends_of" ["rope"] yU f2 fd2)(D_cost_of:Df P w K mg base cE 1 "cost_of" ["rope"] t7 fC fdC):
  Df P w K mg base cE 3 "least_net" ["ropes","group"] BE f fd:=by
 refine t.iC nD (fun vs H Q E h=>?_) (fun cdv A outer s H vs Q E hr h=>?_)
 ·obtain⟨lr,as,rs,g,rfl,_⟩:=h;rfl
 ·obtain⟨lr,as,rs,g,rfl,hlr,ha,ok,wr,hg,hlen,k⟩:=h;obtain⟨tkWE,hWE⟩:=T.we;refine⟨_,(aE (aZ (i:=2) nD.nd rfl (by first|exact .inl rfl|exact .inr rfl) (aK oQ (pv 1) (a8 (v:=.int 64) (by rfl) hWE ⟨tkWE,rfl⟩)))
   (aE (aZ (i:=3) nD.nd rfl (by first|exact .inl rfl|exact .inr rfl) (a8 (v:=.int 64) (by rfl) hWE ⟨tkWE,rfl⟩))
   (aE (aZ (i:=4) nD.nd rfl cP (bB aD))
   (aE (wJ PassesOwn.never (aO jG (pv 3) (pv 2) (aS _))
    (aE (aZ (i:=5) nD.nd rfl cP (vI D_cost_of hr (by decide) (by rfl) T.pI (a8 (v:=.ref fC) (by rfl) D_cost_of.at_ rfl) (aA (dB (NB:=["each","ground","joined"]) (pick:=[none,some 2,some 3]) (dC (by with_unfolding_all rfl) (by exact(And.intro rfl (And.intro rfl trivial))) rfl (by decide +kernel) (by decide +kernel) (by rfl) (by rfl)) rfl
     (cW (pv 0)) (fun _ _ _=>bI (i:=0) (show(["each","ground","joined"]:List Str).Nodup from by decide +kernel) rfl cP)
     (fun _ _ _=>nV (dG (bF D_joins_on hr (by decide) (by rfl) (aA (pv 0) (aA (pv 2) (aA (pv 1) aD)))))) (fun _ _ _=>(pv 0))) aD)))
    (aE (bO (mH qDp qDk qDj eY (pv 4) (aA (pv 5) aD)))
    (aG (aZ (i:=3) nD.nd rfl (by first|exact .inl rfl|exact .inr rfl) (aK oQ (pv 3) (bF D_ends_of hr (by decide) (by rfl) (aA (pv 5) aD))))))))
   (aG (aN (pv 4))))))),?_⟩
  refine⟨_,rfl,_,_,rfl,rfl,?_⟩;show bH 2 (V.int (qBs (g:Int) 64)) _ _ _;rw[show qBs (g:Int) 64=((g+64:Nat):Int) from AU ⟨g,hg⟩];refine⟨by show 0<=qAg;decide,fun l hl=>?_⟩;refine⟨fun m σ' H'=>∃(J:Nat) (cs:List Addr) (L:List P3) (o5:Option V),m=8-gN J/\J<128/\(∀h,h<7->aT J h=true->aT (g+64) h=true)/\aT J 6=true/\L.length+1=gN J/\aJ H H'/\H' l=some (.lst (cs.map V.ref))/\A2 (fD H') cs L/\(∀rest,Run rs (g+64) J rest->Run rs (g+64) 64 (L++rest))/\σ'=[some (.ref lr),some (.int (g:Int)),some (.int ((g+64:Nat):Int)),some (.int (J:Int)),some (.ref l),o5],⟨_,64,[],[],none,rfl,by decide,fun h hh z=>?_,by decide,by decide,.aI hl,aB,.nil,fun rest z=>z,rfl⟩,?_⟩
  ·have e:h=6:=iQ ⟨h,hh⟩ z;subst e;have hw:=sZ ⟨g,hg⟩ ⟨6,by decide⟩;have hw:aT (g+64) 6=(aT g 6||decide (6=6)):=hw
   rw[decide_eq_true rfl,qKc] at hw;exact hw
  rintro m σ' H1 ⟨J,cs,L,o5,rfl,hJ,sub,w6,hL,s1,e1,a1,run,rfl⟩;refine⟨_,rfl,_,rfl,rfl,_,rfl,bN (fun hp=>?_) (fun hp=>?_)⟩
  ·have ne:J≠g+64:=fun z=>by
    subst z;have hp:(!decide (V.int ((g+64:Nat):Int)=V.int ((g+64:Nat):Int)))=true:=hp;rw[decide_eq_true rfl] at hp;cases hp
   have pos:=yW hg hJ sub w6 ne wr;have aR:=a1;refine⟨fun σ' H'=>∃(J':Nat) (cs:List Addr) (L:List P3) (o5:Option V),gN J<gN J'/\J'<128/\(∀h,h<7->aT J' h=true->aT (g+64) h=true)/\aT J' 6=true/\L.length+1=gN J'/\aJ H H'/\H' l=some (.lst (cs.map V.ref))/\A2 (fD H') cs L/\(∀rest,Run rs (g+64) J' rest->Run rs (g+64) 64 (L++rest))/\σ'=[some (.ref lr),some (.int (g:Int)),some (.int ((g+64:Nat):Int)),some (.int (J':Int)),some (.ref l),o5],fun σ' H' ⟨J',cs,L,o5,b1,b2,b3,b4,b5,b6,b7,b8,b9,b10⟩=>⟨8-gN J',by have:=oH J';have:=oH J;lia,J',cs,L,o5,rfl,b2,b3,b4,b5,b6,b7,b8,b9,b10⟩,?_⟩;have hlr1:=s1 _ _ hlr;have ha1:A2 (fD H1) as rs:=ha.imp fun _ _ z=>z.keep s1.t;refine⟨_,rfl,lr,rfl,⟨_,aX.of hlr1⟩,?_⟩;refine eJ (xs:=as.map V.ref) (fun _ x=>match x with | .ref b=>if jn J (g+64) (dQ H1 b)=true then some (V.ref b) else none | _=>none) (aX.of hlr1) (by rw[qAc];exact qBd (aW (by lia))) (fun i x H2 kk kk0 s2 hx h1 h2=>?_) fun D H2 hD s2 hd=>?_
   ·obtain⟨b,hb,rfl⟩:=at_of hx;obtain⟨r,hr,pr⟩:=ha1.at hb;have okr:=ok r (qBe hr);have pr2:=pr.keep s2.t;refine⟨_,rfl,_,rfl,_,rfl,b,r,J,g+64,rfl,pr2,okr,hJ,by lia,_,rfl,?_⟩;cases ej:jn J (g+64) r with
    | true=>exact cZ ⟨_,rfl,h1 _ (by show(if jn J (g+64) (dQ H1 b)=true then some (V.ref b) else none)=_;rw[pr.of,if_pos ej]) _ (.refl _)⟩
    | false=>exact cT (h2 (by show(if jn J (g+64) (dQ H1 b)=true then some (V.ref b) else none)=_;rw[pr.of,if_neg (by rw[ej];decide)]) _ (.refl _))
   ·rw[fJ,jR fun b=>jn J (g+64) (dQ H1 b)] at hd;have aF:A2 (fD H2) (as.filter fun b=>jn J (g+64) (dQ H1 b)) (rs.filter (jn J (g+64))):=(ha1.filter (jn J (g+64))).imp fun _ _ z=>z.keep s2.t;generalize (as.filter fun b=>jn J (g+64) (dQ H1 b))=fs at hd aF;have kfa:∀(i:Nat) (r:P3),(rs.filter (jn J (g+64)))[i]?=some r->((rs.filter (jn J (g+64))).getD i (0,0,0)).2.2=r.2.2:=fun i r e=>by rw[qAz,e];rfl
    refine⟨D,_,fun i=>((rs.filter (jn J (g+64))).getD i (0,0,0)).2.2,rfl,aX.of hd,by rw[qAc,aF.len];exact pos,fun i v hv=>?_,fun i v hv best=>?_⟩
    ·obtain⟨b,hb,rfl⟩:=at_of hv;obtain⟨r,hr,pr⟩:=aF.at hb;exact⟨b,r,rfl,pr,congrArg V.int (kfa i r hr).symm,rfl⟩
    ·obtain⟨b,hb,rfl⟩:=at_of hv;obtain⟨r,hr,pr⟩:=aF.at hb;have mn:gO (rs.filter (jn J (g+64))) r:=⟨i,hr,fun j y hy=>by
      have z:=best j (by rw[qAc,aF.len];exact(List.getElem?_eq_some_iff.mp hy).1);dsimp only at z;rw[kfa i r hr,kfa j y hy] at z;exact z⟩
     obtain⟨m1,m2,m3⟩:=qY mn;have okr:=ok r m1;obtain⟨o1,o2,o3⟩:=okr.lt;have e2:=s2 _ _ e1;refine⟨_,rfl,.inl ⟨rfl,_,aX.of e2⟩,_,rfl,l,_,_,rfl,rfl,e2,by rw[qAc,a1.len];have:=oH J;exact aW (by lia),?_⟩;have t3:fK H2 (upd H2 l (.lst (cs.map V.ref++[V.ref b]))):=fK.lst e2;refine⟨_,rfl,_,rfl,b,r,rfl,pr.keep t3,okr,_,_,rfl,rfl,?_⟩;refine⟨J ||| cY r,cs++[b],L++[r],some (.ref b),by rw[oG hJ okr m3];lia,oF hJ okr,fun h hh z=>?_,?_,by rw[qAp,oG hJ okr m3];show _+1+1=_;lia,(s1.trans s2).upd_ne' hl,by rw[aB,qBw];rfl,(a1.imp fun _ _ z=>(z.keep s2.t).keep t3).snoc (pr.keep t3),fun rest z=>?_,?_⟩
     ·rw[gM hJ okr hh,qDe,qDe] at z;unfold wD at m2;rw[qAn] at m2;rcases z with (z | z) | z
      ·exact sub h hh z
      ·rw[of_decide_eq_true z];exact m2.1
      ·rw[of_decide_eq_true z];exact m2.2
     ·rw[gM hJ okr (by decide),w6];rfl
     ·rw[qEo];exact run _ (.step ne mn z)
     ·show [some (V.ref lr),some (V.int (g:Int)),some (V.int ((g+64:Nat):Int)),some (V.int (qBs (J:Int) (cY r:Int))),some (V.ref l),some (V.ref b)]=_;rw[EA hJ okr]
  ·have e:J=g+64:=by
    refine qCw fun z=>hp ?_;show(!decide (V.int (J:Int)=V.int ((g+64:Nat):Int)))=true;rw[decide_eq_false fun q=>z (by have:=V.int.inj q;lia)];rfl
   subst e;have z:=run [] .stop;rw[qCz] at z;exact⟨_,rfl,k l cs L H1 hl s1 e1 a1 z⟩
theorem t8:∀{ns:List Int},(∀n∈ns,0<=n)->(ns.map fun n=>decide (n<0)).any id=false
 | [],_=>rfl
 | n::r,h=>by
  have a:=h n (by simp);have i:=t8 (ns:=r) fun x hx=>h x (qBn _ hx);show(decide (n<0)||(r.map fun n=>decide (n<0)).any id)=false
  rw[i,decide_eq_false (by lia)];rfl
def neg:V->Bool
 | .int n=>decide (n<0)
 | _=>false
def t9(xs:List V):Bool:=xs.all eK && !(xs.any neg)
theorem uA:∀{xs:List V},xs.all eK=true->∃ns:List Int,xs=ns.map V.int
 | [],_=>⟨[],rfl⟩
 | .int n::xs,h=>by
  obtain⟨ns,rfl⟩:=uA (xs:=xs) (by simpa [eK] using h);exact⟨n::ns,rfl⟩
 | .non::_,h=>by cases h
 | .bl _::_,h=>by cases h
 | .str _::_,h=>by cases h
 | .byt _::_,h=>by cases h
 | .flt _::_,h=>by cases h
 | .ref _::_,h=>by cases h
 | .ty _::_,h=>by cases h
theorem iS:∀(ns:List Int),(ns.map V.int).any neg=(ns.map fun n=>decide (n<0)).any id
 | []=>rfl
 | n::ns=>by
  show(decide (n<0)||(ns.map V.int).any neg)=(decide (n<0)||(ns.map fun n=>decide (n<0)).any id)
  rw[iS ns]
theorem uB{ns:List Int}(h:∀n∈ns,0<=n):t9 (ns.map V.int)=true:=by
 unfold t9;rw[all_ints,iS,t8 h];rfl
theorem uC{ns:List Int}{n:Int}(hm:n∈ns)(h:n<0):t9 (ns.map V.int)=false:=by
 unfold t9;rw[iS,List.any_eq_true.mpr ⟨decide (n<0),List.mem_map.mpr ⟨n,hm,rfl⟩,decide_eq_true h⟩,qHn,qBo]
def BF(K:qAa)(NL:Addr):Sp:=fun vs H Q E=>∃(p:Addr) (xs:List V),vs=[.ref p]/\H p=some (.lst xs)/\(∀v∈xs,Pl K H v)/\xs.length<=1000/\(t9 xs=false->∀H',aJ H H'->E (.ref NL) none H')/\(t9 xs=true->∀H',aJ H H'->Q .non H')
theorem HV:aL ["costs"] ["costs"] (aH Dn):=by constructor<;>first|rfl|decide +kernel
theorem EC{f1:Addr}{fd1:qAx}(t:Tx K mg "check_costs" Dn ["costs"] f fd)(T:T K mg AL LN RU OW PL PA VO MA NE fE fH rR rO rP rA rV rM rN iR iO iP iA iV iM iN fL SE NG NN NO NR NL NS NT NX NV TM UL)(D_check_numbers:Df P w K mg base (gB P w) 2 "check_numbers" ["things"] (qU K NL) f1 fd1):
  Df P w K mg base (gB P w) 3 "check_costs" ["costs"] (BF K NL) f fd:=by
 refine t.Ao HV (fun vs H Q E h=>?_) (fun cdv A outer s H vs Q E hr h=>?_)
 ·obtain⟨p,xs,rfl,_⟩:=h;rfl
 ·obtain⟨p,xs,rfl,hp,pl,hlen,k0,k⟩:=h;refine⟨_,(aE (bO (dN aV.toPass D_check_numbers hr (by decide) (by rfl) (aA (pv 0) aD)))
   (aG (bC (dG (aP (xS rfl) (by rfl) T.pH CO (aA (dB (NB:=["cost"]) (pick:=[none]) (dC (by with_unfolding_all rfl) (by exact trivial) rfl (by decide +kernel) (by decide +kernel) (by rfl) (by rfl)) rfl
     (cW (pv 0)) (fun _ _ _=>bI (i:=0) (show(["cost"]:List Str).Nodup from by decide +kernel) rfl cP)
     (fun _ _ _=>dA) (fun _ _ _=>(eB mC (pv 0) aC (aS _)))) aD))) (aG (dM aV rfl (by rfl) T.vP T.yM (aA eU aD))) aQ))),?_⟩
  refine⟨_,rfl,p,_,rfl,.inl hp,pl,hlen,fun no=>k0 (by unfold t9;rw[no];rfl),fun yes H1 s1=>?_⟩;obtain⟨ns,rfl⟩:=uA yes;have hp1:=s1 _ _ hp;rw[qAc] at hlen;refine⟨_,rfl,p,rfl,⟨_,aX.of hp1⟩,?_⟩;refine eJ (xs:=ns.map V.int) (fun _ x=>match x with | .int n=>some (.bl (decide (n<0))) | _=>none) (aX.of hp1) (by rw[qAc];exact qBd (aW (by lia))) (fun i x H2 kk kk0 s2 hx h1 h2=>?_) fun D H2 hD s2 hd=>?_
  ·obtain⟨n,_,rfl⟩:=List.mem_map.mp (qBe hx);exact⟨_,rfl,_,_,rfl,rfl,h1 _ rfl _ (.refl _)⟩
  ·have ed:H2 D=some (.lst ((ns.map fun n=>decide (n<0)).map V.bl)):=by
    rw[hd,fJ,qCs,qCg,<- qDu];rfl
   refine⟨D,_,rfl,aX.of ed,_,rfl,?_⟩;rw[<- iS];cases e:(ns.map V.int).any neg with
   | true=>exact cZ ⟨by decide,k0 (by unfold t9;rw[e,qHn,qBo]) H2 (s1.trans s2)⟩
   | false=>exact cT (k (by unfold t9;rw[e,yes];rfl) H2 (s1.trans s2))
def qZ(NE:Addr)(H:Hp)(a ll lr:Addr)(cs:List Int)(rs:List P3):Prop:=∃(dx:Addr) (bs:List Addr),H a=some (.ins NE dx [("many",.int (cs.length:Int)),("costs",.ref ll),("ropes",.ref lr)])/\H ll=some (.lst (cs.map V.int))/\H lr=some (.lst (bs.map V.ref))/\A2 (fD H) bs rs/\1<=cs.length/\cs.length<=6/\Pw cs.length rs/\bs.length<=15
theorem qZ.same{NE:Addr}{H H':Hp}{a ll lr:Addr}{cs:List Int}{rs:List P3}(h:qZ NE H a ll lr cs rs)(s:aJ H H'):qZ NE H' a ll lr cs rs :=
 let ⟨dx,bs,h1,h2,h3,h4,h5⟩:=h;⟨dx,bs,s _ _ h1,s _ _ h2,s _ _ h3,h4.imp fun _ _ z=>z.keep s.t,h5⟩
theorem A2.BG{H:Hp}{bs:List Addr}{rs:List P3}(h:A2 (fD H) bs rs):bs.map (fun b=>(dQ H b).2.2)=rs.map (·.2.2):=by
 induction h with
 | nil=>rfl
 | cons r _ ih=>rw[qBq,qBq,ih,r.of]
def AX(K:qAa)(NL NE:Addr):Sp:=fun vs H Q E=>∃(x dx p q:Addr) (xs:List V) (as:List Addr),vs=[.ref x,.ref p,.ref q]/\H x=some (.ins NE dx [])/\H p=some (.lst xs)/\(∀v∈xs,Pl K H v)/\xs.length<=1000/\H q=some (.lst (as.map V.ref))/\fA K H as/\as.length<64 /\
 (((okN xs&&t9 xs)=false/\∀H',SameBut x H H'->E (.ref NL) none H')\/∃cs:List Int,xs=cs.map V.int/\1<=cs.length/\cs.length<=6/\(∀c∈cs,0<=c)/\((fB (cs.length:Int) (as.map (bT H))=false/\∀H',SameBut x H H'->E (.ref NL) none H')\/bV cs.length H as /\
 (((∃a∈as,∃r,fD H a r/\r.2.2<0)/\∀H',SameBut x H H'->E (.ref NL) none H')\/(∀a∈as,∀r,fD H a r->0<=r.2.2) /\
 ∀(l lr:Addr) (rs:List P3) (H':Hp),H l=none->H lr=none->SameBut x H H'->qZ NE H' x l lr cs rs->Q .non H')))
theorem JD:aL ["self","costs","ropes"] ["self","costs","ropes"] (aH FE):=by constructor<;>first|rfl|decide +kernel
theorem HW{f1 f2 f3:Addr}{fd1 fd2 fd3:qAx}(t:Mx K "__init__" "Net.__init__" FE ["self","costs","ropes"] f fd)(T:T K mg AL LN RU OW PL PA VO MA NE fE fH rR rO rP rA rV rM rN iR iO iP iA iV iM iN fL SE NG NN NO NR NL NS NT NX NV TM UL)(D_RI:Md P w K mg base 4 ["self","many"] (lX K NL) iR)(D_check_costs:Df P w K mg base (gB P w) 3 "check_costs" ["costs"] (BF K NL) f1 fd1)(D_sorted_pairs:Df P w K mg base (gB P w) 4 "sorted_pairs" ["many","pairs"] (tY K NL) f2 fd2)(D_cost_of:Df P w K mg base cE 1 "cost_of" ["rope"] t7 f3 fd3):
  Md P w K mg base 5 ["self","costs","ropes"] (AX K NL NE) f:=by
 refine t.Bs JD (fun vs H Q E h=>?_) (fun cdv A outer s H vs Q E hr h=>?_)
 ·obtain⟨x,dx,p,q,xs,as,rfl,_⟩:=h;rfl
 ·obtain⟨x,dx,p,q,xs,as,rfl,hx,hp,pl,x1000,hq,ht,h64,k⟩:=h;refine⟨_,(aE (bO (mM aV.toPass (by rfl) T.wC T.FN D_RI hr (by decide) (aA (pv 0) (aA (aP bE (by rfl) T.dP dD (aA (pv 1) aD)) aD))))
   (aE (bO (dN aV.toPass D_check_costs hr (by decide) (by rfl) (aA (pv 1) aD)))
   (aE (eV (pv 0) (eO dJ (by rfl) T.eZ fY (aA (pv 1) aD)) rfl)
   (aE (eV (pv 0) (dN aV.toPass D_sorted_pairs hr (by decide) (by rfl) (aA (dH (pv 0) rfl) (aA (pv 2) aD))) rfl)
   (aG (bO (dN aV.toPass D_check_costs hr (by decide) (by rfl) (aA (dB (NB:=["rope"]) (pick:=[none]) (dC (by with_unfolding_all rfl) (by exact trivial) rfl (by decide +kernel) (by decide +kernel) (by rfl) (by rfl)) rfl
     (cW (dH (pv 0) rfl)) (fun _ _ _=>bI (i:=0) (show(["rope"]:List Str).Nodup from by decide +kernel) rfl cP)
     (fun _ _ _=>dA) (fun _ _ _=>(bF D_cost_of hr (by decide) (by rfl) (aA (pv 0) aD)))) aD)))))))),?_⟩
  refine⟨_,rfl,_,rfl,p,_,rfl,.inl (aX.of hp),x,NE,dx,.int (xs.length:Int),rfl,hx,T.vO.oc.cl,T.vO.nm,.int _,fun no=>?_,fun yes=>?_⟩
  ·rcases k with ⟨_,k⟩ | ⟨cs,rfl,c1,c6,_⟩
   ·exact k H ((aJ.refl H).but x)
   ·rw[qAc,fQ,decide_eq_true c1,decide_eq_true c6] at no;cases no
  have sb1:SameBut x H (upd H x (.ins NE dx [("many",V.int (xs.length:Int))])):=((aJ.refl H).but x).gJ _;have hp1:=sb1 _ _ (eR hp hx (fun z=>nomatch z)) hp;have hx1:upd H x (.ins NE dx [("many",V.int (xs.length:Int))]) x=some (.ins NE dx [("many",V.int (xs.length:Int))]):=aB;have pl1:∀v∈xs,Pl K (upd H x (.ins NE dx [("many",V.int (xs.length:Int))])) v:=fun v hv=>(pl v hv).eL hx;have ht1:fA K (upd H x (.ins NE dx [("many",V.int (xs.length:Int))])) as:=fun a ha=>by
   obtain⟨ys,h1,h2,h3⟩:=ht a ha;exact⟨ys,sb1 _ _ (eR h1 hx (fun z=>nomatch z)) h1,fun v hv=>(h2 v hv).eL hx,h3⟩
  generalize upd H x (.ins NE dx [("many",V.int (xs.length:Int))])=H1 at sb1 hp1 hx1 pl1 ht1|-;refine⟨_,rfl,p,xs,rfl,hp1,pl1,x1000,fun no H2 s2=>?_,fun yes2 H2 s2=>?_⟩
  ·rcases k with ⟨_,k⟩ | ⟨cs,rfl,c1,c6,c0,_⟩
   ·exact k H2 (sb1.then s2)
   ·rw[uB c0] at no;cases no
  rcases k with ⟨no,_⟩ | ⟨cs,rfl,c1,c6,c0,k⟩
  ·have z:okN xs=true:=by
    unfold okN;rw[fQ] at yes;rw[yes];unfold t9 at yes2;rw[qAn] at yes2;exact yes2.1
   rw[z,yes2] at no;cases no
  rw[qAc] at hx1;refine⟨_,rfl,p,_,rfl,.inl (aX.of (s2 _ _ hp1)),fun l hl=>?_⟩;have u3:=aJ.aI (o:=.lst (cs.map V.int)) hl;have hx3:=u3 _ _ (s2 _ _ hx1);have nl:l≠x:=(a9 (s2 _ _ hx1) hl).symm;have l0:H l=none:=by
   cases e:H l with
   | none=>rfl
   | some o=>have z:=s2 _ _ (sb1 _ _ nl e);rw[hl] at z;cases z
  refine⟨_,rfl,x,NE,dx,_,rfl,hx3,T.vO.oc.cl,T.JZ,(by show 1<1000;decide),?_⟩;have sb4:=((sb1.then (s2.trans u3)).gJ (.ins NE dx [("many",V.int (cs.length:Int)),("costs",.ref l)]));have k4:upd (upd H2 l (.lst (cs.map V.int))) x (.ins NE dx [("many",V.int (cs.length:Int)),("costs",.ref l)]) l=some (.lst (cs.map V.int)):=by rw[aM nl];exact aB
  have hx4:upd (upd H2 l (.lst (cs.map V.int))) x (.ins NE dx [("many",V.int (cs.length:Int)),("costs",.ref l)]) x=some (.ins NE dx [("many",V.int (cs.length:Int)),("costs",.ref l)]):=aB;have ht4:fA K (upd (upd H2 l (.lst (cs.map V.int))) x (.ins NE dx [("many",V.int (cs.length:Int)),("costs",.ref l)])) as:=fun a ha=>by
   obtain⟨ys,h1,h2,h3⟩:=ht1 a ha;have z:=u3 _ _ (s2 _ _ h1);exact⟨ys,by rw[aM (eR z hx3 (fun z=>nomatch z))];exact z,fun v hv=>((h2 v hv).same (s2.trans u3)).eL hx3,h3⟩
  show Ck _ _ _ _ (upd (upd H2 l (.lst (cs.map V.int))) x (.ins NE dx [("many",V.int (cs.length:Int)),("costs",.ref l)]));generalize upd (upd H2 l (.lst (cs.map V.int))) x (.ins NE dx [("many",V.int (cs.length:Int)),("costs",.ref l)])=H4 at sb4 k4 hx4 ht4|-;have hq4:=sb4 _ _ (eR hq hx (fun z=>nomatch z)) hq;have eqm:as.map (bT H4)=as.map (bT H):=ht.eq fun a xs e=>sb4 _ _ (eR e hx (fun z=>nomatch z)) e;refine⟨_,rfl,x,NE,dx,_,_,rfl,hx4,T.vO.oc.cl,T.vO.nm,rfl,_,rfl,(cs.length:Int),q,as,rfl,hq4,ht4,h64,fun no H5 s5=>?_,fun yes3 lr bs H5 hlr hb s5 e5=>?_⟩
  ·rw[eqm] at no;rcases k with ⟨_,k⟩ | ⟨ok,_⟩
   ·exact k H5 (sb4.then s5)
   ·rw[ok.ok] at no;cases no
  rw[eqm] at yes3;rcases k with ⟨no,_⟩ | ⟨ok,k⟩
  ·rw[no] at yes3;cases yes3
  have ok4:bV cs.length H4 as:=ok.same fun b hb o e=>by
   obtain⟨u,v,n,e',_⟩:=ok.1 b hb;exact sb4 _ _ (eR e' hx (fun z=>nomatch z)) e
  have hx5:=s5 _ _ hx4;have nlr:lr≠x:=(a9 hx4 hlr).symm;have lr0:H lr=none:=by
   cases e:H lr with
   | none=>rfl
   | some o=>have z:=sb4 _ _ nlr e;rw[hlr] at z;cases z
  refine⟨_,rfl,x,NE,dx,_,rfl,hx5,T.vO.oc.cl,T.DS,(by show 2<1000;decide),?_⟩;have sb6:=((sb4.then s5).gJ (.ins NE dx [("many",V.int (cs.length:Int)),("costs",.ref l),("ropes",.ref lr)]));have hx6:upd H5 x (.ins NE dx [("many",V.int (cs.length:Int)),("costs",.ref l),("ropes",.ref lr)]) x=some (.ins NE dx [("many",V.int (cs.length:Int)),("costs",.ref l),("ropes",.ref lr)]):=aB;have e6:upd H5 x (.ins NE dx [("many",V.int (cs.length:Int)),("costs",.ref l),("ropes",.ref lr)]) lr=some (.lst (bs.map V.ref)):=by rw[aM nlr];exact e5
  have k6:upd H5 x (.ins NE dx [("many",V.int (cs.length:Int)),("costs",.ref l),("ropes",.ref lr)]) l=some (.lst (cs.map V.int)):=by rw[aM nl];exact s5 _ _ k4
  have ok6:bV cs.length (upd H5 x (.ins NE dx [("many",V.int (cs.length:Int)),("costs",.ref l),("ropes",.ref lr)])) bs:=(ok.same fun b hb o e=>by
   obtain⟨u,v,n,e',_⟩:=ok.1 b hb;exact sb6 _ _ (eR e' hx (fun z=>nomatch z)) e).oE hb
  refine⟨_,rfl,x,NE,dx,_,_,rfl,hx6,T.vO.oc.cl,T.DS,rfl,lr,rfl,⟨_,aX.of e6⟩,?_⟩;obtain⟨rs,a6,pw⟩:=ok6.pw;have blen:bs.length<=15:=ok6.2.2;have same_r:∀b∈as,∀r,fD H b r->fD (upd H5 x (.ins NE dx [("many",V.int (cs.length:Int)),("costs",.ref l),("ropes",.ref lr)])) b r:=fun b _ r e=>sb6 _ _ (eR (show H b=_ from e) hx (fun z=>nomatch z)) e;rw[show gG ("ropes":Str) (V.ref lr) [(("many":Str),V.int (cs.length:Int)),(("costs":Str),V.ref l)]=[(("many":Str),V.int (cs.length:Int)),(("costs":Str),V.ref l),(("ropes":Str),V.ref lr)] from rfl];generalize upd H5 x (.ins NE dx [("many",V.int (cs.length:Int)),("costs",.ref l),("ropes",.ref lr)])=H6 at sb6 hx6 e6 k6 a6 same_r|-;refine eJ (xs:=bs.map V.ref) (fun _ x=>match x with | .ref b=>some (.int (dQ H6 b).2.2) | _=>none) (aX.of e6) (by rw[qAc];exact qBd (aW (by lia))) (fun i y H7 kk kk0 s7 hy h1 h2=>?_) fun D H7 hD s7 hd=>?_
  ·obtain⟨b,hb',rfl⟩:=at_of hy;obtain⟨r,hr',pr⟩:=a6.at hb';exact⟨_,rfl,b,r,rfl,pr.keep s7.t,h1 _ (by show some (V.int (dQ H6 b).2.2)=_;rw[pr.of]) _ (.refl _)⟩
  ·have ed:H7 D=some (.lst ((rs.map (·.2.2)).map V.int)):=by
    rw[hd,fJ,qCs,<- a6.BG,qCg,<- qDu];rfl
   have r15:rs.length<=15:=by rw[<- a6.len];exact blen
   refine⟨D,_,rfl,ed,cD,by rw[qAc,qAc];lia,fun no H8 s8=>?_,fun yes4 H8 s8=>?_⟩
   ·rcases k with ⟨_,k⟩ | ⟨r0,_⟩
    ·exact k H8 (sb6.then (s7.trans s8))
    ·rw[uB fun n hn=>?_] at no
     ·cases no
     ·obtain⟨r,hr',rfl⟩:=List.mem_map.mp hn;obtain⟨b,hb',pr⟩:=a6.mem.2 r hr';have hba:=hb.mem_iff.mp hb';obtain⟨u,v,n,e',_⟩:=ok.1 b hba;have z:=pr.eq (same_r b hba (u,v,n) e');rw[z];exact r0 b hba (u,v,n) e'
   ·rcases k with ⟨⟨b,hb',r,pr,r0⟩,_⟩ | ⟨_,k⟩
    ·obtain⟨r2,hr2,pr2⟩:=a6.mem.1 b (hb.mem_iff.mpr hb');have z:=pr2.eq (same_r b hb' r pr);rw[uC (n:=r2.2.2) (List.mem_map.mpr ⟨r2,hr2,rfl⟩) (by rw[z];exact r0)] at yes4;cases yes4
    ·have s68:=s7.trans s8;exact k l lr rs H8 l0 lr0 (sb6.then s68) ⟨dx,bs,s68 _ _ hx6,s68 _ _ k6,s68 _ _ e6,a6.imp fun _ _ z=>z.keep s68.t,c1,c6,pw,blen⟩
theorem A2.of_get{α:Type}{R:Addr->α->Prop}:∀{as:List Addr}{xs:List α},as.length=xs.length->(∀(i:Nat) (a:Addr) (x:α),as[i]?=some a->xs[i]?=some x->R a x)->A2 R as xs
 | [],[],_,_=>.nil
 | [],_::_,h,_=>by cases h
 | _::_,[],h,_=>by cases h
 | a::as,x::xs,h,f=>.cons (f 0 a x rfl rfl) (A2.of_get (Nat.succ.inj h) fun i b y e1 e2=>f (i+1) b y (by rw[qEd];exact e1) (by rw[qEd];exact e2))
theorem A2.app{α:Type}{R:Addr->α->Prop}{as bs:List Addr}{xs ys:List α}(h:A2 R as xs)(h':A2 R bs ys):A2 R (as++bs) (xs++ys):=by
 induction h with
 | nil=>exact h'
 | cons r _ ih=>exact .cons r ih
def HX(cs:List Int):List P3:=(qAy cs.length).map fun i=>(i,i,cs.getD i 0)
def allR(cs:List Int)(rs:List P3):List P3:=HX cs++rs
theorem v7{β:Type}{S:Addr->β->Prop}{f:Nat->β}{ys:List V}{n:Nat}(hy:ys.length=n)(h:∀i y,ys[i]?=some y->∃b,y = .ref b/\S b (f i)):∃ws:List Addr,ys=ws.map V.ref/\A2 S ws ((qAy n).map f):=by
 refine⟨ys.map fun y=>match y with | .ref b=>b | _=>0,?_,A2.of_get (by rw[qAc,qAc,qDn,hy]) fun i a x e1 e2=>?_⟩
 ·rw[qCg];refine(List.map_id ys).symm.trans (qDy fun y hm=>?_);obtain⟨i,hi⟩:=qIm hm;obtain⟨b,rfl,_⟩:=h i y hi;rfl
 ·rw[qBx] at e1 e2;cases ey:ys[i]? with
  | none=>rw[ey] at e1;cases e1
  | some y =>
   rw[ey] at e1;obtain⟨b,rfl,pb⟩:=h i y ey;have e1:b=a:=Option.some.inj e1;have hi:i<n:=by rw[<- hy];exact(List.getElem?_eq_some_iff.mp ey).1
   rw[List.getElem?_range hi] at e2;have e2:f i=x:=Option.some.inj e2;rw[<- e1,<- e2];exact pb
theorem ED{g h m:Nat}(hg:g<2^m)(hb:aT g h=true):h<m:=by
 refine qCw fun z=>?_;have z2:g<2^h:=qAv hg (qCt (by decide) (by lia));have:g/2^h=0:=qGv z2;unfold aT at hb;rw[this] at hb;exact absurd (of_decide_eq_true hb) (by decide)
theorem rB{cs:List Int}{rs:List P3}(h6:cs.length<=6)(pw:Pw cs.length rs):∀r∈allR cs rs,c5 r:=fun r hr=>by
 rcases List.mem_append.mp hr with z | z
 ·obtain⟨i,hi,rfl⟩:=List.mem_map.mp z;have:=List.mem_range.mp hi;exact⟨qAl _,by show i<6;lia⟩
 ·obtain⟨a,b⟩:=pw.1 r z;exact⟨qBd a,by lia⟩
theorem yX{cs:List Int}{rs:List P3}{g:Nat}(hg:g<2^cs.length):∀h,h<6->aT g h=true->∃r∈allR cs rs,r.1=h/\r.2.1=h:=fun h _ hb =>
 ⟨(h,h,cs.getD h 0),qDl _ (List.mem_map.mpr ⟨h,List.mem_range.mpr (ED hg hb),rfl⟩),rfl,rfl⟩
def BH(NE:Addr):Sp:=fun vs H Q _=>∃(a ll lr:Addr) (cs:List Int) (rs:List P3) (g:Nat),vs=[.ref a,.int (g:Int)]/\qZ NE H a ll lr cs rs/\g<2^cs.length /\
 ∀(l:Addr) (ds:List Addr) (L:List P3) (H':Hp),H l=none->aJ H H'->H' l=some (.lst (ds.map V.ref))->A2 (fD H') ds L->Run (allR cs rs) (g+64) 64 L->Q (.ref l) H'
theorem BI:aL ["self","group","to_the_well"] ["self","group"] (aH vM):=by constructor<;>first|rfl|decide +kernel
theorem EE{f1:Addr}{fd1:qAx}(t:Mx K "least" "Net.least" vM ["self","group"] f fd)(T:T K mg AL LN RU OW PL PA VO MA NE fE fH rR rO rP rA rV rM rN iR iO iP iA iV iM iN fL SE NG NN NO NR NL NS NT NX NV TM UL)(D_least_net:Df P w K mg base cE 3 "least_net" ["ropes","group"] BE f1 fd1):Md P w K mg base 4 ["self","group"] (BH NE) f:=by
 refine t.Ap BI (fun vs H Q E h=>?_) (fun cdv A outer s H vs Q E hr h=>?_)
 ·obtain⟨a,ll,lr,cs,rs,g,rfl,_⟩:=h;rfl
 ·obtain⟨a,ll,lr,cs,rs,g,rfl,no,hg,k⟩:=h;refine⟨_,(aE (nW (NB:=["hand","cost"]) (pick:=[none,none]) (i:=2) BI.nd rfl cP (by rfl) (dC (by with_unfolding_all rfl) (by exact trivial) rfl (by decide +kernel) (by decide +kernel) (by rfl) (by rfl)) rfl
     (As (by rfl) T.k8 (aA (dH (pv 0) rfl) aD)) (fun _ _ _=>(show PG _ _ (zZ K 2 (hX (bH 0) (hX (bH 1) zY))) from nK rfl (cU (bI (i:=0) (show(["hand","cost"]:List Str).Nodup from by decide +kernel) rfl cP) (cU (bI (i:=1) (show(["hand","cost"]:List Str).Nodup from by decide +kernel) rfl cP) j3))))
     (fun _ _ _=>dA) (fun _ _ _=>(eA (aA (pv 0) (aA (pv 0) (aA (pv 1) aD))))))
   (aG (aN (bF D_least_net hr (by decide) (by rfl) (aA (aK cC (pv 2) (dH (pv 0) rfl)) (aA (pv 1) aD)))))),?_⟩
  obtain⟨dx,bs,h1,h2,h3,h4,c1,c6,pw,blen⟩:=no;refine⟨_,rfl,a,NE,dx,_,_,rfl,h1,T.vO.oc.cl,T.JZ,rfl,ll,rfl,⟨_,aX.of h2⟩,?_⟩;refine sL (xs:=cs.map V.int) (fun σ'=>∃o0 o1:Option V,σ'=[o0,o1]) (fun i y H=>∃b,y = .ref b/\fD H b (i,i,cs.getD i 0)) (fun i y H H' st ⟨b,e,q⟩=>⟨b,e,q.keep st⟩) ⟨_,_,rfl⟩ (aX.of h2) (by rw[qAc];exact qBd (aW (by lia))) (fun i x tt σ1 H2 kk kk0 hσ s2 hx ht h1'=>?_) fun D ys H2 hD s2 hy hys hd=>?_
  ·obtain⟨o0,o1,rfl⟩:=hσ;have ex:x = .int (cs.getD i 0):=by
    rw[qBx] at hx;cases e:cs[i]? with
    | none=>rw[e] at hx;cases hx
    | some c =>
     rw[e] at hx;rw[qAz,e];exact(Option.some.inj hx).symm
   subst ex;refine⟨tt,_,rfl,dU.of ht,rfl,_,_,rfl,_,_,rfl,rfl,?_⟩;exact⟨_,rfl,_,rfl,_,rfl,wF,fun t3 ht3=>h1' _ _ _ ⟨_,_,rfl⟩ (.aI ht3) ⟨t3,rfl,aB⟩⟩
  ·obtain⟨ws,rfl,aw⟩:=v7 (S:=fD H2) (f:=fun i=>(i,i,cs.getD i 0)) hy hys;have h12:=s2 _ _ h1;have h32:=s2 _ _ h3;have wl:ws.length=cs.length:=by rw[aw.len,qAc,qDn,qAc]
   refine⟨_,rfl,_,rfl,a,NE,dx,_,_,rfl,h12,T.vO.oc.cl,T.DS,rfl,D,lr,_,_,rfl,rfl,aX.of hd,aX.of h32,by rw[qAc,qAc];exact qBd (aW (by lia)),fun lc hlc=>?_⟩;have u3:=aJ.aI (o:=.lst (ws.map V.ref++bs.map V.ref)) hlc;have s3:=s2.trans u3;rw[qAc] at aw;refine⟨_,rfl,lc,ws++bs,allR cs rs,g,rfl,by rw[aB,qBw],A2.app (aw.imp fun _ _ z=>z.keep u3.t) (h4.imp fun _ _ z=>z.keep s3.t),rB c6 pw,yX hg,qAv hg (qCt (n:=2) (by decide) c6),by rw[qAp];lia,fun l ds L H' hl s4 e4 a4 run=>?_⟩;exact k l ds L H' (s3.free hl) (s3.trans s4) e4 a4 run
open Classical in
noncomputable def netL (rs:List P3) (g:Nat):List P3:=if h:∃L,Run rs (g+64) 64 L then Classical.choose h else []
theorem uD{rs:List P3}{g:Nat}{L:List P3}(h:Run rs (g+64) 64 L):netL rs g=L:=by
 have e:∃L,Run rs (g+64) 64 L:=⟨L,h⟩;unfold netL;rw[dif_pos e];exact(Classical.choose_spec e).uniq h
noncomputable def gainN (cs:List Int) (rs:List P3) (g:Nat):Int:=-(((netL (allR cs rs) g).map (·.2.2)).sum)
def yY(NE:Addr):Sp:=fun vs H Q _=>∃(a ll lr:Addr) (cs:List Int) (rs:List P3) (g:Nat),vs=[.ref a,.int (g:Int)]/\qZ NE H a ll lr cs rs/\g<2^cs.length/\∀H',aJ H H'->Q (.int (gainN cs rs g)) H'
theorem HY:aL ["self","group"] ["self","group"] (aH vN):=by constructor<;>first|rfl|decide +kernel
theorem EF{f3:Addr}{fd3:qAx}(t:Mx K "reckon" "Net.reckon" vN ["self","group"] f fd)(T:T K mg AL LN RU OW PL PA VO MA NE fE fH rR rO rP rA rV rM rN iR iO iP iA iV iM iN fL SE NG NN NO NR NL NS NT NX NV TM UL)(DL:Md P w K mg base 4 ["self","group"] (BH NE) fL)(D_cost_of:Df P w K mg base cE 1 "cost_of" ["rope"] t7 f3 fd3):Md P w K mg base 5 ["self","group"] (yY NE) f:=by
 refine t.Ap HY (fun vs H Q E h=>?_) (fun cdv A outer s H vs Q E hr h=>?_)
 ·obtain⟨a,ll,lr,cs,rs,g,rfl,_⟩:=h;rfl
 ·obtain⟨a,ll,lr,cs,rs,g,rfl,no,hg,k⟩:=h;refine⟨_,(aG (aN (Bl wM (aP (iF rfl) (by rfl) T.jQ oA (aA (dB (NB:=["rope"]) (pick:=[none]) (dC (by with_unfolding_all rfl) (by exact trivial) rfl (by decide +kernel) (by decide +kernel) (by rfl) (by rfl)) rfl
     (cW (iE (k:=4) fG (pv 0) hr (by decide) (aA (pv 1) aD))) (fun _ _ _=>bI (i:=0) (show(["rope"]:List Str).Nodup from by decide +kernel) rfl cP)
     (fun _ _ _=>dA) (fun _ _ _=>(bF D_cost_of hr (by decide) (by rfl) (aA (pv 0) aD)))) aD))))),?_⟩
  have no':=no;obtain⟨dx,bs,h1,h2,h3,h4,c1,c6,pw,blen⟩:=no';refine⟨_,rfl,a,NE,dx,_,fL,_,rfl,h1,rfl,T.vO.oc.cl,T.Kv,⟨_,DL⟩,_,rfl,a,ll,lr,cs,rs,g,rfl,no,hg,fun l ds L H1 hl s1 e1 a1 run=>⟨l,rfl,⟨_,aX.of e1⟩,?_⟩⟩;have hg6:g<64:=qAv hg (qCt (n:=2) (by decide) c6);have Ll:L.length<=6:=by
   rw[(v3 (rB c6 pw) hg6 run).2.2.1];exact sP g 6
  refine eJ (xs:=ds.map V.ref) (fun _ x=>match x with | .ref b=>some (.int (dQ H1 b).2.2) | _=>none) (aX.of e1) (by rw[qAc,a1.len];exact qBd (aW (by lia))) (fun i y H7 kk kk0 s7 hy h1 h2=>?_) fun D H7 hD s7 hd=>?_
  ·obtain⟨b,hb',rfl⟩:=at_of hy;obtain⟨r,hr',pr⟩:=a1.at hb';exact⟨_,rfl,b,r,rfl,pr.keep s7.t,h1 _ (by show some (V.int (dQ H1 b).2.2)=_;rw[pr.of]) _ (.refl _)⟩
  ·have ed:H7 D=some (.lst ((L.map (·.2.2)).map V.int)):=by
    rw[hd,fJ,qCs,<- a1.BG,qCg,<- qDu];rfl
   refine⟨D,_,rfl,.inl (aX.of ed),_,rfl,?_⟩;have z:=k H7 (s1.trans s7);unfold gainN at z;rw[uD run] at z;exact z
theorem AY(D:Md P w K mg base 5 ["self","group"] (yY NE) rN)(c:RC K fE fH RU NE rN){H:Hp}{a ll lr:Addr}{cs:List Int}{rs:List P3}(h:qZ NE H a ll lr cs rs):jY P w K mg base fE fH RU H a cs.length (gainN cs rs):=by
 have h':=h;obtain⟨dx,bs,h1,h2,h3,h4,c1,c6,pw,blen⟩:=h';exact⟨NE,dx,rN,_,h1,c,rfl,c1,c6,⟨rfl,rfl,rfl⟩,_,(D.up (by decide)).imp fun vs H2 Q _ ⟨gr,e,hg,s,q⟩=>⟨a,ll,lr,cs,rs,gr,e,h.same s,hg,fun H3 s3=>q H3 s3⟩⟩
theorem EG{T:String}(h:Kd T):T∈["NoneType","bool","int","str","tuple","list","dict"]:=by
 cases h <;> decide
theorem Pl.JE{H:Hp}{v:V}(h:Pl K H v):tW v:=by
 obtain⟨T,a,b⟩:=h.ex;have c:=EG b;cases a <;> first | trivial | exact absurd c (by decide)
def jE(K:qAa)(H:Hp)(v:V):Prop:=(∃T,gH K H v (.type T)/\Kd T/\T≠"list")\/∃(q:Addr) (xs:List V),v = .ref q/\H q=some (.lst xs)/\∀z∈xs,tW z
theorem jE.same{H H':Hp}{v:V}(h:jE K H v)(s:aJ H H'):jE K H' v:=by
 rcases h with ⟨T,a,b,c⟩ | ⟨q,xs,e,h,i⟩
 ·exact .inl ⟨T,s.ty a,b,c⟩
 ·exact .inr ⟨q,xs,e,s _ _ h,i⟩
theorem jE.int{H:Hp}(i:Int):jE K H (.int i):=.inl ⟨_,.int i,.int,by decide⟩
theorem jE.ints{H:Hp}{q:Addr}{ns:List Int}(h:H q=some (.lst (ns.map V.int))):jE K H (.ref q):=.inr ⟨q,_,rfl,h,fun z hz=>by
 obtain⟨n,_,rfl⟩:=List.mem_map.mp hz;trivial⟩
theorem jE.refs{H:Hp}{q:Addr}{as:List Addr}(h:H q=some (.lst (as.map V.ref))):jE K H (.ref q):=.inr ⟨q,_,rfl,h,fun z hz=>by
 obtain⟨n,_,rfl⟩:=List.mem_map.mp hz;trivial⟩
theorem HZ{H:Hp}{i:Int}{t1 l1 d1:Addr}{ts ls:List V}(h1:H t1=some (.tup ts))(h2:H l1=some (.lst ls))(hi:∀z∈ls,tW z)(h3:H d1=some (.dK []))(i0:0<=i)(i8:i<8):
  ∃v,lQ [V.non,.bl true,.bl false,.str "1",.ref t1,.ref l1,.ref d1,.str ""] i=some v/\Pl K H v/\jE K H v/\eK v=false:=by
 obtain⟨v,hv,hm⟩:=sF (xs:=[V.non,.bl true,.bl false,.str "1",.ref t1,.ref l1,.ref d1,.str ""]) i0 i8;refine⟨v,hv,?_⟩;simp only[qBp,qAw,or_false] at hm;rcases hm with rfl | rfl | rfl | rfl | rfl | rfl | rfl | rfl
 ·exact⟨⟨_,.non,.non⟩,.inl ⟨_,.non,.non,by decide⟩,rfl⟩
 ·exact⟨⟨_,.bl _,.bl⟩,.inl ⟨_,.bl _,.bl,by decide⟩,rfl⟩
 ·exact⟨⟨_,.bl _,.bl⟩,.inl ⟨_,.bl _,.bl,by decide⟩,rfl⟩
 ·exact⟨⟨_,.str _,.str⟩,.inl ⟨_,.str _,.str,by decide⟩,rfl⟩
 ·exact⟨⟨_,.tup h1,.tup⟩,.inl ⟨_,.tup h1,.tup,by decide⟩,rfl⟩
 ·exact⟨⟨_,.lst h2,.lst⟩,.inr ⟨l1,ls,rfl,h2,hi⟩,rfl⟩
 ·exact⟨⟨_,.dK h3,.dic⟩,.inl ⟨_,.dK h3,.dic,by decide⟩,rfl⟩
 ·exact⟨⟨_,.str _,.str⟩,.inl ⟨_,.str _,.str,by decide⟩,rfl⟩
def lI(K:qAa):Sp:=fun vs H Q _=>∃c:Int,vs=[.int c]/\∀v H',aJ H H'->Pl K H' v->jE K H' v->eK v=false->Q v H'
theorem Ib:aL ["_law_number"] ["_law_number"] (aH DB):=by constructor<;>first|rfl|decide +kernel
theorem EH(t:Tx K mg "_law_odd" DB ["_law_number"] f fd)(T:T K mg AL LN RU OW PL PA VO MA NE fE fH rR rO rP rA rV rM rN iR iO iP iA iV iM iN fL SE NG NN NO NR NL NS NT NX NV TM UL):Df P w K mg base cE 1 "_law_odd" ["_law_number"] (lI K) f fd:=by
 refine t.iC Ib (fun vs H Q E h=>?_) (fun cdv A outer s H vs Q E hr h=>?_)
 ·obtain⟨c,rfl,_⟩:=h;rfl
 ·obtain⟨c,rfl,k⟩:=h;refine⟨_,(aG (aN (aY aU (bB (aA iW (aA hW (aA hW (aA eU (aA (eA (aA aC aD)) (aA (bB (aA aC aD)) (aA xO (aA eU aD))))))))) (aK bP (pv 0) aC) (fun _ _=>rfl)))),?_⟩;refine⟨jS,fun t1 ht1=>⟨jS,fun l1 hl1 d1 hd1=>⟨by show 8<=qAg;decide,fun m hm=>?_⟩⟩⟩;have u1:=aJ.aI (o:=.tup [V.int 1]) ht1;have u2:=aJ.aI (o:=.lst [V.int 2]) hl1;have u3:=aJ.aI (o:=.dK []) hd1;refine⟨_,rfl,_,_,rfl,rfl,(by show(0:Int)<8;decide),?_⟩;have u4:=aJ.aI (o:=.lst [V.non,.bl true,.bl false,.str "1",.ref t1,.ref l1,.ref d1,.str ""]) hm;obtain⟨v,hv,hpl,hcp,hno⟩:=HZ (K:=K) (i:=c%8) (u4 _ _ (u3 _ _ (u2 _ _ aB))) (u4 _ _ (u3 _ _ aB)) (fun z hz=>by rw[qCb] at hz;subst hz;trivial) (u4 _ _ aB) (by lia) (by lia);exact⟨m,_,_,v,rfl,rfl,aX.of aB,hv,k v _ (((u1.trans u2).trans u3).trans u4) hpl hcp hno⟩
def rC:Sp:=fun vs H Q _=>∃c:Int,vs=[.int c]/\∀r:Int,0<=r->Q (.int r) H
theorem Ic:aL ["_law_number"] ["_law_number"] (aH DC):=by constructor<;>first|rfl|decide +kernel
theorem EI(t:Tx K mg "_law_far" DC ["_law_number"] f fd)(T:T K mg AL LN RU OW PL PA VO MA NE fE fH rR rO rP rA rV rM rN iR iO iP iA iV iM iN fL SE NG NN NO NR NL NS NT NX NV TM UL):Df P w K mg base cE 1 "_law_far" ["_law_number"] rC f fd:=by
 refine t.iC Ic (fun vs H Q E h=>?_) (fun cdv A outer s H vs Q E hr h=>?_)
 ·obtain⟨c,rfl,_⟩:=h;rfl
 ·obtain⟨c,rfl,k⟩:=h;refine⟨_,(aE (bC (aO bJ (aK bP (pv 0) aC) aC (aS _)) (aG (aN aC)) aQ)
   (aG (aN (aK bP (aK fO (aK bD (pv 0) aC) aC) (aK kI aC aC))))),?_⟩
  refine⟨_,rfl,_,_,rfl,rfl,(by show(0:Int)<2;decide),rfl,_,rfl,bN (fun _=>k 0 (by decide)) (fun _=>?_)⟩;refine⟨_,rfl,_,_,rfl,rfl,⟨by decide,by decide⟩,_,_,rfl,rfl,.inr ⟨by decide,by decide⟩,_,_,rfl,rfl,⟨by decide,by decide,by decide⟩,_,_,rfl,rfl,(by show(0:Int)<10^18;decide),k _ (qDf _ (by decide))⟩
def BJ(K:qAa):Sp:=fun vs H Q _=>∃c:Int,vs=[.int c]/\∀v H',aJ H H'->Pl K H' v->jE K H' v->gD 1 6 v=false->Q v H'
theorem yZ{v:V}{lo hi:Int}(h:eK v=false):gD lo hi v=false:=by
 cases v <;> first | rfl | cases h
theorem EJ{lo hi i:Int}(h:i<lo):gD lo hi (.int i)=false:=by
 show(decide (lo<=i)&&decide (i<=hi))=false;rw[decide_eq_false (by lia),qBi]
theorem EK{lo hi i:Int}(h:hi<i):gD lo hi (.int i)=false:=by
 show(decide (lo<=i)&&decide (i<=hi))=false;rw[decide_eq_false (by lia:¬(i<=hi)),qBo]
theorem BK:aL ["_law_number","_law_far_here"] ["_law_number"] (aH DD):=by constructor<;>first|rfl|decide +kernel
theorem EL{f1 f2:Addr}{fd1 fd2:qAx}(t:Tx K mg "_law_many_off" DD ["_law_number"] f fd)(T:T K mg AL LN RU OW PL PA VO MA NE fE fH rR rO rP rA rV rM rN iR iO iP iA iV iM iN fL SE NG NN NO NR NL NS NT NX NV TM UL)(D_law_far:Df P w K mg base cE 1 "_law_far" ["_law_number"] rC f1 fd1)(D_law_odd:Df P w K mg base cE 1 "_law_odd" ["_law_number"] (lI K) f2 fd2):Df P w K mg base cE 2 "_law_many_off" ["_law_number"] (BJ K) f fd:=by
 refine t.iC BK (fun vs H Q E h=>?_) (fun cdv A outer s H vs Q E hr h=>?_)
 ·obtain⟨c,rfl,_⟩:=h;rfl
 ·obtain⟨c,rfl,k⟩:=h;refine⟨_,(aE (aZ (i:=1) BK.nd rfl cP (bF D_law_far hr (by decide) (by rfl) (aA (aK bD (pv 0) aC) aD)))
   (aG (aN (aY aU (bB (aA aC (aA aC (aA (aK cG aC (pv 1)) (aA (aK cL (aK cL aC aC) (pv 1)) (aA (bF D_law_odd hr (by decide) (by rfl) (aA (aK bD (pv 0) aC) aD)) (aA (bF D_law_odd hr (by decide) (by rfl) (aA (aK bD (pv 0) aC) aD)) aD))))))) (aK bP (pv 0) aC) (fun _ _=>rfl))))),?_⟩
  refine⟨_,rfl,_,_,rfl,rfl,⟨by decide,by decide⟩,_,rfl,fun far hf=>?_⟩;refine⟨_,rfl,_,_,rfl,rfl,_,_,rfl,rfl,_,rfl,_,_,rfl,rfl,_,rfl,_,_,rfl,rfl,⟨by decide,by decide⟩,_,rfl,fun v1 H1 s1 p1 c1 i1=>?_⟩;refine⟨_,rfl,_,_,rfl,rfl,⟨by decide,by decide⟩,_,rfl,fun v2 H2 s2 p2 c2 i2=>?_⟩;refine⟨by show 6<=qAg;decide,fun m hm=>⟨_,rfl,_,_,rfl,rfl,(by show(0:Int)<6;decide),?_⟩⟩;have u4:=aJ.aI (o:=.lst [V.int 0,.int 7,.int (7+far),.int (0-1-far),v1,v2]) hm;obtain⟨v,hv,hm'⟩:=sF (xs:=[V.int 0,.int 7,.int (7+far),.int (0-1-far),v1,v2]) (i:=c%6) (by lia) (by show c%6<6;lia);refine⟨m,_,_,v,rfl,rfl,aX.of aB,hv,k v _ (s1.trans (s2.trans u4)) ?_ ?_ ?_⟩
  ·simp only[qBp,qAw,or_false] at hm';rcases hm' with rfl | rfl | rfl | rfl | rfl | rfl
   ·exact .int _
   ·exact .int _
   ·exact .int _
   ·exact .int _
   ·exact p1.same (s2.trans u4)
   ·exact p2.same u4
  ·simp only[qBp,qAw,or_false] at hm';rcases hm' with rfl | rfl | rfl | rfl | rfl | rfl
   ·exact .int _
   ·exact .int _
   ·exact .int _
   ·exact .int _
   ·exact c1.same (s2.trans u4)
   ·exact c2.same u4
  ·simp only[qBp,qAw,or_false] at hm';rcases hm' with rfl | rfl | rfl | rfl | rfl | rfl
   ·rfl
   ·rfl
   ·exact EK (by lia)
   ·exact EJ (by lia)
   ·exact yZ i1
   ·exact yZ i2
def BL:Sp:=fun vs H Q _=>∃(m:Nat) (c:Int),vs=[.int (m:Int),.int c]/\m<=64/\∀(l:Addr) (ns:List Int) (H':Hp),ns.length=m->H l=none->aJ H H'->H' l=some (.lst (ns.map V.int))->Q (.ref l) H'
theorem Ie:aL ["_law_many","_law_number"] ["_law_many","_law_number"] (aH Dy):=by constructor<;>first|rfl|decide +kernel
theorem EM(t:Tx K mg "_law_numbers" Dy ["_law_many","_law_number"] f fd)(T:T K mg AL LN RU OW PL PA VO MA NE fE fH rR rO rP rA rV rM rN iR iO iP iA iV iM iN fL SE NG NN NO NR NL NS NT NX NV TM UL):Df P w K mg base cE 1 "_law_numbers" ["_law_many","_law_number"] BL f fd:=by
 refine t.iC Ie (fun vs H Q E h=>?_) (fun cdv A outer s H vs Q E hr h=>?_)
 ·obtain⟨m,c,rfl,_⟩:=h;rfl
 ·obtain⟨m,c,rfl,m64,k⟩:=h;refine⟨_,(aG (aN (dB (NB:=["_law_k","_law_number"]) (pick:=[none,some 1]) (dC (by with_unfolding_all rfl) (by exact(And.intro rfl trivial)) rfl (by decide +kernel) (by decide +kernel) (by rfl) (by rfl)) rfl
     (eN (by rfl) T.dO (aA (pv 0) aD)) (fun _ _ _=>bI (i:=0) (show(["_law_k","_law_number"]:List Str).Nodup from by decide +kernel) rfl cP)
     (fun _ _ _=>dA) (fun _ _ _=>(aK cL (aK bP (aK fO (aK fO (aK cG (pv 1) aC) (aK cG (aK fO (pv 0) (pv 0)) aC)) aC) (aK cG (aK fO aC (aK kI aC aC)) aC)) (aK kI aC aC)))))),?_⟩
  refine⟨_,rfl,(m:Int),rfl,by lia,by lia,?_⟩;refine iD (n:=m) (fun i=>some (.int (((c+11)*((0+(i:Int))*(0+(i:Int))+29)*8731400069621)%(2*(10:Int)^(18:Int).toNat+1)-(10:Int)^(18:Int).toNat))) (qBd (aW (by lia))) (fun i H2 kk kk0 hi h1 h2=>?_) fun l hl=>?_
  ·have hk:(0+(i:Int))*(0+(i:Int))<=64*64:=qJu (by lia) (by lia) (by lia) (by lia);have hk0:0<=(0+(i:Int))*(0+(i:Int)):=qJt (by lia) (by lia);refine⟨_,rfl,_,_,rfl,rfl,_,rfl,_,rfl,_,_,rfl,rfl,.inl ⟨by lia,by lia⟩,_,_,rfl,rfl,_,_,rfl,rfl,.inr ⟨by lia,by lia⟩,_,_,rfl,rfl,.inr ⟨by decide,by decide⟩,_,_,rfl,rfl,⟨by decide,by decide,by decide⟩,_,_,rfl,rfl,.inl ⟨by decide,by decide⟩,_,_,rfl,rfl,_,_,rfl,rfl,(by show(0:Int)<2*10^18+1;decide),_,_,rfl,rfl,⟨by decide,by decide,by decide⟩,_,_,rfl,rfl,h1 _ rfl⟩
  ·obtain⟨ns,hns,e⟩:∃ns:List Int,ns.length=m/\(qAy m).filterMap (fun(i:Nat)=>some (V.int (((c+11)*((0+(i:Int))*(0+(i:Int))+29)*8731400069621)%(2*(10:Int)^(18:Int).toNat+1)-(10:Int)^(18:Int).toNat)))=ns.map V.int:=by
    refine⟨(qAy m).map fun(i:Nat)=>((c+11)*((0+(i:Int))*(0+(i:Int))+29)*8731400069621)%(2*(10:Int)^(18:Int).toNat+1)-(10:Int)^(18:Int).toNat,by rw[qAc,qDn],?_⟩;rw[qCg,<- qDu];rfl
   rw[e];exact k l ns _ hns hl (.aI hl) aB
def FP:Nat->Nat
 | 0=>0
 | k+1=>FP k+k
theorem EN:∀i:_root_.Fin 6,FP i.1+i.1<=15:=by decide
def iT(i j:Nat)(H:Hp)(bs:List Addr):Prop:=(∀b∈bs,∃(u v:Nat) (n:Int),H b=some (.tup [.int (u:Int),.int (v:Int),.int n])/\u<v/\(v<i\/(v=i/\u<j)))/\(bs.map fun b=>cM (bT H b)).Nodup/\bs.length<=FP i+j
theorem iT.keep{i j:Nat}{H H':Hp}{bs:List Addr}(h:iT i j H bs)(s:∀b xs,H b=some (.tup xs)->H' b=some (.tup xs)):iT i j H' bs:=by
 refine⟨fun b hb=>?_,?_,h.2.2⟩
 ·obtain⟨u,v,n,e,z⟩:=h.1 b hb;exact⟨u,v,n,s b _ e,z⟩
 ·have e:(bs.map fun b=>cM (bT H' b))=bs.map fun b=>cM (bT H b):=qDy fun b hb=>by
   obtain⟨u,v,n,e,_⟩:=h.1 b hb;rw[bW e,bW (s b _ e)]
  rw[e];exact h.2.1
theorem iT.go{i j:Nat}{H:Hp}{bs:List Addr}(h:iT i j H bs):iT i (j+1) H bs :=
 ⟨fun b hb=>let ⟨u,v,n,e,z1,z2⟩:=h.1 b hb;⟨u,v,n,e,z1,by lia⟩,h.2.1,by have:=h.2.2;lia⟩
theorem iT.up{i:Nat}{H:Hp}{bs:List Addr}(h:iT i i H bs):iT (i+1) 0 H bs :=
 ⟨fun b hb=>let ⟨u,v,n,e,z1,z2⟩:=h.1 b hb;⟨u,v,n,e,z1,by lia⟩,h.2.1,h.2.2⟩
theorem iT.add{i j:Nat}{n:Int}{H:Hp}{bs:List Addr}{b:Addr}(h:iT i j H bs)(hb:H b=some (.tup [.int (j:Int),.int (i:Int),.int n]))(hj:j<i):iT i (j+1) H (bs++[b]):=by
 refine⟨fun c hc=>?_,?_,by rw[qAp];have:=h.2.2;show _+1<=_;lia⟩
 ·rcases List.mem_append.mp hc with hc | hc
  ·exact h.go.1 c hc
  ·have:c=b:=by simpa using hc
   subst this;exact⟨j,i,n,hb,hj,.inr ⟨rfl,by lia⟩⟩
 ·rw[qBw,qJb];refine⟨h.2.1,by simp,fun x hx y hy e=>?_⟩;subst e;obtain⟨c,hc,rfl⟩:=List.mem_map.mp hx;obtain⟨u,v,n',e,z1,z2⟩:=h.1 c hc;have hy:cM (bT H c)=cM (bT H b):=by simpa using hy
  rw[bW e,bW hb] at hy;have y1:(u:Int)=j:=(Prod.mk.inj hy).1;have y2:(v:Int)=i:=(Prod.mk.inj hy).2;lia
def BM:Sp:=fun vs H Q _=>∃(m:Nat) (c:Int),vs=[.int (m:Int),.int c]/\m<=6/\0<=c /\
 ∀(l:Addr) (bs:List Addr) (H':Hp),H l=none->aJ H H'->H' l=some (.lst (bs.map V.ref))->bV m H' bs->Q (.ref l) H'
theorem nE:aL ["_law_many","_law_number","_law_pairs_here","_law_other","_law_one","_law_drawn","_law_at"] ["_law_many","_law_number"] (aH Dz):=by constructor<;>first|rfl|decide +kernel
theorem EO(t:Tx K mg "_law_pairs" Dz ["_law_many","_law_number"] f fd)(T:T K mg AL LN RU OW PL PA VO MA NE fE fH rR rO rP rA rV rM rN iR iO iP iA iV iM iN fL SE NG NN NO NR NL NS NT NX NV TM UL):Df P w K mg base cE 1 "_law_pairs" ["_law_many","_law_number"] BM f fd:=by
 refine t.iC nE (fun vs H Q E h=>?_) (fun cdv A outer s H vs Q E hr h=>?_)
 ·obtain⟨m,c,rfl,_⟩:=h;rfl
 ·obtain⟨m,c,rfl,m6,c0,k⟩:=h;refine⟨_,(aE (aZ (i:=2) nE.nd rfl cP (bB aD))
   (aE (g8 PassesOwn.never rfl (eN (by rfl) T.dO (aA (pv 0) aD)) (bI (i:=3) nE.nd rfl cP)
    (aG (g8 PassesOwn.never rfl (eN (by rfl) T.dO (aA (pv 3) aD)) (bI (i:=4) nE.nd rfl cP)
     (aE (aZ (i:=5) nE.nd rfl cP (aK bP (aK fO (aK fO (aK cG (pv 1) aC) (aK cG (aK cG (aK fO (pv 4) aC) (aK fO (pv 3) (pv 3))) aC)) aC) aC))
     (aG (bC (aO Bm (aK bP (aK bD (pv 5) aC) aC) aC (aS _)) (aG (bO (mH qDp qDk qDj eY (pv 2) (aA (eA (aA (pv 4) (aA (pv 3) (aA (aK cL (pv 5) (aK kI aC aC)) aD)))) aD)))) aQ))))))
   (aE (aZ (i:=6) nE.nd rfl cP (aK bP (pv 1) (aK cG (aP bE (by rfl) T.dP dD (aA (pv 2) aD)) aC)))
   (aG (aN (aK cC (cA cX (pv 2) (cO (pv 6)) cN) (cA cX (pv 2) cN (cO (pv 6))))))))),?_⟩
  refine⟨by show 0<=qAg;decide,fun lp hlp=>?_⟩;refine⟨_,rfl,(m:Int),rfl,by lia,by lia,?_⟩;refine iX (n:=m) (fun i σ' H'=>aJ H H'/\∃(bs:List Addr) (o3 o4 o5:Option V),H' lp=some (.lst (bs.map V.ref))/\iT i 0 H' bs/\σ'=[some (.int (m:Int)),some (.int c),some (.ref lp),o3,o4,o5,none]) ?_ ?_ ?_
  ·exact⟨.aI hlp,[],none,none,none,aB,⟨fun b hb=>absurd hb (by simp),by simp,by simp⟩,rfl⟩
  ·rintro i σ' H' hi ⟨s2,bs,o3,o4,o5,h3,h4,rfl⟩;refine⟨_,rfl,(i:Int),(by show [V.int (0+(i:Int))]=_;rw[qFw]),by lia,by lia,?_⟩;refine iX (n:=i) (fun j σ' H'=>aJ H H'/\∃(bs:List Addr) (o4 o5:Option V),H' lp=some (.lst (bs.map V.ref))/\iT i j H' bs/\σ'=[some (.int (m:Int)),some (.int c),some (.ref lp),some (.int (0+(i:Int))),o4,o5,none]) ?_ ?_ ?_
   ·exact⟨s2,bs,o4,o5,h3,h4,rfl⟩
   ·clear h3 h4 s2 bs o4 o5
    rintro j σ' H' hj ⟨s2,bs,o4,o5,h3,h4,rfl⟩;have hk:(0+(i:Int))*(0+(i:Int))<=6*6:=qJu (by lia) (by lia) (by lia) (by lia);have hk0:0<=(0+(i:Int))*(0+(i:Int)):=qJt (by lia) (by lia);refine⟨_,rfl,_,_,rfl,rfl,_,rfl,_,_,rfl,rfl,.inl ⟨by lia,by lia⟩,_,rfl,_,rfl,_,_,rfl,rfl,.inl ⟨by lia,by lia⟩,_,_,rfl,rfl,_,_,rfl,rfl,_,_,rfl,rfl,.inr ⟨by lia,by lia⟩,_,_,rfl,rfl,.inr ⟨by decide,by decide⟩,_,_,rfl,rfl,(by show(0:Int)<2147483629;decide),?_⟩;dsimp only[bH];generalize (c+5)*((0+(j:Int))*7+(0+(i:Int))*(0+(i:Int))+3)*48271%2147483629=dr;refine⟨_,rfl,_,_,rfl,rfl,⟨by decide,by decide⟩,_,_,rfl,rfl,(by show(0:Int)<3;decide),_,_,rfl,rfl,_,rfl,?_⟩;refine bN (fun _=>?_) (fun _=>?_)
    ·refine⟨_,rfl,.inl ⟨rfl,_,aX.of h3⟩,_,rfl,_,rfl,_,rfl,_,_,rfl,rfl,⟨by decide,by decide,by decide⟩,_,_,rfl,rfl,wF,fun tt htt=>?_⟩;have u4:=aJ.aI (o:=.tup [V.int (0+(j:Int)),V.int (0+(i:Int)),V.int (dr-(10:Int)^(9:Int).toNat)]) htt;have b1:=u4 _ _ h3;have b3:upd H' tt (.tup [V.int (0+(j:Int)),V.int (0+(i:Int)),V.int (dr-(10:Int)^(9:Int).toNat)]) tt=some (.tup [V.int (j:Int),V.int (i:Int),V.int (dr-(10:Int)^(9:Int).toNat)]):=by rw[aB,qFw,qFw]
     have b4:=(h4.keep fun b xs e=>u4 b _ e).add b3 hj;have b5:=s2.trans u4;generalize upd H' tt _=H3 at b1 b3 b4 b5|-;have ht:=EN ⟨i,by lia⟩;have ht:FP i+i<=15:=ht;refine⟨lp,_,_,rfl,rfl,b1,by rw[qAc];have:=h4.2.2;exact aW (by lia),?_⟩;exact⟨b5.upd_ne' hlp,bs++[tt],_,_,by rw[aB,qBw];rfl,b4.keep (fun b xs e=>by
      rw[aM (eR e b1 (by intro z;cases z))];exact e),rfl⟩
    ·exact⟨s2,bs,_,_,h3,h4.go,rfl⟩
   ·clear h3 h4 s2 bs o4 o5
    rintro σ' H' ⟨s2,bs,o4,o5,h3,h4,rfl⟩;exact⟨s2,bs,_,_,_,h3,h4.up,rfl⟩
  ·rintro σ' H' ⟨s2,bs,o3,o4,o5,h3,h4,rfl⟩;obtain⟨p,hp⟩:∃p:Nat,c%(((bs.map V.ref).length:Int)+1)=(p:Int):=by
    have h0:=qDf c (b:=((bs.map V.ref).length:Int)+1) (by lia);exact⟨(c%(((bs.map V.ref).length:Int)+1)).toNat,by lia⟩
   refine⟨_,rfl,_,rfl,lp,_,rfl,.inl (aX.of h3),_,_,rfl,rfl,_,_,rfl,rfl,(by show 0<((bs.map V.ref).length:Int)+1;lia),?_⟩;show bH 6 (V.int (c%(((bs.map V.ref).length:Int)+1))) _ _ _;rw[hp];have m15:bs.length<=15:=by
    have:∀i:_root_.Fin 7,FP i.1<=15:=by decide
    have z:FP m<=15:=this ⟨m,by lia⟩;have:=h4.2.2;lia
   refine⟨_,rfl,_,rfl,_,rfl,lp,_,rfl,aX.of h3,fun p1 hp1=>?_⟩;have u1:=aJ.aI (o:=.lst (c8 (bs.map V.ref) (some (p:Int)) none)) hp1;refine⟨_,rfl,_,rfl,_,rfl,lp,_,rfl,aX.of (u1 _ _ h3),fun p2 hp2=>?_⟩;have u2:=aJ.aI (o:=.lst (c8 (bs.map V.ref) none (some (p:Int)))) hp2;have e1:c8 (bs.map V.ref) (some (p:Int)) none=(bs.drop p).map V.ref:=by rw[kY,qFk]
   have e2:c8 (bs.map V.ref) none (some (p:Int))=(bs.take p).map V.ref:=by rw[jA,qFj]
   refine⟨p1,p2,_,_,rfl,rfl,aX.of (u2 _ _ aB),aX.of aB,by rw[e1,e2,qAc,qAc,qCl,qBv];exact qBd (aW (by lia)),fun l hl=>?_⟩;have u3:=aJ.aI (o:=.lst (c8 (bs.map V.ref) (some (p:Int)) none++c8 (bs.map V.ref) none (some (p:Int)))) hl;have u:=(u1.trans u2).trans u3;have pm:(bs.drop p++bs.take p).Perm bs:=by
    have z:=qIf (l₁:=bs.drop p) (l₂:=bs.take p);rw[qIe] at z;exact z
   have ok:bV m H' bs:=⟨fun b hb=>let ⟨u,v,n,e,z1,z2⟩:=h4.1 b hb;⟨u,v,n,e,z1,by lia⟩,h4.2.1,m15⟩;refine k l (bs.drop p++bs.take p) _ ((s2.trans (u1.trans u2)).free hl) (s2.trans u) ?_ ((ok.oE pm).same fun b _ o e=>u b o e);rw[aB,e1,e2,qBw]
def fV(H:Hp)(k m:Nat)(ps:List V):Prop:=match k with
 | 0=>ps=[.int (m:Int)]
 | 1=>∃(q:Addr) (ns:List Int),ps=[.ref q]/\H q=some (.lst (ns.map V.int))/\ns.length=m
 | 2=>∃(q:Addr) (c z:Int) (ns:List Int),ps=[.int c,.int z,.ref q]/\H q=some (.lst (ns.map V.int))/\ns.length=m/\1<=c
 | 3=>∃(q:Addr) (ns:List Int),ps=[.ref q]/\H q=some (.lst ((0::ns).map V.int))/\(0::ns).length=2^m
 | 4=>∃(q:Addr) (as:List Addr),ps=[.int (m:Int),.ref q]/\H q=some (.lst (as.map V.ref))/\bV m H as
 | 5=>∃(q:Addr) (as:List Addr),ps=[.int (m:Int),.ref q]/\H q=some (.lst (as.map V.ref))/\bV m H as
 | _=>∃(p q:Addr) (cs:List Int) (as:List Addr),ps=[.ref p,.ref q]/\H p=some (.lst (cs.map V.int))/\cs.length=m/\(∀c∈cs,0<=c)/\H q=some (.lst (as.map V.ref))/\bV m H as/\∀a∈as,∀r,fD H a r->0<=r.2.2
theorem rH{k:Nat}{j:Int}(h:decide (V.int (k:Int)=V.int j)=true):(k:Int)=j:=V.int.inj (of_decide_eq_true h)
theorem tD{k:Nat}{j:Int}(h:¬decide (V.int (k:Int)=V.int j)=true):¬(k:Int)=j:=fun z=>h (decide_eq_true (by rw[z]))
theorem f9{F:St->Hp->Prop}{σ σ':St}{H:Hp}(e:σ=σ')(h:F σ' H):F σ H:=e▸h
theorem AZ:∀m:_root_.Fin 7,1<=m.1->lQ [V.int 2,V.int 4,V.int 8,V.int 16,V.int 32,V.int 64] ((m.1:Int)-1)=some (.int ((2^m.1:Nat):Int)):=by decide
theorem A2.JF{R:Addr->P3->Prop}{bs:List Addr}{ps:List P3}(h:A2 R bs ps):∀(i:Nat) (b:Addr),bs[i]?=some b->∃p,ps[i]?=some p/\R b p:=by
 induction h with
 | nil=>intro i b e;cases e
 | cons r _ ih =>
  intro i b e;cases i with
  | zero=>cases e;exact⟨_,rfl,r⟩
  | succ i=>exact ih i b e
def v8(p:P3):P3:=(p.1,p.2.1,if p.2.2<0 then -p.2.2 else p.2.2)
theorem A2.BN{S:Addr->P3->Prop}:∀{ys:List V}{ps:List P3},ys.length=ps.length->(∀(i:Nat) (y:V),ys[i]?=some y->∃(b:Addr) (p:P3),y=V.ref b/\ps[i]?=some p/\S b (v8 p))->∃cs,ys=cs.map V.ref/\A2 S cs (ps.map v8)
 | [],[],_,_=>⟨[],rfl,.nil⟩
 | [],p::ps,h,_=>by cases h
 | y::ys,[],h,_=>by cases h
 | y::ys,p::ps,h,k=>by
  obtain⟨b,p',rfl,e,s⟩:=k 0 y rfl;cases e;obtain⟨cs,rfl,t⟩:=A2.BN (Nat.succ.inj h) fun i y e=>k (i+1) y e;exact⟨b::cs,rfl,.cons s t⟩
theorem A2.cM{H:Hp}{bs:List Addr}{ps:List P3}(h:A2 (fD H) bs ps):(bs.map fun b=>cM (bT H b))=ps.map fun p=>((p.1:Int),(p.2.1:Int)):=by
 induction h with
 | nil=>rfl
 | cons r _ ih =>
  rw[qBq,qBq,ih,bW (show _=some (HO.tup [.int _,.int _,.int _]) from r)];rfl
theorem bV.JG{m:Nat}{H H':Hp}{bs cr:List Addr}{qs:List P3}(ok:bV m H bs)(a:A2 (fD H) bs qs)(b:A2 (fD H) cr (qs.map v8))(t:fK H H'):bV m H' cr:=by
 have b':A2 (fD H') cr (qs.map v8):=b.imp fun _ _ z=>z.keep t;refine⟨fun c hc=>?_,?_,by rw[b.len,qAc,<- a.len];exact ok.2.2⟩
 ·obtain⟨p,hp,z⟩:=b'.mem.1 c hc;obtain⟨q,hq,rfl⟩:=List.mem_map.mp hp;obtain⟨d,hd,y⟩:=a.mem.2 q hq;obtain⟨u,v,n,e,z1,z2⟩:=ok.1 d hd;have y2:q=(u,v,n):=y.eq e;subst y2;exact⟨u,v,_,z,z1,z2⟩
 ·have e:=ok.2.1;rw[a.cM] at e;rw[b'.cM,qCg];exact e
def BO:Sp:=fun vs H Q _=>∃(k m:Nat) (c:Int),vs=[.int (k:Int),.int (m:Int),.int c]/\k<7/\1<=m/\m<=6/\0<=c/\∀(l:Addr) (ps:List V) (H':Hp),H l=none->aJ H H'->H' l=some (.lst ps)->fV H' k m ps->Q (.ref l) H'
theorem rD:aL ["_law_kind","_law_many","_law_number","_law_numbers_here","_law_size","_law_pairs_here"] ["_law_kind","_law_many","_law_number"] (aH DA):=by constructor<;>first|rfl|decide +kernel
theorem ER{f1 f2:Addr}{fd1 fd2:qAx}(t:Tx K mg "_law_good" DA ["_law_kind","_law_many","_law_number"] f fd)(T:T K mg AL LN RU OW PL PA VO MA NE fE fH rR rO rP rA rV rM rN iR iO iP iA iV iM iN fL SE NG NN NO NR NL NS NT NX NV TM UL)(D_law_numbers:Df P w K mg base cE 1 "_law_numbers" ["_law_many","_law_number"] BL f1 fd1)(D_law_pairs:Df P w K mg base cE 1 "_law_pairs" ["_law_many","_law_number"] BM f2 fd2):Df P w K mg base cE 2 "_law_good" ["_law_kind","_law_many","_law_number"] BO f fd:=by
 refine t.iC rD (fun vs H Q E h=>?_) (fun cdv A outer s H vs Q E hr h=>?_)
 ·obtain⟨k,m,c,rfl,_⟩:=h;rfl
 ·obtain⟨k,m,c,rfl,k7,m1,m6,c0,kk⟩:=h;refine⟨_,(aE (bC (aO bJ (pv 0) aC (aS _)) (aG (aN (bB (aA (pv 1) aD)))) aQ)
   (aE (aZ (i:=3) rD.nd rfl (by first|exact .inl rfl|exact .inr rfl) (bF D_law_numbers hr (by decide) (by rfl) (aA (pv 1) (aA (pv 2) aD))))
   (aE (bC (aO bJ (pv 0) aC (aS _)) (aG (aN (bB (aA (pv 3) aD)))) aQ)
   (aE (bC (aO bJ (pv 0) aC (aS _)) (aG (aN (bB (aA (aK cG aC (aK bP (pv 2) aC)) (aA (aK cL (aY aU (pv 3) aC (fun _ _=>rfl)) (pv 2)) (aA (pv 3) aD)))))) aQ)
   (aE (bC (aO bJ (pv 0) aC (aS _)) (aE (aZ (i:=4) rD.nd rfl cP (aY aU (bB (aA aC (aA aC (aA aC (aA aC (aA aC (aA aC aD))))))) (aK cL (pv 1) aC) (fun _ _=>rfl)))
    (aG (aN (bB (aA (aK cC (bB (aA aC aD)) (bF D_law_numbers hr (by decide) (by rfl) (aA (aK cL (pv 4) aC) (aA (pv 2) aD)))) aD))))) aQ)
   (aE (aZ (i:=5) rD.nd rfl (by first|exact .inl rfl|exact .inr rfl) (bF D_law_pairs hr (by decide) (by rfl) (aA (pv 1) (aA (pv 2) aD))))
   (aE (bC (aO bJ (pv 0) aC (aS _)) (aE (nW (NB:=["_law_one","_law_other","_law_cost"]) (pick:=[none,none,none]) (i:=5) rD.nd rfl (by first|exact .inl rfl|exact .inr rfl) (by rfl) (dC (by with_unfolding_all rfl) (by exact trivial) rfl (by decide +kernel) (by decide +kernel) (by rfl) (by rfl)) rfl
     (cW (pv 5)) (fun _ _ _=>(show PG _ _ (zZ K 3 (hX (bH 0) (hX (bH 1) (hX (bH 2) zY)))) from nK rfl (cU (bI (i:=0) (show(["_law_one","_law_other","_law_cost"]:List Str).Nodup from by decide +kernel) rfl cP) (cU (bI (i:=1) (show(["_law_one","_law_other","_law_cost"]:List Str).Nodup from by decide +kernel) rfl cP) (cU (bI (i:=2) (show(["_law_one","_law_other","_law_cost"]:List Str).Nodup from by decide +kernel) rfl cP) j3)))))
     (fun _ _ _=>dA) (fun _ _ _=>(eA (aA (pv 0) (aA (pv 1) (aA (aP oR (by rfl) T.mW xQ (aA (pv 2) aD)) aD))))))
    (aG (aN (bB (aA (dB (NB:=["_law_cost"]) (pick:=[none]) (dC (by with_unfolding_all rfl) (by exact trivial) rfl (by decide +kernel) (by decide +kernel) (by rfl) (by rfl)) rfl
     (cW (pv 3)) (fun _ _ _=>bI (i:=0) (show(["_law_cost"]:List Str).Nodup from by decide +kernel) rfl cP)
     (fun _ _ _=>dA) (fun _ _ _=>(aP oR (by rfl) T.mW xQ (aA (pv 0) aD)))) (aA (pv 5) aD)))))) aQ)
   (aG (aN (bB (aA (pv 1) (aA (pv 5) aD)))))))))))),?_⟩
  refine⟨_,rfl,rfl,_,rfl,bN (fun h=>?_) (fun h=>?_)⟩
  ·obtain rfl:k=0:=by have:=rH h;lia
   exact⟨_,rfl,jS,fun l hl=>kk l _ _ hl (.aI hl) aB rfl⟩
  have n0:=tD h;dsimp only[cF];refine⟨_,rfl,_,rfl,m,c,rfl,by lia,fun ln ns H1 hns hln s1 h1=>?_⟩;dsimp only[bH];refine⟨_,rfl,rfl,_,rfl,bN (fun h=>?_) (fun h=>?_)⟩
  ·obtain rfl:k=1:=by have:=rH h;lia
   exact⟨_,rfl,jS,fun l hl=>kk l _ _ (s1.free hl) (s1.trans (.aI hl)) aB ⟨ln,ns,rfl,aJ.aI hl _ _ h1,hns⟩⟩
  have n1:=tD h;dsimp only[cF];refine⟨_,rfl,rfl,_,rfl,bN (fun h=>?_) (fun h=>?_)⟩
  ·obtain rfl:k=2:=by have:=rH h;lia
   have hat:lQ (ns.map V.int) 0=some (.int (ns.getD 0 0)):=bA (j:=0) (by rw[qBx,qAz,qAk (by lia)];rfl);exact⟨_,rfl,_,_,rfl,rfl,(by show(0:Int)<1000003;decide),_,_,rfl,rfl,_,rfl,ln,_,_,_,rfl,rfl,aX.of h1,hat,_,rfl,_,_,rfl,rfl,_,rfl,wF,fun l hl=>kk l _ _ (s1.free hl) (s1.trans (.aI hl)) aB ⟨ln,_,_,ns,rfl,aJ.aI hl _ _ h1,hns,by have:=qDf c (b:=1000003) (by decide);lia⟩⟩
  have n2:=tD h;dsimp only[cF];refine⟨_,rfl,rfl,_,rfl,bN (fun h=>?_) (fun h=>?_)⟩
  ·obtain rfl:k=3:=by have:=rH h;lia
   have h64:=yJ m6;have hpos:=Nat.two_pow_pos m;refine⟨by show 6<=qAg;decide,fun lz hlz=>⟨_,rfl,_,_,rfl,rfl,lz,_,_,_,rfl,rfl,aX.of aB,AZ ⟨m,by lia⟩ m1,?_⟩⟩;have u1:=aJ.aI (o:=.lst [V.int 2,V.int 4,V.int 8,V.int 16,V.int 32,V.int 64]) hlz;generalize upd H1 lz _=H2 at u1|-;dsimp only[bH];refine⟨jS,fun z0 hz0=>?_⟩;have u2:=aJ.aI (o:=.lst [V.int 0]) hz0;have e2:upd H2 z0 (.lst [V.int 0]) z0=some (.lst [V.int 0]):=aB;generalize upd H2 z0 _=H3 at u2 e2|-;refine⟨_,rfl,_,_,rfl,rfl,_,rfl,2^m-1,c,(by show [V.int (((2^m:Nat):Int)-1),V.int c]=_;rw[show((2^m-1:Nat):Int)=((2^m:Nat):Int)-1 by lia]),by lia,fun l2 rs H4 hrs hl2 s4 h4=>?_⟩;refine⟨z0,l2,_,_,rfl,rfl,aX.of (s4 _ _ e2),aX.of h4,by rw[qAc];exact qCe (show 1+rs.length<=64 by lia) (by decide),fun l3 hl3=>?_⟩;have u5:=aJ.aI (o:=.lst ([V.int 0]++rs.map V.int)) hl3;have e5:upd H4 l3 (.lst ([V.int 0]++rs.map V.int)) l3=some (.lst ((0::rs).map V.int)):=aB;generalize upd H4 l3 _=H5 at u5 e5|-;have s15:=s1.trans (u1.trans (u2.trans (s4.trans u5)));exact⟨jS,fun l hl=>kk l _ _ (s15.free hl) (s15.trans (.aI hl)) aB ⟨l3,rs,rfl,aJ.aI hl _ _ e5,by show rs.length+1=_;lia⟩⟩
  have n3:=tD h;dsimp only[cF];refine⟨_,rfl,_,rfl,m,c,rfl,m6,c0,fun lp bs H2 hlp s2 h2 ok=>?_⟩;dsimp only[bH];have s12:=s1.trans s2;refine⟨_,rfl,rfl,_,rfl,bN (fun h=>?_) (fun h=>?_)⟩
  ·obtain rfl:k=6:=by have:=rH h;lia
   obtain⟨qs,a2,wq⟩:=ok.pw;have b15:=ok.2.2;have hbl:bs.length=qs.length:=a2.len;refine f9 (σ':=[some (.int 6),some (.int (m:Int)),some (.int c),some (.ref ln),none,some (.ref lp)]) rfl ?_;refine⟨_,rfl,lp,rfl,⟨_,aX.of h2⟩,?_⟩;refine sM (xs:=bs.map V.ref) (fun σ'=>∃o0 o1 o2:Option V,σ'=[o0,o1,o2]) (fun i y H=>∃(b:Addr) (p:P3),y = .ref b/\qs[i]?=some p/\fD H b (v8 p)) (fun i y H H' t ⟨b,p,e1,e2,e3⟩=>⟨b,p,e1,e2,e3.keep t⟩) ⟨_,_,_,rfl⟩ (aX.of h2) (by rw[qAc];exact qBd (aW (by lia))) (fun i x σ1 H2 kk kk0 hσ s2 hx g1=>?_) fun lr ys H3 hlr s3 hyl hyR hr3=>?_
   ·obtain⟨o0,o1,o2,rfl⟩:=hσ;obtain⟨b,e,rfl⟩:=at_of hx;obtain⟨q,hq',r⟩:=a2.JF i b e;refine⟨b,_,rfl,dU.of (s2 _ _ r),rfl,_,_,rfl,_,_,rfl,_,_,rfl,rfl,?_⟩;exact⟨_,rfl,_,rfl,_,rfl,_,rfl,wF,fun tt htt=>g1 _ _ _ ⟨_,_,_,rfl⟩ (.aI htt) ⟨tt,q,rfl,hq',aB⟩⟩
   rw[qAc,hbl] at hyl;obtain⟨cr,rfl,a3⟩:=A2.BN hyl hyR;have h1':=(s2.trans s3) _ _ h1;dsimp only;refine⟨_,rfl,ln,rfl,⟨_,aX.of h1'⟩,?_⟩;refine eJ (xs:=ns.map V.int) (fun _ x=>match x with | .int n=>some (.int (if n<0 then -n else n)) | _=>none) (aX.of h1') (by rw[qAc,hns];exact qBd (aW (by lia))) (fun i x H2 kk kk0 s2 hx g1 g2=>?_) fun lc H4 hlc s4 hd=>?_
   ·obtain⟨n,_,rfl⟩:=List.mem_map.mp (qBe hx);exact⟨_,rfl,_,rfl,g1 _ rfl _ (.refl _)⟩
   obtain⟨cs,csL,cs0,ec⟩:∃cs:List Int,cs.length=m/\(∀c∈cs,0<=c)/\H4 lc=some (.lst (cs.map V.int)):=by
    refine⟨ns.map fun n=>if n<0 then -n else n,by rw[qAc];exact hns,fun n hn=>?_,?_⟩
    ·obtain⟨y,hy,rfl⟩:=List.mem_map.mp hn;lia
    ·rw[hd,fJ,qCs,qCg,<- qDu];rfl
   have s14:=s12.trans (s3.trans s4);refine⟨_,rfl,tF,fun l hl=>?_⟩;have u:=aJ.aI (o:=.lst [V.ref lc,V.ref lr]) hl;have a5:A2 (fD (upd H4 l (.lst [V.ref lc,V.ref lr]))) cr (qs.map v8):=a3.imp fun _ _ z=>z.keep (s4.trans u).t;refine kk l _ _ (s14.free hl) (s14.trans u) aB ⟨lc,lr,cs,cr,rfl,u _ _ ec,csL,cs0,u _ _ (s4 _ _ hr3),bV.JG (ok.same fun b _ o e=>s3 b o e) (a2.imp fun _ _ z=>z.keep s3.t) a3 (s4.trans u).t,fun a ha r hr=>?_⟩;obtain⟨p,hp,z⟩:=a5.mem.1 a ha;obtain⟨y,hy,rfl⟩:=List.mem_map.mp hp;rw[hr.eq z];show 0<=(if y.2.2<0 then -y.2.2 else y.2.2);lia
  have n6:=tD h;dsimp only[cF];refine⟨_,rfl,_,rfl,tF,fun l hl=>?_⟩;have u:=aJ.aI (o:=.lst [V.int (m:Int),V.ref lp]) hl;refine kk l _ _ (s12.free hl) (s12.trans u) aB ?_;have ok':bV m (upd H2 l (.lst [V.int (m:Int),V.ref lp])) bs:=ok.same fun b _ o e=>u b o e;obtain rfl | rfl:k=4\/k=5:=by lia
  ·exact⟨lp,bs,rfl,u _ _ h2,ok'⟩
  ·exact⟨lp,bs,rfl,u _ _ h2,ok'⟩
theorem bM{H:Hp}{q x dx:Addr}{o u v:HO}(hq:H q=some o)(hx:H x=none)(hd:H dx=none):upd (upd H dx u) x v q=some o:=by
 rw[aM (a9 hq hx),aM (a9 hq hd)];exact hq
theorem oJ{H:Hp}{l x dx:Addr}{u v:HO}(ne:dx≠x)(hl:upd (upd H dx u) x v l=none):H l=none:=by
 have nl:l≠x:=fun z=>by rw[z,aB] at hl;cases hl
 have nd:l≠dx:=fun z=>by rw[z,aM ne,aB] at hl;cases hl
 rw[aM nl,aM nd] at hl;exact hl
theorem ES{H:Hp}{q:Addr}{ns:List Int}{x dx:Addr}{R:VK}{E:XK}(hx:H x=none)(hd:H dx=none)(ne:dx≠x)(hq:H q=some (.lst (ns.map V.int)))(h1:1<=ns.length)(h6:ns.length<=6)
  (k:∀l H',H l=none->aJ H H'->H' x=some (.ins OW dx [("many",.int (ns.length:Int)),("numbers",.ref l)])->H' l=some (.lst (ns.map V.int))->R .non H') :
  AJ K NL OW [.ref x,.ref q] (upd (upd H dx (.own x)) x (.ins OW dx [])) R E:=by
 refine⟨x,dx,q,_,rfl,aB,bM hq hx hd,cD,by rw[qAc];lia,fun no=>?_,fun _ l H' hl sb e1 e2=>?_⟩
 ·unfold okN at no;rw[qAc,decide_eq_true h1,decide_eq_true h6,all_ints] at no;cases no
 ·rw[qAc] at e1;exact k l H' (oJ ne hl) (sb.made hx hd ne) e1 e2
theorem Ba{ns:List Int}{m:Nat}(hn:(0::ns).length=2^m)(h1:1<=m)(h6:m<=6):eM ((0::ns).map V.int)=true:=by
 unfold eM;rw[all_ints,qAc,hn];have:∀m:_root_.Fin 7,1<=m.1->[2,4,8,16,32,64].contains (2^m.1)=true:=by decide
 rw[this ⟨m,by lia⟩ h1];rfl
theorem y6{H:Hp}{q:Addr}{ns:List Int}{m:Nat}{x dx:Addr}{R:VK}{E:XK}(hx:H x=none)(hd:H dx=none)(ne:dx≠x)(hq:H q=some (.lst ((0::ns).map V.int)))(hn:(0::ns).length=2^m)(h1:1<=m)(h6:m<=6)
  (k:∀l H',H l=none->aJ H H'->H' x=some (.ins PL dx [("many",.int (m:Int)),("earnings",.ref l)])->H' l=some (.lst ((0::ns).map V.int))->R .non H') :
  AM K NT PL [.ref x,.ref q] (upd (upd H dx (.own x)) x (.ins PL dx [])) R E:=by
 have h64:=yJ h6;have ok:=Ba hn h1 h6;refine⟨x,dx,q,_,rfl,aB,bM hq hx hd,cD,by rw[qAc];lia,fun no=>?_,fun _ m' l H' m1 m6 hm' hl sb e1 e2=>?_⟩
 ·rw[ok] at no;cases no
 ·have em:m'=m:=by
   rw[qAc,hn] at hm';have inj:∀a b:_root_.Fin 7,2^a.1=2^b.1->b.1=a.1:=by decide
   exact inj ⟨m,by lia⟩ ⟨m',by lia⟩ hm'
  subst em;exact k l H' (oJ ne hl) (sb.made hx hd ne) e1 e2
theorem Bb(c:vB K RU)(n:cI K RU "many"){H:Hp}{m:Nat}{x dx:Addr}{R:VK}{E:XK}(hx:H x=none)(hd:H dx=none)(ne:dx≠x)(h1:1<=m)(h6:m<=6)
  (k:∀H',aJ H H'->H' x=some (.ins RU dx [("many",.int (m:Int))])->R .non H') :
  lX K NL [.ref x,.int (m:Int)] (upd (upd H dx (.own x)) x (.ins RU dx [])) R E:=by
 have ok:gD 1 6 (.int (m:Int))=true:=by rw[fQ,decide_eq_true h1,decide_eq_true h6];rfl
 refine⟨x,RU,dx,_,rfl,aB,c.cl,n,.int _,fun no=>?_,fun _=>?_⟩
 ·rw[ok] at no;cases no
 ·refine k _ (SameBut.made hx hd ne (((aJ.refl _).but x).gJ _)) aB
theorem y8{H:Hp}{p:Addr}{q pz:Int}{ws:List Int}{x dx:Addr}{R:VK}{E:XK}(hx:H x=none)(hd:H dx=none)(ne:dx≠x)(hp:H p=some (.lst (ws.map V.int)))(hq:1<=q)(h1:1<=ws.length)(h6:ws.length<=6)
  (k:∀(l:Addr) (H':Hp),H l=none->aJ H H'->H' x=some (.ins VO dx [("many",.int (ws.length:Int)),("quota",.int q),("prize",.int pz),("weights",.ref l)])->H' l=some (.lst (ws.map V.int))->R .non H') :
  AN K NL VO [.ref x,.int q,.int pz,.ref p] (upd (upd H dx (.own x)) x (.ins VO dx [])) R E:=by
 refine⟨x,dx,p,_,_,_,rfl,aB,.int _,.int _,bM hp hx hd,cD,by rw[qAc];lia,fun no=>?_,fun _ l H' hl sb e1 e2=>?_⟩
 ·have ok:lC (.int q) (.int pz) (ws.map V.int)=true:=by
   unfold lC okN;rw[qAc,all_ints,decide_eq_true h1,decide_eq_true h6];show decide (1<=q)=true;exact decide_eq_true hq
  rw[ok] at no;cases no
 ·rw[qAc] at e1;exact k l H' (oJ ne hl) (sb.made hx hd ne) e1 e2
theorem y9{H:Hp}{q:Addr}{m:Nat}{bs:List Addr}{x dx:Addr}{R:VK}{E:XK}(hx:H x=none)(hd:H dx=none)(ne:dx≠x)(hq:H q=some (.lst (bs.map V.ref)))(ok:bV m H bs)(h1:1<=m)(h6:m<=6)
  (k:∀(l:Addr) (cs:List Addr) (H':Hp),H l=none->cs.Perm bs->aJ H H'->H' x=some (.ins PA dx [("many",.int (m:Int)),("pairs",.ref l)])->H' l=some (.lst (cs.map V.ref))->R .non H') :
  t4 K NL PA [.ref x,.int (m:Int),.ref q] (upd (upd H dx (.own x)) x (.ins PA dx [])) R E:=by
 have ok':bV m (upd (upd H dx (.own x)) x (.ins PA dx [])) bs:=ok.same fun b _ o e=>bM e hx hd;have i16:gD 1 6 (.int (m:Int))=true:=by rw[fQ,decide_eq_true h1,decide_eq_true h6];rfl
 refine⟨x,dx,q,_,bs,rfl,aB,.int _,bM hq hx hd,ok'.eT,by have:=ok.2.2;lia,fun no=>?_,fun m' e _=>⟨fun no=>?_,fun _ l cs H' hl p sb e1 e2=>?_⟩⟩
 ·rw[i16] at no;cases no
 ·have e:=V.int.inj e;subst e;rw[ok'.ok] at no;cases no
 ·have nl:l≠x:=fun z=>by rw[z,aB] at hl;cases hl
  have nd:l≠dx:=fun z=>by rw[z,aM ne,aB] at hl;cases hl
  rw[aM nl,aM nd] at hl;exact k l cs H' hl p (sb.made hx hd ne) e1 e2
theorem cR{H:Hp}{x dx:Addr}{u v:HO}(hx:H x=none)(hd:H dx=none):aJ H (upd (upd H dx u) x v):=fun _ _ e=>bM e hx hd
theorem zA{H:Hp}{q:Addr}{m:Nat}{as:List Addr}{x dx:Addr}{R:VK}{E:XK}(hx:H x=none)(hd:H dx=none)(ne:dx≠x)(hq:H q=some (.lst (as.map V.ref)))(ok:bV m H as)(h1:1<=m)(h6:m<=6)
  (k:∀(lb:Addr) (ps:List P3) (H':Hp),aJ H H'->sX MA H' x lb m ps->R .non H'):AO K NL MA [.ref x,.int (m:Int),.ref q] (upd (upd H dx (.own x)) x (.ins MA dx [])) R E:=by
 have ok':bV m (upd (upd H dx (.own x)) x (.ins MA dx [])) as:=ok.same fun b _ o e=>bM e hx hd;exact⟨x,dx,q,_,as,rfl,aB,.int _,bM hq hx hd,ok'.eT,by have:=ok.2.2;lia,.inr ⟨m,rfl,h1,h6,.inr ⟨ok',fun lb ps H' _ sb mo=>k lb ps H' (sb.made hx hd ne) mo⟩⟩⟩
theorem ET{H:Hp}{p q:Addr}{cs:List Int}{as:List Addr}{x dx:Addr}{R:VK}{E:XK}(hx:H x=none)(hd:H dx=none)(ne:dx≠x)(hp:H p=some (.lst (cs.map V.int)))(c1:1<=cs.length)(c6:cs.length<=6)(c0:∀c∈cs,0<=c)(hq:H q=some (.lst (as.map V.ref)))(ok:bV cs.length H as)(r0:∀a∈as,∀r,fD H a r->0<=r.2.2)
  (k:∀(l lr:Addr) (rs:List P3) (H':Hp),aJ H H'->qZ NE H' x l lr cs rs->R .non H'):AX K NL NE [.ref x,.ref p,.ref q] (upd (upd H dx (.own x)) x (.ins NE dx [])) R E:=by
 have ok':bV cs.length (upd (upd H dx (.own x)) x (.ins NE dx [])) as:=ok.same fun b _ o e=>bM e hx hd;refine⟨x,dx,p,q,_,as,rfl,aB,bM hp hx hd,cD,by rw[qAc];lia,bM hq hx hd,ok'.eT,by have:=ok.2.2;lia,.inr ⟨cs,rfl,c1,c6,c0,.inr ⟨ok',.inr ⟨fun a ha r hr=>?_,fun l lr rs H' _ _ sb no=>k l lr rs H' (sb.made hx hd ne) no⟩⟩⟩⟩;obtain⟨u,v,n,e,_⟩:=ok.1 a ha;have e':fD _ a (u,v,n):=bM (u:=.own x) (v:=.ins NE dx []) e hx hd;rw[hr.eq e'];exact r0 a ha (u,v,n) e
theorem dF{H H':Hp}{as:List Addr}(h:fA K H as)(s:aJ H H'):fA K H' as:=fun a ha =>
 let ⟨xs,h1,h2,h3⟩:=h a ha;⟨xs,s _ _ h1,fun v hv=>(h2 v hv).same s,h3⟩
theorem Bc(c:vB K RU)(n:cI K RU "many"){H:Hp}{v:V}{x dx:Addr}{R:VK}{E:XK}(hx:H x=none)(hd:H dx=none)(pl:Pl K H v)(no:gD 1 6 v=false)(kE:∀H',aJ H H'->E (.ref NL) none H'):lX K NL [.ref x,v] (upd (upd H dx (.own x)) x (.ins RU dx [])) R E :=
 ⟨x,RU,dx,v,rfl,aB,c.cl,n,pl.same (cR hx hd),fun _=>kE _ (cR hx hd),fun yes=>by rw[no] at yes;cases yes⟩
theorem EU{H:Hp}{q:Addr}{xs:List V}{x dx:Addr}{R:VK}{E:XK}(hx:H x=none)(hd:H dx=none)(ne:dx≠x)(hq:H q=some (.lst xs))(pl:∀v∈xs,Pl K H v)(hl:xs.length<=1000)(no:okN xs=false)(kE:∀H',aJ H H'->E (.ref NL) none H'):AJ K NL OW [.ref x,.ref q] (upd (upd H dx (.own x)) x (.ins OW dx [])) R E :=
 ⟨x,dx,q,xs,rfl,aB,bM hq hx hd,fun v hv=>(pl v hv).same (cR hx hd),hl,fun _ H' sb=>kE H' (sb.made hx hd ne),fun yes=>by rw[no] at yes;cases yes⟩
theorem zB{H:Hp}{q:Addr}{c z:V}{xs:List V}{x dx:Addr}{R:VK}{E:XK}(hx:H x=none)(hd:H dx=none)(ne:dx≠x)(pc:Pl K H c)(pz:Pl K H z)(hq:H q=some (.lst xs))(pl:∀v∈xs,Pl K H v)(hl:xs.length<=1000)(no:lC c z xs=false)(kE:∀H',aJ H H'->E (.ref NL) none H'):AN K NL VO [.ref x,c,z,.ref q] (upd (upd H dx (.own x)) x (.ins VO dx [])) R E :=
 ⟨x,dx,q,c,z,xs,rfl,aB,pc.same (cR hx hd),pz.same (cR hx hd),bM hq hx hd,fun v hv=>(pl v hv).same (cR hx hd),hl,fun _ H' sb=>kE H' (sb.made hx hd ne),fun yes=>by rw[no] at yes;cases yes⟩
theorem zC{H:Hp}{q:Addr}{xs:List V}{x dx:Addr}{R:VK}{E:XK}(hx:H x=none)(hd:H dx=none)(ne:dx≠x)(hq:H q=some (.lst xs))(pl:∀v∈xs,Pl K H v)(hl:xs.length<=1000)(no:eM xs=false)(kE:∀H',aJ H H'->E (.ref NT) none H'):AM K NT PL [.ref x,.ref q] (upd (upd H dx (.own x)) x (.ins PL dx [])) R E :=
 ⟨x,dx,q,xs,rfl,aB,bM hq hx hd,fun v hv=>(pl v hv).same (cR hx hd),hl,fun _ H' sb=>kE H' (sb.made hx hd ne),fun yes=>by rw[no] at yes;cases yes⟩
theorem zD{H:Hp}{q:Addr}{v:V}{as:List Addr}{x dx:Addr}{R:VK}{E:XK}(hx:H x=none)(hd:H dx=none)(ne:dx≠x)(pv:Pl K H v)(hq:H q=some (.lst (as.map V.ref)))(ht:fA K H as)(h64:as.length<64)(no:gD 1 6 v=false\/∃m:Nat,v = .int (m:Int)/\1<=m/\m<=6/\fB (m:Int) (as.map (bT H))=false)(kE:∀H',aJ H H'->E (.ref NL) none H'):t4 K NL PA [.ref x,v,.ref q] (upd (upd H dx (.own x)) x (.ins PA dx [])) R E:=by
 have s:=cR (u:=.own x) (v:=.ins PA dx []) hx hd;refine⟨x,dx,q,v,as,rfl,aB,pv.same s,bM hq hx hd,dF ht s,h64,fun _ H' sb=>kE H' (sb.made hx hd ne),fun m e yes=>⟨fun _ H' sb=>kE H' (sb.made hx hd ne),fun ok=>?_⟩⟩;rw[ht.eq fun a xs e=>bM e hx hd] at ok;rcases no with no | ⟨m',e',m1,m6,no⟩
 ·rw[no] at yes;cases yes
 ·have z:(m':Int)=m:=V.int.inj (e'.symm.trans e);rw[z,ok] at no;cases no
theorem zE{H:Hp}{q:Addr}{v:V}{as:List Addr}{x dx:Addr}{R:VK}{E:XK}(hx:H x=none)(hd:H dx=none)(ne:dx≠x)(pv:Pl K H v)(hq:H q=some (.lst (as.map V.ref)))(ht:fA K H as)(h64:as.length<64)(no:gD 1 6 v=false\/∃m:Nat,v = .int (m:Int)/\1<=m/\m<=6/\fB (m:Int) (as.map (bT H))=false)(kE:∀H',aJ H H'->E (.ref NL) none H'):AO K NL MA [.ref x,v,.ref q] (upd (upd H dx (.own x)) x (.ins MA dx [])) R E:=by
 have s:=cR (u:=.own x) (v:=.ins MA dx []) hx hd;refine⟨x,dx,q,v,as,rfl,aB,pv.same s,bM hq hx hd,dF ht s,h64,?_⟩;rcases no with no | ⟨m,e,m1,m6,no⟩
 ·exact .inl ⟨no,fun H' sb=>kE H' (sb.made hx hd ne)⟩
 ·exact .inr ⟨m,e,m1,m6,.inl ⟨by rw[ht.eq fun a xs e=>bM e hx hd];exact no,fun H' sb=>kE H' (sb.made hx hd ne)⟩⟩
theorem EV{H:Hp}{p q:Addr}{xs:List V}{as:List Addr}{x dx:Addr}{R:VK}{E:XK}(hx:H x=none)(hd:H dx=none)(ne:dx≠x)(hp:H p=some (.lst xs))(pl:∀v∈xs,Pl K H v)(hl:xs.length<=1000)(hq:H q=some (.lst (as.map V.ref)))(ht:fA K H as)(h64:as.length<64)(no:(okN xs&&t9 xs)=false\/∃cs:List Int,xs=cs.map V.int/\1<=cs.length/\cs.length<=6/\(∀c∈cs,0<=c)/\(fB (cs.length:Int) (as.map (bT H))=false\/bV cs.length H as/\∃a∈as,∃r,fD H a r/\r.2.2<0))(kE:∀H',aJ H H'->E (.ref NL) none H'):AX K NL NE [.ref x,.ref p,.ref q] (upd (upd H dx (.own x)) x (.ins NE dx [])) R E:=by
 have s:=cR (u:=.own x) (v:=.ins NE dx []) hx hd;refine⟨x,dx,p,q,xs,as,rfl,aB,bM hp hx hd,fun v hv=>(pl v hv).same s,hl,bM hq hx hd,dF ht s,h64,?_⟩;rcases no with no | ⟨cs,e,c1,c6,c0,no | ⟨ok,a,ha,r,pr,r0⟩⟩
 ·exact .inl ⟨no,fun H' sb=>kE H' (sb.made hx hd ne)⟩
 ·exact .inr ⟨cs,e,c1,c6,c0,.inl ⟨by rw[ht.eq fun a xs e=>bM e hx hd];exact no,fun H' sb=>kE H' (sb.made hx hd ne)⟩⟩
 ·exact .inr ⟨cs,e,c1,c6,c0,.inr ⟨ok.same fun b _ o e=>bM e hx hd,.inl ⟨⟨a,ha,r,bM pr hx hd,r0⟩,fun H' sb=>kE H' (sb.made hx hd ne)⟩⟩⟩
theorem zF(ns:List Int):sR ns 0=0:=by
 unfold sR;generalize ns.length=n;induction n with
 | zero=>rfl
 | succ n ih =>
  show(if 0/2^n%2=1 then kT ns 0 n+ns.getD n 0 else kT ns 0 n)=0;rw[qKi,if_neg (by decide)];exact ih
theorem EW{q pz:Int}{ws:List Int}(h:1<=q):yS q pz ws 0=0:=by
 unfold yS;rw[zF,if_neg (by lia)]
theorem EX(H:Hp)(bs:List Addr):sV H bs 0=0:=by
 unfold sV;have e:bs.filterMap (fun b=>pNum (fM H b) 0)=[]:=by
  refine List.filterMap_eq_nil_iff.mpr fun b _=>?_;unfold pNum both;rw[qKi];rfl
 rw[e];rfl
theorem Bd(ps:List P3):(bR ps 0).1=0:=rfl
theorem Be(cs:List Int)(rs:List P3):gainN cs rs 0=0:=by
 unfold gainN;rw[uD (L:=[]) .stop];rfl
def kc(RU OW VO PL PA MA NE:Addr)(k:Nat):Addr:=match k with
 | 0=>RU
 | 1=>OW
 | 2=>VO
 | 3=>PL
 | 4=>PA
 | 5=>MA
 | _=>NE
def Made(P:qBf)(w:qCc)(K:qAa)(mg:Str->Option qAf)(base:Heap)(fE fH RU OW VO PL PA MA NE:Addr)(H:Hp)(k:Nat)(x:Addr)(m:Nat):Prop:=∃(dx:Addr) (fs:List (Str×V)) (e:Nat->Int),H x=some (.ins (kc RU OW VO PL PA MA NE k) dx fs)/\jY P w K mg base fE fH RU H x m e/\e 0=0
def oK(K:qAa)(H:Hp)(k:Nat)(ps:List V):Prop:=match k with
 | 0=>∃v,ps=[v]/\Pl K H v/\gD 1 6 v=false
 | 1=>∃(q:Addr) (xs:List V),ps=[.ref q]/\H q=some (.lst xs)/\(∀v∈xs,Pl K H v)/\xs.length<=1000/\okN xs=false
 | 2=>∃(q:Addr) (c z:V) (xs:List V),ps=[c,z,.ref q]/\Pl K H c/\Pl K H z/\H q=some (.lst xs)/\(∀v∈xs,Pl K H v)/\xs.length<=1000/\lC c z xs=false
 | 3=>∃(q:Addr) (xs:List V),ps=[.ref q]/\H q=some (.lst xs)/\(∀v∈xs,Pl K H v)/\xs.length<=1000/\eM xs=false
 | 4=>∃(q:Addr) (v:V) (as:List Addr),ps=[v,.ref q]/\Pl K H v/\H q=some (.lst (as.map V.ref))/\fA K H as/\as.length<64/\(gD 1 6 v=false\/∃m:Nat,v = .int (m:Int)/\1<=m/\m<=6/\fB (m:Int) (as.map (bT H))=false)
 | 5=>∃(q:Addr) (v:V) (as:List Addr),ps=[v,.ref q]/\Pl K H v/\H q=some (.lst (as.map V.ref))/\fA K H as/\as.length<64/\(gD 1 6 v=false\/∃m:Nat,v = .int (m:Int)/\1<=m/\m<=6/\fB (m:Int) (as.map (bT H))=false)
 | _=>∃(p q:Addr) (xs:List V) (as:List Addr),ps=[.ref p,.ref q]/\H p=some (.lst xs)/\(∀v∈xs,Pl K H v)/\xs.length<=1000/\H q=some (.lst (as.map V.ref))/\fA K H as/\as.length<64/\((okN xs&&t9 xs)=false\/∃cs:List Int,xs=cs.map V.int/\1<=cs.length/\cs.length<=6/\(∀c∈cs,0<=c)/\(fB (cs.length:Int) (as.map (bT H))=false\/bV cs.length H as/\∃a∈as,∃r,fD H a r/\r.2.2<0))
def uE(P:qBf)(w:qCc)(K:qAa)(mg:Str->Option qAf)(base:Heap)(fE fH RU OW VO PL PA MA NE NL NT:Addr):Sp:=fun vs H Q E=>∃(l:Addr) (k:Nat) (ps:List V),vs=[.int (k:Int),.ref l]/\k<7/\H l=some (.lst ps) /\
 ((oK K H k ps/\∀H',aJ H H'->E (.ref (if k=3 then NT else NL)) none H')\/∃m:Nat,1<=m/\m<=6/\fV H k m ps/\∀x H',aJ H H'->Made P w K mg base fE fH RU OW VO PL PA MA NE H' k x m->Q (.ref x) H')
theorem Ig:aL ["_law_kind","_law_parts"] ["_law_kind","_law_parts"] (aH Du):=by constructor<;>first|rfl|decide +kernel
theorem EY(t:Tx K mg "_law_rule" Du ["_law_kind","_law_parts"] f fd)(T:T K mg AL LN RU OW PL PA VO MA NE fE fH rR rO rP rA rV rM rN iR iO iP iA iV iM iN fL SE NG NN NO NR NL NS NT NX NV TM UL)
  (D_RI:Md P w K mg base 4 ["self","many"] (lX K NL) iR) (D_OI:Md P w K mg base 5 ["self","numbers"] (AJ K NL OW) iO) (D_PI:Md P w K mg base 5 ["self","table"] (AM K NT PL) iP)
  (D_PaI:Md P w K mg base 5 ["self","many","pairs"] (t4 K NL PA) iA) (D_VI:Md P w K mg base 5 ["self","quota","prize","weights"] (AN K NL VO) iV)
  (D_MI:Md P w K mg base 7 ["self","many","pairs"] (AO K NL MA) iM) (D_NI:Md P w K mg base 5 ["self","costs","ropes"] (AX K NL NE) iN)
  (D_RR:Md P w K mg base 1 ["self","group"] Ei rR) (D_OR:Md P w K mg base 6 ["self","group"] (Ek OW) rO) (D_VR:Md P w K mg base 6 ["self","group"] (Eo VO) rV) (D_PR:Md P w K mg base 1 ["self","group"] (El PL) rP) (D_PaR:Md P w K mg base 2 ["self","group"] (yR PA) rA) (D_MR:Md P w K mg base 1 ["self","group"] (Er MA) rM) (D_NRk:Md P w K mg base 5 ["self","group"] (yY NE) rN) :
  Df P w K mg base (gB P w) 9 "_law_rule" ["_law_kind","_law_parts"] (uE P w K mg base fE fH RU OW VO PL PA MA NE NL NT) f fd:=by
 refine t.Ao Ig (fun vs H Q E h=>?_) (fun cdv A outer s H vs Q E hr h=>?_)
 ·obtain⟨l,k,ps,rfl,_⟩:=h;rfl
 ·obtain⟨l,k,ps,rfl,k7,hl,kk⟩:=h;refine⟨_,(aE (bC (aO bJ (pv 0) aC (aS _)) (aG (aN (eX aV.toPass T.Ko D_RI hr (by decide) (by rfl) T.wC (aA (aY aU (pv 1) aC (fun _ _=>rfl)) aD)))) aQ)
   (aE (bC (aO bJ (pv 0) aC (aS _)) (aG (aN (eX aV.toPass T.Kp D_OI hr (by decide) (by rfl) T.FG (aA (aY aU (pv 1) aC (fun _ _=>rfl)) aD)))) aQ)
   (aE (bC (aO bJ (pv 0) aC (aS _)) (aG (aN (eX aV.toPass T.Ks D_VI hr (by decide) (by rfl) T.FJ (aA (aY aU (pv 1) aC (fun _ _=>rfl)) (aA (aY aU (pv 1) aC (fun _ _=>rfl)) (aA (aY aU (pv 1) aC (fun _ _=>rfl)) aD)))))) aQ)
   (aE (bC (aO bJ (pv 0) aC (aS _)) (aG (aN (eX aV.toPass T.Kq D_PI hr (by decide) (by rfl) T.FH (aA (aY aU (pv 1) aC (fun _ _=>rfl)) aD)))) aQ)
   (aE (bC (aO bJ (pv 0) aC (aS _)) (aG (aN (eX aV.toPass T.Kr D_PaI hr (by decide) (by rfl) T.FI (aA (aY aU (pv 1) aC (fun _ _=>rfl)) (aA (aY aU (pv 1) aC (fun _ _=>rfl)) aD))))) aQ)
   (aE (bC (aO bJ (pv 0) aC (aS _)) (aG (aN (eX aV.toPass T.Kt D_MI hr (by decide) (by rfl) T.FK (aA (aY aU (pv 1) aC (fun _ _=>rfl)) (aA (aY aU (pv 1) aC (fun _ _=>rfl)) aD))))) aQ)
   (aG (aN (eX aV.toPass T.Ku D_NI hr (by decide) (by rfl) T.FL (aA (aY aU (pv 1) aC (fun _ _=>rfl)) (aA (aY aU (pv 1) aC (fun _ _=>rfl)) aD))))))))))),?_⟩
  refine⟨_,rfl,rfl,_,rfl,bN (fun h=>?_) (fun h=>?_)⟩
  ·obtain rfl:k=0:=by have:=rH h;lia
   rcases kk with ⟨⟨v,rfl,pl,no⟩,kE⟩ | ⟨m,m1,m6,rfl,kQ⟩
   ·exact⟨_,rfl,l,_,_,_,rfl,rfl,aX.of hl,rfl,fun x dx hx hd ne=>Bc T.DO.oc T.DO.nm hx hd pl no kE⟩
   ·exact⟨_,rfl,l,_,_,_,rfl,rfl,aX.of hl,rfl,fun x dx hx hd ne=>Bb T.DO.oc T.DO.nm hx hd ne m1 m6 fun H1 s1 i1=>⟨rfl,kQ x H1 s1 ⟨dx,_,_,i1,yQ D_RR T.DO i1 m1 m6,rfl⟩⟩⟩
  have n0:=tD h;dsimp only[cF];refine⟨_,rfl,rfl,_,rfl,bN (fun h=>?_) (fun h=>?_)⟩
  ·obtain rfl:k=1:=by have:=rH h;lia
   rcases kk with ⟨⟨q,xs,rfl,hq,pl,hx1,no⟩,kE⟩ | ⟨m,m1,m6,⟨q,ns,rfl,hq,hns⟩,kQ⟩
   ·exact⟨_,rfl,l,_,_,_,rfl,rfl,aX.of hl,rfl,fun x dx hx hd ne=>EU hx hd ne hq pl hx1 no kE⟩
   ·subst hns;exact⟨_,rfl,l,_,_,_,rfl,rfl,aX.of hl,rfl,fun x dx hx hd ne=>ES hx hd ne hq m1 m6 fun l1 H1 _ s1 i1 j1=>⟨rfl,kQ x H1 s1 ⟨dx,_,_,i1,AK D_OR T.DP i1 j1 m1 m6,zF ns⟩⟩⟩
  have n1:=tD h;dsimp only[cF];refine⟨_,rfl,rfl,_,rfl,bN (fun h=>?_) (fun h=>?_)⟩
  ·obtain rfl:k=2:=by have:=rH h;lia
   rcases kk with ⟨⟨q,c,z,xs,rfl,pc,pz,hq,pl,hx1,no⟩,kE⟩ | ⟨m,m1,m6,⟨q,c,z,ns,rfl,hq,hns,hc⟩,kQ⟩
   ·exact⟨_,rfl,l,_,_,_,rfl,rfl,aX.of hl,rfl,_,rfl,l,_,_,_,rfl,rfl,aX.of hl,bA (j:=1) rfl,_,rfl,l,_,_,_,rfl,rfl,aX.of hl,bA (j:=2) rfl,fun x dx hx hd ne=>zB hx hd ne pc pz hq pl hx1 no kE⟩
   ·subst hns;exact⟨_,rfl,l,_,_,_,rfl,rfl,aX.of hl,rfl,_,rfl,l,_,_,_,rfl,rfl,aX.of hl,bA (j:=1) rfl,_,rfl,l,_,_,_,rfl,rfl,aX.of hl,bA (j:=2) rfl,fun x dx hx hd ne=>y8 hx hd ne hq hc m1 m6 fun l1 H1 _ s1 i1 j1=>⟨rfl,kQ x H1 s1 ⟨dx,_,_,i1,vU D_VR T.yL i1 j1 m1 m6,EW hc⟩⟩⟩
  have n2:=tD h;dsimp only[cF];refine⟨_,rfl,rfl,_,rfl,bN (fun h=>?_) (fun h=>?_)⟩
  ·obtain rfl:k=3:=by have:=rH h;lia
   rcases kk with ⟨⟨q,xs,rfl,hq,pl,hx1,no⟩,kE⟩ | ⟨m,m1,m6,⟨q,ns,rfl,hq,hns⟩,kQ⟩
   ·exact⟨_,rfl,l,_,_,_,rfl,rfl,aX.of hl,rfl,fun x dx hx hd ne=>zC hx hd ne hq pl hx1 no kE⟩
   ·exact⟨_,rfl,l,_,_,_,rfl,rfl,aX.of hl,rfl,fun x dx hx hd ne=>y6 hx hd ne hq hns m1 m6 fun l1 H1 _ s1 i1 j1=>⟨rfl,kQ x H1 s1 ⟨dx,_,_,i1,vR D_PR T.DQ i1 j1 hns m1 m6,rfl⟩⟩⟩
  have n3:=tD h;dsimp only[cF];refine⟨_,rfl,rfl,_,rfl,bN (fun h=>?_) (fun h=>?_)⟩
  ·obtain rfl:k=4:=by have:=rH h;lia
   rcases kk with ⟨⟨q,v,as,rfl,pl,hq,ht,h64,no⟩,kE⟩ | ⟨m,m1,m6,⟨q,as,rfl,hq,ok⟩,kQ⟩
   ·exact⟨_,rfl,l,_,_,_,rfl,rfl,aX.of hl,rfl,_,rfl,l,_,_,_,rfl,rfl,aX.of hl,bA (j:=1) rfl,fun x dx hx hd ne=>zD hx hd ne pl hq ht h64 no kE⟩
   ·exact⟨_,rfl,l,_,_,_,rfl,rfl,aX.of hl,rfl,_,rfl,l,_,_,_,rfl,rfl,aX.of hl,bA (j:=1) rfl,fun x dx hx hd ne=>y9 hx hd ne hq ok m1 m6 fun l1 cs H1 _ pm s1 i1 j1=>⟨rfl,kQ x H1 s1 ⟨dx,_,_,i1,vT D_PaR T.DR i1 j1 (by rw[pm.length_eq];have:=ok.2.2;lia) (fun b hb=>((ok.pair m6) b (pm.mem_iff.mp hb)).same s1) m1 m6,EX H1 cs⟩⟩⟩
  have n4:=tD h;dsimp only[cF];refine⟨_,rfl,rfl,_,rfl,bN (fun h=>?_) (fun h=>?_)⟩
  ·obtain rfl:k=5:=by have:=rH h;lia
   rcases kk with ⟨⟨q,v,as,rfl,pl,hq,ht,h64,no⟩,kE⟩ | ⟨m,m1,m6,⟨q,as,rfl,hq,ok⟩,kQ⟩
   ·exact⟨_,rfl,l,_,_,_,rfl,rfl,aX.of hl,rfl,_,rfl,l,_,_,_,rfl,rfl,aX.of hl,bA (j:=1) rfl,fun x dx hx hd ne=>zE hx hd ne pl hq ht h64 no kE⟩
   ·exact⟨_,rfl,l,_,_,_,rfl,rfl,aX.of hl,rfl,_,rfl,l,_,_,_,rfl,rfl,aX.of hl,bA (j:=1) rfl,fun x dx hx hd ne=>zA hx hd ne hq ok m1 m6 fun lb ps H1 s1 mo=>⟨rfl,kQ x H1 s1 (let ⟨dz,l',ts,h1,_⟩:=mo;⟨dz,_,_,h1,vZ D_MR T.AD mo,Bd ps⟩)⟩⟩
  have n5:=tD h;dsimp only[cF];obtain rfl:k=6:=by lia
  rcases kk with ⟨⟨p,q,xs,as,rfl,hp,pl,hx1,hq,ht,h64,no⟩,kE⟩ | ⟨m,m1,m6,⟨p,q,cs,as,rfl,hp,hcs,c0,hq,ok,r0⟩,kQ⟩
  ·exact⟨_,rfl,l,_,_,_,rfl,rfl,aX.of hl,rfl,_,rfl,l,_,_,_,rfl,rfl,aX.of hl,bA (j:=1) rfl,fun x dx hx hd ne=>EV hx hd ne hp pl hx1 hq ht h64 no kE⟩
  ·subst hcs;exact⟨_,rfl,l,_,_,_,rfl,rfl,aX.of hl,rfl,_,rfl,l,_,_,_,rfl,rfl,aX.of hl,bA (j:=1) rfl,fun x dx hx hd ne=>ET hx hd ne hp m1 m6 c0 hq ok r0 fun l1 lr rs H1 s1 no=>⟨rfl,kQ x H1 s1 (let ⟨dz,bs,h1,_⟩:=no;⟨dz,_,_,h1,AY D_NRk T.vO no,Be cs rs⟩)⟩⟩
def g6(k:Nat):List Bool:=(qAy 7).map fun i=>decide (i=0)||decide (i=k)
def BP(RU OW VO PL PA MA NE:Addr):Sp:=fun vs H Q _=>∃(x dx:Addr) (fs:List (Str×V)) (k:Nat),vs=[.ref x]/\k<7/\H x=some (.ins (kc RU OW VO PL PA MA NE k) dx fs)/\∀(l:Addr) (H':Hp),H l=none->aJ H H'->H' l=some (.lst ((g6 k).map V.bl))->Q (.ref l) H'
theorem Ih(T:T K mg AL LN RU OW PL PA VO MA NE fE fH rR rO rP rA rV rM rN iR iO iP iA iV iM iN fL SE NG NN NO NR NL NS NT NX NV TM UL)(k:Nat):vB K (kc RU OW VO PL PA MA NE k):=by
 unfold kc;split
 ·exact T.DO.oc
 ·exact T.DP.oc
 ·exact T.yL.oc
 ·exact T.DQ.oc
 ·exact T.DR.oc
 ·exact T.AD.oc
 ·exact T.vO.oc
theorem Ii(T:T K mg AL LN RU OW PL PA VO MA NE fE fH rR rO rP rA rV rM rN iR iO iP iA iV iM iN fL SE NG NN NO NR NL NS NT NX NV TM UL):∀{k:Nat},k<7->qAb K (.ref (kc RU OW VO PL PA MA NE k)) (.ref RU)=some true/\qAb K (.ref (kc RU OW VO PL PA MA NE k)) (.ref OW)=some (decide (k=1))/\qAb K (.ref (kc RU OW VO PL PA MA NE k)) (.ref VO)=some (decide (k=2))/\qAb K (.ref (kc RU OW VO PL PA MA NE k)) (.ref PL)=some (decide (k=3))/\qAb K (.ref (kc RU OW VO PL PA MA NE k)) (.ref PA)=some (decide (k=4))/\qAb K (.ref (kc RU OW VO PL PA MA NE k)) (.ref MA)=some (decide (k=5))/\qAb K (.ref (kc RU OW VO PL PA MA NE k)) (.ref NE)=some (decide (k=6))
 | 0,_=>⟨T.DO.DM,T.pM,T.pN,T.pO,T.pP,T.pQ,T.pR⟩
 | 1,_=>⟨T.DP.DM,T.pS,T.pT,T.pU,T.pV,T.pW,T.pX⟩
 | 2,_=>⟨T.yL.DM,T.pY,T.pZ,T.p0,T.p3,T.p4,T.p5⟩
 | 3,_=>⟨T.DQ.DM,T.p6,T.p7,T.p8,T.p9,T.qA,T.qB⟩
 | 4,_=>⟨T.DR.DM,T.qC,T.qD,T.qE,T.qF,T.qG,T.qH⟩
 | 5,_=>⟨T.AD.DM,T.qI,T.qJ,T.qK,T.qL,T.qM,T.qN⟩
 | 6,_=>⟨T.vO.DM,T.qO,T.qP,T.qQ,T.qR,T.qS,T.qT⟩
 | k+7,h=>absurd h (by lia)
theorem zG:∀{k:Nat},k<7->g6 k=[true,decide (k=1),decide (k=2),decide (k=3),decide (k=4),decide (k=5),decide (k=6)]
 | 0,_=>by decide
 | 1,_=>by decide
 | 2,_=>by decide
 | 3,_=>by decide
 | 4,_=>by decide
 | 5,_=>by decide
 | 6,_=>by decide
 | k+7,h=>absurd h (by lia)
theorem BQ:aL ["_law_rule_here","_law_kinds_here"] ["_law_rule_here"] (aH Dv):=by constructor<;>first|rfl|decide +kernel
theorem EZ(t:Tx K mg "_law_kinds" Dv ["_law_rule_here"] f fd)(T:T K mg AL LN RU OW PL PA VO MA NE fE fH rR rO rP rA rV rM rN iR iO iP iA iV iM iN fL SE NG NN NO NR NL NS NT NX NV TM UL):Df P w K mg base cE 1 "_law_kinds" ["_law_rule_here"] (BP RU OW VO PL PA MA NE) f fd:=by
 refine t.iC BQ (fun vs H Q E h=>?_) (fun cdv A outer s H vs Q E hr h=>?_)
 ·obtain⟨x,dx,fs,k,rfl,_⟩:=h;rfl
 ·obtain⟨x,dx,fs,k,rfl,k7,hx,kk⟩:=h;refine⟨_,(aE (aZ (i:=1) BQ.nd rfl cP (bB (aA (aP cB (by rfl) T.cQ cJ (aA (pv 0) (aA (a8 (v:=.ref OW) (by rfl) T.FG rfl) aD))) (aA (aP cB (by rfl) T.cQ cJ (aA (pv 0) (aA (a8 (v:=.ref VO) (by rfl) T.FJ rfl) aD))) (aA (aP cB (by rfl) T.cQ cJ (aA (pv 0) (aA (a8 (v:=.ref PL) (by rfl) T.FH rfl) aD))) (aA (aP cB (by rfl) T.cQ cJ (aA (pv 0) (aA (a8 (v:=.ref PA) (by rfl) T.FI rfl) aD))) aD))))))
   (aG (aN (aK cC (aK cC (bB (aA (aP cB (by rfl) T.cQ cJ (aA (pv 0) (aA (a8 (v:=.ref RU) (by rfl) T.wC rfl) aD))) aD)) (pv 1)) (bB (aA (aP cB (by rfl) T.cQ cJ (aA (pv 0) (aA (a8 (v:=.ref MA) (by rfl) T.FK rfl) aD))) (aA (aP cB (by rfl) T.cQ cJ (aA (pv 0) (aA (a8 (v:=.ref NE) (by rfl) T.FL rfl) aD))) aD))))))),?_⟩
  obtain⟨q0,q1,q2,q3,q4,q5,q6⟩:=Ii T k7;have oc:=Ih T k;refine⟨_,rfl,.ref x,.ref OW,_,_,_,rfl,rfl,oc.ty hx,q1,_,rfl,.ref x,.ref VO,_,_,_,rfl,rfl,oc.ty hx,q2,_,rfl,.ref x,.ref PL,_,_,_,rfl,rfl,oc.ty hx,q3,_,rfl,.ref x,.ref PA,_,_,_,rfl,rfl,oc.ty hx,q4,by show 4<=qAg;decide,fun l1 hl1=>?_⟩;have u1:=aJ.aI (o:=.lst [V.bl (decide (k=1)),V.bl (decide (k=2)),V.bl (decide (k=3)),V.bl (decide (k=4))]) hl1;have e1:upd H l1 (.lst [V.bl (decide (k=1)),V.bl (decide (k=2)),V.bl (decide (k=3)),V.bl (decide (k=4))]) l1=some (.lst [V.bl (decide (k=1)),V.bl (decide (k=2)),V.bl (decide (k=3)),V.bl (decide (k=4))]):=aB;generalize upd H l1 _=H1 at u1 e1|-;dsimp only[bH];refine⟨_,rfl,.ref x,.ref RU,_,_,_,rfl,rfl,oc.ty (u1 _ _ hx),q0,jS,fun l2 hl2=>?_⟩;have u2:=aJ.aI (o:=.lst [V.bl true]) hl2;refine⟨_,rfl,l2,l1,_,_,rfl,rfl,aX.of aB,aX.of (u2 _ _ e1),by show 1+4<=qAg;decide,fun l3 hl3=>?_⟩;have u3:=u2.trans (aJ.aI (o:=.lst ([V.bl true]++[V.bl (decide (k=1)),V.bl (decide (k=2)),V.bl (decide (k=3)),V.bl (decide (k=4))])) hl3);have e3:=aB (H:=upd H1 l2 (.lst [V.bl true])) (a:=l3) (o:=.lst ([V.bl true]++[V.bl (decide (k=1)),V.bl (decide (k=2)),V.bl (decide (k=3)),V.bl (decide (k=4))]));generalize upd _ l3 _=H3 at u3 e3|-;have u13:=u1.trans u3;refine⟨_,rfl,.ref x,.ref MA,_,_,_,rfl,rfl,oc.ty (u13 _ _ hx),q5,_,rfl,.ref x,.ref NE,_,_,_,rfl,rfl,oc.ty (u13 _ _ hx),q6,tF,fun l4 hl4=>?_⟩;have u4:=aJ.aI (o:=.lst [V.bl (decide (k=5)),V.bl (decide (k=6))]) hl4;refine⟨l3,l4,_,_,rfl,rfl,aX.of (u4 _ _ e3),aX.of aB,by show 5+2<=qAg;decide,fun l5 hl5=>?_⟩;refine kk l5 _ ((u13.trans u4).free hl5) ((u13.trans u4).trans (.aI hl5)) ?_;rw[aB,zG k7];rfl
def rE(H:Hp)(v v':V):Prop:=(v'=v/\tW v)\/∃(q q':Addr) (xs:List V),v = .ref q/\v' = .ref q'/\H q=some (.lst xs)/\H q'=some (.lst xs)/\∀z∈xs,tW z
theorem rE.same{H H':Hp}{v v':V}(h:rE H v v')(s:aJ H H'):rE H' v v':=by
 rcases h with h | ⟨q,q',xs,e1,e2,h1,h2,h3⟩
 ·exact .inl h
 ·exact .inr ⟨q,q',xs,e1,e2,s _ _ h1,s _ _ h2,h3⟩
def BR(K:qAa):Sp:=fun vs H Q _=>∃(l:Addr) (ps:List V),vs=[.ref l]/\H l=some (.lst ps)/\ps.length<=10/\(∀v∈ps,jE K H v)/\∀(l':Addr) (ps':List V) (H':Hp),H l'=none->aJ H H'->H' l'=some (.lst ps')->ps'.length=ps.length->(∀(i:Nat) (v v':V),ps[i]?=some v->ps'[i]?=some v'->rE H' v v')->Q (.ref l') H'
theorem kd_list(K:qAa){T:String}(h:Kd T):qAb K (.type T) (.type "list")=some (T == "list"):=by
 cases h <;> rfl
theorem fR{a b:TS}{D:Ends}{σ:St}{H:Hp}(R:St->Hp->Prop)(h1:(∀σ' H',R σ' H'->b D σ' H')->a { D with nx:=b D } σ H)(h2:∀σ' H',R σ' H'->b D σ' H'):Ck a b D σ H:=h1 h2
theorem uF:aL ["_law_parts","_law_found","_law_part"] ["_law_parts"] (aH Dx):=by constructor<;>first|rfl|decide +kernel
theorem Fb(t:Tx K mg "_law_copy" Dx ["_law_parts"] f fd)(T:T K mg AL LN RU OW PL PA VO MA NE fE fH rR rO rP rA rV rM rN iR iO iP iA iV iM iN fL SE NG NN NO NR NL NS NT NX NV TM UL):Df P w K mg base cE 1 "_law_copy" ["_law_parts"] (BR K) f fd:=by
 refine t.iC uF (fun vs H Q E h=>?_) (fun cdv A outer s H vs Q E hr h=>?_)
 ·obtain⟨l,ps,rfl,_⟩:=h;rfl
 ·obtain⟨l,ps,rfl,hl,h10,cp,k⟩:=h;refine⟨_,(aE (aZ (i:=1) uF.nd rfl cP (bB aD))
   (aE (g8 PassesOwn.never rfl (cW (pv 0)) (bI (i:=2) uF.nd rfl cP)
    (aE (bC (dG (aP cB (by rfl) T.cQ cJ (aA (pv 2) (aA (fF (v:=.ty "list") (by rfl) T.eZ fY rfl) aD)))) (aG (aZ (i:=2) uF.nd rfl cP (eO dJ (by rfl) T.eZ fY (aA (pv 2) aD)))) aQ)
    (aG (bO (mH qDp qDk qDj eY (pv 1) (aA (pv 2) aD))))))
   (aG (aN (pv 1))))),?_⟩
  refine⟨by show 0<=qAg;decide,fun lf hlf=>?_⟩;dsimp only[bH];refine⟨_,rfl,l,rfl,⟨_,aX.of (aJ.aI hlf _ _ hl)⟩,?_⟩;refine hZ (xs:=ps) (fun i σ' H'=>aJ H H'/\∃(qs:List V) (o2:Option V),H' lf=some (.lst qs)/\qs.length=i/\i<=ps.length/\(∀(j:Nat) (v v':V),ps[j]?=some v->qs[j]?=some v'->v'=v\/∃(q q':Addr) (xs:List V),v = .ref q/\v' = .ref q'/\H' q=some (.lst xs)/\H' q'=some (.lst xs)/\q≠lf/\q'≠lf/\∀z∈xs,tW z)/\σ'=[some (.ref l),some (.ref lf),o2]) ?_ ?_ ?_ ?_
  ·exact⟨.aI hlf,[],_,aB,rfl,qBy _,fun j v v' _ e=>(by cases e),rfl⟩
  ·rintro i σ' H' _ ⟨s1,_⟩;exact aX.of (s1 _ _ hl)
  ·rintro i x σ' H' hx ⟨s1,qs,o2,h1,h2,h3,h4,rfl⟩;have hi:i<ps.length:=(List.getElem?_eq_some_iff.mp hx).1;have more:∀(H3:Hp) (v':V),aJ H' H3->(v'=x\/∃(q q':Addr) (xs:List V),x = .ref q/\v' = .ref q'/\H3 q=some (.lst xs)/\H3 q'=some (.lst xs)/\q≠lf/\q'≠lf/\∀z∈xs,tW z)->∀(j:Nat) (v w:V),ps[j]?=some v->(qs++[v'])[j]?=some w->w=v\/∃(q q':Addr) (xs:List V),v = .ref q/\w = .ref q'/\upd H3 lf (.lst (qs++[v'])) q=some (.lst xs)/\upd H3 lf (.lst (qs++[v'])) q'=some (.lst xs)/\q≠lf/\q'≠lf/\∀z∈xs,tW z:=by
    intro H3 v' s3 hv j v w e1 e2;have up:∀{v w:V},(w=v\/∃(q q':Addr) (xs:List V),v = .ref q/\w = .ref q'/\H3 q=some (.lst xs)/\H3 q'=some (.lst xs)/\q≠lf/\q'≠lf/\∀z∈xs,tW z)->(w=v\/∃(q q':Addr) (xs:List V),v = .ref q/\w = .ref q'/\upd H3 lf (.lst (qs++[v'])) q=some (.lst xs)/\upd H3 lf (.lst (qs++[v'])) q'=some (.lst xs)/\q≠lf/\q'≠lf/\∀z∈xs,tW z):=fun {v w} h=>by
     rcases h with h | ⟨q,q',xs,a1,a2,a3,a4,a5,a6,a7⟩
     ·exact .inl h
     ·exact .inr ⟨q,q',xs,a1,a2,by rw[aM a5];exact a3,by rw[aM a6];exact a4,a5,a6,a7⟩
    rcases qCa j qs.length with z | z
    ·rw[qDi z] at e2;rcases h4 j v w e1 e2 with h | ⟨q,q',xs,a1,a2,a3,a4,a5,a6,a7⟩
     ·exact .inl h
     ·exact up (.inr ⟨q,q',xs,a1,a2,s3 _ _ a3,s3 _ _ a4,a5,a6,a7⟩)
    ·rw[qDh z] at e2;have ej:j=qs.length:=by
      rcases qEi (j-qs.length) with y | y
      ·lia
      ·rw[qDt (by show 1<=_;lia)] at e2;cases e2
     rw[ej,qKk] at e2;have ew:v'=w:=Option.some.inj e2;subst ew;rw[ej,h2,hx] at e1;have ev:x=v:=Option.some.inj e1;subst ev;exact up hv
   dsimp only[bH];have mx:=qBe hx;refine fR (fun σ' H3=>∃v',aJ H' H3/\H3 lf=some (.lst qs)/\(v'=x\/∃(q q':Addr) (xs:List V),x = .ref q/\v' = .ref q'/\H3 q=some (.lst xs)/\H3 q'=some (.lst xs)/\q≠lf/\q'≠lf/\∀z∈xs,tW z)/\σ'=[some (.ref l),some (.ref lf),some v']) (fun kk=>?_) ?_
   ·rcases cp x mx with ⟨Ty,ht,kd,nl⟩ | ⟨q,xs,rfl,hq,hi'⟩
    ·refine⟨_,rfl,x,.ty "list",_,_,_,rfl,rfl,.of (s1.ty ht),kd_list K kd,_,rfl,?_⟩;rw[beq_eq_false_iff_ne.mpr nl];exact cT (kk _ _ ⟨x,.refl _,h1,.inl rfl,rfl⟩)
    ·have hq1:=s1 _ _ hq;refine⟨_,rfl,.ref q,.ty "list",_,_,_,rfl,rfl,.of (.lst hq1),rfl,_,rfl,cZ ?_⟩;refine⟨_,rfl,q,_,rfl,.inl (aX.of hq1),fun c hc=>kk _ _ ⟨.ref c,.aI hc,aJ.aI hc _ _ h1,.inr ⟨q,c,xs,rfl,rfl,aJ.aI hc _ _ hq1,aB,a9 hq hlf,(a9 h1 hc).symm,hi'⟩,rfl⟩⟩
   ·rintro σ2 H3 ⟨v',s3,e3,hv,rfl⟩;refine⟨_,rfl,.inl ⟨rfl,_,aX.of e3⟩,_,rfl,lf,_,_,rfl,rfl,e3,aW (by lia),(s1.trans s3).upd_ne' hlf,_,_,aB,by rw[qAp];show qs.length+1=_;lia,by lia,more H3 v' s3 hv,rfl⟩
  ·rintro σ' H' ⟨s1,qs,o2,h1,h2,h3,h4,rfl⟩;refine⟨_,rfl,k lf qs H' hlf s1 h1 h2 fun i v v' e1 e2=>?_⟩;rcases h4 i v v' e1 e2 with h | ⟨q,q',xs,a1,a2,a3,a4,_,_,a7⟩
   ·refine .inl ⟨h,?_⟩;rcases cp v (qBe e1) with ⟨Ty,ht,kd,_⟩ | ⟨q,xs,rfl,_⟩
    ·exact Pl.JE (K:=K) (H:=H) ⟨Ty,ht,kd⟩
    ·trivial
   ·exact .inr ⟨q,q',xs,a1,a2,a3,a4,a7⟩
def tE(H:Hp)(ps ps':List V):Prop:=ps'.length=ps.length/\∀(i:Nat) (v v':V),ps[i]?=some v->ps'[i]?=some v'->rE H v v'
theorem tE.same{H H':Hp}{ps ps':List V}(h:tE H ps ps')(s:aJ H H'):tE H' ps ps':=⟨h.1,fun i v v' e1 e2=>(h.2 i v v' e1 e2).same s⟩
theorem tE.one{H:Hp}{a:V}{ps':List V}(h:tE H [a] ps'):∃a',ps'=[a']/\rE H a a':=by
 match ps',h with
 | [a'],h=>exact⟨a',rfl,h.2 0 a a' rfl rfl⟩
 | [],h=>exact absurd h.1 (by simp)
 | _::_::_,h=>exact absurd h.1 (by simp)
theorem tE.two{H:Hp}{a b:V}{ps':List V}(h:tE H [a,b] ps'):∃a' b',ps'=[a',b']/\rE H a a'/\rE H b b':=by
 match ps',h with
 | [a',b'],h=>exact⟨a',b',rfl,h.2 0 a a' rfl rfl,h.2 1 b b' rfl rfl⟩
 | [],h=>exact absurd h.1 (by simp)
 | [_],h=>exact absurd h.1 (by simp)
 | _::_::_::_,h=>exact absurd h.1 (by simp)
theorem tE.three{H:Hp}{a b c:V}{ps':List V}(h:tE H [a,b,c] ps'):∃a' b' c',ps'=[a',b',c']/\rE H a a'/\rE H b b'/\rE H c c':=by
 match ps',h with
 | [a',b',c'],h=>exact⟨a',b',c',rfl,h.2 0 a a' rfl rfl,h.2 1 b b' rfl rfl,h.2 2 c c' rfl rfl⟩
 | [],h=>exact absurd h.1 (by simp)
 | [_],h=>exact absurd h.1 (by simp)
 | [_,_],h=>exact absurd h.1 (by simp)
 | _::_::_::_::_,h=>exact absurd h.1 (by simp)
theorem rE.int{H:Hp}{i:Int}{v:V}(h:rE H (.int i) v):v = .int i:=by
 rcases h with h | ⟨_,_,_,e,_⟩
 ·exact h.1
 ·cases e
theorem rE.ref{H:Hp}{q:Addr}{v:V}{xs:List V}(h:rE H (.ref q) v)(hq:H q=some (.lst xs)):∃q',v = .ref q'/\H q'=some (.lst xs):=by
 rcases h with h | ⟨q1,q',ys,e,e',h1,h2,_⟩
 ·exact⟨q,h.1,hq⟩
 ·cases e
  rw[hq] at h1;cases h1;exact⟨q',e',h2⟩
theorem rE.pl{H:Hp}{v v':V}(h:rE H v v')(p:Pl K H v):Pl K H v'/\(∀lo hi,gD lo hi v'=gD lo hi v)/\(∀z xs,lC v' z xs=lC v z xs)/\(∀c xs,lC c v' xs=lC c v xs)/\∀i,v = .int i->v' = .int i:=by
 rcases h with ⟨rfl,_⟩ | ⟨q,q',xs,rfl,rfl,_,h2,_⟩
 ·exact⟨p,fun _ _=>rfl,fun _ _=>rfl,fun _ _=>rfl,fun _ e=>e⟩
 ·exact⟨⟨_,.lst h2,.lst⟩,fun _ _=>rfl,fun _ _=>rfl,fun _ _=>rfl,fun i e=>(by cases e)⟩
theorem fV.copy{H H':Hp}{k m:Nat}{ps ps':List V}(g:fV H k m ps)(s:aJ H H')(c:tE H' ps ps'):fV H' k m ps':=by
 unfold fV at g|-;split at g
 ·subst g;obtain⟨a',rfl,h⟩:=c.one;rw[h.int]
 ·obtain⟨q,ns,rfl,hq,z⟩:=g;obtain⟨a',rfl,h⟩:=c.one;obtain⟨q',rfl,h'⟩:=h.ref (s _ _ hq);exact⟨q',ns,rfl,h',z⟩
 ·obtain⟨q,cc,z,ns,rfl,hq,y⟩:=g;obtain⟨a',b',c',rfl,h1,h2,h3⟩:=c.three;obtain⟨q',rfl,h'⟩:=h3.ref (s _ _ hq);rw[h1.int,h2.int];exact⟨q',cc,z,ns,rfl,h',y⟩
 ·obtain⟨q,ns,rfl,hq,z⟩:=g;obtain⟨a',rfl,h⟩:=c.one;obtain⟨q',rfl,h'⟩:=h.ref (s _ _ hq);exact⟨q',ns,rfl,h',z⟩
 ·obtain⟨q,as,rfl,hq,ok⟩:=g;obtain⟨a',b',rfl,h1,h2⟩:=c.two;obtain⟨q',rfl,h'⟩:=h2.ref (s _ _ hq);rw[h1.int];exact⟨q',as,rfl,h',ok.same fun b _ o e=>s b o e⟩
 ·obtain⟨q,as,rfl,hq,ok⟩:=g;obtain⟨a',b',rfl,h1,h2⟩:=c.two;obtain⟨q',rfl,h'⟩:=h2.ref (s _ _ hq);rw[h1.int];exact⟨q',as,rfl,h',ok.same fun b _ o e=>s b o e⟩
 ·obtain⟨p,q,cs,as,rfl,hp,h1,h2,hq,ok,r0⟩:=g;obtain⟨a',b',rfl,g1,g2⟩:=c.two;obtain⟨p',rfl,hp'⟩:=g1.ref (s _ _ hp);obtain⟨q',rfl,hq'⟩:=g2.ref (s _ _ hq);refine⟨p',q',cs,as,rfl,hp',h1,h2,hq',ok.same fun b _ o e=>s b o e,fun a ha r hr=>?_⟩;obtain⟨u,v,n,e,_⟩:=ok.1 a ha;rw[hr.eq (show fD H' a (u,v,n) from s _ _ e)];exact r0 a ha (u,v,n) e
theorem oK.copy{H H':Hp}{k:Nat}{ps ps':List V}(g:oK K H k ps)(s:aJ H H')(c:tE H' ps ps'):oK K H' k ps':=by
 unfold oK at g|-;split at g
 ·obtain⟨v,rfl,pl,no⟩:=g;obtain⟨a',rfl,h⟩:=c.one;obtain⟨p',i',_⟩:=h.pl (pl.same s);exact⟨a',rfl,p',by rw[i'];exact no⟩
 ·obtain⟨q,xs,rfl,hq,pl,z⟩:=g;obtain⟨a',rfl,h⟩:=c.one;obtain⟨q',rfl,h'⟩:=h.ref (s _ _ hq);exact⟨q',xs,rfl,h',fun v hv=>(pl v hv).same s,z⟩
 ·obtain⟨q,cc,z,xs,rfl,pc,pz,hq,pl,hl,no⟩:=g;obtain⟨a',b',c',rfl,h1,h2,h3⟩:=c.three;obtain⟨q',rfl,h'⟩:=h3.ref (s _ _ hq);obtain⟨p1,_,i1,_⟩:=h1.pl (pc.same s);obtain⟨p2,_,_,i2,_⟩:=h2.pl (pz.same s);refine⟨q',a',b',xs,rfl,p1,p2,h',fun v hv=>(pl v hv).same s,hl,?_⟩;rw[i1,i2];exact no
 ·obtain⟨q,xs,rfl,hq,pl,z⟩:=g;obtain⟨a',rfl,h⟩:=c.one;obtain⟨q',rfl,h'⟩:=h.ref (s _ _ hq);exact⟨q',xs,rfl,h',fun v hv=>(pl v hv).same s,z⟩
 ·obtain⟨q,v,as,rfl,pv,hq,ht,h64,no⟩:=g;obtain⟨a',b',rfl,h1,h2⟩:=c.two;obtain⟨q',rfl,h'⟩:=h2.ref (s _ _ hq);obtain⟨p1,i1,_,_,e1⟩:=h1.pl (pv.same s);refine⟨q',a',as,rfl,p1,h',dF ht s,h64,?_⟩;rcases no with no | ⟨m,e,z1,z2,no⟩
  ·exact .inl (by rw[i1];exact no)
  ·exact .inr ⟨m,e1 _ e,z1,z2,by rw[ht.eq fun a xs e=>s _ _ e];exact no⟩
 ·obtain⟨q,v,as,rfl,pv,hq,ht,h64,no⟩:=g;obtain⟨a',b',rfl,h1,h2⟩:=c.two;obtain⟨q',rfl,h'⟩:=h2.ref (s _ _ hq);obtain⟨p1,i1,_,_,e1⟩:=h1.pl (pv.same s);refine⟨q',a',as,rfl,p1,h',dF ht s,h64,?_⟩;rcases no with no | ⟨m,e,z1,z2,no⟩
  ·exact .inl (by rw[i1];exact no)
  ·exact .inr ⟨m,e1 _ e,z1,z2,by rw[ht.eq fun a xs e=>s _ _ e];exact no⟩
 ·obtain⟨p,q,xs,as,rfl,hp,pl,hl,hq,ht,h64,no⟩:=g;obtain⟨a',b',rfl,g1,g2⟩:=c.two;obtain⟨p',rfl,hp'⟩:=g1.ref (s _ _ hp);obtain⟨q',rfl,hq'⟩:=g2.ref (s _ _ hq);refine⟨p',q',xs,as,rfl,hp',fun v hv=>(pl v hv).same s,hl,hq',dF ht s,h64,?_⟩;rcases no with no | ⟨cs,e,c1,c6,c0,no | ⟨ok,a,ha,r,pr,r0⟩⟩
  ·exact .inl no
  ·exact .inr ⟨cs,e,c1,c6,c0,.inl (by rw[ht.eq fun a xs e=>s _ _ e];exact no)⟩
  ·exact .inr ⟨cs,e,c1,c6,c0,.inr ⟨ok.same fun b _ o e=>s b o e,a,ha,r,s _ _ pr,r0⟩⟩
theorem fV.cp{H:Hp}{k m:Nat}{ps:List V}(g:fV H k m ps):ps.length<=10/\∀v∈ps,jE K H v:=by
 unfold fV at g;split at g
 ·subst g;exact⟨by simp,fun v hv=>by rw[qCb] at hv;subst hv;exact .int _⟩
 ·obtain⟨q,ns,rfl,hq,_⟩:=g;exact⟨by simp,fun v hv=>by rw[qCb] at hv;subst hv;exact .ints hq⟩
 ·obtain⟨q,cc,z,ns,rfl,hq,_⟩:=g;refine⟨by simp,fun v hv=>?_⟩;simp only[qBp,qAw,or_false] at hv;rcases hv with rfl | rfl | rfl
  ·exact .int _
  ·exact .int _
  ·exact .ints hq
 ·obtain⟨q,ns,rfl,hq,_⟩:=g;exact⟨by simp,fun v hv=>by rw[qCb] at hv;subst hv;exact .ints hq⟩
 ·obtain⟨q,as,rfl,hq,_⟩:=g;refine⟨by simp,fun v hv=>?_⟩;simp only[qBp,qAw,or_false] at hv;rcases hv with rfl | rfl
  ·exact .int _
  ·exact .refs hq
 ·obtain⟨q,as,rfl,hq,_⟩:=g;refine⟨by simp,fun v hv=>?_⟩;simp only[qBp,qAw,or_false] at hv;rcases hv with rfl | rfl
  ·exact .int _
  ·exact .refs hq
 ·obtain⟨p,q,cs,as,rfl,hp,_,_,hq,_⟩:=g;refine⟨by simp,fun v hv=>?_⟩;simp only[qBp,qAw,or_false] at hv;rcases hv with rfl | rfl
  ·exact .ints hp
  ·exact .refs hq
def BS(K:qAa):Sp:=fun vs H Q _=>∃(l:Addr) (k:Nat) (ps:List V),vs=[.int (k:Int),.ref l]/\k<7/\H l=some (.lst ps)/\oK K H k ps/\∀H',aJ H H'->Q (.bl true) H'
theorem lJ:aL ["_law_kind","_law_parts","_law_only","e"] ["_law_kind","_law_parts"] (aH Dw):=by constructor<;>first|rfl|decide +kernel
theorem Fc{f1:Addr}{fd1:qAx}(t:Tx K mg "_law_refused" Dw ["_law_kind","_law_parts"] f fd)(T:T K mg AL LN RU OW PL PA VO MA NE fE fH rR rO rP rA rV rM rN iR iO iP iA iV iM iN fL SE NG NN NO NR NL NS NT NX NV TM UL)(D_law_rule:Df P w K mg base (gB P w) 9 "_law_rule" ["_law_kind","_law_parts"] (uE P w K mg base fE fH RU OW VO PL PA MA NE NL NT) f1 fd1):Df P w K mg base cE 10 "_law_refused" ["_law_kind","_law_parts"] (BS K) f fd:=by
 refine t.iC lJ (fun vs H Q E h=>?_) (fun cdv A outer s H vs Q E hr h=>?_)
 ·obtain⟨l,k,ps,rfl,_⟩:=h;rfl
 ·obtain⟨l,k,ps,rfl,k7,hl,bad,kk⟩:=h;refine⟨_,(aE (aZ (i:=2) lJ.nd rfl cP hW)
   (aE (CK (i:=3) (tb:=fun Ex=>Bk (nX (uE P w K mg base fE fH RU OW VO PL PA MA NE NL NT) [] Ex (oU (jU 0) (oU (jU 1) wV)))) ⟨rfl,rfl,rfl⟩ rfl (fun pins Ex=>(aG (bO (dN xF D_law_rule hr (by decide) (by rfl) (aA (pv 0) (aA (pv 1) aD)))))) (by rfl) T.GL T.KL lJ.nd rfl rfl
    (fun e=>(aE (aZ (i:=2) lJ.nd rfl cP (Bj (dZ (aP (fU K) (by rfl) T.cQ cJ (aA (pv 3) (aA (a8 (v:=.ref NL) (by rfl) T.vP rfl) aD))) (dY (eB jG (pv 0) aC (aS _)))) (dY (dZ (aP (fU K) (by rfl) T.cQ cJ (aA (pv 3) (aA (a8 (v:=.ref NT) (by rfl) T.DT rfl) aD))) (dY (eB bJ (pv 0) aC (aS _)))))))
    (aE (aZ (i:=2) lJ.nd rfl cP (dZ (pv 2) (dZ (kD (dZ (aP (fU K) (by rfl) T.cQ cJ (aA (pv 3) (aA (a8 (v:=.ref NL) (by rfl) T.vP rfl) aD))) (dY (aP (fU K) (by rfl) T.cQ cJ (aA (pv 3) (aA (a8 (v:=.ref NT) (by rfl) T.DT rfl) aD)))))) (dY (aP (fU K) (by rfl) T.cQ cJ (aA (pv 3) (aA (fF (v:=.ty "ValueError") (by rfl) T.yK Gy rfl) aD)))))))
    (aE (aZ (i:=2) lJ.nd rfl cP (dZ (pv 2) (dY (kD (aP (kS K) (by rfl) T.cQ cJ (aA (pv 3) (aA (eA (aA (a8 (v:=.ref NG) (by rfl) T.FO rfl) (aA (a8 (v:=.ref NN) (by rfl) T.GN rfl) (aA (a8 (v:=.ref NO) (by rfl) T.GO rfl) (aA (a8 (v:=.ref NR) (by rfl) T.GP rfl) (aA (a8 (v:=.ref NS) (by rfl) T.GQ rfl) aD)))))) aD)))))))
    (aG (aZ (i:=2) lJ.nd rfl cP (dZ (pv 2) (dY (kD (aP (kS K) (by rfl) T.cQ cJ (aA (pv 3) (aA (eA (aA (a8 (v:=.ref NX) (by rfl) T.GR rfl) (aA (a8 (v:=.ref NV) (by rfl) T.GS rfl) (aA (a8 (v:=.ref TM) (by rfl) T.GU rfl) (aA (a8 (v:=.ref UL) (by rfl) T.GV rfl) aD))))) aD)))))))))))))
   (aG (aN (pv 2))))),?_⟩
  refine⟨_,rfl,_,rfl,l,k,ps,rfl,k7,hl,.inl ⟨bad,fun H1 s1=>?_⟩⟩;by_cases c3:k=3
  ·subst c3;refine⟨NT,rfl,T.Hc,fun e he=>?_⟩;have hE:upd H1 e (kP e NT) e=some (kP e NT):=aB;have sE:aJ H1 (upd H1 e (kP e NT)):=.aI he;generalize upd H1 e (kP e NT)=H2 at hE sE|-;have ex:=xI.exc hE T.Jq;refine⟨_,rfl,.ref e,.ref NL,_,_,_,rfl,rfl,ex,T.mY,_,rfl,cT ⟨_,rfl,cT ⟨_,rfl,.ref e,.ref NT,_,_,_,rfl,rfl,ex,T.pL,_,rfl,cZ ⟨_,rfl,rfl,?_⟩⟩⟩⟩;dsimp only[bH];refine⟨_,rfl,_,rfl,cZ ⟨_,rfl,.ref e,.ref NL,_,_,_,rfl,rfl,ex,T.mY,_,rfl,cT ⟨_,rfl,_,rfl,cZ ⟨_,rfl,.ref e,.ty "ValueError",_,_,_,rfl,rfl,ex,T.Hd,?_⟩⟩⟩⟩;dsimp only[bH];refine⟨_,rfl,_,rfl,cZ ⟨_,rfl,by show 5<=qAg;decide,fun tp htp=>?_⟩⟩;have u1:=aJ.aI (o:=.tup [V.ref NG,V.ref NN,V.ref NO,V.ref NR,V.ref NS]) htp;refine⟨.ref e,tp,_,_,[.ref NG,.ref NN,.ref NO,.ref NR,.ref NS],_,rfl,aB,rfl,.exc (u1 _ _ hE) T.Jq,T.He,_,rfl,?_⟩;dsimp only[bH];refine⟨_,rfl,_,rfl,cZ ⟨_,rfl,by show 4<=qAg;decide,fun tq htq=>?_⟩⟩;have u2:=u1.trans (aJ.aI (o:=.tup [V.ref NX,V.ref NV,V.ref TM,V.ref UL]) htq);exact⟨.ref e,tq,_,_,[.ref NX,.ref NV,.ref TM,.ref UL],_,rfl,aB,rfl,.exc (u2 _ _ hE) T.Jq,T.Hf,_,rfl,_,rfl,kk _ (s1.trans (sE.trans u2))⟩
  ·rw[if_neg c3];have n3:¬(k:Int)=3:=by lia
   refine⟨NL,rfl,T.GY,fun e he=>?_⟩;have hE:upd H1 e (kP e NL) e=some (kP e NL):=aB;have sE:aJ H1 (upd H1 e (kP e NL)):=.aI he;generalize upd H1 e (kP e NL)=H2 at hE sE|-;have ex:=xI.exc hE T.Jp;have dn:(!decide (V.int (k:Int)=V.int 3))=true:=by rw[decide_eq_false (fun z=>n3 (V.int.inj z))];rfl
   refine⟨_,rfl,.ref e,.ref NL,_,_,_,rfl,rfl,ex,T.mX,_,rfl,cZ ⟨_,rfl,rfl,?_⟩⟩;rw[dn];refine⟨_,rfl,cZ ?_⟩;dsimp only[bH];refine⟨_,rfl,_,rfl,cZ ⟨_,rfl,.ref e,.ref NL,_,_,_,rfl,rfl,ex,T.mX,_,rfl,cZ ⟨_,rfl,.ref e,.ref NT,_,_,_,rfl,rfl,ex,T.pK,_,rfl,_,rfl,cZ ⟨_,rfl,.ref e,.ty "ValueError",_,_,_,rfl,rfl,ex,T.GZ,?_⟩⟩⟩⟩;dsimp only[bH];refine⟨_,rfl,_,rfl,cZ ⟨_,rfl,by show 5<=qAg;decide,fun tp htp=>?_⟩⟩;have u1:=aJ.aI (o:=.tup [V.ref NG,V.ref NN,V.ref NO,V.ref NR,V.ref NS]) htp;refine⟨.ref e,tp,_,_,[.ref NG,.ref NN,.ref NO,.ref NR,.ref NS],_,rfl,aB,rfl,.exc (u1 _ _ hE) T.Jp,T.Ha,_,rfl,?_⟩;dsimp only[bH];refine⟨_,rfl,_,rfl,cZ ⟨_,rfl,by show 4<=qAg;decide,fun tq htq=>?_⟩⟩;have u2:=u1.trans (aJ.aI (o:=.tup [V.ref NX,V.ref NV,V.ref TM,V.ref UL]) htq);exact⟨.ref e,tq,_,_,[.ref NX,.ref NV,.ref TM,.ref UL],_,rfl,aB,rfl,.exc (u2 _ _ hE) T.Jp,T.Hb,_,rfl,_,rfl,kk _ (s1.trans (sE.trans u2))⟩
theorem uG{xs ys:List V}{v:V}(h:eK v=false):okN (xs++[v]++ys)=false:=by
 unfold okN;rw[qFu,qFu,qGk,h,qBi,qBo,qBi,qBo]
def zH(K:qAa):Sp:=fun vs H Q _=>∃(r:Addr) (ns:List Int) (c:Int) (lv:V),vs=[.ref r,.int c,lv]/\H r=some (.lst (ns.map V.int))/\1<=ns.length/\ns.length<=6/\0<=c/\(lv = .non\/lv = .int 0) /\
 ∀(l:Addr) (xs:List V) (H':Hp),aJ H H'->H' l=some (.lst xs)->(∀v∈xs,Pl K H' v)->xs.length<=1000->(lv = .non->okN xs=false)->(okN xs&&t9 xs)=false->Q (.ref l) H'
theorem zI:aL ["_law_row","_law_number","_law_low","_law_at","_law_way"] ["_law_row","_law_number","_law_low"] (aH sN):=by constructor<;>first|rfl|decide +kernel
theorem Fd{f1 f2:Addr}{fd1 fd2:qAx}(t:Tx K mg "_law_list_off" sN ["_law_row","_law_number","_law_low"] f fd)(T:T K mg AL LN RU OW PL PA VO MA NE fE fH rR rO rP rA rV rM rN iR iO iP iA iV iM iN fL SE NG NN NO NR NL NS NT NX NV TM UL)(D_law_far:Df P w K mg base cE 1 "_law_far" ["_law_number"] rC f1 fd1)(D_law_odd:Df P w K mg base cE 1 "_law_odd" ["_law_number"] (lI K) f2 fd2):Df P w K mg base cE 2 "_law_list_off" ["_law_row","_law_number","_law_low"] (zH K) f fd:=by
 refine t.iC zI (fun vs H Q E h=>?_) (fun cdv A outer s H vs Q E hr h=>?_)
 ·obtain⟨r,ns,c,lv,rfl,_⟩:=h;rfl
 ·obtain⟨r,ns,c,lv,rfl,hr_,n1,n6,c0,hlv,k⟩:=h;refine⟨_,(aE (aZ (i:=3) zI.nd rfl cP (aK bP (aK bD (pv 1) aC) (aP bE (by rfl) T.dP dD (aA (pv 0) aD))))
   (aE (aZ (i:=4) zI.nd rfl cP (aK bP (pv 1) aC))
   (aE (bC (aO bJ (pv 4) aC (aS _)) (aG (aN (bB aD))) aQ)
   (aE (bC (aO bJ (pv 4) aC (aS _)) (aG (aN (aK cC (pv 0) (dB (NB:=["_law_k"]) (pick:=[none]) (dC (by with_unfolding_all rfl) (by exact trivial) rfl (by decide +kernel) (by decide +kernel) (by rfl) (by rfl)) rfl
     (eN (by rfl) T.dO (aA (aK cG (aK cL aC (aP bE (by rfl) T.dP dD (aA (pv 0) aD))) (aK bP (aK bD (pv 1) aC) aC)) aD)) (fun _ _ _=>bI (i:=0) (show(["_law_k"]:List Str).Nodup from by decide +kernel) rfl cP)
     (fun _ _ _=>dA) (fun _ _ _=>aC))))) aQ)
   (aE (bC (PW.pt (pw_and (aO mC (pv 4) aC (aS _)) (pw_and1 (aO z7 (pv 2) iW (aS _))))) (aG (aN (aK cC (aK cC (cA cX (pv 0) cN (cO (pv 3))) (bB (aA (aK cL (aK cL (pv 2) aC) (bF D_law_far hr (by decide) (by rfl) (aA (aK bD (pv 1) aC) aD))) aD))) (cA cX (pv 0) (cO (aK cG (pv 3) aC)) cN)))) aQ)
   (aG (aN (aK cC (aK cC (cA cX (pv 0) cN (cO (pv 3))) (bB (aA (bF D_law_odd hr (by decide) (by rfl) (aA (aK bD (pv 1) aC) aD)) aD))) (cA cX (pv 0) (cO (aK cG (pv 3) aC)) cN))))))))),?_⟩
  obtain⟨p,hp,hpn⟩:∃p:Nat,c/8%(((ns.map V.int).length:Nat):Int)=(p:Int)/\p<ns.length:=by
   rw[qAc];have h0:=qDf (c/8) (b:=(ns.length:Int)) (by lia);have h1:=qFe (c/8) (b:=(ns.length:Int)) (by lia);exact⟨(c/8%(ns.length:Int)).toNat,by lia,by lia⟩
  refine⟨_,rfl,_,_,rfl,rfl,⟨by decide,by decide⟩,_,rfl,r,_,rfl,.inl (aX.of hr_),_,_,rfl,rfl,(by show(0:Int)<((ns.map V.int).length:Nat);rw[qAc];lia),?_⟩;dsimp only[bH];rw[hp];refine⟨_,rfl,_,_,rfl,rfl,(by show(0:Int)<8;decide),?_⟩;dsimp only[bH];obtain⟨wy,hw⟩:∃wy:Int,c%8=wy:=⟨_,rfl⟩;rw[hw];refine f9 (σ':=[some (.ref r),some (.int c),some lv,some (.int (p:Int)),some (.int wy)]) rfl ?_;have e1:c8 (ns.map V.int) none (some (p:Int))=(ns.take p).map V.int:=by rw[jA,qFj]
  have e2:c8 (ns.map V.int) (some ((p:Int)+1)) none=(ns.drop (p+1)).map V.int:=by
   rw[show(p:Int)+1=((p+1:Nat):Int) by lia,kY,qFk]
  refine⟨_,rfl,rfl,_,rfl,bN (fun h=>?_) (fun h=>?_)⟩
  ·exact⟨by show 0<=qAg;decide,fun l hl=>k l [] _ (.aI hl) aB (fun v hv=>by cases hv) (by decide) (fun _=>rfl) rfl⟩
  dsimp only[cF];refine⟨_,rfl,rfl,_,rfl,bN (fun h=>?_) (fun h=>?_)⟩
  ·obtain⟨z,hz,z0⟩:∃z:Nat,7-(((ns.map V.int).length:Nat):Int)+c/8%3=(z:Int)/\7<=z+ns.length/\z<=9:=by
    rw[qAc];exact⟨(7-(ns.length:Int)+c/8%3).toNat,by lia,by lia,by lia⟩
   refine⟨_,rfl,_,rfl,r,_,rfl,.inl (aX.of hr_),_,_,rfl,rfl,_,rfl,_,_,rfl,rfl,⟨by decide,by decide⟩,_,_,rfl,rfl,(by show(0:Int)<3;decide),_,_,rfl,rfl,(z:Int),(by show [V.int (7-(((ns.map V.int).length:Nat):Int)+c/8%3)]=_;rw[hz]),by lia,by lia,?_⟩;refine iD (n:=z) (fun i=>some (.int 3)) (qBd (aW (by lia))) (fun i H2 kk kk0 hi h1 h2=>?_) fun l2 hl2=>?_
   ·exact h1 _ rfl
   ·have e3:(qAy z).filterMap (fun(i:Nat)=>some (V.int 3))=(qGf z (3:Int)).map V.int:=by
     rw[qFq,List.map_replicate];exact qJf (by simp) (by simp)
    rw[e3];have u1:=aJ.aI (o:=.lst ((qGf z (3:Int)).map V.int)) hl2;refine⟨r,l2,_,_,rfl,rfl,aX.of (u1 _ _ hr_),aX.of aB,by rw[qAc,qAc,qEq];exact qBd (aW (by lia)),fun l hl=>?_⟩;have no:okN (ns.map V.int++(qGf z (3:Int)).map V.int)=false:=by
     unfold okN;rw[qAp,qAc,qAc,qEq,decide_eq_false (show ¬(ns.length+z<=6) by lia),qBo,qBi]
    refine k l _ _ (u1.trans (.aI hl)) aB (fun v hv=>?_) (by rw[qAp,qAc,qAc,qEq];lia) (fun _=>no) (by rw[no];rfl);rw[<- qBw] at hv;exact cD v hv
  dsimp only[cF];have ended:∀(v:V) (H1:Hp),aJ H H1->Pl K H1 v->(eK v=false\/lv≠.non/\∃n:Int,v = .int n/\n<0)->∀(y1:Addr),H1 y1=some (.lst ((ns.take p).map V.int++[v]))->∀y2,H1 y2=some (.lst ((ns.drop (p+1)).map V.int))->∀l,H1 l=none->Q (.ref l) (upd H1 l (.lst ((ns.take p).map V.int++[v]++(ns.drop (p+1)).map V.int))):=by
   intro v H1 s1 pv hv y1 _ y2 _ l hl;have u:=aJ.aI (o:=.lst ((ns.take p).map V.int++[v]++(ns.drop (p+1)).map V.int)) hl;refine k l _ _ (s1.trans u) aB (fun x hx=>?_) ?_ (fun no=>?_) ?_
   ·rcases List.mem_append.mp hx with hx | hx
    ·rcases List.mem_append.mp hx with hx | hx
     ·exact cD x hx
     ·rw[qCb] at hx;subst hx;exact pv.same u
    ·exact cD x hx
   ·rw[qAp,qAp,qAc,qAc,qBv,qCl];show min p ns.length+1+(ns.length-(p+1))<=1000;lia
   ·rcases hv with h | ⟨h,_⟩
    ·exact uG h
    ·exact absurd no h
   ·rcases hv with h | ⟨_,n,rfl,hn⟩
    ·rw[uG h];rfl
    ·have e:(ns.take p).map V.int++[V.int n]++(ns.drop (p+1)).map V.int=(ns.take p++[n]++ns.drop (p+1)).map V.int:=by rw[qBw,qBw];rfl
     rw[e,uC (n:=n) (by simp) hn,qBo]
  have fin:∀(v:V) (H1:Hp),aJ H H1->Pl K H1 v->(eK v=false\/lv≠.non/\∃n:Int,v = .int n/\n<0)->∀(y1:Addr),H1 y1=some (.lst ((ns.take p).map V.int))->∀y2,H1 y2=some (.lst [v])->True:=fun _ _ _ _ _ _ _ _ _=>trivial;clear fin;have len1:((ns.take p).map V.int).length+1<=qAg:=by rw[qAc,qBv];exact qBd (aW (by lia))
  have len2:∀v:V,((ns.take p).map V.int++[v]).length+((ns.drop (p+1)).map V.int).length<=qAg:=fun v=>by
   rw[qAp,qAc,qAc,qBv,qCl];exact qBd (aW (show min p ns.length+1+(ns.length-(p+1))<=1000 by lia))
  have odd:FW (zQ (xM (gY cE P w K mg base ["_law_row","_law_number","_law_low","_law_at","_law_way"] "_law_list_off" (aH sN) f cdv A outer s H E).K) (zQ (xM (gY cE P w K mg base ["_law_row","_law_number","_law_low","_law_at","_law_way"] "_law_list_off" (aH sN) f cdv A outer s H E).K) (IU (Cz (gY cE P w K mg base ["_law_row","_law_number","_law_low","_law_at","_law_way"] "_law_list_off" (aH sN) f cdv A outer s H E).K) (jU 0) nM (wY (jU 3))) (Gm (oU (wW (lI K) [] E0 (oU (zQ (rI Gg fun i j=>V.int (i/j)) (jU 1) (tC (V.int 64))) wV)) wV))) (IU (Cz (gY cE P w K mg base ["_law_row","_law_number","_law_low","_law_at","_law_way"] "_law_list_off" (aH sN) f cdv A outer s H E).K) (jU 0) (wY (zQ (v9 fun i j=>V.int (i+j)) (jU 3) (tC (V.int 1)))) nM)) { nx:=fun _ H'=>Q V.non H',rt:=Q } [some (.ref r),some (.int c),some lv,some (.int (p:Int)),some (.int wy)] H:=by
   refine⟨_,rfl,_,rfl,_,rfl,r,_,rfl,aX.of hr_,fun y1 hy1=>?_⟩;rw[e1];have u1:=aJ.aI (o:=.lst ((ns.take p).map V.int)) hy1;have g1:upd H y1 (.lst ((ns.take p).map V.int)) y1=some (.lst ((ns.take p).map V.int)):=aB;generalize upd H y1 (.lst ((ns.take p).map V.int))=H1 at u1 g1|-;refine⟨_,rfl,_,_,rfl,rfl,⟨by decide,by decide⟩,_,rfl,fun v H2 s2 pv _ iv=>?_⟩;refine⟨jS,fun y2 hy2=>?_⟩;have u3:=aJ.aI (o:=.lst [v]) hy2;refine⟨y1,y2,_,_,rfl,rfl,aX.of (u3 _ _ (s2 _ _ g1)),aX.of aB,len1,fun y3 hy3=>?_⟩;have u4:=u3.trans (aJ.aI (o:=.lst ((ns.take p).map V.int++[v])) hy3);have g4:=aB (H:=upd H2 y2 (.lst [v])) (a:=y3) (o:=.lst ((ns.take p).map V.int++[v]));generalize upd _ y3 _=H4 at u4 g4|-;have S4:=u1.trans (s2.trans u4);refine⟨_,rfl,_,rfl,_,_,rfl,rfl,_,rfl,r,_,rfl,aX.of (S4 _ _ hr_),fun y5 hy5=>?_⟩;rw[e2];have u5:=aJ.aI (o:=.lst ((ns.drop (p+1)).map V.int)) hy5;exact⟨y3,y5,_,_,rfl,rfl,aX.of (u5 _ _ g4),aX.of aB,len2 v,fun l hl=>ended v _ (S4.trans u5) ((pv.same u4).same u5) (.inl iv) y3 (u5 _ _ g4) y5 aB l hl⟩
  refine⟨_,rfl,_,_,rfl,rfl,_,rfl,bN (fun h4=>?_) (fun _=>cT odd)⟩;rcases hlv with rfl | rfl
  ·exact⟨_,rfl,rfl,_,rfl,cT odd⟩
  ·refine⟨_,rfl,rfl,_,rfl,cZ ?_⟩;refine⟨_,rfl,_,rfl,_,rfl,r,_,rfl,aX.of hr_,fun y1 hy1=>?_⟩;rw[e1];have u1:=aJ.aI (o:=.lst ((ns.take p).map V.int)) hy1;have g1:upd H y1 (.lst ((ns.take p).map V.int)) y1=some (.lst ((ns.take p).map V.int)):=aB;generalize upd H y1 (.lst ((ns.take p).map V.int))=H1 at u1 g1|-;refine⟨_,rfl,_,_,rfl,rfl,_,rfl,_,_,rfl,rfl,⟨by decide,by decide⟩,_,rfl,fun far hf=>⟨_,_,rfl,rfl,?_⟩⟩;refine⟨jS,fun y2 hy2=>?_⟩;have u3:=aJ.aI (o:=.lst [V.int (0-1-far)]) hy2;refine⟨y1,y2,_,_,rfl,rfl,aX.of (u3 _ _ g1),aX.of aB,len1,fun y3 hy3=>?_⟩;have u4:=u3.trans (aJ.aI (o:=.lst ((ns.take p).map V.int++[V.int (0-1-far)])) hy3);have g4:=aB (H:=upd H1 y2 (.lst [V.int (0-1-far)])) (a:=y3) (o:=.lst ((ns.take p).map V.int++[V.int (0-1-far)]));generalize upd _ y3 _=H4 at u4 g4|-;have S4:=u1.trans u4;refine⟨_,rfl,_,rfl,_,_,rfl,rfl,_,rfl,r,_,rfl,aX.of (S4 _ _ hr_),fun y5 hy5=>?_⟩;rw[e2];have u5:=aJ.aI (o:=.lst ((ns.drop (p+1)).map V.int)) hy5;exact⟨y3,y5,_,_,rfl,rfl,aX.of (u5 _ _ g4),aX.of aB,len2 _,fun l hl=>ended _ _ (S4.trans u5) (.int _) (.inr ⟨(fun z=>by cases z),_,rfl,by lia⟩) y3 (u5 _ _ g4) y5 aB l hl⟩
theorem zJ(xs:List V):c8 xs none (some (-1))=xs.take (xs.length-1):=by
 unfold c8;rw[HT.kL,qHk,qIk];congr 1;unfold HT.c9;simp;lia
theorem lK{xs:List V}(h:[2,4,8,16,32,64].contains xs.length=false):eM xs=false:=by
 unfold eM;rw[h];rfl
theorem zK{xs ys:List V}{v:V}(h:eK v=false):eM (xs++[v]++ys)=false:=by
 unfold eM;rw[qFu,qFu,qGk,h,qBi,qBo,qBi,qBo,qBi]
theorem Bf:∀m:_root_.Fin 7,1<=m.1->[2,4,8,16,32,64].contains (2^m.1-1)=false/\[2,4,8,16,32,64].contains (2^m.1+1)=false:=by decide
def BU(K:qAa):Sp:=fun vs H Q _=>∃(r:Addr) (ns:List Int) (m:Nat) (c:Int),vs=[.ref r,.int c]/\H r=some (.lst ((0::ns).map V.int))/\(0::ns).length=2^m/\1<=m/\m<=6/\0<=c /\
 ∀(l:Addr) (xs:List V) (H':Hp),aJ H H'->H' l=some (.lst xs)->(∀v∈xs,Pl K H' v)->xs.length<=1000->eM xs=false->Q (.ref l) H'
theorem zL:aL ["_law_row","_law_number","_law_at","_law_way"] ["_law_row","_law_number"] (aH DE):=by constructor<;>first|rfl|decide +kernel
theorem Fe{f2:Addr}{fd2:qAx}(t:Tx K mg "_law_table_off" DE ["_law_row","_law_number"] f fd)(T:T K mg AL LN RU OW PL PA VO MA NE fE fH rR rO rP rA rV rM rN iR iO iP iA iV iM iN fL SE NG NN NO NR NL NS NT NX NV TM UL)(D_law_odd:Df P w K mg base cE 1 "_law_odd" ["_law_number"] (lI K) f2 fd2):Df P w K mg base cE 2 "_law_table_off" ["_law_row","_law_number"] (BU K) f fd:=by
 refine t.iC zL (fun vs H Q E h=>?_) (fun cdv A outer s H vs Q E hr h=>?_)
 ·obtain⟨r,ns,m,c,rfl,_⟩:=h;rfl
 ·obtain⟨r,ns,m,c,rfl,hr_,hn,m1,m6,c0,k⟩:=h;refine⟨_,(aE (aZ (i:=2) zL.nd rfl cP (aK bP (aK bD (pv 1) aC) (aP bE (by rfl) T.dP dD (aA (pv 0) aD))))
   (aE (aZ (i:=3) zL.nd rfl cP (aK bP (pv 1) aC))
   (aE (bC (aO bJ (pv 3) aC (aS _)) (aG (aN (cA cX (pv 0) cN (cO (Bl wM aC))))) aQ)
   (aE (bC (aO bJ (pv 3) aC (aS _)) (aG (aN (aK cC (pv 0) (bB (aA (pv 1) aD))))) aQ)
   (aE (bC (aO bJ (pv 3) aC (aS _)) (aG (aN (aK cC (bB (aA (aK cG aC (aK bD (pv 1) aC)) aD)) (cA cX (pv 0) (cO aC) cN)))) aQ)
   (aE (bC (PW.pt (pw_and (aO bJ (pv 3) aC (aS _)) (pw_and1 (aO bJ (aP bE (by rfl) T.dP dD (aA (pv 0) aD)) aC (aS _))))) (aG (aN (aK cC (pv 0) (pv 0)))) aQ)
   (aG (aN (aK cC (aK cC (cA cX (pv 0) cN (cO (pv 2))) (bB (aA (bF D_law_odd hr (by decide) (by rfl) (aA (aK bD (pv 1) aC) aD)) aD))) (cA cX (pv 0) (cO (aK cG (pv 2) aC)) cN)))))))))),?_⟩
  have h64:=yJ m6;have m2:2<=2^m:=qCe (by decide:2<=2^1) (qCt (by decide) m1);generalize hN:(0::ns:List Int)=N at hr_ hn;have hNl:(N.map V.int).length=2^m:=by rw[qAc];exact hn
  obtain⟨p,hp,hpn⟩:∃p:Nat,c/8%(((N.map V.int).length:Nat):Int)=(p:Int)/\p<N.length:=by
   rw[qAc];have h0:=qDf (c/8) (b:=(N.length:Int)) (by lia);have h1:=qFe (c/8) (b:=(N.length:Int)) (by lia);exact⟨(c/8%(N.length:Int)).toNat,by lia,by lia⟩
  refine⟨_,rfl,_,_,rfl,rfl,⟨by decide,by decide⟩,_,rfl,r,_,rfl,.inl (aX.of hr_),_,_,rfl,rfl,(by show(0:Int)<((N.map V.int).length:Nat);lia),?_⟩;dsimp only[bH];rw[hp];refine⟨_,rfl,_,_,rfl,rfl,(by show(0:Int)<8;decide),?_⟩;dsimp only[bH];obtain⟨wy,hw⟩:∃wy:Int,c%8=wy:=⟨_,rfl⟩;rw[hw];refine f9 (σ':=[some (.ref r),some (.int c),some (.int (p:Int)),some (.int wy)]) rfl ?_;have e1:c8 (N.map V.int) none (some (p:Int))=(N.take p).map V.int:=by rw[jA,qFj]
  have e2:c8 (N.map V.int) (some ((p:Int)+1)) none=(N.drop (p+1)).map V.int:=by
   rw[show(p:Int)+1=((p+1:Nat):Int) by lia,kY,qFk]
  obtain⟨l1,l2⟩:=Bf ⟨m,by lia⟩ m1;have l1:[2,4,8,16,32,64].contains (2^m-1)=false:=l1;have l2:[2,4,8,16,32,64].contains (2^m+1)=false:=l2;refine⟨_,rfl,rfl,_,rfl,bN (fun h=>?_) (fun h=>?_)⟩
  ·refine⟨_,rfl,_,rfl,_,rfl,r,_,rfl,aX.of hr_,fun l hl=>?_⟩;rw[zJ];refine k l _ _ (.aI hl) aB (fun v hv=>cD v (List.mem_of_mem_take hv)) (by rw[qBv];lia) (lK ?_);rw[qBv,hNl,show min (2^m-1) (2^m)=2^m-1 by lia];exact l1
  dsimp only[cF];refine⟨_,rfl,rfl,_,rfl,bN (fun h=>?_) (fun h=>?_)⟩
  ·refine⟨_,rfl,_,rfl,jS,fun y1 hy1=>?_⟩;have u1:=aJ.aI (o:=.lst [V.int c]) hy1;refine⟨r,y1,_,_,rfl,rfl,aX.of (u1 _ _ hr_),aX.of aB,by rw[hNl];exact qBd (aW (show 2^m+1<=1000 by lia)),fun l hl=>?_⟩;refine k l _ _ (u1.trans (.aI hl)) aB (fun v hv=>?_) (by rw[qAp,hNl];show 2^m+1<=1000;lia) (lK ?_)
   ·rcases List.mem_append.mp hv with hv | hv
    ·exact cD v hv
    ·rw[qCb] at hv;subst hv;exact .int _
   ·rw[qAp,hNl];exact l2
  dsimp only[cF];refine⟨_,rfl,rfl,_,rfl,bN (fun h=>?_) (fun h=>?_)⟩
  ·refine⟨_,rfl,_,_,rfl,rfl,⟨by decide,by decide⟩,_,_,rfl,rfl,jS,fun y1 hy1=>?_⟩;have u1:=aJ.aI (o:=.lst [V.int (1+c/8)]) hy1;have g1:upd H y1 (.lst [V.int (1+c/8)]) y1=some (.lst [V.int (1+c/8)]):=aB;generalize upd H y1 (.lst [V.int (1+c/8)])=H1 at u1 g1|-;refine⟨_,rfl,1,rfl,r,_,rfl,aX.of (u1 _ _ hr_),fun y2 hy2=>?_⟩;have ec:c8 (N.map V.int) (some 1) none=(N.drop 1).map V.int:=by rw[qFk];exact kY (N.map V.int) 1
   rw[ec];have u2:=aJ.aI (o:=.lst ((N.drop 1).map V.int)) hy2;refine⟨y1,y2,_,_,rfl,rfl,aX.of (u2 _ _ g1),aX.of aB,by rw[qAc,qCl];exact qBd (aW (show 1+(N.length-1)<=1000 by lia)),fun l hl=>?_⟩;refine k l _ _ (u1.trans (u2.trans (.aI hl))) aB (fun v hv=>?_) (by rw[qAp,qAc,qCl];show 1+(N.length-1)<=1000;lia) ?_
   ·rcases List.mem_append.mp hv with hv | hv
    ·rw[qCb] at hv;subst hv;exact .int _
    ·exact cD v hv
   ·unfold eM;have z:¬(([V.int (1+c/8)]++(N.drop 1).map V.int)[0]?=some (V.int 0)):=fun z=>by
     have z:1+c/8=0:=V.int.inj (Option.some.inj z);lia
    rw[decide_eq_false z,qBo]
  dsimp only[cF];have len1:((N.take p).map V.int).length+1<=qAg:=by rw[qAc,qBv];exact qBd (aW (by lia))
  have len2:∀v:V,((N.take p).map V.int++[v]).length+((N.drop (p+1)).map V.int).length<=qAg:=fun v=>by
   rw[qAp,qAc,qAc,qBv,qCl];exact qBd (aW (show min p N.length+1+(N.length-(p+1))<=1000 by lia))
  refine fR (fun σ' H'=>H'=H/\σ'=[some (.ref r),some (.int c),some (.int (p:Int)),some (.int wy)]) (fun kk=>?_) ?_
  ·refine⟨_,rfl,rfl,_,rfl,bN (fun h=>?_) (fun _=>cT (kk _ _ ⟨rfl,rfl⟩))⟩;refine⟨_,rfl,r,_,rfl,.inl (aX.of hr_),rfl,_,rfl,bN (fun h2=>?_) (fun _=>kk _ _ ⟨rfl,rfl⟩)⟩;have h2:(((N.map V.int).length:Nat):Int)=64:=V.int.inj (of_decide_eq_true h2);have h2:(N.map V.int).length=64:=by lia
   refine⟨_,rfl,_,rfl,r,r,_,_,rfl,rfl,aX.of hr_,aX.of hr_,by rw[h2];decide,fun l hl=>?_⟩;refine k l _ _ (.aI hl) aB (fun v hv=>?_) (by rw[qAp,h2];decide) (lK (by rw[qAp,h2];decide));rw[<- qBw] at hv;exact cD v hv
  ·rintro σ' H' ⟨rfl,rfl⟩;refine⟨_,rfl,_,rfl,_,rfl,r,_,rfl,aX.of hr_,fun y1 hy1=>?_⟩;rw[e1];have u1:=aJ.aI (o:=.lst ((N.take p).map V.int)) hy1;have g1:upd H' y1 (.lst ((N.take p).map V.int)) y1=some (.lst ((N.take p).map V.int)):=aB;generalize upd H' y1 (.lst ((N.take p).map V.int))=H1 at u1 g1|-;refine⟨_,rfl,_,_,rfl,rfl,⟨by decide,by decide⟩,_,rfl,fun v H2 s2 pv _ iv=>?_⟩;refine⟨jS,fun y2 hy2=>?_⟩;have u3:=aJ.aI (o:=.lst [v]) hy2;refine⟨y1,y2,_,_,rfl,rfl,aX.of (u3 _ _ (s2 _ _ g1)),aX.of aB,len1,fun y3 hy3=>?_⟩;have u4:=u3.trans (aJ.aI (o:=.lst ((N.take p).map V.int++[v])) hy3);have g4:=aB (H:=upd H2 y2 (.lst [v])) (a:=y3) (o:=.lst ((N.take p).map V.int++[v]));generalize upd _ y3 _=H4 at u4 g4|-;have S4:=u1.trans (s2.trans u4);refine⟨_,rfl,_,rfl,_,_,rfl,rfl,_,rfl,r,_,rfl,aX.of (S4 _ _ hr_),fun y5 hy5=>?_⟩;rw[e2];have u5:=aJ.aI (o:=.lst ((N.drop (p+1)).map V.int)) hy5;refine⟨y3,y5,_,_,rfl,rfl,aX.of (u5 _ _ g4),aX.of aB,len2 v,fun l hl=>?_⟩;have u6:=aJ.aI (o:=.lst ((N.take p).map V.int++[v]++(N.drop (p+1)).map V.int)) hl;refine k l _ _ (S4.trans (u5.trans u6)) aB (fun x hx=>?_) ?_ (zK iv)
   ·rcases List.mem_append.mp hx with hx | hx
    ·rcases List.mem_append.mp hx with hx | hx
     ·exact cD x hx
     ·rw[qCb] at hx;subst hx;exact pv.same (u4.trans (u5.trans u6))
    ·exact cD x hx
   ·rw[qAp,qAp,qAc,qAc,qBv,qCl];show min p N.length+1+(N.length-(p+1))<=1000;lia
theorem Ff{H:Hp}{g:Addr}{xs ys:List V}{v:V}(p:Pl K H v)(hg:H g=some (.lst xs)):Pl K (upd H g (.lst ys)) v:=by
 obtain⟨T,a,b⟩:=p.ex;refine⟨T,?_,b⟩;have ne:∀{a:Addr}{o:HO},H a=some o->(∀zs,o≠.lst zs)->a≠g:=fun {a o} e n z=>by
  rw[z,hg] at e;exact n xs (Option.some.inj e).symm
 cases a with
 | non=>exact .non
 | bl x=>exact .bl x
 | int i=>exact .int i
 | str x=>exact .str x
 | flt x=>exact .flt x
 | @lst a zs e =>
  by_cases c:a=g
  ·subst c;exact .lst aB
  ·exact .lst (by rw[aM c];exact e)
 | @frz a o zs e=>exact .frz (by rw[aM (ne e (fun _ z=>nomatch z))];exact e)
 | @tup a zs e=>exact .tup (by rw[aM (ne e (fun _ z=>nomatch z))];exact e)
 | @dK a zs e=>exact .dK (by rw[aM (ne e (fun _ z=>nomatch z))];exact e)
 | @dT a zs e=>exact .dT (by rw[aM (ne e (fun _ z=>nomatch z))];exact e)
theorem Bg{m:Int}{xs:List V}{v:V}(hv:v∈xs)(hi:eK v=false):lM m xs=false:=by
 cases e:lM m xs with
 | false=>rfl
 | true =>
  obtain⟨i,j,n,rfl,_⟩:=k9 e;simp only[qBp,qAw,or_false] at hv;rcases hv with rfl | rfl | rfl <;> cases hi
theorem lL{m a b n:Int}(h:¬(0<=a/\a<b/\b<m)):lM m [.int a,.int b,.int n]=false:=by
 show(decide (0<=a)&&decide (a<b)&&decide (b<m))=false;by_cases h1:0<=a
 ·by_cases h2:a<b
  ·rw[decide_eq_false (show ¬b<m from fun h3=>h ⟨h1,h2,h3⟩),qBo]
  ·rw[decide_eq_false h2,qBo,qBi]
 ·rw[decide_eq_false h1,qBi,qBi]
def jF(K:qAa)(H:Hp)(m mx:Int)(lv:V)(xs:List V):Prop:=(∀v∈xs,Pl K H v)/\xs.length<=4/\(lM m xs=false\/lv≠.non/\∃n:Int,xs=[.int 0,.int mx,.int n]/\n<0)
theorem jF.same{H H':Hp}{m mx:Int}{lv:V}{xs:List V}(h:jF K H m mx lv xs)(s:aJ H H'):jF K H' m mx lv xs:=⟨fun v hv=>(h.1 v hv).same s,h.2⟩
theorem dR{H:Hp}{a b c:Int}:∀v∈[V.int a,.int b,.int c],Pl K H v:=fun v hv=>by
 simp only[qBp,qAw,or_false] at hv;rcases hv with rfl | rfl | rfl <;> exact .int _
def BV(K:qAa):Sp:=fun vs H Q _=>∃(m:Nat) (c:Int) (lv:V),vs=[.int (m:Int),.int c,lv]/\1<=m/\m<=6/\0<=c/\(lv = .non\/lv = .int 0) /\
 ∀(t:Addr) (xs:List V) (H':Hp),aJ H H'->H' t=some (.tup xs)->jF K H' (m:Int) (if (m:Int)-1>1 then (m:Int)-1 else 1) lv xs->Q (.ref t) H'
theorem nF:aL ["_law_many","_law_number","_law_low","_law_good_here","_law_far_here","_law_way"] ["_law_many","_law_number","_law_low"] (aH DF):=by constructor<;>first|rfl|decide +kernel
theorem Fg{f1 f2:Addr}{fd1 fd2:qAx}(t:Tx K mg "_law_pair_off" DF ["_law_many","_law_number","_law_low"] f fd)(T:T K mg AL LN RU OW PL PA VO MA NE fE fH rR rO rP rA rV rM rN iR iO iP iA iV iM iN fL SE NG NN NO NR NL NS NT NX NV TM UL)(D_law_far:Df P w K mg base cE 1 "_law_far" ["_law_number"] rC f1 fd1)(D_law_odd:Df P w K mg base cE 1 "_law_odd" ["_law_number"] (lI K) f2 fd2):Df P w K mg base cE 2 "_law_pair_off" ["_law_many","_law_number","_law_low"] (BV K) f fd:=by
 refine t.iC nF (fun vs H Q E h=>?_) (fun cdv A outer s H vs Q E hr h=>?_)
 ·obtain⟨m,c,lv,rfl,_⟩:=h;rfl
 ·obtain⟨m,c,lv,rfl,m1,m6,c0,hlv,k⟩:=h;refine⟨_,(aE (aZ (i:=3) nF.nd rfl cP (bB (aA aC (aA (aP (uQ rfl) (by rfl) T.pJ CS (aA aC (aA (aK cL (pv 0) aC) aD))) (aA (aK cG aC (aK bP (pv 1) (aK kI aC aC))) aD)))))
   (aE (aZ (i:=4) nF.nd rfl cP (bF D_law_far hr (by decide) (by rfl) (aA (aK bD (pv 1) aC) aD)))
   (aE (aZ (i:=5) nF.nd rfl cP (aK bP (pv 1) aC))
   (aE (bC (aO mC (pv 5) aC (aS _)) (aG (kG (bF D_law_odd hr (by decide) (by rfl) (aA (aK bD (pv 1) aC) aD)) (kF (pv 3) (pv 5) set_list))) aQ)
   (aE (bC (aO bJ (pv 5) aC (aS _)) (aG (kG (aK cL (aK cL aC aC) (pv 4)) (kF (pv 3) aC set_list))) aQ)
   (aE (bC (aO bJ (pv 5) aC (aS _)) (aG (kG (aK cG (pv 0) (pv 4)) (kF (pv 3) aC set_list))) aQ)
   (aE (bC (aO bJ (pv 5) aC (aS _)) (aG (kG (aY aU (pv 3) (aK bP (aK bD (pv 1) aC) aC) (fun _ _=>rfl)) (kF (pv 3) (aK cL aC (aK bP (aK bD (pv 1) aC) aC)) set_list))) aQ)
   (aE (bC (aO bJ (pv 5) aC (aS _)) (aG (aZ (i:=3) nF.nd rfl cP (bB (aA (aY aU (pv 3) aC (fun _ _=>rfl)) (aA (aY aU (pv 3) aC (fun _ _=>rfl)) (aA (aY aU (pv 3) aC (fun _ _=>rfl)) aD)))))) aQ)
   (aE (bC (aO bJ (pv 5) aC (aS _)) (aG (aZ (i:=3) nF.nd rfl cP (cA cX (pv 3) cN (cO aC)))) aQ)
   (aE (bC (PW.pt (pw_and (aO bJ (pv 5) aC (aS _)) (pw_and1 (PW.pt (pw_or (aO Cr (pv 2) iW (aS _)) (pw_or1 (aO bJ (aK bP (aK bD (pv 1) aC) aC) aC (aS _)))))))) (aG (bO (mH qDp qDk qDj eY (pv 3) (aA aC aD)))) (aG (bC (aO bJ (pv 5) aC (aS _)) (aG (kG (aK cL (aK cL (pv 2) aC) (pv 4)) (kF (pv 3) aC set_list))) aQ)))
   (aG (aN (eO lS (by rfl) T.gU pC (aA (pv 3) aD)))))))))))))),?_⟩
  refine⟨_,rfl,_,_,rfl,rfl,_,_,rfl,_,rfl,_,_,rfl,rfl,⟨by decide,by decide,by decide⟩,_,_,rfl,rfl,(by show(0:Int)<10^6;decide),_,_,rfl,rfl,wF,fun g0 hg0=>?_⟩;obtain⟨mx,hmx,mx1⟩:∃mx:Int,(if (m:Int)-1>1 then (m:Int)-1 else 1)=mx/\1<=mx:=⟨_,rfl,by split <;> lia⟩;rw[hmx] at k;obtain⟨n0,hn0⟩:∃n0:Int,4+c%(10:Int)^(6:Int).toNat=n0:=⟨_,rfl⟩;have u0:aJ H (upd H g0 (.lst [V.int 0,V.int mx,V.int n0])):=.aI hg0;have e0:upd H g0 (.lst [V.int 0,V.int mx,V.int n0]) g0=some (.lst [V.int 0,V.int mx,V.int n0]):=aB;show bH 3 (.ref g0) _ (upd H g0 (.lst [V.int 0,V.int (if (m:Int)-1>1 then (m:Int)-1 else 1),V.int (4+c%(10:Int)^(6:Int).toNat)])) _;rw[hmx,hn0];generalize upd H g0 (.lst [V.int 0,V.int mx,V.int n0])=H1 at u0 e0|-;dsimp only[bH];refine⟨_,rfl,_,_,rfl,rfl,⟨by decide,by decide⟩,_,rfl,fun far hf=>?_⟩;dsimp only[bH];refine⟨_,rfl,_,_,rfl,rfl,(by show(0:Int)<9;decide),?_⟩;dsimp only[bH];obtain⟨wy,hw,w0,w9⟩:∃wy:Int,c%9=wy/\0<=wy/\wy<9:=⟨_,rfl,by lia,by lia⟩;rw[hw];refine f9 (σ':=[some (.int (m:Int)),some (.int c),some lv,some (.ref g0),some (.int far),some (.int wy)]) rfl ?_;have put:∀(j:Int) (H':Hp) (ga:Addr) (xs ys:List V),wy<j->aJ H H'->H ga=none->H' ga=some (.lst xs)->(∀v∈ys,Pl K H' v)->ys.length<=4->(lM (m:Int) ys=false\/lv≠.non/\∃n:Int,ys=[.int 0,.int mx,.int n]/\n<0)->aJ H (upd H' ga (.lst ys))/\upd H' ga (.lst ys) ga=some (.lst ys)/\((wy<j/\jF K (upd H' ga (.lst ys)) (m:Int) mx lv ys)\/(j<=wy/\ys=[.int 0,.int mx,.int n0])) :=
   fun j H' ga xs ys hj s1 hga h1 pl hl bad=>⟨s1.upd_ne' hga,aB,.inl ⟨hj,fun v hv=>Ff (pl v hv) h1,hl,bad⟩⟩
  refine fR (fun σ' H'=>∃(ga:Addr) (xs:List V),aJ H H'/\H ga=none/\H' ga=some (.lst xs)/\((wy<3/\jF K H' (m:Int) mx lv xs)\/(3<=wy/\xs=[.int 0,.int mx,.int n0]))/\σ'=[some (.int (m:Int)),some (.int c),some lv,some (.ref ga),some (.int far),some (.int wy)]) (fun kk=>?_) ?_
  ·refine⟨_,rfl,_,_,rfl,rfl,_,rfl,bN (fun h=>?_) (fun h=>kk _ _ ⟨g0,_,u0,hg0,e0,.inr ⟨?_,rfl⟩,rfl⟩)⟩
   ·have h:wy<3:=of_decide_eq_true h;refine⟨_,rfl,_,_,rfl,rfl,⟨by decide,by decide⟩,_,rfl,fun v H2 s2 pv _ iv=>?_⟩;obtain⟨j,rfl⟩:∃j:Nat,wy=(j:Int):=⟨wy.toNat,by lia⟩;have hj:j<3:=by lia
    have hix:zR [V.int 0,V.int mx,V.int n0].length (j:Int)=some j:=by
     unfold zR;rw[if_pos (by lia),if_pos (by show(j:Int)<3;lia)];rfl
    refine⟨_,rfl,_,rfl,g0,_,_,j,rfl,rfl,s2 _ _ e0,hix,?_⟩;obtain⟨a1,a2,a3⟩:=put 3 H2 g0 _ ([V.int 0,V.int mx,V.int n0].set j v) h (u0.trans s2) hg0 (s2 _ _ e0) (fun x hx=>by
     rcases qHj hx with z | z
     ·exact dR x z
     ·rw[z];exact pv) (by rw[qFt];show 3<=4;decide) (.inl (Bg (List.mem_iff_getElem.mpr ⟨j,by rw[qFt];exact hj,List.getElem_set_self _⟩) iv))
    exact kk _ _ ⟨g0,_,a1,hg0,a2,a3,rfl⟩
   ·have:¬wy<3:=fun z=>h (decide_eq_true z);lia
  rintro σ' H2 ⟨ga,xs,s2,hga,h2,hx,rfl⟩;clear e0 u0;refine fR (fun σ' H'=>∃(ga:Addr) (xs:List V),aJ H H'/\H ga=none/\H' ga=some (.lst xs)/\((wy<4/\jF K H' (m:Int) mx lv xs)\/(4<=wy/\xs=[.int 0,.int mx,.int n0]))/\σ'=[some (.int (m:Int)),some (.int c),some lv,some (.ref ga),some (.int far),some (.int wy)]) (fun kk=>?_) ?_
  ·refine⟨_,rfl,rfl,_,rfl,bN (fun h=>?_) (fun h=>kk _ _ ⟨ga,xs,s2,hga,h2,?_,rfl⟩)⟩
   ·have h:wy=3:=V.int.inj (of_decide_eq_true h);rcases hx with ⟨z,_⟩ | ⟨_,rfl⟩
    ·lia
    refine⟨_,_,rfl,rfl,_,rfl,_,_,rfl,rfl,_,rfl,ga,_,_,0,rfl,rfl,h2,rfl,?_⟩;obtain⟨a1,a2,a3⟩:=put 4 H2 ga _ [V.int (0-1-far),V.int mx,V.int n0] (by lia) s2 hga h2 dR (by show 3<=4;decide) (.inl (lL (by lia)));exact kk _ _ ⟨ga,_,a1,hga,a2,a3,rfl⟩
   ·have n:¬wy=3:=fun z=>h (decide_eq_true (by rw[z]));rcases hx with ⟨z,y⟩ | ⟨z,y⟩
    ·exact .inl ⟨by lia,y⟩
    ·exact .inr ⟨by lia,y⟩
  clear hx h2 hga s2 ga xs H2
  rintro σ' H2 ⟨ga,xs,s2,hga,h2,hx,rfl⟩;refine fR (fun σ' H'=>∃(ga:Addr) (xs:List V),aJ H H'/\H ga=none/\H' ga=some (.lst xs)/\((wy<5/\jF K H' (m:Int) mx lv xs)\/(5<=wy/\xs=[.int 0,.int mx,.int n0]))/\σ'=[some (.int (m:Int)),some (.int c),some lv,some (.ref ga),some (.int far),some (.int wy)]) (fun kk=>?_) ?_
  ·refine⟨_,rfl,rfl,_,rfl,bN (fun h=>?_) (fun h=>kk _ _ ⟨ga,xs,s2,hga,h2,?_,rfl⟩)⟩
   ·have h:wy=4:=V.int.inj (of_decide_eq_true h);rcases hx with ⟨z,_⟩ | ⟨_,rfl⟩
    ·lia
    refine⟨_,rfl,_,rfl,_,_,rfl,rfl,_,rfl,ga,_,_,1,rfl,rfl,h2,rfl,?_⟩;obtain⟨a1,a2,a3⟩:=put 5 H2 ga _ [V.int 0,V.int ((m:Int)+far),V.int n0] (by lia) s2 hga h2 dR (by show 3<=4;decide) (.inl (lL (by lia)));exact kk _ _ ⟨ga,_,a1,hga,a2,a3,rfl⟩
   ·have n:¬wy=4:=fun z=>h (decide_eq_true (by rw[z]));rcases hx with ⟨z,y⟩ | ⟨z,y⟩
    ·exact .inl ⟨by lia,y⟩
    ·exact .inr ⟨by lia,y⟩
  clear hx h2 hga s2 ga xs H2
  rintro σ' H2 ⟨ga,xs,s2,hga,h2,hx,rfl⟩;refine fR (fun σ' H'=>∃(ga:Addr) (xs:List V),aJ H H'/\H ga=none/\H' ga=some (.lst xs)/\((wy<6/\jF K H' (m:Int) mx lv xs)\/(6<=wy/\xs=[.int 0,.int mx,.int n0]))/\σ'=[some (.int (m:Int)),some (.int c),some lv,some (.ref ga),some (.int far),some (.int wy)]) (fun kk=>?_) ?_
  ·refine⟨_,rfl,rfl,_,rfl,bN (fun h=>?_) (fun h=>kk _ _ ⟨ga,xs,s2,hga,h2,?_,rfl⟩)⟩
   ·have h:wy=5:=V.int.inj (of_decide_eq_true h);rcases hx with ⟨z,_⟩ | ⟨_,rfl⟩
    ·lia
    obtain⟨v,j,hat,hix,bad⟩:∃(v:Int) (j:Nat),lQ [V.int 0,V.int mx,V.int n0] (c/9%2)=some (.int v)/\zR [V.int 0,V.int mx,V.int n0].length (1-c/9%2)=some j/\lM (m:Int) ([V.int 0,V.int mx,V.int n0].set j (.int v))=false:=by
     rcases(show c/9%2=0\/c/9%2=1 by lia) with hb | hb
     ·exact⟨0,1,by rw[hb];rfl,by rw[hb];rfl,lL (n:=n0) (by lia)⟩
     ·exact⟨mx,0,by rw[hb];exact bA (j:=1) rfl,by rw[hb];rfl,lL (n:=n0) (by lia)⟩
    refine⟨_,rfl,_,rfl,_,_,rfl,rfl,⟨by decide,by decide⟩,_,_,rfl,rfl,(by show(0:Int)<2;decide),ga,_,_,_,rfl,rfl,aX.of h2,hat,_,rfl,_,rfl,_,_,rfl,rfl,⟨by decide,by decide⟩,_,_,rfl,rfl,(by show(0:Int)<2;decide),_,_,rfl,rfl,ga,_,_,j,rfl,rfl,h2,hix,?_⟩;obtain⟨a1,a2,a3⟩:=put 6 H2 ga _ ([V.int 0,V.int mx,V.int n0].set j (.int v)) (by lia) s2 hga h2 (fun x hx=>by
     rcases qHj hx with z | z
     ·exact dR x z
     ·rw[z];exact .int _) (by rw[qFt];show 3<=4;decide) (.inl bad)
    exact kk _ _ ⟨ga,_,a1,hga,a2,a3,rfl⟩
   ·have n:¬wy=5:=fun z=>h (decide_eq_true (by rw[z]));rcases hx with ⟨z,y⟩ | ⟨z,y⟩
    ·exact .inl ⟨by lia,y⟩
    ·exact .inr ⟨by lia,y⟩
  clear hx h2 hga s2 ga xs H2
  rintro σ' H2 ⟨ga,xs,s2,hga,h2,hx,rfl⟩;refine fR (fun σ' H'=>∃(ga:Addr) (xs:List V),aJ H H'/\H ga=none/\H' ga=some (.lst xs)/\((wy<7/\jF K H' (m:Int) mx lv xs)\/(7<=wy/\xs=[.int 0,.int mx,.int n0]))/\σ'=[some (.int (m:Int)),some (.int c),some lv,some (.ref ga),some (.int far),some (.int wy)]) (fun kk=>?_) ?_
  ·refine⟨_,rfl,rfl,_,rfl,bN (fun h=>?_) (fun h=>kk _ _ ⟨ga,xs,s2,hga,h2,?_,rfl⟩)⟩
   ·have h:wy=6:=V.int.inj (of_decide_eq_true h);rcases hx with ⟨z,_⟩ | ⟨_,rfl⟩
    ·lia
    refine⟨_,rfl,ga,_,_,_,rfl,rfl,aX.of h2,bA (j:=1) rfl,_,rfl,ga,_,_,_,rfl,rfl,aX.of h2,bA (j:=0) rfl,_,rfl,ga,_,_,_,rfl,rfl,aX.of h2,bA (j:=2) rfl,wF,fun gb hgb=>?_⟩;have ub:=aJ.aI (o:=.lst [V.int mx,V.int 0,V.int n0]) hgb;exact kk _ _ ⟨gb,_,s2.trans ub,s2.free hgb,aB,.inl ⟨by lia,dR,by show 3<=4;decide,.inl (lL (by lia))⟩,rfl⟩
   ·have n:¬wy=6:=fun z=>h (decide_eq_true (by rw[z]));rcases hx with ⟨z,y⟩ | ⟨z,y⟩
    ·exact .inl ⟨by lia,y⟩
    ·exact .inr ⟨by lia,y⟩
  clear hx h2 hga s2 ga xs H2
  rintro σ' H2 ⟨ga,xs,s2,hga,h2,hx,rfl⟩;refine fR (fun σ' H'=>∃(ga:Addr) (xs:List V),aJ H H'/\H ga=none/\H' ga=some (.lst xs)/\((wy<8/\jF K H' (m:Int) mx lv xs)\/(8<=wy/\xs=[.int 0,.int mx,.int n0]))/\σ'=[some (.int (m:Int)),some (.int c),some lv,some (.ref ga),some (.int far),some (.int wy)]) (fun kk=>?_) ?_
  ·refine⟨_,rfl,rfl,_,rfl,bN (fun h=>?_) (fun h=>kk _ _ ⟨ga,xs,s2,hga,h2,?_,rfl⟩)⟩
   ·have h:wy=7:=V.int.inj (of_decide_eq_true h);rcases hx with ⟨z,_⟩ | ⟨_,rfl⟩
    ·lia
    refine⟨_,rfl,2,rfl,ga,_,rfl,aX.of h2,fun gb hgb=>?_⟩;have ub:=aJ.aI (o:=.lst (c8 [V.int 0,V.int mx,V.int n0] none (some 2))) hgb;have ec:c8 [V.int 0,V.int mx,V.int n0] none (some 2)=[V.int 0,V.int mx]:=jA [V.int 0,V.int mx,V.int n0] 2;refine kk _ _ ⟨gb,_,s2.trans ub,s2.free hgb,aB,.inl ⟨by lia,?_⟩,rfl⟩;rw[ec];exact⟨fun v hv=>dR (c:=0) v (by simp only[qBp,qAw,or_false] at hv|-;rcases hv with h | h;exact .inl h;exact .inr (.inl h)),by show 2<=4;decide,.inl rfl⟩
   ·have n:¬wy=7:=fun z=>h (decide_eq_true (by rw[z]));rcases hx with ⟨z,y⟩ | ⟨z,y⟩
    ·exact .inl ⟨by lia,y⟩
    ·exact .inr ⟨by lia,y⟩
  clear hx h2 hga s2 ga xs H2
  rintro σ' H2 ⟨ga,xs,s2,hga,h2,hx,rfl⟩;refine fR (fun σ' H'=>∃(ga:Addr) (xs:List V),aJ H H'/\H ga=none/\H' ga=some (.lst xs)/\((wy<9/\jF K H' (m:Int) mx lv xs)\/(9<=wy/\xs=[.int 0,.int mx,.int n0]))/\σ'=[some (.int (m:Int)),some (.int c),some lv,some (.ref ga),some (.int far),some (.int wy)]) (fun kk=>?_) ?_
  ·refine⟨_,rfl,rfl,_,rfl,bN (fun h8=>?_) (fun h8=>cT ?_)⟩
   ·have h8':wy=8:=V.int.inj (of_decide_eq_true h8);rcases hx with ⟨z,_⟩ | ⟨_,rfl⟩
    ·lia
    have app:∀zs,zs=[V.int 0,V.int mx,V.int n0]++[V.int 1]->aJ H (upd H2 ga (.lst zs))/\upd H2 ga (.lst zs) ga=some (.lst zs)/\((wy<9/\jF K (upd H2 ga (.lst zs)) (m:Int) mx lv zs)\/(9<=wy/\zs=[.int 0,.int mx,.int n0])):=fun zs e=>by
     subst e;exact put 9 H2 ga _ _ (by lia) s2 hga h2 (fun v hv=>by
      rcases List.mem_append.mp hv with z | z
      ·exact dR v z
      ·rw[qCb] at z;rw[z];exact .int _) (by show 4<=4;decide) (.inl rfl)
    obtain⟨b1,b2,b3⟩:=app _ rfl;rcases hlv with rfl | rfl
    ·exact⟨_,rfl,rfl,_,rfl,cZ (cZ ⟨_,rfl,.inl ⟨rfl,_,aX.of h2⟩,ga,_,_,rfl,rfl,h2,aW (by show 3<=1000;decide),kk _ _ ⟨ga,_,b1,hga,b2,b3,rfl⟩⟩)⟩
    ·refine⟨_,rfl,rfl,_,rfl,cT ⟨_,rfl,_,_,rfl,rfl,⟨by decide,by decide⟩,_,_,rfl,rfl,(by show(0:Int)<2;decide),rfl,_,rfl,bN (fun _=>?_) (fun _=>?_)⟩⟩
     ·exact⟨_,rfl,.inl ⟨rfl,_,aX.of h2⟩,ga,_,_,rfl,rfl,h2,aW (by show 3<=1000;decide),kk _ _ ⟨ga,_,b1,hga,b2,b3,rfl⟩⟩
     ·refine⟨_,rfl,rfl,_,rfl,bN (fun _=>?_) (fun z=>absurd h8 z)⟩;refine⟨_,rfl,_,_,rfl,rfl,_,rfl,_,_,rfl,rfl,_,rfl,ga,_,_,2,rfl,rfl,h2,rfl,?_⟩;obtain⟨a1,a2,a3⟩:=put 9 H2 ga _ [V.int 0,V.int mx,V.int (0-1-far)] (by lia) s2 hga h2 dR (by show 3<=4;decide) (.inr ⟨(fun z=>by cases z),_,rfl,by lia⟩);exact kk _ _ ⟨ga,_,a1,hga,a2,a3,rfl⟩
   ·have n8:¬wy=8:=fun z=>h8 (decide_eq_true (by rw[z]));refine⟨_,rfl,rfl,_,rfl,bN (fun z=>absurd z h8) (fun _=>kk _ _ ⟨ga,xs,s2,hga,h2,?_,rfl⟩)⟩;rcases hx with ⟨z,y⟩ | ⟨z,y⟩
    ·exact .inl ⟨by lia,y⟩
    ·lia
  clear hx h2 hga s2 ga xs H2
  rintro σ' H2 ⟨ga,xs,s2,hga,h2,hx,rfl⟩;rcases hx with ⟨_,bad⟩ | ⟨z,_⟩
  ·refine⟨_,rfl,ga,xs,rfl,.inl ⟨aX.of h2,fun tt htt=>?_⟩⟩;have ut:=aJ.aI (o:=.tup xs) htt;exact k tt xs _ (s2.trans ut) aB (bad.same ut)
  ·lia
theorem nG{m:Int}:∀{xss:List (List V)}{seen:List (Int×Int)},e8 m seen xss=true->seen.Nodup->(seen++xss.map cM).Nodup
 | [],seen,_,h=>by rw[qGq,qCz];exact h
 | x::r,seen,h,hs=>by
  have h':(lM m x && !(seen.contains (cM x))&&e8 m (seen++[cM x]) r)=true:=h;rw[qAn,qAn] at h';have z:=nG h'.2 (by
   rw[qJb];refine⟨hs,by simp,fun a ha b hb=>?_⟩;rw[qCb] at hb;subst hb;intro e;subst e;have:=h'.1.2;simp[ha] at this)
  rw[qEo] at z;exact z
theorem zM:∀(N:Nat) (l:List Nat),l.Nodup->(∀x∈l,x<N)->l.length<=N
 | 0,l,_,h=>by
  cases l with
  | nil=>exact qAl _
  | cons x r=>exact absurd (h x qEc) (by lia)
 | N+1,l,nd,h=>by
  by_cases c:N∈l
  ·have e:=zM N (l.erase N) (nd.erase N) fun x hx=>by
    have z:=(nd.mem_erase_iff).mp hx;have y:=h x z.2;have w:=z.1;lia
   rw[List.length_erase_of_mem c] at e;lia
  ·have e:=zM N l nd fun x hx=>by
    have y:=h x hx;rcases qCa x N with z | z
    ·exact z
    ·have:x=N:=by lia
     exact absurd (this▸hx) c
   lia
def JH(k:Int×Int):Nat:=k.2.toNat*(k.2.toNat-1)/2+k.1.toNat
theorem uH:∀i j i' j':_root_.Fin 6,i.1<j.1->i'.1<j'.1->(j.1*(j.1-1)/2+i.1=j'.1*(j'.1-1)/2+i'.1->i=i'/\j=j')/\j.1*(j.1-1)/2+i.1<15:=by decide +kernel
theorem zN{m:Int}{H:Hp}{as:List Addr}(h:fB m (as.map (bT H))=true):∀b∈as,∃i j n:Int,bT H b=[.int i,.int j,.int n]/\0<=i/\i<j/\j<m:=fun b hb=>k9 (fZ h _ (List.mem_map.mpr ⟨b,hb,rfl⟩))
theorem uI{m:Int}{H:Hp}{as:List Addr}(h:fB m (as.map (bT H))=true):(as.map fun b=>cM (bT H b)).Nodup:=by
 have z:=nG h qHi;rw[qJl,qCg] at z;exact z
theorem bV.of_ok{m:Nat}{H:Hp}{as:List Addr}(m6:m<=6)(h:fB (m:Int) (as.map (bT H))=true)(ht:fA K H as):bV m H as:=by
 have at_:=zN h;have nd:=uI h;refine⟨fun b hb=>?_,nd,?_⟩
 ·obtain⟨i,j,n,e,i0,ij,jm⟩:=at_ b hb;obtain⟨xs,hx,_⟩:=ht b hb;rw[bW hx] at e;subst e;refine⟨i.toNat,j.toNat,n,?_,by lia,by lia⟩;rw[hx,qCy i0,qCy (by lia)]
 ·have le:=zM 15 ((as.map fun b=>cM (bT H b)).map JH) ?_ ?_
  ·rw[qAc,qAc] at le;exact le
  ·refine List.pairwise_map.mpr (nd.imp_of_mem fun {a b} ha hb ne e=>ne ?_);obtain⟨x,hx,rfl⟩:=List.mem_map.mp ha;obtain⟨y,hy,rfl⟩:=List.mem_map.mp hb;obtain⟨i,j,n,ex,i0,ij,jm⟩:=at_ x hx;obtain⟨i',j',n',ey,i0',ij',jm'⟩:=at_ y hy;rw[ex,ey] at e|-;have z:=(uH ⟨i.toNat,by lia⟩ ⟨j.toNat,by lia⟩ ⟨i'.toNat,by lia⟩ ⟨j'.toNat,by lia⟩ (by show i.toNat<j.toNat;lia) (by show i'.toNat<j'.toNat;lia)).1 e;have z1:i.toNat=i'.toNat:=congrArg Fin.val z.1;have z2:j.toNat=j'.toNat:=congrArg Fin.val z.2;show(i,j)=(i',j');rw[show i=i' by lia,show j=j' by lia]
  ·intro k hk;obtain⟨q,hq,rfl⟩:=List.mem_map.mp hk;obtain⟨x,hx,rfl⟩:=List.mem_map.mp hq;obtain⟨i,j,n,ex,i0,ij,jm⟩:=at_ x hx;rw[ex];exact(uH ⟨i.toNat,by lia⟩ ⟨j.toNat,by lia⟩ ⟨i.toNat,by lia⟩ ⟨j.toNat,by lia⟩ (by show i.toNat<j.toNat;lia) (by show i.toNat<j.toNat;lia)).2
def BW(K:qAa)(H:Hp)(m:Nat)(lv:V)(as:List Addr):Prop:=fB (m:Int) (as.map (bT H))=false\/lv≠.non/\bV m H as/\∃a∈as,∃r,fD H a r/\r.2.2<0
def BX(K:qAa):Sp:=fun vs H Q _=>∃(m:Nat) (lp:Addr) (bs:List Addr) (c:Int) (lv:V),vs=[.int (m:Int),.ref lp,.int c,lv]/\H lp=some (.lst (bs.map V.ref))/\bV m H bs/\1<=m/\m<=6/\0<=c/\(lv = .non\/lv = .int 0) /\
 ∀(l:Addr) (as:List Addr) (H':Hp),aJ H H'->H' l=some (.lst (as.map V.ref))->fA K H' as->as.length<64->BW K H' m lv as->Q (.ref l) H'
theorem zO{bs:List Addr}{t:Addr}{p:Nat}:(bs.take p++[t]++bs.drop p).Perm (t::bs):=by
 have z:(bs.take p++[t]++bs.drop p).Perm ([t]++bs.take p++bs.drop p):=List.Perm.append_right _ qIf;have e:[t]++bs.take p++bs.drop p=t::bs:=by rw[qEo,qIe];rfl
 rw[e] at z;exact z
theorem rF:aL ["_law_many","_law_pairs_here","_law_number","_law_low","_law_at","_law_one"] ["_law_many","_law_pairs_here","_law_number","_law_low"] (aH DG):=by constructor<;>first|rfl|decide +kernel
theorem Fh{f1:Addr}{fd1:qAx}(t:Tx K mg "_law_pairs_off" DG ["_law_many","_law_pairs_here","_law_number","_law_low"] f fd)(T:T K mg AL LN RU OW PL PA VO MA NE fE fH rR rO rP rA rV rM rN iR iO iP iA iV iM iN fL SE NG NN NO NR NL NS NT NX NV TM UL)(D_law_pair_off:Df P w K mg base cE 2 "_law_pair_off" ["_law_many","_law_number","_law_low"] (BV K) f1 fd1):Df P w K mg base cE 3 "_law_pairs_off" ["_law_many","_law_pairs_here","_law_number","_law_low"] (BX K) f fd:=by
 refine t.iC rF (fun vs H Q E h=>?_) (fun cdv A outer s H vs Q E hr h=>?_)
 ·obtain⟨m,lp,bs,c,lv,rfl,_⟩:=h;rfl
 ·obtain⟨m,lp,bs,c,lv,rfl,hlp,ok,m1,m6,c0,hlv,k⟩:=h;refine⟨_,(aE (aZ (i:=4) rF.nd rfl cP (aK bP (aK bD (pv 2) aC) (aK cG (aP bE (by rfl) T.dP dD (aA (pv 1) aD)) aC)))
   (aE (aZ (i:=5) rF.nd rfl cP (bF D_law_pair_off hr (by decide) (by rfl) (aA (pv 0) (aA (aK bD (pv 2) aC) (aA (pv 3) aD)))))
   (aE (bC (PW.pt (pw_and (aO bJ (aK bP (pv 2) aC) aC (aS _)) (pw_and1 (aO (CZ hr.units) (pv 1) (bB aD) (aS _))))) (aE (aZ (i:=5) rF.nd rfl cP (aY aU (pv 1) (aK bP (aK bD (pv 2) aC) (aP bE (by rfl) T.dP dD (aA (pv 1) aD))) (fun _ _=>rfl)))
    (aG (aZ (i:=5) rF.nd rfl cP (eA (aA (aY bU (pv 5) aC (fun _ _=>rfl)) (aA (aY bU (pv 5) aC (fun _ _=>rfl)) (aA (aK cG (aY bU (pv 5) aC (fun _ _=>rfl)) (aK bP (pv 2) aC)) aD))))))) aQ)
   (aG (aN (aK cC (aK cC (cA cX (pv 1) cN (cO (pv 4))) (bB (aA (pv 5) aD))) (cA cX (pv 1) (cO (pv 4)) cN))))))),?_⟩
  have b15:=ok.2.2;obtain⟨p,hp⟩:∃p:Nat,c/5%(((bs.map V.ref).length:Int)+1)=(p:Int):=by
   have h0:=qDf (c/5) (b:=((bs.map V.ref).length:Int)+1) (by lia);exact⟨(c/5%(((bs.map V.ref).length:Int)+1)).toNat,by lia⟩
  refine⟨_,rfl,_,_,rfl,rfl,⟨by decide,by decide⟩,_,rfl,lp,_,rfl,.inl (aX.of hlp),_,_,rfl,rfl,_,_,rfl,rfl,(by show 0<((bs.map V.ref).length:Int)+1;lia),?_⟩;dsimp only[bH];rw[hp];refine⟨_,rfl,_,rfl,_,_,rfl,rfl,⟨by decide,by decide⟩,_,rfl,m,_,lv,rfl,m1,m6,by lia,hlv,fun t1 xs1 H1 s1 ht1 bad1=>?_⟩;dsimp only[bH];have hlp1:=s1 _ _ hlp;have Al:bV m H1 bs:=ok.same fun b _ o e=>s1 b o e;refine fR (fun σ' H'=>∃(tt:Addr) (xs:List V),aJ H1 H'/\H' tt=some (.tup xs)/\(∀v∈xs,Pl K H' v)/\xs.length<=4/\(lM (m:Int) xs=false\/(∃b∈bs,cM (bT H1 b)=cM xs)\/lv≠.non/\∃(a b n:Int),xs=[.int a,.int b,.int n]/\n<0)/\σ'=[some (.int (m:Int)),some (.ref lp),some (.int c),some lv,some (.int (p:Int)),some (.ref tt)]) (fun kk=>?_) ?_
  ·have same:∀(σ:St),σ=[some (.int (m:Int)),some (.ref lp),some (.int c),some lv,some (.int (p:Int)),some (.ref t1)]->∃(tt:Addr) (xs:List V),aJ H1 H1/\H1 tt=some (.tup xs)/\(∀v∈xs,Pl K H1 v)/\xs.length<=4/\(lM (m:Int) xs=false\/(∃b∈bs,cM (bT H1 b)=cM xs)\/lv≠.non/\∃(a b n:Int),xs=[.int a,.int b,.int n]/\n<0)/\σ=[some (.int (m:Int)),some (.ref lp),some (.int c),some lv,some (.int (p:Int)),some (.ref tt)]:=fun σ e=>by
    refine⟨t1,xs1,.refl _,ht1,bad1.1,bad1.2.1,?_,e⟩;rcases bad1.2.2 with z | ⟨z,n,e,hn⟩
    ·exact .inl z
    ·exact .inr (.inr ⟨z,_,_,n,e,hn⟩)
   refine⟨_,rfl,_,_,rfl,rfl,(by show(0:Int)<5;decide),rfl,_,rfl,bN (fun _=>?_) (fun _=>cT (kk _ _ (same _ rfl)))⟩;refine⟨_,rfl,by show 0<=qAg;decide,fun z0 hz0=>?_⟩;have uz:=aJ.aI (o:=.lst []) hz0;refine⟨lp,z0,_,rfl,rfl,aX.of (uz _ _ hlp1),aX.of aB,_,rfl,?_⟩;have ez:∀(σ:St),σ=[some (.int (m:Int)),some (.ref lp),some (.int c),some lv,some (.int (p:Int)),some (.ref t1)]->∃(tt:Addr) (xs:List V),aJ H1 (upd H1 z0 (.lst []))/\upd H1 z0 (.lst []) tt=some (.tup xs)/\(∀v∈xs,Pl K (upd H1 z0 (.lst [])) v)/\xs.length<=4/\(lM (m:Int) xs=false\/(∃b∈bs,cM (bT H1 b)=cM xs)\/lv≠.non/\∃(a b n:Int),xs=[.int a,.int b,.int n]/\n<0)/\σ=[some (.int (m:Int)),some (.ref lp),some (.int c),some lv,some (.int (p:Int)),some (.ref tt)]:=fun σ e=>by
    obtain⟨tt,xs,_,a2,a3,a4,a5,a6⟩:=same σ e;exact⟨tt,xs,uz,uz _ _ a2,fun v hv=>(a3 v hv).same uz,a4,a5,a6⟩
   refine bN (fun hne=>?_) (fun _=>kk _ _ (ez _ rfl));have hne:0<bs.length:=by
    have z:=of_decide_eq_true hne;rcases qEi bs.length with y | y
    ·exact absurd (by rw[List.length_eq_zero_iff.mp y];rfl) z
    ·exact y
   have hlpz:=uz _ _ hlp1;have okz:bV m (upd H1 z0 (.lst [])) bs:=Al.same fun b _ o e=>uz b o e;have keyz:∀b∈bs,bT (upd H1 z0 (.lst [])) b=bT H1 b:=fun b hb=>by
    obtain⟨u,v,n,e,_⟩:=Al.1 b hb;rw[bW e,bW (uz _ _ e)]
   generalize upd H1 z0 (.lst [])=Hz at uz hlpz okz keyz|-;obtain⟨j,hj,hjb⟩:∃j:Nat,c/35%(((bs.map V.ref).length:Nat):Int)=(j:Int)/\j<bs.length:=by
    rw[qAc];have h0:=qDf (c/35) (b:=(bs.length:Int)) (by lia);have h1:=qFe (c/35) (b:=(bs.length:Int)) (by lia);exact⟨(c/35%(bs.length:Int)).toNat,by lia,by lia⟩
   have hat:lQ (bs.map V.ref) (c/35%(((bs.map V.ref).length:Nat):Int))=some (.ref bs[j]):=by
    rw[hj];exact j8 (qAk hjb)
   refine⟨_,rfl,_,rfl,_,_,rfl,rfl,⟨by decide,by decide⟩,_,rfl,lp,_,rfl,.inl (aX.of hlpz),_,_,rfl,rfl,(by show(0:Int)<((bs.map V.ref).length:Nat);rw[qAc];lia),lp,_,_,_,rfl,rfl,aX.of hlpz,hat,?_⟩;dsimp only[bH];obtain⟨u,v,n,e,z1,z2⟩:=okz.1 _ (qDs hjb);refine⟨_,rfl,bs[j],_,_,_,rfl,rfl,dU.of e,rfl,_,rfl,bs[j],_,_,_,rfl,rfl,dU.of e,bA (j:=1) rfl,_,rfl,bs[j],_,_,_,rfl,rfl,dU.of e,bA (j:=2) rfl,_,rfl,_,_,rfl,rfl,(by show(0:Int)<2;decide),_,_,rfl,rfl,wF,fun tq htq=>?_⟩;have uq:=aJ.aI (o:=.tup [V.int (u:Int),V.int (v:Int),V.int (n+c%2)]) htq;refine kk _ _ ⟨tq,_,uz.trans uq,aB,dR,by show 3<=4;decide,.inr (.inl ⟨bs[j],qDs hjb,?_⟩),rfl⟩;rw[<- keyz _ (qDs hjb),bW e];rfl
  ·rintro σ' H2 ⟨tt,xs,s2,ht2,pl2,x4,bad2,rfl⟩;have hlp2:=s2 _ _ hlp1;have ok2:bV m H2 bs:=Al.same fun b _ o e=>s2 b o e;have e1:c8 (bs.map V.ref) (some (p:Int)) none=(bs.drop p).map V.ref:=by rw[kY,qFk]
   have e2:c8 (bs.map V.ref) none (some (p:Int))=(bs.take p).map V.ref:=by rw[jA,qFj]
   refine⟨_,rfl,_,rfl,_,rfl,lp,_,rfl,aX.of hlp2,fun y1 hy1=>?_⟩;rw[e2];have u1:=aJ.aI (o:=.lst ((bs.take p).map V.ref)) hy1;refine⟨_,rfl,jS,fun y2 hy2=>?_⟩;have u2:=aJ.aI (o:=.lst [V.ref tt]) hy2;refine⟨y1,y2,_,_,rfl,rfl,aX.of (u2 _ _ aB),aX.of aB,by rw[qAc,qBv];exact qBd (aW (show min p bs.length+1<=1000 by lia)),fun y3 hy3=>?_⟩;have u3:=(u1.trans u2).trans (aJ.aI (o:=.lst ((bs.take p).map V.ref++[V.ref tt])) hy3);have g3:=aB (H:=upd (upd H2 y1 (.lst ((bs.take p).map V.ref))) y2 (.lst [V.ref tt])) (a:=y3) (o:=.lst ((bs.take p).map V.ref++[V.ref tt]));generalize upd _ y3 _=H3 at u3 g3|-;refine⟨_,rfl,_,rfl,_,rfl,lp,_,rfl,aX.of (u3 _ _ hlp2),fun y4 hy4=>?_⟩;rw[e1];have u4:=aJ.aI (o:=.lst ((bs.drop p).map V.ref)) hy4;refine⟨y3,y4,_,_,rfl,rfl,aX.of (u4 _ _ g3),aX.of aB,by rw[qAp,qAc,qAc,qBv,qCl];exact qBd (aW (show min p bs.length+1+(bs.length-p)<=1000 by lia)),fun l hl=>?_⟩;have u5:=u3.trans (u4.trans (aJ.aI (o:=.lst ((bs.take p).map V.ref++[V.ref tt]++(bs.drop p).map V.ref)) hl));have g5:upd (upd H3 y4 (.lst ((bs.drop p).map V.ref))) l (.lst ((bs.take p).map V.ref++[V.ref tt]++(bs.drop p).map V.ref)) l=some (.lst ((bs.take p++[tt]++bs.drop p).map V.ref)):=by rw[aB,qBw,qBw];rfl
   generalize upd _ l _=H5 at u5 g5|-;have pm:=zO (bs:=bs) (t:=tt) (p:=p);have ok5:bV m H5 bs:=ok2.same fun b _ o e=>u5 b o e;have tu:fA K H5 (bs.take p++[tt]++bs.drop p):=fun a ha=>by
    rcases List.mem_cons.mp (pm.mem_iff.mp ha) with rfl | ha
    ·exact⟨xs,u5 _ _ ht2,fun v hv=>(pl2 v hv).same u5,by lia⟩
    ·exact ok5.eT a ha
   refine k l _ H5 (s1.trans (s2.trans u5)) g5 tu (by rw[pm.length_eq];show bs.length+1<64;lia) ?_;unfold BW;cases hb:fB (m:Int) ((bs.take p++[tt]++bs.drop p).map (bT H5)) with
   | false=>exact .inl rfl
   | true =>
    have mt:tt∈bs.take p++[tt]++bs.drop p:=pm.mem_iff.mpr qEc;have et:bT H5 tt=xs:=bW (u5 _ _ ht2);rcases bad2 with z | ⟨b,hb',z⟩ | ⟨z,a,b,n,e,hn⟩
    ·obtain⟨i,j,n,e,i0,ij,jm⟩:=zN hb tt mt;have y:=fZ hb _ (List.mem_map.mpr ⟨tt,mt,rfl⟩);rw[et,z] at y;cases y
    ·have nd:=((pm.map fun b=>cM (bT H5 b)).nodup_iff).mp (uI hb);rw[qBq,qGz,et] at nd;refine absurd (List.mem_map.mpr ⟨b,hb',?_⟩) nd.1;obtain⟨u,v,n,e,_⟩:=Al.1 b hb';rw[<- z,bW e,bW (u5 _ _ (s2 _ _ e))]
    ·refine .inr ⟨z,bV.of_ok m6 hb tu,tt,mt,?_⟩;obtain⟨i,j,n',e',i0,ij,jm⟩:=zN hb tt mt;rw[et,e] at e';have ea:a=i:=V.int.inj (List.cons.inj e').1;have eb:b=j:=V.int.inj (List.cons.inj (List.cons.inj e').2).1;refine⟨(a.toNat,b.toNat,n),?_,hn⟩;show H5 tt=some (.tup [.int ((a.toNat:Nat):Int),.int ((b.toNat:Nat):Int),.int n]);rw[u5 _ _ ht2,e,qCy (by lia),qCy (by lia)]
theorem Ij{c z:V}{xs:List V}(h:eK c=false):lC c z xs=false:=by
 unfold lC;rw[h,qBo,qBi,qBi]
theorem Ik{c z:V}{xs:List V}(h:eK z=false):lC c z xs=false:=by
 unfold lC;rw[h,qBo,qBi]
theorem Il{q:Int}{z:V}{xs:List V}(h:q<1):lC (.int q) z xs=false:=by
 unfold lC;show(okN xs&&eK (.int q)&&eK z&&decide (1<=q))=false;rw[decide_eq_false (by lia),qBo]
theorem Im{c z:V}{xs:List V}(h:okN xs=false):lC c z xs=false:=by
 unfold lC;rw[h,qBi,qBi,qBi]
theorem jE.Iz{H:Hp}{q:Addr}{xs:List V}(h:H q=some (.lst xs))(pl:∀v∈xs,Pl K H v):jE K H (.ref q):=.inr ⟨q,xs,rfl,h,fun z hz=>Pl.JE (pl z hz)⟩
def BY(K:qAa):Sp:=fun vs H Q _=>∃(l q:Addr) (cq z c:Int) (ns:List Int),vs=[.ref l,.int c]/\H l=some (.lst [.int cq,.int z,.ref q])/\H q=some (.lst (ns.map V.int))/\1<=ns.length/\ns.length<=6/\0<=c /\
 ∀(l':Addr) (ps:List V) (H':Hp),aJ H H'->H' l'=some (.lst ps)->ps.length<=10->oK K H' 2 ps->(∀v∈ps,jE K H' v)->Q (.ref l') H'
theorem IA{H:Hp}{a b c:V}(ha:jE K H a)(hb:jE K H b)(hc:jE K H c):∀v∈[a,b,c],jE K H v:=fun v hv=>by
 simp only[qBp,qAw,or_false] at hv;rcases hv with rfl | rfl | rfl
 ·exact ha
 ·exact hb
 ·exact hc
theorem IB{H:Hp}{a b:V}(ha:jE K H a)(hb:jE K H b):∀v∈[a,b],jE K H v:=fun v hv=>by
 simp only[qBp,qAw,or_false] at hv;rcases hv with rfl | rfl
 ·exact ha
 ·exact hb
theorem JI{H:Hp}{a:V}(ha:jE K H a):∀v∈[a],jE K H v:=fun v hv=>by
 rw[qCb] at hv;subst hv;exact ha
theorem BZ:aL ["_law_parts","_law_number","_law_way"] ["_law_parts","_law_number"] (aH DI):=by constructor<;>first|rfl|decide +kernel
theorem Fi{f1 f2 f3:Addr}{fd1 fd2 fd3:qAx}(t:Tx K mg "_law_votes_off" DI ["_law_parts","_law_number"] f fd)(T:T K mg AL LN RU OW PL PA VO MA NE fE fH rR rO rP rA rV rM rN iR iO iP iA iV iM iN fL SE NG NN NO NR NL NS NT NX NV TM UL)(D_law_far:Df P w K mg base cE 1 "_law_far" ["_law_number"] rC f1 fd1)(D_law_odd:Df P w K mg base cE 1 "_law_odd" ["_law_number"] (lI K) f2 fd2)(D_law_list_off:Df P w K mg base cE 2 "_law_list_off" ["_law_row","_law_number","_law_low"] (zH K) f3 fd3):Df P w K mg base cE 3 "_law_votes_off" ["_law_parts","_law_number"] (BY K) f fd:=by
 refine t.iC BZ (fun vs H Q E h=>?_) (fun cdv A outer s H vs Q E hr h=>?_)
 ·obtain⟨l,q,cq,z,c,ns,rfl,_⟩:=h;rfl
 ·obtain⟨l,q,cq,z,c,ns,rfl,hl,hq,n1,n6,c0,k⟩:=h;refine⟨_,(aE (aZ (i:=2) BZ.nd rfl cP (aK bP (pv 1) aC))
   (aE (bC (aO bJ (pv 2) aC (aS _)) (aG (aN (bB (aA (bF D_law_odd hr (by decide) (by rfl) (aA (aK bD (pv 1) aC) aD)) (aA (aY aU (pv 0) aC (fun _ _=>rfl)) (aA (aY aU (pv 0) aC (fun _ _=>rfl)) aD)))))) aQ)
   (aE (bC (aO bJ (pv 2) aC (aS _)) (aG (aN (bB (aA (aY aU (pv 0) aC (fun _ _=>rfl)) (aA (bF D_law_odd hr (by decide) (by rfl) (aA (aK bD (pv 1) aC) aD)) (aA (aY aU (pv 0) aC (fun _ _=>rfl)) aD)))))) aQ)
   (aE (bC (aO bJ (pv 2) aC (aS _)) (aG (aN (bB (aA (aK cL aC (bF D_law_far hr (by decide) (by rfl) (aA (aK bD (pv 1) aC) aD))) (aA (aY aU (pv 0) aC (fun _ _=>rfl)) (aA (aY aU (pv 0) aC (fun _ _=>rfl)) aD)))))) aQ)
   (aG (aN (bB (aA (aY aU (pv 0) aC (fun _ _=>rfl)) (aA (aY aU (pv 0) aC (fun _ _=>rfl)) (aA (bF D_law_list_off hr (by decide) (by rfl) (aA (aY aU (pv 0) aC (fun _ _=>rfl)) (aA (aK bD (pv 1) aC) (aA iW aD)))) aD)))))))))),?_⟩
  refine⟨_,rfl,_,_,rfl,rfl,(by show(0:Int)<4;decide),?_⟩;dsimp only[bH];obtain⟨wy,hw⟩:∃wy:Int,c%4=wy:=⟨_,rfl⟩;rw[hw];refine f9 (σ':=[some (.ref l),some (.int c),some (.int wy)]) rfl ?_;have n1000:(ns.map V.int).length<=1000:=by rw[qAc];lia
  refine⟨_,rfl,rfl,_,rfl,bN (fun h=>?_) (fun h=>?_)⟩
  ·refine⟨_,rfl,_,_,rfl,rfl,⟨by decide,by decide⟩,_,rfl,fun v H1 s1 pv cv iv=>?_⟩;refine⟨_,rfl,l,_,_,_,rfl,rfl,aX.of (s1 _ _ hl),bA (j:=1) rfl,_,rfl,l,_,_,_,rfl,rfl,aX.of (s1 _ _ hl),bA (j:=2) rfl,wF,fun l' hl'=>?_⟩;have u:=aJ.aI (o:=.lst [v,.int z,.ref q]) hl';have hq':=(s1.trans u) _ _ hq;exact k l' _ _ (s1.trans u) aB (by show 3<=10;decide) ⟨q,v,.int z,_,rfl,pv.same u,.int _,hq',cD,n1000,Ij iv⟩ (IA (cv.same u) (.int _) (.ints hq'))
  dsimp only[cF];refine⟨_,rfl,rfl,_,rfl,bN (fun h=>?_) (fun h=>?_)⟩
  ·refine⟨_,rfl,l,_,_,_,rfl,rfl,aX.of hl,rfl,_,rfl,_,_,rfl,rfl,⟨by decide,by decide⟩,_,rfl,fun v H1 s1 pv cv iv=>?_⟩;refine⟨_,rfl,l,_,_,_,rfl,rfl,aX.of (s1 _ _ hl),bA (j:=2) rfl,wF,fun l' hl'=>?_⟩;have u:=aJ.aI (o:=.lst [.int cq,v,.ref q]) hl';have hq':=(s1.trans u) _ _ hq;exact k l' _ _ (s1.trans u) aB (by show 3<=10;decide) ⟨q,.int cq,v,_,rfl,.int _,pv.same u,hq',cD,n1000,Ik iv⟩ (IA (.int _) (cv.same u) (.ints hq'))
  dsimp only[cF];refine⟨_,rfl,rfl,_,rfl,bN (fun h=>?_) (fun h=>?_)⟩
  ·refine⟨_,rfl,_,_,rfl,rfl,⟨by decide,by decide⟩,_,rfl,fun far hf=>⟨_,_,rfl,rfl,?_⟩⟩;refine⟨_,rfl,l,_,_,_,rfl,rfl,aX.of hl,bA (j:=1) rfl,_,rfl,l,_,_,_,rfl,rfl,aX.of hl,bA (j:=2) rfl,wF,fun l' hl'=>?_⟩;have u:=aJ.aI (o:=.lst [.int (0-far),.int z,.ref q]) hl';have hq':=u _ _ hq;exact k l' _ _ u aB (by show 3<=10;decide) ⟨q,.int (0-far),.int z,_,rfl,.int _,.int _,hq',cD,n1000,Il (by lia)⟩ (IA (.int _) (.int _) (.ints hq'))
  dsimp only[cF];refine⟨_,rfl,l,_,_,_,rfl,rfl,aX.of hl,rfl,_,rfl,l,_,_,_,rfl,rfl,aX.of hl,bA (j:=1) rfl,_,rfl,l,_,_,_,rfl,rfl,aX.of hl,bA (j:=2) rfl,_,rfl,_,_,rfl,rfl,⟨by decide,by decide⟩,q,ns,_,.non,rfl,hq,n1,n6,by lia,.inl rfl,fun q1 xs H1 s1 h1 pl hx no _=>?_⟩;refine⟨wF,fun l' hl'=>?_⟩;have u:=aJ.aI (o:=.lst [.int cq,.int z,.ref q1]) hl';exact k l' _ _ (s1.trans u) aB (by show 3<=10;decide) ⟨q1,.int cq,.int z,xs,rfl,.int _,.int _,u _ _ h1,fun v hv=>(pl v hv).same u,hx,Im (no rfl)⟩ (IA (.int _) (.int _) (.Iz (u _ _ h1) fun v hv=>(pl v hv).same u))
def Ca(K:qAa):Sp:=fun vs H Q _=>∃(k m:Nat) (l:Addr) (c:Int) (ps:List V),vs=[.int (k:Int),.int (m:Int),.ref l,.int c]/\k<7/\1<=m/\m<=6/\0<=c/\H l=some (.lst ps)/\fV H k m ps /\
 ∀(l':Addr) (ps':List V) (H':Hp),aJ H H'->H' l'=some (.lst ps')->ps'.length<=10->oK K H' k ps'->(∀v∈ps',jE K H' v)->Q (.ref l') H'
theorem Io:aL ["_law_kind","_law_many","_law_parts","_law_number"] ["_law_kind","_law_many","_law_parts","_law_number"] (aH DJ):=by constructor<;>first|rfl|decide +kernel
theorem Fj{f1 f2 f3 f4 f5:Addr}{fd1 fd2 fd3 fd4 fd5:qAx}(t:Tx K mg "_law_off" DJ ["_law_kind","_law_many","_law_parts","_law_number"] f fd)(T:T K mg AL LN RU OW PL PA VO MA NE fE fH rR rO rP rA rV rM rN iR iO iP iA iV iM iN fL SE NG NN NO NR NL NS NT NX NV TM UL)(D_law_many_off:Df P w K mg base cE 2 "_law_many_off" ["_law_number"] (BJ K) f1 fd1)(D_law_list_off:Df P w K mg base cE 2 "_law_list_off" ["_law_row","_law_number","_law_low"] (zH K) f2 fd2)(D_law_votes_off:Df P w K mg base cE 3 "_law_votes_off" ["_law_parts","_law_number"] (BY K) f3 fd3)(D_law_table_off:Df P w K mg base cE 2 "_law_table_off" ["_law_row","_law_number"] (BU K) f4 fd4)(D_law_pairs_off:Df P w K mg base cE 3 "_law_pairs_off" ["_law_many","_law_pairs_here","_law_number","_law_low"] (BX K) f5 fd5):Df P w K mg base cE 4 "_law_off" ["_law_kind","_law_many","_law_parts","_law_number"] (Ca K) f fd:=by
 refine t.iC Io (fun vs H Q E h=>?_) (fun cdv A outer s H vs Q E hr h=>?_)
 ·obtain⟨k,m,l,c,ps,rfl,_⟩:=h;rfl
 ·obtain⟨k,m,l,c,ps,rfl,k7,m1,m6,c0,hl,gd,kk⟩:=h;refine⟨_,(aE (bC (aO bJ (pv 0) aC (aS _)) (aG (aN (bB (aA (bF D_law_many_off hr (by decide) (by rfl) (aA (pv 3) aD)) aD)))) aQ)
   (aE (bC (aO bJ (pv 0) aC (aS _)) (aG (aN (bB (aA (bF D_law_list_off hr (by decide) (by rfl) (aA (aY aU (pv 2) aC (fun _ _=>rfl)) (aA (pv 3) (aA iW aD)))) aD)))) aQ)
   (aE (bC (aO bJ (pv 0) aC (aS _)) (aG (aN (bF D_law_votes_off hr (by decide) (by rfl) (aA (pv 2) (aA (pv 3) aD))))) aQ)
   (aE (bC (aO bJ (pv 0) aC (aS _)) (aG (aN (bB (aA (bF D_law_table_off hr (by decide) (by rfl) (aA (aY aU (pv 2) aC (fun _ _=>rfl)) (aA (pv 3) aD))) aD)))) aQ)
   (aE (bC (PW.pt (pw_and (aO bJ (pv 0) aC (aS _)) (pw_and1 (aO bJ (aK bP (pv 3) aC) aC (aS _))))) (aG (aN (bB (aA (bF D_law_list_off hr (by decide) (by rfl) (aA (aY aU (pv 2) aC (fun _ _=>rfl)) (aA (aK bD (pv 3) aC) (aA aC aD)))) (aA (aY aU (pv 2) aC (fun _ _=>rfl)) aD))))) aQ)
   (aE (bC (aO bJ (pv 0) aC (aS _)) (aG (aN (bB (aA (aY aU (pv 2) aC (fun _ _=>rfl)) (aA (bF D_law_pairs_off hr (by decide) (by rfl) (aA (pv 1) (aA (aY aU (pv 2) aC (fun _ _=>rfl)) (aA (aK bD (pv 3) aC) (aA aC aD))))) aD))))) aQ)
   (aE (bC (aO bJ (aK bP (pv 3) aC) aC (aS _)) (aG (aN (bB (aA (bF D_law_many_off hr (by decide) (by rfl) (aA (aK bD (pv 3) aC) aD)) (aA (aY aU (pv 2) aC (fun _ _=>rfl)) aD))))) aQ)
   (aG (aN (bB (aA (aY aU (pv 2) aC (fun _ _=>rfl)) (aA (bF D_law_pairs_off hr (by decide) (by rfl) (aA (pv 1) (aA (aY aU (pv 2) aC (fun _ _=>rfl)) (aA (aK bD (pv 3) aC) (aA iW aD))))) aD)))))))))))),?_⟩
  refine⟨_,rfl,rfl,_,rfl,bN (fun h=>?_) (fun h=>?_)⟩
  ·obtain rfl:k=0:=by have:=rH h;lia
   refine⟨_,rfl,_,rfl,fun v H1 s1 pv cv no=>⟨jS,fun l' hl'=>?_⟩⟩;have u:=aJ.aI (o:=.lst [v]) hl';exact kk l' _ _ (s1.trans u) aB (by show 1<=10;decide) ⟨v,rfl,pv.same u,no⟩ (JI (cv.same u))
  have n0:=tD h;dsimp only[cF];refine⟨_,rfl,rfl,_,rfl,bN (fun h=>?_) (fun h=>?_)⟩
  ·obtain rfl:k=1:=by have:=rH h;lia
   obtain⟨q,ns,rfl,hq,hns⟩:=gd;refine⟨_,rfl,l,_,_,_,rfl,rfl,aX.of hl,rfl,_,rfl,q,ns,_,.non,rfl,hq,by lia,by lia,c0,.inl rfl,fun q1 xs H1 s1 h1 pl hx no _=>⟨jS,fun l' hl'=>?_⟩⟩;have u:=aJ.aI (o:=.lst [.ref q1]) hl';have pl':∀v∈xs,Pl K (upd H1 l' (.lst [.ref q1])) v:=fun v hv=>(pl v hv).same u;exact kk l' _ _ (s1.trans u) aB (by show 1<=10;decide) ⟨q1,xs,rfl,u _ _ h1,pl',hx,no rfl⟩ (JI (.Iz (u _ _ h1) pl'))
  have n1:=tD h;dsimp only[cF];refine⟨_,rfl,rfl,_,rfl,bN (fun h=>?_) (fun h=>?_)⟩
  ·obtain rfl:k=2:=by have:=rH h;lia
   obtain⟨q,cq,z,ns,rfl,hq,hns,hc⟩:=gd;exact⟨_,rfl,_,rfl,l,q,cq,z,c,ns,rfl,hl,hq,by lia,by lia,c0,kk⟩
  have n2:=tD h;dsimp only[cF];refine⟨_,rfl,rfl,_,rfl,bN (fun h=>?_) (fun h=>?_)⟩
  ·obtain rfl:k=3:=by have:=rH h;lia
   obtain⟨q,ns,rfl,hq,hns⟩:=gd;refine⟨_,rfl,l,_,_,_,rfl,rfl,aX.of hl,rfl,_,rfl,q,ns,m,_,rfl,hq,hns,m1,m6,c0,fun q1 xs H1 s1 h1 pl hx no=>⟨jS,fun l' hl'=>?_⟩⟩;have u:=aJ.aI (o:=.lst [.ref q1]) hl';have pl':∀v∈xs,Pl K (upd H1 l' (.lst [.ref q1])) v:=fun v hv=>(pl v hv).same u;exact kk l' _ _ (s1.trans u) aB (by show 1<=10;decide) ⟨q1,xs,rfl,u _ _ h1,pl',hx,no⟩ (JI (.Iz (u _ _ h1) pl'))
  have n3:=tD h;dsimp only[cF];by_cases k6:k=6
  ·subst k6;obtain⟨p,q,cs,as,rfl,hp,hcs,cs0,hq,ok,r0⟩:=gd;subst hcs;have a15:=ok.2.2;refine⟨_,rfl,rfl,_,rfl,bN (fun _=>?_) (fun h=>absurd (decide_eq_true rfl) h)⟩;refine⟨_,rfl,_,_,rfl,rfl,(by show(0:Int)<2;decide),rfl,_,rfl,bN (fun _=>?_) (fun _=>?_)⟩
   ·refine⟨_,rfl,l,_,_,_,rfl,rfl,aX.of hl,rfl,_,rfl,_,_,rfl,rfl,⟨by decide,by decide⟩,p,cs,_,.int 0,rfl,hp,by lia,by lia,by lia,.inr rfl,fun q1 xs H1 s1 h1 pl hx _ no=>?_⟩;refine⟨_,rfl,l,_,_,_,rfl,rfl,aX.of (s1 _ _ hl),bA (j:=1) rfl,tF,fun l' hl'=>?_⟩;have u:=aJ.aI (o:=.lst [.ref q1,.ref q]) hl';have pl':∀v∈xs,Pl K (upd H1 l' (.lst [.ref q1,.ref q])) v:=fun v hv=>(pl v hv).same u;have ok':bV cs.length (upd H1 l' (.lst [.ref q1,.ref q])) as:=ok.same fun b _ o e=>(s1.trans u) b o e;exact kk l' _ _ (s1.trans u) aB (by show 2<=10;decide) ⟨q1,q,xs,as,rfl,u _ _ h1,pl',hx,(s1.trans u) _ _ hq,ok'.eT,by lia,.inl no⟩ (IB (.Iz (u _ _ h1) pl') (.refs ((s1.trans u) _ _ hq)))
   ·dsimp only[cF];refine⟨_,rfl,rfl,_,rfl,bN (fun _=>?_) (fun h=>absurd (decide_eq_true rfl) h)⟩;refine⟨_,rfl,l,_,_,_,rfl,rfl,aX.of hl,rfl,_,rfl,_,rfl,l,_,_,_,rfl,rfl,aX.of hl,bA (j:=1) rfl,_,rfl,_,_,rfl,rfl,⟨by decide,by decide⟩,cs.length,q,as,_,.int 0,rfl,hq,ok,m1,m6,by lia,.inr rfl,fun q1 as' H1 s1 h1 ht h64 bad=>?_⟩;refine⟨tF,fun l' hl'=>?_⟩;have u:=aJ.aI (o:=.lst [.ref p,.ref q1]) hl';refine kk l' _ _ (s1.trans u) aB (by show 2<=10;decide) ⟨p,q1,_,as',rfl,(s1.trans u) _ _ hp,cD,by rw[qAc];lia,u _ _ h1,dF ht u,h64,.inr ⟨cs,rfl,m1,m6,cs0,?_⟩⟩ (IB (.ints ((s1.trans u) _ _ hp)) (.refs (u _ _ h1)));rcases bad with no | ⟨_,ok',a,ha,r,pr,r0⟩
    ·exact .inl (by rw[ht.eq fun a xs e=>u _ _ e];exact no)
    ·exact .inr ⟨ok'.same fun b _ o e=>u b o e,a,ha,r,u _ _ pr,r0⟩
  have n6:¬(k:Int)=6:=by lia
  have d6:¬decide (V.int (k:Int)=V.int 6)=true:=fun h=>n6 (rH h);refine⟨_,rfl,rfl,_,rfl,bN (fun h=>absurd h d6) (fun _=>cT ?_)⟩;dsimp only[cF];refine⟨_,rfl,rfl,_,rfl,bN (fun h=>absurd h d6) (fun _=>?_)⟩;dsimp only[cF];obtain⟨q,as,rfl,hq,ok,mk⟩:∃(q:Addr) (as:List Addr),ps=[.int (m:Int),.ref q]/\H q=some (.lst (as.map V.ref))/\bV m H as/\∀(H':Hp) (q':Addr) (v:V) (as':List Addr),Pl K H' v->H' q'=some (.lst (as'.map V.ref))->fA K H' as'->as'.length<64->(gD 1 6 v=false\/∃m:Nat,v = .int (m:Int)/\1<=m/\m<=6/\fB (m:Int) (as'.map (bT H'))=false)->oK K H' k [v,.ref q']:=by
   obtain rfl | rfl:k=4\/k=5:=by lia
   ·obtain⟨q,as,e,hq,ok⟩:=gd;exact⟨q,as,e,hq,ok,fun H' q' v as' a1 a2 a3 a4 a5=>⟨q',v,as',rfl,a1,a2,a3,a4,a5⟩⟩
   ·obtain⟨q,as,e,hq,ok⟩:=gd;exact⟨q,as,e,hq,ok,fun H' q' v as' a1 a2 a3 a4 a5=>⟨q',v,as',rfl,a1,a2,a3,a4,a5⟩⟩
  have a15:=ok.2.2;refine⟨_,rfl,_,_,rfl,rfl,(by show(0:Int)<8;decide),rfl,_,rfl,bN (fun _=>?_) (fun _=>?_)⟩
  ·refine⟨_,rfl,_,_,rfl,rfl,⟨by decide,by decide⟩,_,rfl,fun v H1 s1 pv cv no=>?_⟩;refine⟨_,rfl,l,_,_,_,rfl,rfl,aX.of (s1 _ _ hl),bA (j:=1) rfl,tF,fun l' hl'=>?_⟩;have u:=aJ.aI (o:=.lst [v,.ref q]) hl';have ok':bV m (upd H1 l' (.lst [v,.ref q])) as:=ok.same fun b _ o e=>(s1.trans u) b o e;exact kk l' _ _ (s1.trans u) aB (by show 2<=10;decide) (mk _ q v as (pv.same u) ((s1.trans u) _ _ hq) ok'.eT (by lia) (.inl no)) (IB (cv.same u) (.refs ((s1.trans u) _ _ hq)))
  ·dsimp only[cF];refine⟨_,rfl,l,_,_,_,rfl,rfl,aX.of hl,rfl,_,rfl,_,rfl,l,_,_,_,rfl,rfl,aX.of hl,bA (j:=1) rfl,_,rfl,_,_,rfl,rfl,⟨by decide,by decide⟩,m,q,as,_,.non,rfl,hq,ok,m1,m6,by lia,.inl rfl,fun q1 as' H1 s1 h1 ht h64 bad=>?_⟩;refine⟨tF,fun l' hl'=>?_⟩;have u:=aJ.aI (o:=.lst [.int (m:Int),.ref q1]) hl';refine kk l' _ _ (s1.trans u) aB (by show 2<=10;decide) (mk _ q1 _ as' (.int _) (u _ _ h1) (dF ht u) h64 (.inr ⟨m,rfl,m1,m6,?_⟩)) (IB (.int _) (.refs (u _ _ h1)));rcases bad with no | ⟨z,_⟩
   ·rw[ht.eq fun a xs e=>u _ _ e];exact no
   ·exact absurd rfl z
def uJ(K:qAa):Sp:=fun vs H Q _=>∃(a:Addr) (ns:List Int),vs=[.ref a]/\aX K H a (ns.map V.int)/\ns.length<=63/\∀H',Q (.bl true) H'
theorem tE.Ka{H:Hp}{ps ps':List V}(c:tE H ps ps'):∀(i:Nat) (x y:V),ps'[i]?=some x->ps[i]?=some y->JT K H x y:=fun i x y e1 e2=>by
 rcases c.2 i y x e2 e1 with ⟨rfl,im⟩ | ⟨q,q',xs,rfl,rfl,h1,h2,im⟩
 ·exact .inl ⟨rfl,im⟩
 ·exact .inr ⟨q',q,xs,rfl,rfl,aX.of h2,aX.of h1,im⟩
theorem fV.same{K:qAa}{H H':Hp}{k m:Nat}{ps:List V}(g:fV H k m ps)(s:aJ H H'):fV H' k m ps:=by
 refine g.copy s ⟨rfl,fun i v v' e1 e2=>?_⟩;rw[e1] at e2;cases e2;refine .inl ⟨rfl,?_⟩;rcases(g.cp (K:=K)).2 v (qBe e1) with ⟨Ty,ht,kd,_⟩ | ⟨q,xs,rfl,_⟩
 ·exact Pl.JE (K:=K) (H:=H) ⟨Ty,ht,kd⟩
 ·trivial
theorem hU{H:Hp}:∀(bs:List Bool),bS K H (bs.map V.bl) (bs.map PyData.bool)
 | []=>.nil
 | b::bs=>.cons (.bl b) (hU bs)
theorem nH:∀(bs:List Bool),(PyData.list (bs.map PyData.bool)).depth<=64:=fun bs=>by
 have z:∀(bs:List Bool),PyData.depthAll (bs.map PyData.bool)<=1:=fun bs=>by
  induction bs with
  | nil=>simp[PyData.depthAll]
  | cons b bs ih =>
   have e:PyData.depthAll ((b::bs).map PyData.bool)=max (PyData.bool b).depth (PyData.depthAll (bs.map PyData.bool)):=rfl;rw[e];have:(PyData.bool b).depth<=1:=by simp[PyData.depth]
   lia
 have:=z bs;simp only[PyData.depth];lia
theorem Cb{x:V}{A B:Prop}(h:B):if (!decide (x=x))=true then A else B:=by
 rw[decide_eq_true rfl];exact cT h
theorem gP:aL ["_law_script","_law_cell","_law_number","_law_kind","_law_many","_law_parts","_law_off_here","_law_handed","_law_rule_here","_law_due"] ["_law_script"] (aH DK):=by constructor<;>first|rfl|decide +kernel
theorem Fm{f1 f2 f3 f4 f5 f6 f7:Addr}{fd1 fd2 fd3 fd4 fd5 fd6 fd7:qAx}(t:Tx K mg "law" DK ["_law_script"] f fd)(T:T K mg AL LN RU OW PL PA VO MA NE fE fH rR rO rP rA rV rM rN iR iO iP iA iV iM iN fL SE NG NN NO NR NL NS NT NX NV TM UL)
  (D_law_good:Df P w K mg base cE 2 "_law_good" ["_law_kind","_law_many","_law_number"] BO f1 fd1) (D_law_off:Df P w K mg base cE 4 "_law_off" ["_law_kind","_law_many","_law_parts","_law_number"] (Ca K) f2 fd2)
  (D_law_copy:Df P w K mg base cE 1 "_law_copy" ["_law_parts"] (BR K) f3 fd3) (D_law_refused:Df P w K mg base cE 10 "_law_refused" ["_law_kind","_law_parts"] (BS K) f4 fd4)
  (D_law_rule:Df P w K mg base (gB P w) 9 "_law_rule" ["_law_kind","_law_parts"] (uE P w K mg base fE fH RU OW VO PL PA MA NE NL NT) f5 fd5) (D_law_kinds:Df P w K mg base cE 1 "_law_kinds" ["_law_rule_here"] (BP RU OW VO PL PA MA NE) f6 fd6) (D_law_whole:Df P w K mg base cE 1 "_law_whole" ["_law_found"] (mZ K) f7 fd7)
  (D_E:Md P w K mg base 7 ["self","group"] (BB P w K mg base fE fH RU NG) fE) (DH:Md P w K mg base 1 ["self"] (Hv K) fH) :
  Df P w K mg base cE 12 "law" ["_law_script"] (uJ K) f fd:=by
 refine t.iC gP (fun vs H Q E h=>?_) (fun cdv A outer s H vs Q E hr h=>?_)
 ·obtain⟨a,ns,rfl,_⟩:=h;rfl
 ·obtain⟨a,ns,rfl,hq,hns,k⟩:=h;refine⟨_,(aE (g8 PassesOwn.never rfl (cW (aK cC (pv 0) (bB (aA aC aD)))) (bI (i:=1) gP.nd rfl cP)
    (aE (aZ (i:=2) gP.nd rfl cP (aK bP (aK fO (pv 1) aC) aC))
    (aE (aZ (i:=3) gP.nd rfl (by first|exact .inl rfl|exact .inr rfl) (aK bP (pv 1) aC))
    (aE (aZ (i:=4) gP.nd rfl cP (aK cG aC (aK bP (aK bD (pv 2) aC) (aY aU (bB (aA aC (aA aC (aA aC (aA aC (aA aC (aA aC (aA aC aD)))))))) (pv 3) (fun _ _=>rfl)))))
    (aE (aZ (i:=5) gP.nd rfl cP (bF D_law_good hr (by decide) (by rfl) (aA (pv 3) (aA (pv 4) (aA (aK bD (pv 2) aC) aD)))))
    (aE (aZ (i:=6) gP.nd rfl cP (bF D_law_off hr (by decide) (by rfl) (aA (pv 3) (aA (pv 4) (aA (pv 5) (aA (aK bD (pv 2) aC) aD))))))
    (aE (aZ (i:=7) gP.nd rfl cP (bF D_law_copy hr (by decide) (by rfl) (aA (pv 6) aD)))
    (aE (bC (PW.pt (pw_or (fN (dG (bF D_law_refused hr (by decide) (by rfl) (aA (pv 3) (aA (pv 7) aD))))) (pw_or1 (aO (yH hr.units) (pv 7) (pv 6) (aS _))))) (aG (aN hW)) aQ)
    (aE (aZ (i:=7) gP.nd rfl cP (bF D_law_copy hr (by decide) (by rfl) (aA (pv 5) aD)))
    (aE (aZ (i:=8) gP.nd rfl cP (dN fG D_law_rule hr (by decide) (by rfl) (aA (pv 3) (aA (pv 7) aD))))
    (aE (nW (NB:=["_law_k","_law_kind"]) (pick:=[none,some 3]) (i:=9) gP.nd rfl cP (by rfl) (dC (by with_unfolding_all rfl) (by exact(And.intro rfl trivial)) rfl (by decide +kernel) (by decide +kernel) (by rfl) (by rfl)) rfl
     (eN (by rfl) T.dO (aA aC aD)) (fun _ _ _=>bI (i:=0) (show(["_law_k","_law_kind"]:List Str).Nodup from by decide +kernel) rfl cP)
     (fun _ _ _=>dA) (fun _ _ _=>(Bj (eB bJ (pv 0) aC (aS _)) (dY (eB bJ (pv 0) (pv 1) (aS _))))))
    (aE (bC (PW.pt (pw_or (aO (Ax hr.units) (bF D_law_kinds hr (by decide) (by rfl) (aA (pv 8) aD)) (pv 9) (aS _)) (pw_or (aO (yH hr.units) (pv 7) (pv 5) (aS _)) (pw_or (fN (dG (bF D_law_whole hr (by decide) (by rfl) (aA (mO (k:=1) fG (pv 8) hr (by decide)) aD)))) (pw_or1 (aO jG (mO (k:=1) fG (pv 8) hr (by decide)) (pv 4) (aS _))))))) (aG (aN hW)) aQ)
    (aG (bC (PW.pt (pw_or (fN (dG (bF D_law_whole hr (by decide) (by rfl) (aA (iE (k:=7) fG (pv 8) hr (by decide) (aA aC aD)) aD)))) (pw_or1 (aO jG (iE (k:=7) fG (pv 8) hr (by decide) (aA aC aD)) aC (aS _))))) (aG (aN hW)) aQ))))))))))))))
   (aG (aN hW))),?_⟩
  refine⟨_,rfl,jS,fun z hz=>?_⟩;have u1:=aJ.aI (o:=.lst [V.int 53]) hz;refine⟨a,z,_,_,rfl,rfl,u1.seq hq,aX.of aB,by rw[qAc];exact qBd (aW (show ns.length+1<=1000 by lia)),fun lc hlc=>⟨lc,rfl,⟨_,aX.of aB⟩,?_⟩⟩;have e0:upd (upd H z (.lst [V.int 53])) lc (.lst (ns.map V.int++[V.int 53])) lc=some (.lst ((ns++[53]).map V.int)):=by rw[aB,qBw];rfl
  generalize upd _ lc _=H0 at e0|-;refine hZ (xs:=(ns++[53]).map V.int) (fun i σ' H'=>aJ H0 H'/\∃o1 o2 o3 o4 o5 o6 o7 o8 o9:Option V,σ'=[some (.ref a),o1,o2,o3,o4,o5,o6,o7,o8,o9]) ?_ ?_ ?_ ?_
  ·exact⟨.refl _,_,_,_,_,_,_,_,_,_,rfl⟩
  ·rintro i σ' H' _ ⟨s1,_⟩;exact aX.of (s1 _ _ e0)
  ·rintro i x σ' H' hx ⟨s1,o1,o2,o3,o4,o5,o6,o7,o8,o9,rfl⟩;obtain⟨n,_,rfl⟩:=List.mem_map.mp (qBe hx);dsimp only[bH];refine⟨_,rfl,_,_,rfl,rfl,.inr ⟨by decide,by decide⟩,_,_,rfl,rfl,(by show(0:Int)<2147483647;decide),?_⟩;dsimp only[bH];obtain⟨nu,hnu,nu0⟩:∃nu:Int,n*48271%2147483647=nu/\0<=nu:=⟨_,rfl,qDf _ (by decide)⟩;rw[hnu];refine⟨_,rfl,_,_,rfl,rfl,(by show(0:Int)<7;decide),?_⟩;dsimp only[bH];obtain⟨kd,hk,k7⟩:∃kd:Nat,n%7=(kd:Int)/\kd<7:=⟨(n%7).toNat,by lia,by lia⟩;rw[hk];refine⟨_,rfl,_,_,rfl,rfl,⟨by decide,by decide⟩,by show 7<=qAg;decide,fun lz hlz=>?_⟩;obtain⟨d,hd,d56⟩:∃d:Int,lQ [V.int 6,.int 6,.int 6,.int 6,.int 6,.int 5,.int 6] (kd:Int)=some (.int d)/\5<=d/\d<=6:=by
    obtain⟨v,hv,hm⟩:=sF (xs:=[V.int 6,.int 6,.int 6,.int 6,.int 6,.int 5,.int 6]) (i:=(kd:Int)) (by lia) (by show(kd:Int)<7;lia);simp only[qBp,qAw,or_false] at hm;rcases hm with rfl | rfl | rfl | rfl | rfl | rfl | rfl
    ·exact⟨6,hv,by lia⟩
    ·exact⟨6,hv,by lia⟩
    ·exact⟨6,hv,by lia⟩
    ·exact⟨6,hv,by lia⟩
    ·exact⟨6,hv,by lia⟩
    ·exact⟨5,hv,by lia⟩
    ·exact⟨6,hv,by lia⟩
   refine⟨_,rfl,lz,_,_,_,rfl,rfl,aX.of aB,hd,_,_,rfl,rfl,(by show(0:Int)<d;lia),_,_,rfl,rfl,?_⟩;have u2:=aJ.aI (o:=.lst [V.int 6,.int 6,.int 6,.int 6,.int 6,.int 5,.int 6]) hlz;have s2:=s1.trans u2;generalize upd H' lz _=H2 at s2|-;clear s1 u2 hlz hd;dsimp only[bH];obtain⟨m,hm,m1,m6⟩:∃m:Nat,1+nu/7%d=(m:Int)/\1<=m/\m<=6:=by
    have h0:=qDf (nu/7) (b:=d) (by lia);have h1:=qFe (nu/7) (b:=d) (by lia);exact⟨(1+nu/7%d).toNat,by lia,by lia,by lia⟩
   rw[hm];refine f9 (σ':=[some (.ref a),some (.int n),some (.int nu),some (.int (kd:Int)),some (.int (m:Int)),o5,o6,o7,o8,o9]) rfl ?_;refine⟨_,rfl,_,rfl,_,rfl,_,_,rfl,rfl,⟨by decide,by decide⟩,kd,m,_,rfl,k7,m1,m6,by lia,fun lp ps H3 hlp s3 e3 gd=>?_⟩;dsimp only[bH];refine⟨_,rfl,_,rfl,_,rfl,_,rfl,_,_,rfl,rfl,⟨by decide,by decide⟩,kd,m,lp,_,ps,rfl,k7,m1,m6,by lia,e3,gd,fun lo qs H4 s4 e4 q10 bad cp=>?_⟩;dsimp only[bH];refine⟨_,rfl,lo,qs,rfl,e4,q10,cp,fun lh qs' H5 hlh s5 e5 ql qc=>?_⟩;dsimp only[bH];have cl:tE H5 qs qs':=⟨ql,qc⟩;refine f9 (σ':=[some (.ref a),some (.int n),some (.int nu),some (.int (kd:Int)),some (.int (m:Int)),some (.ref lp),some (.ref lo),some (.ref lh),o8,o9]) rfl ?_;refine⟨_,rfl,_,rfl,lh,kd,qs',rfl,k7,e5,bad.copy s5 cl,fun H6 s6=>?_⟩;refine⟨_,rfl,cT ⟨_,rfl,_,rfl,lh,lo,_,_,rfl,rfl,aX.of (s6 _ _ e5),aX.of ((s5.trans s6) _ _ e4),ql,(cl.same s6).Ka,_,rfl,cT ?_⟩⟩;dsimp only[cF];have s36:=s4.trans (s5.trans s6);have gd6:=gd.same (K:=K) s36;have e36:=s36 _ _ e3;have s06:=s2.trans (s3.trans s36);clear s2 s3 s4 s5 s6 s36 e3 e4 e5 cl bad cp ql qc q10 hlp hlh gd;refine⟨_,rfl,lp,ps,rfl,e36,(gd6.cp (K:=K)).1,(gd6.cp (K:=K)).2,fun lh2 ps2 H7 hlh2 s7 e7 pl2 pc2=>?_⟩;dsimp only[bH];have cl:tE H7 ps ps2:=⟨pl2,pc2⟩;refine⟨_,rfl,_,rfl,lh2,kd,ps2,rfl,k7,e7,.inr ⟨m,m1,m6,gd6.copy s7 cl,fun x H8 s8 made=>?_⟩⟩;dsimp only[bH];refine f9 (σ':=[some (.ref a),some (.int n),some (.int nu),some (.int (kd:Int)),some (.int (m:Int)),some (.ref lp),some (.ref lo),some (.ref lh2),some (.ref x),o9]) rfl ?_;refine⟨7,rfl,by decide,by decide,?_⟩;refine iD (n:=7) (fun i=>some (.bl (decide (i=0)||decide (i=kd)))) (by decide) (fun i H2 kk kk0 hi h1 h2=>?_) fun ld hld=>?_
   ·refine⟨_,rfl,rfl,_,rfl,bN (fun h=>?_) (fun h=>?_)⟩
    ·have h:(0+(i:Int))=0:=V.int.inj (of_decide_eq_true h);exact h1 _ (by show some (V.bl (decide (i=0)||decide (i=kd)))=some (V.bl true);rw[decide_eq_true (show i=0 by lia)];rfl)
    ·have h:¬(0+(i:Int))=0:=fun z=>h (decide_eq_true (by rw[z]));refine⟨_,rfl,_,rfl,rfl,h1 _ ?_⟩;show some (V.bl (decide (i=0)||decide (i=kd)))=some (V.bl (decide (V.int (0+(i:Int))=V.int (kd:Int))))
     rw[decide_eq_false (show ¬i=0 by lia),qHo];refine congrArg (fun b=>some (V.bl b)) (decide_eq_decide.mpr ⟨fun z=>by rw[z,qFw],fun z=>by have:=V.int.inj z;lia⟩)
   have ek:(qAy 7).filterMap (fun i=>some (V.bl (decide (i=0)||decide (i=kd))))=(g6 kd).map V.bl:=by
    unfold g6;rw[qCg,qFq];rfl
   rw[ek];have u9:=aJ.aI (o:=.lst ((g6 kd).map V.bl)) hld;have e9:upd H8 ld (.lst ((g6 kd).map V.bl)) ld=some (.lst ((g6 kd).map V.bl)):=aB;generalize upd H8 ld (.lst ((g6 kd).map V.bl))=H9 at u9 e9|-;dsimp only;refine f9 (σ':=[some (.ref a),some (.int n),some (.int nu),some (.int (kd:Int)),some (.int (m:Int)),some (.ref lp),some (.ref lo),some (.ref lh2),some (.ref x),some (.ref ld)]) rfl ?_;obtain⟨dx,fs,e,hx8,ro8,e00⟩:=made;refine⟨_,rfl,x,dx,fs,kd,rfl,k7,u9 _ _ hx8,fun lk H10 hlk s10 e10=>?_⟩;have s810:=u9.trans s10;have d1:fP K H10 (.ref lk) (.list ((g6 kd).map PyData.bool)):=.lst (aX.of e10) (hU _);have d2:fP K H10 (.ref ld) (.list ((g6 kd).map PyData.bool)):=.lst (aX.of (s10 _ _ e9)) (hU _);have ro10:=ro8.same s810;have s710:=s8.trans s810;refine⟨_,rfl,_,_,d1,d2,nH _,nH _,_,rfl,?_⟩;rw[d1.lay.2];refine cT ⟨_,rfl,_,rfl,lh2,lp,_,_,rfl,rfl,aX.of (s710 _ _ e7),aX.of ((s7.trans s710) _ _ e36),pl2,(cl.same s710).Ka,_,rfl,cT ?_⟩;obtain⟨C,dy,g,gs,h1,h2,h3,h4,h5,h6,pp,h7⟩:=id ro10;refine⟨_,rfl,x,C,dy,gs,fH,_,rfl,h1,h6.2.1,h2.oc.cl,h2.mh,⟨_,DH⟩,x,C,dy,gs,_,rfl,h1,h2.oc.cl,h2.nm,h3,_,rfl,.int _,_,rfl,cT ?_⟩;refine⟨_,rfl,x,C,dy,gs,fH,_,rfl,h1,h6.2.1,h2.oc.cl,h2.mh,⟨_,DH⟩,x,C,dy,gs,_,rfl,h1,h2.oc.cl,h2.nm,h3,_,rfl,rfl,_,rfl,Cb ?_⟩;dsimp only[cF];have no0:∀{X:Prop},gD 0 (2^m-1) (V.int ((0:Nat):Int))=false->X:=fun {X} no=>by
    have p1:(0:Int)<2^m:=Int.pow_pos (by decide);have no:(decide ((0:Int)<=0)&&decide ((0:Int)<=2^m-1))=false:=no;rw[decide_eq_true (by lia),decide_eq_true (by lia)] at no;cases no
   refine⟨_,rfl,x,C,dy,gs,fE,_,rfl,h1,h6.1,h2.oc.cl,h2.me,⟨_,D_E⟩,x,m,e,.int ((0:Nat):Int),rfl,ro10,.int _,fun no=>no0 no,fun g1 eg1 hg1 H11 s11=>⟨_,rfl,.int _,_,rfl,cT ?_⟩⟩;refine⟨_,rfl,x,C,dy,gs,fE,_,rfl,s11 _ _ h1,h6.1,h2.oc.cl,h2.me,⟨_,D_E⟩,x,m,e,.int ((0:Nat):Int),rfl,ro10.same s11,.int _,fun no=>no0 no,fun g2 eg2 hg2 H12 s12=>?_⟩;obtain rfl:0=g2:=by have:=V.int.inj eg2;lia
   rw[e00];exact⟨rfl,_,rfl,Cb ⟨s06.trans (s7.trans (s710.trans (s11.trans s12))),_,_,_,_,_,_,_,_,_,rfl⟩⟩
  ·rintro σ' H' ⟨s1,o1,o2,o3,o4,o5,o6,o7,o8,o9,rfl⟩;exact k _
end
end K10
namespace PySem.W.Fast
def tw14680867032428439371:Unit:=()
def tw8619692821985257042:Unit:=()
def tw6801350994434523248:Unit:=()
def tw10679809315688031936:Unit:=()
def tw6437168805373199567:Unit:=()
def tw15054493012202852873:Unit:=()
def tw1720770774145768020:Unit:=()
def tw12789132071904594495:Unit:=()
def tw17642062706945479496:Unit:=()
def tw10459337500935776438:Unit:=()
def tw17892292602354042227:Unit:=()
def tw12496402730534440432:Unit:=()
def tw4370391339698500088:Unit:=()
def tw9258814949141397754:Unit:=()
def tw6535376712595746865:Unit:=()
def tw16753192083886876448:Unit:=()
def tw17739037589107046446:Unit:=()
def tw3148074860019205269:Unit:=()
def tw18255195559323470091:Unit:=()
def tw7540749708099657654:Unit:=()
def tw3404035115344656980:Unit:=()
def tw12951342028483085774:Unit:=()
def tw11318408474235271995:Unit:=()
def tw307215863592790299:Unit:=()
def tw12654601066672327177:Unit:=()
def tw17633284438760355817:Unit:=()
def tw11617609805751065786:Unit:=()
def tw5039343739795578985:Unit:=()
def tw5045174358973240060:Unit:=()
def tw7196421955842470372:Unit:=()
def tw2823780775274890540:Unit:=()
def tw12750688393028583022:Unit:=()
def tw2818879471620837078:Unit:=()
def tw4653867888533242281:Unit:=()
def tw15768842565804096685:Unit:=()
def tw1123559703273955310:Unit:=()
def tw3177832686407462939:Unit:=()
def tw17491124872119625685:Unit:=()
def tw10366831751152909641:Unit:=()
def tw2914644692392832361:Unit:=()
def tw8795611384804686388:Unit:=()
def tw12079561734364998021:Unit:=()
def tw10165091874201676057:Unit:=()
def tw7107806513878024709:Unit:=()
def tw17900025625506843246:Unit:=()
def tw6762470104792950038:Unit:=()
def tw4820073265626245883:Unit:=()
def tw6393493588393316086:Unit:=()
def tw14019897775157308281:Unit:=()
def tw1883847334907222255:Unit:=()
def tw2449632038191079883:Unit:=()
def tw2801609844953731051:Unit:=()
def tw3943348007731536192:Unit:=()
def tw15794546039618257833:Unit:=()
def tw133408928914003326:Unit:=()
def tw237185806024413143:Unit:=()
def tw13302382377493500793:Unit:=()
def tw17186278337168043380:Unit:=()
def tw9011531250174687175:Unit:=()
def tw17098879754642535902:Unit:=()
def tw5238685644254195043:Unit:=()
def tw3069066098840110347:Unit:=()
def tw3937591282267019196:Unit:=()
def tw5095632929418084242:Unit:=()
def tw15179924474563623780:Unit:=()
def tw16307844410338564165:Unit:=()
def tw3721330957997898306:Unit:=()
def tw12108054713304093444:Unit:=()
def tw14106325683088461131:Unit:=()
def tw13302571493221988734:Unit:=()
def tw567390275630758003:Unit:=()
def tw16359933472597121581:Unit:=()
def tw17893114681225988693:Unit:=()
def tw10021088435697409404:Unit:=()
def tw5845600563482028528:Unit:=()
def tw11086451434228009178:Unit:=()
def tw11566330912017755722:Unit:=()
def tw15704073314380329123:Unit:=()
def tw14997986425925038470:Unit:=()
def tw8492805499336423398:Unit:=()
def tw6050095376526509070:Unit:=()
def tw4744900973878381397:Unit:=()
def tw16140535046493758975:Unit:=()
def tw325094226277097352:Unit:=()
def tw790912516255258446:Unit:=()
def tw18003839806148416380:Unit:=()
def tw1615983921058023312:Unit:=()
def tw12287636951073535100:Unit:=()
def tw16693878607037216818:Unit:=()
def tw17527122674226961203:Unit:=()
def tw5119676440453423798:Unit:=()
def tw12920772215613635509:Unit:=()
def tw7834063893855278281:Unit:=()
def tw17458538638265491149:Unit:=()
def tw18272745641384531721:Unit:=()
def tw5236003411802961249:Unit:=()
def tw14867515846064181372:Unit:=()
def tw5959033459358195292:Unit:=()
def tw8907427564663243732:Unit:=()
def tw1519703184322048726:Unit:=()
def tw3713030734969074343:Unit:=()
def tw7700163937062002176:Unit:=()
def tw1340790864470625587:Unit:=()
def tw4100800065212576304:Unit:=()
def tw15682673777048228977:Unit:=()
def tw12318988916245476077:Unit:=()
def tw10729880443264239931:Unit:=()
def tw15803031770330752751:Unit:=()
def tw13588800638406887703:Unit:=()
def tw6792281512803500270:Unit:=()
def tw10553426518426706321:Unit:=()
def tw16006515572346625171:Unit:=()
def tw6548883600131128077:Unit:=()
def tw10066995793130137034:Unit:=()
def tw12909748267492525631:Unit:=()
def tw430907151232430857:Unit:=()
def tw528735094396616305:Unit:=()
def tw8928084919286029236:Unit:=()
def tw4576912047588086411:Unit:=()
def tw8306811801373308910:Unit:=()
def tw9402924662492842524:Unit:=()
def tw13452614920610174840:Unit:=()
def tw7782110495358100065:Unit:=()
def tw7255057430658987750:Unit:=()
def tw4378365350063113099:Unit:=()
def tw4577850255084940642:Unit:=()
def tw15840932591003861084:Unit:=()
def tw11796928918158983824:Unit:=()
def tw17937602090235626214:Unit:=()
def tw1112777461676267000:Unit:=()
def tw7351951947302144489:Unit:=()
def tw7154546957933616448:Unit:=()
def tw6967901936490726165:Unit:=()
def tw17676588345491254458:Unit:=()
def tw7988847632335041730:Unit:=()
def tw10423248728765049364:Unit:=()
def tw8112783359815603101:Unit:=()
def tw13958362040371684578:Unit:=()
def tw2091968760762333834:Unit:=()
def tw1961157154382944351:Unit:=()
def tw4332264720391079006:Unit:=()
def tw14937656370560623584:Unit:=()
def tw5953995559177247112:Unit:=()
def tw9674448258610822838:Unit:=()
def tw12576859143097361954:Unit:=()
def tw16671382535883665123:Unit:=()
def tw6349119390053935566:Unit:=()
def tw14755044971237325885:Unit:=()
def tw7924759513628522957:Unit:=()
def tw4368638782536247367:Unit:=()
def tw9419779189209194634:Unit:=()
def tw3120517470079246984:Unit:=()
def tw9265349649299437588:Unit:=()
def tw9001465005800682486:Unit:=()
def tw8463881653580139824:Unit:=()
def tw12623991421586453335:Unit:=()
def tw1251537909914025650:Unit:=()
def tw12234841216509152184:Unit:=()
def tw13098203971279982136:Unit:=()
def tw9682582880049124765:Unit:=()
def tw2098622393898313327:Unit:=()
def tw10134290425620669706:Unit:=()
def tw12880754755891591563:Unit:=()
def tw11552052379309480009:Unit:=()
def tw14150598655938934462:Unit:=()
def tw8191759902154470627:Unit:=()
def tw1951876874640183080:Unit:=()
def tw4124452846254318156:Unit:=()
def tw1246393471332937056:Unit:=()
def tw5059656967335318321:Unit:=()
def tw8462593748689322557:Unit:=()
def tw16328739947996458621:Unit:=()
def tw8343783112072041552:Unit:=()
def tw13356844204395863481:Unit:=()
def tw18329937355714034033:Unit:=()
def tw18194675610574502646:Unit:=()
def tw353559179759608168:Unit:=()
def tw4459987756952125865:Unit:=()
def tw12126063291381444135:Unit:=()
def tw10694355871048750007:Unit:=()
def tw9239027960535972302:Unit:=()
def tw12885838767710285947:Unit:=()
def tw8885811378432760955:Unit:=()
def tw16275947574286107556:Unit:=()
def tw10501111532033838379:Unit:=()
def tw14539197877924208936:Unit:=()
def tw12215366140072777764:Unit:=()
def tw8248326456735981359:Unit:=()
def tw12053562093244449088:Unit:=()
def tw4959811427316695534:Unit:=()
def tw16879056520487614787:Unit:=()
def tw16380369241901069218:Unit:=()
def tw10212154266603675350:Unit:=()
def tw6998662683551144693:Unit:=()
def tw8349931665081128355:Unit:=()
def tw513970013648457391:Unit:=()
def tw4085951145385420418:Unit:=()
def tw4259850259119463524:Unit:=()
def tw17366157947433918801:Unit:=()
def tw15287549325974418489:Unit:=()
def tw8675337612777435615:Unit:=()
def tw14757768417487118966:Unit:=()
def tw2286915297102594982:Unit:=()
def tw6289696906632216744:Unit:=()
def tw10542530025138769566:Unit:=()
def tw7025592166129066742:Unit:=()
def tw5354589642441454972:Unit:=()
def tw7708988325157985067:Unit:=()
def tw9411299112677967202:Unit:=()
def tw15088139274193182611:Unit:=()
def tw17332622342226969073:Unit:=()
def tw12031113789310556005:Unit:=()
def tw6200003871803131366:Unit:=()
def tw575599979963997762:Unit:=()
def tw15416262245813750035:Unit:=()
def tw14347510729945528658:Unit:=()
def tw11430732132135777382:Unit:=()
def tw8250448196841187292:Unit:=()
def tw7409411172231720645:Unit:=()
def tw5305579428602072310:Unit:=()
def tw14962493550379107822:Unit:=()
def tw6252831375056520707:Unit:=()
def tw4369541832504793678:Unit:=()
def tw17263138470663630554:Unit:=()
def tw3933004498061721814:Unit:=()
def tw16268239446362689144:Unit:=()
def tw6200943923265858284:Unit:=()
def tw11925060140882158215:Unit:=()
def tw780927889758758702:Unit:=()
def tw6103768115656249601:Unit:=()
def tw18446560870478689950:Unit:=()
def tw14704145663404214445:Unit:=()
def tw8448349954899561574:Unit:=()
def tw15373435274740344211:Unit:=()
def tw7794280997401983251:Unit:=()
def tw11339505262533081365:Unit:=()
def tw13710553317145456693:Unit:=()
def tw16444061049292512514:Unit:=()
def tw17941190588027408114:Unit:=()
def tw8580560418642004001:Unit:=()
def tw4406378687406294352:Unit:=()
def tw1104100935859092074:Unit:=()
def tw18395464130105909188:Unit:=()
def tw14805967280082949232:Unit:=()
def tw5017204002192432493:Unit:=()
def tw10527280755026715259:Unit:=()
def tw8451376736757838425:Unit:=()
def tw16677364960123665828:Unit:=()
def tw13799847893164555381:Unit:=()
def tw9900234568371638600:Unit:=()
def tw13400029589068898157:Unit:=()
def tw2587858372638009600:Unit:=()
def tw8051554011117918237:Unit:=()
def tw16622118434958106314:Unit:=()
def tw9052027042966716912:Unit:=()
def tw7118526372298394490:Unit:=()
def tw4084767574702574597:Unit:=()
def tw18334468356228130630:Unit:=()
def tw15570691649280145143:Unit:=()
def tw10472343510803076869:Unit:=()
def tw1470185148031698688:Unit:=()
def tw8980732352708700007:Unit:=()
def tw2326304503018543276:Unit:=()
def tw5739238192959407784:Unit:=()
def tw7165579765958574593:Unit:=()
def tw6271623992764767044:Unit:=()
def tw3093929938532475782:Unit:=()
def tw17528399762110193417:Unit:=()
def tw17925447513903850242:Unit:=()
def tw9953781797193935898:Unit:=()
def tw13843930925408471636:Unit:=()
def tw16064515234008078874:Unit:=()
def tw12767413464320963392:Unit:=()
def tw4100742393437391373:Unit:=()
def tw10481413275892798535:Unit:=()
def tw8856341537191782389:Unit:=()
def tw1379503141768983563:Unit:=()
def tw9501727355623489684:Unit:=()
def tw983478562350567124:Unit:=()
def tw7217886307637674223:Unit:=()
def tw14090057218311628352:Unit:=()
def tw3182842778469521559:Unit:=()
def tw17475007292082818222:Unit:=()
def tw16575970121571425836:Unit:=()
def tw16295857233571640710:Unit:=()
def tw17188394344036395755:Unit:=()
def tw2088571393208133558:Unit:=()
def tw4956856174281741343:Unit:=()
def tw1680506670787957741:Unit:=()
def tw12658669552994918735:Unit:=()
def tw1606194266179084844:Unit:=()
def tw12169315624894553186:Unit:=()
def tw11779087804424339155:Unit:=()
def tw10574867431822946759:Unit:=()
def tw12921058776078833771:Unit:=()
def tw11908629167821201133:Unit:=()
def tw10423760008067195946:Unit:=()
def tw11102221170280243237:Unit:=()
def tw5228425689347196935:Unit:=()
def tw15615101369175243727:Unit:=()
def tw11715703977170152621:Unit:=()
def tw1639874987333858552:Unit:=()
def tw10091772152766469249:Unit:=()
def tw8992917970555304344:Unit:=()
def tw16432013743851689431:Unit:=()
def tw12834912303478334087:Unit:=()
def tw15751026384838700713:Unit:=()
def tw10284717154635612451:Unit:=()
def tw5036662317604301218:Unit:=()
def tw4471151264078345319:Unit:=()
def tw8848952782810209172:Unit:=()
def tw12291555634498324239:Unit:=()
def tw7975532757732961444:Unit:=()
def tw961558138366792757:Unit:=()
def tw3176835958766707761:Unit:=()
def tw16332150342041930532:Unit:=()
def tw13704200946406623847:Unit:=()
def tw14032232069132391142:Unit:=()
def tw15708662658545870024:Unit:=()
def tw12370832569731840697:Unit:=()
def tw9113236157483539131:Unit:=()
def tw9241839789953008595:Unit:=()
def tw8920881174226387049:Unit:=()
def tw1505811130752992799:Unit:=()
def tw17372540272617961442:Unit:=()
def tw5911062649147768832:Unit:=()
def tw11058704091510078154:Unit:=()
def tw8215265608303217936:Unit:=()
def tw254162259948970190:Unit:=()
def tw6811103171143698116:Unit:=()
def tw14629025884263058467:Unit:=()
def tw7648134702603103186:Unit:=()
def tw11649641166069222721:Unit:=()
def tw13757507369855669545:Unit:=()
def tw4111909713701676430:Unit:=()
def tw1834501051248775558:Unit:=()
def tw4827489543136560096:Unit:=()
def tw11057701227589919533:Unit:=()
def tw14993393428937881172:Unit:=()
def tw10295029527009190108:Unit:=()
def tw18400703799348179976:Unit:=()
def tw2563121432781323473:Unit:=()
def tw4485045148419653300:Unit:=()
def tw6960807626735778086:Unit:=()
def tw13452890382946195834:Unit:=()
def tw17006737990287762034:Unit:=()
def tw9570923143262748841:Unit:=()
def tw4169506429627992063:Unit:=()
def tw7360851715319936009:Unit:=()
def tw3260498732617839958:Unit:=()
def tw3062830362480777456:Unit:=()
def tw15044796797294644097:Unit:=()
def tw3809013803972684183:Unit:=()
def tw14922082207534975821:Unit:=()
def tw15807114191393270284:Unit:=()
def tw1077243713845952802:Unit:=()
def tw7072865565913530321:Unit:=()
def tw8807941777639835695:Unit:=()
def tw4032267813457706505:Unit:=()
def tw14578307923611414313:Unit:=()
def tw721504349838391370:Unit:=()
def tw12278868218011161470:Unit:=()
def tw16954691337563217879:Unit:=()
def tw1855207240193171039:Unit:=()
def tw17615522711237439334:Unit:=()
def tw16132062410584893381:Unit:=()
def tw2226715708389417591:Unit:=()
def tw565813972698216909:Unit:=()
def tw1958944324519594022:Unit:=()
def tw6990691509292178380:Unit:=()
def tw9995016084801064877:Unit:=()
def tw8867870083980010074:Unit:=()
def tw4047560078823956829:Unit:=()
def tw12868964860727608011:Unit:=()
def tw13700817946699194200:Unit:=()
def tw14805250126639198338:Unit:=()
def tw63291429200955137:Unit:=()
def tw5904663577450775008:Unit:=()
def tw7825295661975252545:Unit:=()
def tw17576191799093443785:Unit:=()
def tw15015051428283240260:Unit:=()
def tw17525657631785504194:Unit:=()
def tw13058342451653749641:Unit:=()
def tw7315198614547968004:Unit:=()
def tw10260756951653711594:Unit:=()
def tw12039538022268199550:Unit:=()
def tw9555772636806079964:Unit:=()
def tw4432798573543796608:Unit:=()
def tw15338935838236778106:Unit:=()
def tw7367390676110745532:Unit:=()
def tw17821552909679767464:Unit:=()
def tw13581552807978191361:Unit:=()
def tw5409805458835742896:Unit:=()
def tw9764306416595108108:Unit:=()
def tw507891090878117076:Unit:=()
def tw14877052530414106167:Unit:=()
def tw5743654088255769644:Unit:=()
def tw13214912101925167087:Unit:=()
def tw18162850995159647089:Unit:=()
def tw12534723771009928920:Unit:=()
def tw12271314433428364620:Unit:=()
def tw7951891195505063464:Unit:=()
def tw4864501770370757814:Unit:=()
def tw11559887269890093505:Unit:=()
def tw17007069971913688810:Unit:=()
def tw5695337225031978096:Unit:=()
def tw6598395502161764212:Unit:=()
def tw12414758101690595283:Unit:=()
def tw9920864291148385698:Unit:=()
def tw12351522804474978993:Unit:=()
def tw8841527426972451188:Unit:=()
def tw8835628406888116564:Unit:=()
def tw16394511630056469622:Unit:=()
def tw5747957376340972322:Unit:=()
def tw4129161178817132015:Unit:=()
def tw10703133428653137024:Unit:=()
def tw10778011154235817486:Unit:=()
def tw12239100837600551386:Unit:=()
def tw10115460141589413423:Unit:=()
def tw17613099551095361286:Unit:=()
def tw18220379717797882098:Unit:=()
def tw4373611787605538415:Unit:=()
def tw8042202611294255204:Unit:=()
def tw3557226740213649850:Unit:=()
def tw4464023246764998801:Unit:=()
def tw4266746208915938318:Unit:=()
def tw9201250725615354857:Unit:=()
def tw2040576338418893116:Unit:=()
def tw1767964686237531183:Unit:=()
def tw103405885746277457:Unit:=()
def tw2980451805700449615:Unit:=()
def tw15513714098273953440:Unit:=()
def tw15206011679251356534:Unit:=()
end PySem.W.Fast
set_option maxHeartbeats 4000000
namespace K10
open PySem L2
theorem JJ{K:qAa}{mg:Str->Option qAf}{h:Heap}{AL LN RU OW PL PA VO MA NE fE fH rR rO rP rA rV rM rN iR iO iP iA iV iM iN fL SE NG NN NO NR NL NS NT NX NV TM UL:Addr}  {n_AL:Nat}{osl_AL:Array (Option qAf)}{t_AL0 t_AL1 t_AL2 t_AL3 t_AL4 t_AL5:Tok}  {n_LN:Nat}{osl_LN:Array (Option qAf)}{t_LN0 t_LN1 t_LN2 t_LN3 t_LN4 t_LN5 t_LN6:Tok}  {tk_we:Tok}                                 {oc_RI kV_RI doc_RI pm_RI cdv_RI ct_RI:qAf}{od_RI an_RI:Option Addr}{osl_RI:Array (Option qAf)}{oc_H kV_H doc_H pm_H cdv_H ct_H:qAf}{od_H an_H:Option Addr}{osl_H:Array (Option qAf)}{oc_E kV_E doc_E pm_E cdv_E ct_E:qAf}{od_E an_E:Option Addr}{osl_E:Array (Option qAf)}{oc_RR kV_RR doc_RR pm_RR cdv_RR ct_RR:qAf}{od_RR an_RR:Option Addr}{osl_RR:Array (Option qAf)}{oc_OI kV_OI doc_OI pm_OI cdv_OI ct_OI:qAf}{od_OI an_OI:Option Addr}{osl_OI:Array (Option qAf)}{oc_OR kV_OR doc_OR pm_OR cdv_OR ct_OR:qAf}{od_OR an_OR:Option Addr}{osl_OR:Array (Option qAf)}{oc_PI kV_PI doc_PI pm_PI cdv_PI ct_PI:qAf}{od_PI an_PI:Option Addr}{osl_PI:Array (Option qAf)}{oc_PR kV_PR doc_PR pm_PR cdv_PR ct_PR:qAf}{od_PR an_PR:Option Addr}{osl_PR:Array (Option qAf)}{oc_PaI kV_PaI doc_PaI pm_PaI cdv_PaI ct_PaI:qAf}{od_PaI an_PaI:Option Addr}{osl_PaI:Array (Option qAf)}{oc_PaR kV_PaR doc_PaR pm_PaR cdv_PaR ct_PaR:qAf}{od_PaR an_PaR:Option Addr}{osl_PaR:Array (Option qAf)}{oc_VI kV_VI doc_VI pm_VI cdv_VI ct_VI:qAf}{od_VI an_VI:Option Addr}{osl_VI:Array (Option qAf)}{oc_VR kV_VR doc_VR pm_VR cdv_VR ct_VR:qAf}{od_VR an_VR:Option Addr}{osl_VR:Array (Option qAf)}{oc_MI kV_MI doc_MI pm_MI cdv_MI ct_MI:qAf}{od_MI an_MI:Option Addr}{osl_MI:Array (Option qAf)}{oc_MR kV_MR doc_MR pm_MR cdv_MR ct_MR:qAf}{od_MR an_MR:Option Addr}{osl_MR:Array (Option qAf)}{oc_NI kV_NI doc_NI pm_NI cdv_NI ct_NI:qAf}{od_NI an_NI:Option Addr}{osl_NI:Array (Option qAf)}{oc_NLs kV_NLs doc_NLs pm_NLs cdv_NLs ct_NLs:qAf}{od_NLs an_NLs:Option Addr}{osl_NLs:Array (Option qAf)}{oc_NRk kV_NRk doc_NRk pm_NRk cdv_NRk ct_NRk:qAf}{od_NRk an_NRk:Option Addr}{osl_NRk:Array (Option qAf)}  (X:K.In h)(G:h.Ns qAq mg)
  (cQ:qAu K qAq "isinstance"=some none)
  (mU:qAu K qAq "int"=some none)
  (jB:qAu K qAq "bool"=some none)
  (dO:qAu K qAq "range"=some none)
  (dP:qAu K qAq "len"=some none)
  (eZ:qAu K qAq "list"=some none)
  (jQ:qAu K qAq "sum"=some none)
  (mV:qAu K qAq "all"=some none)
  (pH:qAu K qAq "any"=some none)
  (gL:qAu K qAq "sorted"=some none)
  (gU:qAu K qAq "tuple"=some none)
  (pI:qAu K qAq "min"=some none)
  (mW:qAu K qAq "abs"=some none)
  (k8:qAu K qAq "enumerate"=some none)
  (pJ:qAu K qAq "max"=some none)
  (yK:qAu K qAq "ValueError"=some none)
  (rG:qAu K qAq "ALONE"=some (some (.ref AL)))
  (lkAL:K.lookup AL=some ⟨.type "tuple",none,.seq #[.int 1 t_AL0,.int 2 t_AL1,.int 4 t_AL2,.int 8 t_AL3,.int 16 t_AL4,.int 32 t_AL5] n_AL,osl_AL⟩)
  (FF:qAu K qAq "LENGTHS"=some (some (.ref LN)))
  (lkLN:K.lookup LN=some ⟨.type "tuple",none,.seq #[.int 1 t_LN0,.int 2 t_LN1,.int 4 t_LN2,.int 8 t_LN3,.int 16 t_LN4,.int 32 t_LN5,.int 64 t_LN6] n_LN,osl_LN⟩)
  (we:qAu K qAq "WELL"=some (some (.int 64 tk_we)))
  (wC:qAu K qAq "Rule"=some (some (.ref RU)))
  (pgRU:qCj K RU Str.empty=true)
  (hdRU:qCm K RU=true)
  (poRU:qCv K RU=true)
  (saRU:qAd K (.ref RU) "__setattr__"=some (some (.builtin "object.__setattr__")))
  (caRU:qAd K (.ref RU) "__class__"=some (some (.builtin "object.__class__")))
  (moRU:qBa K RU (.type "object")=some true)
  (nmRU:qAd K (.ref RU) "many"=some none)
  (feRU:qAd K (.ref RU) "earn"=some (some (.ref fE)))
  (fhRU:qAd K (.ref RU) "hands"=some (some (.ref fH)))
  (frRU:qAd K (.ref RU) "reckon"=some (some (.ref rR)))
  (irRU:qAb K (.ref RU) (.ref RU)=some true)
  (mkRU:qDc K RU=true)
  (fiRU:qAd K (.ref RU) "__init__"=some (some (.ref iR)))
  (kkRU:qAs K (.ref RU)=true)
  (FG:qAu K qAq "Own"=some (some (.ref OW)))
  (pgOW:qCj K OW Str.empty=true)
  (hdOW:qCm K OW=true)
  (poOW:qCv K OW=true)
  (saOW:qAd K (.ref OW) "__setattr__"=some (some (.builtin "object.__setattr__")))
  (caOW:qAd K (.ref OW) "__class__"=some (some (.builtin "object.__class__")))
  (moOW:qBa K OW (.type "object")=some true)
  (nmOW:qAd K (.ref OW) "many"=some none)
  (feOW:qAd K (.ref OW) "earn"=some (some (.ref fE)))
  (fhOW:qAd K (.ref OW) "hands"=some (some (.ref fH)))
  (frOW:qAd K (.ref OW) "reckon"=some (some (.ref rO)))
  (irOW:qAb K (.ref OW) (.ref RU)=some true)
  (mkOW:qDc K OW=true)
  (fiOW:qAd K (.ref OW) "__init__"=some (some (.ref iO)))
  (kkOW:qAs K (.ref OW)=true)
  (nf0OW:qAd K (.ref OW) "numbers"=some none)
  (FH:qAu K qAq "Plain"=some (some (.ref PL)))
  (pgPL:qCj K PL Str.empty=true)
  (hdPL:qCm K PL=true)
  (poPL:qCv K PL=true)
  (saPL:qAd K (.ref PL) "__setattr__"=some (some (.builtin "object.__setattr__")))
  (caPL:qAd K (.ref PL) "__class__"=some (some (.builtin "object.__class__")))
  (moPL:qBa K PL (.type "object")=some true)
  (nmPL:qAd K (.ref PL) "many"=some none)
  (fePL:qAd K (.ref PL) "earn"=some (some (.ref fE)))
  (fhPL:qAd K (.ref PL) "hands"=some (some (.ref fH)))
  (frPL:qAd K (.ref PL) "reckon"=some (some (.ref rP)))
  (irPL:qAb K (.ref PL) (.ref RU)=some true)
  (mkPL:qDc K PL=true)
  (fiPL:qAd K (.ref PL) "__init__"=some (some (.ref iP)))
  (kkPL:qAs K (.ref PL)=true)
  (nf0PL:qAd K (.ref PL) "earnings"=some none)
  (FI:qAu K qAq "Pairs"=some (some (.ref PA)))
  (pgPA:qCj K PA Str.empty=true)
  (hdPA:qCm K PA=true)
  (poPA:qCv K PA=true)
  (saPA:qAd K (.ref PA) "__setattr__"=some (some (.builtin "object.__setattr__")))
  (caPA:qAd K (.ref PA) "__class__"=some (some (.builtin "object.__class__")))
  (moPA:qBa K PA (.type "object")=some true)
  (nmPA:qAd K (.ref PA) "many"=some none)
  (fePA:qAd K (.ref PA) "earn"=some (some (.ref fE)))
  (fhPA:qAd K (.ref PA) "hands"=some (some (.ref fH)))
  (frPA:qAd K (.ref PA) "reckon"=some (some (.ref rA)))
  (irPA:qAb K (.ref PA) (.ref RU)=some true)
  (mkPA:qDc K PA=true)
  (fiPA:qAd K (.ref PA) "__init__"=some (some (.ref iA)))
  (kkPA:qAs K (.ref PA)=true)
  (nf0PA:qAd K (.ref PA) "pairs"=some none)
  (FJ:qAu K qAq "Votes"=some (some (.ref VO)))
  (pgVO:qCj K VO Str.empty=true)
  (hdVO:qCm K VO=true)
  (poVO:qCv K VO=true)
  (saVO:qAd K (.ref VO) "__setattr__"=some (some (.builtin "object.__setattr__")))
  (caVO:qAd K (.ref VO) "__class__"=some (some (.builtin "object.__class__")))
  (moVO:qBa K VO (.type "object")=some true)
  (nmVO:qAd K (.ref VO) "many"=some none)
  (feVO:qAd K (.ref VO) "earn"=some (some (.ref fE)))
  (fhVO:qAd K (.ref VO) "hands"=some (some (.ref fH)))
  (frVO:qAd K (.ref VO) "reckon"=some (some (.ref rV)))
  (irVO:qAb K (.ref VO) (.ref RU)=some true)
  (mkVO:qDc K VO=true)
  (fiVO:qAd K (.ref VO) "__init__"=some (some (.ref iV)))
  (kkVO:qAs K (.ref VO)=true)
  (nf0VO:qAd K (.ref VO) "quota"=some none)
  (nf1VO:qAd K (.ref VO) "prize"=some none)
  (nf2VO:qAd K (.ref VO) "weights"=some none)
  (FK:qAu K qAq "Match"=some (some (.ref MA)))
  (pgMA:qCj K MA Str.empty=true)
  (hdMA:qCm K MA=true)
  (poMA:qCv K MA=true)
  (saMA:qAd K (.ref MA) "__setattr__"=some (some (.builtin "object.__setattr__")))
  (caMA:qAd K (.ref MA) "__class__"=some (some (.builtin "object.__class__")))
  (moMA:qBa K MA (.type "object")=some true)
  (nmMA:qAd K (.ref MA) "many"=some none)
  (feMA:qAd K (.ref MA) "earn"=some (some (.ref fE)))
  (fhMA:qAd K (.ref MA) "hands"=some (some (.ref fH)))
  (frMA:qAd K (.ref MA) "reckon"=some (some (.ref rM)))
  (irMA:qAb K (.ref MA) (.ref RU)=some true)
  (mkMA:qDc K MA=true)
  (fiMA:qAd K (.ref MA) "__init__"=some (some (.ref iM)))
  (kkMA:qAs K (.ref MA)=true)
  (nf0MA:qAd K (.ref MA) "pairs"=some none)
  (nf1MA:qAd K (.ref MA) "best"=some none)
  (FL:qAu K qAq "Net"=some (some (.ref NE)))
  (pgNE:qCj K NE Str.empty=true)
  (hdNE:qCm K NE=true)
  (poNE:qCv K NE=true)
  (saNE:qAd K (.ref NE) "__setattr__"=some (some (.builtin "object.__setattr__")))
  (caNE:qAd K (.ref NE) "__class__"=some (some (.builtin "object.__class__")))
  (moNE:qBa K NE (.type "object")=some true)
  (nmNE:qAd K (.ref NE) "many"=some none)
  (feNE:qAd K (.ref NE) "earn"=some (some (.ref fE)))
  (fhNE:qAd K (.ref NE) "hands"=some (some (.ref fH)))
  (frNE:qAd K (.ref NE) "reckon"=some (some (.ref rN)))
  (irNE:qAb K (.ref NE) (.ref RU)=some true)
  (mkNE:qDc K NE=true)
  (fiNE:qAd K (.ref NE) "__init__"=some (some (.ref iN)))
  (kkNE:qAs K (.ref NE)=true)
  (nf0NE:qAd K (.ref NE) "costs"=some none)
  (nf1NE:qAd K (.ref NE) "ropes"=some none)
  (fflNE:qAd K (.ref NE) "least"=some (some (.ref fL)))
  (lRI:K.lookup iR=some ⟨oc_RI,od_RI,.func (qBk "__init__" "Rule.__init__" (bL Fs) (bG Fs) (aH Fs) .none kV_RI doc_RI pm_RI an_RI cdv_RI ct_RI),osl_RI⟩)
  (cdRI:qBh K cdv_RI "Rule.__init__"=true)
  (kpRI:qAs K (.ref iR)=true)
  (fnRI:qBu K (.ref iR)=true)
  (lH:K.lookup fH=some ⟨oc_H,od_H,.func (qBk "hands" "Rule.hands" (bL Ft) (bG Ft) (aH Ft) .none kV_H doc_H pm_H an_H cdv_H ct_H),osl_H⟩)
  (cdH:qBh K cdv_H "Rule.hands"=true)
  (kpH:qAs K (.ref fH)=true)
  (fnH:qBu K (.ref fH)=true)
  (lE:K.lookup fE=some ⟨oc_E,od_E,.func (qBk "earn" "Rule.earn" (bL vJ) (bG vJ) (aH vJ) .none kV_E doc_E pm_E an_E cdv_E ct_E),osl_E⟩)
  (cdE:qBh K cdv_E "Rule.earn"=true)
  (kpE:qAs K (.ref fE)=true)
  (fnE:qBu K (.ref fE)=true)
  (lRR:K.lookup rR=some ⟨oc_RR,od_RR,.func (qBk "reckon" "Rule.reckon" (bL Fu) (bG Fu) (aH Fu) .none kV_RR doc_RR pm_RR an_RR cdv_RR ct_RR),osl_RR⟩)
  (cdRR:qBh K cdv_RR "Rule.reckon"=true)
  (kpRR:qAs K (.ref rR)=true)
  (fnRR:qBu K (.ref rR)=true)
  (lOI:K.lookup iO=some ⟨oc_OI,od_OI,.func (qBk "__init__" "Own.__init__" (bL Fv) (bG Fv) (aH Fv) .none kV_OI doc_OI pm_OI an_OI cdv_OI ct_OI),osl_OI⟩)
  (cdOI:qBh K cdv_OI "Own.__init__"=true)
  (kpOI:qAs K (.ref iO)=true)
  (fnOI:qBu K (.ref iO)=true)
  (lOR:K.lookup rO=some ⟨oc_OR,od_OR,.func (qBk "reckon" "Own.reckon" (bL Fw) (bG Fw) (aH Fw) .none kV_OR doc_OR pm_OR an_OR cdv_OR ct_OR),osl_OR⟩)
  (cdOR:qBh K cdv_OR "Own.reckon"=true)
  (kpOR:qAs K (.ref rO)=true)
  (fnOR:qBu K (.ref rO)=true)
  (lPI:K.lookup iP=some ⟨oc_PI,od_PI,.func (qBk "__init__" "Plain.__init__" (bL Fx) (bG Fx) (aH Fx) .none kV_PI doc_PI pm_PI an_PI cdv_PI ct_PI),osl_PI⟩)
  (cdPI:qBh K cdv_PI "Plain.__init__"=true)
  (kpPI:qAs K (.ref iP)=true)
  (fnPI:qBu K (.ref iP)=true)
  (lPR:K.lookup rP=some ⟨oc_PR,od_PR,.func (qBk "reckon" "Plain.reckon" (bL Fy) (bG Fy) (aH Fy) .none kV_PR doc_PR pm_PR an_PR cdv_PR ct_PR),osl_PR⟩)
  (cdPR:qBh K cdv_PR "Plain.reckon"=true)
  (kpPR:qAs K (.ref rP)=true)
  (fnPR:qBu K (.ref rP)=true)
  (lPaI:K.lookup iA=some ⟨oc_PaI,od_PaI,.func (qBk "__init__" "Pairs.__init__" (bL vK) (bG vK) (aH vK) .none kV_PaI doc_PaI pm_PaI an_PaI cdv_PaI ct_PaI),osl_PaI⟩)
  (cdPaI:qBh K cdv_PaI "Pairs.__init__"=true)
  (kpPaI:qAs K (.ref iA)=true)
  (fnPaI:qBu K (.ref iA)=true)
  (lPaR:K.lookup rA=some ⟨oc_PaR,od_PaR,.func (qBk "reckon" "Pairs.reckon" (bL vL) (bG vL) (aH vL) .none kV_PaR doc_PaR pm_PaR an_PaR cdv_PaR ct_PaR),osl_PaR⟩)
  (cdPaR:qBh K cdv_PaR "Pairs.reckon"=true)
  (kpPaR:qAs K (.ref rA)=true)
  (fnPaR:qBu K (.ref rA)=true)
  (lVI:K.lookup iV=some ⟨oc_VI,od_VI,.func (qBk "__init__" "Votes.__init__" (bL Fz) (bG Fz) (aH Fz) .none kV_VI doc_VI pm_VI an_VI cdv_VI ct_VI),osl_VI⟩)
  (cdVI:qBh K cdv_VI "Votes.__init__"=true)
  (kpVI:qAs K (.ref iV)=true)
  (fnVI:qBu K (.ref iV)=true)
  (lVR:K.lookup rV=some ⟨oc_VR,od_VR,.func (qBk "reckon" "Votes.reckon" (bL FA) (bG FA) (aH FA) .none kV_VR doc_VR pm_VR an_VR cdv_VR ct_VR),osl_VR⟩)
  (cdVR:qBh K cdv_VR "Votes.reckon"=true)
  (kpVR:qAs K (.ref rV)=true)
  (fnVR:qBu K (.ref rV)=true)
  (lMI:K.lookup iM=some ⟨oc_MI,od_MI,.func (qBk "__init__" "Match.__init__" (bL FC) (bG FC) (aH FC) .none kV_MI doc_MI pm_MI an_MI cdv_MI ct_MI),osl_MI⟩)
  (cdMI:qBh K cdv_MI "Match.__init__"=true)
  (kpMI:qAs K (.ref iM)=true)
  (fnMI:qBu K (.ref iM)=true)
  (lMR:K.lookup rM=some ⟨oc_MR,od_MR,.func (qBk "reckon" "Match.reckon" (bL FD) (bG FD) (aH FD) .none kV_MR doc_MR pm_MR an_MR cdv_MR ct_MR),osl_MR⟩)
  (cdMR:qBh K cdv_MR "Match.reckon"=true)
  (kpMR:qAs K (.ref rM)=true)
  (fnMR:qBu K (.ref rM)=true)
  (lNI:K.lookup iN=some ⟨oc_NI,od_NI,.func (qBk "__init__" "Net.__init__" (bL FE) (bG FE) (aH FE) .none kV_NI doc_NI pm_NI an_NI cdv_NI ct_NI),osl_NI⟩)
  (cdNI:qBh K cdv_NI "Net.__init__"=true)
  (kpNI:qAs K (.ref iN)=true)
  (fnNI:qBu K (.ref iN)=true)
  (lNLs:K.lookup fL=some ⟨oc_NLs,od_NLs,.func (qBk "least" "Net.least" (bL vM) (bG vM) (aH vM) .none kV_NLs doc_NLs pm_NLs an_NLs cdv_NLs ct_NLs),osl_NLs⟩)
  (cdNLs:qBh K cdv_NLs "Net.least"=true)
  (kpNLs:qAs K (.ref fL)=true)
  (fnNLs:qBu K (.ref fL)=true)
  (lNRk:K.lookup rN=some ⟨oc_NRk,od_NRk,.func (qBk "reckon" "Net.reckon" (bL vN) (bG vN) (aH vN) .none kV_NRk doc_NRk pm_NRk an_NRk cdv_NRk ct_NRk),osl_NRk⟩)
  (cdNRk:qBh K cdv_NRk "Net.reckon"=true)
  (kpNRk:qAs K (.ref rN)=true)
  (fnNRk:qBu K (.ref rN)=true)
  (cgcRI:qDb K (.ref RU) "__getattribute__"=some (some (.builtin "type.__getattribute__")))
  (crcRI:qIt K RU (.type "type")=true)
  (cfcRI:qIu K (.ref RU) (.type "type") "__init__"=some (.val (.ref iR)))
  (GL:qAu K qAq "ShareError"=some (some (.ref SE)))
  (FO:qAu K qAq "NoGroup"=some (some (.ref NG)))
  (GN:qAu K qAq "NoNumber"=some (some (.ref NN)))
  (GO:qAu K qAq "NoOrder"=some (some (.ref NO)))
  (GP:qAu K qAq "NoRows"=some (some (.ref NR)))
  (vP:qAu K qAq "NoRule"=some (some (.ref NL)))
  (GQ:qAu K qAq "NoShares"=some (some (.ref NS)))
  (DT:qAu K qAq "NoTable"=some (some (.ref NT)))
  (GR:qAu K qAq "NoText"=some (some (.ref NX)))
  (GS:qAu K qAq "NoVotes"=some (some (.ref NV)))
  (GU:qAu K qAq "TooMany"=some (some (.ref TM)))
  (GV:qAu K qAq "Unlike"=some (some (.ref UL)))
  (c6:qDb K (.builtin "object.__class__") "__get__"=some (some (.builtin "getset_descriptor.__get__")))
  (c7:qDz K (.builtin "object.__class__")=some true)
  (SE2:qEk K (.ref SE)=some (.type "type"))
  (SE3:qAd K (.ref SE) "__getattribute__"=some (some (.builtin "BaseException.__getattribute__")))
  (SE4:qAd K (.ref SE) "__getattr__"=some none)
  (SE5:qAd K (.ref SE) "__class__"=some (some (.builtin "object.__class__")))
  (SE8:qBa K SE (.type "object")=some true)
  (SE9:qBa K SE (.type "BaseException")=some true)
  (NL2:qEk K (.ref NL)=some (.type "type"))
  (NL3:qAd K (.ref NL) "__getattribute__"=some (some (.builtin "BaseException.__getattribute__")))
  (NL4:qAd K (.ref NL) "__getattr__"=some none)
  (NL5:qAd K (.ref NL) "__class__"=some (some (.builtin "object.__class__")))
  (NL8:qBa K NL (.type "object")=some true)
  (NL9:qBa K NL (.type "BaseException")=some true)
  (NT2:qEk K (.ref NT)=some (.type "type"))
  (NT3:qAd K (.ref NT) "__getattribute__"=some (some (.builtin "BaseException.__getattribute__")))
  (NT4:qAd K (.ref NT) "__getattr__"=some none)
  (NT5:qAd K (.ref NT) "__class__"=some (some (.builtin "object.__class__")))
  (NT8:qBa K NT (.type "object")=some true)
  (NT9:qBa K NT (.type "BaseException")=some true)
  (yM:qDo K NL CH "ValueError.__new__"=true)
  (GW:qDo K NT CH "ValueError.__new__"=true)
  (GX:qDo K NG CH "ValueError.__new__"=true)
  (GY:qBa K NL (.ref SE)=some true)
  (GZ:qAb K (.ref NL) (.type "ValueError")=some true)
  (mX:qAb K (.ref NL) (.ref NL)=some true)
  (pK:qAb K (.ref NL) (.ref NT)=some false)
  (Ha:qDa K (.ref NL) [.ref NG,.ref NN,.ref NO,.ref NR,.ref NS]=some false)
  (Hb:qDa K (.ref NL) [.ref NX,.ref NV,.ref TM,.ref UL]=some false)
  (Hc:qBa K NT (.ref SE)=some true)
  (Hd:qAb K (.ref NT) (.type "ValueError")=some true)
  (mY:qAb K (.ref NT) (.ref NL)=some false)
  (pL:qAb K (.ref NT) (.ref NT)=some true)
  (He:qDa K (.ref NT) [.ref NG,.ref NN,.ref NO,.ref NR,.ref NS]=some false)
  (Hf:qDa K (.ref NT) [.ref NX,.ref NV,.ref TM,.ref UL]=some false)
  (pM:qAb K (.ref RU) (.ref OW)=some false)
  (pN:qAb K (.ref RU) (.ref VO)=some false)
  (pO:qAb K (.ref RU) (.ref PL)=some false)
  (pP:qAb K (.ref RU) (.ref PA)=some false)
  (pQ:qAb K (.ref RU) (.ref MA)=some false)
  (pR:qAb K (.ref RU) (.ref NE)=some false)
  (pS:qAb K (.ref OW) (.ref OW)=some true)
  (pT:qAb K (.ref OW) (.ref VO)=some false)
  (pU:qAb K (.ref OW) (.ref PL)=some false)
  (pV:qAb K (.ref OW) (.ref PA)=some false)
  (pW:qAb K (.ref OW) (.ref MA)=some false)
  (pX:qAb K (.ref OW) (.ref NE)=some false)
  (pY:qAb K (.ref VO) (.ref OW)=some false)
  (pZ:qAb K (.ref VO) (.ref VO)=some true)
  (p0:qAb K (.ref VO) (.ref PL)=some false)
  (p3:qAb K (.ref VO) (.ref PA)=some false)
  (p4:qAb K (.ref VO) (.ref MA)=some false)
  (p5:qAb K (.ref VO) (.ref NE)=some false)
  (p6:qAb K (.ref PL) (.ref OW)=some false)
  (p7:qAb K (.ref PL) (.ref VO)=some false)
  (p8:qAb K (.ref PL) (.ref PL)=some true)
  (p9:qAb K (.ref PL) (.ref PA)=some false)
  (qA:qAb K (.ref PL) (.ref MA)=some false)
  (qB:qAb K (.ref PL) (.ref NE)=some false)
  (qC:qAb K (.ref PA) (.ref OW)=some false)
  (qD:qAb K (.ref PA) (.ref VO)=some false)
  (qE:qAb K (.ref PA) (.ref PL)=some false)
  (qF:qAb K (.ref PA) (.ref PA)=some true)
  (qG:qAb K (.ref PA) (.ref MA)=some false)
  (qH:qAb K (.ref PA) (.ref NE)=some false)
  (qI:qAb K (.ref MA) (.ref OW)=some false)
  (qJ:qAb K (.ref MA) (.ref VO)=some false)
  (qK:qAb K (.ref MA) (.ref PL)=some false)
  (qL:qAb K (.ref MA) (.ref PA)=some false)
  (qM:qAb K (.ref MA) (.ref MA)=some true)
  (qN:qAb K (.ref MA) (.ref NE)=some false)
  (qO:qAb K (.ref NE) (.ref OW)=some false)
  (qP:qAb K (.ref NE) (.ref VO)=some false)
  (qQ:qAb K (.ref NE) (.ref PL)=some false)
  (qR:qAb K (.ref NE) (.ref PA)=some false)
  (qS:qAb K (.ref NE) (.ref MA)=some false)
  (qT:qAb K (.ref NE) (.ref NE)=some true) :
  ∃AL LN RU OW PL PA VO MA NE fE fH rR rO rP rA rV rM rN iR iO iP iA iV iM iN fL SE NG NN NO NR NL NS NT NX NV TM UL,T K mg AL LN RU OW PL PA VO MA NE fE fH rR rO rP rA rV rM rN iR iO iP iA iV iM iN fL SE NG NN NO NR NL NS NT NX NV TM UL :=
 ⟨AL,LN,RU,OW,PL,PA,VO,MA,NE,fE,fH,rR,rO,rP,rA,rV,rM,rN,iR,iO,iP,iA,iV,iM,iN,fL,SE,NG,NN,NO,NR,NL,NS,NT,NX,NV,TM,UL,qBj X G cQ,qBj X G mU,qBj X G jB,qBj X G dO,qBj X G dP,qBj X G eZ,qBj X G jQ,qBj X G mV,qBj X G pH,qBj X G gL,qBj X G gU,qBj X G pI,qBj X G mW,qBj X G k8,qBj X G pJ,qBj X G yK,qBm X G rG,fun _=>.inr ⟨_,_,_,lkAL,rfl,rfl,by show 6<=qAg;decide,.cons ⟨_,rfl⟩ (.cons ⟨_,rfl⟩ (.cons ⟨_,rfl⟩ (.cons ⟨_,rfl⟩ (.cons ⟨_,rfl⟩ (.cons ⟨_,rfl⟩ .nil)))))⟩,qBm X G FF,fun _=>.inr ⟨_,_,_,lkLN,rfl,rfl,by show 7<=qAg;decide,.cons ⟨_,rfl⟩ (.cons ⟨_,rfl⟩ (.cons ⟨_,rfl⟩ (.cons ⟨_,rfl⟩ (.cons ⟨_,rfl⟩ (.cons ⟨_,rfl⟩ (.cons ⟨_,rfl⟩ .nil))))))⟩,⟨_,lkLN,rfl,rfl⟩,⟨tk_we,qBm X G we⟩,qBm X G wC,⟨⟨⟨pgRU,hdRU,poRU,saRU⟩,caRU,c6,c7,moRU⟩,nmRU,⟨feRU,fnE,kpE⟩,⟨fhRU,fnH,kpH⟩,⟨frRU,fnRR,kpRR⟩,irRU⟩,⟨mkRU,fiRU,fnRI,kkRU⟩,qBm X G FG,⟨⟨⟨pgOW,hdOW,poOW,saOW⟩,caOW,c6,c7,moOW⟩,nmOW,⟨feOW,fnE,kpE⟩,⟨fhOW,fnH,kpH⟩,⟨frOW,fnOR,kpOR⟩,irOW⟩,⟨mkOW,fiOW,fnOI,kkOW⟩,nf0OW,qBm X G FH,⟨⟨⟨pgPL,hdPL,poPL,saPL⟩,caPL,c6,c7,moPL⟩,nmPL,⟨fePL,fnE,kpE⟩,⟨fhPL,fnH,kpH⟩,⟨frPL,fnPR,kpPR⟩,irPL⟩,⟨mkPL,fiPL,fnPI,kkPL⟩,nf0PL,qBm X G FI,⟨⟨⟨pgPA,hdPA,poPA,saPA⟩,caPA,c6,c7,moPA⟩,nmPA,⟨fePA,fnE,kpE⟩,⟨fhPA,fnH,kpH⟩,⟨frPA,fnPaR,kpPaR⟩,irPA⟩,⟨mkPA,fiPA,fnPaI,kkPA⟩,nf0PA,qBm X G FJ,⟨⟨⟨pgVO,hdVO,poVO,saVO⟩,caVO,c6,c7,moVO⟩,nmVO,⟨feVO,fnE,kpE⟩,⟨fhVO,fnH,kpH⟩,⟨frVO,fnVR,kpVR⟩,irVO⟩,⟨mkVO,fiVO,fnVI,kkVO⟩,nf0VO,nf1VO,nf2VO,qBm X G FK,⟨⟨⟨pgMA,hdMA,poMA,saMA⟩,caMA,c6,c7,moMA⟩,nmMA,⟨feMA,fnE,kpE⟩,⟨fhMA,fnH,kpH⟩,⟨frMA,fnMR,kpMR⟩,irMA⟩,⟨mkMA,fiMA,fnMI,kkMA⟩,nf0MA,nf1MA,qBm X G FL,⟨⟨⟨pgNE,hdNE,poNE,saNE⟩,caNE,c6,c7,moNE⟩,nmNE,⟨feNE,fnE,kpE⟩,⟨fhNE,fnH,kpH⟩,⟨frNE,fnNRk,kpNRk⟩,irNE⟩,⟨mkNE,fiNE,fnNI,kkNE⟩,nf0NE,nf1NE,⟨fflNE,fnNLs,kpNLs⟩,eG lRI cdRI kpRI (fun _ _ _ _ _ _ us hl=>match us,hl with | [_,_],_=>rfl),eG lH cdH kpH (fun _ _ _ _ _ _ us hl=>match us,hl with | [_],_=>rfl),eG lE cdE kpE (fun _ _ _ _ _ _ us hl=>match us,hl with | [_,_],_=>rfl),eG lRR cdRR kpRR (fun _ _ _ _ _ _ us hl=>match us,hl with | [_,_],_=>rfl),eG lOI cdOI kpOI (fun _ _ _ _ _ _ us hl=>match us,hl with | [_,_],_=>rfl),eG lOR cdOR kpOR (fun _ _ _ _ _ _ us hl=>match us,hl with | [_,_],_=>rfl),eG lPI cdPI kpPI (fun _ _ _ _ _ _ us hl=>match us,hl with | [_,_],_=>rfl),eG lPR cdPR kpPR (fun _ _ _ _ _ _ us hl=>match us,hl with | [_,_],_=>rfl),eG lPaI cdPaI kpPaI (fun _ _ _ _ _ _ us hl=>match us,hl with | [_,_,_],_=>rfl),eG lPaR cdPaR kpPaR (fun _ _ _ _ _ _ us hl=>match us,hl with | [_,_],_=>rfl),eG lVI cdVI kpVI (fun _ _ _ _ _ _ us hl=>match us,hl with | [_,_,_,_],_=>rfl),eG lVR cdVR kpVR (fun _ _ _ _ _ _ us hl=>match us,hl with | [_,_],_=>rfl),eG lMI cdMI kpMI (fun _ _ _ _ _ _ us hl=>match us,hl with | [_,_,_],_=>rfl),eG lMR cdMR kpMR (fun _ _ _ _ _ _ us hl=>match us,hl with | [_,_],_=>rfl),eG lNI cdNI kpNI (fun _ _ _ _ _ _ us hl=>match us,hl with | [_,_,_],_=>rfl),eG lNLs cdNLs kpNLs (fun _ _ _ _ _ _ us hl=>match us,hl with | [_,_],_=>rfl),eG lNRk cdNRk kpNRk (fun _ _ _ _ _ _ us hl=>match us,hl with | [_,_],_=>rfl),⟨cgcRI,crcRI,cfcRI,kpRI⟩,qBm X G GL,qBm X G FO,qBm X G GN,qBm X G GO,qBm X G GP,qBm X G vP,qBm X G GQ,qBm X G DT,qBm X G GR,qBm X G GS,qBm X G GU,qBm X G GV,sG SE2 SE3 SE4 SE5 c6 c7 SE8 SE9,sG NL2 NL3 NL4 NL5 c6 c7 NL8 NL9,sG NT2 NT3 NT4 NT5 c6 c7 NT8 NT9,yM,GW,GX,GY,GZ,mX,pK,Ha,Hb,Hc,Hd,mY,pL,He,Hf,pM,pN,pO,pP,pQ,pR,pS,pT,pU,pV,pW,pX,pY,pZ,p0,p3,p4,p5,p6,p7,p8,p9,qA,qB,qC,qD,qE,qF,qG,qH,qI,qJ,qK,qL,qM,qN,qO,qP,qQ,qR,qS,qT⟩
theorem walk{l:qIv}{q:qBf}{loose:List Str}{XP:(Str->Option qAf)->Heap->Prop}{YP:qCc->Heap->Prop}{d:DefRec}{K:Params->qAa}(hn:l.most=some 63)(hdf:d.params.defaults=[])
  (hY:∀(w:qCc) (h:Heap),YP w h->(K w.params).In h)
  (F:∀(w:qCc) (mg:Str->Option qAf) (fa:Addr) (h:Heap),(K w.params).In h->h.Ns qAq mg->mg d.name=some (.ref fa) ->
   ∃fd:qAx,(∀(s:qAi) (u:qAf),qJa s fd ⟨[u],[]⟩ [("_law_script",u)])/\∀base:Heap,(K w.params).In base->base.Ns qAq mg->eW l.prog w (K w.params) mg base cE 12 fa fd ["_law_script"] (uJ (K w.params))) :
  qJd q loose XP YP l.row.toRowW d [] (fun f vs=>PySem.call f vs) :=
 L2.Ai (n:=63) (k:=12) (x:="_law_script") (CX:=fun _=>cE) (sp:=fun w=>uJ (K w.params)) hn (by decide) hdf ⟨rfl,by decide,by decide⟩ hY F (fun _ _ a ns hl _ hS=>⟨a,ns,rfl,hS,hl,fun _=>rfl⟩) fun _ _ _ _ _ z=>z
theorem Fn{P:qBf}{w:qCc}{K:qAa}{mg:Str->Option qAf}{fa:Addr}(hfa:mg "law"=some (.ref fa))(hT:∃AL LN RU OW PL PA VO MA NE fE fH rR rO rP rA rV rM rN iR iO iP iA iV iM iN fL SE NG NN NO NR NL NS NT NX NV TM UL,T K mg AL LN RU OW PL PA VO MA NE fE fH rR rO rP rA rV rM rN iR iO iP iA iV iM iN fL SE NG NN NO NR NL NS NT NX NV TM UL)
  (t_sNum:∃f fd,Tx K mg "is_number" Dc ["thing"] f fd)
  (t_sWith:∃f fd,Tx K mg "is_number_within" yI ["thing","least","most"] f fd)
  (t_sChM:∃f fd,Tx K mg "check_many" Dd ["many"] f fd)
  (t_sWC:∃f fd,Tx K mg "whole_company" Jh ["many"] f fd)
  (t_sChk:∃f fd,Tx K mg "check_group" De ["group","many"] f fd)
  (t_sHnd:∃f fd,Tx K mg "hands_of" Dg ["group"] f fd)
  (t_sIsT:∃f fd,Tx K mg "is_table" Dh ["thing"] f fd)
  (t_sHin:∃f fd,Tx K mg "hands_in" Di ["table"] f fd)
  (t_sCkN:∃f fd,Tx K mg "check_numbers" Dj ["things"] f fd)
  (t_sCkP:∃f fd,Tx K mg "check_pair" Dk ["many","pair"] f fd)
  (t_sSrt:∃f fd,Tx K mg "sorted_pairs" Dl ["many","pairs"] f fd)
  (t_sHB:∃f fd,Tx K mg "has_both" Ji ["group","one","other"] f fd)
  (t_sSoH:∃f fd,Tx K mg "sum_of_hands" Dm ["numbers","group"] f fd)
  (t_sBG:∃f fd,Tx K mg "best_of_group" Jj ["best","pairs","group"] f fd)
  (t_sBP:∃f fd,Tx K mg "best_pairings" Jk ["many","pairs"] f fd)
  (t_sCkC:∃f fd,Tx K mg "check_costs" Dn ["costs"] f fd)
  (t_sCst:∃f fd,Tx K mg "cost_of" Dp ["rope"] f fd)
  (t_sEnd:∃f fd,Tx K mg "ends_of" Dq ["rope"] f fd)
  (t_sJon:∃f fd,Tx K mg "joins_on" Dr ["rope","joined","ground"] f fd)
  (t_sLNt:∃f fd,Tx K mg "least_net" Ds ["ropes","group"] f fd)
  (t_sWho:∃f fd,Tx K mg "_law_whole" Dt ["_law_found"] f fd)
  (t_sRul:∃f fd,Tx K mg "_law_rule" Du ["_law_kind","_law_parts"] f fd)
  (t_sKin:∃f fd,Tx K mg "_law_kinds" Dv ["_law_rule_here"] f fd)
  (t_sRef:∃f fd,Tx K mg "_law_refused" Dw ["_law_kind","_law_parts"] f fd)
  (t_sCop:∃f fd,Tx K mg "_law_copy" Dx ["_law_parts"] f fd)
  (t_sNus:∃f fd,Tx K mg "_law_numbers" Dy ["_law_many","_law_number"] f fd)
  (t_sPrs:∃f fd,Tx K mg "_law_pairs" Dz ["_law_many","_law_number"] f fd)
  (t_sGoo:∃f fd,Tx K mg "_law_good" DA ["_law_kind","_law_many","_law_number"] f fd)
  (t_sOdd:∃f fd,Tx K mg "_law_odd" DB ["_law_number"] f fd)
  (t_sFar:∃f fd,Tx K mg "_law_far" DC ["_law_number"] f fd)
  (t_sMOf:∃f fd,Tx K mg "_law_many_off" DD ["_law_number"] f fd)
  (t_sLOf:∃f fd,Tx K mg "_law_list_off" sN ["_law_row","_law_number","_law_low"] f fd)
  (t_sTOf:∃f fd,Tx K mg "_law_table_off" DE ["_law_row","_law_number"] f fd)
  (t_sPOf:∃f fd,Tx K mg "_law_pair_off" DF ["_law_many","_law_number","_law_low"] f fd)
  (t_sPsO:∃f fd,Tx K mg "_law_pairs_off" DG ["_law_many","_law_pairs_here","_law_number","_law_low"] f fd)
  (t_sVOf:∃f fd,Tx K mg "_law_votes_off" DI ["_law_parts","_law_number"] f fd)
  (t_sOff:∃f fd,Tx K mg "_law_off" DJ ["_law_kind","_law_many","_law_parts","_law_number"] f fd)
  (t_sLaw:∃f fd,Tx K mg "law" DK ["_law_script"] f fd)
  : ∃fd:qAx,(∀(s:qAi) (u:qAf),qJa s fd ⟨[u],[]⟩ [("_law_script",u)])/\∀base:Heap,K.In base->base.Ns qAq mg->eW P w K mg base cE 12 fa fd ["_law_script"] (uJ K):=by
 obtain⟨AL,LN,RU,OW,PL,PA,VO,MA,NE,fE,fH,rR,rO,rP,rA,rV,rM,rN,iR,iO,iP,iA,iV,iM,iN,fL,SE,NG,NN,NO,NR,NL,NS,NT,NX,NV,TM,UL,T⟩:=hT;obtain⟨f_sNum,fd_sNum,t_sNum⟩:=t_sNum;obtain⟨f_sWith,fd_sWith,t_sWith⟩:=t_sWith;obtain⟨f_sChM,fd_sChM,t_sChM⟩:=t_sChM;obtain⟨f_sWC,fd_sWC,t_sWC⟩:=t_sWC;obtain⟨f_sChk,fd_sChk,t_sChk⟩:=t_sChk;obtain⟨f_sHnd,fd_sHnd,t_sHnd⟩:=t_sHnd;obtain⟨f_sIsT,fd_sIsT,t_sIsT⟩:=t_sIsT;obtain⟨f_sHin,fd_sHin,t_sHin⟩:=t_sHin;obtain⟨f_sCkN,fd_sCkN,t_sCkN⟩:=t_sCkN;obtain⟨f_sCkP,fd_sCkP,t_sCkP⟩:=t_sCkP;obtain⟨f_sSrt,fd_sSrt,t_sSrt⟩:=t_sSrt;obtain⟨f_sHB,fd_sHB,t_sHB⟩:=t_sHB;obtain⟨f_sSoH,fd_sSoH,t_sSoH⟩:=t_sSoH;obtain⟨f_sBG,fd_sBG,t_sBG⟩:=t_sBG;obtain⟨f_sBP,fd_sBP,t_sBP⟩:=t_sBP;obtain⟨f_sCkC,fd_sCkC,t_sCkC⟩:=t_sCkC;obtain⟨f_sCst,fd_sCst,t_sCst⟩:=t_sCst;obtain⟨f_sEnd,fd_sEnd,t_sEnd⟩:=t_sEnd;obtain⟨f_sJon,fd_sJon,t_sJon⟩:=t_sJon;obtain⟨f_sLNt,fd_sLNt,t_sLNt⟩:=t_sLNt;obtain⟨f_sWho,fd_sWho,t_sWho⟩:=t_sWho;obtain⟨f_sRul,fd_sRul,t_sRul⟩:=t_sRul;obtain⟨f_sKin,fd_sKin,t_sKin⟩:=t_sKin;obtain⟨f_sRef,fd_sRef,t_sRef⟩:=t_sRef;obtain⟨f_sCop,fd_sCop,t_sCop⟩:=t_sCop;obtain⟨f_sNus,fd_sNus,t_sNus⟩:=t_sNus;obtain⟨f_sPrs,fd_sPrs,t_sPrs⟩:=t_sPrs;obtain⟨f_sGoo,fd_sGoo,t_sGoo⟩:=t_sGoo;obtain⟨f_sOdd,fd_sOdd,t_sOdd⟩:=t_sOdd;obtain⟨f_sFar,fd_sFar,t_sFar⟩:=t_sFar;obtain⟨f_sMOf,fd_sMOf,t_sMOf⟩:=t_sMOf;obtain⟨f_sLOf,fd_sLOf,t_sLOf⟩:=t_sLOf;obtain⟨f_sTOf,fd_sTOf,t_sTOf⟩:=t_sTOf;obtain⟨f_sPOf,fd_sPOf,t_sPOf⟩:=t_sPOf;obtain⟨f_sPsO,fd_sPsO,t_sPsO⟩:=t_sPsO;obtain⟨f_sVOf,fd_sVOf,t_sVOf⟩:=t_sVOf;obtain⟨f_sOff,fd_sOff,t_sOff⟩:=t_sOff;obtain⟨f_sLaw,fd_sLaw,t_sLaw⟩:=t_sLaw;have e:=hfa.symm.trans t_sLaw.at_;cases e;refine⟨fd_sLaw,fun s u=>.of_eq (t_sLaw.bd [u] rfl),fun base _ _=>?_⟩;obtain⟨m1,x1⟩:=T.Kw;obtain⟨m2,x2⟩:=T.xH;obtain⟨m3,x3⟩:=T.xE;obtain⟨m4,x4⟩:=T.Kx;obtain⟨m5,x5⟩:=T.Ky;obtain⟨m6,x6⟩:=T.Kz;obtain⟨m7,x7⟩:=T.KA;obtain⟨m8,x8⟩:=T.KC;obtain⟨m9,x9⟩:=T.Jl;obtain⟨m10,x10⟩:=T.Jm;obtain⟨m11,x11⟩:=T.KD;obtain⟨m12,x12⟩:=T.KG;obtain⟨m13,x13⟩:=T.KH;obtain⟨m14,x14⟩:=T.KI;obtain⟨m15,x15⟩:=T.KJ;obtain⟨m16,x16⟩:=T.Jn;obtain⟨m17,x17⟩:=T.Jo;have d0:=DU (P:=P) (w:=w) (base:=base) t_sNum T;have d1:=AE (P:=P) (w:=w) (base:=base) t_sWith d0;have d2:=DX t_sChM T d1;have d3:=Hj (P:=P) (w:=w) (base:=base) t_sWC T;have d4:=DZ t_sChk T d1 d3;have d5:=Ea t_sHnd T d4;have d6:=Ec t_sHin T (Eb t_sIsT T d0);have d7:=Ed t_sCkN T d0;have d8:=Eh t_sSoH T d5;have d9:=Ef t_sSrt T (Ee t_sCkP T d7);have d10:=Hs (P:=P) (w:=w) (base:=base) t_sHB T;have eRI:=Hu x1 T d2;have eH:=Hw (P:=P) (w:=w) (mg:=mg) (base:=base) x2;have eE:=Ej x3 T d4;have eRR:=Hx (P:=P) (w:=w) (mg:=mg) (base:=base) x4;have eOI:=HA x5 T eRI d7;have eOR:=HB x6 T d8;have ePI:=HC x7 T eRI d6;have ePR:=HD (P:=P) (w:=w) (mg:=mg) (base:=base) x8 T;have ePaI:=Em x9 T eRI d9;have ePaR:=En x10 T d10;have eVI:=HG x11 T eRI d7;have eVR:=HH x12 T d8;have eMI:=HN x13 T eRI d9 (HM t_sBP T d3 (HK t_sBG T d5 d10));have eMR:=HP (P:=P) (w:=w) (mg:=mg) (base:=base) x14 T;have c1:=Et (P:=P) (w:=w) (base:=base) t_sCst T;have c2:=Ew (P:=P) (w:=w) (base:=base) t_sEnd T;have c3:=Ez t_sJon T c2;have c4:=EB t_sLNt T c3 c2 c1;have eNI:=HW x15 T eRI (EC t_sCkC T d7) d9 c1;have eNL:=EE x16 T c4;have eNR:=EF x17 T eNL c1;have l0:=DW (P:=P) (w:=w) (base:=base) t_sWho T;have l1:=EH (P:=P) (w:=w) (base:=base) t_sOdd T;have l2:=EI (P:=P) (w:=w) (base:=base) t_sFar T;have l3:=EL t_sMOf T l2 l1;have l4:=EM (P:=P) (w:=w) (base:=base) t_sNus T;have l5:=EO (P:=P) (w:=w) (base:=base) t_sPrs T;have l6:=ER t_sGoo T l4 l5;have l7:=EY t_sRul T eRI eOI ePI ePaI eVI eMI eNI eRR eOR eVR ePR ePaR eMR eNR;have l8:=EZ (P:=P) (w:=w) (base:=base) t_sKin T;have l9:=Fb (P:=P) (w:=w) (base:=base) t_sCop T;have l10:=Fc t_sRef T l7;have l11:=Fd t_sLOf T l2 l1;have l12:=Fe t_sTOf T l1;have l13:=Fg t_sPOf T l2 l1;have l14:=Fh t_sPsO T l13;have l15:=Fi t_sVOf T l2 l1 l11;have l16:=Fj t_sOff T l3 l11 l15 l12 l14;exact(Fm t_sLaw T l6 l16 l9 l10 l7 l8 l0 eE eH).ok
end K10
open PySem PySem.W PyProof.Rows
theorem L2.uu1{α}{P:List α->Prop}(h:∀ a,P [a]):∀us,us.length=1->P us
|[a],_=>h a
theorem L2.uu2{α}{P:List α->Prop}(h:∀ a b,P [a,b]):∀us,us.length=2->P us
|[a,b],_=>h a b
theorem L2.uu3{α}{P:List α->Prop}(h:∀ a b c,P [a,b,c]):∀us,us.length=3->P us
|[a,b,c],_=>h a b c
theorem L2.uu4{α}{P:List α->Prop}(h:∀ a b c d,P [a,b,c,d]):∀us,us.length=4->P us
|[a,b,c,d],_=>h a b c d
set_option maxRecDepth 100000 in
set_option maxHeartbeats 0 in
theorem PySem.Challenge.cw_shareparley_k10_rules_refused_holds : PySem.Challenge.rw_shareparley_k10_rules_refused.Holds := by
 w_on;o_law;k_head;(case hw=>w_witness2)
 k_fill
 refine K10.walk (l:=PySem.Challenge.rw_shareparley_k10_rules_refused) rfl rfl (fun w h Y=>PySem.W.kIn_of Y) ?F
 case F =>
  intro w mg fa h KX G hmg;refine K10.Fn hmg ?T ?t_sNum ?t_sWith ?t_sChM ?t_sWC ?t_sChk ?t_sHnd ?t_sIsT ?t_sHin ?t_sCkN ?t_sCkP ?t_sSrt ?t_sHB ?t_sSoH ?t_sBG ?t_sBP ?t_sCkC ?t_sCst ?t_sEnd ?t_sJon ?t_sLNt ?t_sWho ?t_sRul ?t_sKin ?t_sRef ?t_sCop ?t_sNus ?t_sPrs ?t_sGoo ?t_sOdd ?t_sFar ?t_sMOf ?t_sLOf ?t_sTOf ?t_sPOf ?t_sPsO ?t_sVOf ?t_sOff ?t_sLaw
  case T=>
   refine' K10.JJ KX G ?cQ ?mU ?jB ?dO ?dP ?eZ ?jQ ?mV ?pH ?gL ?gU ?pI ?mW ?k8 ?pJ ?yK ?rG ?lkAL ?FF ?lkLN ?we ?wC ?pgRU ?hdRU ?poRU ?saRU ?caRU ?moRU ?nmRU ?feRU ?fhRU ?frRU ?irRU ?mkRU ?fiRU ?kkRU ?FG ?pgOW ?hdOW ?poOW ?saOW ?caOW ?moOW ?nmOW ?feOW ?fhOW ?frOW ?irOW ?mkOW ?fiOW ?kkOW ?nf0OW ?FH ?pgPL ?hdPL ?poPL ?saPL ?caPL ?moPL ?nmPL ?fePL ?fhPL ?frPL ?irPL ?mkPL ?fiPL ?kkPL ?nf0PL ?FI ?pgPA ?hdPA ?poPA ?saPA ?caPA ?moPA ?nmPA ?fePA ?fhPA ?frPA ?irPA ?mkPA ?fiPA ?kkPA ?nf0PA ?FJ ?pgVO ?hdVO ?poVO ?saVO ?caVO ?moVO ?nmVO ?feVO ?fhVO ?frVO ?irVO ?mkVO ?fiVO ?kkVO ?nf0VO ?nf1VO ?nf2VO ?FK ?pgMA ?hdMA ?poMA ?saMA ?caMA ?moMA ?nmMA ?feMA ?fhMA ?frMA ?irMA ?mkMA ?fiMA ?kkMA ?nf0MA ?nf1MA ?FL ?pgNE ?hdNE ?poNE ?saNE ?caNE ?moNE ?nmNE ?feNE ?fhNE ?frNE ?irNE ?mkNE ?fiNE ?kkNE ?nf0NE ?nf1NE ?fflNE ?lRI ?cdRI ?kpRI ?fnRI ?lH ?cdH ?kpH ?fnH ?lE ?cdE ?kpE ?fnE ?lRR ?cdRR ?kpRR ?fnRR ?lOI ?cdOI ?kpOI ?fnOI ?lOR ?cdOR ?kpOR ?fnOR ?lPI ?cdPI ?kpPI ?fnPI ?lPR ?cdPR ?kpPR ?fnPR ?lPaI ?cdPaI ?kpPaI ?fnPaI ?lPaR ?cdPaR ?kpPaR ?fnPaR ?lVI ?cdVI ?kpVI ?fnVI ?lVR ?cdVR ?kpVR ?fnVR ?lMI ?cdMI ?kpMI ?fnMI ?lMR ?cdMR ?kpMR ?fnMR ?lNI ?cdNI ?kpNI ?fnNI ?lNLs ?cdNLs ?kpNLs ?fnNLs ?lNRk ?cdNRk ?kpNRk ?fnNRk ?cgcRI ?crcRI ?cfcRI ?GL ?FO ?GN ?GO ?GP ?vP ?GQ ?DT ?GR ?GS ?GU ?GV ?c6 ?c7 ?SE2 ?SE3 ?SE4 ?SE5 ?SE8 ?SE9 ?NL2 ?NL3 ?NL4 ?NL5 ?NL8 ?NL9 ?NT2 ?NT3 ?NT4 ?NT5 ?NT8 ?NT9 ?yM ?GW ?GX ?GY ?GZ ?mX ?pK ?Ha ?Hb ?Hc ?Hd ?mY ?pL ?He ?Hf ?pM ?pN ?pO ?pP ?pQ ?pR ?pS ?pT ?pU ?pV ?pW ?pX ?pY ?pZ ?p0 ?p3 ?p4 ?p5 ?p6 ?p7 ?p8 ?p9 ?qA ?qB ?qC ?qD ?qE ?qF ?qG ?qH ?qI ?qJ ?qK ?qL ?qM ?qN ?qO ?qP ?qQ ?qR ?qS ?qT
   case cQ|mU|jB|dO|dP|eZ|jQ|mV|pH|gL|gU|pI|mW|k8|pJ|yK|rG|lkAL|FF|lkLN|we|wC|pgRU|hdRU|poRU|saRU|caRU|moRU|nmRU|feRU|fhRU|frRU=>k_is
   (case irRU=>kit_is)
   case mkRU|fiRU|kkRU|FG|pgOW|hdOW|poOW|saOW|caOW|moOW|nmOW|feOW|fhOW|frOW=>k_is
   (case irOW=>kit_is)
   case mkOW|fiOW|kkOW|nf0OW|FH|pgPL|hdPL|poPL|saPL|caPL|moPL|nmPL|fePL|fhPL|frPL=>k_is
   (case irPL=>kit_is)
   case mkPL|fiPL|kkPL|nf0PL|FI|pgPA|hdPA|poPA|saPA|caPA|moPA|nmPA|fePA|fhPA|frPA=>k_is
   (case irPA=>kit_is)
   case mkPA|fiPA|kkPA|nf0PA|FJ|pgVO|hdVO|poVO|saVO|caVO|moVO|nmVO|feVO|fhVO|frVO=>k_is
   (case irVO=>kit_is)
   case mkVO|fiVO|kkVO|nf0VO|nf1VO|nf2VO|FK|pgMA|hdMA|poMA|saMA|caMA|moMA|nmMA|feMA|fhMA|frMA=>k_is
   (case irMA=>kit_is)
   case mkMA|fiMA|kkMA|nf0MA|nf1MA|FL|pgNE|hdNE|poNE|saNE|caNE|moNE|nmNE|feNE|fhNE|frNE=>k_is
   (case irNE=>kit_is)
   case mkNE|fiNE|kkNE|nf0NE|nf1NE|fflNE|lRI|cdRI|kpRI|fnRI|lH|cdH|kpH|fnH|lE|cdE|kpE|fnE|lRR|cdRR|kpRR|fnRR|lOI|cdOI|kpOI|fnOI|lOR|cdOR|kpOR|fnOR|lPI|cdPI|kpPI|fnPI|lPR|cdPR|kpPR|fnPR|lPaI|cdPaI|kpPaI|fnPaI|lPaR|cdPaR|kpPaR|fnPaR|lVI|cdVI|kpVI|fnVI|lVR|cdVR|kpVR|fnVR|lMI|cdMI|kpMI|fnMI|lMR|cdMR|kpMR|fnMR|lNI|cdNI|kpNI|fnNI|lNLs|cdNLs|kpNLs|fnNLs|lNRk|cdNRk|kpNRk|fnNRk|cgcRI|crcRI|cfcRI|GL|FO|GN|GO|GP|vP|GQ|DT|GR|GS|GU|GV|c6|c7|SE2|SE3|SE4|SE5|SE8|SE9|NL2|NL3|NL4|NL5|NL8|NL9|NT2|NT3|NT4|NT5|NT8|NT9=>k_is
   case yM|GW|GX=>k_exc
   case GY=>k_is
   (case GZ=>kit_is)
   (case mX=>kit_is)
   (case pK=>kit_is)
   (case Ha=>kit_is)
   (case Hb=>kit_is)
   case Hc=>k_is
   (case Hd=>kit_is)
   (case mY=>kit_is)
   (case pL=>kit_is)
   (case He=>kit_is)
   (case Hf=>kit_is)
   (case pM=>kit_is)
   (case pN=>kit_is)
   (case pO=>kit_is)
   (case pP=>kit_is)
   (case pQ=>kit_is)
   (case pR=>kit_is)
   (case pS=>kit_is)
   (case pT=>kit_is)
   (case pU=>kit_is)
   (case pV=>kit_is)
   (case pW=>kit_is)
   (case pX=>kit_is)
   (case pY=>kit_is)
   (case pZ=>kit_is)
   (case p0=>kit_is)
   (case p3=>kit_is)
   (case p4=>kit_is)
   (case p5=>kit_is)
   (case p6=>kit_is)
   (case p7=>kit_is)
   (case p8=>kit_is)
   (case p9=>kit_is)
   (case qA=>kit_is)
   (case qB=>kit_is)
   (case qC=>kit_is)
   (case qD=>kit_is)
   (case qE=>kit_is)
   (case qF=>kit_is)
   (case qG=>kit_is)
   (case qH=>kit_is)
   (case qI=>kit_is)
   (case qJ=>kit_is)
   (case qK=>kit_is)
   (case qL=>kit_is)
   (case qM=>kit_is)
   (case qN=>kit_is)
   (case qO=>kit_is)
   (case qP=>kit_is)
   (case qQ=>kit_is)
   (case qR=>kit_is)
   (case qS=>kit_is)
   (case qT=>kit_is)
  case t_sNum|t_sChM|t_sWC|t_sHnd|t_sIsT|t_sHin|t_sCkN|t_sCkC|t_sCst|t_sEnd|t_sWho|t_sKin|t_sCop|t_sOdd|t_sFar|t_sMOf|t_sLaw=>
   refine' L2.bQ KX G ?a ?l ?c ?k (fun _ _ _ _ _ _=>L2.uu1 fun _=>rfl)
   case a|l|c|k=>k_is
  case t_sWith|t_sHB|t_sBG|t_sJon|t_sGoo|t_sLOf|t_sPOf=>
   refine' L2.bQ KX G ?a ?l ?c ?k (fun _ _ _ _ _ _=>L2.uu3 fun _ _ _=>rfl)
   case a|l|c|k=>k_is
  case t_sChk|t_sCkP|t_sSrt|t_sSoH|t_sBP|t_sLNt|t_sRul|t_sRef|t_sNus|t_sPrs|t_sTOf|t_sVOf=>
   refine' L2.bQ KX G ?a ?l ?c ?k (fun _ _ _ _ _ _=>L2.uu2 fun _ _=>rfl)
   case a|l|c|k=>k_is
  case t_sPsO|t_sOff=>
   refine' L2.bQ KX G ?a ?l ?c ?k (fun _ _ _ _ _ _=>L2.uu4 fun _ _ _ _=>rfl)
   case a|l|c|k=>k_is
