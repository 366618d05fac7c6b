import PyProof.Rows.All
import Wide.All
import OpenK.AllK
import Wide.FinOn
import Lean
import PyProof.EqAt
import PyProof.EqKinds
import PyProof.TupleCall
import PySem.Challenge.RW_shareparley_k11_words_of_rules
import KE.IntBitsLaws
import OpenK.KEqL
import KE.LcSums
import KE.KTupSum
import PyProof.Rows.EqDataRows
import PyProof.EnumMake
import PyProof.Rows.Range3
import PyProof.Rows.SortShell
import PyProof.Rows.SortWalk
import PyProof.ListRange
import KE.KSortTup
import KE.KDictOf
import KE.KMinKey
import KE.KDictList
import PyProof.Rows.SetFrom
import PyProof.SetScanFacts
import KE.KRevIter
import PyProof.FString
import PyProof.Rows.StrJoin2
set_option autoImplicit true
open PySem.W renaming Frag->qAa,findIn->qAc,keepIn->qAm,codeIn->qAw,fnOf->qAx,nsIn->qBc,isFn->qBh,mg_none_of->qBl,mroIn->qBt,mg_of->qCa,kitOne->qCe,plainGet->qCh,hasDictIn->qCj,emptyDict->qCk,plainOver->qCs,specialIn->qCu,makesIn->qCv,instObj->qCw,excIn->qDh,takesIn->qDw,callWith_K->qDx,Looks->qDy,looks_findIn->qEl,methodCall_KW->qFi,typeIn->qFq,lookIn->qFr,plainGet_of->qFu,methodObj->qGd,takerIn->qGp,hideAll->qGq,clsIn->qHd,cellsFrom_some->qHj,looks_mroIn->qHq,hideAll_get->qHr,of_hideAll->qIe,kitx_list->qIh,kitx_dict->qIi,handedIn->qIo,readsIn->qIv,findCls->qIw,OpenLaw->qIx,WalkO->qJj,KitX->qJp
open List renaming length_map->qAb,getElem?_eq_getElem->qAf,mem_append_right->qAn,size_toArray->qAp,range->qAq,getD_eq_getElem?_getD->qAt,getElem?_map->qAu,mem_of_getElem?->qAy,mem_cons_of_mem->qBa,length_append->qBi,map_cons->qBk,append_nil->qBm,not_mem_nil->qBs,length_cons->qBu,map_map->qBw,filterMap_map->qBx,map_append->qCi,filterMap_cons->qCl,filterMap_append->qCm,range_succ->qCp,length_range->qCy,toArray->qDd,mem_cons->qDe,filterMap_eq_map->qDf,map_congr_left->qDj,take_length->qDk,append_assoc->qDn,getElem?_append_right->qDq,mem_append_left->qDr,getElem?_append_left->qDv,length_filterMap_le->qDz,mem_cons_self->qEa,getElem?_cons_succ->qEb,find?_cons->qEc,take_of_length_le->qEj,getElem?_eq_none->qEm,getElem_mem->qEo,filter_cons->qEp,lookup->qEw,filter_cons_of_pos->qFf,filter_cons_of_neg->qFg,any_cons->qFh,length_take->qFj,length_drop->qFk,flatMap_nil->qFl,filterMap_eq_map'->qFn,nil_append->qFt,flatMap_append->qGc,pairwise_cons->qGi,foldl_append->qGm,flatMap_cons->qGn,filter_congr->qGo,map_nil->qGs,of_mem_zip->qHa,nodup_cons->qHb,nodup_nil->qHl,getElem?_cons_zero->qHn,range_succ_eq_map->qHs,getElem?_set_self->qHt,drop_of_length_le->qHu,length_singleton->qIf,length_dropLast->qIk,getElem?_set_ne->qIl,getElem?_of_mem->qIm,mem_singleton->qJa,take_add_one->qJf,nodup_append->qJg,range'_succ->qJl,getElem_inj->qJm,flatMap_def->qJn,length_set->qJs,take_zero->qJu,drop_zero->qJv,sum_cons->qKb,set->qKc,map_take->qKd,all_cons->qKe,all_map->qKn
open PySem renaming wpAny_bind->qAd,Value->qAe,Shared->qAh,sizeLine->qAj,wpAny_pure->qAr,mainGlobals->qAv,FuncData->qAz,Program->qBd,starEach->qBg,wpAny->qBj,model->qBn,bootBuiltins->qBv,wpAny_truthy_bool->qBy,World->qCb,Around->qCc,wpAny_holding->qCn,compareOp->qDg,wpAny_Call_Name_kw->qDo,wpAny_passesOwn->qDs,sizeLine_eq->qEh,backTo->qEi,binaryOp->qEk,wpAny_pyIter_list->qEq,wpAny_newObj_type->qEr,sysModules->qEs,wpAny_tryCatch->qEu,codeAny_mono->qEv,PyData->qEz,sliceBounds->qFc,wpAny_mono->qFo,foldedSetIterable->qFp,holding->qFv,codeAny->qFw,behindInMarks->qFx,wpAny_execs_nil->qGe,letOwnedTupleGo->qGf,codeAny_builtin->qGg,wpAny_call->qGk,assignEach->qGl,plainId_quiet->qGx,attributeBase->qGy,getItem->qHg,Scope->qHh,IsPart->qHm,NameKind->qHp,wpAny_of_eq->qHx,wpAny_letGo->qHy,tupleKind->qHz,swapsWith->qIa,keywordEach->qIb,getMethod->qIc,callerA->qId,call_meets->qIs,assign->qIt,valueAt->qJc,bindArgs->qJd,BindsTo->qJe,standAt->qJy,relabel->qJz,pyNext->qKk,backToKw->qKl,GenState->qKm,bindL->qKp,bindC->qKq,atKey->qKr,typeOf->qLc,isTrue->qLd,cLine->qLe,Result->qLf
open PySem.Heap renaming get?_push_of_some->qAg,lt_size->qAs,get?_push_size->qBb,get?_update_ne->qEx,size_update->qFm,SameBut->qGt,get?_update_other->qHw,get?_none_of_le->qIn,get?_push_ne->qJi,size_push->qJw,MadeExcOf->qJx
open Bool renaming false_ne_true->qAi,and_eq_true->qAo,or_eq_true->qCz,false_and->qDl,and_false->qDm,eq_iff_iff->qEd,false_eq_true->qGj,false_or->qKh,and_true->qKi,or_true->qKo
open Nat renaming le_refl->qAk,lt_of_lt_of_le->qAl,ne_of_lt->qBe,le_trans->qBf,lt_or_ge->qBo,le_of_lt->qBp,zero_le->qBq,lt_of_le_of_lt->qCg,pow_le_pow_right->qCq,lt_irrefl->qDp,le_antisymm->qEe,one_le_two_pow->qFa,eq_zero_or_pos->qFb,sub_le->qFy,add_le_add->qGb,lt_succ_of_lt->qGr,lt_succ_self->qGv,div_eq_of_lt->qGw,le_succ->qHf,le_of_eq->qIj,mul_le_mul_right->qIq,lt_trichotomy->qJk,min_eq_right->qJq,le_of_not_lt->qJr,min_eq_left->qJt,succ_pos->qKv,sub_zero->qKw,ne_of_gt->qKx,lt_trans->qKy,le_total->qKz,one_mul->qLa,add_mul->qLb
open PySem.Builtin renaming bitOr->qBr,bitAnd->qCf
open Array renaming length_toList->qBz,getD->qEt,append_assoc->qIr,toList->qKj
open Classical renaming byContradiction->qCd
open PyProof.Rows renaming seqObj->qCo,get?_update_seq->qFd,kindOf->qFz,envOfC->qGa,AllBare->qGh,IntsAre->qGu,sortedHeap->qHi,size_push'->qIu
open PySem.F renaming plain_min_loop->qCr,plainAttrs_list->qCt,plainAttrs_str->qCx,type_str_join->qDa,slot_str_join->qDb,type_list_append->qDt,slot_list_append->qDu,entry_min_loop->qFe,args_tuple_add_2->qGz,entry_tuple_add->qHe,slot_tuple_add->qHk
open PyProof.Rows renaming slot_tuple_getitem->qDc,callWith_type1->qDi,toString_length_le->qFs,ofString_length->qKs,lt_int->qKt,callWith_builtin1->qKu
open Int renaming emod_nonneg->qEf,emod_lt_of_pos->qEg,zero_add->qEn,toNat_of_nonneg->qEy,ofNat_sub->qHv,le_refl->qJb,natCast_nonneg->qJh,toNat_natCast->qJo,mul_nonneg->qKf,mul_le_mul->qKg
open PySem.Calls renaming Name_function_global->qHc,callWith_builtin->qHo,evalArgs_plain->qIg
open Option renaming isSome_map->qIp,getD_some->qIy,getD_none->qIz,none->qKa
theorem cF{α:Sort _}{a:α}{b:Prop}:a=a\/b:=.inl rfl
set_option Elab.async false
set_option linter.all false
set_option maxRecDepth 100000
namespace L2
open PySem PySem.Spec PyProof.Rows
theorem qO:1<=qAj:=by decide
theorem Ak:2<=qAj:=by decide
theorem GF:3<=qAj:=by decide
abbrev Key:=Sum Int Str
def lF:Key->qAe->Bool
 | .inl k,v=>Value.isInt k v
 | .inr x,v=>Value.isStrOf x v
def GR(w:qCb):Key->Int
 | .inl k=>hashInt k
 | .inr x=>hashStr w x
theorem bS:∀{k:Key}{v:qAe},lF k v=true->(∃i t,k=Sum.inl i/\v=Value.int i t)\/(∃x t,k=Sum.inr x/\v=Value.str x t)
 | .inl i,v,h=>by
  obtain⟨t,e⟩:=Value.isInt_shape (k:=i) (v:=v) h;exact .inl ⟨i,t,rfl,e⟩
 | .inr x,v,h=>by
  obtain⟨t,e⟩:=Value.isStrOf_shape (x:=x) (v:=v) h;exact .inr ⟨x,t,rfl,e⟩
theorem sH(i:Int)(t:Tok):lF (.inl i) (.int i t)=true:=by simp[lF,Value.isInt]
theorem sI(x:Str)(t:Tok):lF (.inr x) (.str x t)=true:=by simp[lF,Value.isStrOf]
theorem AV(a b:Int):decide ((Sum.inl a:Key)=Sum.inl b)=(a == b):=by
 by_cases e:a=b
 ·subst e;simp
 ·have h:¬(Sum.inl a:Key)=Sum.inl b:=fun q=>e (Sum.inl.inj q);rw[decide_eq_false h];exact(beq_eq_false_iff_ne.mpr e).symm
theorem AW(a b:Str):decide ((Sum.inr a:Key)=Sum.inr b)=decide (a=b):=by
 by_cases e:a=b
 ·subst e;simp
 ·have h:¬(Sum.inr a:Key)=Sum.inr b:=fun q=>e (Sum.inr.inj q);rw[decide_eq_false h,decide_eq_false e]
theorem AX(a:Int)(b:Str):decide ((Sum.inl a:Key)=Sum.inr b)=false:=decide_eq_false (fun q=>nomatch q)
theorem AY(a:Str)(b:Int):decide ((Sum.inr a:Key)=Sum.inl b)=false:=decide_eq_false (fun q=>nomatch q)
def cH(prog:qBd)(w:qCb):PySem.KeyKind prog w Key where
 is:=lF
 hash:=GR w
 inj:=fun v a b ha hb=>by
  rcases bS ha with ⟨i,t,rfl,rfl⟩ | ⟨x,t,rfl,rfl⟩
  ·rcases bS hb with ⟨j,u,rfl,e⟩ | ⟨y,u,rfl,e⟩
   ·injection e with e1 _;rw[e1]
   ·exact nomatch e
  ·rcases bS hb with ⟨j,u,rfl,e⟩ | ⟨y,u,rfl,e⟩
   ·exact nomatch e
   ·injection e with e1 _;rw[e1]
 byValue:=fun k v h=>by
  rcases bS h with ⟨i,t,rfl,rfl⟩ | ⟨x,t,rfl,rfl⟩ <;> rfl
 pyHash:=fun hv h=>by
  rcases bS hv with ⟨i,t,rfl,rfl⟩ | ⟨x,t,rfl,rfl⟩
  ·exact wpAny_pyHash_int h
  ·exact wpAny_pyHash_str h
 eqBool:=fun hu hv h=>by
  rcases bS hu with ⟨i,t,rfl,rfl⟩ | ⟨x,t,rfl,rfl⟩
  ·rcases bS hv with ⟨j,u,rfl,rfl⟩ | ⟨y,u,rfl,rfl⟩
   ·rw[AV] at h;exact wpAny_eqBool_int h
   ·rw[AX] at h;exact SeqAt.EqAt.int_str i t y u _ _ _ _ h
  ·rcases bS hv with ⟨j,u,rfl,rfl⟩ | ⟨y,u,rfl,rfl⟩
   ·rw[AY] at h;exact SeqAt.EqAt.str_int x t j u _ _ _ _ h
   ·rw[AW] at h;exact wpAny_eqBool_str h
 «strs»:=fun k x t v h=>by
  rcases bS h with ⟨i,u,rfl,e⟩ | ⟨y,u,rfl,e⟩
  ·exact nomatch e
  ·injection e with e1 _
   subst e1;cases v <;> rfl
theorem nP(prog:qBd)(w:qCb)(i:Int)(t:Tok):(cH prog w).is (.inl i) (.int i t)=true:=sH i t
theorem nQ(prog:qBd)(w:qCb)(x:Str)(t:Tok):(cH prog w).is (.inr x) (.str x t)=true:=sI x t
inductive V where
 | non | bl (b:Bool) | int (i:Int) | str (x:Str) | byt (b:Array UInt8) | flt (b:UInt64) | ref (a:Addr) | ty (n:String)
 deriving DecidableEq
def RelV:V->qAe->Prop
 | .non,u=>u=Value.none
 | .bl b,u=>u=Value.bool b
 | .int i,u=>∃t,u=Value.int i t
 | .str x,u=>∃t,u=Value.str x t
 | .byt b,u=>∃t,u=Value.bytes b t
 | .flt b,u=>∃t,u=Value.float b t
 | .ref a,u=>u=Value.ref a
 | .ty n,u=>u=Value.type n
abbrev Vals:List V->List qAe->Prop:=Paired RelV
theorem Vals.length(r:Vals xs us):xs.length=us.length:=Paired.length r
theorem Vals.get:∀{xs:List V}{us:List qAe}{i:Nat}{x:V},Vals xs us->xs[i]?=some x->∃u,us[i]?=some u/\RelV x u
 | _,_,_,_,.nil,e=>by simp at e
 | _,_,0,_,.cons r _,e=>by simp at e;subst e;exact⟨_,rfl,r⟩
 | _,_,i+1,x,.cons _ t,e=>by
  obtain⟨u,h1,h2⟩:=Vals.get (i:=i) (x:=x) t (by simpa using e);exact⟨u,by simpa using h1,h2⟩
theorem Vals.set(r:RelV x u):∀{xs:List V}{us:List qAe} (i:Nat),Vals xs us->Vals (xs.set i x) (us.set i u)
 | _,_,_,.nil=>.nil
 | _,_,0,.cons _ t=>.cons r t
 | _,_,i+1,.cons q t=>.cons q (Vals.set r i t)
theorem Vals.append:∀{xs ys:List V}{us ws:List qAe},Vals xs us->Vals ys ws->Vals (xs++ys) (us++ws)
 | _,_,_,_,.nil,s=>s
 | _,_,_,_,.cons r t,s=>.cons r (Vals.append t s)
theorem Vals.take:∀{xs:List V}{us:List qAe} (n:Nat),Vals xs us->Vals (xs.take n) (us.take n)
 | _,_,0,_=>.nil
 | _,_,_+1,.nil=>.nil
 | _,_,n+1,.cons r t=>.cons r (Vals.take n t)
theorem Vals.drop:∀{xs:List V}{us:List qAe} (n:Nat),Vals xs us->Vals (xs.drop n) (us.drop n)
 | _,_,0,r=>r
 | _,_,_+1,.nil=>.nil
 | _,_,n+1,.cons _ t=>Vals.drop n t
def gY:Option V->Option qAe->Prop
 | some v,some u=>RelV v u
 | none,none=>True
 | _,_=>False
def KV{κ:Type}:List (κ×V)->List (κ×qAe)->Prop:=Paired fun(p:κ×V) (q:κ×qAe)=>p.1=q.1/\RelV p.2 q.2
def kV:Key->V
 | .inl i=>.int i
 | .inr x=>.str x
inductive HO where
 | lst (xs:List V)
 | tup (xs:List V)
 | dK (kvs:List (Key×V)) | dT (kvs:List (List Key×V))
 | set (S:Int->Bool) (n:Nat)
 | ins (C dx:Addr) (fs:List (Str×V))
 | own (x:Addr)
 | xd (fs:List (Str×V))
 | met (f x:Addr)
 | rng (lo hi:Int)
 | frz (o:Obj) (u:HO)
 | tbl (ps:Array qAe)
 | ext (φ:Heap->Prop)
abbrev Hp:=Addr->Option HO
def upd(H:Hp)(a:Addr)(o:HO):Hp:=fun b=>if b=a then some o else H b
theorem aB:upd H a o a=some o:=by unfold upd;rw[if_pos rfl]
theorem aK(h:b≠a):upd H a o b=H b:=by unfold upd;rw[if_neg h]
theorem xV:upd (upd H a o) a u=upd H a u:=by
 funext b;unfold upd;split <;> rfl
theorem cL{H:Hp}{a b:Addr}{o u:HO}(h:H a=some o)(h':H b=some u)(d:o≠u):a≠b:=by
 intro e;subst e;rw[h] at h';exact d (Option.some.inj h')
theorem aO{H:Hp}{a b:Addr}{o:HO}(h:H a=some o)(h':H b=none):a≠b:=by
 intro e;subst e;rw[h] at h';cases h'
section
variable (P:qBd) (w:qCb)
def bY(H:Hp)(h:Heap)(a:Addr):HO->Prop
 | .lst xs=>xs.length<=qAj/\∃(its:List qAe) (n:Nat),Vals xs its/\h.get? a=some { cls:=.type "list",data:=.seq its.toArray n }
 | .tup xs=>xs.length<=qAj/\∃its:List qAe,Vals xs its/\IsTup h a its.toArray
 | .dK kvs=>kvs.length<=qAj/\(a == qEs)=false/\∃vs,KV kvs vs/\h.DictOf (cH P w) a vs
 | .dT kvs=>kvs.length<=qAj/\(a == qEs)=false/\∃xs:List (List Key×Addr×qAe),
   Paired (fun(p:List Key×V) (q:List Key×Addr×qAe)=>p.1=q.1/\H q.2.1=some (.tup (p.1.map kV))/\RelV p.2 q.2.2) kvs xs /\
   ∃o es ep,h.get? a=some o/\o.ExactDict/\o.data = .dict es ep/\es.toList=xs.map (entryOfKey (qHz (cH P w)))/\(xs.map (·.1)).Nodup
 | .set S n=>h.SetOf (intKind P w) a S n
 | .ins C dx fs=>H dx=some (.own a)/\fs.length<=1000/\dx≠a/\h.get? a=some (qCw C dx) /\
   ∃mA,h.Ns1 dx mA/\(∀f,gY (fs.lookup f) (mA f))/\PySem.Within mA (fs.map (·.1))
 | .own _=>∃o,h.get? a=some o
 | .xd fs=>∃mA,h.Ns1 a mA/\∀f,gY (fs.lookup f) (mA f)
 | .rng lo hi=>∃t u v,h.get? a=some { cls:=.type "range",data:=.fields #[.int lo t,.int hi u,.int 1 v] }
 | .frz o u=>h.get? a=some o/\bY H h a u
 | .tbl ps=>h.get? a=some { cls:=.none,data:=.fields ps }
 | .met f x=>h.get? a=some (qGd (.ref f) (.ref x))
 | .ext φ=>φ h/\(∃o,h.get? a=some o)/\∀h1 h2:Heap,φ h1->(∀o,h1.get? a=some o->h2.get? a=some o)->φ h2
def gQ(H:Hp)(h:Heap):Prop:=∀a o,H a=some o->bY P w H h a o
end
section
variable {P:qBd}{w:qCb}{H H':Hp}{h h':Heap}{a:Addr}{o:HO}
theorem bY.lt(x:bY P w H h a o):a<h.objs.size:=by
 cases o with
 | lst xs=>obtain⟨_,_,_,_,e⟩:=x;exact qAs e
 | tup xs=>obtain⟨_,_,_,p⟩:=x;exact p.lt
 | dK kvs=>obtain⟨_,_,_,_,o,_,_,e,_⟩:=x;exact qAs e
 | dT kvs=>obtain⟨_,_,_,_,o,_,_,e,_⟩:=x;exact qAs e
 | set S n=>obtain⟨o,_,_,_,e,_⟩:=x;exact qAs e
 | ins C dx fs=>obtain⟨_,_,_,e,_⟩:=x;exact qAs e
 | own y=>obtain⟨_,e⟩:=x;exact qAs e
 | xd fs=>obtain⟨_,⟨_,_,_,e,_⟩,_⟩:=x;exact qAs e
 | rng lo hi=>obtain⟨_,_,_,e⟩:=x;exact qAs e
 | frz ob u=>obtain⟨e,_⟩:=x;exact qAs e
 | tbl ps=>exact qAs (show h.get? a=some _ from x)
 | met f y=>exact qAs (show h.get? a=some _ from x)
 | ext φ=>obtain⟨_,⟨_,e⟩,_⟩:=x;exact qAs e
theorem Paired.AZ:∀{l₁:List α}{l₂:List β},Paired F l₁ l₂->(∀a b,F a b->G a b)->Paired G l₁ l₂
 | _,_,.nil,_=>.nil
 | _,_,.cons r t,f=>.cons (f _ _ r) (Paired.AZ t f)
theorem bY.jH(x:bY P w H h a o)(k:∀b u,(b=a\/H b=some (.own a))->h.get? b=some u->h'.get? b=some u)
  (ho:∀b,H b=some (.own a)->H' b=some (.own a)) (ht:∀b xs,H b=some (.tup xs)->H' b=some (.tup xs)):bY P w H' h' a o:=by
 induction o with
 | lst xs=>obtain⟨z,its,n,r,e⟩:=x;exact⟨z,its,n,r,k _ _ (.inl rfl) e⟩
 | tup xs=>obtain⟨z,its,r,ob,e,c⟩:=x;exact⟨z,its,r,ob,k _ _ (.inl rfl) e,c⟩
 | dK kvs=>obtain⟨z,y,vs,r,ob,es,ep,e,c⟩:=x;exact⟨z,y,vs,r,ob,es,ep,k _ _ (.inl rfl) e,c⟩
 | dT kvs =>
  obtain⟨z,y,xs,r,ob,es,ep,e,c⟩:=x;exact⟨z,y,xs,Paired.AZ r fun p q z=>⟨z.1,ht _ _ z.2.1,z.2.2⟩,ob,es,ep,k _ _ (.inl rfl) e,c⟩
 | set S n=>obtain⟨ob,es,ep,t,e,c⟩:=x;exact⟨ob,es,ep,t,k _ _ (.inl rfl) e,c⟩
 | ins C dx fs =>
  obtain⟨d,z,ne,e,mA,⟨od,es,ep,e2,c⟩,r⟩:=x;exact⟨ho _ d,z,ne,k _ _ (.inl rfl) e,mA,⟨od,es,ep,k _ _ (.inr d) e2,c⟩,r⟩
 | own y=>obtain⟨ob,e⟩:=x;exact⟨ob,k _ _ (.inl rfl) e⟩
 | xd fs=>obtain⟨mA,⟨od,es,ep,e,c⟩,r⟩:=x;exact⟨mA,⟨od,es,ep,k _ _ (.inl rfl) e,c⟩,r⟩
 | rng lo hi=>obtain⟨t,u,v,e⟩:=x;exact⟨t,u,v,k _ _ (.inl rfl) e⟩
 | frz ob u ih=>obtain⟨e,q⟩:=x;exact⟨k _ _ (.inl rfl) e,ih q⟩
 | tbl ps =>
  have e:h.get? a=some { cls:=.none,data:=.fields ps }:=x;show h'.get? a=some { cls:=.none,data:=.fields ps };exact k a _ (.inl rfl) e
 | met f y =>
  have e:h.get? a=some (qGd (.ref f) (.ref y)):=x;show h'.get? a=some (qGd (.ref f) (.ref y));exact k a _ (.inl rfl) e
 | ext φ=>obtain⟨p,⟨o,e⟩,st⟩:=x;exact⟨st _ _ p fun o q=>k _ _ (.inl rfl) q,⟨o,k _ _ (.inl rfl) e⟩,st⟩
theorem gQ.lt(x:gQ P w H h)(e:H a=some o):a<h.objs.size:=(x a o e).lt
theorem gQ.fresh(x:gQ P w H h)(e:h.objs.size<=a):H a=none:=by
 cases q:H a with
 | none=>rfl
 | some u=>exact absurd (qAl (x.lt q) e) (qDp _)
theorem gQ.kept(x:gQ P w H h)(k:∀b u,h.get? b=some u->h'.get? b=some u):gQ P w H h':=fun a o e =>
 (x a o e).jH (fun b u _ q=>k b u q) (fun _ q=>q) fun _ _ q=>q
theorem gQ.laid(x:gQ P w H h)(k:∀b u,h.get? b=some u->h'.get? b=some u)(hp:h.objs.size<=a)(new:bY P w (upd H a o) h' a o):gQ P w (upd H a o) h':=fun b u e=>by
 have hn:=x.fresh hp;by_cases hb:b=a
 ·subst hb;rw[aB] at e;cases e;exact new
 ·rw[aK hb] at e;exact(x b u e).jH (fun c v _ q=>k c v q) (fun c q=>by rw[aK (aO q hn)];exact q) fun c xs q=>by rw[aK (aO q hn)];exact q
end
def Rd(H:Hp)(a:Addr)(u:HO):Prop:=H a=some u\/∃o,H a=some (.frz o u)
theorem Rd.ok(r:Rd H a u)(x:gQ P w H h):bY P w H h a u:=by
 rcases r with r | ⟨o,r⟩
 ·exact x a u r
 ·obtain⟨_,q⟩:=x a _ r;exact q
def Ej:Option HO->Prop
 | some (.lst _)=>True
 | some (.dK _)=>True
 | some (.dT _)=>True
 | some (.set _ _)=>True
 | some (.ins _ _ _)=>True
 | some (.ext _)=>True
 | _=>False
section
variable {P:qBd}{w:qCb}{H:Hp}{h h':Heap}{x e:Addr}{o':HO}
theorem gQ.write(ok:gQ P w H h)(mu:Ej (H x))(he:e=x\/H e=some (.own x))(k:∀b u,b≠e->h.get? b=some u->h'.get? b=some u)(heo:∃u,h'.get? e=some u)
  (new:bY P w (upd H x o') h' x o'):gQ P w (upd H x o') h':=fun b u q=>by
 have nown:∀c y,H c=some (.own y)->c≠x:=fun c y r z=>by subst z;rw[r] at mu;exact mu
 have ntup:∀c xs,H c=some (.tup xs)->c≠x:=fun c xs r z=>by subst z;rw[r] at mu;exact mu
 by_cases hb:b=x
 ·subst hb;rw[aB] at q;cases q;exact new
 ·rw[aK hb] at q;by_cases hbe:b=e
  ·have q':H b=some (.own x):=by
    rcases he with z | z
    ·exact absurd (hbe.trans z) hb
    ·rw[hbe];exact z
   rw[q] at q';cases q';obtain⟨v,hv⟩:=heo;exact⟨v,by rw[hbe];exact hv⟩
  ·refine(ok b u q).jH (fun c v hc r=>k c v ?_ r) (fun c r=>by rw[aK (nown c b r)];exact r) fun c xs r=>by rw[aK (ntup c xs r)];exact r
   rcases hc with rfl | hc
   ·exact hbe
   ·rintro rfl;rcases he with z | z
    ·exact nown c b hc z
    ·rw[hc] at z;cases z;exact hb rfl
end
structure Un (fs ex:List Addr) (H H':Hp) (h h':Heap):Prop where
 keep:∀b o,h.get? b=some o->H b=none->b∉fs->b∉ex->h'.get? b=some o
 slot:∀b o,h.get? b=some o->H b=none->b∈fs->b∉ex->∃sl,h'.get? b=some { o with slots:=sl }
 free:∀b o,h.get? b=some o->H b=none->b∉ex->H' b=none
 there:∀b o,h.get? b=some o->b∉ex->∃o',h'.get? b=some o'
 fM:∀b xs,H b=some (.tup xs)->H' b=some (.tup xs)
 gZ:∀b o u,H b=some (.frz o u)->H' b=some (.frz o u)
 iL:∀b ps,H b=some (.tbl ps)->∃more,H' b=some (.tbl (ps++more))
section
variable {fs fs' ex ex':List Addr}{H H1 H2:Hp}{h h1 h2 h':Heap}{a x e:Addr}{o:HO}
theorem Un.any(u:Un fs ex H H1 h h1){b:Addr}{ob:Obj}(q:h.get? b=some ob)(n:H b=none)(hx:b∉ex):∃sl,h1.get? b=some { ob with slots:=sl }:=by
 by_cases hb:b∈fs
 ·exact u.slot b ob q n hb hx
 ·exact⟨ob.slots,u.keep b ob q n hb hx⟩
theorem Un.kept(k:∀b u,h.get? b=some u->h'.get? b=some u):Un fs ex H H h h' :=
 ⟨fun b ob q _ _ _=>k b ob q,fun b ob q _ _ _=>⟨ob.slots,k b ob q⟩,fun _ _ _ n _=>n,fun b ob q _=>⟨ob,k b ob q⟩,fun _ _ q=>q,fun _ _ _ q=>q,fun _ ps q=>⟨#[],by rw[q];simp⟩⟩
theorem Un.refl:Un fs ex H H h h:=Un.kept fun _ _ q=>q
theorem Un.laid(k:∀b u,h.get? b=some u->h'.get? b=some u)(hp:h.objs.size<=a)(hn:H a=none):Un fs ex H (upd H a o) h h' where
 keep:=fun b u q _ _ _=>k b u q
 slot:=fun b u q _ _ _=>⟨u.slots,k b u q⟩
 free:=fun b u q n _=>by rw[aK (qBe (qAl (qAs q) hp))];exact n
 there:=fun b u q _=>⟨u,k b u q⟩
 fM:=fun b xs q=>by rw[aK (aO q hn)];exact q
 gZ:=fun b u xs q=>by rw[aK (aO q hn)];exact q
 iL:=fun b ps q=>⟨#[],by rw[aK (aO q hn),q];simp⟩
theorem Un.write(mu:Ej (H x))(he:e=x\/H e=some (.own x))(k:∀b u,b≠e->h.get? b=some u->h'.get? b=some u)(heo:∃u,h'.get? e=some u):Un fs ex H (upd H x o) h h':=by
 have hx:∀b,H b=none->b≠x:=fun b n z=>by subst z;rw[n] at mu;exact mu
 have hb:∀b,H b=none->b≠e:=fun b n z=>by
  subst z;rcases he with r | r
  ·exact hx b n r
  ·rw[n] at r;cases r
 have hm:∀b u,H b=some u->¬Ej (some u)->b≠x:=fun b u q nm z=>by subst z;rw[q] at mu;exact nm mu
 refine⟨fun b u q n _ _=>k b u (hb b n) q,fun b u q n _ _=>⟨u.slots,k b u (hb b n) q⟩,fun b u q n _=>by rw[aK (hx b n)];exact n,fun b u q _=>?_,
  fun b xs q=>by rw[aK (hm b _ q fun z=>z)];exact q,fun b u xs q=>by rw[aK (hm b _ q fun z=>z)];exact q,fun b ps q=>⟨#[],by rw[aK (hm b _ q fun z=>z),q];simp⟩⟩
 by_cases hbe:b=e
 ·subst hbe;exact heo
 ·exact⟨u,k b u hbe q⟩
end
def GG(h:Heap)(H:Hp):List Addr:=(qAq h.objs.size).filter fun a=>(H a).isSome
def mH(h:Heap)(H:Hp):Heap:=qGq h (GG h H)
theorem sJ(h:Heap)(H:Hp):(mH h H).objs.size=h.objs.size:=PySem.W.hideAll_size _ _
theorem uK(e:h.get? b=some o)(n:H b=none):(mH h H).get? b=some o :=
 qHr _ e fun hm=>by
  have q:(H b).isSome=true:=(List.mem_filter.mp hm).2;rw[n] at q;simp at q
theorem xW(e:(mH h H).get? b=some o):h.get? b=some o/\H b=none:=by
 have e':h.get? b=some o:=qIe (GG h H) e;refine⟨e',?_⟩;cases q:H b with
 | none=>rfl
 | some x =>
  have hm:b∈GG h H:=List.mem_filter.mpr ⟨List.mem_range.mpr (qAs e'),by simp[q]⟩;have z:(mH h H).get? b=none:=PySem.W.hideAll_none (GG h H) hm;rw[z] at e;cases e
def xX(g h:Heap)(L:Addr):List (Addr×Obj):=(qAq h.objs.size).filterMap fun a=>if a=L\/(g.get? a).isSome=true then none else (h.get? a).map fun o=>(a,o)
def rest(g h:Heap)(L d:Addr):List (Addr×Obj):=(xX g h L).filter fun p=>decide (p.1≠d)
structure Mod (K:qAa) (mg:Str->Option qAe) (base:Heap):Prop where
 Al:K.In base
 glob:base.Ns qAv mg
 blt:∃mb,base.Ns builtinsNs mb/\∀x:Str,x≠"__name__"->mb x=qBv x
 nolimit:base.NoLimit
structure Cx where
 prog:qBd
 w:qCb
 K:qAa
 mg:Str->Option qAe
 base:Heap
 A:qCc
 N:List Str
 s₀:qAh
 H₀:Hp
 env:Env
 outer:List Env
 stack:List Env
 ex:List Addr
 fn:Str->Bool
 calm:Bool
 pn:List (Addr×Obj)
 xe:qAe->qAh->Prop
def kT(l:List Env):List Addr:=l.filterMap (·.frame)
abbrev Cx.fs(X:Cx):List Addr:=kT X.outer
def GS(sc:qHh)(x:Str):Prop:=sc.names.lookup x=some .local\/sc.names.lookup x=some .cell\/sc.names.lookup x=some .free
def Loc(sc:qHh)(x:Str):Prop:=sc.names.lookup x=some .local\/sc.names.lookup x=some .cell
def Look(env:Env)(h:Heap)(m:Str->Option qAe)(x:Str)(u:qAe):Prop :=
 (env.kindOf x=some .local/\m x=some u)\/((env.kindOf x=some .cell\/env.kindOf x=some .free)/\∃c,env.cells.lookup x=some c/\h.IsCell c (some u))
structure Cx.Ok (X:Cx):Prop where
 mod:Mod X.K X.mg X.base
 kind:X.env.scope.kind = .function
 glob:X.env.globals=qAv
 blt:X.env.builtins=builtinsNs
 above:X.s₀.heap.objs.size<=X.env.locals
 inj:∀x y c,X.env.cells.lookup x=some c->X.env.cells.lookup y=some c->x=y
 has:∀x,(X.env.kindOf x=some .cell\/X.env.kindOf x=some .free)->∃c,X.env.cells.lookup x=some c
 Ek:∀x c,X.fn x=true->X.env.cells.lookup x=some c->X.s₀.heap.objs.size<=c
 hd:X.calm=true->X.A.handled=none
 frames:X.A.frames=some X.stack
 GH:X.stack=X.outer\/(X.stack=X.env::X.outer/\X.env.frame=some X.env.locals)
 Io:∀b∈X.ex,b≠X.env.locals/\∀x c,X.env.cells.lookup x=some c->c≠b
 bs:∀b o,X.base.get? b=some o->X.s₀.heap.get? b=some o/\X.H₀ b=none
 xY:X.base.objs.size<=X.s₀.heap.objs.size
 uL:∀b o,X.base.get? b=some o->b∉X.ex
 xZ:∀b∈X.ex,b∉X.fs
 gR:X.s₀.heap.FunFrames X.base X.outer
 Am:∀b∈X.fs,X.H₀ b=none
structure Inv (X:Cx) (pins:List (Addr×Obj)) (σ:List (Option V)) (H:Hp) (s:qAh):Prop where
 ok:X.Ok
 os:s.os=X.s₀.os
 bare:qGh s.gens
 base:Un X.fs X.ex X.H₀ H X.s₀.heap s.heap
 loc:∃m,s.heap.Ns X.env.locals m/\∀(i:Nat) (x:Str) (v:V),X.N[i]?=some x->σ[i]?=some (some v)->GS X.env.scope x->∃u,RelV v u/\Look X.env s.heap m x u
 cell:∀x c,X.env.cells.lookup x=some c->∃v,s.heap.IsCell c v
 free:H X.env.locals=none
 fN:∀x c,X.env.cells.lookup x=some c->H c=none
 pin:∀p∈X.pn++pins,s.heap.get? p.1=some p.2/\H p.1=none/\p.1≠X.env.locals/\p.1∉X.fs/\∀v,p.2.data≠.cell v
 bV:gQ X.prog X.w H s.heap
 len:σ.length=X.N.length
section
variable {X:Cx}{pins:List (Addr×Obj)}{σ:List (Option V)}{H H':Hp}{s:qAh}{h':Heap}
theorem Cx.Ok.GU(ok:X.Ok){b:Addr}{o:Obj}(e:X.base.get? b=some o):b∉X.fs:=fun hb=>by
 have:=(ok.gR.mem hb).1;rw[e] at this;cases this
theorem Inv.bs(I:Inv X pins σ H s):∀b o,X.base.get? b=some o->s.heap.get? b=some o/\H b=none:=fun b o e =>
 ⟨I.base.keep b o (I.ok.bs b o e).1 (I.ok.bs b o e).2 (I.ok.GU e) (I.ok.uL b o e),I.base.free b o (I.ok.bs b o e).1 (I.ok.bs b o e).2 (I.ok.uL b o e)⟩
theorem Inv.bk(I:Inv X pins σ H s):∀b o,X.base.get? b=some o->s.heap.get? b=some o:=fun b o e=>(I.bs b o e).1
theorem Inv.mod(I:Inv X pins σ H s):Mod X.K X.mg X.base:=I.ok.mod
theorem Inv.kU(I:Inv X pins σ H s):X.K.In s.heap:=I.ok.mod.Al.keeps I.bk
theorem Inv.lt(I:Inv X pins σ H s):X.env.locals<s.heap.objs.size:=let ⟨_,hn,_⟩:=I.loc;hn.lt
theorem Inv.sz(I:Inv X pins σ H s):X.s₀.heap.objs.size<=s.heap.objs.size:=qBf I.ok.above (qBp I.lt)
theorem Inv.El(I:Inv X pins σ H s){a:Addr}(h:s.heap.objs.size<=a):a∉X.fs:=fun hb=>by
 obtain⟨_,o,ho,_⟩:=I.ok.gR.mem hb;exact absurd (qAl (qAs ho) (qBf I.sz h)) (qDp _)
theorem Inv.Ba(I:Inv X pins σ H s):∀x c,X.env.cells.lookup x=some c->c≠X.env.locals:=fun x c e z=>by
 obtain⟨v,o,ho,hd⟩:=I.cell x c e;obtain⟨m,⟨o',es,ep,ho',hd',_⟩,_⟩:=I.loc;rw[z,ho'] at ho;cases ho;rw[hd'] at hd;cases hd
theorem Inv.gR(I:Inv X pins σ H s):s.heap.FunFrames X.base X.outer:=by
 have all:∀(l:List Env),(∀b∈kT l,b∈X.fs)->X.s₀.heap.FunFrames X.base l->s.heap.FunFrames X.base l:=by
  intro l;induction l with
  | nil=>intro _ _;trivial
  | cons env r ih =>
   intro hs hl;obtain⟨hk,⟨L,o,hf,hn,ho,hd⟩,hr⟩:=hl;have hL:L∈X.fs:=hs L (by unfold kT;rw[qCl,hf];exact qEa);obtain⟨sl,e⟩:=I.base.slot L o ho (I.ok.Am L hL) hL fun z=>I.ok.xZ L z hL;exact⟨hk,⟨L,_,hf,hn,e,hd⟩,ih (fun b hb=>hs b (by unfold kT;rw[qCl,hf];exact qBa _ hb)) hr⟩
 exact all X.outer (fun _ hb=>hb) I.ok.gR
theorem Inv.stack(I:Inv X pins σ H s):s.heap.FunFrames X.base X.stack:=by
 rcases I.ok.GH with e | ⟨e,hf⟩
 ·rw[e];exact I.gR
 ·rw[e];obtain⟨m,hn,_⟩:=I.loc;refine .cons (by rw[I.ok.kind];decide) hf hn ?_ I.gR;exact qIn (qBf I.ok.xY I.ok.above)
theorem Inv.jS(I:Inv X pins σ H s):∀b∈kT X.stack,b∈X.env.locals::X.fs:=fun b hb=>by
 rcases I.ok.GH with e | ⟨e,hf⟩
 ·rw[e] at hb;exact qBa _ hb
 ·rw[e] at hb;unfold kT at hb;rw[qCl,hf] at hb;exact hb
theorem Inv.mI(I:Inv X pins σ H s):∀b∈kT X.stack,H b=none:=fun b hb=>by
 rcases List.mem_cons.mp (I.jS b hb) with e | hb
 ·rw[e];exact I.free
 ·obtain⟨_,o,ho,_⟩:=I.ok.gR.mem hb;exact I.base.free b o ho (I.ok.Am b hb) fun z=>I.ok.xZ b z hb
theorem Inv.step{g':Array qKm}{t':Nat}{d':Drawn}{ch:List Addr}(I:Inv X pins σ H s)
  (hch:∀b∈ch,(b∈X.ex\/X.s₀.heap.objs.size<=b)/\b≠X.env.locals/\(∀x c,X.env.cells.lookup x=some c->c≠b)/\∀p∈X.pn++pins,p.1≠b)
  (keep:∀b o,b≠X.env.locals->b∉X.fs->b∉ch->s.heap.get? b=some o->H b=none->h'.get? b=some o)
  (slot:∀b o,b≠X.env.locals->b∈X.fs->b∉ch->s.heap.get? b=some o->H b=none->∃sl,h'.get? b=some { o with slots:=sl }) (free:∀b o,b∉ch->s.heap.get? b=some o->H b=none->H' b=none)
  (there:∀b o,b∉ch->s.heap.get? b=some o->∃o',h'.get? b=some o')
  (fM:∀b xs,H b=some (.tup xs)->H' b=some (.tup xs)) (gZ:∀b o u,H b=some (.frz o u)->H' b=some (.frz o u)) (iL:∀b ps,H b=some (.tbl ps)->∃more,H' b=some (.tbl (ps++more)))
  (ns:∀m,s.heap.Ns X.env.locals m->h'.Ns X.env.locals m) (bV:gQ X.prog X.w H' h') (hg:qGh g') :
  Inv X pins σ H' { s with heap:=h',gens:=g',drawn:=d',toks:=t' }:=by
 have neL:∀b o,X.s₀.heap.get? b=some o->b≠X.env.locals:=fun b o e=>qBe (qAl (qAs e) I.ok.above);have neC:∀b o,X.s₀.heap.get? b=some o->b∉X.ex->b∉ch:=fun b o e hx hb=>by
  rcases(hch b hb).1 with z | z
  ·exact hx z
  ·exact absurd (qAl (qAs e) z) (qDp _)
 have cellK:∀x c,X.env.cells.lookup x=some c->∀v,s.heap.IsCell c v->h'.IsCell c v:=fun x c e v ⟨o,ho,hd⟩=>by
  have nch:c∉ch:=fun z=>(hch c z).2.2.1 x c e rfl;by_cases hc:c∈X.fs
  ·obtain⟨sl,q⟩:=slot c o (I.Ba x c e) hc nch ho (I.fN x c e);exact⟨_,q,hd⟩
  ·exact⟨o,keep c o (I.Ba x c e) hc nch ho (I.fN x c e),hd⟩
 refine⟨I.ok,I.os,hg,⟨fun b o e n hb hx=>?_,fun b o e n hb hx=>?_,fun b o e n hx=>?_,fun b o e hx=>?_,fun b xs e=>fM b xs (I.base.fM b xs e),fun b o xs e=>gZ b o xs (I.base.gZ b o xs e),fun b ps e=>?_⟩,?_,fun x c e=>?_,?_,fun x c e=>?_,fun p hp=>?_,bV,I.len⟩
 ·exact keep b o (neL b o e) hb (neC b o e hx) (I.base.keep b o e n hb hx) (I.base.free b o e n hx)
 ·obtain⟨sl,e1⟩:=I.base.slot b o e n hb hx;obtain⟨sl',e2⟩:=slot b _ (neL b o e) hb (neC b o e hx) e1 (I.base.free b o e n hx);exact⟨sl',e2⟩
 ·obtain⟨o',e1⟩:=I.base.there b o e hx;exact free b o' (neC b o e hx) e1 (I.base.free b o e n hx)
 ·obtain⟨o',e1⟩:=I.base.there b o e hx;exact there b o' (neC b o e hx) e1
 ·obtain⟨m1,e1⟩:=I.base.iL b ps e;obtain⟨m2,e2⟩:=iL b _ e1;exact⟨m1++m2,by rw[e2,qIr]⟩
 ·obtain⟨m,hn,hl⟩:=I.loc;refine⟨m,ns m hn,fun i x v e1 e2 e3=>?_⟩;obtain⟨u,r,l⟩:=hl i x v e1 e2 e3;refine⟨u,r,?_⟩;rcases l with l | ⟨k,c,e,z⟩
  ·exact .inl l
  ·exact .inr ⟨k,c,e,cellK x c e _ z⟩
 ·obtain⟨v,z⟩:=I.cell x c e;exact⟨v,cellK x c e v z⟩
 ·obtain⟨m,⟨o,_,_,ho,_⟩,_⟩:=I.loc;exact free _ o (fun z=>(hch _ z).2.1 rfl) ho I.free
 ·obtain⟨v,o,ho,hd⟩:=I.cell x c e;exact free c o (fun z=>(hch c z).2.2.1 x c e rfl) ho (I.fN x c e)
 ·obtain⟨e,n,ne,nf,d⟩:=I.pin p hp;have nch:p.1∉ch:=fun z=>(hch p.1 z).2.2.2 p hp rfl;exact⟨keep p.1 p.2 ne nf nch e n,free p.1 p.2 nch e n,ne,nf,d⟩
theorem Inv.un{t':Nat}(I:Inv X pins σ H s)(u:Un X.fs [] H H' s.heap h')(bV:gQ X.prog X.w H' h'):Inv X pins σ H' { s with heap:=h',toks:=t' }:=by
 obtain⟨m,⟨o,es,ep,ho,r⟩,_⟩:=id I.loc;obtain⟨sl,hL⟩:=u.any ho I.free (by simp);exact I.step (g':=s.gens) (d':=s.drawn) (ch:=[]) (fun _ z=>nomatch z) (fun b o _ hb _ e n=>u.keep b o e n hb (by simp)) (fun b o _ hb _ e n=>u.slot b o e n hb (by simp)) (fun b o _ e n=>u.free b o e n (by simp)) (fun b o _ e=>u.there b o e (by simp)) u.fM u.gZ u.iL (fun m' hm=>by
  obtain⟨o',es',ep',ho',r'⟩:=hm;rw[ho] at ho';cases ho';exact⟨_,es',ep',hL,r'⟩) bV I.bare
theorem Inv.call{g':Array qKm}{t':Nat}{d':Drawn}{ch:List Addr}(I:Inv X pins σ H s)(u:Un (kT X.stack) ch H H' s.heap h')(bV:gQ X.prog X.w H' h')(hg:qGh g')
  (hch:∀b∈ch,(b∈X.ex\/X.s₀.heap.objs.size<=b)/\b≠X.env.locals/\(∀x c,X.env.cells.lookup x=some c->c≠b)/\∀p∈X.pn++pins,p.1≠b) :
  Inv X pins σ H' { s with heap:=h',gens:=g',drawn:=d',toks:=t' }:=by
 obtain⟨m,⟨o,es,ep,ho,r⟩,_⟩:=id I.loc;obtain⟨sl,hL⟩:=u.any ho I.free fun z=>(hch _ z).2.1 rfl;exact I.step (ch:=ch) hch (fun b o hL hb hc e n=>u.keep b o e n (fun z=>(List.mem_cons.mp (I.jS b z)).elim hL hb) hc) (fun b o _ _ hc e n=>u.any e n hc) (fun b o hc e n=>u.free b o e n hc) (fun b o hc e=>u.there b o e hc) u.fM u.gZ u.iL (fun m' hm=>by
  obtain⟨o',es',ep',ho',r'⟩:=hm;rw[ho] at ho';cases ho';exact⟨_,es',ep',hL,r'⟩) bV hg
theorem Inv.turned{t':Nat}{it:Addr}(I:Inv X pins σ H s)(k:∀b o,b≠it->s.heap.get? b=some o->h'.get? b=some o)(hn:H it=none)(hL:it≠X.env.locals)
  (h1:it∈X.ex\/X.s₀.heap.objs.size<=it) (h2:∀x c,X.env.cells.lookup x=some c->c≠it) (h3:∀p∈X.pn++pins,p.1≠it):Inv X pins σ H { s with heap:=h',toks:=t' }:=by
 have nit:∀b u,H b=some u->b≠it:=fun b u e z=>by rw[z,hn] at e;cases e
 refine I.step (g':=s.gens) (d':=s.drawn) (ch:=[it]) (fun b hb=>?_) (fun b o _ _ hc e _=>k b o (fun z=>hc (by simp[z])) e) (fun b o _ _ hc e _=>⟨o.slots,k b o (fun z=>hc (by simp[z])) e⟩) (fun _ _ _ _ n=>n)
  (fun b o hc e=>⟨o,k b o (fun z=>hc (by simp[z])) e⟩) (fun _ _ e=>e) (fun _ _ _ e=>e) (fun b ps e=>⟨#[],by rw[e];simp⟩) (fun m hm=>?_) (fun b u e=>?_) I.bare
 ·have e:b=it:=by simpa using hb
  subst e;exact⟨h1,hL,h2,h3⟩
 ·obtain⟨o,es,ep,ho,r⟩:=hm;exact⟨o,es,ep,k _ o (Ne.symm hL) ho,r⟩
 ·refine(I.bV b u e).jH (fun c v hc q=>k c v ?_ q) (fun _ q=>q) fun _ _ q=>q;rcases hc with z | z
  ·rw[z];exact nit b u e
  ·exact nit c _ z
theorem Inv.tok(I:Inv X pins σ H s)(t:Nat):Inv X pins σ H { s with toks:=t }:=I.un (h':=s.heap) (t':=t) Un.refl I.bV
theorem Inv.kept(I:Inv X pins σ H s)(k:∀b u,s.heap.get? b=some u->h'.get? b=some u):Inv X pins σ H { s with heap:=h',toks:=t' }:=I.un (Un.kept k) (I.bV.kept k)
theorem Inv.laid(I:Inv X pins σ H s)(k:∀b u,s.heap.get? b=some u->h'.get? b=some u)(hp:s.heap.objs.size<=a)(new:bY X.prog X.w (upd H a o) h' a o):
  Inv X pins σ (upd H a o) { s with heap:=h',toks:=t' }:=I.un (Un.laid k hp (I.bV.fresh hp)) (I.bV.laid k hp new)
theorem Inv.write(I:Inv X pins σ H s)(mu:Ej (H x))(he:e=x\/H e=some (.own x))(k:∀b u,b≠e->s.heap.get? b=some u->h'.get? b=some u)(heo:∃u,h'.get? e=some u)
  (new:bY X.prog X.w (upd H x o) h' x o):Inv X pins σ (upd H x o) { s with heap:=h',toks:=t' }:=I.un (Un.write mu he k heo) (I.bV.write mu he k heo new)
theorem Inv.mJ(I:Inv X pins σ H s)(h:∀p∈pins',s.heap.get? p.1=some p.2/\H p.1=none/\p.1≠X.env.locals/\p.1∉X.fs/\∀v,p.2.data≠.cell v):Inv X pins' σ H s :=
 ⟨I.ok,I.os,I.bare,I.base,I.loc,I.cell,I.free,I.fN,fun p hp=>(List.mem_append.mp hp).elim (fun z=>I.pin p (qDr _ z)) (h p),I.bV,I.len⟩
theorem nR{N:List Str}(hN:N.Nodup){i j:Nat}{x:Str}(a:N[i]?=some x)(b:N[j]?=some x):i=j:=by
 obtain⟨h1,e1⟩:=List.getElem?_eq_some_iff.mp a;obtain⟨h2,e2⟩:=List.getElem?_eq_some_iff.mp b;exact(qJm hN).mp (e1.trans e2.symm)
theorem lG{M:Model}{A:qCc}{E:qAe->qAh->Prop}{i:Nat}{x:Str}{v:V}{u:qAe}{Q:Unit->qAh->Prop}(I:Inv X pins σ H s)(hN:X.N.Nodup)(hi:X.N[i]?=some x)(hx:Loc X.env.scope x)(r:RelV v u)
  (h:∀s',Inv X pins (σ.set i (some v)) H s'->(∃a,qGt a s.heap s'.heap/\(a=X.env.locals\/X.env.cells.lookup x=some a))->Q () s') (hf:X.fn x=true\/X.env.scope.names.lookup x=some .local:=by first|exact .inl rfl | exact .inr rfl | assumption):qBj M A (storeName X.env x u) Q E s:=by
 obtain⟨m,hn,hl⟩:=id I.loc;have hcls:(X.env.scope.kind == .class||(X.env.scope.kind == .module&&X.env.locals != X.env.globals))=false:=by rw[I.ok.kind];rfl
 have hiσ:i<σ.length:=by rw[I.len];exact(List.getElem?_eq_some_iff.mp hi).1
 have Ba:=I.Ba;have tracked:∀{a:Addr}{h':Heap},(∃o,s.heap.get? a=some o/\H a=none)->qGt a s.heap h'->gQ X.prog X.w H h':=fun {a h'} ha hs b ob e=>by
  obtain⟨_,_,hfree⟩:=ha;refine(I.bV b ob e).jH (fun c w' hc q=>(hs.2 c ?_).trans q) (fun _ q=>q) fun _ _ q=>q;rintro rfl;rcases hc with rfl | hc
  ·rw[hfree] at e;cases e
  ·rw[hfree] at hc;cases hc
 rcases hx with hk | hk
 ·refine wpAny_storeName_local hk hn (fun h' hn' hs=>?_) hcls;obtain⟨oL,_,_,hoL,_⟩:=id hn;refine h _ ⟨I.ok,I.os,I.bare,⟨fun b o e n hb hx=>?_,fun b o e n hb hx=>?_,I.base.free,fun b o e hx=>?_,I.base.fM,I.base.gZ,I.base.iL⟩,⟨_,hn',fun j y v' e1 e2 e3=>?_⟩,fun y c e=>?_,I.free,I.fN,fun p hp=>?_,tracked ⟨oL,hoL,I.free⟩ hs,by simpa using I.len⟩ ⟨_,hs,.inl rfl⟩
  ·exact(hs.2 b (qBe (qAl (qAs e) I.ok.above))).trans (I.base.keep b o e n hb hx)
  ·obtain⟨sl,e1⟩:=I.base.slot b o e n hb hx;exact⟨sl,(hs.2 b (qBe (qAl (qAs e) I.ok.above))).trans e1⟩
  ·obtain⟨o',e1⟩:=I.base.there b o e hx;exact⟨o',(hs.2 b (qBe (qAl (qAs e) I.ok.above))).trans e1⟩
  ·by_cases hj:j=i
   ·subst hj;rw[hi] at e1;cases e1;rw[qHt hiσ] at e2;cases e2;exact⟨u,r,.inl ⟨hk,by simp⟩⟩
   ·rw[qIl (Ne.symm hj)] at e2;obtain⟨u',r',q⟩:=hl j y v' e1 e2 e3;refine⟨u',r',?_⟩;rcases q with ⟨k,e⟩ | ⟨k,c,e,z⟩
    ·refine .inl ⟨k,?_⟩;have:y≠x:=fun e=>hj (nR hN e1 (e▸hi));simp[this,e]
    ·exact .inr ⟨k,c,e,z.sameBut hs (Ba y c e)⟩
  ·obtain⟨w',z⟩:=I.cell y c e;exact⟨w',z.sameBut hs (Ba y c e)⟩
  ·obtain⟨e,n,ne,nf,d⟩:=I.pin p hp;exact⟨(hs.2 p.1 ne).trans e,n,ne,nf,d⟩
 ·have hfn:X.fn x=true:=by
   rcases hf with z | z
   ·exact z
   ·rw[z] at hk;cases hk
  obtain⟨c,hc⟩:=I.ok.has x (.inl hk);obtain⟨w',z⟩:=I.cell x c hc;refine wpAny_storeName_cell I.ok.kind hk hc z (fun h' hc' hs=>?_);obtain⟨oc,hoc,hocd⟩:=id z;refine h { s with heap:=h' } ⟨I.ok,I.os,I.bare,⟨fun b o e n hb hx=>?_,fun b o e n hb hx=>?_,I.base.free,fun b o e hx=>?_,I.base.fM,I.base.gZ,I.base.iL⟩,⟨m,hn.sameBut hs (Ne.symm (Ba x c hc)),fun j y v' e1 e2 e3=>?_⟩,fun y c' e=>?_,I.free,I.fN,fun p hp=>?_,tracked ⟨oc,hoc,I.fN x c hc⟩ hs,by simpa using I.len⟩ ⟨c,hs,.inr hc⟩
  ·exact(hs.2 b (qBe (qAl (qAs e) (I.ok.Ek x c hfn hc)))).trans (I.base.keep b o e n hb hx)
  ·obtain⟨sl,e1⟩:=I.base.slot b o e n hb hx;exact⟨sl,(hs.2 b (qBe (qAl (qAs e) (I.ok.Ek x c hfn hc)))).trans e1⟩
  ·obtain⟨o',e1⟩:=I.base.there b o e hx;exact⟨o',(hs.2 b (qBe (qAl (qAs e) (I.ok.Ek x c hfn hc)))).trans e1⟩
  ·by_cases hj:j=i
   ·subst hj;rw[hi] at e1;cases e1;rw[qHt hiσ] at e2;cases e2;exact⟨u,r,.inr ⟨.inl hk,c,hc,hc'⟩⟩
   ·rw[qIl (Ne.symm hj)] at e2;obtain⟨u',r',q⟩:=hl j y v' e1 e2 e3;refine⟨u',r',?_⟩;rcases q with q | ⟨k,c',e,z'⟩
    ·exact .inl q
    ·refine .inr ⟨k,c',e,z'.sameBut hs ?_⟩;rintro rfl;exact hj (nR hN e1 (I.ok.inj _ _ _ e hc▸hi))
  ·by_cases hcc:c'=c
   ·subst hcc;exact⟨_,hc'⟩
   ·obtain⟨w2,z2⟩:=I.cell y c' e;exact⟨w2,z2.sameBut hs hcc⟩
  ·obtain⟨e,n,ne,nf,d⟩:=I.pin p hp;refine⟨(hs.2 p.1 ?_).trans e,n,ne,nf,d⟩;intro q;rw[q,hoc] at e;have q':oc=p.2:=Option.some.inj e;exact d w' (by rw[<- q'];exact hocd)
theorem nT(I:Inv X pins σ H s)(hN:X.N.Nodup)(hi:X.N[i]?=some x)(hx:Loc X.env.scope x)(r:RelV v u)
  (h:∀s',Inv X pins (σ.set i (some v)) H s'->Q () s') (hf:X.fn x=true\/X.env.scope.names.lookup x=some .local:=by first|exact .inl rfl | exact .inr rfl | assumption):qBj M A (storeName X.env x u) Q E s :=
 lG I hN hi hx r (fun s' I' _=>h s' I') hf
theorem Inv.call'(I:Inv X pins σ H s)(ho:s'.os=s.os)(u:Un (kT X.stack) ch H H' s.heap s'.heap)(bV:gQ X.prog X.w H' s'.heap)(hg:qGh s'.gens)
  (hch:∀b∈ch,(b∈X.ex\/X.s₀.heap.objs.size<=b)/\b≠X.env.locals/\(∀x c,X.env.cells.lookup x=some c->c≠b)/\∀p∈X.pn++pins,p.1≠b):Inv X pins σ H' s':=by
 obtain⟨h',g',d',t',o'⟩:=s';have e:o'=s.os:=ho;subst e;exact I.call (g':=g') (t':=t') (d':=d') u bV hg hch
end
abbrev XK:=qAe->Option Addr->Hp->Prop
abbrev St:=List (Option V)
abbrev VK:=V->Hp->Prop
abbrev TE:=St->Hp->VK->Prop
abbrev TT:=St->Hp->(Bool->Hp->Prop)->Prop
abbrev TA:=St->Hp->(List V->Hp->Prop)->Prop
structure Ends where
 nx:St->Hp->Prop
 rt:VK
 bk:St->Hp->Prop:=fun _ _=>False
 ct:St->Hp->Prop:=fun _ _=>False
abbrev TS:=Ends->St->Hp->Prop
def EP(X:Cx)(pins:List (Addr×Obj))(σ:St)(Q:VK)(u:qAe)(s':qAh):Prop:=∃v H',Inv X pins σ H' s'/\RelV v u/\Q v H'
def TP(X:Cx)(pins:List (Addr×Obj))(σ:St)(Q:Bool->Hp->Prop)(b:Bool)(s':qAh):Prop:=∃H',Inv X pins σ H' s'/\Q b H'
def AP(X:Cx)(pins:List (Addr×Obj))(σ:St)(Q:List V->Hp->Prop)(us:List qAe)(s':qAh):Prop:=∃vs H',Inv X pins σ H' s'/\Vals vs us/\Q vs H'
def SP(X:Cx)(pins:List (Addr×Obj))(D:Ends)(f:Flow)(s':qAh):Prop :=
 match f with
 | .next=>∃σ' H',Inv X pins σ' H' s'/\D.nx σ' H'
 | .brk=>∃σ' H',Inv X pins σ' H' s'/\D.bk σ' H'
 | .cont=>∃σ' H',Inv X pins σ' H' s'/\D.ct σ' H'
 | .ret u=>∃v σ' H',Inv X pins σ' H' s'/\RelV v u/\D.rt v H'
def PE(X:Cx)(e:Expr)(t:TE):Prop :=
 ∀(pins:List (Addr×Obj)) (s:qAh) (σ:St) (H:Hp) (Q:VK),Inv X pins σ H s->t σ H Q->qBj (qBn X.prog X.w) X.A (eval e X.env) (EP X pins σ Q) X.xe s
def PT(X:Cx)(e:Expr)(t:TT):Prop :=
 ∀(pins:List (Addr×Obj)) (s:qAh) (σ:St) (H:Hp) (Q:Bool->Hp->Prop),Inv X pins σ H s->t σ H Q->qBj (qBn X.prog X.w) X.A (qLd e X.env (eval e X.env)) (TP X pins σ Q) X.xe s
def PW(X:Cx)(e:Expr)(t:TT):Prop :=
 ∀(whole:Sem qAe) (pins:List (Addr×Obj)) (s:qAh) (σ:St) (H:Hp) (Q:Bool->Hp->Prop),Inv X pins σ H s->t σ H Q->qBj (qBn X.prog X.w) X.A (qLd e X.env whole) (TP X pins σ Q) X.xe s
theorem PW.pt(h:PW X e t):PT X e t:=h _
def PA(X:Cx)(es:List Expr)(t:TA):Prop :=
 ∀(pos:Pos) (pins:List (Addr×Obj)) (s:qAh) (σ:St) (H:Hp) (Q:List V->Hp->Prop),Inv X pins σ H s->t σ H Q->qBj (qBn X.prog X.w) X.A (spliced (qEi pos (qBg es X.env))) (AP X pins σ Q) X.xe s
def PS(X:Cx)(st:Stmt)(t:TS):Prop :=
 ∀(pins:List (Addr×Obj)) (s:qAh) (σ:St) (H:Hp) (D:Ends),Inv X pins σ H s->t D σ H->qBj (qBn X.prog X.w) X.A (exec st X.env) (SP X pins D) X.xe s
def mK(X:Cx)(st:List Stmt)(t:TS):Prop :=
 ∀(pins:List (Addr×Obj)) (s:qAh) (σ:St) (H:Hp) (D:Ends),Inv X pins σ H s->t D σ H->qBj (qBn X.prog X.w) X.A (execs st X.env) (SP X pins D) X.xe s
theorem bI(h:qBj M A t Q E s)(hQ:∀a s,Q a s->Q' a s):qBj M A t Q' E s:=qFo h hQ fun _ _ x=>x
section
variable {X:Cx}
def uM(i:Nat):TE:=fun σ H Q=>∃v,σ[i]?=some (some v)/\Q v H
def tC(v:V):TE:=fun _ H Q=>Q v H
theorem Bb(hN:X.N[i]?=some x)(hv:GS X.env.scope x)(hd:(x == ("__debug__":Str))=false:=by decide)(hcd:(x == ("__classdict__":Str))=false:=by decide):PE X (.Name x pos) (uM i):=by
 intro pins s σ H Q I h;obtain⟨v,e,h⟩:=h;obtain⟨m,hn,hl⟩:=I.loc;obtain⟨u,r,l⟩:=hl i x v hN e hv;have fin:EP X pins σ Q u s:=⟨v,H,I,r,h⟩;rcases l with ⟨hk,hm⟩ | ⟨hk,c,hc,hcell⟩
 ·exact wpAny_Name (wpAny_loadName_local I.ok.kind hk hn hm fin) hd
 ·rcases hk with hk | hk
  ·exact wpAny_Name (wpAny_loadName_cell I.ok.kind hk hc hcell fin) hd
  ·exact wpAny_Name (wpAny_loadName_free I.ok.kind hk hc hcell fin hcd) hd
theorem aG{i j pos}:PE X (.Constant (.int i) j pos) (tC (.int i)):=fun _ _ _ H _ I h=>wpAny_Constant_int ⟨.int i,H,I.tok _,⟨_,rfl⟩,h⟩
theorem nU{b j pos}:PE X (.Constant (.bool b) j pos) (tC (.bl b)):=fun _ _ _ H _ I h=>Constant_bool ⟨.bl b,H,I,rfl,h⟩
theorem a8{x j pos}:PE X (.Constant (.str x) j pos) (tC (.str x)):=fun _ _ _ H _ I h=>Calls.Constant_str ⟨.str x,H,I.tok _,⟨_,rfl⟩,h⟩
def Gl(X:Cx)(x:Str):Prop:=X.env.kindOf x=some .globalImplicit
theorem g7(I:Inv X pins σ H s)(hg:Gl X x)(hm:X.mg x=some u)(h:Q u s)
  (hd:(x == ("__debug__":Str))=false:=by decide):qBj (qBn X.prog X.w) X.A (eval (.Name x pos) X.env) Q E s :=
 qHc I.ok.kind hg (Calls.loadGlobal_global (by rw[I.ok.glob];exact I.mod.glob.keeps I.bk) hm h) hd
theorem gT(I:Inv X pins σ H s)(hg:Gl X x)(hm:X.mg x=none)(hv:qBv x=some u)(h:Q u s)
  (hn:x≠"__name__":=by decide) (hd:(x == ("__debug__":Str))=false:=by decide):qBj (qBn X.prog X.w) X.A (eval (.Name x pos) X.env) Q E s:=by
 obtain⟨mb,h1,h2⟩:=I.mod.blt;exact qHc I.ok.kind hg (Calls.loadGlobal_builtin (by rw[I.ok.glob];exact I.mod.glob.keeps I.bk) hm (by rw[I.ok.blt];exact h1.keeps I.bk) ((h2 x hn).trans hv) h) hd
theorem bL(hg:Gl X x)(hm:X.mg x=some u)(r:RelV v u)(hd:(x == ("__debug__":Str))=false:=by decide):PE X (.Name x pos) (tC v) :=
 fun _ _ _ H _ I h=>g7 I hg hm ⟨v,H,I,r,h⟩ hd
theorem g8(hg:Gl X x)(hm:X.mg x=none)(hv:qBv x=some u)(r:RelV v u)(hn:x≠"__name__":=by decide)(hd:(x == ("__debug__":Str))=false:=by decide):PE X (.Name x pos) (tC v) :=
 fun _ _ _ H _ I h=>gT I hg hm hv ⟨v,H,I,r,h⟩ hn hd
variable {a b:Expr}{ta tb:TE}{pos:Pos}
def PC(X:Cx)(op:CmpOp)(a b:Expr)(t:TE):Prop :=
 ∀(pins:List (Addr×Obj)) (s:qAh) (σ:St) (H:Hp) (Q:VK),Inv X pins σ H s->t σ H Q ->
  qBj (qBn X.prog X.w) X.A (eval a X.env) (fun v s₁=>qBj (qBn X.prog X.w) X.A (eval b X.env) (fun u s₂=>qBj (qBn X.prog X.w) X.A (qDg op v u) (EP X pins σ Q) X.xe s₂) X.xe s₁) X.xe s
def tB(t:TE):TT:=fun σ H Q=>t σ H fun x H1=>∃c,x = .bl c/\Q c H1
theorem Bc(h:PC X op a b t)(h1:qFx op b=false:=by first|exact nobehind _ (by decide) (by decide) | rfl):PT X (.Compare a [op] [b] pos) (tB t):=by
 intro pins s σ H Q I hw;refine wpAny_isTrue_Compare1 (bI (h pins s σ H _ I hw) fun v s1 h1=>bI h1 fun u s2 h2=>bI h2 fun c s3 ⟨x,H1,I1,r1,q1⟩=>?_) h1;obtain⟨d,rfl,q⟩:=q1;cases r1;exact qBy ⟨H1,I1,q⟩
theorem dX(h:PE X e t)(he:∀whole,qLd e X.env whole=(do let v <- whole;qJy e.pos;qFv [v] (truthy v)):=by intro _;rfl):PT X e (tB t):=by
 intro pins s σ H Q I hw;refine isTrue_plain (bI (h pins s σ H _ I hw) fun v s1 ⟨x,H1,I1,r1,q1⟩=>?_) (he _);obtain⟨d,rfl,q⟩:=q1;cases r1;exact qBy ⟨H1,I1,q⟩
variable {tA tB':TT}{rest:List Expr}
def GV(t u:TT):TT:=fun σ H Q=>t σ H fun c H1=>if c=true then u σ H1 Q else Q false H1
def Iy(t u:TT):TT:=fun σ H Q=>t σ H fun c H1=>if c=true then Q true H1 else u σ H1 Q
def GW(t:TT):TT:=fun σ H Q=>t σ H fun c H1=>Q (!c) H1
theorem pw_and1(ha:PT X a tA):PW X (.BoolOp .And [a] pos) tA:=by
 intro wh pins s σ H Q I h;refine isTrue_and (bI (ha pins s σ H Q I h) fun c s1 e=>?_);cases c with
 | true=>exact isTrue_and_nil e
 | false=>exact e
theorem pw_or1(ha:PT X a tA):PW X (.BoolOp .Or [a] pos) tA:=by
 intro wh pins s σ H Q I h;refine isTrue_or (bI (ha pins s σ H Q I h) fun c s1 e=>?_);cases c with
 | false=>exact isTrue_or_nil e
 | true=>exact e
theorem pw_and(ha:PT X a tA)(hb:PW X (.BoolOp .And (b::rest) pos) tB'):PW X (.BoolOp .And (a::b::rest) pos) (GV tA tB'):=by
 intro wh pins s σ H Q I h;refine isTrue_and (bI (ha pins s σ H _ I h) fun c s1 ⟨H1,I1,q1⟩=>?_);cases c with
 | true=>exact hb wh pins s1 σ H1 Q I1 q1
 | false=>exact⟨H1,I1,q1⟩
theorem pw_or(ha:PT X a tA)(hb:PW X (.BoolOp .Or (b::rest) pos) tB'):PW X (.BoolOp .Or (a::b::rest) pos) (Iy tA tB'):=by
 intro wh pins s σ H Q I h;refine isTrue_or (bI (ha pins s σ H _ I h) fun c s1 ⟨H1,I1,q1⟩=>?_);cases c with
 | true=>exact⟨H1,I1,q1⟩
 | false=>exact hb wh pins s1 σ H1 Q I1 q1
theorem eZ(ha:PT X a tA):PT X (.UnaryOp .Not a pos) (GW tA):=by
 intro pins s σ H Q I h;exact isTrue_not (ha pins s σ H (fun c H1=>Q (!c) H1) I h)
def Em(ta tb:TE):TE:=fun σ H Q=>ta σ H fun x H1=>∃c,x = .bl c/\if c=true then tb σ H1 Q else Q (.bl false) H1
def En(ta:TE):TE:=fun σ H Q=>ta σ H fun x H1=>∃c,x = .bl c/\Q (.bl (!c)) H1
theorem mL{op}{t:TE}(h:PE X a t):PE X (.BoolOp op [a] pos) t:=fun pins s σ H Q I hw=>BoolOp_one (h pins s σ H Q I hw)
theorem jT(ha:PE X a ta)(hb:PE X (.BoolOp .And (b::rest) pos) tb):PE X (.BoolOp .And (a::b::rest) pos) (Em ta tb):=by
 intro pins s σ H Q I h;refine BoolOp_and (bI (ha pins s σ H _ I h) fun v s1 ⟨x,H1,I1,r1,q1⟩=>?_);obtain⟨c,rfl,q1⟩:=q1;cases r1;refine qBy ?_;cases c with
 | true=>exact hb pins s1 σ H1 Q I1 q1
 | false=>exact⟨.bl false,H1,I1,rfl,q1⟩
theorem Bd(ha:PE X a ta):PE X (.UnaryOp .Not a pos) (En ta):=by
 intro pins s σ H Q I h;refine UnaryOp_ (bI (ha pins s σ H _ I h) fun v s1 ⟨x,H1,I1,r1,q1⟩=>?_);obtain⟨c,rfl,q1⟩:=q1;cases r1;exact not_of (qBy ⟨.bl (!c),H1,I1,rfl,q1⟩)
def Iz(t:TT)(ta tb:TE):TE:=fun σ H Q=>t σ H fun c H1=>if c=true then ta σ H1 Q else tb σ H1 Q
theorem uN(hc:PT X c tA)(ha:PE X a ta)(hb:PE X b tb):PE X (.IfExp c a b pos) (Iz tA ta tb):=by
 intro pins s σ H Q I h;refine wpAny_IfExp (bI (hc pins s σ H _ I h) fun d s1 ⟨H1,I1,q1⟩=>?_);cases d with
 | true=>exact ha pins s1 σ H1 Q I1 q1
 | false=>exact hb pins s1 σ H1 Q I1 q1
end
def aT(K:qAa)(H:Hp)(a:Addr)(xs:List V):Prop :=
 Rd H a (.lst xs) \/
  ∃(o:Obj) (its:Array qAe) (n:Nat),K.lookup a=some o/\o.cls = .type "list"/\o.dict=none/\o.data = .seq its n/\its.size<=qAj/\Vals xs its.toList
def dE(K:qAa)(H:Hp)(a:Addr)(xs:List V):Prop :=
 Rd H a (.tup xs) \/
  ∃(o:Obj) (its:Array qAe) (n:Nat),K.lookup a=some o/\o.cls = .type "tuple"/\o.data = .seq its n/\its.size<=qAj/\Vals xs its.toList
def GX:qAe->Option V
 | .none=>some .non
 | .bool b=>some (.bl b)
 | .int i _=>some (.int i)
 | .str x _=>some (.str x)
 | .bytes b _=>some (.byt b)
 | .float b _=>some (.flt b)
 | .ref a=>some (.ref a)
 | .type n=>some (.ty n)
 | _=>none
theorem RelV.abs(r:RelV x u):GX u=some x:=by
 cases x with
 | non=>cases r;rfl
 | bl _=>cases r;rfl
 | int _=>obtain⟨t,rfl⟩:=r;rfl
 | str _=>obtain⟨t,rfl⟩:=r;rfl
 | byt _=>obtain⟨t,rfl⟩:=r;rfl
 | flt _=>obtain⟨t,rfl⟩:=r;rfl
 | ref _=>cases r;rfl
 | ty _=>cases r;rfl
theorem RelV.inj(r:RelV x u)(q:RelV y u):x=y:=Option.some.inj (r.abs.symm.trans q.abs)
theorem Vals.inj:∀{xs ys:List V}{us:List qAe},Vals xs us->Vals ys us->xs=ys
 | _,_,_,.nil,.nil=>rfl
 | _,_,_,.cons r t,.cons r' t'=>by rw[r.inj r',Vals.inj t t']
section
variable {X:Cx}{pins:List (Addr×Obj)}{σ:St}{H:Hp}{s:qAh}{a:Addr}{xs ys:List V}
theorem aT.of{K:qAa}(h:H a=some (.lst xs)):aT K H a xs:=.inl (.inl h)
theorem dE.of{K:qAa}(h:H a=some (.tup xs)):dE K H a xs:=.inl (.inl h)
theorem Inv.list(I:Inv X pins σ H s)(h:aT X.K H a xs):∃its:List qAe,Vals xs its/\PlainL s.heap a its.toArray/\xs.length<=qAj:=by
 rcases h with h | ⟨o,its,n,hk,hc,hd,hs,hz,r⟩
 ·obtain⟨z,its,n,r,e⟩:=h.ok I.bV;exact⟨its,r,⟨_,n,e,rfl,rfl,rfl⟩,z⟩
 ·refine⟨its.toList,r,⟨o,n,I.kU a o hk,hc,hd,by simpa using hs⟩,?_⟩;have e:=r.length;simp only[qBz] at e;lia
theorem Inv.tuple(I:Inv X pins σ H s)(h:dE X.K H a xs):∃its:List qAe,Vals xs its/\IsTup s.heap a its.toArray/\xs.length<=qAj:=by
 rcases h with h | ⟨o,its,n,hk,hc,hs,hz,r⟩
 ·obtain⟨z,its,r,p⟩:=h.ok I.bV;exact⟨its,r,p,z⟩
 ·refine⟨its.toList,r,⟨o,I.kU a o hk,hc,n,by simpa using hs⟩,?_⟩;have e:=r.length;simp only[qBz] at e;lia
theorem Inv.nV(I:Inv X pins σ H s)(h:aT X.K H a xs)(h':aT X.K H a ys):xs=ys:=by
 obtain⟨its,r,⟨o,n,e,_,_,d⟩,_⟩:=I.list h;obtain⟨its',r',⟨o',n',e',_,_,d'⟩,_⟩:=I.list h';rw[e] at e';cases e';rw[d] at d';injection d' with d1 _;have:its=its':=by simpa using congrArg qKj d1
 subst this;exact r.inj r'
theorem Inv.sL(I:Inv X pins σ H s)(h:dE X.K H a xs)(h':dE X.K H a ys):xs=ys:=by
 obtain⟨its,r,⟨o,e,_,n,d⟩,_⟩:=I.tuple h;obtain⟨its',r',⟨o',e',_,n',d'⟩,_⟩:=I.tuple h';rw[e] at e';cases e';rw[d] at d';injection d' with d1 _;have:its=its':=by simpa using congrArg qKj d1
 subst this;exact r.inj r'
end
abbrev Cx.kW(X:Cx)(E:qAe->qAh->Prop):Cx:={ X with xe:=E }
abbrev Cx.DN(X:Cx):Cx:=X.kW fun _ _=>False
theorem Cx.Ok.kW{X:Cx}(ok:X.Ok)(E:qAe->qAh->Prop):(X.kW E).Ok :=
 ⟨ok.mod,ok.kind,ok.glob,ok.blt,ok.above,ok.inj,ok.has,ok.Ek,ok.hd,ok.frames,ok.GH,ok.Io,ok.bs,ok.xY,ok.uL,ok.xZ,ok.gR,ok.Am⟩
theorem Cx.Ok.fO{X:Cx}{E:qAe->qAh->Prop}(ok:(X.kW E).Ok):X.Ok :=
 ⟨ok.mod,ok.kind,ok.glob,ok.blt,ok.above,ok.inj,ok.has,ok.Ek,ok.hd,ok.frames,ok.GH,ok.Io,ok.bs,ok.xY,ok.uL,ok.xZ,ok.gR,ok.Am⟩
section
variable {X:Cx}{pins:List (Addr×Obj)}{σ:St}{H:Hp}{s:qAh}{E:qAe->qAh->Prop}
theorem Inv.kW(I:Inv X pins σ H s)(E:qAe->qAh->Prop):Inv (X.kW E) pins σ H s:=⟨I.ok.kW E,I.os,I.bare,I.base,I.loc,I.cell,I.free,I.fN,I.pin,I.bV,I.len⟩
theorem Inv.fO(I:Inv (X.kW E) pins σ H s):Inv X pins σ H s:=⟨I.ok.fO,I.os,I.bare,I.base,I.loc,I.cell,I.free,I.fN,I.pin,I.bV,I.len⟩
theorem SP.fO(h:SP (X.kW E) pins D f s'):SP X pins D f s':=by
 cases f with
 | next=>obtain⟨σ',H',I,q⟩:=h;exact⟨σ',H',I.fO,q⟩
 | brk=>obtain⟨σ',H',I,q⟩:=h;exact⟨σ',H',I.fO,q⟩
 | cont=>obtain⟨σ',H',I,q⟩:=h;exact⟨σ',H',I.fO,q⟩
 | ret u=>obtain⟨v,σ',H',I,r,q⟩:=h;exact⟨v,σ',H',I.fO,r,q⟩
theorem mK.DN{st:List Stmt}{t:TS}(h:mK X.DN st t):mK X st t:=fun pins s σ H D I hw =>
 qFo (h pins s σ H D (I.kW _) hw) (fun _ _ q=>q.fO) fun _ _ z=>False.elim z
end
section
variable {X:Cx}{st:Stmt}{rest:List Stmt}{t u:TS}{e:Expr}{te:TE}{pos:Pos}
def An:TS:=fun D σ H=>D.nx σ H
def Eo(t u:TS):TS:=fun D σ H=>t { D with nx:=u D } σ H
theorem bO:mK X [] An:=fun _ _ σ H _ I h=>qGe ⟨σ,H,I,h⟩
theorem aE(h1:PS X st t)(h2:mK X rest u):mK X (st::rest) (Eo t u):=by
 intro pins s σ H D I h;refine wpAny_execs_cons (bI (h1 pins s σ H { D with nx:=u D } I h) fun f s1 q=>?_);cases f with
 | next =>
  obtain⟨σ',H',I',q⟩:=q;exact h2 pins s1 σ' H' D I' q
 | ret v=>exact q
 | brk=>exact q
 | cont=>exact q
theorem aH(h1:PS X st t):mK X [st] t:=by
 intro pins s σ H D I h;refine wpAny_execs_cons (bI (h1 pins s σ H D I h) fun f s1 q=>?_);cases f with
 | next=>exact qGe q
 | ret v=>exact q
 | brk=>exact q
 | cont=>exact q
theorem Inv.quiet(I:Inv X pins σ H s):interactive X.env=false:=by simp[interactive,I.ok.kind]
def Ep(te:TE):TS:=fun D σ H=>te σ H fun _ H1=>D.nx σ H1
theorem bC(he:PE X e te)(hs:qIa e none pos.line X.env=pure false:=by rfl):PS X (.Expr e pos) (Ep te):=by
 intro pins s σ H D I h;exact wpAny_Expr_any (bI (he pins s σ H _ I h) fun v s1 ⟨x,H1,I1,r1,q1⟩=>⟨σ,H1,I1,q1⟩) I.quiet hs
def GY(te:TE):TS:=fun D σ H=>te σ H D.rt
theorem aU(he:PE X e te):PS X (.Return (some e) pos) (GY te):=by
 intro pins s σ H D I h;exact wpAny_Return_some (bI (he pins s σ H _ I h) fun v s1 ⟨x,H1,I1,r1,q1⟩=>⟨x,σ,H1,I1,r1,q1⟩)
def GZ(c:TT)(t u:TS):TS:=fun D σ H=>c σ H fun b H1=>if b=true then t D σ H1 else u D σ H1
theorem dG(hc:PT X c tc)(ha:mK X a t)(hb:mK X b u):PS X (.If c a b pos) (GZ tc t u):=by
 intro pins s σ H D I h;refine wpAny_If (bI (hc pins s σ H _ I h) fun d s1 ⟨H1,I1,q1⟩=>?_);cases d with
 | true=>exact ha pins s1 σ H1 D I1 q1
 | false=>exact hb pins s1 σ H1 D I1 q1
end
abbrev TG:=V->St->Hp->(St->Hp->Prop)->Prop
abbrev Er:=List V->St->Hp->(St->Hp->Prop)->Prop
def PG(X:Cx)(target:Expr)(t:TG):Prop :=
 ∀(pins:List (Addr×Obj)) (s:qAh) (σ:St) (H:Hp) (v:V) (u:qAe) (Q:St->Hp->Prop),Inv X pins σ H s->RelV v u->t v σ H Q ->
  qBj (qBn X.prog X.w) X.A (qIt target X.env u) (fun _ s'=>∃σ' H',Inv X pins σ' H' s'/\Q σ' H') X.xe s
def Es(X:Cx)(ts:List Expr)(t:Er):Prop :=
 ∀(pins:List (Addr×Obj)) (s:qAh) (σ:St) (H:Hp) (vs:List V) (us:List qAe) (Q:St->Hp->Prop),Inv X pins σ H s->Vals vs us->t vs σ H Q ->
  qBj (qBn X.prog X.w) X.A (assignInOrder ((qGl ts X.env).map (·.2)) us) (fun _ s'=>∃σ' H',Inv X pins σ' H' s'/\Q σ' H') X.xe s
abbrev Et:=V->V->V->Hp->(Hp->Prop)->Prop
def Be(X:Cx)(t:Et):Prop :=
 ∀(pins:List (Addr×Obj)) (s:qAh) (σ:St) (H:Hp) (o i v:V) (ov iv u:qAe) (Q:Hp->Prop),Inv X pins σ H s->RelV o ov->RelV i iv->RelV v u->t o i v H Q ->
  qBj (qBn X.prog X.w) X.A (setItem ov iv u) (fun _ s'=>∃H',Inv X pins σ H' s'/\Q H') X.xe s
abbrev IA:=V->V->Hp->VK->Prop
def IB(X:Cx)(op:Operator)(t:IA):Prop :=
 ∀(pins:List (Addr×Obj)) (s:qAh) (σ:St) (H:Hp) (x y:V) (v u:qAe) (Q:VK),Inv X pins σ H s->RelV x v->RelV y u->t x y H Q ->
  qBj (qBn X.prog X.w) X.A (inplaceOp op v u) (EP X pins σ Q) X.xe s
section
variable {X:Cx}{pos:Pos}
def bQ(i:Nat):TG:=fun v σ H Q=>Q (σ.set i (some v)) H
theorem aQ(hN:X.N.Nodup)(hi:X.N[i]?=some x)(hx:Loc X.env.scope x)(hf:X.fn x=true\/X.env.scope.names.lookup x=some .local:=by first|exact .inl rfl | exact .inr rfl | assumption):PG X (.Name x pos) (bQ i):=by
 intro pins s σ H v u Q I r h;exact wpAny_assign_Name (nT I hN hi hx r (fun s' I'=>⟨_,H,I',h⟩) hf)
def uO:Er:=fun vs σ H Q=>vs=[]/\Q σ H
def fJ(t:TG)(u:Er):Er:=fun vs σ H Q=>∃v r,vs=v::r/\t v σ H fun σ' H'=>u r σ' H' Q
theorem g9:Es X [] uO:=by
 intro pins s σ H vs us Q I r h;obtain⟨e,h⟩:=h;subst e;cases r;exact assignInOrder_nil ⟨σ,H,I,h⟩
theorem bT(h1:PG X e t)(h2:Es X es u)
  (hs:(qGl (e::es) X.env).map (·.2)=qIt e X.env::(qGl es X.env).map (·.2):=by rfl):Es X (e::es) (fJ t u):=by
 intro pins s σ H vs us Q I r h;obtain⟨v,vr,e1,h⟩:=h;subst e1;cases r with
 | cons r rr =>
  rw[hs];refine assignInOrder_cons (bI (h1 pins s σ H _ _ _ I r h) fun _ s1 ⟨σ1,H1,I1,q1⟩=>?_);exact h2 pins s1 σ1 H1 _ _ Q I1 rr q1
def uP(K:qAa)(n:Nat)(t:Er):TG:=fun v σ H Q=>∃a xs,v = .ref a/\dE K H a xs/\xs.length=n/\t xs σ H Q
theorem jU(hc:X.calm=true)(h:Es X es t)
  (hn:(qGl es X.env).length=n:=by rfl) (hst:(qGl es X.env).findIdx? (·.1)=none:=by rfl):PG X (.Tuple es k pos) (uP X.K n t):=by
 intro pins s σ H v u Q I r hw;obtain⟨a,xs,e1,hq,hl,hw⟩:=hw;subst e1;cases r;obtain⟨its,rv,ht,hz⟩:=I.tuple hq;refine assign_Tuple_tuple (I.ok.hd hc) ht (by simp[hn,<- hl,rv.length]) hst fun h' hx=>?_;have I1:Inv X pins σ H { s with heap:=h' }:=I.kept (t':=s.toks) fun b o e=>hx b o (qBe (qAs e)) e;exact h pins _ σ H xs _ Q I1 (by simpa using rv) hw
def Ha(to ti:TE)(t:Et):TG:=fun v σ H Q=>to σ H fun o H1=>ti σ H1 fun i H2=>t o i v H2 fun H3=>Q σ H3
theorem Bf(ho:PE X o to)(hi:PE X i ti)(hs:Be X t)
  (ha:∀v,qIt (.Subscript o i pos) X.env v=(do
   let ov <- qFv [v] (eval o X.env)
   let iv <- qFv [v,ov] (eval i X.env)
   qJy pos
   qFv [v,ov,iv] (setItem ov iv v)
   release [v,ov,iv] []):=by intro _;rfl):PG X (.Subscript o i pos) (Ha to ti t):=by
 intro pins s σ H v u Q I r h;rw[ha];refine qAd (qCn (bI (ho pins s σ H _ I h) fun ov s1 ⟨x,H1,I1,r1,q1⟩=>?_));refine qAd (qCn (bI (hi pins s1 σ H1 _ I1 q1) fun iv s2 ⟨y,H2,I2,r2,q2⟩=>?_));refine qAd (wpAny_standAt (qAd (qCn (bI (hs pins s2 σ H2 x y v ov iv u _ I2 r1 r2 r q2) fun _ s3 ⟨H3,I3,q3⟩=>?_))));exact wpAny_release ⟨σ,H3,I3,q3⟩
def Eu(te:TE)(g:TG):TS:=fun D σ H=>te σ H fun x H1=>g x σ H1 D.nx
theorem Bg(he:PE X e te)(hg:PG X tg g)(hs:swapsWithSole [tg] e pos.line X.env=pure false:=by rfl)(hw:swappedStores [tg] e X.env=pure none:=by rfl)
  (h1:(qGl [tg] X.env).map (·.2)=[qIt tg X.env]:=by rfl):PS X (.Assign [tg] e pos) (Eu te g):=by
 intro pins s σ H D I h;refine wpAny_Assign_stores (bI (he pins s σ H _ I h) fun v s1 ⟨x,H1,I1,r1,q1⟩=>?_) hs hw;rw[h1];exact bI (hg pins s1 σ H1 x v _ I1 r1 q1) fun _ s2 q=>q
theorem aX(hN:X.N.Nodup)(hi:X.N[i]?=some x)(hx:Loc X.env.scope x)(he:PE X e te)(hs:qIa e (some (.Name x pos')) pos.line X.env=pure false:=by rfl)(hf:X.fn x=true\/X.env.scope.names.lookup x=some .local:=by first|exact .inl rfl | exact .inr rfl | assumption):
  PS X (.Assign [.Name x pos'] e pos) (Eu te (bQ i)):=by
 intro pins s σ H D I h;refine wpAny_Assign_Name (bI (he pins s σ H _ I h) fun v s1 ⟨y,H1,I1,r1,q1⟩=>?_) hs;exact nT I1 hN hi hx r1 (fun s2 I2=>⟨_,H1,I2,q1⟩) hf
def Hb(X:Cx)(t:V->V->Hp->VK->Prop):Prop :=
 ∀(pins:List (Addr×Obj)) (s:qAh) (σ:St) (H:Hp) (o i:V) (ov iv:qAe) (Q:VK),Inv X pins σ H s->RelV o ov->RelV i iv->t o i H Q ->
  qBj (qBn X.prog X.w) X.A (qHg ov iv) (EP X pins σ Q) X.xe s
end
section
variable {X:Cx}{pos:Pos}
def Bh(c:TT)(tb:TS):TS:=fun D σ H=>∃W:Nat->St->Hp->Prop,(∃m,W m σ H)/\∀m σ H,W m σ H ->
 c σ H fun b H1=>if b=true then ∃N:St->Hp->Prop,(∀σ' H',N σ' H'->∃m',m'<m/\W m' σ' H')/\tb { D with nx:=N,ct:=N,bk:=D.nx } σ H1 else D.nx σ H1
theorem uQ(hp:PassesOwn (qBn X.prog X.w) X.A X.env X.xe)(hc:PT X c tc)(hb:mK X body tb):PS X (.While c body [] pos) (Bh tc tb):=by
 intro pins s σ H D I h;obtain⟨W,⟨m0,w0⟩,turn⟩:=h;refine wpAny_While (codeAny_whileLoop (fun n s'=>∃σ' H',Inv X pins σ' H' s'/\W n σ' H') ?_ m0 ⟨σ,H,I,w0⟩);rintro n s1 ⟨σ1,H1,I1,w1⟩;refine qDs hp (bI (hc pins s1 σ1 H1 _ I1 (turn n σ1 H1 w1)) fun b s2 ⟨H2,I2,q2⟩=>?_);cases b with
 | true =>
  obtain⟨N,hN,q2⟩:=q2;rw[if_pos rfl];refine qDs hp (bI (hb pins s2 σ1 H2 _ I2 q2) fun f s3 q3=>?_);cases f with
  | next =>
   obtain⟨σ3,H3,I3,n3⟩:=q3;obtain⟨m',hm,w3⟩:=hN σ3 H3 n3;exact⟨m',hm,σ3,H3,I3,w3⟩
  | cont =>
   obtain⟨σ3,H3,I3,n3⟩:=q3;obtain⟨m',hm,w3⟩:=hN σ3 H3 n3;exact⟨m',hm,σ3,H3,I3,w3⟩
  | brk=>exact q3
  | ret v=>exact q3
 | false =>
  rw[if_neg qAi];exact qGe ⟨σ1,H2,I2,q2⟩
end
structure It where
 go:Nat->Hp->Prop
 uR:Nat->Hp->V->Hp->Prop
 stop:Nat->Hp->Prop
def fK(X:Cx)(pins:List (Addr×Obj))(H:Hp)(b:Addr):Prop :=
 H b=none/\b≠X.env.locals/\b∉X.fs/\(b∈X.ex\/X.s₀.heap.objs.size<=b)/\(∀x c,X.env.cells.lookup x=some c->c≠b)/\∀p∈X.pn++pins,p.1≠b
theorem Inv.pE(I:Inv X pins σ H s)(hb:s.heap.objs.size<=b)(hn:H' b=none):fK X pins H' b:=by
 refine⟨hn,qKx (qAl I.lt hb),I.El hb,.inr (qBf I.sz hb),fun x c e z=>?_,fun p hp z=>?_⟩
 ·obtain⟨v,q⟩:=I.cell x c e;exact absurd (qAl q.lt (by rw[z];exact hb)) (qDp _)
 ·exact absurd (qAl (qAs (I.pin p hp).1) (by rw[z];exact hb)) (qDp _)
structure Turn (P:qBd) (w:qCb) (K:qAa) (tg:Expr) (J:It) (fp:List Addr) (it:Addr) (tn:Nat->Heap->Prop):Prop where
 mem:it∈fp
 obj:∀i h,tn i h->∀b∈fp,∃o,h.get? b=some o/\∀v,o.data≠.cell v
 keep:∀i h h',tn i h->(∀b∈fp,∀o,h.get? b=some o->h'.get? b=some o)->tn i h'
 item:∀(X:Cx),X.prog=P->X.w=w->X.K=K->X.calm=true->∀(i:Nat) (pins:List (Addr×Obj)) (s:qAh) (σ:St) (H:Hp) (E:qAe->qAh->Prop),Inv X pins σ H s->(∀b∈fp,fK X pins H b)->tn i s.heap->J.go i H ->
  qBj (qBn P w) X.A (qKk (.ref it)) (fun r s1=>∃u,r=some u /\
   qBj (qBn P w) X.A (qGf tg (.ref it) u) (fun _ s2=>∃x H',Inv X pins σ H' s2/\RelV x u/\J.uR i H x H'/\tn (i+1) s2.heap/\∀b∈fp,H' b=none) E s1) E s
 done:∀(X:Cx),X.prog=P->X.w=w->X.K=K->X.calm=true->∀(i:Nat) (pins:List (Addr×Obj)) (s:qAh) (σ:St) (H:Hp) (E:qAe->qAh->Prop),Inv X pins σ H s->(∀b∈fp,fK X pins H b)->tn i s.heap->J.stop i H ->
  qBj (qBn P w) X.A (qKk (.ref it)) (fun r s1=>r=none/\Inv X pins σ H s1) E s
 self:∀(A:qCc) (i:Nat) (s:qAh) (Q:qAe->qAh->Prop) (E:qAe->qAh->Prop),tn i s.heap->Q (.ref it) s->qBj (qBn P w) A (pyIter (.ref it)) Q E s
abbrev TI:=St->Hp->(It->Hp->Prop)->Prop
def Ip(X:Cx)(pins:List (Addr×Obj))(σ:St)(tg:Expr)(R:It->Hp->Prop)(itv:qAe)(s2:qAh):Prop :=
 ∃(it:Addr) (fp:List Addr) (tn:Nat->Heap->Prop) (J:It) (H':Hp),itv = .ref it/\Inv X pins σ H' s2/\Turn X.prog X.w X.K tg J fp it tn/\tn 0 s2.heap/\(∀b∈fp,fK X pins H' b)/\R J H'
def PI(X:Cx)(tg iter:Expr)(wi:TI):Prop :=
 ∀(pins:List (Addr×Obj)) (s:qAh) (σ:St) (H:Hp) (R:It->Hp->Prop),Inv X pins σ H s->wi σ H R ->
  qBj (qBn X.prog X.w) X.A (eval iter X.env) (fun v s1=>qBj (qBn X.prog X.w) X.A (pyIter v) (Ip X pins σ tg R) X.xe s1) X.xe s
theorem uS(ho:s.heap.get? it=some o)(hc:o.cls = .type n)(hd:o.data = .fields vs)
    (hn:["enumerate","zip","dict_itemiterator","dict_reverseitemiterator","odict_iterator","itertools.zip_longest","itertools.pairwise"].contains n=false) (hQ:Q () s):qBj M A (qGf tg (.ref it) u) Q E s:=by
  unfold qGf
  cases tg <;> first
    | exact qAr hQ
    | (cases u <;> first
        | exact qAr hQ
        | (refine qAd (wpAny_load ho ?_)
           rw[hc,hd]
           show qBj M A (if (["enumerate","zip","dict_itemiterator","dict_reverseitemiterator","odict_iterator","itertools.zip_longest","itertools.pairwise"].contains n&&vs[0]? == some (rawInt _))=true then _ else _) Q E s
           rw[if_neg (by intro h;rw[hn,qDl] at h;cases h)]
           exact qAr hQ))
def pF(K:qAa)(a:Addr):It :=
 ⟨fun i H=>∃xs x,aT K H a xs/\xs[i]?=some x,fun i H x H'=>H'=H/\∀xs,aT K H a xs->xs[i]?=some x,fun i H=>∃xs,aT K H a xs/\xs.length<=i⟩
def Ew(K:qAa)(a:Addr):It :=
 ⟨fun i H=>∃xs x,dE K H a xs/\xs[i]?=some x,fun i H x H'=>H'=H/\∀xs,dE K H a xs->xs[i]?=some x,fun i H=>∃xs,dE K H a xs/\xs.length<=i⟩
def xS(lo:Int)(n:Nat):It:=⟨fun i _=>i<n,fun i H x H'=>H'=H/\x = .int (lo+i),fun i _=>n<=i⟩
theorem lI{P:qBd}{w:qCb}{K:qAa}{tg:Expr}(a it:Addr):Turn P w K tg (pF K a) [it] it (fun i h=>h.IsListIter it a i) where
 mem:=by simp
 obj:=fun i h st b hb=>by
  have e:b=it:=by simpa using hb
  subst e;obtain⟨o,e,c,d⟩:=st;exact⟨o,e,fun v z=>by rw[d] at z;cases z⟩
 keep:=fun i h h' st k=>st.at fun o e=>k it (by simp) o e
 item:=by
  intro X hP hw hK hc i pins s σ H E I hf st hg;subst hP hw hK;obtain⟨xs,x,hq,hx⟩:=hg;obtain⟨its,rv,p,hz⟩:=I.list hq;obtain⟨u,hu,ru⟩:=rv.get hx;obtain⟨f0,f1,f2,f3,f4,f5⟩:=hf it (by simp);refine wpAny_pyNext_list_item st p.isList (x:=u) (by simpa using hu) fun h' st' sb=>?_;have I1:Inv X pins σ H { s with heap:=h' }:=I.turned (t':=s.toks) (fun b o hb e=>(sb.2 b hb).trans e) f0 f1 f3 f4 f5;obtain⟨o,e,c,d⟩:=id st';exact⟨u,rfl,uS (s:={ s with heap:=h' }) e c d (by decide) ⟨x,H,I1,ru,⟨rfl,fun ys hy=>by rw[I.nV hy hq];exact hx⟩,st',fun b hb=>(hf b hb).1⟩⟩
 done:=by
  intro X hP hw hK hc i pins s σ H E I hf st hg;subst hP hw hK;obtain⟨xs,hq,hx⟩:=hg;obtain⟨its,rv,p,hz⟩:=I.list hq;obtain⟨f0,f1,f2,f3,f4,f5⟩:=hf it (by simp);have hl:=rv.length;exact wpAny_pyNext_list_end (I.ok.hd hc) st p.isList (by simp;lia) fun h' eb=>⟨rfl,I.turned (t':=s.toks) (fun b o hb e=>eb b o hb e) f0 f1 f3 f4 f5⟩
 self:=fun _ _ _ _ _ st h=>wpAny_pyIter_listiter st h
theorem pG{P:qBd}{w:qCb}{K:qAa}{tg:Expr}(a it:Addr):Turn P w K tg (Ew K a) [it] it (fun i h=>h.IsTupleIter it a i) where
 mem:=by simp
 obj:=fun i h st b hb=>by
  have e:b=it:=by simpa using hb
  subst e;obtain⟨o,e,c,d⟩:=st;exact⟨o,e,fun v z=>by rw[d] at z;cases z⟩
 keep:=fun i h h' st k=>st.at fun o e=>k it (by simp) o e
 item:=by
  intro X hP hw hK hc i pins s σ H E I hf st hg;subst hP hw hK;obtain⟨xs,x,hq,hx⟩:=hg;obtain⟨its,rv,p,hz⟩:=I.tuple hq;obtain⟨u,hu,ru⟩:=rv.get hx;obtain⟨f0,f1,f2,f3,f4,f5⟩:=hf it (by simp);refine wpAny_pyNext_tuple_item st (show s.heap.IsTuple a its.toArray from p) (x:=u) (by simpa using hu) fun h' st' sb=>?_;have I1:Inv X pins σ H { s with heap:=h' }:=I.turned (t':=s.toks) (fun b o hb e=>(sb.2 b hb).trans e) f0 f1 f3 f4 f5;obtain⟨o,e,c,d⟩:=id st';exact⟨u,rfl,uS (s:={ s with heap:=h' }) e c d (by decide) ⟨x,H,I1,ru,⟨rfl,fun ys hy=>by rw[I.sL hy hq];exact hx⟩,st',fun b hb=>(hf b hb).1⟩⟩
 done:=by
  intro X hP hw hK hc i pins s σ H E I hf st hg;subst hP hw hK;obtain⟨xs,hq,hx⟩:=hg;obtain⟨its,rv,p,hz⟩:=I.tuple hq;obtain⟨f0,f1,f2,f3,f4,f5⟩:=hf it (by simp);have hl:=rv.length;exact wpAny_pyNext_tuple_end (I.ok.hd hc) st (show s.heap.IsTuple a its.toArray from p) (by simp;lia) fun h' eb=>⟨rfl,I.turned (t':=s.toks) (fun b o hb e=>eb b o hb e) f0 f1 f3 f4 f5⟩
 self:=fun _ _ _ _ _ st h=>wpAny_pyIter_tupleiter st h
theorem pH{P:qBd}{w:qCb}{K:qAa}{tg:Expr}(it:Addr)(lo:Int)(n:Nat):Turn P w K tg (xS lo n) [it] it (fun i h=>IsRangeIter h it (lo+(i:Nat)*1) ((n:Int)-(i:Nat)) 1) where
 mem:=by simp
 obj:=fun i h st b hb=>by
  have e:b=it:=by simpa using hb
  subst e;exact⟨_,st,fun v z=>by
   have z':Data.fields _=Data.cell v:=z;cases z'⟩
 keep:=fun i h h' st k=>k it (by simp) _ st
 item:=by
  intro X hP hw hK hc i pins s σ H E I hf st hg;subst hP hw hK;obtain⟨f0,f1,f2,f3,f4,f5⟩:=hf it (by simp);have W:=Walks.range (prog:=X.prog) (w:=X.w) (I.ok.hd hc) it lo 1 n;refine W.item i s _ _ hg st fun v h' tk hv st' kk=>?_;obtain⟨t,rfl⟩:=hv;have I1:Inv X pins σ H { s with heap:=h',toks:=tk }:=I.turned (fun b o hb e=>kk b o (by simpa using hb) e) f0 f1 f3 f4 f5;refine⟨_,rfl,uS (s:={ s with heap:=h',toks:=tk }) (n:="range_iterator") st' rfl rfl (by decide) ⟨.int (lo+i),H,I1,⟨t,?_⟩,⟨rfl,rfl⟩,st',fun b hb=>(hf b hb).1⟩⟩;rw[Int.mul_one]
 done:=by
  intro X hP hw hK hc i pins s σ H E I hf st hg;subst hP hw hK;obtain⟨f0,f1,f2,f3,f4,f5⟩:=hf it (by simp);exact wpAny_pyNext_range_end (I.ok.hd hc) st (by have:n<=i:=hg;lia) fun h' eb=>⟨rfl,I.turned (t':=s.toks) (fun b o hb e=>eb b o hb e) f0 f1 f3 f4 f5⟩
 self:=fun _ _ _ _ _ st h=>wpAny_pyIter_rangeiter st h
section
variable {X:Cx}{tg:Expr}
def Ey(K:qAa)(tl:TE):TI:=fun σ H R=>tl σ H fun x H1=>∃a,x = .ref a/\(∃xs,aT K H1 a xs)/\R (pF K a) H1
theorem bP{l:Expr}{tl:TE}(hl:PE X l tl):PI X tg l (Ey X.K tl):=by
 intro pins s σ H R I h;refine bI (hl pins s σ H _ I h) fun v s1 ⟨x,H1,I1,r1,q1⟩=>?_;obtain⟨a,e,⟨xs,hq⟩,q⟩:=q1;subst e;cases r1;obtain⟨its,rv,p,hz⟩:=I1.list hq;refine qEq p.isList ?_;refine⟨s1.heap.objs.size,[s1.heap.objs.size],_,_,H1,rfl,I1.kept (t':=s1.toks) fun b o e=>qAg _ e,lI a _,⟨_,qBb _ rfl,rfl,rfl⟩,fun b hb=>?_,q⟩;have e:b=s1.heap.objs.size:=by simpa using hb
 subst e;exact I1.pE (qAk _) (I1.bV.fresh (qAk _))
theorem nX{pins:List (Addr×Obj)}{σ:St}{H:Hp}{s:qAh}{R:It->Hp->Prop}{E:qAe->qAh->Prop}{lo hi:Int}{t u v:Tok}{tk:Nat}(I:Inv X pins σ H s)(h1:-(2^62)<=lo)(h2:lo<2^62)(h3:-(2^62)<=hi)(h4:hi<2^62)
  (q:R (xS lo (hi-lo).toNat) H):qBj (qBn X.prog X.w) X.A (pyIter (.ref s.heap.objs.size)) (Ip X pins σ tg R) E { s with heap:=s.heap.push { cls:=.type "range",data:=.fields #[.int lo t,.int hi u,.int 1 v] },toks:=tk }:=by
 refine wpAny_pyIter_range (IsRange.new ..) (small_one h1 h2 h3 h4) ?_;have I1:Inv X pins σ H { s with heap:=s.heap.push { cls:=.type "range",data:=.fields #[.int lo t,.int hi u,.int 1 v] },toks:=tk }:=I.kept fun b o e=>qAg _ e;refine⟨(s.heap.push { cls:=.type "range",data:=.fields #[.int lo t,.int hi u,.int 1 v] }).objs.size,[(s.heap.push { cls:=.type "range",data:=.fields #[.int lo t,.int hi u,.int 1 v] }).objs.size],_,_,H,rfl,
  I1.kept (t':=tk) fun b o e=>qAg _ e,pH _ lo (hi-lo).toNat,?_,fun b hb=>?_,q⟩
 ·have e1:lo+((0:Nat):Int)*1=lo:=by simp
  have e2:(((hi-lo).toNat:Nat):Int)-((0:Nat):Int)=Builtin.Range.rangeSize lo hi 1:=by rw[rangeSize_one];split <;> lia
  show IsRangeIter _ _ (lo+((0:Nat):Int)*1) ((((hi-lo).toNat:Nat):Int)-((0:Nat):Int)) 1;rw[e1,e2];exact qBb _ rfl
 ·have e:b=(s.heap.push { cls:=.type "range",data:=.fields #[.int lo t,.int hi u,.int 1 v] }).objs.size:=by simpa using hb
  subst e;exact I1.pE (qAk _) (I1.bV.fresh (qAk _))
def Ez(ta:TA):TI:=fun σ H R=>ta σ H fun vs H1=>∃j:Int,vs=[.int j]/\-(2^62)<=j/\j<2^62/\R (xS 0 j.toNat) H1
def EA(ta:TA):TI:=fun σ H R=>ta σ H fun vs H1=>∃i j:Int,vs=[.int i,.int j]/\(-(2^62)<=i/\i<2^62/\-(2^62)<=j/\j<2^62)/\R (xS i (j-i).toNat) H1
theorem cW{a:Expr}{ta:TA}{p pos:Pos}(hg:Gl X "range")(hm:X.mg "range"=none)(ha:PA X [a] ta)(hs:qBg [a] X.env=[(false,eval a X.env)]:=by rfl):PI X tg (.Call (.Name "range" p) [a] [] pos) (Ez ta):=by
 intro pins s σ H R I h;refine Call_ (gT I hg hm boot_range (qDi (bI (ha pos pins s σ H _ I h) fun us s1 ⟨vs,H1,I1,r1,q1⟩=>?_) hs rfl));obtain⟨j,e,q1,q2,q⟩:=q1;subst e;cases r1 with
 | cons r rr =>
  cases rr
  obtain⟨t,rfl⟩:=r;exact call_range_1 (nX I1 (by lia) (by lia) q1 q2 (by simpa using q))
theorem sM(hg:Gl X "range")(hm:X.mg "range"=none)(ha:PA X [a,b] ta)(hs:qBg [a,b] X.env=[(false,eval a X.env),(false,eval b X.env)]:=by rfl)(hs2:qBg [b] X.env=[(false,eval b X.env)]:=by rfl):
  PI X tg (.Call (.Name "range" p) [a,b] [] pos) (EA ta):=by
 intro pins s σ H R I h;refine Call_ (gT I hg hm boot_range (qDi (bI (ha pos pins s σ H _ I h) fun us s1 ⟨vs,H1,I1,r1,q1⟩=>?_) (by rw[hs,hs2]) (by rw[hs2];rfl)));obtain⟨i,j,e,⟨q1,q2,q3,q4⟩,q⟩:=q1;subst e;cases r1 with
 | cons r rr =>
  cases rr with
  | cons r' rr =>
   cases rr
   obtain⟨t,rfl⟩:=r;obtain⟨t',rfl⟩:=r';exact call_range_2 (nX I1 q1 q2 q3 q4 q)
def Hc(wi:TI)(g:TG)(tb:TS):TS:=fun D σ H=>wi σ H fun J H1=>∃W:Nat->Nat->St->Hp->Prop,(∃m,W 0 m σ H1)/\∀i m σ H,W i m σ H ->
 (J.stop i H/\D.nx σ H)\/(J.go i H/\∃N:St->Hp->Prop,(∀σ' H',N σ' H'->∃m',m'<m/\W (i+1) m' σ' H')/\∀x H',J.uR i H x H'->g x σ H' fun σ2 H2=>tb { D with nx:=N,ct:=N,bk:=D.nx } σ2 H2)
def jV(fp:List Addr)(h:Heap):List (Addr×Obj):=fp.filterMap fun b=>(h.get? b).map fun o=>(b,o)
theorem e7(hb:b∈fp)(e:h.get? b=some o):(b,o)∈jV fp h:=List.mem_filterMap.mpr ⟨b,hb,by rw[e];rfl⟩
theorem sN(hp:p∈jV fp h):p.1∈fp/\h.get? p.1=some p.2:=by
 obtain⟨b,hb,e⟩:=List.mem_filterMap.mp hp;cases q:h.get? b with
 | none=>rw[q] at e;cases e
 | some o =>
  rw[q] at e;have e':(b,o)=p:=Option.some.inj e;subst e';exact⟨hb,q⟩
theorem Inv.pinned(I:Inv X pins σ H s)(hf:∀b∈fp,fK X pins H b)(ho:∀b∈fp,∃o,s.heap.get? b=some o/\∀v,o.data≠.cell v):Inv X (pins++jV fp s.heap) σ H s :=
 I.mJ fun p hp=>(List.mem_append.mp hp).elim (fun z=>I.pin p (qAn _ z)) fun z=>by
  obtain⟨hb,e⟩:=sN z;obtain⟨f0,f1,f2,_⟩:=hf p.1 hb;obtain⟨o,e',d⟩:=ho p.1 hb;rw[e] at e';cases e';exact⟨e,f0,f1,f2,d⟩
theorem Inv.dR(I:Inv X (pins++pl) σ H s):Inv X pins σ H s:=I.mJ fun p hp=>I.pin p (qAn _ (qDr _ hp))
theorem dM(hp:PassesOwn (qBn X.prog X.w) X.A X.env X.xe)(hc:X.calm=true)(hi:PI X tg iter wi)(hg:PG X tg g)(hb:mK X body tb)
  (hs:∀x,qFp iter X.env x=pure x:=by intro _;rfl):PS X (.For tg iter body [] pos) (Hc wi g tb):=by
 intro pins s σ H D I h;refine wpAny_For (bI (hi pins s σ H _ I h) fun v s1 h1=>bI h1 fun itv s2 h2=>?_) hs;obtain⟨it,fp,tn,J,H2,e,I2,T,st2,f2,W,⟨m0,w0⟩,turn⟩:=h2;subst e;have stat:∀{H':Hp},(∀b∈fp,H' b=none)->∀b∈fp,fK X pins H' b:=fun hn b hb=>⟨hn b hb,(f2 b hb).2⟩;refine codeAny_forLoop_any (fun n s'=>∃i σ' H',Inv X pins σ' H' s'/\tn i s'.heap/\(∀b∈fp,H' b=none)/\W i n σ' H') ?_ m0 ⟨0,σ,H2,I2,st2,fun b hb=>(f2 b hb).1,w0⟩;rintro n s3 ⟨i,σ3,H3,I3,st3,fr3,w3⟩;rcases turn i n σ3 H3 w3 with ⟨stop,qn⟩ | ⟨go,N,hN,step⟩
 ·refine qDs hp (bI (T.done X rfl rfl rfl hc i pins s3 σ3 H3 X.xe I3 (stat fr3) st3 stop) fun r s4 ⟨hr,I4⟩=>?_);subst hr;exact qGe ⟨σ3,H3,I4,qn⟩
 ·refine qDs hp (bI (T.item X rfl rfl rfl hc i pins s3 σ3 H3 X.xe I3 (stat fr3) st3 go) fun r s4 ⟨u,hr,h4⟩=>?_);subst hr;refine qDs hp (bI h4 fun _ s5 ⟨x,H5,I5,r5,y5,st5,fr5⟩=>?_);have I5':=I5.pinned (stat fr5) (T.obj _ _ st5);refine qDs hp (bI (hg _ s5 σ3 H5 x u _ I5' r5 (step x H5 y5)) fun _ s6 ⟨σ6,H6,I6,q6⟩=>?_);refine qDs hp (bI (hb _ s6 σ6 H6 _ I6 q6) fun f s7 q7=>?_);have again:∀{σ7:St}{H7:Hp},Inv X (pins++jV fp s5.heap) σ7 H7 s7->N σ7 H7->∃m,m<n/\∃i σ' H',Inv X pins σ' H' s7/\tn i s7.heap/\(∀b∈fp,H' b=none)/\W i m σ' H':=fun {σ7 H7} I7 n7=>by
   obtain⟨m',hm,w7⟩:=hN σ7 H7 n7;refine⟨m',hm,i+1,σ7,H7,I7.dR,T.keep _ _ _ st5 fun b hb o e=>(I7.pin (b,o) (qAn _ (qAn _ (e7 hb e)))).1,fun b hb=>?_,w7⟩;obtain⟨o,e,d⟩:=T.obj _ _ st5 b hb;exact(I7.pin (b,o) (qAn _ (qAn _ (e7 hb e)))).2.1
  cases f with
  | next=>obtain⟨σ7,H7,I7,n7⟩:=q7;exact again I7 n7
  | cont=>obtain⟨σ7,H7,I7,n7⟩:=q7;exact again I7 n7
  | brk=>obtain⟨σ7,H7,I7,q7⟩:=q7;exact⟨σ7,H7,I7.dR,q7⟩
  | ret v=>obtain⟨x7,σ7,H7,I7,r7,q7⟩:=q7;exact⟨x7,σ7,H7,I7.dR,r7,q7⟩
end
theorem eQ{K:qAa}{a:Addr}{xs:List V}{g:TG}{tb:TS}{D:Ends}{σ:St}{H:Hp}(Pv:Nat->St->Hp->Prop)(h0:Pv 0 σ H)(hl:∀i σ H,i<=xs.length->Pv i σ H->aT K H a xs)
  (hs:∀i x σ H,xs[i]?=some x->Pv i σ H->g x σ H fun σ2 H2=>tb { D with nx:=Pv (i+1),ct:=Pv (i+1),bk:=D.nx } σ2 H2) (hd:∀σ H,Pv xs.length σ H->D.nx σ H) :
  ∃W:Nat->Nat->St->Hp->Prop,(∃m,W 0 m σ H)/\∀i m σ H,W i m σ H ->
   ((pF K a).stop i H/\D.nx σ H)\/((pF K a).go i H/\∃N:St->Hp->Prop,(∀σ' H',N σ' H'->∃m',m'<m/\W (i+1) m' σ' H')/\∀x H',(pF K a).uR i H x H'->g x σ H' fun σ2 H2=>tb { D with nx:=N,ct:=N,bk:=D.nx } σ2 H2):=by
 refine⟨fun i m σ H=>m=xs.length-i/\i<=xs.length/\Pv i σ H,⟨xs.length,by simp,qBq _,h0⟩,?_⟩;rintro i m σ H ⟨rfl,hi,p⟩;have q:=hl i σ H hi p;by_cases hlt:i<xs.length
 ·refine .inr ⟨⟨xs,xs[i],q,by simp[hlt]⟩,Pv (i+1),fun σ' H' p'=>⟨xs.length-(i+1),by lia,rfl,hlt,p'⟩,fun x H' y=>?_⟩;obtain⟨e,y⟩:=y;subst e;exact hs i x σ _ (y xs q) p
 ·have e:i=xs.length:=by lia
  subst e;exact .inl ⟨⟨xs,q,qAk _⟩,hd σ H p⟩
theorem dN{lo:Int}{n:Nat}{g:TG}{tb:TS}{D:Ends}{σ:St}{H:Hp}(Pv:Nat->St->Hp->Prop)(h0:Pv 0 σ H)
  (hs:∀i σ H,i<n->Pv i σ H->g (.int (lo+i)) σ H fun σ2 H2=>tb { D with nx:=Pv (i+1),ct:=Pv (i+1),bk:=D.nx } σ2 H2) (hd:∀σ H,Pv n σ H->D.nx σ H) :
  ∃W:Nat->Nat->St->Hp->Prop,(∃m,W 0 m σ H)/\∀i m σ H,W i m σ H ->
   ((xS lo n).stop i H/\D.nx σ H)\/((xS lo n).go i H/\∃N:St->Hp->Prop,(∀σ' H',N σ' H'->∃m',m'<m/\W (i+1) m' σ' H')/\∀x H',(xS lo n).uR i H x H'->g x σ H' fun σ2 H2=>tb { D with nx:=N,ct:=N,bk:=D.nx } σ2 H2):=by
 refine⟨fun i m σ H=>m=n-i/\i<=n/\Pv i σ H,⟨n,by simp,qBq _,h0⟩,?_⟩;rintro i m σ H ⟨rfl,hi,p⟩;by_cases hlt:i<n
 ·refine .inr ⟨hlt,Pv (i+1),fun σ' H' p'=>⟨n-(i+1),by lia,rfl,hlt,p'⟩,fun x H' y=>?_⟩;obtain⟨e,y⟩:=y;subst e y;exact hs i σ _ hlt p
 ·have e:i=n:=by lia
  subst e;exact .inl ⟨qAk _,hd σ H p⟩
abbrev R2:=V->V->Hp->VK->Prop
def gX(X:Cx)(f:qAe->qAe->Sem qAe)(r:R2):Prop :=
 ∀(pins:List (Addr×Obj)) (s:qAh) (σ:St) (H:Hp) (x y:V) (v u:qAe) (Q:VK),Inv X pins σ H s->RelV x v->RelV y u->r x y H Q ->
  qBj (qBn X.prog X.w) X.A (f v u) (EP X pins σ Q) X.xe s
def GI(X:Cx)(f:qAe->Sem qAe)(r:V->Hp->VK->Prop):Prop :=
 ∀(pins:List (Addr×Obj)) (s:qAh) (σ:St) (H:Hp) (x:V) (v:qAe) (Q:VK),Inv X pins σ H s->RelV x v->r x H Q ->
  qBj (qBn X.prog X.w) X.A (f v) (EP X pins σ Q) X.xe s
def eR(X:Cx)(f:qAe)(r:List V->Hp->VK->Prop):Prop :=
 ∀(pins:List (Addr×Obj)) (s:qAh) (σ:St) (H:Hp) (xs:List V) (us:List qAe) (Q:VK),Inv X pins σ H s->Vals xs us->r xs H Q ->
  qBj (qBn X.prog X.w) X.A (call f us) (EP X pins σ Q) X.xe s
def DO(r:R2)(ta tb:TE):TE:=fun σ H Q=>ta σ H fun x H1=>tb σ H1 fun y H2=>r x y H2 Q
def IC(r:V->Hp->VK->Prop)(ta:TE):TE:=fun σ H Q=>ta σ H fun x H1=>r x H1 Q
def rI(C:Int->Int->Prop)(g:Int->Int->V):R2:=fun x y H Q=>∃i j,x = .int i/\y = .int j/\C i j/\Q (g i j) H
def uT(g:Int->Int->V):R2:=fun x y H Q=>∃i j,x = .int i/\y = .int j/\Q (g i j) H
def rU(g:Int->V):V->Hp->VK->Prop:=fun x H Q=>∃i,x = .int i/\Q (g i) H
section
variable {X:Cx}{a b c:Expr}{ta tb tc:TE}{pos:Pos}
theorem Bi(ha:PE X a ta)(hb:PE X b tb){pins:List (Addr×Obj)}{s:qAh}{σ:St}{H:Hp}{R:V->V->Hp->Prop}(I:Inv X pins σ H s)
  (h:ta σ H fun x H1=>tb σ H1 fun y H2=>R x y H2){Q:qAe->qAh->Prop}{f:qAe->qAe->Sem qAe}
  (hf:∀v u s2 x y H2,Inv X pins σ H2 s2->RelV x v->RelV y u->R x y H2->qBj (qBn X.prog X.w) X.A (f v u) Q X.xe s2) :
  qBj (qBn X.prog X.w) X.A (eval a X.env) (fun v s₁=>qBj (qBn X.prog X.w) X.A (eval b X.env) (fun u s₂=>qBj (qBn X.prog X.w) X.A (f v u) Q X.xe s₂) X.xe s₁) X.xe s:=by
 refine bI (ha pins s σ H _ I h) fun v s1 ⟨x,H1,I1,r1,q1⟩=>?_;refine bI (hb pins s1 σ H1 _ I1 q1) fun u s2 ⟨y,H2,I2,r2,q2⟩=>?_;exact hf v u s2 x y H2 I2 r1 r2 q2
theorem aM(ho:gX X (qEk op) r)(ha:PE X a ta)(hb:PE X b tb):PE X (.BinOp a op b pos) (DO r ta tb):=by
 intro pins s σ H Q I h;exact wpAny_BinOp (Bi ha hb I h fun v u s2 x y H2 I2 rx ry q=>ho pins s2 σ H2 x y v u Q I2 rx ry q)
theorem EB(ho:GI X (unaryOp op) r)(ha:PE X a ta):PE X (.UnaryOp op a pos) (IC r ta):=by
 intro pins s σ H Q I h;exact UnaryOp_ (bI (ha pins s σ H _ I h) fun v s1 ⟨x,H1,I1,r1,q1⟩=>ho pins s1 σ H1 x v Q I1 r1 q1)
theorem GJ{f:qAe->qAe->Sem qAe}{C:Int->Int->Prop}{g:Int->Int->Int}
  (rule:∀(i j:Int) (t u:Tok) (s:qAh) (Q:qAe->qAh->Prop) (E:qAe->qAh->Prop),C i j->Q (.int (g i j) s.toks) { s with toks:=s.toks+1 }->qBj (qBn X.prog X.w) X.A (f (.int i t) (.int j u)) Q E s) :
  gX X f (rI C fun i j=>.int (g i j)):=by
 intro pins s σ H x y v u Q I rx ry h;obtain⟨i,j,rfl,rfl,hc,q⟩:=h;obtain⟨t,rfl⟩:=rx;obtain⟨t',rfl⟩:=ry;exact rule i j t t' s _ _ hc ⟨.int (g i j),H,I.tok _,⟨_,rfl⟩,q⟩
theorem yA{f:qAe->qAe->Sem qAe}{g:Int->Int->Int}
  (rule:∀(i j:Int) (t u:Tok) (s:qAh) (Q:qAe->qAh->Prop) (E:qAe->qAh->Prop),Q (.int (g i j) s.toks) { s with toks:=s.toks+1 }->qBj (qBn X.prog X.w) X.A (f (.int i t) (.int j u)) Q E s) :
  gX X f (uT fun i j=>.int (g i j)):=by
 intro pins s σ H x y v u Q I rx ry h;obtain⟨i,j,rfl,rfl,q⟩:=h;obtain⟨t,rfl⟩:=rx;obtain⟨t',rfl⟩:=ry;exact rule i j t t' s _ _ ⟨.int (g i j),H,I.tok _,⟨_,rfl⟩,q⟩
theorem yB{f:qAe->qAe->Sem qAe}{g:Int->Int->Bool}
  (rule:∀(i j:Int) (t u:Tok) (s:qAh) (Q:qAe->qAh->Prop) (E:qAe->qAh->Prop),Q (.bool (g i j)) s->qBj (qBn X.prog X.w) X.A (f (.int i t) (.int j u)) Q E s) :
  gX X f (uT fun i j=>.bl (g i j)):=by
 intro pins s σ H x y v u Q I rx ry h;obtain⟨i,j,rfl,rfl,q⟩:=h;obtain⟨t,rfl⟩:=rx;obtain⟨t',rfl⟩:=ry;exact rule i j t t' s _ _ ⟨.bl (g i j),H,I,rfl,q⟩
def Hd(i j:Int):Prop:=0<j/\j<1073741824
def He(i j:Int):Prop:=0<=j/\j<=1000000/\i.natAbs<2^64
def Bj(i j:Int):Prop:=(-(2^64)<i/\i<2^64)\/(-(2^64)<j/\j<2^64)
theorem Bj.ok(h:Bj i j):IntMulOk i j:=by
 rcases h with ⟨h1,h2⟩ | ⟨h1,h2⟩
 ·exact .of_left (intBits_le_64 h1 h2)
 ·exact .of_right (intBits_le_64 h1 h2)
theorem cN:gX X (qEk .Add) (uT fun i j=>.int (i+j)):=yA fun _ _ _ _ _ _ _ q=>add_int q
theorem e8:gX X (qEk .Sub) (uT fun i j=>.int (i-j)):=yA fun _ _ _ _ _ _ _ q=>sub_int q
theorem dO:gX X (qEk .Mult) (rI Bj fun i j=>.int (i*j)):=GJ fun _ _ _ _ _ _ _ hc q=>mul_int q hc.ok
theorem gF:gX X (qEk .FloorDiv) (rI Hd fun i j=>.int (i/j)):=GJ fun i j _ _ _ _ _ hc q=>by
 have h1:(0:Int)<j:=hc.1;have h2:j<1073741824:=hc.2;exact floordiv_int (by lia) (by rw[Int.fdiv_eq_ediv_of_nonneg i (by lia)];exact q) (.inl (PyProof.noPylong_small (by lia)))
theorem dY:gX X (qEk .Mod) (rI (fun _ j=>0<j) fun i j=>.int (i%j)):=GJ fun i j _ _ _ _ _ hc q=>by
 have h1:(0:Int)<j:=hc;exact mod_int' (by lia) (by rw[Int.fmod_eq_emod_of_nonneg i (by lia)];exact q)
theorem jW:gX X (qEk .Pow) (rI He fun i j=>.int (i^j.toNat)):=GJ fun _ _ _ _ _ _ _ hc q=>pow_int_small hc.1 hc.2.1 hc.2.2 q
theorem jX:gX X (qEk .BitAnd) (uT fun i j=>.int (qCf i j)):=yA fun _ _ _ _ _ _ _ q=>and_int q
theorem nY:gX X (qEk .BitOr) (uT fun i j=>.int (qBr i j)):=yA fun _ _ _ _ _ _ _ q=>or_int q
theorem ID{f:qAe->Sem qAe}{g:Int->Int}
  (rule:∀(i:Int) (t:Tok) (s:qAh) (Q:qAe->qAh->Prop) (E:qAe->qAh->Prop),Q (.int (g i) s.toks) { s with toks:=s.toks+1 }->qBj (qBn X.prog X.w) X.A (f (.int i t)) Q E s) :
  GI X f (rU fun i=>.int (g i)):=by
 intro pins s σ H x v Q I rx h;obtain⟨i,rfl,q⟩:=h;obtain⟨t,rfl⟩:=rx;exact rule i t s _ _ ⟨.int (g i),H,I.tok _,⟨_,rfl⟩,q⟩
theorem Bk:GI X (unaryOp .USub) (rU fun i=>.int (-i)):=ID fun _ _ _ _ _ q=>neg_int q
end
def EC:V->V->Bool
 | .non,.non=>true | .non,.int _=>true | .int _,.non=>true | .non,.bl _=>true | .bl _,.non=>true | .non,.str _=>true | .str _,.non=>true
 | .int _,.int _=>true | .bl _,.bl _=>true | .str _,.str _=>true | .byt _,.byt _=>true
 | .int _,.str _=>true | .str _,.int _=>true | .bl _,.str _=>true | .str _,.bl _=>true
 | _,_=>false
def IE:R2:=fun x y H Q=>EC x y=true/\Q (.bl (decide (x=y))) H
def Iq:R2:=fun x y H Q=>EC x y=true/\Q (.bl (!decide (x=y))) H
theorem qP:decide (V.int i=V.int j)=(i == j):=by
 rw[qEd];simp
theorem uU:decide (V.bl i=V.bl j)=(i == j):=by
 rw[qEd];simp
theorem qQ:decide (V.str i=V.str j)=(i == j):=by
 rw[qEd];simp
theorem qR:decide (V.byt i=V.byt j)=(i.toList == j.toList):=by
 rw[qEd];cases i;cases j;simp
section
variable {X:Cx}{a b c:Expr}{ta tb tc:TE}{pos:Pos}
theorem bB(I:Inv X pins σ H s)(q:Q (.bl k) H)(e:k=k'):EP X pins σ Q (.bool k') s:=by
 subst e;exact⟨.bl k,H,I,rfl,q⟩
theorem i6:gX X (qDg .Eq) IE:=by
 intro pins s σ H x y v u Q I rx ry h;obtain⟨hs,q⟩:=h;cases x with
 | non =>
  cases rx
  cases y with
  | non=>cases ry;exact PySem.EqNone.eq_none_none (bB I q (by simp))
  | bl j=>cases ry;exact PySem.EqNone.eq_none_bool (bB I q (by simp))
  | int j=>obtain⟨t',rfl⟩:=ry;exact PySem.EqNone.eq_none_int (bB I q (by simp))
  | str j=>obtain⟨t',rfl⟩:=ry;exact PySem.EqNone.eq_none_str (bB I q (by simp))
  | _=>exact absurd (show false=true from hs) qAi
 | bl i =>
  cases rx
  cases y with
  | non=>cases ry;exact PySem.EqNone.eq_bool_none (bB I q (by simp))
  | bl j=>cases ry;exact eq_bool (bB I q uU)
  | str j=>obtain⟨t',rfl⟩:=ry;exact PySem.EqMixed.eq_bool_str (bB I q (by simp))
  | _=>exact absurd (show false=true from hs) qAi
 | int i =>
  obtain⟨t,rfl⟩:=rx;cases y with
  | non=>cases ry;exact PySem.EqNone.eq_int_none (bB I q (by simp))
  | int j=>obtain⟨t',rfl⟩:=ry;exact eq_int (bB I q qP)
  | str j=>obtain⟨t',rfl⟩:=ry;exact PySem.EqMixed.eq_int_str (bB I q (by simp))
  | _=>exact absurd (show false=true from hs) qAi
 | str i =>
  obtain⟨t,rfl⟩:=rx;cases y with
  | non=>cases ry;exact PySem.EqNone.eq_str_none (bB I q (by simp))
  | bl j=>cases ry;exact PySem.EqMixed.eq_str_bool (bB I q (by simp))
  | int j=>obtain⟨t',rfl⟩:=ry;exact PySem.EqMixed.eq_str_int (bB I q (by simp))
  | str j=>obtain⟨t',rfl⟩:=ry;exact eq_str (bB I q qQ)
  | _=>exact absurd (show false=true from hs) qAi
 | byt i =>
  obtain⟨t,rfl⟩:=rx;cases y with
  | byt j=>obtain⟨t',rfl⟩:=ry;exact PySem.W.eq_bytes (bB I q qR)
  | _=>exact absurd (show false=true from hs) qAi
 | _=>cases y <;> exact absurd (show false=true from hs) qAi
theorem lJ:gX X (qDg .NotEq) Iq:=by
 intro pins s σ H x y v u Q I rx ry h;obtain⟨hs,q⟩:=h;cases x with
 | non =>
  cases rx
  cases y with
  | non=>cases ry;exact PySem.EqNone.ne_none_none (bB I q (by simp))
  | bl j=>cases ry;exact PySem.EqNone.ne_none_bool (bB I q (by simp))
  | int j=>obtain⟨t',rfl⟩:=ry;exact PySem.EqNone.ne_none_int (bB I q (by simp))
  | str j=>obtain⟨t',rfl⟩:=ry;exact PySem.EqNone.ne_none_str (bB I q (by simp))
  | _=>exact absurd (show false=true from hs) qAi
 | bl i =>
  cases rx
  cases y with
  | non=>cases ry;exact PySem.EqNone.ne_bool_none (bB I q (by simp))
  | bl j=>cases ry;exact ne_bool (bB I q (congrArg not uU))
  | str j=>obtain⟨t',rfl⟩:=ry;exact PySem.EqMixed.ne_bool_str (bB I q (by simp))
  | _=>exact absurd (show false=true from hs) qAi
 | int i =>
  obtain⟨t,rfl⟩:=rx;cases y with
  | non=>cases ry;exact PySem.EqNone.ne_int_none (bB I q (by simp))
  | int j=>obtain⟨t',rfl⟩:=ry;exact ne_int (bB I q (congrArg not qP))
  | str j=>obtain⟨t',rfl⟩:=ry;exact PySem.EqMixed.ne_int_str (bB I q (by simp))
  | _=>exact absurd (show false=true from hs) qAi
 | str i =>
  obtain⟨t,rfl⟩:=rx;cases y with
  | non=>cases ry;exact PySem.EqNone.ne_str_none (bB I q (by simp))
  | bl j=>cases ry;exact PySem.EqMixed.ne_str_bool (bB I q (by simp))
  | int j=>obtain⟨t',rfl⟩:=ry;exact PySem.EqMixed.ne_str_int (bB I q (by simp))
  | str j=>obtain⟨t',rfl⟩:=ry;exact ne_str (bB I q (congrArg not qQ))
  | _=>exact absurd (show false=true from hs) qAi
 | byt i =>
  obtain⟨t,rfl⟩:=rx;cases y with
  | byt j=>obtain⟨t',rfl⟩:=ry;exact PySem.W.ne_bytes (bB I q (congrArg not qR))
  | _=>exact absurd (show false=true from hs) qAi
 | _=>cases y <;> exact absurd (show false=true from hs) qAi
theorem nZ:gX X (qDg .Lt) (uT fun i j=>.bl (decide (i<j))):=yB fun _ _ _ _ _ _ _ q=>lt_int q
theorem uV:gX X (qDg .LtE) (uT fun i j=>.bl (decide (i<=j))):=yB fun _ _ _ _ _ _ _ q=>le_int q
theorem Ao:gX X (qDg .Gt) (uT fun i j=>.bl (decide (j<i))):=yB fun _ _ _ _ _ _ _ q=>gt_int q
theorem ED:gX X (qDg .GtE) (uT fun i j=>.bl (decide (j<=i))):=yB fun _ _ _ _ _ _ _ q=>ge_int q
theorem bZ(b:Expr){op:CmpOp}(h:op≠.In:=by decide)(h2:op≠.NotIn:=by decide):qFx op b=false:=by
 have e1:(op == CmpOp.In)=false:=by cases op <;> first | rfl | exact absurd rfl h
 have e2:(op == CmpOp.NotIn)=false:=by cases op <;> first | rfl | exact absurd rfl h2
 cases b <;> simp[qFx,e1,e2]
theorem gG(ho:gX X (qDg op) r)(ha:PE X a ta)(hb:PE X b tb)(hm:qFx op b=false):PE X (.Compare a [op] [b] pos) (DO r ta tb):=by
 intro pins s σ H Q I h;exact wpAny_Compare1 (Bi ha hb I h fun v u s2 x y H2 I2 rx ry q=>ho pins s2 σ H2 x y v u Q I2 rx ry q) hm
def EE(t:TE):TT:=fun σ H Q=>t σ H fun x H'=>∃k,x = .bl k/\Q k H'
theorem cA(ho:gX X (qDg op) r)(ha:PE X a ta)(hb:PE X b tb)(hm:qFx op b=false):PT X (.Compare a [op] [b] pos) (EE (DO r ta tb)):=by
 intro pins s σ H Q I h;refine wpAny_isTrue_Compare1 (bI (ha pins s σ H _ I h) fun v s1 ⟨x,H1,I1,r1,q1⟩=>bI (hb pins s1 σ H1 _ I1 q1) fun u s2 ⟨y,H2,I2,r2,q2⟩ =>
  bI (ho pins s2 σ H2 x y v u _ I2 r1 r2 q2) fun c s3 ⟨z,H3,I3,r3,k,e,q3⟩=>?_) hm
 subst e;cases r3;exact qBy ⟨H3,I3,q3⟩
def Bl(r r':R2)(ta tb tc:TE):TE:=fun σ H Q=>ta σ H fun x H1=>tb σ H1 fun y H2=>r x y H2 fun z H3=>∃k,z = .bl k /\
 (if k=true then tc σ H3 fun w' H4=>r' y w' H4 Q else Q (.bl false) H3)
theorem uW(ho:gX X (qDg op) r)(ho':gX X (qDg op') r')(ha:PE X a ta)(hb:PE X b tb)(hc:PE X c tc)
  (hm:lastMarks [op,op'] [b,c]=false:=by with_unfolding_all rfl):PE X (.Compare a [op,op'] [b,c] pos) (Bl r r' ta tb tc):=by
 intro pins s σ H Q I h;refine Compare_chain (bI (ha pins s σ H _ I h) fun v s1 ⟨x,H1,I1,r1,q1⟩=>chain_link (bI (hb pins s1 σ H1 _ I1 q1) fun u s2 ⟨y,H2,I2,r2,q2⟩ =>
  bI (ho pins s2 σ H2 x y v u _ I2 r1 r2 q2) fun d s3 ⟨z,H3,I3,r3,k,e,q3⟩=>?_)) hm
 subst e;cases r3;refine qBy ?_;cases k with
 | false=>exact ite_ff ⟨.bl false,H3,I3,rfl,q3⟩
 | true=>exact ite_tt (chain_last (bI (hc pins s3 σ H3 _ I3 q3) fun w' s4 ⟨z',H4,I4,r4,q4⟩=>ho' pins s4 σ H4 y z' u w' Q I4 r2 r4 q4))
theorem mM:(qAj:Nat)<2^63:=by rw[qEh];decide
theorem cG:gX X (qEk .Add) (fun x y H Q=>∃i j,x = .str i/\y = .str j/\i.length+j.length<=qAj/\Q (.str (i++j)) H):=by
 intro pins s σ H x y v u Q I rx ry h;obtain⟨i,j,rfl,rfl,hz,q⟩:=h;obtain⟨t,rfl⟩:=rx;obtain⟨t',rfl⟩:=ry;exact add_str (fun t' tk=>⟨.str (i++j),H,I.tok _,⟨_,rfl⟩,q⟩) hz
theorem vals1(r:Vals [x] us):∃u,us=[u]/\RelV x u:=by
 cases r with
 | cons r1 r2=>cases r2;exact⟨_,rfl,r1⟩
theorem vals2(r:Vals [x,y] us):∃u w',us=[u,w']/\RelV x u/\RelV y w':=by
 cases r with
 | cons r1 r2 =>
  cases r2 with
  | cons r3 r4=>cases r4;exact⟨_,_,rfl,r1,r3⟩
theorem jY:eR X (.builtin "abs") (fun xs H Q=>∃i,xs=[.int i]/\Q (.int (if i<0 then -i else i)) H):=by
 intro pins s σ H xs us Q I r h;obtain⟨i,rfl,q⟩:=h;obtain⟨u,rfl,t,rfl⟩:=vals1 r;exact call_abs_int fun u tk=>⟨.int (if i<0 then -i else i),H,I.tok _,⟨_,rfl⟩,q⟩
theorem cZ:eR X (.type "str") (fun xs H Q=>∃i,xs=[.int i]/\i.natAbs.log2<1920/\Q (.str (toString i)) H):=by
 intro pins s σ H xs us Q I r h;obtain⟨i,rfl,hz,q⟩:=h;obtain⟨u,rfl,t,rfl⟩:=vals1 r;exact PySem.P.str_of_int hz ⟨.str _,H,I.tok _,⟨_,rfl⟩,q⟩
end
structure pI (h:Heap) (x dx C:Addr) (mA:Str->Option qAe):Prop where
 obj:h.get? x=some (qCw C dx)
 ns:h.Ns1 dx mA
 ne:dx≠x
theorem sO{h:Heap}{dx:Addr}{mA:Str->Option qAe}(n:h.Ns1 dx mA):∃od,h.get? dx=some od/\∀name,qFr name od=some (mA name):=by
 obtain⟨o,es,ep,ho,hd,hk,_,hm⟩:=n;refine⟨o,ho,fun name=>?_⟩;have e:=hm name;unfold nsFind findBy at e;rw[<- Array.find?_toList] at e;unfold qFr;rw[hd];dsimp only;split
 ·rename_i y q;rw[q] at e;exact congrArg some e
 ·rename_i q;rw[q] at e;have a:es.toList.any (·.refKey)=false:=by
   rw[List.any_eq_false];intro y hy;obtain⟨z,t,hkey⟩:=hk y (Array.mem_toList_iff.mp hy);simp[DictEntry.refKey,hkey]
  have a':¬es.toList.any (·.refKey)=true:=by rw[a];exact qAi
  rw[if_neg a'];exact congrArg some e
theorem pI.look(I:pI h x dx C mA):∃od,PySem.W.InstAt h x (qCw C dx) C (some od)/\∀name,qFr name od=some (mA name) :=
 let ⟨od,ho,hl⟩:=sO I.ns
 ⟨od,⟨I.obj,rfl,rfl,ho⟩,hl⟩
section
variable {prog:qBd}{w:qCb}{A:qCc}{E:qAe->qAh->Prop}{s:qAh}{K:qAa}{x dx C f:Addr}{mA:Str->Option qAe}{name:Str}{v:qAe}
theorem get_map(X:K.In s.heap)(I:pI s.heap x dx C mA)(hg:qCh K C name=true)(hh:qCj K C=true)
  (ha:qAc K (.ref C) name=some none) (hv:mA name=some v) (hv':qIo v=true) (h:Q v { s with toks:=s.toks+1 }) :
  qBj (qBn prog w) A (getAttr (.ref x) name expr) Q E s:=by
 obtain⟨od,J,hl⟩:=I.look;exact PySem.W.get_value X J (qFu hg).1 (PySem.W.findObj_own hh ha rfl (by rw[hl,hv])) hv' h
theorem uX(X:K.In s.heap)(I:pI s.heap x dx C mA)(hg:qCh K C name=true)
  (hf:qAc K (.ref C) name=some (some (.ref f))) (ht:qBh K (.ref f)=true) (hv:mA name=none) (h:Q (.ref f,[.ref x]) s) :
  qBj (qBn prog w) A (qIc (.ref x) name pl) Q E s:=by
 obtain⟨od,J,hl⟩:=I.look;exact PySem.W.method_fn X J (qFu hg).1 (qFu hg).2 hf (beq_iff_eq.mp ht) (by show(qFr name od).map (·.isSome)=some false;rw[hl,hv];rfl) h
theorem yC(X:K.In s.heap)(I:pI s.heap x dx C mA)
  (hs:qAc K (.ref C) "__setattr__"=some (some (.builtin "object.__setattr__"))) (hp:qCs K C=true) (ht:qGp K C name=some none) (hh:qCj K C=true)
  (hw:PySem.Within mA ns) (hsz:ns.length<=qAj)
  (h:∀h',pI h' x dx C (fun y=>if y=name then some v else mA y)->qGt dx s.heap h'->Q () { s with heap:=h',toks:=s.toks+2 }) :
  qBj (qBn prog w) A (setAttr (.ref x) name v) Q E s:=by
 obtain⟨od,J,hl⟩:=I.look;refine PySem.W.set_plain X J hs (PySem.W.osa_open (s:={ s with toks:=s.toks+1 }) (r:=none) X J hp ht fun b=>?_);obtain⟨cd,hc,hd'⟩:=PySem.W.any_some hh;have hx:s.heap.get? x=some ⟨.ref C,some dx,.plain,#[]⟩:=I.obj;refine qAd (qAr (qAd (qAd (wpAny_loadPart hx (qAd (PySem.W.Looks.here (s:={ s with toks:=s.toks+1 }) (PySem.W.looks_clsIn X hc) ?_))))));rw[hd'];refine qAr (a:=some dx) (qAd (qAr (qAd ?_)));refine wpAny_nsSet1 (s:={ s with toks:=s.toks+1 }) I.ns fun h' hn2 hs2=>?_;obtain⟨oD,esD,epD,hoD,hdD,hcD⟩:=hn2.count (PySem.Within.cons name v hw);refine qAd (wpAny_lookBehind hoD (by rw[hdD];exact pastItsLine_dict (qBf hcD (by rw[qBu];lia))) ?_);exact qAr (h _ ⟨(hs2.2 _ (Ne.symm I.ne)).trans I.obj,hn2,I.ne⟩ hs2)
theorem uY(X:K.In s.heap)(hm:qCv K C=true)
  (hi:qAc K (.ref C) "__init__"=some (some (.ref f))) (hf:qFq K (.ref f)=some (.type "function"))
  (h:qFw (qBn prog w) (A.under (.builtin "type.__call__" ⟨.ref C::vs,kw⟩)) (.call (.ref f) ⟨.ref (s.heap.objs.size+1)::vs,kw⟩) (PySem.W.InitBack (s.heap.objs.size+1) R)
   { s with heap:=(s.heap.push qCk).push (qCw C s.heap.objs.size) }) :
  qFw (qBn prog w) A (.call (.ref C) ⟨vs,kw⟩) R s:=by
 obtain⟨hh,g,d,t,os⟩:=s;exact PySem.W.make_core (PySem.W.makes_of X hm) (qEl X hi) (fun self=>PySem.W.bind_fn X self hf) (.inl rfl) h
end
def fP(f:Str)(v:V):List (Str×V)->List (Str×V)
 | []=>[(f,v)]
 | (g,x)::r=>if g=f then (g,v)::r else (g,x)::fP f v r
theorem i7(f g:Str)(v:V):∀fs:List (Str×V),(fP f v fs).lookup g=if g=f then some v else fs.lookup g
 | []=>by
  show qEw g [(f,v)]=_;by_cases h:g=f
  ·have hb:(g == f)=true:=beq_iff_eq.mpr h;simp only[qEw,hb,if_pos h]
  ·have hb:(g == f)=false:=beq_eq_false_iff_ne.mpr h;simp only[qEw,hb,if_neg h]
 | (k,x)::r=>by
  have ih:=i7 f g v r;rw[show fP f v ((k,x)::r)=(if k=f then (k,v)::r else (k,x)::fP f v r) from rfl];by_cases hk:k=f
  ·rw[if_pos hk];by_cases h:g=k
   ·have hb:(g == k)=true:=beq_iff_eq.mpr h;simp only[qEw,hb,if_pos (h.trans hk)]
   ·have hb:(g == k)=false:=beq_eq_false_iff_ne.mpr h;simp only[qEw,hb,if_neg (fun e:g=f=>h (e.trans hk.symm))]
  ·rw[if_neg hk];by_cases h:g=k
   ·have hb:(g == k)=true:=beq_iff_eq.mpr h;simp only[qEw,hb,if_neg (fun e:g=f=>hk (h.symm.trans e))]
   ·have hb:(g == k)=false:=beq_eq_false_iff_ne.mpr h;simp only[qEw,hb];exact ih
theorem iQ(f:Str)(v:V):∀fs:List (Str×V),f∈(fP f v fs).map (·.1)/\∀g,g∈fs.map (·.1)->g∈(fP f v fs).map (·.1)
 | []=>⟨by simp[fP],fun g h=>by simp at h⟩
 | (k,x)::r=>by
  obtain⟨i1,i2⟩:=iQ f v r;rw[show fP f v ((k,x)::r)=(if k=f then (k,v)::r else (k,x)::fP f v r) from rfl];by_cases hk:k=f
  ·rw[if_pos hk];subst hk;exact⟨by simp,fun g h=>by simpa using h⟩
  ·rw[if_neg hk];refine⟨?_,fun g h=>?_⟩
   ·rw[qBk];exact qBa _ i1
   ·rw[qBk] at h|-;rcases List.mem_cons.mp h with e | e
    ·exact List.mem_cons.mpr (.inl e)
    ·exact qBa _ (i2 g e)
theorem i8(f:Str)(v:V):∀fs:List (Str×V),(fP f v fs).length<=fs.length+1
 | []=>by simp[fP]
 | (k,x)::r=>by
  have ih:=i8 f v r;rw[show fP f v ((k,x)::r)=(if k=f then (k,v)::r else (k,x)::fP f v r) from rfl];by_cases hk:k=f
  ·rw[if_pos hk,qBu,qBu];lia
  ·rw[if_neg hk,qBu,qBu];lia
theorem gY.some_of(r:gY (some v) o):∃u,o=some u/\RelV v u:=by
 cases o with
 | none=>exact(show False from r).elim
 | some u=>exact⟨u,rfl,r⟩
theorem gY.none_of(r:gY none o):o=none:=by
 cases o with
 | none=>rfl
 | some u=>exact(show False from r).elim
theorem sP(r:RelV v u):qIo u=true:=by
 cases v with
 | non=>cases (show u=Value.none from r);rfl
 | bl b=>cases (show u=Value.bool b from r);rfl
 | int i=>obtain⟨t,e⟩:=(show ∃t,u=Value.int i t from r);cases e;rfl
 | str x=>obtain⟨t,e⟩:=(show ∃t,u=Value.str x t from r);cases e;rfl
 | byt b=>obtain⟨t,e⟩:=(show ∃t,u=Value.bytes b t from r);cases e;rfl
 | flt b=>obtain⟨t,e⟩:=(show ∃t,u=Value.float b t from r);cases e;rfl
 | ref a=>cases (show u=Value.ref a from r);rfl
 | ty n=>cases (show u=Value.type n from r);rfl
section
variable {P:qBd}{w:qCb}{H H':Hp}{h h':Heap}{a C dx:Addr}{fs fs':List (Str×V)}
theorem jM(bV:gQ P w H h)(e:H a=some (.ins C dx fs)):∃mA,pI h a dx C mA/\(∀f,gY (fs.lookup f) (mA f))/\PySem.Within mA (fs.map (·.1))/\fs.length<=1000/\H dx=some (.own a):=by
 obtain⟨d,z,ne,ob,mA,n,r,q⟩:=(show bY P w H h a (.ins C dx fs) from bV a _ e);exact⟨mA,⟨ob,n,ne⟩,r,q,z,d⟩
end
structure uI (K:qAa) (C:Addr):Prop where
 pg:qCh K C Str.empty=true
 hd:qCj K C=true
 po:qCs K C=true
 sa:qAc K (.ref C) "__setattr__"=some (some (.builtin "object.__setattr__"))
theorem uI.get{K:qAa}{C:Addr}(c:uI K C)(f:Str):qCh K C f=true:=c.pg
def cB(K:qAa)(C:Addr)(f:Str):Prop:=qAc K (.ref C) f=some none
theorem cB.EF{K:qAa}{C:Addr}{f:Str}(n:cB K C f):qGp K C f=some none:=by
 unfold qGp;rw[show qAc K (.ref C) f=some none from n];rfl
structure Meth (K:qAa) (C:Addr) (m:Str) (f:Addr):Prop where
 at_:qAc K (.ref C) m=some (some (.ref f))
 fn:qBh K (.ref f)=true
 kp:qAm K (.ref f)=true
section
variable {X:Cx}{pins:List (Addr×Obj)}{σ:St}{H:Hp}{s:qAh}{a C dx:Addr}{fs:List (Str×V)}{f:Str}{v:V}{A:qCc}{E:qAe->qAh->Prop}
theorem pJ(I:Inv X pins σ H s)(e:H a=some (.ins C dx fs))(c:uI X.K C)(n:cB X.K C f)(l:fs.lookup f=some v)
  (h:∀u s',Inv X pins σ H s'->RelV v u->Q u s'):qBj (qBn X.prog X.w) A (getAttr (.ref a) f b) Q E s:=by
 obtain⟨mA,O,r,_,_,_⟩:=jM I.bV e;obtain⟨u,hu,ru⟩:=gY.some_of (v:=v) (o:=mA f) (by rw[<- l];exact r f);exact get_map I.kU O (c.get f) c.hd n hu (sP ru) (h u _ (I.tok _) ru)
theorem jZ(I:Inv X pins σ H s)(e:H a=some (.ins C dx fs))(c:uI X.K C)(k:Meth X.K C m g)(l:fs.lookup m=none)
  (h:Q (.ref g,[.ref a]) s):qBj (qBn X.prog X.w) A (qIc (.ref a) m pl) Q E s:=by
 obtain⟨mA,O,r,_,_,_⟩:=jM I.bV e;have hn:mA m=none:=gY.none_of (by rw[<- l];exact r m);exact uX I.kU O (c.get m) k.at_ k.fn hn h
theorem pK(I:Inv X pins σ H s)(e:H a=some (.ins C dx fs))(c:uI X.K C)(n:cB X.K C f)(hl:fs.length<1000)(ry:RelV y u)
  (h:∀s',Inv X pins σ (upd H a (.ins C dx (fP f y fs))) s'->Q () s'):qBj (qBn X.prog X.w) A (setAttr (.ref a) f u) Q E s:=by
 obtain⟨mA,O,r,wi,_,ho⟩:=jM I.bV e;have hz:(fs.map (·.1)).length<=qAj:=by rw[qAb,qEh];lia
 refine yC I.kU O c.sa c.po n.EF c.hd wi hz fun h' O' sb=>h _ ?_;have hd:∃o,h'.get? dx=some o:=let ⟨o,_,_,e',_⟩:=O'.ns;⟨o,e'⟩;refine I.write (x:=a) (e:=dx) (by rw[e];exact True.intro) (.inr ho) (fun b q hb z=>(sb.2 b hb).trans z) hd ?_;refine⟨by rw[aK O.ne];exact ho,?_,O.ne,O'.obj,_,O'.ns,fun g=>?_,fun g hg=>?_⟩
 ·have:=i8 f y fs;lia
 ·show gY ((fP f y fs).lookup g) (if g=f then some u else mA g);rw[i7];by_cases q:g=f
  ·rw[if_pos q,if_pos q];exact ry
  ·rw[if_neg q,if_neg q];exact r g
 ·by_cases q:g=f
  ·rw[q];exact(iQ f y fs).1
  ·refine(iQ f y fs).2 g (wi g fun z=>hg ?_);show(if g=f then some u else mA g)=none;rw[if_neg q];exact z
theorem Inv.made(I:Inv X pins σ H s):Inv X pins σ (upd (upd H s.heap.objs.size (.own (s.heap.objs.size+1))) (s.heap.objs.size+1) (.ins C s.heap.objs.size []))
  { s with heap:=(s.heap.push qCk).push (qCw C s.heap.objs.size) }:=by
 have e1:(s.heap.push qCk).get? s.heap.objs.size=some qCk:=qBb s.heap rfl;have e2:((s.heap.push qCk).push (qCw C s.heap.objs.size)).get? (s.heap.objs.size+1)=some (qCw C s.heap.objs.size):=by
  have:=qBb (s.heap.push qCk) (o:=qCw C s.heap.objs.size) rfl;rwa [qJw] at this
 have e3:(s.heap.push qCk).Ns s.heap.objs.size (fun _=>none):=⟨qCk,#[],_,e1,rfl,(fun e he=>absurd he (by simp)),fun _=>rfl⟩;have I1:=I.laid (a:=s.heap.objs.size) (o:=.own (s.heap.objs.size+1)) (h':=s.heap.push qCk) (t':=s.toks) (fun b u q=>qAg _ q) (qAk _) ⟨_,e1⟩;refine I1.laid (a:=s.heap.objs.size+1) (o:=.ins C s.heap.objs.size []) (t':=s.toks) (fun b u q=>qAg _ q) (qIj (qJw _ _)) ?_;have ne:s.heap.objs.size≠s.heap.objs.size+1:=qBe (qGv _);refine⟨by rw[aK ne,aB],qBq _,ne,e2,fun _=>none,(Heap.Ns1.of_empty e3).at fun o q=>qAg _ q,fun _=>True.intro,fun y hy=>absurd rfl hy⟩
theorem yD(hb:qGy e f env (eval e env)=eval e env)
  (h:qBj (qBn prog w) A (eval e env) (fun o s₁=>qBj (qBn prog w) A (getAttr o f true) Q E s₁) E s):qBj (qBn prog w) A (eval (.Attribute e f pos) env) Q E s :=
 Attribute_any_ h (by rw[arm_eval_Attribute,hb])
end
def Hf(K:qAa)(ta:TE)(f:Str):TE:=fun σ H Q=>ta σ H fun x H1=>∃a C dx fs v,x = .ref a/\H1 a=some (.ins C dx fs)/\uI K C/\cB K C f/\fs.lookup f=some v/\Q v H1
def Hg(K:qAa)(ta tv:TE)(f:Str):TS:=fun D σ H=>tv σ H fun y H1=>ta σ H1 fun x H2=>∃a C dx fs,x = .ref a/\H2 a=some (.ins C dx fs)/\uI K C/\cB K C f/\fs.length<1000 /\
 D.nx σ (upd H2 a (.ins C dx (fP f y fs)))
section
variable {X:Cx}{o e value:Expr}{f:Str}{pos pos' tpos:Pos}{ta tv:TE}
theorem bR(he:PE X e ta)(hb:qGy e f X.env (eval e X.env)=eval e X.env):PE X (.Attribute e f pos) (Hf X.K ta f):=by
 intro pins s σ H Q I h;refine yD hb (bI (he pins s σ H _ I h) fun u s1 ⟨x,H1,I1,rx,a,C,dx,fs,v,ex,ea,c,n,l,q⟩=>?_);subst ex;obtain rfl:u=Value.ref a:=rx;exact pJ I1 ea c n l fun u' s2 I2 ru=>⟨v,H1,I2,ru,q⟩
theorem eG(ha:PE X o ta)(hv:PE X value tv)(hs:qIa value (some (.Attribute o f pos')) pos.line X.env=pure false):PS X (.Assign [.Attribute o f pos'] value pos) (Hg X.K ta tv f):=by
 intro pins s σ H D I h;refine plainObj_wpAny_Assign_Attribute (bI (hv pins s σ H _ I h) fun u s1 ⟨y,H1,I1,ry,q⟩=>bI (ha pins s1 σ H1 _ I1 q) fun ov s2 ⟨x,H2,I2,rx,a,C,dx,fs,ex,ea,c,n,l,q2⟩=>?_) hs;subst ex;obtain rfl:ov=Value.ref a:=rx;exact pK I2 ea c n l ry fun s3 I3=>⟨σ,_,I3,q2⟩
end
section
variable {X:Cx}{pins:List (Addr×Obj)}{σ:St}{H:Hp}{s:qAh}{A:qCc}{E:qAe->qAh->Prop}{Q:qAe->qAh->Prop}{c:qAe}{b:Bool}
inductive gK (K:qAa) (H:Hp):V->qAe->Prop where
 | non:gK K H .non (.type "NoneType")
 | bl (x:Bool):gK K H (.bl x) (.type "bool")
 | int (i:Int):gK K H (.int i) (.type "int")
 | str (x:Str):gK K H (.str x) (.type "str")
 | flt (x:UInt64):gK K H (.flt x) (.type "float")
 | lst {a:Addr}{xs:List V} (e:H a=some (.lst xs)):gK K H (.ref a) (.type "list")
 | frz {a:Addr}{o:Obj}{xs:List V} (e:H a=some (.frz o (.lst xs))):gK K H (.ref a) (.type "list")
 | tup {a:Addr}{xs:List V} (e:H a=some (.tup xs)):gK K H (.ref a) (.type "tuple")
 | dK {a:Addr}{kvs:List (Key×V)} (e:H a=some (.dK kvs)):gK K H (.ref a) (.type "dict")
 | dT {a:Addr}{kvs:List (List Key×V)} (e:H a=some (.dT kvs)):gK K H (.ref a) (.type "dict")
 | ins {a C dx:Addr}{fs:List (Str×V)} (e:H a=some (.ins C dx fs)) (cl:uI K C) (ha:qAc K (.ref C) "__class__"=some (some (.builtin "object.__class__")))
   (hn:qCu K (.builtin "object.__class__") "__get__"=some (some (.builtin "getset_descriptor.__get__"))) (htk:qDw K (.builtin "object.__class__")=some true)
   (hm:qBt K C (.type "object")=some true):gK K H (.ref a) (.ref C)
end
structure bX (k:Nat) (A:qCc):Prop where
 hd:A.handled=none
 dp:A.depth+3*k+5<recursionLimit
 un:A.units+16*k+200<qLe
theorem bX.mono(r:bX k A)(h:j<=k):bX j A:=⟨r.hd,by have:=r.dp;lia,by have:=r.un;lia⟩
theorem bX.deeper(r:bX (k+1) A)(env:Env):bX k (A.deeper env) :=
 ⟨r.hd,by have:=r.dp;show A.depth+1+3*k+5<_;lia,by have:=r.un;show A.units+3+16*k+200<_;lia⟩
theorem bX.in1(r:bX (k+1) A):bX k A.in1 :=
 ⟨r.hd,by have:=r.dp;show A.depth+3*k+5<_;lia,by have:=r.un;show A.units+1+16*k+200<_;lia⟩
theorem pL{A:qCc}{C:Addr}{us:List qAe}{kw:List (Str×qAe)}:(A.under (.builtin "type.__call__" ⟨.ref C::us,kw⟩)).depth=A.depth+1:=by
 first | rfl | simp[Around.under,Code.weight,Code.isCreation,Code.isGuard,Code.isCaller,Code.frames,Code.isFrame,guardIds]
theorem pM{A:qCc}{C:Addr}{us:List qAe}{kw:List (Str×qAe)}:(A.under (.builtin "type.__call__" ⟨.ref C::us,kw⟩)).units=A.units+1:=by
 first | rfl | simp[Around.under,Code.cUnits,Code.frames,Code.isFrame]
theorem bX.make(r:bX (k+1) A)(C:Addr)(us:List qAe)(kw:List (Str×qAe)):bX k (A.under (.builtin "type.__call__" ⟨.ref C::us,kw⟩)) :=
 ⟨r.hd,by have:=r.dp;rw[pL];lia,by have:=r.un;rw[pM];lia⟩
theorem bX.depth(r:bX k A):A.depth<recursionLimit:=by have:=r.dp;lia
theorem bX.units(r:bX k A):A.units+64<qLe:=by have:=r.un;lia
def EG:TA:=fun _ H Q=>Q [] H
def EH(ta:TE)(tr:TA):TA:=fun σ H Q=>ta σ H fun x H1=>tr σ H1 fun xs H2=>Q (x::xs) H2
section
variable {X:Cx}{e:Expr}{es:List Expr}{te:TE}{t:TA}{pos:Pos}
theorem aC:PA X [] EG:=fun _ _ _ _ H Q I h=>Calls.spliced_nil ⟨[],H,I,.nil,h⟩
theorem aA(ha:PE X e te)(hr:PA X es t)(hs:qBg (e::es) X.env=(false,eval e X.env)::qBg es X.env:=by rfl):PA X (e::es) (EH te t):=by
 intro pos pins s σ H Q I h;rw[hs];show qBj _ _ (spliced ((false,eval e X.env)::qEi pos (qBg es X.env))) _ _ s;refine Calls.spliced_cons (bI (ha pins s σ H _ I h) fun u s1 ⟨x,H1,I1,r1,q1⟩=>?_);exact bI (hr pos pins s1 σ H1 _ I1 q1) fun us s2 ⟨xs,H2,I2,r2,q2⟩=>⟨x::xs,H2,I2,.cons r1 r2,q2⟩
def Hh(t:TA):TE:=fun σ H Q=>t σ H fun xs H1=>xs.length<=qAj/\∀p,H1 p=none->Q (.ref p) (upd H1 p (.tup xs))
def Hi(t:TA):TE:=fun σ H Q=>t σ H fun xs H1=>xs.length<=qAj/\∀p,H1 p=none->Q (.ref p) (upd H1 p (.lst xs))
theorem e9{x1}(h:PA X es t):PE X (.Tuple es x1 pos) (Hh t):=by
 intro pins s σ H Q I hq;refine wpAny_Tuple_spliced (bI (h pos pins s σ H _ I hq) fun us s1 ⟨xs,H1,I1,r,z,q⟩=>⟨by rw[<- r.length];exact z,?_⟩);have hf:H1 s1.heap.objs.size=none:=I1.bV.fresh (qAk _);refine⟨.ref s1.heap.objs.size,upd H1 s1.heap.objs.size (.tup xs),I1.laid (t':=s1.toks) (fun b u e=>qAg _ e) (qAk _) ?_,rfl,q _ hf⟩;exact⟨z,us,r,⟨_,qBb _ rfl,rfl,_,rfl⟩⟩
theorem bK(h:PA X es t):PE X (.List es pos) (Hi t):=by
 intro pins s σ H Q I hq;refine wpAny_List_spliced (bI (h pos pins s σ H _ I hq) fun us s1 ⟨xs,H1,I1,r,z,q⟩=>⟨by rw[<- r.length];exact z,?_⟩);have hf:H1 s1.heap.objs.size=none:=I1.bV.fresh (qAk _);refine⟨.ref s1.heap.objs.size,upd H1 s1.heap.objs.size (.lst xs),I1.laid (t':=s1.toks) (fun b u e=>qAg _ e) (qAk _) ?_,rfl,q _ hf⟩;exact⟨z,us,0,r,qBb _ rfl⟩
end
abbrev Sp:=List V->Hp->VK->XK->Prop
abbrev qS:=List Env->Hp->qAh->XK->qAe->qAh->Prop
structure kX (P:qBd) (w:qCb) (K:qAa) (mg:Str->Option qAe) (base:Heap) (A:qCc) (outer:List Env) (s:qAh) (H:Hp):Prop where
 frames:A.frames=some outer
 mod:Mod K mg base
 bs:∀b o,base.get? b=some o->s.heap.get? b=some o/\H b=none
 xY:base.objs.size<=s.heap.objs.size
 gR:s.heap.FunFrames base outer
 Am:∀b∈kT outer,H b=none
 bV:gQ P w H s.heap
 bare:qGh s.gens
def CE(outer:List Env)(P:qBd)(w:qCb)(H:Hp)(s:qAh)(Q:VK)(u:qAe)(s':qAh):Prop :=
 ∃v H',s'.os=s.os/\qGh s'.gens/\Un (kT outer) [] H H' s.heap s'.heap/\gQ P w H' s'.heap/\RelV v u/\Q v H'
def CR(CX:qS)(outer:List Env)(P:qBd)(w:qCb)(H:Hp)(s:qAh)(Q:VK)(E:XK)(r:qLf)(s':qAh):Prop :=
 match r with
 | .ok (.ret u)=>CE outer P w H s Q u s'
 | .ok _=>False
 | .error e=>CX outer H s E e s'
structure eJ (P:qBd) (w:qCb) (K:qAa) (mg:Str->Option qAe) (base:Heap) (CX:qS) (k:Nat) (f:Addr) (fd:qAz) (ps:List Str) (sp:Sp):Prop where
 len:∀vs H Q E,sp vs H Q E->vs.length=ps.length
 run:∀(A:qCc) (outer:List Env) (s:qAh) (H:Hp) (args:Args) (us:List qAe) (vs:List V) (Q:VK) (E:XK),bX k A->kX P w K mg base A outer s H->qJe s fd args (ps.zip us)->Vals vs us->sp vs H Q E ->
  qFw (qBn P w) A (.call (.ref f) args) (CR CX outer P w H s Q E) s
theorem eJ.imp{P:qBd}{w:qCb}{K:qAa}{mg:Str->Option qAe}{base:Heap}{CX:qS}{k:Nat}{f:Addr}{fd:qAz}{ps:List Str}{sp sp':Sp}(F:eJ P w K mg base CX k f fd ps sp)
  (h:∀vs H Q E,sp' vs H Q E->sp vs H Q E):eJ P w K mg base CX k f fd ps sp' :=
 ⟨fun vs H Q E q=>F.len vs H Q E (h _ _ _ _ q),fun A outer s H args us vs Q E hr he hb hv hs=>F.run A outer s H args us vs Q E hr he hb hv (h _ _ _ _ hs)⟩
theorem kX.make{P:qBd}{w:qCb}{K:qAa}{mg:Str->Option qAe}{base:Heap}{A:qCc}{outer:List Env}{s:qAh}{H:Hp}(e:kX P w K mg base A outer s H)(C:Addr)(us:List qAe)(kw:List (Str×qAe)):
  kX P w K mg base (A.under (.builtin "type.__call__" ⟨.ref C::us,kw⟩)) outer s H:=⟨by first|exact e.frames | (simpa [Around.under,Code.envs,Code.isFrame,pushEnvs] using e.frames),e.mod,e.bs,e.xY,e.gR,e.Am,e.bV,e.bare⟩
theorem kX.in1{P:qBd}{w:qCb}{K:qAa}{mg:Str->Option qAe}{base:Heap}{A:qCc}{outer:List Env}{s:qAh}{H:Hp}(e:kX P w K mg base A outer s H):
  kX P w K mg base A.in1 outer s H:=⟨e.frames,e.mod,e.bs,e.xY,e.gR,e.Am,e.bV,e.bare⟩
section
variable {X:Cx}{pins:List (Addr×Obj)}{σ:St}{H:Hp}{s s':qAh}
theorem Inv.yE(I:Inv X pins σ H s):kX X.prog X.w X.K X.mg X.base X.A X.stack s H :=
 ⟨I.ok.frames,I.ok.mod,I.bs,qBf I.ok.xY I.sz,I.stack,I.mI,I.bV,I.bare⟩
theorem Inv.after(I:Inv X pins σ H s)(h:CE X.stack X.prog X.w H s Q u s'):EP X pins σ Q u s':=by
 obtain⟨v,H',os,bare,un,bV,r,q⟩:=h;obtain⟨hh,g,d,t,os'⟩:=s';obtain rfl:os'=s.os:=os;exact⟨v,H',I.call (h':=hh) (g':=g) (d':=d) (t':=t) (ch:=[]) un bV bare (fun b z=>absurd z (by simp)),r,q⟩
end
def Ap(sp:Sp)(dvs:List V)(E:XK)(t:TA):TE:=fun σ H Q=>t σ H fun vs H1=>sp (vs++dvs) H1 Q E
def Binds(K:qAa)(fd:qAz)(ps:List Str)(ds:List qAe):Prop :=
 ∀(s:qAh) (us:List qAe),K.In s.heap->(us++ds).length=ps.length->qJe s fd ⟨us,[]⟩ (ps.zip (us++ds))
theorem Binds.all{K:qAa}{fd:qAz}{ps:List Str}(h:∀us:List qAe,us.length=ps.length->qJd fd ⟨us,[]⟩=pure (ps.zip us)):Binds K fd ps []:=fun s us _ hl=>by
 rw[qBm] at hl|-;exact .of_eq (h us hl)
def Passes(CX:qS)(X:Cx)(E:XK):Prop:=∀(pins:List (Addr×Obj)) (σ:St) (H:Hp) (s:qAh) (e:qAe) (s':qAh),Inv X pins σ H s->CX X.stack H s E e s'->X.xe e s'
section
variable {X:Cx}{CX:qS}{k:Nat}{f C:Addr}{fd:qAz}{ps:List Str}{sp:Sp}{dvs:List V}{ds:List qAe}{E:XK}{x m:Str}{p pos apos:Pos}{e o:Expr}{es:List Expr}{ta:TE}{t:TA}
theorem Bm(F:eJ X.prog X.w X.K X.mg X.base CX k f fd ps sp)(hr:bX k X.A)(hb:Binds X.K fd ps ds)(hd:Vals dvs ds)(hx:Passes CX X E)
  (I:Inv X pins σ H s) (r:Vals vs us) (h:sp (vs++dvs) H Q E):qBj (qBn X.prog X.w) X.A (call (.ref f) us) (EP X pins σ Q) X.xe s:=by
 have r2:Vals (vs++dvs) (us++ds):=r.append hd;have hl:(us++ds).length=ps.length:=by rw[<- r2.length];exact F.len _ _ _ _ h
 refine qGk (qEv (F.run X.A X.stack s H ⟨us,[]⟩ (us++ds) (vs++dvs) Q E hr I.yE (hb s us I.kU hl) r2 h) fun r s' hq=>?_);cases r with
 | error e=>exact hx pins σ H s e s' I hq
 | ok fl =>
  cases fl with
  | ret u=>exact I.after hq
  | next=>exact False.elim hq
  | brk=>exact False.elim hq
  | cont=>exact False.elim hq
theorem yF(F:eJ X.prog X.w X.K X.mg X.base CX k f fd ps sp)(hr:bX k X.A)(hg:Gl X x)(hm:X.mg x=some (.ref f))(hk:qAm X.K (.ref f)=true)(hb:Binds X.K fd ps ds)(hd:Vals dvs ds)(hx:Passes CX X E)
  (ha:PA X (e::es) t) (hdb:(x == ("__debug__":Str))=false:=by decide) (he:qBg (e::es) X.env=(false,eval e X.env)::qBg es X.env:=by rfl) (hpl:(qEi pos (qBg es X.env)).any (·.1)=false:=by rfl) :
  PE X (.Call (.Name x p) (e::es) [] pos) (Ap sp dvs E t):=by
 intro pins s σ H Q I h;refine qDo (g7 I hg hm ?_ hdb);refine qDx (h₀:=X.base) I.ok.mod.Al hk (bI (ha pos pins s σ H _ I h) fun us s1 ⟨vs,H1,I1,r,q⟩=>⟨I1.kU,?_⟩) he hpl;exact Bm F hr hb hd hx I1 r q
structure Mk (K:qAa) (C f:Addr):Prop where
 makes:qCv K C=true
 init:qAc K (.ref C) "__init__"=some (some (.ref f))
 fn:qBh K (.ref f)=true
 kp:qAm K (.ref C)=true
end
section
variable {X:Cx}{CX:qS}{k:Nat}{f C:Addr}{fd:qAz}{ps ks:List Str}{sp:Sp}{E:XK}{x m:Str}{p pos apos kpos:Pos}{e o:Expr}{es:List Expr}{kws:List Keyword}{te ta:TE}{t tk:TA}{nm:Option Str}
variable {g:List qAe->List qAe->List qAe}{gV:List V->List V->List V}
end
structure aL (N P:List Str) (sc:qHh):Prop where
 kind:sc.kind = .function
 co:sc.isCoroutine=false
 gen:sc.isGenerator=false
 nd:N.Nodup
 pre:N.take P.length=P
 par:∀x∈P,sc.names.lookup x=some .local\/sc.names.lookup x=some .cell
 Bo:∀y∈sc.names,y.2≠.free
theorem lK{qFz:Str->Option qHp}{x:Str}:∀{binds:List (Str×qAe)}{m:Str->Option qAe},(∀v,(x,v)∉binds)->qKp qFz binds m x=m x
 | [],_,_=>rfl
 | (n,v)::r,m,h=>by
  unfold qKp;rw[lK fun w hw=>h w (qBa _ hw)];split
  ·have:x≠n:=by rintro rfl;exact h v qEa
   simp[this]
  ·rfl
theorem lL{qFz:Str->Option qHp}{x:Str}:∀{binds:List (Str×qAe)}{m:Str->Option qAe},(∀v,(x,v)∉binds)->qKq qFz binds m x=m x
 | [],_,_=>rfl
 | (n,v)::r,m,h=>by
  unfold qKq;rw[lL fun w hw=>h w (qBa _ hw)];split
  ·rfl
  ·have:x≠n:=by rintro rfl;exact h v qEa
   simp[this]
theorem lM{qFz:Str->Option qHp}{x:Str}{v:qAe}:∀{P:List Str}{vs:List qAe}{i:Nat}{m:Str->Option qAe},P.Nodup->P[i]?=some x->vs[i]?=some v->qFz x=some .local ->
  qKp qFz (P.zip vs) m x=some v
 | [],_,_,_,_,h,_,_=>by simp at h
 | _::_,[],_,_,_,_,h,_=>by simp at h
 | p::P,w::vs,0,m,nd,h1,h2,hk=>by
  simp at h1 h2;subst h1;subst h2;show qKp qFz ((p,w)::P.zip vs) m p=_;unfold qKp;rw[lK fun v hv=>(List.nodup_cons.mp nd).1 (qHa hv).1,if_pos hk];simp
 | p::P,w::vs,i+1,m,nd,h1,h2,hk=>by
  show qKp qFz ((p,w)::P.zip vs) m x=_;unfold qKp;exact lM (i:=i) (List.nodup_cons.mp nd).2 (by simpa using h1) (by simpa using h2) hk
theorem lN{qFz:Str->Option qHp}{x:Str}{v:qAe}:∀{P:List Str}{vs:List qAe}{i:Nat}{m:Str->Option qAe},P.Nodup->P[i]?=some x->vs[i]?=some v->qFz x≠some .local ->
  qKq qFz (P.zip vs) m x=some v
 | [],_,_,_,_,h,_,_=>by simp at h
 | _::_,[],_,_,_,_,h,_=>by simp at h
 | p::P,w::vs,0,m,nd,h1,h2,hk=>by
  simp at h1 h2;subst h1;subst h2;show qKq qFz ((p,w)::P.zip vs) m p=_;unfold qKq;rw[lL fun v hv=>(List.nodup_cons.mp nd).1 (qHa hv).1,if_neg hk];simp
 | p::P,w::vs,i+1,m,nd,h1,h2,hk=>by
  show qKq qFz ((p,w)::P.zip vs) m x=_;unfold qKq;exact lN (i:=i) (List.nodup_cons.mp nd).2 (by simpa using h1) (by simpa using h2) hk
def start(N:List Str)(vs:List V):St:=vs.map some++List.replicate (N.length-vs.length) none
def jI(CX:qS)(P:qBd)(w:qCb)(K:qAa)(mg:Str->Option qAe)(base:Heap)(N:List Str)(qual:Str)(scope:qHh)(f:Addr)(cd:qAe)(A:qCc)(outer:List Env)(s:qAh)(H:Hp)(E:XK):Cx where
 prog:=P
 w:=w
 K:=K
 mg:=mg
 base:=base
 A:=A.deeper (qGa qual scope s.heap.objs.size f cd)
 N:=N
 s₀:=s
 H₀:=H
 env:=qGa qual scope s.heap.objs.size f cd
 outer:=outer
 stack:=qGa qual scope s.heap.objs.size f cd::outer
 ex:=[]
 calm:=true
 fn:=fun _=>true
 pn:=[]
 xe:=fun e s'=>qBj (qBn P w) (A.deeper (qGa qual scope s.heap.objs.size f cd)) (leaving (qGa qual scope s.heap.objs.size f cd) e) (fun _ s''=>CX outer H s E e s'') (fun e' s''=>CX outer H s E e' s'') s'
theorem n0{sc:qHh}{n:Nat}{x:Str}(h:sc.names.lookup x=some .cell):∃c,(cellsFrom n sc.names []).lookup x=some c:=by
 have q:=qHj sc.names n [] (.inl h);exact Option.isSome_iff_exists.mp q
theorem sQ{CX:qS}{P:qBd}{w:qCb}{K:qAa}{mg:Str->Option qAe}{base:Heap}{N ps:List Str}{qual:Str}{scope:qHh}{f:Addr}{cd:qAe}{A:qCc}{outer:List Env}{s s1:qAh}{H:Hp}{E:XK}{us:List qAe}{vs:List V}
  (S:aL N ps scope) (hd:A.handled=none) (e0:kX P w K mg base A outer s H) (hl:vs.length=ps.length) (r:Vals vs us)
  (x:InCallC s s.heap.objs.size (qKp (qGa qual scope s.heap.objs.size f cd).kindOf (ps.zip us) fun _=>none) (cellsFrom (s.heap.objs.size+1) scope.names []) (qKq (qGa qual scope s.heap.objs.size f cd).kindOf (ps.zip us) fun _=>none) s1) :
  Inv (jI CX P w K mg base N qual scope f cd A outer s H E) [] (start N vs) H s1:=by
 have hpl:ps.length<=N.length:=by have:=congrArg List.length S.pre;rw[qFj] at this;lia
 obtain⟨h1,tk,rfl,hk⟩:=x.done;have noA:∀b:Addr,b∉(jI CX P w K mg base N qual scope f cd A outer s H E).ex:=fun b z=>absurd (show b∈([]:List Addr) from z) (by simp);refine⟨⟨e0.mod,S.kind,rfl,rfl,qAk _,fun y z c h1 h2=>?_,fun y hy=>?_,fun y c _ h=>?_,fun _=>hd,Around.frames_deeper e0.frames,.inr ⟨rfl,rfl⟩,fun b z=>absurd z (noA b),e0.bs,e0.xY,fun b _ _=>noA b,fun b z=>absurd z (noA b),e0.gR,e0.Am⟩,
  rfl,e0.bare,Un.kept hk,⟨_,x.toInCall.ns,fun i y v h1 h2 h3=>?_⟩,fun y c h=>⟨_,x.cell y c h⟩,e0.bV.fresh (qAk _),fun y c h=>?_,fun p hp=>absurd (show p∈([]:List (Addr×Obj)) from hp) (by simp),e0.bV.kept hk,?_⟩
 ·exact name_of_addr x.apart (PySem.mem_of_lookup h1) (PySem.mem_of_lookup h2)
 ·have hy:scope.names.lookup y=some .cell\/scope.names.lookup y=some .free:=hy;rcases hy with hy | hy
  ·exact n0 hy
  ·exact absurd rfl (S.Bo _ (PySem.mem_of_lookup hy))
 ·exact qBp (x.above y c (PySem.mem_of_lookup h))
 ·have hi:i<vs.length:=by
   unfold start at h2;by_cases hi:i<vs.length
   ·exact hi
   ·rw[qDq (by simpa using hi)] at h2;rw[List.getElem?_replicate] at h2;split at h2 <;> cases h2
  have ha:vs[i]?=some v:=by
   unfold start at h2;rw[qDv (by simpa using hi),qAu] at h2;cases e:vs[i]? with
   | none=>rw[e] at h2;cases h2
   | some a=>rw[e] at h2;cases h2;rfl
  obtain⟨u,hu,rv⟩:=r.get ha;have hp:ps[i]?=some y:=by
   rw[<- S.pre,List.getElem?_take_of_lt (by lia)];exact h1
  have ndP:ps.Nodup:=by rw[<- S.pre];exact S.nd.sublist (List.take_sublist _ _)
  refine⟨u,rv,?_⟩;rcases S.par y (qAy hp) with k | k
  ·exact .inl ⟨k,lM ndP hp hu k⟩
  ·obtain⟨c,e⟩:=n0 (n:=s.heap.objs.size+1) k;refine .inr ⟨.inl k,c,e,?_⟩;have q:=x.cell y c e;rw[lN ndP hp hu (by show scope.names.lookup y≠_;rw[k];decide)] at q;exact q
 ·exact e0.bV.fresh (qBp (x.above y c (PySem.mem_of_lookup h)))
 ·unfold start;show _=N.length;rw[qBi,qAb,List.length_replicate];lia
theorem Aq{CX:qS}{P:qBd}{w:qCb}{K:qAa}{mg:Str->Option qAe}{base:Heap}{k:Nat}{f:Addr}{name qual:Str}{params:Arguments}{body:List Stmt}{scope:qHh}{dV kV doc pm cdv ct oc:qAe}{an od:Option Addr}
  {osl:Array (Option qAe)}{N ps:List Str}{sp:Sp} (lk:K.lookup f=some ⟨oc,od,.func (qAx name qual params body scope dV kV doc pm an cdv ct),osl⟩) (hcd:qAw K cdv qual=true) (S:aL N ps scope)
  (len:∀vs H Q E,sp vs H Q E->vs.length=ps.length)
  (hbody:∀(A:qCc) (outer:List Env) (s:qAh) (H:Hp) (vs:List V) (Q:VK) (E:XK),bX k (A.deeper (qGa qual scope s.heap.objs.size f cdv))->sp vs H Q E ->
   ∃t,mK (jI CX P w K mg base N qual scope f cdv A outer s H E) body t/\t { nx:=fun _ H'=>Q .non H',rt:=Q } (start N vs) H) :
  eJ P w K mg base CX (k+1) f (qAx name qual params body scope dV kV doc pm an cdv ct) ps sp:=by
 refine⟨len,fun A outer s H args us vs Q E hr e0 hb r hsp=>?_⟩;have hl:=len _ _ _ _ hsp;have KX:K.In s.heap:=e0.mod.Al.keeps fun b o e=>(e0.bs b o e).1;have lim:s.heap.NoLimit:=e0.mod.nolimit.keeps fun b o e=>(e0.bs b o e).1;have hkind:∀y∈ps.zip us,scope.names.lookup y.1=some .local\/(scope.names.lookup y.1=some .cell/\((cellsFrom (s.heap.objs.size+1) scope.names []).lookup y.1).isSome=true):=fun⟨n,v⟩ hy=>by
  rcases S.par n (qHa hy).1 with q | q
  ·exact .inl q
  ·exact .inr ⟨q,qHj _ _ _ (.inl q)⟩
 refine codeAny_call_function hr.depth (KX _ _ lk) rfl S.co S.gen rfl (PySem.W.codeRec_of KX hcd) (hb _ _ _ _ ?_);refine wpAny_newFunctionEnv_cells S.kind hkind fun env he s1 x=>?_;subst he;refine⟨lim.keeps x.toInCall.keep,codeAny_func ?_⟩;obtain⟨t,ht,hq⟩:=hbody A outer s H vs Q E (hr.deeper _) hsp;have I:Inv (jI CX P w K mg base N qual scope f cdv A outer s H E) [] (start N vs) H s1:=sQ S hr.hd e0 hl r x;refine qFo (ht [] s1 (start N vs) H _ I hq) (fun fl s' hs=>?_) fun e s' hs=>hs;have fin:∀{σ':St}{H':Hp}{v:V}{u:qAe},Inv (jI CX P w K mg base N qual scope f cdv A outer s H E) [] σ' H' s'->RelV v u->Q v H'->CE outer P w H s Q u s' :=
  fun {σ' H' v u} J rv q=>⟨v,H',J.os,J.bare,J.base,J.bV,rv,q⟩
 cases fl with
 | ret u =>
  obtain⟨v,σ',H',J,rv,q⟩:=hs;exact fin J rv q
 | next =>
  obtain⟨σ',H',J,q⟩:=hs;exact fin (v:=V.non) (u:=Value.none) J rfl q
 | brk =>
  obtain⟨_,_,_,q⟩:=hs;exact False.elim q
 | cont =>
  obtain⟨_,_,_,q⟩:=hs;exact False.elim q
section
variable {X:Cx}{x:Str}{p pos:Pos}{e:Expr}{es:List Expr}{t:TA}{id T:String}{r:List V->Hp->VK->Prop}
def Ir(r:List V->Hp->VK->Prop)(t:TA):TE:=fun σ H Q=>t σ H fun vs H1=>r vs H1 Q
theorem aV(hc:eR X (.builtin id) r)(hg:Gl X x)(hm:X.mg x=none)(hv:qBv x=some (.builtin id))(ha:PA X (e::es) t)(hn:x≠"__name__":=by decide)(hdb:(x == ("__debug__":Str))=false:=by decide)
  (he:qBg (e::es) X.env=(false,eval e X.env)::qBg es X.env:=by rfl) (hpl:(qEi pos (qBg es X.env)).any (·.1)=false:=by rfl):PE X (.Call (.Name x p) (e::es) [] pos) (Ir r t):=by
 intro pins s σ H Q I h;refine qDo (gT I hg hm hv ?_ hn hdb);exact qKu (bI (ha pos pins s σ H _ I h) fun us s1 ⟨vs,H1,I1,r1,q1⟩=>hc pins s1 σ H1 vs us Q I1 r1 q1) he hpl
theorem bJ(hc:eR X (.type T) r)(hg:Gl X x)(hm:X.mg x=none)(hv:qBv x=some (.type T))(ha:PA X (e::es) t)(hn:x≠"__name__":=by decide)(hdb:(x == ("__debug__":Str))=false:=by decide)
  (he:qBg (e::es) X.env=(false,eval e X.env)::qBg es X.env:=by rfl) (hpl:(qEi pos (qBg es X.env)).any (·.1)=false:=by rfl):PE X (.Call (.Name x p) (e::es) [] pos) (Ir r t):=by
 intro pins s σ H Q I h;refine qDo (gT I hg hm hv ?_ hn hdb);exact qDi (bI (ha pos pins s σ H _ I h) fun us s1 ⟨vs,H1,I1,r1,q1⟩=>hc pins s1 σ H1 vs us Q I1 r1 q1) he hpl
end
end L2
namespace HT
open PySem PyProof.Rows
def lexLt:List Int->List Int->Bool
 | [],[]=>false
 | [],_::_=>true
 | _::_,[]=>false
 | x::xs,y::ys=>if x=y then lexLt xs ys else decide (x<y)
theorem fA(x y:Int)(xs ys:List Int):lexLt (x::xs) (y::ys)=if x=y then lexLt xs ys else decide (x<y):=rfl
section
open PySem.SeqAt
open PySem.AutoSeq1 (wpAny_loadPart')
open PySem.MeetsSeq PySem.MeetsSeq2 PySem.MeetsSeq3
end
section
variable {prog:qBd}{w:qCb}{A:qCc}{E:qAe->qAh->Prop}{s:qAh}
theorem yG(ht:IsTup s.heap t vs.toArray)(hb:IsTup s.heap b ws.toArray)(hv:vs≠[])
  (h1:ws=[]->Q (.ref t) s) (h2:ws≠[]->Q (.ref s.heap.objs.size) { s with heap:=s.heap.push { cls:=.type "tuple",data:=.seq (vs++ws).toArray } })
  (hsz:vs.length+ws.length<=qAj):qBj (qBn prog w) A (qEk .Add (.ref t) (.ref b)) Q E s:=by
 obtain⟨⟨cls,dd,data,sl⟩,ho,hc,n,hd⟩:=id ht;obtain⟨⟨cls2,dd2,data2,sl2⟩,ho2,hc2,n2,hd2⟩:=id hb;simp only at hc hd hc2 hd2;subst hc hd hc2 hd2;have e:vs.toArray++ws.toArray=(vs++ws).toArray:=by simp
 by_cases hw:ws=[]
 ·exact concat_meets ⟨_,ho,rfl⟩ ⟨_,ho2,rfl⟩ noFill_tuple_add seq_tuple_add qHk qHe (qGz _ _)
   (tuple_addW1 t b vs.toArray ws.toArray n n2 dd dd2 sl sl2 (by simpa using hv) (by simp[hw])) ⟨ho,ho2,h1 hw⟩
 ·refine concat_meets ⟨_,ho,rfl⟩ ⟨_,ho2,rfl⟩ noFill_tuple_add seq_tuple_add qHk qHe (qGz _ _)
   (tuple_addW2 t b vs.toArray ws.toArray n n2 dd dd2 sl sl2 (by simpa using hv) (by simpa using hw) (by rw[qAp,qAp];exact hsz)) ⟨ho,ho2,?_⟩
  rw[e];exact h2 hw
def cV(n d:Nat):Option Int->Nat
 | none=>d
 | some v=>if v<0 then (v+(n:Int)).toNat else min v.toNat n
theorem n8(n d:Nat):cV n d none=d:=rfl
theorem qT(n d k:Nat):cV n d (some (k:Int))=min k n:=by
 show(if (k:Int)<0 then ((k:Int)+(n:Int)).toNat else min (k:Int).toNat n)=min k n;rw[if_neg (by lia),qJo]
theorem Bp(n d:Nat)(hd:d<=n)(o:Option Int):cV n d o<=n:=by
 cases o with
 | none=>exact hd
 | some v =>
  show(if v<0 then (v+(n:Int)).toNat else min v.toNat n)<=n;by_cases hv:v<0
  ·rw[if_pos hv];lia
  ·rw[if_neg hv];exact Nat.min_le_right _ _
theorem qU(v:Int)(n d:Nat):(if v<0 then max (v+(n:Int)) 0 else min v (n:Int))=((cV n d (some v):Nat):Int):=by
 show(if v<0 then max (v+(n:Int)) 0 else min v (n:Int))=(((if v<0 then (v+(n:Int)).toNat else min v.toNat n):Nat):Int);by_cases hv:v<0
 ·simp only[if_pos hv];lia
 ·simp only[if_neg hv];lia
theorem pN(lo hi:Option Int)(n:Nat):Builtin.Slice.sliceAdjust lo hi 1 (n:Int)=(((cV n 0 lo:Nat):Int),((cV n n hi:Nat):Int)):=by
 have h1:¬((1:Int)<0):=by lia
 unfold Builtin.Slice.sliceAdjust;simp only[h1,if_false];refine Prod.ext ?_ ?_
 ·cases lo with
  | none=>rfl
  | some v=>exact qU v n 0
 ·cases hi with
  | none=>rfl
  | some v=>exact qU v n n
theorem pO(i j:Nat):Builtin.Slice.slicePlaces (i:Int) (j:Int) 1=j-i:=by
 unfold Builtin.Slice.slicePlaces;have h1:(1:Int)>0:=by lia
 simp only[h1,if_true,Int.ediv_one];split <;> lia
theorem j6(p:qHm v o)(h:Q o s):qBj (qBn prog w) A (Builtin.Slice.slicePartIndex v) Q E s:=by
 cases p with
 | none=>exact slicePart_none h
 | int i t=>exact slicePart_int h
theorem eT{sl:Addr}{vl vu:qAe}{lo hi:Option Int}{n:Nat}{Q:Int×Int×Nat->qAh->Prop}(hs:s.heap.IsSliceOf sl vl vu .none)(pl:qHm vl lo)(pu:qHm vu hi)
  (h:Q (((cV n 0 lo:Nat):Int),1,cV n n hi-cV n 0 lo) s):qBj (qBn prog w) A (Builtin.Slice.sliceApplied (.ref sl) (pure (n:Int))) Q E s:=by
 obtain⟨os,hos,hcs,hds⟩:=id hs;unfold Builtin.Slice.sliceApplied Builtin.Slice.sliceFields;refine qAd (qAd (wpAny_field hos hds (x:=vl) rfl (qAd (wpAny_field hos hds (x:=vu) rfl (qAd (wpAny_field hos hds (x:=.none) rfl (qAr ?_)))))));refine qAd (slicePart_none ?_);show qBj _ _ (if ((1:Int) == 0)=true then _ else _) _ _ s;rw[if_neg (by decide)];refine qAd (j6 pl (qAd (j6 pu (qAd (qAr ?_)))));show qBj _ _ (match Builtin.Slice.sliceAdjust lo hi 1 (n:Int) with | (lo,hi)=>pure (lo,(1:Int),Builtin.Slice.slicePlaces lo hi 1)) _ _ s
 rw[pN lo hi n];show qBj _ _ (pure (((cV n 0 lo:Nat):Int),(1:Int),Builtin.Slice.slicePlaces ((cV n 0 lo:Nat):Int) ((cV n n hi:Nat):Int) 1)) _ _ s;rw[pO];exact qAr h
theorem uZ(xs:Array qAe)(i k:Nat):((qAq k).filterMap fun(m:Nat)=>xs[((i:Int)+(m:Int)*1).toNat]?).toArray=((xs.toList.drop i).take k).toArray:=by
 have e:(fun(m:Nat)=>xs[((i:Int)+(m:Int)*1).toNat]?)=fun m=>xs[i+m]?:=by
  funext m
  have:((i:Int)+(m:Int)*1).toNat=i+m:=by lia
  rw[this]
 rw[e];have:=pick_run xs i k;rw[qBx] at this;have e2:((fun x=>xs[x]?)∘fun x=>i+x)=fun m=>xs[i+m]?:=rfl;rw[e2] at this;rw[this]
theorem hU{t sl:Addr}{items:Array qAe}{vl vu:qAe}{lo hi:Option Int}{Q:qAe->qAh->Prop}(ht:IsTup s.heap t items)(hs:s.heap.IsSliceOf sl vl vu .none)(pl:qHm vl lo)(pu:qHm vu hi)
  (hw:¬(cV items.size 0 lo=0/\cV items.size items.size hi=items.size))
  (h:Q (.ref s.heap.objs.size) { s with heap:=s.heap.push { cls:=.type "tuple",data:=.seq ((items.toList.drop (cV items.size 0 lo)).take (cV items.size items.size hi-cV items.size 0 lo)).toArray } })
  (hsz:items.size<=qAj):qBj (qBn prog w) A (qHg (.ref t) (.ref sl)) Q E s:=by
 have htake:sizeOk (.seq ((items.toList.drop (cV items.size 0 lo)).take (cV items.size items.size hi-cV items.size 0 lo)).toArray):=by
  show((items.toList.drop (cV items.size 0 lo)).take (cV items.size items.size hi-cV items.size 0 lo)).toArray.size<=qAj;rw[qAp,qFj,qFk,qBz];lia
 have hj:cV items.size items.size hi<=items.size:=Bp _ _ (qAk _) hi;obtain⟨os,hos,hcs,hds⟩:=id hs;have hTs:s.TypeIs (.ref sl) "slice":=⟨os,hos,hcs⟩;unfold qHg;try with_reducible refine qCn ?_
 first | refine qAd (qAr ?_) | skip
 refine qAd (wpAny_sequenceKey ht.typeIs (by decide) ?_);refine qAd (wpAny_callSpecial?_slot (name:=Str.ofString "__getitem__") ht.typeIs qDc
  (wpAny_call_entry qDc ht.typeIs entry_tuple_getitem ?_ (args_tuple_getitem _ _)))
 show qBj _ _ (Builtin.Tuple.tupleItemsOf (.ref t) >>= _) _ _ s;refine qAd (tupleItemsOf_ ht ?_);refine qAd (wpAny_typeOf hTs ?_);rw[if_pos (by decide)];refine qAd (eT hs pl pu ?_);have hno:¬((((cV items.size 0 lo:Nat):Int) == 0&&(1:Int) == 1&&(cV items.size items.size hi-cV items.size 0 lo) == items.size)=true):=by
  intro q;rw[qAo,qAo] at q;have q1:((cV items.size 0 lo:Nat):Int)=0:=eq_of_beq q.1.1;have q2:cV items.size items.size hi-cV items.size 0 lo=items.size:=eq_of_beq q.2;exact hw ⟨by lia,by lia⟩
 show qBj _ _ (if (((cV items.size 0 lo:Nat):Int) == 0&&(1:Int) == 1&&(cV items.size items.size hi-cV items.size 0 lo) == items.size)=true then _ else _) _ _ s;rw[if_neg hno,uZ];first
  | exact qAd (m:=Builtin.Tuple.tupleExact _) (qEr (qAr ⟨_,rfl,qAr h⟩) htake)
  | exact qAd (m:=Builtin.Tuple.tupleExact _) (qEr (qAd (qAr (qAr ⟨_,rfl,qAr h⟩))) htake)
  | exact qAd (qAd (m:=Builtin.Tuple.tupleExact _) (qEr (qAr (qAr ⟨_,rfl,qAr h⟩)) htake))
  | exact qAd (qAd (m:=Builtin.Tuple.tupleExact _) (qEr (qAr ⟨_,rfl,qAr h⟩) htake))
end
end HT
namespace L2
open PySem PySem.Spec PyProof.Rows
abbrev TO:=St->Hp->(Option Int->Hp->Prop)->Prop
def PO(X:Cx)(e:Option Expr)(t:TO):Prop :=
 ∀(pins:List (Addr×Obj)) (s:qAh) (σ:St) (H:Hp) (Q:Option Int->Hp->Prop),Inv X pins σ H s->t σ H Q ->
  qBj (qBn X.prog X.w) X.A (evalPart e X.env) (fun u s'=>∃o H',Inv X pins σ H' s'/\qHm u o/\Q o H') X.xe s
def yH:TO:=fun _ H Q=>Q none H
def EI(t:TE):TO:=fun σ H Q=>t σ H fun x H1=>∃i,x = .int i/\Q (some i) H1
theorem intsAre_of:∀{us:List qAe},Vals (ns.map V.int) us->qGu us ns:=by
 induction ns with
 | nil=>intro us r;rw[qGs] at r;cases r;exact .nil
 | cons n ns ih =>
  intro us r;rw[qBk] at r;cases r with
  | cons r1 r2 =>
   obtain⟨t,e⟩:=r1;subst e;exact .cons n t (ih r2)
section
variable {X:Cx}{e:Expr}{te:TE}{lo hi:Option Expr}{tl th:TO}{pos p2:Pos}
theorem fB:PO X none yH:=by
 intro pins s σ H Q I h;rw[evalPart_none];exact qAr ⟨none,H,I,.none,h⟩
theorem fD(h:PE X e te):PO X (some e) (EI te):=by
 intro pins s σ H Q I hw;rw[evalPart_some];refine bI (h pins s σ H _ I hw) fun u s1 ⟨x,H1,I1,r1,q1⟩=>?_;obtain⟨i,rfl,q⟩:=q1;obtain⟨t,rfl⟩:=r1;exact⟨some i,H1,I1,.int i t,q⟩
def EJ(X:Cx)(r:V->Option Int->Option Int->Hp->VK->Prop):Prop :=
 ∀(pins:List (Addr×Obj)) (s:qAh) (σ:St) (H:Hp) (x:V) (v vl vu:qAe) (lo hi:Option Int) (sl:Addr) (Q:VK),Inv X pins σ H s->RelV x v->s.heap.IsSliceOf sl vl vu .none->qHm vl lo->qHm vu hi->r x lo hi H Q ->
  ∃T id,typeLookup (.type T) "__getitem__"=pure (some (.builtin id))/\s.TypeIs v T/\qBj (qBn X.prog X.w) X.A (qHg v (.ref sl)) (EP X pins σ Q) X.xe s
def IF(r:V->Option Int->Option Int->Hp->VK->Prop)(te:TE)(tl th:TO):TE:=fun σ H Q=>te σ H fun x H1=>tl σ H1 fun l H2=>th σ H2 fun u H3=>r x l u H3 Q
theorem eK(hr:EJ X r)(he:PE X e te)(hl:PO X lo tl)(hu:PO X hi th):PE X (.Subscript e (.Slice lo hi none p2) pos) (IF r te tl th):=by
 intro pins s σ H Q I h;refine Subscript_ (bI (he pins s σ H _ I h) fun v s1 ⟨x,H1,I1,r1,q1⟩=>?_);refine wpAny_Slice (bI (hl pins s1 σ H1 _ I1 q1) fun vl s2 ⟨l,H2,I2,pl,q2⟩=>bI (hu pins s2 σ H2 _ I2 q2) fun vu s3 ⟨u,H3,I3,pu,q3⟩=>?_);rw[evalPart_none];refine qAr ?_;have I4:Inv X pins σ H3 { s3 with heap:=s3.heap.push { cls:=.type "slice",data:=.fields #[vl,vu,.none] } }:=I3.kept (t':=s3.toks) fun b ob q=>qAg _ q;obtain⟨T,id,hT,ht,hg⟩:=hr pins { s3 with heap:=s3.heap.push { cls:=.type "slice",data:=.fields #[vl,vu,.none] } } σ H3 x v vl vu l u s3.heap.objs.size Q I4 r1 (Heap.IsSliceOf.new ..) pl pu q3;show qBj (qBn X.prog X.w) X.A (subscriptTail e (.Slice lo hi none p2) v (.ref s3.heap.objs.size)) (EP X pins σ Q) X.xe { s3 with heap:=s3.heap.push { cls:=.type "slice",data:=.fields #[vl,vu,.none] } };exact tail_any (ops:=[.ref s3.heap.objs.size,v]) ht hT hg (by with_unfolding_all rfl)
def eA(xs:List V)(lo hi:Option Int):List V:=(xs.drop (HT.cV xs.length 0 lo)).take (HT.cV xs.length xs.length hi-HT.cV xs.length 0 lo)
theorem i9(xs:List V)(lo hi:Option Int):(eA xs lo hi).length<=xs.length:=by
 unfold eA;rw[qFj,qFk];lia
def Hj(K:qAa):V->Option Int->Option Int->Hp->VK->Prop:=fun x lo hi H Q=>∃a xs,x = .ref a/\dE K H a xs /\
 ¬(HT.cV xs.length 0 lo=0/\HT.cV xs.length xs.length hi=xs.length)/\∀p,H p=none->Q (.ref p) (upd H p (.tup (eA xs lo hi)))
theorem Bq:EJ X (Hj X.K):=by
 intro pins s σ H x v vl vu lo hi sl Q I rx hs pl pu h;obtain⟨a,xs,rfl,hx,hw,q⟩:=h;cases rx;obtain⟨its,r,ht,hz⟩:=I.tuple hx;have hlen:its.toArray.size=xs.length:=by rw[qAp];exact r.length.symm
 refine⟨"tuple",_,PyProof.Rows.slot_tuple_getitem.lookup,ht.typeIs,?_⟩;refine HT.hU ht hs pl pu (by rw[hlen];exact hw) ?_ (by rw[hlen];exact hz);rw[hlen];refine⟨.ref s.heap.objs.size,_,I.laid (t':=s.toks) (o:=.tup (eA xs lo hi)) (fun b ob q=>qAg _ q) (qAk _) ?_,rfl,q _ (I.bV.fresh (qAk _))⟩;exact⟨qBf (i9 xs lo hi) hz,_,(r.drop (HT.cV xs.length 0 lo)).take (HT.cV xs.length xs.length hi-HT.cV xs.length 0 lo),IsTup.new _ _⟩
def EK(K:qAa):R2:=fun x y H Q=>∃a b xs ys,x = .ref a/\y = .ref b/\dE K H a xs/\dE K H b ys/\xs≠[]/\xs.length+ys.length<=qAj /\
 (ys=[]->Q (.ref a) H)/\(ys≠[]->∀p,H p=none->Q (.ref p) (upd H p (.tup (xs++ys))))
theorem Vals.mO(r:Vals xs us):us=[]↔xs=[]:=by
 cases r with
 | nil=>simp
 | cons _ _=>simp
theorem yI:gX X (qEk .Add) (EK X.K):=by
 intro pins s σ H x y v u Q I rx ry h;obtain⟨a,b,xs,ys,rfl,rfl,ha,hb,hx,hz,q1,q2⟩:=h;cases rx;cases ry;obtain⟨its,r1,p1,_⟩:=I.tuple ha;obtain⟨its2,r2,p2,_⟩:=I.tuple hb;refine HT.yG p1 p2 (fun z=>hx (r1.mO.mp z)) (fun z=>⟨.ref a,H,I,rfl,q1 (r2.mO.mp z)⟩) (fun z=>?_) (by rw[<- r1.length,<- r2.length];exact hz);refine⟨.ref s.heap.objs.size,_,I.laid (t':=s.toks) (o:=.tup (xs++ys)) (fun b ob q=>qAg _ q) (qAk _) ?_,rfl,q2 (fun w=>z (r2.mO.mpr w)) _ (I.bV.fresh (qAk _))⟩;exact⟨by rw[qBi];exact hz,_,r1.append r2,IsTup.new _ _⟩
end
def yJ(n:Nat)(i:Int):Option Nat:=if 0<=i then (if i<n then some i.toNat else none) else if -(n:Int)<=i then some (i+n).toNat else none
def jN{α:Type}(xs:List α)(i:Int):Option α:=(yJ xs.length i).bind fun j=>xs[j]?
theorem qV(h:yJ n i=some j):seqIndex? i n=some j/\j<n/\-(n:Int)<=i/\i<n:=by
 unfold yJ at h;by_cases h0:0<=i
 ·rw[if_pos h0] at h;by_cases h1:i<n
  ·rw[if_pos h1] at h;have e:i.toNat=j:=Option.some.inj h;exact⟨by rw[seqIndex_of h0 h1,e],by lia,by lia,h1⟩
  ·rw[if_neg h1] at h;cases h
 ·rw[if_neg h0] at h;by_cases h1:-(n:Int)<=i
  ·rw[if_pos h1] at h;have e:(i+n).toNat=j:=Option.some.inj h;exact⟨by rw[seqIndex_neg (by lia) h1,e],by lia,h1,by lia⟩
  ·rw[if_neg h1] at h;cases h
theorem qW(h:jN xs i=some v):∃j,seqIndex? i xs.length=some j/\xs[j]?=some v/\j<xs.length/\-(xs.length:Int)<=i/\i<xs.length:=by
 unfold jN at h;cases e:yJ xs.length i with
 | none=>rw[e] at h;cases h
 | some j =>
  rw[e] at h;obtain⟨h1,h2,h3,h4⟩:=qV e;exact⟨j,h1,h,h2,h3,h4⟩
theorem bU{α:Type}{xs:List α}{j:Nat}{v:α}(h:xs[j]?=some v):jN xs (j:Int)=some v:=by
 have hj:j<xs.length:=(List.getElem?_eq_some_iff.mp h).1;have e:yJ xs.length (j:Int)=some j:=by
  unfold yJ;rw[if_pos (by lia),if_pos (by lia)];simp
 unfold jN;rw[e];exact h
def yK(b:Expr):Prop:=∀o i,subscripted b false o i=operate [o,i] (qHg o i)
def DP(X:Cx)(r:R2):Prop :=
 ∀(value slice:Expr) (pins:List (Addr×Obj)) (s:qAh) (σ:St) (H:Hp) (x y:V) (v u:qAe) (Q:VK),Inv X pins σ H s->RelV x v->RelV y u->r x y H Q ->
  subscripted slice false v u=operate [v,u] (qHg v u)->qBj (qBn X.prog X.w) X.A (subscriptTail value slice v u) (EP X pins σ Q) X.xe s
def Ar(X:Cx)(id:String)(r:V->List V->Hp->VK->Prop):Prop :=
 ∀(pins:List (Addr×Obj)) (s:qAh) (σ:St) (H:Hp) (x:V) (xs:List V) (v:qAe) (us:List qAe) (Q:VK),Inv X pins σ H s->RelV x v->Vals xs us->r x xs H Q ->
  qBj (qBn X.prog X.w) X.A (call (.builtin id) (v::us)) (EP X pins σ Q) X.xe s
section
variable {X:Cx}{a b:Expr}{ta tb:TE}{pos:Pos}
theorem aZ(hr:DP X r)(ha:PE X a ta)(hb:PE X b tb)(hs:yK b):PE X (.Subscript a b pos) (DO r ta tb):=by
 intro pins s σ H Q I h;exact Subscript_ (Bi ha hb I h fun v u s2 x y H2 I2 rx ry q=>hr a b pins s2 σ H2 x y v u Q I2 rx ry q (hs _ _))
def EL(K:qAa):R2:=fun x y H Q=>∃p xs i v,x = .ref p/\y = .int i/\aT K H p xs/\jN xs i=some v/\Q v H
def EM(K:qAa):R2:=fun x y H Q=>∃p xs i v,x = .ref p/\y = .int i/\dE K H p xs/\jN xs i=some v/\Q v H
theorem bE:DP X (EL X.K):=by
 intro value slice pins s σ H x y v u Q I rx ry h hs;obtain⟨p,xs,i,z,rfl,rfl,hq,he,q⟩:=h;cases rx;obtain⟨t,rfl⟩:=ry;obtain⟨its,r,pl,hz⟩:=I.list hq;obtain⟨j,h1,h2,h3,h4,h5⟩:=qW he;obtain⟨w,ew,rw'⟩:=r.get h2;have hl:=r.length;have hn:=mM;have fin:EP X pins σ Q w s:=⟨z,H,I,rw',q⟩;by_cases h0:0<=i
 ·have hj:i.toNat=j:=by
   rw[seqIndex_of h0 h5] at h1;exact Option.some.inj h1
  exact item_listR pl.isList h0 (by lia) (by rw[hj];simpa using ew) fin hs
 ·have hj:(i+(its.toArray.size:Int)).toNat=j:=by
   rw[seqIndex_neg (by lia) h4] at h1;rw[qAp,<- hl];exact Option.some.inj h1
  exact subscriptTail_builtinR (x:=w) pl.isList.typeIs slot_list_getitem.lookup
   (wpAny_getItem_list_neg (Q:=fun r s'=>r=w/\EP X pins σ Q r s') pl.isList (by lia) (by rw[qAp] <;> lia) (by lia) (by rw[hj];simpa using ew) ⟨rfl,fin⟩) hs
theorem bG:DP X (EM X.K):=by
 intro value slice pins s σ H x y v u Q I rx ry h hs;obtain⟨p,xs,i,z,rfl,rfl,hq,he,q⟩:=h;cases rx;obtain⟨t,rfl⟩:=ry;obtain⟨its,r,pl,hz⟩:=I.tuple hq;obtain⟨j,h1,h2,h3,h4,h5⟩:=qW he;obtain⟨w,ew,rw'⟩:=r.get h2;have hl:=r.length;have hn:=mM;have fin:EP X pins σ Q w s:=⟨z,H,I,rw',q⟩;exact subscriptTail_builtinR (x:=w) pl.typeIs slot_tuple_getitem.lookup
  (getItem_tuple (j:=j) (Q:=fun r s'=>r=w/\EP X pins σ Q r s') pl (by lia) (by lia) (by rw[qAp,<- hl];exact h1) (by simpa using ew) ⟨rfl,fin⟩) hs
theorem pP(its:List qAe)(n j:Nat)(u:qAe):Obj.mapSeq (·.setIfInBounds j u) { cls:=.type "list",data:=.seq its.toArray n }={ cls:=.type "list",data:=.seq (its.set j u).toArray n }:=by
 simp[Obj.mapSeq]
theorem Inv.lst(I:Inv X pins σ H s)(h:H p=some (.lst xs)):
  ∃(its:List qAe) (n:Nat),Vals xs its/\s.heap.get? p=some { cls:=.type "list",data:=.seq its.toArray n }/\xs.length<=qAj:=by
 obtain⟨z,its,n,r,e⟩:=I.bV p _ h;exact⟨its,n,r,e,z⟩
theorem Inv.Br{pins:List (Addr×Obj)}{σ:St}{H:Hp}{s:qAh}{p:Addr}{xs ys:List V}{its its':List qAe}{n n':Nat}{f:Obj->Obj}(I:Inv X pins σ H s)(h:H p=some (.lst xs))
  (ho:s.heap.get? p=some { cls:=.type "list",data:=.seq its.toArray n }) (hf:f { cls:=.type "list",data:=.seq its.toArray n }={ cls:=.type "list",data:=.seq its'.toArray n' }) (r:Vals ys its') (hz:ys.length<=qAj) (t:Nat) :
  Inv X pins σ (upd H p (.lst ys)) { s with heap:=s.heap.update p f,toks:=t }:=by
 have e:(s.heap.update p f).get? p=some { cls:=.type "list",data:=.seq its'.toArray n' }:=by
  rw[Heap.get?_update_self f ho (by rw[hf] <;> rfl),hf]
 refine I.write (x:=p) (e:=p) (by rw[h];trivial) (.inl rfl) (fun b u hb q=>(qHw _ _ (Ne.symm hb)).trans q) ⟨_,e⟩ ?_;exact⟨hz,its',n',r,e⟩
def EN:V->V->V->Hp->(Hp->Prop)->Prop:=fun o i v H Q=>∃p xs k j,o = .ref p/\i = .int k/\H p=some (.lst xs)/\yJ xs.length k=some j/\Q (upd H p (.lst (xs.set j v)))
theorem set_list:Be X EN:=by
 intro pins s σ H o i v ov iv u Q I ro ri rv h;obtain⟨p,xs,k,j,rfl,rfl,hp,hj,q⟩:=h;cases ro;obtain⟨t,rfl⟩:=ri;obtain⟨its,n,r,ho,hz⟩:=I.lst hp;obtain⟨h1,h2,h3,h4⟩:=qV hj;have hl:=r.length;have hn:=mM;have I':Inv X pins σ (upd H p (.lst (xs.set j v))) { s with heap:=s.heap.update p (Obj.mapSeq (·.setIfInBounds j u)) } :=
  I.Br hp ho (pP its n j u) (r.set rv j) (by rw[qJs];exact hz) s.toks
 by_cases h0:0<=k
 ·have hk:k.toNat=j:=by
   rw[seqIndex_of h0 h4] at h1;exact Option.some.inj h1
  exact PySem.W.ki_setAt ho h0 (by lia) (by rw[qAp,<- hl];exact h4) (by rw[hk];exact⟨_,I',q⟩)
 ·have hk:(k+(its.toArray.size:Int)).toNat=j:=by
   rw[seqIndex_neg (by lia) h3] at h1;rw[qAp,<- hl];exact Option.some.inj h1
  exact PySem.W.ki_setBack ho (by lia) (by rw[qAp,<- hl];exact h3) (by lia) (by rw[hk];exact⟨_,I',q⟩)
theorem mP(lo hi:Option Int)(n:Nat):(qFc lo hi none n).1=((HT.cV n 0 lo:Nat):Int)/\(qFc lo hi none n).2.1=((HT.cV n n hi:Nat):Int)/\(qFc lo hi none n).2.2=1:=by
 refine⟨?_,?_,rfl⟩
 ·cases lo with
  | none=>simp[qFc,HT.cV]
  | some i =>
   simp only[qFc,HT.cV,qIz,show(1:Int)>0 by decide,if_true];by_cases h:i<0
   ·simp only[h,if_true] <;> lia
   ·simp only[h,if_false] <;> lia
 ·cases hi with
  | none=>simp[qFc,HT.cV]
  | some i =>
   simp only[qFc,HT.cV,qIz,show(1:Int)>0 by decide,if_true];by_cases h:i<0
   ·simp only[h,if_true] <;> lia
   ·simp only[h,if_false] <;> lia
theorem kY(its:List qAe)(lo hi:Option Int):slicePick its.toArray lo hi none=((its.drop (HT.cV its.length 0 lo)).take (HT.cV its.length its.length hi-HT.cV its.length 0 lo)).toArray:=by
 obtain⟨h1,h2,h3⟩:=mP lo hi its.toArray.size;unfold slicePick;rw[h1,h2,h3];simp only[sliceRange_one,pick_run,qAp] <;> rfl
def Hk(K:qAa):V->Option Int->Option Int->Hp->VK->Prop:=fun x lo hi H Q=>∃a xs,x = .ref a/\aT K H a xs/\∀p,H p=none->Q (.ref p) (upd H p (.lst (eA xs lo hi)))
theorem hV:EJ X (Hk X.K):=by
 intro pins s σ H x v vl vu lo hi sl Q I rx hs pl pu h;obtain⟨a,xs,rfl,hx,q⟩:=h;cases rx;obtain⟨its,r,ht,hz⟩:=I.list hx;have hlen:=r.length;refine⟨"list",_,slot_list_getitem.lookup,ht.isList.typeIs,?_⟩;refine wpAny_getItem_list_slice ht.isList hs pl pu .none (by simp) ?_ (by rw[qAp] <;> lia);rw[kY,<- hlen];refine⟨.ref s.heap.objs.size,_,I.laid (t':=s.toks) (o:=.lst (eA xs lo hi)) (fun b ob q=>qAg _ q) (qAk _) ?_,rfl,q _ (I.bV.fresh (qAk _))⟩;exact⟨qBf (i9 xs lo hi) hz,_,0,(r.drop (HT.cV xs.length 0 lo)).take (HT.cV xs.length xs.length hi-HT.cV xs.length 0 lo),qBb _ rfl⟩
def jA:V->Bool
 | .non=>true
 | .bl _=>true
 | .int _=>true
 | .str _=>true
 | _=>false
def yL:V->V->Bool
 | .non,.non=>true
 | .bl a,.bl b=>a == b
 | .bl a,.int b=>(if a then 1 else 0) == b
 | .int a,.bl b=>a == (if b then 1 else 0)
 | .int a,.int b=>a == b
 | .str a,.str b=>a == b
 | _,_=>false
theorem Bs(ry:RelV y u)(rx:RelV x v)(fy:jA y=true)(fx:jA x=true):SeqAt.EqAt A s u v (yL y x):=by
 cases y with
 | non =>
  cases ry
  cases x with
  | non=>cases rx;exact SeqAt.EqAt.same _
  | bl b=>cases rx;exact SeqAt.EqAt.none_bool b
  | int b=>obtain⟨t,rfl⟩:=rx;exact SeqAt.EqAt.none_int b t
  | str b=>obtain⟨t,rfl⟩:=rx;exact SeqAt.EqAt.none_str b t
  | _=>exact absurd (show false=true from fx) qAi
 | bl a =>
  cases ry
  cases x with
  | non=>cases rx;exact SeqAt.EqAt.bool_none a
  | bl b=>cases rx;exact SeqAt.EqAt.bool_bool a b
  | int b=>obtain⟨t,rfl⟩:=rx;exact SeqAt.EqAt.bool_int a b t
  | str b=>obtain⟨t,rfl⟩:=rx;exact SeqAt.EqAt.bool_str a b t
  | _=>exact absurd (show false=true from fx) qAi
 | int a =>
  obtain⟨t',rfl⟩:=ry;cases x with
  | non=>cases rx;exact SeqAt.EqAt.int_none a t'
  | bl b=>cases rx;exact SeqAt.EqAt.int_bool a t' b
  | int b=>obtain⟨t,rfl⟩:=rx;exact SeqAt.EqAt.int_int a t' b t
  | str b=>obtain⟨t,rfl⟩:=rx;exact SeqAt.EqAt.int_str a t' b t
  | _=>exact absurd (show false=true from fx) qAi
 | str a =>
  obtain⟨t',rfl⟩:=ry;cases x with
  | non=>cases rx;exact SeqAt.EqAt.str_none a t'
  | bl b=>cases rx;exact SeqAt.EqAt.str_bool a t' b
  | int b=>obtain⟨t,rfl⟩:=rx;exact SeqAt.EqAt.str_int a t' b t
  | str b=>obtain⟨t,rfl⟩:=rx;exact SeqAt.EqAt.str_str a t' b t
  | _=>exact absurd (show false=true from fx) qAi
 | _=>exact absurd (show false=true from fy) qAi
def yM(x:V)(u:qAe):Bool:=match u with
 | .none=>yL .non x
 | .bool b=>yL (.bl b) x
 | .int i _=>yL (.int i) x
 | .str z _=>yL (.str z) x
 | _=>false
theorem vA(r:RelV y u)(f:jA y=true):yM x u=yL y x:=by
 cases y with
 | non=>cases r;rfl
 | bl b=>cases r;rfl
 | int i=>obtain⟨t,rfl⟩:=r;rfl
 | str z=>obtain⟨t,rfl⟩:=r;rfl
 | _=>exact absurd (show false=true from f) qAi
theorem mQ:∀{xs:List V}{us:List qAe},Vals xs us->xs.all jA=true->us.any (yM x)=xs.any fun y=>yL y x
 | _,_,.nil,_=>rfl
 | y::xs,u::us,.cons r t,f=>by
  rw[qKe,qAo] at f;rw[qFh,qFh,vA r f.1,mQ t f.2]
theorem j8(rx:RelV x v)(fx:jA x=true):∀{xs:List V}{us:List qAe},Vals xs us->xs.all jA=true->∀u∈us,SeqAt.EqAt A s u v (yM x u)
 | _,_,.nil,_=>fun u hu=>by cases hu
 | y::xs,u::us,.cons r t,f=>fun u' hu=>by
  rw[qKe,qAo] at f;rcases List.mem_cons.mp hu with rfl | hu
  ·rw[vA r f.1];exact Bs r rx f.1 fx
  ·exact j8 rx fx t f.2 u' hu
def EO(x:V)(xs:List V):Bool:=xs.any fun y=>yL y x
def IG(K:qAa)(neg:Bool):R2:=fun x y H Q=>∃p xs,y = .ref p/\(aT K H p xs\/dE K H p xs)/\jA x=true/\xs.all jA=true/\Q (.bl (if neg then !EO x xs else EO x xs)) H
theorem mR:gX X (qDg .NotIn) (IG X.K true):=by
 intro pins s σ H x y v u Q I rx ry h;obtain⟨p,xs,rfl,hq,fx,fs,q⟩:=h;cases ry;rcases hq with hq | hq
 ·obtain⟨its,r,pl,hz⟩:=I.list hq;refine SeqAt.notIn_listAt (yM x) pl.isList (fun w hw=>j8 rx fx r fs w (by simpa using hw)) ⟨.bl _,H,I,rfl,?_⟩;rw[show its.toArray.any (yM x)=its.any (yM x) by simp,mQ r fs];exact q
 ·obtain⟨its,r,pl,hz⟩:=I.tuple hq;refine SeqAt.notIn_tupleAt (yM x) pl (fun w hw=>j8 rx fx r fs w (by simpa using hw)) ⟨.bl _,H,I,rfl,?_⟩;rw[show its.toArray.any (yM x)=its.any (yM x) by simp,mQ r fs];exact q
theorem a9:eR X (.builtin "len") (fun xs H Q=>∃p ys,xs=[.ref p]/\(aT X.K H p ys\/dE X.K H p ys)/\Q (.int ys.length) H):=by
 intro pins s σ H xs us Q I r h;obtain⟨p,ys,rfl,hq,q⟩:=h;obtain⟨u,rfl,rx⟩:=vals1 r;cases rx;have hn:=mM;rcases hq with hq | hq
 ·obtain⟨its,r',pl,hz⟩:=I.list hq;have hlen:=r'.length;exact Calls.call_len_list pl.isList (by simp only[qAp] <;> lia) ⟨.int ys.length,H,I.tok _,⟨s.toks+1,by rw[qAp,hlen]⟩,q⟩
 ·obtain⟨its,r',pl,hz⟩:=I.tuple hq;have hlen:=r'.length;exact len_tuple pl (by simp only[qAp] <;> lia) ⟨.int ys.length,H,I.tok _,⟨s.toks+1,by rw[qAp,hlen]⟩,q⟩
theorem bM:eR X (.type "list") (fun xs H Q=>∃p ys,xs=[.ref p]/\(aT X.K H p ys\/dE X.K H p ys)/\∀l,H l=none->Q (.ref l) (upd H l (.lst ys))):=by
 intro pins s σ H xs us Q I r h;obtain⟨p,ys,rfl,hq,q⟩:=h;obtain⟨u,rfl,rx⟩:=vals1 r;cases rx;have fin:∀(its:List qAe),Vals ys its->ys.length<=qAj->∀(h':Heap) (c':Nat),(∀b o',s.heap.get? b=some o'->h'.get? b=some o') ->
   h'.get? s.heap.objs.size=some { cls:=.type "list",dict:=none,data:=.seq its.toArray c',slots:=#[] }->EP X pins σ Q (.ref s.heap.objs.size) { s with heap:=h' }:=fun its r' hz h' c' kp e =>
  ⟨.ref s.heap.objs.size,_,I.laid (t':=s.toks) kp (qAk _) (show bY X.prog X.w _ h' _ (.lst ys) from⟨hz,its,c',r',e⟩),rfl,q _ (I.bV.fresh (qAk _))⟩
 rcases hq with hq | hq
 ·obtain⟨its,r',pl,hz⟩:=I.list hq;have hlen:=r'.length;obtain⟨o,ho,hc,n,hd⟩:=pl.isList;exact call_list_seq p (.inl rfl) ho hc hd (fun h' c' kp e=>fin its r' hz h' c' kp e) (by simp only[qAp] <;> lia)
 ·obtain⟨its,r',pl,hz⟩:=I.tuple hq;have hlen:=r'.length;obtain⟨o,ho,hc,n,hd⟩:=pl;exact call_list_seq p (.inr rfl) ho hc hd (fun h' c' kp e=>fin its r' hz h' c' kp e) (by simp only[qAp] <;> lia)
def Hl(K:qAa)(T:String)(x:V)(H:Hp):Prop:=match x with
 | .str _=>T="str"
 | .int _=>T="int"
 | .ref p=>(T="list"/\∃xs,aT K H p xs)\/(T="tuple"/\∃o,K.lookup p=some o/\o.cls = .type "tuple"/\o.dict=none) \/
   (T="dict"/\((∃kvs,H p=some (.dK kvs))\/∃kvs,H p=some (.dT kvs)))\/(T="set"/\∃S n,H p=some (.set S n))
 | _=>False
theorem vB(I:Inv X pins σ H s)(r:RelV x v)(ty:Hl X.K T x H):
  s.TypeIs v T/\∀a,v = .ref a->∃ob,s.heap.get? a=some ob/\ob.dict=none:=by
 cases x with
 | str z =>
  obtain⟨t,rfl⟩:=r;cases (show T="str" from ty);exact⟨typeIs_str s z t,fun _ e=>nomatch e⟩
 | int i =>
  obtain⟨t,rfl⟩:=r;cases (show T="int" from ty);exact⟨typeIs_int s i t,fun _ e=>nomatch e⟩
 | ref p =>
  cases r
  rcases ty with ⟨rfl,xs,hq⟩ | ⟨rfl,o,hk,hc,hd⟩ | ⟨rfl,hk⟩ | ⟨rfl,S,n,hk⟩
  ·obtain⟨its,_,pl,_⟩:=I.list hq;refine⟨pl.isList.typeIs,fun a e=>?_⟩;cases e;obtain⟨o,n,e,c,hd,_⟩:=pl;exact⟨o,e,hd⟩
  ·refine⟨⟨o,I.kU p o hk,hc⟩,fun a e=>?_⟩;cases e;exact⟨o,I.kU _ o hk,hd⟩
  ·have z:∃o,s.heap.get? p=some o/\o.ExactDict:=by
    rcases hk with ⟨kvs,hk⟩ | ⟨kvs,hk⟩
    ·obtain⟨_,_,_,_,o,_,_,e,ex,_⟩:=I.bV p _ hk;exact⟨o,e,ex⟩
    ·obtain⟨_,_,_,_,o,_,_,e,ex,_⟩:=I.bV p _ hk;exact⟨o,e,ex⟩
   obtain⟨o,e,ex⟩:=z;refine⟨⟨o,e,ex.1⟩,fun a e2=>?_⟩;cases e2;exact⟨o,e,ex.2.1⟩
  ·obtain⟨o,_,_,_,e,ex,_⟩:=I.bV p _ hk;refine⟨⟨o,e,ex.1⟩,fun a e2=>?_⟩;cases e2;exact⟨o,e,ex.2.1⟩
 | _=>exact False.elim ty
def Hm(K:qAa)(T:String)(r:V->List V->Hp->VK->Prop)(to:TE):TE:=fun σ H Q=>to σ H fun x H1=>Hl K T x H1/\r x [] H1 Q
def IH(K:qAa)(T:String)(r:V->List V->Hp->VK->Prop)(to:TE)(t:TA):TE:=fun σ H Q=>to σ H fun x H1=>Hl K T x H1/\t σ H1 fun xs H2=>r x xs H2 Q
variable {o e:Expr}{es:List Expr}{to:TE}{t:TA}{name:Str}{apos cpos:Pos}{T id:String}{r:V->List V->Hp->VK->Prop}
theorem vC(pa:PlainAttrs T)(slot:Slot T name id)(hty:qLc (.builtin id)=pure (.type "method_descriptor"))(hm:Ar X id r)(ho:PE X o to)
  (hbase:qGy o name X.env (eval o X.env)=eval o X.env:=by rfl) (hline:(apos.endLine == cpos.line)=true:=by rfl):PE X (.Call (.Attribute o name apos) [] [] cpos) (Hm X.K T r to):=by
 intro pins s σ H Q I h;refine wpAny_Call_method0_late hbase hline (bI (ho pins s σ H _ I h) fun v s1 ⟨x,H1,I1,r1,ty,q1⟩=>?_);obtain⟨h1,h2⟩:=vB I1 r1 ty;exact⟨T,id,pa,slot,hty,h1,h2,qHo rfl (PySem.evalArgs_none (hm pins s1 σ H1 x [] v [] Q I1 r1 .nil q1))⟩
theorem fQ(pa:PlainAttrs T)(slot:Slot T name id)(hty:qLc (.builtin id)=pure (.type "method_descriptor"))(hm:Ar X id r)(ho:PE X o to)(ha:PA X (e::es) t)
  (hbase:qGy o name X.env (eval o X.env)=eval o X.env:=by rfl)
  (hfew:((qEi cpos (qBg (e::es) X.env)).all (fun x=>!x.1)&&(qKl cpos (qIb [] X.env)).all (fun x=>x.1.isSome)
   && decide ((e::es).length+([]:List Keyword).length+(if ([]:List Keyword).isEmpty then 0 else 1)<30))=true:=by rfl)
  (hline:(apos.endLine == cpos.line)=true:=by rfl) (hs:qBg (e::es) X.env=(false,eval e X.env)::qBg es X.env:=by rfl) (hplain:(qEi cpos (qBg es X.env)).any (·.1)=false:=by rfl) :
  PE X (.Call (.Attribute o name apos) (e::es) [] cpos) (IH X.K T r to t):=by
 intro pins s σ H Q I h;refine wpAny_Call_method_late hbase hfew hline rfl (bI (ho pins s σ H _ I h) fun v s1 ⟨x,H1,I1,r1,ty,q1⟩=>?_);obtain⟨h1,h2⟩:=vB I1 r1 ty;refine⟨T,id,pa,slot,hty,h1,h2,?_⟩;have hA:=ha cpos pins s1 σ H1 _ I1 q1;rw[hs] at hA|-;refine qHo (by show(false||(qEi cpos (qBg es X.env)).any (·.1))=false;rw[hplain] <;> rfl) (qIg ?_)
 exact bI hA fun us s2 ⟨vs,H2,I2,r2,q2⟩=>hm pins s2 σ H2 x vs v us Q I2 r1 r2 q2
end
def GK(X:Cx)(id:String)(r:V->List V->Hp->VK->Prop):Prop :=
 ∀(pins:List (Addr×Obj)) (s:qAh) (σ:St) (H:Hp) (x:V) (xs:List V) (v:qAe) (us:List qAe) (Q:VK),Inv X pins σ H s->RelV x v->Vals xs us->r x xs H Q ->
  qBj (qBn X.prog X.w) X.A (call (.builtin id) (v::us)) (EP X pins σ Q) X.xe s
theorem Vals.one:∀{x:V}{us:List qAe},Vals [x] us->∃u,us=[u]/\RelV x u
 | _,_,.cons r .nil=>⟨_,rfl,r⟩
theorem Vals.zero:∀{us:List qAe},Vals [] us->us=[]
 | _,.nil=>rfl
theorem Vals.dropLast(h:Vals xs us):Vals xs.dropLast us.dropLast:=by
 induction h with
 | nil=>exact .nil
 | cons r t ih =>
  cases t with
  | nil=>exact .nil
  | cons q t'=>exact .cons r ih
theorem pQ(l:List α):l.eraseIdx (l.length-1)=l.dropLast:=by
 induction l with
 | nil=>rfl
 | cons a r ih =>
  cases r with
  | nil=>rfl
  | cons b r =>
   have e:(a::b::r).length-1=((b::r).length-1)+1:=by
    have h1:(a::b::r).length=r.length+2:=rfl;have h2:(b::r).length=r.length+1:=rfl;lia
   rw[e,List.eraseIdx_cons_succ,ih];all_goals rfl
section
variable {X:Cx}{pins:List (Addr×Obj)}{σ:St}{H:Hp}{s:qAh}{l b:Addr}{xs ys zs:List V}
theorem Inv.Bt{its its':List qAe}{n:Nat}{f:Array qAe->Array qAe}{t':Nat}(I:Inv X pins σ H s)(hH:H l=some (.lst xs))
  (e:s.heap.get? l=some { cls:=.type "list",data:=.seq its.toArray n }) (hf:f its.toArray=its'.toArray) (hv:Vals ys its') (hz:ys.length<=qAj) :
  Inv X pins σ (upd H l (.lst ys)) { s with heap:=s.heap.update l (Obj.mapSeq f),toks:=t' }:=by
 have q:=PySem.IsL.update e f;rw[hf] at q;refine I.write (x:=l) (e:=l) (by rw[hH];exact trivial) (.inl rfl) (fun b' u hb hu=>(qHw s.heap (Obj.mapSeq f) (Ne.symm hb)).trans hu) ⟨_,q⟩ ?_;exact⟨hz,its',_,hv,q⟩
theorem Inv.Hn(I:Inv X pins σ H s)(hv:Vals ys its)(hz:ys.length<=qAj):
  Inv X pins σ (upd H s.heap.objs.size (.lst ys)) { s with heap:=s.heap.push { cls:=.type "list",data:=.seq its.toArray },toks:=t' } :=
 I.laid (fun _ _ q=>qAg _ q) (qAk _) ⟨hz,its,0,hv,qBb _ rfl⟩
theorem Inv.fresh(I:Inv X pins σ H s):H s.heap.objs.size=none:=I.bV.fresh (qAk _)
theorem Inv.Bu(I:Inv X pins σ H s)(hH:H l=some (.lst xs)):xs.length<=qAj/\∃(its:List qAe) (n:Nat),Vals xs its/\xs.length=its.length/\s.heap.get? l=some { cls:=.type "list",data:=.seq its.toArray n }:=by
 obtain⟨z,its,n,r,e⟩:=I.bV l _ hH;exact⟨z,its,n,r,r.length,e⟩
end
section
variable {X:Cx}
def qX:V->List V->Hp->VK->Prop:=fun x vs H Q=>∃l xs y,x = .ref l/\vs=[y]/\H l=some (.lst xs)/\xs.length<qAj/\Q .non (upd H l (.lst (xs++[y])))
theorem lO:GK X "list.append" qX:=by
 intro pins s σ H x vs v us Q I rx rv h;obtain⟨l,xs,y,rfl,rfl,hH,hz,q⟩:=h;cases rx;obtain⟨u,rfl,ru⟩:=rv.one;obtain⟨z,its,n,r,hl,e⟩:=I.Bu hH;refine qIs F.slot_list_append ⟨_,e,rfl⟩ F.entry_list_append (F.args_list_append_2 _ _) (PySem.list_append l its.toArray n u (by rw[qAp];lia)) ⟨e,?_⟩;refine⟨.non,_,I.Bt (its':=its++[u]) hH e (by simp) (r.append (.cons ru .nil)) ?_,rfl,q⟩;rw[qBi,qIf];lia
def ER:V->List V->Hp->VK->Prop:=fun x vs H Q=>∃l xs y,x = .ref l/\vs=[]/\H l=some (.lst xs)/\xs[xs.length-1]?=some y/\Q y (upd H l (.lst xs.dropLast))
theorem Bv:GK X "list.pop" ER:=by
 intro pins s σ H x vs v us Q I rx rv h;obtain⟨l,xs,y,rfl,rfl,hH,hy,q⟩:=h;cases rx;have hus:=rv.zero;subst hus;obtain⟨z,its,n,r,hl,e⟩:=I.Bu hH;obtain⟨u,hu,ru⟩:=r.get hy;have hy':its.toArray[its.toArray.size-1]?=some u:=by
  show its.toArray[its.length-1]?=some u;rw[<- Array.getElem?_toList,<- hl];exact hu
 refine qIs F.slot_list_pop ⟨_,e,rfl⟩ F.entry_list_pop (F.args_list_pop_1 _) (MeetsSeq.list_pop_last l its.toArray n u hy' (by rw[qAp];lia)) ⟨e,?_⟩;refine⟨y,_,I.Bt (its':=its.dropLast) hH e ?_ r.dropLast ?_,ru,q⟩
 ·show its.toArray.eraseIdxIfInBounds (its.toArray.size-1)=its.dropLast.toArray;rw[qAp,List.eraseIdxIfInBounds_toArray,pQ]
 ·rw[qIk];lia
def vD:V->List V->Hp->VK->Prop:=fun x vs H Q=>∃l xs,x = .ref l/\vs=[]/\H l=some (.lst xs)/\Q .non (upd H l (.lst []))
theorem vE:GK X "list.clear" vD:=by
 intro pins s σ H x vs v us Q I rx rv h;obtain⟨l,xs,rfl,rfl,hH,q⟩:=h;cases rx;have hus:=rv.zero;subst hus;obtain⟨z,its,n,r,hl,e⟩:=I.Bu hH;refine qIs F.slot_list_clear ⟨_,e,rfl⟩ F.entry_list_clear (F.args_list_clear_1 _) (AutoSeq1.list_clear_list_0 l its.toArray n (by rw[qAp];lia)) ⟨e,?_⟩;exact⟨.non,_,I.Bt (its':=[]) (ys:=[]) hH e rfl .nil (qBq _),rfl,q⟩
end
section
variable {prog:qBd}{w:qCb}{A:qCc}{E:qAe->qAh->Prop}{s:qAh}
set_option maxRecDepth 100000 in
end
section
variable {X:Cx}
end
end L2
namespace Att
open PySem PySem.W PySem.Calls PyProof.Rows
theorem jJ:∀(ns:List Int) (vs:List qAe),WellAll P h vs (ns.map WData.int)->qGu vs ns:=by
 intro ns;induction ns with
 | nil =>
  intro vs w;rw[qGs] at w;cases w;exact .nil
 | cons n ns ih =>
  intro vs w;rw[qBk] at w;cases w with
  | cons a b =>
   cases a
   exact .cons _ _ (ih _ b)
theorem sR{l:OpenLaw}{n:Nat}(hn:l.most=some n){P:Params}{h:Heap}{args:List WData}{vals:List qAe}
  (hpre:l.row.toRowW.claim.pre args=true) (hwl:WellAll P h vals args) :
  ∃a vs ns,vals=[Value.ref a]/\args=[WData.list (ns.map WData.int)]/\h.get? a=some { cls:=.type "list",data:=.seq vs.toArray }/\qGu vs ns/\ns.length<=n:=by
 have hsh:WShape.hasAll [] args [.list .int]=true:=(pre_splitW hpre).1;have hc:l.pre.holds [] { args:=args }=true:=(pre_splitW hpre).2;obtain⟨d,r,rfl,h1,h2⟩:=hasAllW_cons hsh;obtain rfl:=hasAllW_nil h2;obtain⟨xs,rfl,h3⟩:=hasW_list h1;obtain⟨ns,rfl⟩:=items_int h3;have hlen:ns.length<=n:=by
  unfold OpenLaw.pre at hc;have h4:(WTm.not (.lt (.lit (.int (n:Int))) (.len (.arg 0)))).holds [] { args:=[.list (ns.map .int)] }=true:=by
   have h4:=(holds_andW hc).1;rw[hn] at h4;exact h4
  have h5:=condW_of h4 (w_not (w_lt w_lit (w_len_list (w_arg rfl))));rw[qAb] at h5;refine qJr fun q=>?_;have q':(n:Int)<((ns.length:Nat):Int):=by lia
  first
   | (rw[decide_eq_true q'] at h5;exact absurd h5 (by decide))
   | (simp at h5;lia)
 cases hwl with
 | cons w1 w2 =>
  cases w2
  cases w1 with
  | list ho hall=>exact⟨_,_,ns,rfl,rfl,ho,jJ ns _ hall,hlen⟩
theorem sS(l:OpenLaw)(args:List WData):l.row.toRowW.claim.post args (.bool true) args=true :=
 postW_of (r:=l.row.toRowW) (X:=(true == true))
  (show WShape.has [] (.bool true) .bool=true by first | rfl | decide | simp[WShape.has,WShape.arms,WShape.armsAll])
  (show(WTm.eq .res (.lit (.bool true))).value [] { args:=args,res:=some (.bool true),after:=args }=some (.bool (true == true)) from w_eq_bool (w_res rfl) w_lit) rfl
theorem oA{l:OpenLaw}{n:Nat}{q:qBd}{loose:List Str}{XP:(Str->Option qAe)->Heap->Prop}{YP:qCb->Heap->Prop}{d:DefRec}
  (hn:l.most=some n) (hdf:d.params.defaults=[])
  (call:∀(w:qCb) (s₀ s₁:qAh) (mg mb:Str->Option qAe) (fa:Addr) (o:Obj) (pm cd doc:qAe) (a:Addr) (vs:List qAe) (ns:List Int),
   Ground q loose [] XP w s₀ mg mb s₁.heap->YP w s₁.heap ->
   s₁.heap.get? fa=some o->o.data = .func (docDef d.name d.params d.body d.scope pm cd doc)->s₁.heap.CodeRec cd d.name->mg d.name=some (.ref fa) ->
   s₁.heap.get? a=some { cls:=.type "list",data:=.seq vs.toArray }->qGu vs ns->ns.length<=n->s₁.gens=#[] ->
   qFw (qBn l.prog w) qId (.call (.ref fa) ⟨[.ref a],[]⟩) (fun r s'=>r = .ok (.ret (.bool true))/\OldK s₁.heap s'.heap/\s'.os=s₁.os/\qGh s'.gens) s₁) :
  WalkO q loose XP YP l.row.toRowW d [] (fun f vs=>PySem.call f vs):=by
 intro w s₀ s₁ mg mb G Y fa o pm cd doc dV kV ho hd hcd hD hmg hg args vals as hpre hlay hrd hwl hlo;obtain rfl:dV = .none:=Dflts.none hD hdf;obtain rfl:kV = .none:=Dflts.noKw hD;obtain⟨a,vs,ns,rfl,rfl,hobj,hints,hlen⟩:=sR hn hpre hwl;refine enter_call (qEv (call w s₀ s₁ mg mb fa o pm cd doc a vs ns G Y ho (fd_plain hd) hcd hmg hobj hints hlen hg) fun r s' hq=>?_);obtain⟨rfl,h2,h3,h4⟩:=hq;exact⟨.inl ⟨.bool true,.bool true,[],rfl,fun _=>rfl,.bool true,sS l _,fun _=>⟨List.Pairwise.nil,fun _ hm=>(nomatch hm)⟩⟩,h2,h3,h4⟩
section
variable {prog:qBd}{w:qCb}{A:qCc}{E:qAe->qAh->Prop}{s:qAh}{K:Frag}
end
end Att
namespace L2
open PySem PySem.Spec PyProof.Rows
theorem lP:∀{vs:List qAe}{ns:List Int},qGu vs ns->Vals (ns.map V.int) vs
 | _,_,.nil=>.nil
 | _,_,.cons n t h=>.cons ⟨t,rfl⟩ (lP h)
def Bw(H:Hp):Prop:=∀b,H b=none\/∃o xs,H b=some (.frz o (.lst xs))
theorem vF{P:qBd}{w:qCb}{K:qAa}{mg mb:Str->Option qAe}{CX:qS}{k:Nat}{fa a:Addr}{fd:qAz}{x:Str}{sp:Sp}{s₁:qAh}{vs:List qAe}{ns:List Int}
  (KX:K.In s₁.heap) (hns:s₁.heap.Ns qAv mg) (hb:s₁.heap.Ns builtinsNs mb) (hbb:∀x:Str,x≠"__name__"->mb x=qBv x) (hlim:s₁.heap.NoLimit) (hg:s₁.gens=#[])
  (ha:s₁.heap.get? a=some { cls:=.type "list",data:=.seq vs.toArray }) (hi:qGu vs ns) (hl:ns.length<=qAj) (hr:bX k qId)
  (F:∀base:Heap,K.In base->base.Ns qAv mg->eJ P w K mg base CX k fa fd [x] sp) (hbind:∀(s:qAh) (u:qAe),qJe s fd ⟨[u],[]⟩ [(x,u)])
  (hsp:∀H:Hp,Bw H->aT K H a (ns.map V.int)->sp [.ref a] H (fun v _=>v = .bl true) fun _ _ _=>False)
  (hCX:∀H e s',CX [] H s₁ (fun _ _ _=>False) e s'->False) :
  qFw (qBn P w) qId (.call (.ref fa) ⟨[.ref a],[]⟩) (fun r s'=>r = .ok (.ret (.bool true))/\OldK s₁.heap s'.heap/\s'.os=s₁.os/\qGh s'.gens) s₁:=by
 have rv:=lP hi;have lenV:=hi.length;have core:∀H:Hp,Bw H->aT K H a (ns.map V.int)->gQ P w H s₁.heap->(∀b,H b≠none->b=a)->(H a≠none->K.lookup a=none) ->
   qFw (qBn P w) qId (.call (.ref fa) ⟨[.ref a],[]⟩) (fun r s'=>r = .ok (.ret (.bool true))/\OldK s₁.heap s'.heap/\s'.os=s₁.os/\qGh s'.gens) s₁:=by
  intro H hO hS bV hA hK;have base_of:∀{b:Addr}{o:Obj},s₁.heap.get? b=some o->H b=none->(mH s₁.heap H).get? b=some o:=fun e n=>uK e n;have noA:∀{b:Addr}{o:Obj}{es:Array DictEntry}{ep:Nat},s₁.heap.get? b=some o->o.data = .dict es ep->H b=none:=fun {b o es ep} e d=>by
   cases q:H b with
   | none=>rfl
   | some u =>
    have e':b=a:=hA b (by rw[q];simp);subst e';rw[ha] at e;cases e;have d':Data.seq vs.toArray _=Data.dict es ep:=d;cases d'
  have nsK:∀{b:Addr}{m:Str->Option qAe},s₁.heap.Ns b m->(mH s₁.heap H).Ns b m:=fun {b m} ⟨o,es,ep,e,d,r⟩=>⟨o,es,ep,base_of e (noA e d),d,r⟩;have hKb:K.In (mH s₁.heap H):=fun b o e=>base_of (KX b o e) (by
   cases q:H b with
   | none=>rfl
   | some u =>
    have e':b=a:=hA b (by rw[q];simp);subst e';rw[hK (by rw[q];simp)] at e;cases e)
  have hM:Mod K mg (mH s₁.heap H):=⟨hKb,nsK hns,⟨mb,nsK hb,hbb⟩,let ⟨mc,h1,h2⟩:=hlim;⟨mc,nsK h1,h2⟩⟩;have e0:kX P w K mg (mH s₁.heap H) qId [] s₁ H:=⟨rfl,hM,fun b o e=>xW e,qIj (sJ _ _),trivial,fun b hb=>absurd (show b∈([]:List Addr) from hb) (by simp),bV,.of_eq hg⟩;refine qEv ((F _ hKb (nsK hns)).run qId [] s₁ H ⟨[.ref a],[]⟩ [.ref a] [.ref a] _ _ hr e0 (hbind s₁ (.ref a)) (.cons rfl .nil) (hsp H hO hS)) fun r s' h=>?_;cases r with
  | error e=>exact(hCX H e s' h).elim
  | ok fl =>
   cases fl with
   | next=>exact False.elim h
   | brk=>exact False.elim h
   | cont=>exact False.elim h
   | ret u =>
    obtain⟨v,H',os,bare,un,hok',r',q⟩:=h;have q':v = .bl true:=q;subst q';obtain rfl:u=Value.bool true:=r';refine⟨rfl,OldK.of_keep fun b o e=>?_,os,bare⟩;cases q:H b with
    | none=>exact un.keep b o e q (by intro z;exact absurd (show b∈([]:List Addr) from z) (by simp)) (by simp)
    | some u =>
     rcases hO b with z | ⟨ob,xs,z⟩
     ·rw[q] at z;cases z
     ·have z2:=un.gZ b ob _ z;obtain⟨e1,_⟩:=bV b _ z;obtain⟨e2,_⟩:=hok' b _ z2;rw[e] at e1;cases e1;exact e2
 cases hk:K.lookup a with
 | some o =>
  have e:=KX a o hk;rw[ha] at e;cases e;refine core (fun _=>none) (fun _=>.inl rfl) (.inr ⟨_,vs.toArray,_,hk,rfl,rfl,rfl,by rw[qAp,lenV];exact hl,by simpa using rv⟩) (fun b u z=>by have z':(none:Option HO)=some u:=z;cases z') (fun b z=>absurd rfl z) fun z=>absurd rfl z
 | none =>
  refine core (fun b=>if b=a then some (.frz { cls:=.type "list",data:=.seq vs.toArray } (.lst (ns.map V.int))) else none) (fun b=>?_) (.inl (.inr ⟨{ cls:=.type "list",data:=.seq vs.toArray },if_pos rfl⟩)) (fun b u z=>?_) (fun b z=>?_) fun _=>hk
  ·by_cases hb:b=a
   ·exact .inr ⟨_,_,if_pos hb⟩
   ·exact .inl (if_neg hb)
  ·by_cases hb:b=a
   ·have z':=(if_pos hb).symm.trans z;cases z';subst hb;exact⟨ha,by rw[qAb];exact hl,vs,_,rv,ha⟩
   ·have z':=(if_neg hb).symm.trans z;cases z'
  ·by_cases hb:b=a
   ·exact hb
   ·exact absurd (if_neg hb) z
theorem yN{l:qIx}{n k:Nat}{q:qBd}{loose:List Str}{XP:(Str->Option qAe)->Heap->Prop}{YP:qCb->Heap->Prop}{d:DefRec}{K:Params->qAa}{CX:qCb->qS}{sp:qCb->Sp}{x:Str}
  (hn:l.most=some n) (hn2:n<=qAj) (hdf:d.params.defaults=[]) (hr:bX k qId)
  (hY:∀(w:qCb) (h:Heap),YP w h->(K w.params).In h)
  (F:∀(w:qCb) (mg:Str->Option qAe) (fa:Addr) (h:Heap),(K w.params).In h->h.Ns qAv mg->mg d.name=some (.ref fa) ->
   ∃fd:qAz,(∀(s:qAh) (u:qAe),qJe s fd ⟨[u],[]⟩ [(x,u)]) /\
    ∀base:Heap,(K w.params).In base->base.Ns qAv mg->eJ l.prog w (K w.params) mg base (CX w) k fa fd [x] (sp w))
  (hsp:∀(w:qCb) (H:Hp) (a:Addr) (ns:List Int),ns.length<=n->Bw H->aT (K w.params) H a (ns.map V.int)->sp w [.ref a] H (fun v _=>v = .bl true) fun _ _ _=>False)
  (hCX:∀(w:qCb) (H:Hp) (s:qAh) (e:qAe) (s':qAh),CX w [] H s (fun _ _ _=>False) e s'->False) :
  qJj q loose XP YP l.row.toRowW d [] (fun f vs=>PySem.call f vs):=by
 refine Att.oA hn hdf fun w s₀ s₁ mg mb fa o pm cd doc a vs ns G Y ho hd hcd hmg hobj hints hlen hg=>?_;have KX:=hY w _ Y;obtain⟨fd,hb,hF⟩:=F w mg fa _ KX G.T.g hmg;exact vF KX G.T.g G.T.b G.T.builtins G.T.nolimit hg hobj hints (qBf hlen hn2) hr hF hb (fun H hO hS=>hsp w H a ns hlen hO hS) fun H e s'=>hCX w H s₁ e s'
def inClass(s:Stmt)(j:Nat):Stmt:=match s with
 | .ClassDef _ _ _ body _ _ _ _ _ _ _=>body.getD j (.Pass ⟨0,0,0,0⟩)
 | _=>.Pass ⟨0,0,0,0⟩
def aY(s:Stmt):Arguments:=match s with
 | .FunctionDef _ a _ _ _ _ _ _ _ _=>a
 | _=>{ posonlyargs:=[],args:=[],vararg:=none,kwonlyargs:=[],kw_defaults:=[],kwarg:=none,defaults:=[] }
def aS(s:Stmt):List Stmt:=match s with
 | .FunctionDef _ _ b _ _ _ _ _ _ _=>b
 | _=>[]
def aD(s:Stmt):qHh:=match s with
 | .FunctionDef _ _ _ _ _ _ sc _ _ _=>sc
 | _=>{ kind:=.function,names:=[],isGenerator:=false,isCoroutine:=false }
abbrev cI:qS:=fun _ _ _ _ _ _=>False
abbrev E0:XK:=fun _ _ _=>False
theorem ES:Passes cI X E0:=fun _ _ _ _ _ _ _ h=>h.elim
structure Bx (K:qAa) (x qual:Str) (st:Stmt) (f:Addr) (fd:qAz):Prop where
 ex:∃(oc:qAe) (od:Option Addr) (kV doc pm:qAe) (an:Option Addr) (cdv ct:qAe) (osl:Array (Option qAe)),
  fd=qAx x qual (aY st) (aS st) (aD st) .none kV doc pm an cdv ct/\K.lookup f=some ⟨oc,od,.func fd,osl⟩/\qAw K cdv qual=true
 kp:qAm K (.ref f)=true
section
variable {P:qBd}{w:qCb}{K:qAa}{mg:Str->Option qAe}{base:Heap}
theorem Bx.ok{x qual:Str}{st:Stmt}{f:Addr}{fd:qAz}{N ps:List Str}{k:Nat}{sp:Sp}(F:Bx K x qual st f fd)(S:aL N ps (aD st))(len:∀vs H Q E,sp vs H Q E->vs.length=ps.length)
  (hbody:∀(cdv:qAe) (A:qCc) (outer:List Env) (s:qAh) (H:Hp) (vs:List V) (Q:VK) (E:XK),bX k (A.deeper (qGa qual (aD st) s.heap.objs.size f cdv))->sp vs H Q E ->
   ∃t,mK (jI cI P w K mg base N qual (aD st) f cdv A outer s H E).DN (aS st) t/\t { nx:=fun _ H'=>Q .non H',rt:=Q } (start N vs) H):eJ P w K mg base cI (k+1) f fd ps sp:=by
 obtain⟨oc,od,kV,doc,pm,an,cdv,ct,osl,rfl,lk,hcd⟩:=F.ex;refine Aq lk hcd S len fun A outer s H vs Q E hr hsp=>?_;obtain⟨t,h,q⟩:=hbody cdv A outer s H vs Q E hr hsp;exact⟨t,h.DN,q⟩
theorem vG{x qual:Str}{st:Stmt}{f:Addr}{oc:qAe}{od an:Option Addr}{osl:Array (Option qAe)}{kV doc pm cdv ct:qAe}(l:K.lookup f=some ⟨oc,od,.func (qAx x qual (aY st) (aS st) (aD st) .none kV doc pm an cdv ct),osl⟩)
  (c:qAw K cdv qual=true) (k:qAm K (.ref f)=true):Bx K x qual st f (qAx x qual (aY st) (aS st) (aD st) .none kV doc pm an cdv ct):=⟨⟨oc,od,kV,doc,pm,an,cdv,ct,osl,rfl,l,c⟩,k⟩
end
theorem As(hr:bX k A):A.units+1<qLe:=qCg (Nat.add_le_add_left (by decide:1<=64) _) hr.units
theorem aW(h:n<=1000):n<qAj:=qCg h (by decide)
section
variable {X:Cx}
theorem pv(i:Nat){x:Str}{pos:Pos}(hN:X.N[i]?=some x:=by rfl)(hv:GS X.env.scope x:=by first|exact Or.inl rfl | exact Or.inr cF | exact Or.inr (Or.inr rfl))(hd:(x == ("__debug__":Str))=false:=by decide)
  (hcd:(x == ("__classdict__":Str))=false:=by decide):PE X (.Name x pos) (uM i):=Bb hN hv hd hcd
end
theorem eU{A B:Prop}(h:B):if false=true then A else B:=by
 rw[if_neg qAi];exact h
theorem gL{A B:Prop}(h:A):if true=true then A else B:=by
 rw[if_pos rfl];exact h
theorem fR{c A B:Prop} [Decidable c] (h1:c->A)(h2:¬c->B):if c then A else B:=by
 by_cases h:c
 ·rw[if_pos h];exact h1 h
 ·rw[if_neg h];exact h2 h
def aI(H H':Hp):Prop:=∀b o,H b=some o->H' b=some o
theorem aI.refl(H:Hp):aI H H:=fun _ _ h=>h
theorem aI.trans(a:aI H H1)(b:aI H1 H2):aI H H2:=fun c o h=>b c o (a c o h)
theorem aI.free(e:aI H H'){l:Addr}(h:H' l=qKa):H l=qKa:=by
 cases q:H l with
 | none=>rfl
 | some o =>
  rw[e l o q] at h;cases h
theorem aI.seq{K:qAa}{H H':Hp}{a:Addr}{xs:List V}(e:aI H H')(h:aT K H a xs):aT K H' a xs:=by
 rcases h with (h | ⟨o,h⟩) | h
 ·exact .inl (.inl (e _ _ h))
 ·exact .inl (.inr ⟨o,e _ _ h⟩)
 ·exact .inr h
def lQ(cells:List (Str×Addr)):List (Str×Addr)->Prop
 | []=>True
 | p::r=>cells.lookup p.1=some p.2/\lQ cells r
theorem lQ.of:∀{cl:List (Str×Addr)},lQ cells cl->∀x c,cl.lookup x=some c->cells.lookup x=some c
 | [],_,x,c,h=>by cases h
 | (y,d)::r,hl,x,c,h=>by
  rw[List.lookup_cons] at h;cases hx:x == y with
  | true =>
   rw[hx] at h;have e:x=y:=by simpa using hx
   subst e;cases h;exact hl.1
  | false =>
   rw[hx] at h;exact lQ.of hl.2 x c h
def mS(X:Cx)(NB:List Str)(sc:qHh)(cl:List (Str×Addr))(s₃:qAh)(H₃:Hp)(fp:List Addr):Cx :=
 { X with N:=NB,s₀:=s₃,H₀:=H₃,env:=compEnvC sc cl s₃.heap.objs.size X.env,outer:=X.stack,stack:=X.stack,ex:=fp,fn:=fun _=>false,pn:=[],xe:=fun _ _=>False }
structure DQ (X:Cx) (NB:List Str) (pick:List (Option Nat)) (sc:qHh) (cl:List (Str×Addr)):Prop where
 By:closureFor sc X.env=pure cl
 kind:sc.kind = .function
 pR:∀y∈sc.names,y.2≠.cell
 names:∀y∈sc.names,y.2 = .local->sc.names.lookup y.1=some .local
 sub:lQ X.env.cells cl
 has:∀x,((qJz sc X.env).names.lookup x=some .cell\/(qJz sc X.env).names.lookup x=some .free)->∃c,cl.lookup x=some c
 len:pick.length=NB.length
 got:∀(j i:Nat) (x:Str),pick[j]?=some (some i)->NB[j]?=some x->X.N[i]?=some x/\(X.env.kindOf x=some .cell\/X.env.kindOf x=some .free)/\(qJz sc X.env).names.lookup x=some .cell
def hasB(cl:List (Str×Addr))(L:List (Str×qHp)):Bool:=L.all fun p=>!(p.2 == .cell||p.2 == .free)||(cl.lookup p.1).isSome
theorem yO(h:hasB cl L=true)(x:Str)(hx:L.lookup x=some .cell\/L.lookup x=some .free):∃c,cl.lookup x=some c:=by
 have get:∀k,L.lookup x=some k->(k == NameKind.cell||k == NameKind.free)=true->∃c,cl.lookup x=some c:=fun k hk hb=>by
  have z:=List.all_eq_true.mp h (x,k) (PySem.mem_of_lookup hk);dsimp only at z;rw[hb] at z;exact Option.isSome_iff_exists.mp z
 rcases hx with hx | hx
 ·exact get _ hx rfl
 ·exact get _ hx rfl
def pS(N:List Str)(k1 k2:List (Str×qHp)):List (Option Nat)->List Str->Bool
 | some i::p,x::r=>decide (N[i]?=some x)&&(decide (k1.lookup x=some .cell)||decide (k1.lookup x=some .free))&&decide (k2.lookup x=some .cell)&&pS N k1 k2 p r
 | none::p,_::r=>pS N k1 k2 p r
 | [],[]=>true
 | _,_=>false
theorem j9:∀{p:List (Option Nat)}{r:List Str},pS N k1 k2 p r=true->p.length=r.length
 | [],[],_=>rfl
 | [],_::_,h=>by cases h
 | none::_,[],h=>by cases h
 | some _::_,[],h=>by cases h
 | none::p,_::r,h=>congrArg Nat.succ (j9 (p:=p) (r:=r) h)
 | some i::p,x::r,h=>by
  have h':(decide (N[i]?=some x)&&(decide (k1.lookup x=some .cell)||decide (k1.lookup x=some .free))&&decide (k2.lookup x=some .cell)&&pS N k1 k2 p r)=true:=h
  rw[qAo] at h';exact congrArg Nat.succ (j9 h'.2)
theorem mT:∀{p:List (Option Nat)}{r:List Str},pS N k1 k2 p r=true->∀(j i:Nat) (x:Str),p[j]?=some (some i)->r[j]?=some x ->
  N[i]?=some x/\(k1.lookup x=some .cell\/k1.lookup x=some .free)/\k2.lookup x=some .cell
 | [],_,_,j,i,x,h1,_=>by simp at h1
 | none::_,[],h,_,_,_,_,_=>by cases h
 | some _::_,[],h,_,_,_,_,_=>by cases h
 | none::p,_::r,h,j,i,x,h1,h2=>by
  cases j with
  | zero=>simp at h1
  | succ j=>exact mT (p:=p) (r:=r) h j i x (by simpa using h1) (by simpa using h2)
 | some i'::p,x'::r,h,j,i,x,h1,h2=>by
  have h':(decide (N[i']?=some x')&&(decide (k1.lookup x'=some .cell)||decide (k1.lookup x'=some .free))&&decide (k2.lookup x'=some .cell)&&pS N k1 k2 p r)=true:=h
  rw[qAo,qAo,qAo,qCz] at h';obtain⟨⟨⟨a,b⟩,c⟩,d⟩:=h';cases j with
  | zero =>
   simp at h1 h2;subst h1 h2;exact⟨of_decide_eq_true a,b.elim (fun z=>.inl (of_decide_eq_true z)) fun z=>.inr (of_decide_eq_true z),of_decide_eq_true c⟩
  | succ j=>exact mT d j i x (by simpa using h1) (by simpa using h2)
theorem cO(By:closureFor sc X.env=pure cl)(sub:lQ X.env.cells cl)(kind:sc.kind = .function)(pR:∀y∈sc.names,y.2≠.cell)
  (names:∀y∈sc.names,y.2 = .local->sc.names.lookup y.1=some .local) (has:hasB cl (qJz sc X.env).names=true) (got:pS X.N X.env.scope.names (qJz sc X.env).names pick NB=true):DQ X NB pick sc cl :=
 ⟨By,kind,pR,names,sub,yO has,j9 got,fun j i x h1 h2=>mT got j i x h1 h2⟩
def qY(pick:List (Option Nat))(σ:St):St:=pick.map fun o=>o.bind fun i=>(σ[i]?).join
section
variable {X:Cx}{NB:List Str}{pick:List (Option Nat)}{sc:qHh}{cl:List (Str×Addr)}{pins:List (Addr×Obj)}{σ:St}{H:Hp}{s:qAh}{fp:List Addr}
theorem Bz(I:Inv X pins σ H s)(B:DQ X NB pick sc cl)(hf:∀b∈fp,fK X pins H b)(hex:∀b∈fp,∃o,s.heap.get? b=some o):(mS X NB sc cl s H fp).Ok:=by
 have nfs:∀b∈fp,b∉kT X.stack:=fun b hb z=>by
  rcases List.mem_cons.mp (I.jS b z) with e | e
  ·exact(hf b hb).2.1 e
  ·exact(hf b hb).2.2.1 e
 refine⟨I.ok.mod,B.kind,I.ok.glob,I.ok.blt,qAk _,fun x y c h1 h2=>?_,fun x hx=>B.has x hx,fun x c h _=>(qAi h).elim,I.ok.hd,I.ok.frames,.inl rfl,fun b hb=>⟨?_,fun x c h e=>?_⟩,I.bs,qBf I.ok.xY I.sz,fun b o e hb=>?_,nfs,I.stack,I.mI⟩
 ·exact I.ok.inj x y c (B.sub.of x c h1) (B.sub.of y c h2)
 ·obtain⟨o,ho⟩:=hex b hb;exact qBe (qAs ho)
 ·exact(hf b hb).2.2.2.2.1 x c (B.sub.of x c h) e
 ·rcases(hf b hb).2.2.2.1 with z | z
  ·exact I.ok.uL b o e z
  ·exact absurd (qAl (qAs (I.ok.bs b o e).1) z) (qDp _)
theorem sT(I:Inv X pins σ H s)(B:DQ X NB pick sc cl)(hf:∀b∈fp,fK X pins H b)(hex:∀b∈fp,∃o,s.heap.get? b=some o)
  (hn:h'.Ns s.heap.objs.size (fun _=>none)) (hs:∀b o,s.heap.get? b=some o->h'.get? b=some o) (t:Nat):Inv (mS X NB sc cl s H fp) [] (qY pick σ) H { s with heap:=h',toks:=t }:=by
 refine⟨Bz I B hf hex,rfl,I.bare,Un.kept hs,⟨_,hn,fun j x v h1 h2 h3=>?_⟩,fun x c e=>?_,I.bV.fresh (qAk _),fun x c e=>I.fN x c (B.sub.of x c e),fun p hp=>absurd (show p∈([]:List (Addr×Obj)) from hp) (by simp),I.bV.kept hs,?_⟩
 ·have h2':(pick.map fun o=>o.bind fun i=>(σ[i]?).join)[j]?=some (some v):=h2;rw[qAu] at h2';cases hp:pick[j]? with
  | none=>rw[hp] at h2';cases h2'
  | some o =>
   rw[hp] at h2';cases o with
   | none=>cases h2'
   | some i =>
    have h2'':(σ[i]?).join=some v:=Option.some.inj h2';obtain⟨g1,g2,g3⟩:=B.got j i x hp h1;have hσ:σ[i]?=some (some v):=by
     cases hq:σ[i]? with
     | none=>rw[hq] at h2'';cases h2''
     | some z=>rw[hq] at h2'';have e:z=some v:=h2'';rw[e]
    obtain⟨m,_,hl⟩:=I.loc;obtain⟨u,r,L⟩:=hl i x v g1 hσ (.inr g2);refine⟨u,r,?_⟩;rcases L with ⟨k,_⟩ | ⟨_,c,hc,⟨o,ho,hd⟩⟩
    ·rcases g2 with g2 | g2 <;> rw[k] at g2 <;> cases g2
    ·obtain⟨c',hc'⟩:=B.has x (.inl g3);have e:c'=c:=Option.some.inj ((B.sub.of x c' hc').symm.trans hc);subst e;exact .inr ⟨.inl g3,c',hc',o,hs _ _ ho,hd⟩
 ·obtain⟨v,o,ho,hd⟩:=I.cell x c (B.sub.of x c e);exact⟨v,o,hs _ _ ho,hd⟩
 ·show(qY pick σ).length=NB.length;unfold qY;rw[qAb];exact B.len
theorem yP(I:Inv X pins σ H s)(hf:∀b∈fp,fK X pins H b)(J:Inv (mS X NB sc cl s H fp) [] σ' H' s'):Inv X pins σ H' s':=by
 refine I.call' (ch:=fp) J.os J.base J.bV J.bare fun b hb=>?_;obtain⟨_,f1,_,f3,f4,f5⟩:=hf b hb;exact⟨f3,f1,f4,f5⟩
end
def vH(wi:TI)(pick:List (Option Nat))(g:TG)(c:TT)(te:TE):St->Hp->(Addr->Hp->Prop)->Prop:=fun σ H Q =>
 wi σ H fun J H1=>∀D,H1 D=none->∃W:Nat->Nat->St->Hp->Prop,(∃m,W 0 m (qY pick σ) (upd H1 D (.lst [])))/\∀i m σ1 H2,W i m σ1 H2 ->
  (J.stop i H2/\Q D H2)\/(J.go i H2/\∃N:St->Hp->Prop,(∀σ' H',N σ' H'->∃m',m'<m/\W (i+1) m' σ' H') /\
   ∀x H',J.uR i H2 x H'->g x σ1 H' fun σ2 H3=>c σ2 H3 fun b H4=>if b=true then te σ2 H4 fun y H5=>∃xs,H5 D=some (.lst xs)/\xs.length<qAj/\N σ2 (upd H5 D (.lst (xs++[y]))) else N σ2 H4)
section
variable {prog:qBd}{w:qCb}{A:qCc}{R:qLf->qAh->Prop}{s:qAh}
theorem mU(W:Nat->qAh->Prop)
  (turn:∀n s,W n s->qBj (qBn prog w) A (qKk it) (fun r s₁=>match r with
   | none=>R (.ok .next) s₁
   | some v=>qBj (qBn prog w) A (qGf target it v) (fun _ s₀=>qBj (qBn prog w) A (qIt target env v) (fun _ s₂ =>
     qBj (qBn prog w) A (forIn ifs true fun c r=>if r=true then do let ok <- qLd c env (eval c env);pure (ForInStep.yield ok) else pure (ForInStep.yield r)) (fun ok s₃ =>
      if ok=true then qBj (qBn prog w) A (eval elt env) (fun x s₄ =>
       qBj (qBn prog w) A (call (.builtin "list.append") [acc,x]) (fun _ s₅=>∃m,m<n/\W m s₅) (fun _ _=>False) s₄) (fun _ _=>False) s₃
      else ∃m,m<n/\W m s₃) (fun _ _=>False) s₂) (fun _ _=>False) s₀) (fun _ _=>False) s₁) (fun _ _=>False) s)
  (n:Nat) (h:W n s) :
  qFw (qBn prog w) A (.compLoop (.ListComp elt [⟨target,iter,ifs,0⟩] scope pos) 0 it acc env) R s:=by
 refine codeAny_loop rfl W (fun n s hI=>?_) n h;show qBj _ A ((compTurn (.ListComp elt [⟨target,iter,ifs,0⟩] scope pos) 0 it acc env).onRaise (fun x=>do noteFrame x env;theTreesLotGoes x)) _ _ s;refine wpAny_noted (wpAny_noRaise ?_);rw[compTurn_list];refine qAd (wpAny_standAt (qAd (bI (turn n s hI) fun r s₁ h₁=>?_)));cases r with
 | none=>exact qAr h₁
 | some v =>
  refine qAd (bI h₁ fun _ s₀ h₀=>qAd (bI h₀ fun _ s₂ h₂=>qAd (bI h₂ fun ok s₃ h₃=>?_)));cases ok with
  | false=>exact qAr ⟨rfl,h₃⟩
  | true=>exact qAd (qAd (bI h₃ fun x s₄ h₄=>qAd (bI h₄ fun _ s₅ h₅=>qAr (qAr ⟨rfl,h₅⟩))))
end
def sU(X:Cx)(ifs:List Expr)(c:TT):Prop :=
 ∀(pins:List (Addr×Obj)) (s:qAh) (σ:St) (H:Hp) (Q:Bool->Hp->Prop),Inv X pins σ H s->c σ H Q ->
  qBj (qBn X.prog X.w) X.A (forIn ifs true fun c r=>if r=true then do let ok <- qLd c X.env (eval c X.env);pure (ForInStep.yield ok) else pure (ForInStep.yield r)) (TP X pins σ Q) X.xe s
def Ho:TT:=fun _ H Q=>Q true H
theorem cJ:sU X [] Ho:=fun pins s σ H Q I h=>qAr ⟨H,I,h⟩
theorem mV(hc:PT X e c):sU X [e] c:=fun pins s σ H Q I h=>wpAny_tests_one (hc pins s σ H Q I h)
section
variable {X:Cx}{NB:List Str}{pick:List (Option Nat)}{sc:qHh}{cl:List (Str×Addr)}{elt target iter:Expr}{ifs:List Expr}{pos:Pos}{wi:TI}{g:TG}{c:TT}{te:TE}
theorem oB(B:DQ X NB pick sc cl)(hc:X.calm=true)(hi:PI X target iter wi)
  (hg:∀s₃ H₃ fp,PG (mS X NB sc cl s₃ H₃ fp) target g) (ht:∀s₃ H₃ fp,sU (mS X NB sc cl s₃ H₃ fp) ifs c) (he:∀s₃ H₃ fp,PE (mS X NB sc cl s₃ H₃ fp) elt te)
  (hs:∀x,qFp iter X.env x=pure x) (I:Inv X pins σ H s) (h:vH wi pick g c te σ H Q)
  (fin:∀(D C:Addr) (s':qAh) (H':Hp),Inv X pins σ H' s'->Q D H'->H' C=none->C≠X.env.locals->X.s₀.heap.objs.size<=C->(∀x a,X.env.cells.lookup x=some a->a≠C)->(∀p∈X.pn++pins,p.1≠C)->(∃m,s'.heap.Ns C m) ->
   compPost (qBn X.prog X.w) X.A X.xe use QV (.ref D) C (.ok .next) s') :
  qBj (qBn X.prog X.w) X.A (comprehension (.ListComp elt [⟨target,iter,ifs,0⟩] sc pos) sc X.env (firstIterPos [⟨target,iter,ifs,0⟩] pos) (newList []) false (eval iter X.env) use) QV X.xe s:=by
 refine wpAny_comprehension_free rfl hs B.By B.kind B.names (bI (hi pins s σ H _ I h) fun v s1 h1=>bI h1 fun itv s2 h2=>?_);obtain⟨it,fp,tn,J,H2,e,I2,T,st2,f2,h2⟩:=h2;subst e;refine qEr ?_;have I3:Inv X pins σ (upd H2 s2.heap.objs.size (.lst [])) { s2 with heap:=s2.heap.push { cls:=.type "list",dict:=none,data:=.seq ([]:List qAe).toArray } } :=
  I2.laid (t':=s2.toks) (fun b u e=>qAg _ e) (qAk _) ⟨qBq _,[],0,.nil,qBb _ rfl⟩
 have hf:H2 s2.heap.objs.size=none:=I2.bV.fresh (qAk _);have lt:∀b∈fp,b≠s2.heap.objs.size:=fun b hb=>by
  obtain⟨o,ho,_⟩:=T.obj _ _ st2 b hb;exact qBe (qAs ho)
 have f3:∀b∈fp,fK X pins (upd H2 s2.heap.objs.size (.lst [])) b:=fun b hb=>⟨by rw[aK (lt b hb)];exact(f2 b hb).1,(f2 b hb).2⟩;generalize hs3:({ s2 with heap:=s2.heap.push { cls:=.type "list",dict:=none,data:=.seq ([]:List qAe).toArray } }:qAh)=s3 at I3|-;have kp3:∀b o,s2.heap.get? b=some o->s3.heap.get? b=some o:=fun b o e=>by
  rw[<- hs3];exact qAg _ e
 have hex:∀b∈fp,∃o,s3.heap.get? b=some o:=fun b hb=>by
  obtain⟨o,ho,_⟩:=T.obj _ _ st2 b hb;exact⟨o,kp3 b o ho⟩
 have st3:tn 0 s3.heap:=T.keep _ _ _ st2 fun b _ o e=>kp3 b o e;obtain⟨W,⟨m0,w0⟩,turn⟩:=h2 _ hf;refine wpAny_newFunctionEnv B.pR (by intro y hy;simp at hy) (fun h₁ hns₁ hsb₁=>?_) B.kind;have kp4:∀b o,s3.heap.get? b=some o->h₁.get? b=some o:=fun b o e=>(hsb₁.2 b (qBe (qAs e))).trans (qAg _ e);have J4:=sT I3 B f3 hex hns₁ kp4 (s3.toks+([]:List (Str×qAe)).length);have st4:tn 0 h₁:=T.keep _ _ _ st3 fun b _ o e=>kp4 b o e;have stat:∀{H':Hp},(∀b∈fp,H' b=none)->∀b∈fp,fK (mS X NB sc cl s3 (upd H2 s2.heap.objs.size (.lst [])) fp) [] H' b:=fun {H'} hn b hb=>by
  obtain⟨o,ho⟩:=hex b hb;refine⟨hn b hb,qBe (qAs ho),fun z=>?_,.inl hb,fun x a e=>(f2 b hb).2.2.2.2.1 x a (B.sub.of x a e),fun p hp=>absurd (show p∈([]:List (Addr×Obj)) from hp) (by simp)⟩;rcases List.mem_cons.mp (I2.jS b z) with e | e
  ·exact(f2 b hb).2.1 e
  ·exact(f2 b hb).2.2.1 e
 have loop:qFw (qBn X.prog X.w) X.A (.compLoop (.ListComp elt [⟨target,iter,ifs,0⟩] sc pos) 0 (.ref it) (.ref s2.heap.objs.size) (mS X NB sc cl s3 (upd H2 s2.heap.objs.size (.lst [])) fp).env)
   (compPost (qBn X.prog X.w) X.A X.xe use QV (.ref s2.heap.objs.size) s3.heap.objs.size) { s3 with heap:=h₁,toks:=s3.toks+([]:List (Str×qAe)).length }:=by
  refine mU (fun n s'=>∃i σ' H',Inv (mS X NB sc cl s3 (upd H2 s2.heap.objs.size (.lst [])) fp) [] σ' H' s'/\tn i s'.heap/\(∀b∈fp,H' b=none)/\W i n σ' H') ?_ m0 ⟨0,_,_,J4,st4,fun b hb=>(f3 b hb).1,w0⟩;rintro n s5 ⟨i,σ5,H5,I5,st5,fr5,w5⟩;rcases turn i n σ5 H5 w5 with ⟨stop,qn⟩ | ⟨go,N,hN,step⟩
  ·refine bI (T.done (mS X NB sc cl s3 (upd H2 s2.heap.objs.size (.lst [])) fp) rfl rfl rfl hc i [] s5 σ5 H5 _ I5 (stat fr5) st5 stop) fun r s6 ⟨hr,I6⟩=>?_;subst hr;refine fin s2.heap.objs.size s3.heap.objs.size s6 H5 (yP I3 f3 I6) qn I6.free (qBe I3.lt).symm I3.sz (fun x a e=>?_) (fun p hp=>?_) ?_
   ·obtain⟨v,o,ho,_⟩:=I3.cell x a e;exact qBe (qAs ho)
   ·exact qBe (qAs (I3.pin p hp).1)
   ·obtain⟨m,hn,_⟩:=I6.loc;exact⟨m,hn⟩
  ·refine bI (T.item (mS X NB sc cl s3 (upd H2 s2.heap.objs.size (.lst [])) fp) rfl rfl rfl hc i [] s5 σ5 H5 _ I5 (stat fr5) st5 go) fun r s6 ⟨u,hr,h6⟩=>?_;subst hr;refine bI h6 fun _ s7 ⟨x,H7,I7,r7,y7,st7,fr7⟩=>?_;have I7':=I7.pinned (stat fr7) (T.obj _ _ st7);have again:∀{s9:qAh}{σ9:St}{H9:Hp},Inv (mS X NB sc cl s3 (upd H2 s2.heap.objs.size (.lst [])) fp) ([]++jV fp s7.heap) σ9 H9 s9->N σ9 H9 ->
     ∃m,m<n/\∃i σ' H',Inv (mS X NB sc cl s3 (upd H2 s2.heap.objs.size (.lst [])) fp) [] σ' H' s9/\tn i s9.heap/\(∀b∈fp,H' b=none)/\W i m σ' H':=fun {s9 σ9 H9} I9 n9=>by
    obtain⟨m',hm,w9⟩:=hN σ9 H9 n9;refine⟨m',hm,i+1,σ9,H9,I9.dR,T.keep _ _ _ st7 fun b hb o e=>(I9.pin (b,o) (qAn _ (qAn _ (e7 hb e)))).1,fun b hb=>?_,w9⟩;obtain⟨o,e,d⟩:=T.obj _ _ st7 b hb;exact(I9.pin (b,o) (qAn _ (qAn _ (e7 hb e)))).2.1
   refine bI (hg _ _ _ _ s7 σ5 H7 x u _ I7' r7 (step x H7 y7)) fun _ s8 ⟨σ8,H8,I8,q8⟩=>?_;refine bI (ht _ _ _ _ s8 σ8 H8 _ I8 q8) fun b s9 ⟨H9,I9,q9⟩=>?_;cases b with
   | false =>
    rw[if_neg qAi];exact again I9 (by rw[if_neg qAi] at q9;exact q9)
   | true =>
    rw[if_pos rfl] at q9|-;refine bI (he _ _ _ _ s9 σ8 H9 _ I9 q9) fun y s10 ⟨vy,H10,I10,r10,xs,hD,hl,q10⟩=>?_;refine bI (lO _ s10 σ8 H10 (.ref s2.heap.objs.size) [vy] (.ref s2.heap.objs.size) [y] (fun _ H'=>N σ8 H') I10 rfl (.cons r10 .nil) ⟨_,xs,vy,rfl,rfl,hD,hl,q10⟩) fun _ s11 ⟨_,H11,I11,_,q11⟩=>?_;exact again I11 q11
 refine codeAny_compStart_list loop (T.self _ 0 _ _ _ st4 loop)
theorem cT(B:DQ X NB pick sc cl)(hc:X.calm=true)(hi:PI X target iter wi)
  (hg:∀s₃ H₃ fp,PG (mS X NB sc cl s₃ H₃ fp) target g) (ht:∀s₃ H₃ fp,sU (mS X NB sc cl s₃ H₃ fp) ifs c) (he:∀s₃ H₃ fp,PE (mS X NB sc cl s₃ H₃ fp) elt te)
  (hs:∀x,qFp iter X.env x=pure x:=by intro _;rfl):PE X (.ListComp elt [⟨target,iter,ifs,0⟩] sc pos) (fun σ H Q=>vH wi pick g c te σ H fun D H'=>Q (.ref D) H'):=by
 intro pins s σ H Q I h;rw[eval_ListComp];refine oB (use:=none) (QV:=EP X pins σ Q) B hc hi hg ht he hs I h fun D C s' H' I' q c0 c1 c2 c3 c4 hn=>?_;obtain⟨m,hm⟩:=hn;exact⟨m,hm,fun hh hsb=>⟨.ref D,H',I'.turned (t':=s'.toks) (fun b o hb e=>(hsb.2 b hb).trans e) c0 c1 (.inr c2) c3 c4,rfl,q⟩⟩
theorem jO(hN:X.N.Nodup)(hx1:X.N[i]?=some x)(hx2:Loc X.env.scope x)
  (hsw:qIa (.ListComp elt [⟨target,iter,ifs,0⟩] sc pos) (some (.Name x pos')) spos.line X.env=pure true) (B:DQ X NB pick sc cl) (hc:X.calm=true) (hi:PI X target iter wi)
  (hg:∀s₃ H₃ fp,PG (mS X NB sc cl s₃ H₃ fp) target g) (ht:∀s₃ H₃ fp,sU (mS X NB sc cl s₃ H₃ fp) ifs c) (he:∀s₃ H₃ fp,PE (mS X NB sc cl s₃ H₃ fp) elt te)
  (hs:∀x,qFp iter X.env x=pure x:=by intro _;rfl) (hfn:X.fn x=true\/X.env.scope.names.lookup x=some .local:=by first|exact .inl rfl | exact .inr rfl | assumption) :
  PS X (.Assign [.Name x pos'] (.ListComp elt [⟨target,iter,ifs,0⟩] sc pos) spos) (fun D σ H=>vH wi pick g c te σ H fun l H'=>D.nx (σ.set i (some (.ref l))) H'):=by
 intro pins s σ H D I h;rw[exec_Assign_Name_used _ _ _ _ hsw];refine qAd (wpAny_standAt (qAd ?_));show qBj _ _ (do let _ <- comprehension (.ListComp elt [⟨target,iter,ifs,0⟩] sc pos) sc X.env _ (newList []) false (eval iter X.env) (some (qIt (.Name x pos') X.env))) _ _ s;refine qAd (bI (oB (use:=some (qIt (.Name x pos') X.env)) (QV:=fun _ s'=>SP X pins D .next s') B hc hi hg ht he hs I h fun l C s' H' I' q c0 c1 c2 c3 c4 hn=>?_) fun _ s' hq=>qAr (qAr hq));obtain⟨m,hm⟩:=hn;show qBj _ _ (qIt (.Name x pos') X.env (.ref l)) _ _ _;refine wpAny_assign_Name (lG (v:=.ref l) I' hN hx1 hx2 rfl (fun s'' I'' ⟨a,hsb,ha⟩=>?_) hfn);have ne:C≠a:=by
  rcases ha with e | e
  ·rw[e];exact c1
  ·exact(c3 x a e).symm
 refine⟨m,hm.sameBut hsb ne,fun hh hsb2=>?_⟩;exact⟨_,H',I''.turned (t':=s''.toks) (fun b o hb e=>(hsb2.2 b hb).trans e) c0 c1 (.inr c2) c3 c4,q⟩
end
structure ET (P:qBd) (w:qCb) (outer:List Env) (H:Hp) (s:qAh) (e C:Addr) (H':Hp) (s':qAh):Prop where
 os:s'.os=s.os
 bare:qGh s'.gens
 ex:∃(a0:qAe) (B:Heap),Heap.FlyingW B outer e (.ref C) a0 s'.heap/\gQ P w H' B/\(∀b o,s.heap.get? b=some o->b∉kT outer->∃o',B.get? b=some o') /\
  ∀b o,s.heap.get? b=some o->H b=none->b∉kT outer->B.get? b=some o
 slot:∀b o,s.heap.get? b=some o->H b=none->b∈kT outer->∃sl,s'.heap.get? b=some { o with slots:=sl }
 free:∀b o,s.heap.get? b=some o->H b=none->H' b=none
 fM:∀b xs,H b=some (.tup xs)->H' b=some (.tup xs)
 gZ:∀b o u,H b=some (.frz o u)->H' b=some (.frz o u)
 iL:∀b ps,H b=some (.tbl ps)->∃more,H' b=some (.tbl (ps++more))
def fT(P:qBd)(w:qCb):qS:=fun outer H s E ev s'=>∃(e C:Addr) (H':Hp),ev = .ref e/\ET P w outer H s e C H' s'/\E (.ref C) none H'
section
variable {X:Cx}{pins:List (Addr×Obj)}{σ:St}{H H':Hp}{s s':qAh}{e C:Addr}
end
structure Own (X:Cx):Prop where
 st:X.stack=X.env::X.outer
 fr:X.env.frame=some X.env.locals
 ex:X.ex=[]
section
variable {X:Cx}{pins:List (Addr×Obj)}{σ:St}{H H':Hp}{s s':qAh}{e C:Addr}{Q:Unit->qAh->Prop}{E:qAe->qAh->Prop}{M:Model}
theorem Own.sub(O:Own X){b:Addr}(h:b∈X.fs):b∈kT X.stack:=by
 rw[O.st];unfold kT;rw[qCl,O.fr];exact qBa _ h
theorem Own.not(O:Own X)(I:Inv X pins σ H s){b:Addr}{o:Obj}(q:X.s₀.heap.get? b=some o)(h:b∉X.fs):b∉kT X.stack:=fun z=>by
 rcases List.mem_cons.mp (I.jS b z) with r | r
 ·exact absurd (qAl (qAs q) I.ok.above) (by rw[r];exact qDp _)
 ·exact h r
theorem Own.vI(O:Own X)(b:Addr):b∉X.ex:=by
 rw[O.ex];simp
theorem oC(O:Own X)(I:Inv X pins σ H s)(hx:qJx s.heap h' e (.ref C) vs)
  (k:∀h'',ET X.prog X.w X.outer X.H₀ X.s₀ e C H { s with heap:=h'' }->Q () { s with heap:=h'' }):qBj M X.A (leaving X.env (.ref e)) Q E { s with heap:=h' }:=by
 have hst:=I.stack;have hfr:=I.ok.frames;rw[O.st] at hst hfr;have hin:∀env∈(X.env::X.outer),∀b,env.frame=some b->b∈kT X.stack:=fun env he b hb=>by
  rw[O.st];exact List.mem_filterMap.mpr ⟨env,he,hb⟩
 have get:∀{b:Addr}{o:Obj},s.heap.get? b=some o->b∉kT X.stack->(qGq s.heap (kT X.stack)).get? b=some o:=fun q hb=>qHr _ q hb;refine wpAny_leaves_madeW (base:=qGq s.heap (kT X.stack)) (h:=s.heap) (s:={ s with heap:=h' }) hfr O.fr (fun b o q=>qIe _ q) (PySem.W.funFrames_hide hst hin) hx fun h'' t x1 _ _ x4=>k h'' ⟨I.os,I.bare,⟨_,_,x1,fun a o q=>?_,fun b o q hb=>?_,fun b o q n hb=>?_⟩,fun b o q n hb=>?_,fun b o q n=>I.base.free b o q n (O.vI b),I.base.fM,I.base.gZ,I.base.iL⟩
 ·refine(I.bV a o q).jH (fun b u hb z=>get z fun hm=>?_) (fun _ z=>z) fun _ _ z=>z;have hn:=I.mI b hm;rcases hb with rfl | hb
  ·rw[hn] at q;cases q
  ·rw[hn] at hb;cases hb
 ·obtain⟨o',z⟩:=I.base.there b o q (O.vI b);exact⟨o',get z (O.not I q hb)⟩
 ·exact get (I.base.keep b o q n hb (O.vI b)) (O.not I q hb)
 ·obtain⟨sl,z⟩:=I.base.slot b o q n hb (O.vI b);obtain⟨_,o',ho',hnf⟩:=I.ok.gR.mem hb;rw[q] at ho';cases ho';obtain⟨sl',z'⟩:=x4 b _ (hx.keeps b _ z) hnf;exact⟨sl',z'⟩
theorem sV(O:Own X)(I:Inv X pins σ H s)(F:ET X.prog X.w X.stack H s e C H' s')
  (k:∀h'',ET X.prog X.w X.outer X.H₀ X.s₀ e C H' { s' with heap:=h'' }->Q () { s' with heap:=h'' }):qBj M X.A (leaving X.env (.ref e)) Q E s':=by
 obtain⟨a0,B,fl,bV,th,kp⟩:=F.ex;have hfr:=I.ok.frames;rw[O.st] at fl hfr;refine wpAny_leaves_onW hfr O.fr fl fun h'' x1 x2=>k h'' ⟨F.os.trans I.os,F.bare,⟨a0,B,x1,bV,fun b o q hb=>?_,fun b o q n hb=>?_⟩,fun b o q n hb=>?_,fun b o q n=>?_,fun b xs q=>F.fM b xs (I.base.fM b xs q),fun b o u q=>F.gZ b o u (I.base.gZ b o u q),fun b ps q=>?_⟩
 ·obtain⟨o',z⟩:=I.base.there b o q (O.vI b);exact th b o' z (O.not I q hb)
 ·exact kp b o (I.base.keep b o q n hb (O.vI b)) (I.base.free b o q n (O.vI b)) (O.not I q hb)
 ·obtain⟨sl,z⟩:=I.base.slot b o q n hb (O.vI b);obtain⟨sl',z'⟩:=F.slot b _ z (I.base.free b o q n (O.vI b)) (O.sub hb);obtain⟨_,o',ho',hnf⟩:=I.ok.gR.mem hb;rw[q] at ho';cases ho';obtain⟨sl2,z2⟩:=x2 b _ z' hnf;exact⟨sl2,z2⟩
 ·obtain⟨o',z⟩:=I.base.there b o q (O.vI b);exact F.free b o' z (I.base.free b o q n (O.vI b))
 ·obtain⟨m1,e1⟩:=I.base.iL b ps q;obtain⟨m2,e2⟩:=F.iL b _ e1;exact⟨m1++m2,by rw[e2,qIr]⟩
end
abbrev XS:=qAe->St->Hp->Prop
structure Pass (X:Cx) (Ex:XS):Prop where
 on:∀(pins:List (Addr×Obj)) (σ:St) (H:Hp) (s:qAh) (e C:Addr) (H':Hp) (s':qAh),Inv X pins σ H s->ET X.prog X.w X.stack H s e C H' s'->Ex (.ref C) σ H'->X.xe (.ref e) s'
structure EU (X:Cx) (Ex:XS):Prop extends Pass X Ex where
 nw:∀(pins:List (Addr×Obj)) (σ:St) (H:Hp) (s:qAh) (e C:Addr) (h':Heap) (vs:List qAe),Inv X pins σ H s->qJx s.heap h' e (.ref C) vs->Ex (.ref C) σ H->X.xe (.ref e) { s with heap:=h' }
 own:PassesOwn (qBn X.prog X.w) X.A X.env X.xe
theorem aP{P:qBd}{w:qCb}{K:qAa}{mg:Str->Option qAe}{base:Heap}{N:List Str}{qual:Str}{scope:qHh}{f:Addr}{cd:qAe}{A:qCc}{outer:List Env}{s:qAh}{H:Hp}{E:XK}:
  EU (jI (fT P w) P w K mg base N qual scope f cd A outer s H E) (fun c _ H'=>E c none H') where
 on:=fun pins σ H1 s1 e C H' s' I F q=>sV ⟨rfl,rfl,rfl⟩ I F fun h'' F'=>⟨e,C,H',rfl,F',q⟩
 nw:=fun pins σ H1 s1 e C h' vs I hx q=>oC ⟨rfl,rfl,rfl⟩ I hx fun h'' F'=>⟨e,C,H1,rfl,F',q⟩
 own:=PassesOwn.leaving
section
variable {P:qBd}{w:qCb}{K:qAa}{mg:Str->Option qAe}{base:Heap}
theorem Bx.yQ{x qual:Str}{st:Stmt}{f:Addr}{fd:qAz}{N ps:List Str}{k:Nat}{sp:Sp}(F:Bx K x qual st f fd)(S:aL N ps (aD st))(len:∀vs H Q E,sp vs H Q E->vs.length=ps.length)
  (hbody:∀(cdv:qAe) (A:qCc) (outer:List Env) (s:qAh) (H:Hp) (vs:List V) (Q:VK) (E:XK),bX k (A.deeper (qGa qual (aD st) s.heap.objs.size f cdv))->sp vs H Q E ->
   ∃t,mK (jI (fT P w) P w K mg base N qual (aD st) f cdv A outer s H E) (aS st) t/\t { nx:=fun _ H'=>Q .non H',rt:=Q } (start N vs) H):eJ P w K mg base (fT P w) (k+1) f fd ps sp:=by
 obtain⟨oc,od,kV,doc,pm,an,cdv,ct,osl,rfl,lk,hcd⟩:=F.ex;exact Aq lk hcd S len fun A outer s H vs Q E hr hsp=>hbody cdv A outer s H vs Q E hr hsp
end
def pT(sp:Sp)(dvs:List V)(Ex:XS)(t:TA):TE:=fun σ H Q=>t σ H fun vs H1=>sp (vs++dvs) H1 Q fun c _ H'=>Ex c σ H'
section
variable {X:Cx}{Ex:XS}{k:Nat}{f C:Addr}{fd:qAz}{ps:List Str}{sp:Sp}{dvs:List V}{ds:List qAe}{x m:Str}{p pos apos:Pos}{e o:Expr}{es:List Expr}{ta:TE}{t:TA}
theorem jP(R:Pass X Ex)(F:eJ X.prog X.w X.K X.mg X.base (fT X.prog X.w) k f fd ps sp)(hr:bX k X.A)(hb:Binds X.K fd ps ds)(hd:Vals dvs ds)
  (I:Inv X pins σ H s) (r:Vals vs us) (h:sp (vs++dvs) H Q fun c _ H'=>Ex c σ H'):qBj (qBn X.prog X.w) X.A (call (.ref f) us) (EP X pins σ Q) X.xe s:=by
 have r2:Vals (vs++dvs) (us++ds):=r.append hd;have hl:(us++ds).length=ps.length:=by rw[<- r2.length];exact F.len _ _ _ _ h
 refine qGk (qEv (F.run X.A X.stack s H ⟨us,[]⟩ (us++ds) (vs++dvs) Q _ hr I.yE (hb s us I.kU hl) r2 h) fun r s' hq=>?_);cases r with
 | error ev =>
  obtain⟨e,C,H',rfl,Fl,q⟩:=hq;exact R.on pins σ H s e C H' s' I Fl q
 | ok fl =>
  cases fl with
  | ret u=>exact I.after hq
  | next=>exact False.elim hq
  | brk=>exact False.elim hq
  | cont=>exact False.elim hq
theorem vJ(R:Pass X Ex)(F:eJ X.prog X.w X.K X.mg X.base (fT X.prog X.w) k f fd ps sp)(hr:bX k X.A)(hg:Gl X x)(hm:X.mg x=some (.ref f))(hk:qAm X.K (.ref f)=true)(hb:Binds X.K fd ps ds)(hd:Vals dvs ds)
  (ha:PA X (e::es) t) (hdb:(x == ("__debug__":Str))=false:=by decide) (he:qBg (e::es) X.env=(false,eval e X.env)::qBg es X.env:=by rfl) (hpl:(qEi pos (qBg es X.env)).any (·.1)=false:=by rfl) :
  PE X (.Call (.Name x p) (e::es) [] pos) (pT sp dvs Ex t):=by
 intro pins s σ H Q I h;refine qDo (g7 I hg hm ?_ hdb);refine qDx (h₀:=X.base) I.ok.mod.Al hk (bI (ha pos pins s σ H _ I h) fun us s1 ⟨vs,H1,I1,r,q⟩=>⟨I1.kU,?_⟩) he hpl;exact jP R F hr hb hd I1 r q
end
abbrev BA:List qAe:=[.type "ValueError",.type "Exception",.type "BaseException",.type "object"]
structure kA (K:qAa) (C:Addr):Prop where
 cls:(qHd K C).isSome=true
 ty:qFq K (.ref C)=some (.type "type")
 ga:qAc K (.ref C) "__getattribute__"=some (some (.builtin "BaseException.__getattribute__"))
 gx:qAc K (.ref C) "__getattr__"=some none
 ca:qAc K (.ref C) "__class__"=some (some (.builtin "object.__class__"))
 cg:qCu K (.builtin "object.__class__") "__get__"=some (some (.builtin "getset_descriptor.__get__"))
 ct:qDw K (.builtin "object.__class__")=some true
 mo:qBt K C (.type "object")=some true
 mb:qBt K C (.type "BaseException")=some true
theorem yR{K:qAa}{h:Heap}{C:Addr}{bmB:List qAe}{newId:String}(X:K.In h)(q:qDh K C bmB newId=true):
  ∃bm N nm q bs hdct sn sub ab col dd k0 k1 k2 k3 k5 mN,h.get? C=some (excClassObj nm q C N bs bm hdct sn sub ab col dd k0 k1 k2 k3 k5 newId)/\h.Ns N mN/\mN "__init__"=none/\OwnTail h bmB bm:=by
 unfold qDh at q;split at q
 ·rename_i dd cd sl ho;split at q
  ·rename_i C' bm k0 k1 k2 k3 n k5 hm hs;rw[qAo,qAo,qAo,qAo,qAo] at q;obtain⟨⟨⟨⟨⟨q1,q2⟩,q3⟩,ht⟩,bV⟩,hni⟩:=q;obtain rfl:=beq_iff_eq.mp q1;obtain rfl:=beq_iff_eq.mp q2;have hdel:cd.hasDel=false:=by
    cases z:cd.hasDel with
    | false=>rfl
    | true=>rw[z] at q3;cases q3
   have hni':=beq_iff_eq.mp hni;obtain⟨nm,bs,mro,ns,qn,hd,sn,sub,ab,col,del⟩:=cd;dsimp only at hm hdel bV hni';subst hm hdel;obtain⟨l⟩:=sl;dsimp only at hs;subst hs;exact⟨bm,ns,nm,qn,bs,hd,sn,sub,ab,col,dd,k0,k1,k2,k3,k5,_,X _ _ ho,.of_isNs (PySem.W.isNs_of_in X bV),PySem.W.nsMap_none_of_in X bV hni',PySem.W.tail_of_in X ht⟩
  ·cases q
 ·cases q
def BB(C:Addr)(Ex:XS)(t:TA):TS:=fun _ σ H=>t σ H fun vs H1=>vs.length<=qAj/\Ex (.ref C) σ H1
section
variable {X:Cx}{Ex:XS}{x:Str}{C:Addr}{e₀:Expr}{rest:List Expr}{np cpos pos:Pos}{t:TA}
theorem c5(R:EU X Ex)(hc:X.calm=true)(hg:Gl X x)(hm:X.mg x=some (.ref C))(q:qDh X.K C BA "ValueError.__new__"=true)(ha:PA X (e₀::rest) t)
  (he:qBg (e₀::rest) X.env=(false,eval e₀ X.env)::qBg rest X.env:=by rfl) (hplain:(qEi cpos (qBg rest X.env)).any (·.1)=false:=by rfl) (hd:(x == ("__debug__":Str))=false:=by decide) :
  PS X (.Raise (some (.Call (.Name x np) (e₀::rest) [] cpos)) none pos) (BB C Ex t):=by
 intro pins s σ H D I h;obtain⟨tl,N,nm,qn,bs,hdct,sn,sub,ab,col,dd,k0,k1,k2,k3,k5,mN,hC,hN,hni,T⟩:=yR I.mod.Al q;have FB:=PySem.F.excBase_ValueError;refine wpAny_Raise_call_subT (C:=C) (nm:=nm) (q:=qn) (N:=N) (bs:=bs) (bm:=tl) (hdct:=hdct) (sn:=sn) (sub:=sub) (ab:=ab) (col:=col) (dd:=dd) (k0:=k0) (k1:=k1) (k2:=k2) (k3:=k3) (k5:=k5)
  FB (mN:=mN) (T.hasType FB.hasBase) (I.ok.hd hc) (by rw[he];show(false||(qEi cpos (qBg rest X.env)).any (·.1))=false;rw[hplain];rfl) hni (g7 I hg hm ⟨rfl,?_⟩ hd)
 have hs:=ha cpos pins s σ H _ I h;rw[he] at hs|-;refine qIg (bI hs fun us s2 ⟨vs,H2,I2,r,z,q2⟩=>?_);have kb:∀b o,X.base.get? b=some o->s2.heap.get? b=some o:=I2.bk;exact⟨rfl,by show us.length<=qAj;rw[<- r.length];exact z,kb _ _ hC,hN.keeps kb,T.keeps kb,fun h' e hx=>R.nw pins σ H2 s2 e C h' us I2 hx q2⟩
end
def Hq(e C:Addr):HO:=.ext fun h=>∃oe,h.get? e=some oe/\oe.cls = .ref C
section
variable {X:Cx}{pins:List (Addr×Obj)}{σ:St}{H H':Hp}{s s':qAh}{e C:Addr}
theorem Inv.EV(I:Inv X pins σ H s)(hn:H e=none)(h0:X.s₀.heap.get? e=none)(hL:e≠X.env.locals)(hc:∀x c,X.env.cells.lookup x=some c->c≠e)(hp:∀p∈X.pn++pins,p.1≠e)(hfs:e∉X.fs)
  (new:bY X.prog X.w (upd H e o) s.heap e o):Inv X pins σ (upd H e o) s:=by
 have ne:∀b u,H b=some u->b≠e:=fun b u q=>aO q hn;refine⟨I.ok,I.os,I.bare,⟨I.base.keep,I.base.slot,fun b ob q n hx=>?_,I.base.there,fun b xs q=>?_,fun b ob u q=>?_,fun b ps q=>?_⟩,I.loc,I.cell,?_,fun x c q=>?_,fun p q=>?_,fun b u q=>?_,I.len⟩
 ·rw[aK (fun z=>by rw[z,h0] at q;cases q)];exact I.base.free b ob q n hx
 ·have z:=I.base.fM b xs q;rw[aK (ne _ _ z)];exact z
 ·have z:=I.base.gZ b ob u q;rw[aK (ne _ _ z)];exact z
 ·obtain⟨m,z⟩:=I.base.iL b ps q;exact⟨m,by rw[aK (ne _ _ z)];exact z⟩
 ·rw[aK hL.symm];exact I.free
 ·rw[aK (hc x c q)];exact I.fN x c q
 ·obtain⟨z1,z2,z3⟩:=I.pin p q;exact⟨z1,by rw[aK (hp p q)];exact z2,z3⟩
 ·by_cases hb:b=e
  ·subst hb;rw[aB] at q;cases q;exact new
  ·rw[aK hb] at q;exact(I.bV b u q).jH (fun c v _ z=>z) (fun c z=>by rw[aK (ne _ _ z)];exact z) fun c xs z=>by rw[aK (ne _ _ z)];exact z
end
section
variable {X:Cx}{pins:List (Addr×Obj)}{σ:St}{H H':Hp}{s s':qAh}{e C:Addr}{Ex:XS}
end
section
open Builtin Builtin.ObjectAttr Builtin.Getset_descriptor
theorem vK{K:qAa}{M:Model}{h:Heap}{e C:Addr}{name:Str}{a g:qAe}(X:K.In h)(h1:qAc K (.ref C) name=some (some a))(h2:qCu K a "__get__"=some (some g))(h3:qDw K a=some true):
  qDy M h (find (.ref e) (.ref C) name) (.bind g a):=by
 have L1:=qEl (M:=M) X h1;have L2:qDy M h (getOf (some a)) (some g):=PySem.W.looks_specialIn X h2;have L3:=PySem.W.looks_takesIn (M:=M) X h3;exact L1.andThen (L2.andThen ((show qDy M h (dataDescriptor? (some a) (some g)) (some (g,a)) from L3.andThen .now).andThen (PySem.W.Looks.tag .now)))
theorem kZ{prog:qBd}{w:qCb}{A:qCc}{s:qAh}{K:qAa}{x C:Addr}{R:qLf->qAh->Prop}{tp:qAe}(X:K.In s.heap)(I:∀M,qDy M s.heap (qLc (.ref x)) (.ref C))
  (hm:qBt K C (.type "object")=some true) (h:R (.ok (.ret (.ref C))) s):qFw (qBn prog w) A (.call (.builtin "getset_descriptor.__get__") ⟨[.builtin "object.__class__",.ref x,tp],[]⟩) R s:=by
 obtain⟨hh,g,dr,t,os⟩:=s;have L0:=I (qBn prog w);have L1:=qHq (M:=qBn prog w) X hm;refine codeAny_call_builtin PySem.W.KF.slot_gs.plain PySem.W.KF.entry_gs (PySem.W.KF.slot_gs.check _ _ _ _ _ _ _ _ PySem.W.KF.type_class (PySem.W.KF.args_gs _ _ _) ?_);unfold Builtin.«getset_descriptor.__get__» descrGet;rw[PySem.W.dga_obj];refine qAd (qAr ?_);unfold descrGetter descrCheckInstance descrNameAndClass isInstance;simp only[PySem.W.KF.owner_class];repeat lk
 refine⟨Code.quiet_builtin _ (by decide +kernel),qGg PySem.W.KF.entry_class ?_⟩;unfold Builtin.«object.__class__» shownTypeOf;repeat lk
 exact h
end
theorem mW{M:Model}{A:qCc}{E:qAe->qAh->Prop}{s:qAh}{K:qAa}{x C:Addr}{nameV:qAe}{Q:Unit->qAh->Prop}(X:K.In s.heap)(I:qDy M s.heap (qLc (.ref x)) (.ref C))
  (hm:qBt K C (.type "BaseException")=some true) (hq:Q () s):qBj M A (checkBuiltinCall "BaseException.__getattribute__" ⟨[.ref x,nameV],[]⟩) Q E s:=by
 have hk:builtinKind "BaseException.__getattribute__"=some .slot:=by decide +kernel
 have hsplit:splitId "BaseException.__getattribute__"=some ("BaseException","__getattribute__"):=by decide +kernel
 have L1:=qHq (M:=M) X hm;have L2:qDy M s.heap (isInstance (.ref x) (.type "BaseException")) true:=I.andThen L1;have ha:=F.args_bexc_ga (.ref x) nameV;obtain⟨hh,g,dr,t,os⟩:=s;simp only[checkBuiltinCall,hk,hsplit];refine qAd (L2.at ?_);repeat (first | assumption | wp_step)
section
open Builtin Builtin.ObjectAttr Builtin.Getset_descriptor
theorem BC{prog:qBd}{w:qCb}{A:qCc}{E:qAe->qAh->Prop}{s:qAh}{K:qAa}{x C:Addr}{Q:Option qAe->qAh->Prop}(X:K.In s.heap)(c:kA K C)(I:∀M,qDy M s.heap (qLc (.ref x)) (.ref C))
  (h:Q (some (.ref C)) { s with toks:=s.toks+1 }):qBj (qBn prog w) A (getAttr? (.ref x) "__class__") Q E s:=by
 obtain⟨hh,g,d,t,os⟩:=s;have L0:=I (qBn prog w);have L1:=qEl (M:=qBn prog w) X c.ga;have L2:=qEl (M:=qBn prog w) X c.gx;have L3:=vK (M:=qBn prog w) (e:=x) X c.ca c.cg c.ct;have hx2:(Value.builtin "BaseException.__getattribute__" == Value.builtin "object.__getattribute__")=false:=by decide +kernel
 have f3:=F.excAttr_ValueError.ga.bind (.ref x);unfold getAttr? getAttrBy? getAttrBy;refine qAd (wpAny_mkText (qAd (wpAny_attempt (qCn (qAd (L0.at (qAd (L1.at ?_))))))));dsimp only;rw[if_neg (by rw[hx2,qDm];exact qAi)];unfold getAttrByItsOwn hookBefore;rw[if_pos (show onTheHeap (Value.ref C)=true from rfl)];refine qAd (L2.at ?_);refine qAd (wpAny_attempt (qCn ?_));unfold callGetattribute;rw[if_neg (by decide)];unfold boundAndCalled;refine qAd (qHx f3 ?_);refine qGk (codeAny_call_builtin F.excAttr_ValueError.ga.plain F.entry_bexc_ga (mW X L0 c.mb ?_));show qBj _ _ (Builtin.«object.__getattribute__» ⟨[.ref x,.str "__class__" t],[]⟩) _ _ _;unfold Builtin.«object.__getattribute__»;refine qAd (qHx (a:=(Value.ref x,[Value.str "__class__" t])) rfl ?_);refine qAd (qHx (a:=("__class__":Str)) rfl ?_);refine qAd (L0.at (qAd (L3.at ?_)));show qBj _ _ (qFv [Value.builtin "object.__class__"] (call (.builtin "getset_descriptor.__get__") [.builtin "object.__class__",.ref x,.ref C]) >>= ret) _ _ _;refine qAd (qCn (qGk (kZ (s:=⟨hh,g,d,t+1,os⟩) X I c.mo ?_)));show qBj _ _ (ret (Value.ref C)) _ _ _;refine qAr ?_;show qBj _ _ (handedOut (Value.ref C)) _ _ _;exact PySem.W.handed_on rfl (qAr h)
end
inductive EW (K:qAa) (H:Hp):V->qAe->Prop where
 | of {v:V}{t:qAe} (h:gK K H v t):EW K H v t
 | exc {e C:Addr} (h:H e=some (Hq e C)) (c:kA K C):EW K H (.ref e) (.ref C)
theorem vL{K:qAa}{e C:Addr}(c:kA K C):qJp K (.ref e) (.ref C) (fun h=>∃oe,h.get? e=some oe/\oe.cls = .ref C) where
 ty:=fun M h _ ⟨oe,h1,h2⟩=>h2▸(PySem.W.Looks.ld h1).andThen .now
 it:=fun _ _ X _=>by
  have z:=c.cls;unfold qHd at z;split at z
  ·rename_i c' d' cd' sl' ho;intro A' Q' E' s' k q;unfold isType loadHead;exact qAd (wpAny_loadPart (k _ _ (X _ _ ho)) (qAr q))
  ·cases z
 ne:=fun h tp dd its n sl X htp=>by
  refine Bool.eq_false_iff.mpr fun q=>?_;have e:C=tp:=Value.ref.inj (beq_iff_eq.mp q);subst e;have z:=c.cls;unfold qHd at z;split at z
  ·rename_i c' d' cd' sl' ho;have z:=(X _ _ ho).symm.trans htp;cases z
  ·cases z
 ca:=fun X ⟨oe,h1,h2⟩ k=>BC X c (fun M=>h2▸(PySem.W.Looks.ld h1).andThen .now) k
section
variable {X:Cx}{pins:List (Addr×Obj)}{σ:St}{H:Hp}{s:qAh}
theorem EW.II{x:V}{u t:qAe}(I:Inv X pins σ H s)(rx:RelV x u)(ty:EW X.K H x t):∃φ:Heap->Prop,qJp X.K u t φ/\φ s.heap/\u≠.builtin "__main__.__loader__#opaque":=by
 cases ty with
 | exc h c =>
  rename_i e C;cases (show u=Value.ref e from rx);obtain⟨z,_⟩:=I.bV e _ h;exact⟨_,vL c,z,fun z=>nomatch z⟩
 | of ty =>
  cases ty with
  | non=>cases (show u=Value.none from rx);exact⟨_,PySem.W.kitx_none,True.intro,fun z=>nomatch z⟩
  | bl y=>cases (show u=Value.bool y from rx);exact⟨_,PySem.W.kitx_bool,True.intro,fun z=>nomatch z⟩
  | int i=>obtain⟨t,q⟩:=(show ∃t,u=Value.int i t from rx);cases q;exact⟨_,PySem.W.kitx_int,True.intro,fun z=>nomatch z⟩
  | str y=>obtain⟨t,q⟩:=(show ∃t,u=Value.str y t from rx);cases q;exact⟨_,PySem.W.kitx_str,True.intro,fun z=>nomatch z⟩
  | flt y=>obtain⟨t,q⟩:=(show ∃t,u=Value.float y t from rx);cases q;exact⟨_,PySem.W.kitx_float,True.intro,fun z=>nomatch z⟩
  | @lst a xs ea =>
   cases (show u=Value.ref a from rx)
   obtain⟨_,_,n,_,h1⟩:=(show bY X.prog X.w H s.heap a (.lst xs) from I.bV a _ ea);exact⟨_,qIh,⟨_,h1,rfl⟩,fun z=>nomatch z⟩
  | @frz a ob xs ea =>
   cases (show u=Value.ref a from rx)
   obtain⟨_,_,_,n,_,h1⟩:=(show bY X.prog X.w H s.heap a (.frz ob (.lst xs)) from I.bV a _ ea);exact⟨_,qIh,⟨_,h1,rfl⟩,fun z=>nomatch z⟩
  | @tup a xs ea =>
   cases (show u=Value.ref a from rx)
   obtain⟨_,_,_,p⟩:=(show bY X.prog X.w H s.heap a (.tup xs) from I.bV a _ ea);obtain⟨o,h1,h2,_⟩:=p;exact⟨_,PySem.W.kitx_tuple,⟨o,h1,h2⟩,fun z=>nomatch z⟩
  | @dK a kvs ea =>
   cases (show u=Value.ref a from rx)
   obtain⟨_,_,vs,_,p⟩:=(show bY X.prog X.w H s.heap a (.dK kvs) from I.bV a _ ea);obtain⟨o,es,ep,h1,h2,_⟩:=p;exact⟨_,qIi,⟨o,h1,h2.1⟩,fun z=>nomatch z⟩
  | @dT a kvs ea =>
   cases (show u=Value.ref a from rx)
   obtain⟨_,_,xs,_,o,es,ep,h1,h2,_⟩:=(show bY X.prog X.w H s.heap a (.dT kvs) from I.bV a _ ea);exact⟨_,qIi,⟨o,h1,h2.1⟩,fun z=>nomatch z⟩
  | @ins a C dx fs ea cl ha hn htk hm =>
   cases (show u=Value.ref a from rx)
   obtain⟨mA,O,_⟩:=jM I.bV ea;obtain⟨od,J,_⟩:=O.look;exact⟨_,PySem.W.kitx_own (cl.get _) cl.hd ha hn htk hm,J,fun z=>nomatch z⟩
def EX:V->Option qAe
 | .ty n=>some (.type n)
 | .ref a=>some (.ref a)
 | _=>none
theorem vM(h:EX c=some cv)(r:RelV c u):u=cv:=by
 cases c <;> first | (cases h;exact r) | cases h
theorem fU:eR X (.builtin "isinstance") (fun xs H Q=>∃v c t cv b,xs=[v,c]/\EX c=some cv/\EW X.K H v t/\qCe X.K t cv=some b/\Q (.bl b) H):=by
 intro pins s σ H xs us Q I r h;obtain⟨v,c,t,cv,b,rfl,hc,ty,hk,q⟩:=h;obtain⟨u,cu,rfl,ru,rc⟩:=vals2 r;obtain rfl:=vM hc rc;obtain⟨φ,Z,p,ne⟩:=ty.II I ru;exact PySem.W.kia_one Z I.kU p hk ne fun tk=>⟨.bl b,H,I.tok tk,rfl,q⟩
end
section
variable {X:Cx}
theorem vN(K:qAa)(h:X.K=K:=by rfl):DP X (EL K):=h▸bE
theorem yS(K:qAa)(h:X.K=K:=by rfl):DP X (EM K):=h▸bG
end
section
variable {X:Cx}
def EY(K:qAa):R2:=fun x y H Q=>∃l b xs zs,x = .ref l/\y = .ref b/\aT K H l xs/\aT K H b zs/\xs.length+zs.length<=qAj/\∀p,H p=none->Q (.ref p) (upd H p (.lst (xs++zs)))
theorem cD:gX X (qEk .Add) (EY X.K):=by
 intro pins s σ H x y v u Q I rx ry h;obtain⟨l,b,xs,zs,rfl,rfl,hH,hB,hz,q⟩:=h;cases rx;cases ry;obtain⟨its,r,pl,hl⟩:=I.list hH;obtain⟨its2,r2,pl2,hl2⟩:=I.list hB;obtain⟨⟨cls,dd,data,sl⟩,n,ho,hc,_,hd⟩:=pl;obtain⟨⟨cls2,dd2,data2,sl2⟩,n2,ho2,hc2,_,hd2⟩:=pl2;dsimp only at hc hd hc2 hd2;subst hc hd hc2 hd2;have ea:its.toArray++its2.toArray=(its++its2).toArray:=by simp
 refine concat_meets ⟨_,ho,rfl⟩ ⟨_,ho2,rfl⟩ noFill_list_add seq_list_add PySem.F.slot_list_add PySem.F.entry_list_add (PySem.F.args_list_add_2 _ _) (list_addW l b its.toArray its2.toArray n n2 dd dd2 sl sl2 (by rw[qAp,qAp,<- r.length,<- r2.length];exact hz)) ⟨ho,ho2,?_⟩;rw[ea];exact⟨.ref _,_,I.Hn (t':=s.toks) (r.append r2) (by rw[qBi];exact hz),rfl,q _ I.fresh⟩
theorem Inv.big(I:Inv X pins σ H s):qEs<s.heap.objs.size:=by
 have h:qAv<s.heap.objs.size:=(I.mod.glob.keeps I.bk).lt;exact qKy (by decide) h
end
structure Tx (K:qAa) (mg:Str->Option qAe) (x:Str) (st:Stmt) (ps:List Str) (f:Addr) (fd:qAz):Prop where
 fn:Bx K x x st f fd
 at_:mg x=some (.ref f)
 bd:∀us:List qAe,us.length=ps.length->qJd fd ⟨us,[]⟩=pure (ps.zip us)
theorem bW{K:qAa}{mg:Str->Option qAe}{h:Heap}{x:Str}{st:Stmt}{ps:List Str}{f:Addr}{oc:qAe}{od an:Option Addr}{osl:Array (Option qAe)}{kV doc pm cdv ct:qAe}(X:K.In h)(G:h.Ns qAv mg)
  (a:qBc K qAv x=some (some (.ref f))) (l:K.lookup f=some ⟨oc,od,.func (qAx x x (aY st) (aS st) (aD st) .none kV doc pm an cdv ct),osl⟩)
  (c:qAw K cdv x=true) (k:qAm K (.ref f)=true)
  (hb:∀(kV doc pm:qAe) (an:Option Addr) (cdv ct:qAe) (us:List qAe),us.length=ps.length->qJd (qAx x x (aY st) (aS st) (aD st) .none kV doc pm an cdv ct) ⟨us,[]⟩=pure (ps.zip us)) :
  ∃f fd,Tx K mg x st ps f fd:=⟨f,_,vG l c k,qCa X G a,hb kV doc pm an cdv ct⟩
structure Df (P:qBd) (w:qCb) (K:qAa) (mg:Str->Option qAe) (base:Heap) (CX:qS) (k:Nat) (x:Str) (ps:List Str) (sp:Sp) (f:Addr) (fd:qAz):Prop where
 at_:mg x=some (.ref f)
 kp:qAm K (.ref f)=true
 ok:eJ P w K mg base CX k f fd ps sp
 bd:Binds K fd ps []
section
variable {P:qBd}{w:qCb}{K:qAa}{mg:Str->Option qAe}{base:Heap}{x:Str}{st:Stmt}{ps N:List Str}{f:Addr}{fd:qAz}{k:Nat}{sp:Sp}
theorem Tx.lR(t:Tx K mg x st ps f fd)(S:aL N ps (aD st))(len:∀vs H Q E,sp vs H Q E->vs.length=ps.length)
  (hbody:∀(cdv:qAe) (A:qCc) (outer:List Env) (s:qAh) (H:Hp) (vs:List V) (Q:VK) (E:XK),bX k (A.deeper (qGa x (aD st) s.heap.objs.size f cdv))->sp vs H Q E ->
   ∃t,mK (jI cI P w K mg base N x (aD st) f cdv A outer s H E).DN (aS st) t/\t { nx:=fun _ H'=>Q .non H',rt:=Q } (start N vs) H):Df P w K mg base cI (k+1) x ps sp f fd :=
 ⟨t.at_,t.fn.kp,t.fn.ok S len hbody,.all t.bd⟩
theorem Tx.Au(t:Tx K mg x st ps f fd)(S:aL N ps (aD st))(len:∀vs H Q E,sp vs H Q E->vs.length=ps.length)
  (hbody:∀(cdv:qAe) (A:qCc) (outer:List Env) (s:qAh) (H:Hp) (vs:List V) (Q:VK) (E:XK),bX k (A.deeper (qGa x (aD st) s.heap.objs.size f cdv))->sp vs H Q E ->
   ∃t,mK (jI (fT P w) P w K mg base N x (aD st) f cdv A outer s H E) (aS st) t/\t { nx:=fun _ H'=>Q .non H',rt:=Q } (start N vs) H):Df P w K mg base (fT P w) (k+1) x ps sp f fd :=
 ⟨t.at_,t.fn.kp,t.fn.yQ S len hbody,.all t.bd⟩
end
section
variable {X:Cx}{Ex:XS}{k j:Nat}{f:Addr}{fd:qAz}{ps:List Str}{sp:Sp}{x:Str}{p pos:Pos}{e:Expr}{es:List Expr}{t:TA}
theorem bA(D:Df X.prog X.w X.K X.mg X.base cI k x ps sp f fd)(hr:bX j X.A)(hj:k<=j)(hg:Gl X x)(ha:PA X (e::es) t)(hdb:(x == ("__debug__":Str))=false:=by decide)(he:qBg (e::es) X.env=(false,eval e X.env)::qBg es X.env:=by rfl)(hpl:(qEi pos (qBg es X.env)).any (·.1)=false:=by rfl):
  PE X (.Call (.Name x p) (e::es) [] pos) (Ap sp [] E0 t):=yF D.ok (hr.mono hj) hg D.at_ D.kp D.bd .nil ES ha hdb he hpl
theorem dU(R:Pass X Ex)(D:Df X.prog X.w X.K X.mg X.base (fT X.prog X.w) k x ps sp f fd)(hr:bX j X.A)(hj:k<=j)(hg:Gl X x)(ha:PA X (e::es) t)(hdb:(x == ("__debug__":Str))=false:=by decide)(he:qBg (e::es) X.env=(false,eval e X.env)::qBg es X.env:=by rfl)(hpl:(qEi pos (qBg es X.env)).any (·.1)=false:=by rfl):
  PE X (.Call (.Name x p) (e::es) [] pos) (pT sp [] Ex t):=vJ R D.ok (hr.mono hj) hg D.at_ D.kp D.bd .nil ha hdb he hpl
end
theorem cU:Pass X (fun _ _ _=>False):=⟨fun _ _ _ _ _ _ _ _ _ _ q=>q.elim⟩
theorem oE{n:Nat}{σ0:St}{H1:Hp}{i0:Nat}{c:TT}{te:TE}{Q:Addr->Hp->Prop}(f:Nat->Option V)(hn:n<=qAj)
  (step:∀(i:Nat) (H2:Hp) (k:VK) (k0:Hp->Prop),i<n->(∀y,f i=some y->k y H2)->(f i=none->k0 H2) ->
   c (σ0.set i0 (some (.int (0+(i:Int))))) H2 fun b H4=>if b=true then te (σ0.set i0 (some (.int (0+(i:Int))))) H4 k else k0 H4)
  (h:∀D,H1 D=none->Q D (upd H1 D (.lst ((qAq n).filterMap f)))) :
  ∀D,H1 D=none->∃W:Nat->Nat->St->Hp->Prop,(∃m,W 0 m σ0 (upd H1 D (.lst [])))/\∀i m σ1 H2,W i m σ1 H2 ->
   ((xS 0 n).stop i H2/\Q D H2)\/((xS 0 n).go i H2/\∃N:St->Hp->Prop,(∀σ' H',N σ' H'->∃m',m'<m/\W (i+1) m' σ' H') /\
    ∀x H',(xS 0 n).uR i H2 x H'->bQ i0 x σ1 H' fun σ2 H3=>c σ2 H3 fun b H4=>if b=true then te σ2 H4 fun y H5=>∃xs,H5 D=some (.lst xs)/\xs.length<qAj/\N σ2 (upd H5 D (.lst (xs++[y]))) else N σ2 H4):=by
 intro D hD;refine⟨fun i m σ1 H2=>σ1.set i0 none=σ0.set i0 none/\H2=upd H1 D (.lst ((qAq i).filterMap f))/\i<=n/\m=n-i,⟨n,rfl,rfl,qBq _,rfl⟩,?_⟩;rintro i m σ1 H2 ⟨hσ,rfl,hi,rfl⟩;have hset:∀v:Option V,σ1.set i0 v=σ0.set i0 v:=fun v=>by
  have z:=congrArg (fun l=>qKc l i0 v) hσ;simpa using z
 rcases qBo i n with hlt | hge
 ·right
  refine⟨hlt,fun σ' H'=>σ'.set i0 none=σ0.set i0 none/\H'=upd H1 D (.lst ((qAq (i+1)).filterMap f)),fun σ' H' ⟨a,b⟩=>⟨n-(i+1),by lia,a,b,hlt,rfl⟩,?_⟩;rintro x H' ⟨rfl,rfl⟩;show c (σ1.set i0 (some (.int (0+(i:Int))))) _ _;rw[hset];refine step i _ _ _ hlt (fun y hy=>⟨_,aB,?_,?_,?_⟩) fun hno=>⟨?_,?_⟩
  ·refine qCg (qDz _ _) ?_;rw[qCy];lia
  ·simp
  ·rw[xV,qCp,qCm];simp[hy]
  ·simp
  ·rw[qCp,qCm];simp[hno]
 ·left
  obtain rfl:i=n:=qEe hi hge;exact⟨qAk _,h D hD⟩
theorem BD(h0:0<=i)(h1:i<xs.length):∃v,jN xs i=some v/\v∈xs:=by
 have hn:i.toNat<xs.length:=by lia
 refine⟨xs[i.toNat],?_,qEo hn⟩;have z:=bU (xs:=xs) (j:=i.toNat) (qAf hn);rw[qEy h0] at z;exact z
theorem aI.aJ(h:H p=none):aI H (upd H p o):=fun b u e=>by
 rw[aK (aO e h)];exact e
theorem aI.ty{K:qAa}{H H':Hp}{v:V}{t:qAe}(s:aI H H')(h:gK K H v t):gK K H' v t:=by
 cases h with
 | non=>exact .non
 | bl x=>exact .bl x
 | int i=>exact .int i
 | str x=>exact .str x
 | flt x=>exact .flt x
 | lst e=>exact .lst (s _ _ e)
 | frz e=>exact .frz (s _ _ e)
 | tup e=>exact .tup (s _ _ e)
 | dK e=>exact .dK (s _ _ e)
 | dT e=>exact .dT (s _ _ e)
 | ins e cl ha hn htk hm=>exact .ins (s _ _ e) cl ha hn htk hm
theorem kB:qBv "isinstance"=some (.builtin "isinstance"):=by decide +kernel
theorem BE:qBv "int"=some (.type "int"):=by decide +kernel
theorem yT:qBv "bool"=some (.type "bool"):=by decide +kernel
theorem dQ:qBv "list"=some (.type "list"):=by decide +kernel
theorem vO:qBv "tuple"=some (.type "tuple"):=by decide +kernel
theorem dP:qBv "len"=some (.builtin "len"):=by decide +kernel
theorem pU:qBv "abs"=some (.builtin "abs"):=by decide +kernel
theorem BF{K:qAa}{C:Addr}(h2:qFq K (.ref C)=some (.type "type"))(h3:qAc K (.ref C) "__getattribute__"=some (some (.builtin "BaseException.__getattribute__")))(h4:qAc K (.ref C) "__getattr__"=some none)
  (h5:qAc K (.ref C) "__class__"=some (some (.builtin "object.__class__"))) (h6:qCu K (.builtin "object.__class__") "__get__"=some (some (.builtin "getset_descriptor.__get__"))) (h7:qDw K (.builtin "object.__class__")=some true)
  (h8:qBt K C (.type "object")=some true) (h9:qBt K C (.type "BaseException")=some true):kA K C:=by
 refine⟨?_,h2,h3,h4,h5,h6,h7,h8,h9⟩;unfold qBt at h8;obtain⟨cd,a,_⟩:=Option.bind_eq_some_iff.mp h8;rw[a];rfl
inductive Kd:String->Prop where
 | non:Kd "NoneType"
 | bl:Kd "bool"
 | int:Kd "int"
 | str:Kd "str"
 | tup:Kd "tuple"
 | lst:Kd "list"
 | dic:Kd "dict"
theorem Kd.Hr(K:qAa){T:String}(h:Kd T):qCe K (.type T) (.type "int")=some (T == "int" || T == "bool"):=by
 cases h <;> rfl
theorem Kd.EZ(K:qAa){T:String}(h:Kd T):qCe K (.type T) (.type "bool")=some (T == "bool"):=by
 cases h <;> rfl
theorem Kd.Fb(K:qAa){T:String}(h:Kd T):qCe K (.type T) (.type "list")=some (T == "list"):=by
 cases h <;> rfl
theorem Kd.BG(K:qAa){T:String}(h:Kd T):qCe K (.type T) (.type "tuple")=some (T == "tuple"):=by
 cases h <;> rfl
def gU:V->Bool
 | .int _=>true
 | _=>false
structure Pl (K:qAa) (H:Hp) (v:V):Prop where
 ex:∃T,gK K H v (.type T)/\Kd T
theorem Pl.int{K:qAa}{H:Hp}(i:Int):Pl K H (.int i):=⟨_,.int i,.int⟩
theorem Pl.gU{K:qAa}{H:Hp}{v:V}{T:String}(h:gK K H v (.type T)):gU v=(T == "int"):=by
 cases h <;> rfl
theorem Pl.same{K:qAa}{H H':Hp}{v:V}(h:Pl K H v)(s:aI H H'):Pl K H' v:=let ⟨T,a,b⟩:=h.ex;⟨T,s.ty a,b⟩
def kC(lo hi:Int):V->Bool
 | .int i=>decide (lo<=i)&&decide (i<=hi)
 | _=>false
section
variable {X:Cx}{pins:List (Addr×Obj)}{σ:St}{H H':Hp}{s:qAh}{h':Heap}
theorem Inv.qZ{t':Nat}{fp:List Addr}(I:Inv X pins σ H s)(k:∀b o,b∉fp->s.heap.get? b=some o->h'.get? b=some o)(hf:∀b∈fp,fK X pins H b):Inv X pins σ H { s with heap:=h',toks:=t' }:=by
 have nit:∀b u,H b=some u->b∉fp:=fun b u e z=>by rw[(hf b z).1] at e;cases e
 refine I.step (g':=s.gens) (d':=s.drawn) (ch:=fp) (fun b hb=>?_) (fun b o _ _ hc e _=>k b o hc e) (fun b o _ _ hc e _=>⟨o.slots,k b o hc e⟩) (fun _ _ _ _ n=>n)
  (fun b o hc e=>⟨o,k b o hc e⟩) (fun _ _ e=>e) (fun _ _ _ e=>e) (fun b ps e=>⟨#[],by rw[e];simp⟩) (fun m hm=>?_) (fun b u e=>?_) I.bare
 ·obtain⟨_,f1,_,f3,f4,f5⟩:=hf b hb;exact⟨f3,f1,f4,f5⟩
 ·obtain⟨o,es,ep,ho,r⟩:=hm;exact⟨o,es,ep,k _ o (fun z=>(hf _ z).2.1 rfl) ho,r⟩
 ·refine(I.bV b u e).jH (fun c v hc q=>k c v ?_ q) (fun _ q=>q) fun _ _ q=>q;rcases hc with z | z
  ·rw[z];exact nit b u e
  ·exact nit c _ z
end
@[reducible] def Iu (A:qCc):qCc:={ A with handled:=none }
section
variable {X:Cx}{k j:Nat}{f:Addr}{fd:qAz}{ps:List Str}{sp:Sp}{x:Str}{p pos:Pos}{e:Expr}{es:List Expr}{t:TA}
end
end L2
namespace L2
open PySem PySem.Spec PyProof.Rows PySem.W PySem.Calls
end L2
namespace PySem.SeqAt
open AutoSeq1 (wpAny_loadPart')
open MeetsSeq MeetsSeq2 MeetsSeq3 SeqRoads2
theorem jK(f:Nat->β->Sem (ForInStep β))(I:Nat->β->qAh->Prop)(Q:β->qAh->Prop)(n:Nat)
  (turn:∀i b s,i<n->I i b s->qBj M A (f i b) (fun r s'=>match r with | .yield b'=>I (i+1) b' s' | .done b'=>Q b' s') E s)
  (fin:∀b s,I n b s->Q b s) (b:β) (h:I 0 b s):qBj M A (forIn [0:n] b f) Q E s:=by
 rw[Std.Legacy.Range.forIn_eq_forIn_range'];refine wpAny_forIn_list f (fun rest b s=>∃i,i<=n/\rest=List.range' i (n-i)/\I i b s) Q ?_ ?_ _ b ⟨0,qBq _,?_,h⟩
 ·rintro x rest b s ⟨i,hi,hr,hI⟩;have hlt:i<n:=by
   rcases qBo i n with z | z
   ·exact z
   ·rw[show n-i=0 by lia] at hr;cases hr
  obtain⟨k,hk⟩:∃k,n-i=k+1:=⟨n-i-1,by lia⟩;rw[hk,qJl] at hr;obtain⟨rfl,rfl⟩:=List.cons.inj hr;refine qFo (turn x b s hlt hI) (fun r s' hr=>?_) fun _ _ z=>z;cases r with
  | done b'=>exact hr
  | yield b'=>exact⟨x+1,hlt,by rw[show n-(x+1)=k by lia],hr⟩
 ·rintro b s ⟨i,hi,hr,hI⟩;have:i=n:=by
   rcases qBo i n with z | z
   ·obtain⟨k,hk⟩:∃k,n-i=k+1:=⟨n-i-1,by lia⟩;rw[hk,qJl] at hr;cases hr
   ·lia
  subst this;exact fin _ _ hI
 ·simp[Std.Legacy.Range.size]
theorem k7(l:Addr)(items:Array qAe)(n:Nat)(dd:Option Addr)(sl:Array (Option qAe))(x:qAe)(e:qAe->Bool)(j:Nat)(hj:j<items.size)
  (hit:e items[j]=true) (hno:∀m (hm:m<items.size),m<j->e items[m]=false) :
  Meets (Builtin.«tuple.index» ⟨[.ref l,x],[]⟩)
   (fun A R s=>s.heap.get? l=some { cls:=.type "tuple",dict:=dd,data:=.seq items n,slots:=sl }/\(∀y,y∈items->EqAt A.in1 s y x (e y))/\R (.ok (.ret (.int (j:Nat) s.toks))) { s with toks:=s.toks+1 }) :=
 .of_wp fun prog w A R s h=>by
  obtain⟨hp,g,d,tk,os⟩:=s;obtain⟨hl,he,h⟩:=h;wp_walk using wpAny_loadPart' hl,jK _ (fun i b s'=>b.1=none/\s'=⟨hp,g,d,tk,os⟩/\i<=j) _ _
  case turn =>
   rintro i b s' hi ⟨hb,rfl,hij⟩;have hi':i<items.size:=by lia
   rw[Array.getElem?_eq_getElem hi'];refine qAd (he _ (Array.getElem_mem hi') prog w _ _ ?_);rcases qBo i j with z | z
   ·rw[hno i hi' z];wp_walk;exact⟨rfl,rfl,z⟩
   ·obtain rfl:i=j:=by lia
    rw[hit];wp_walk;exact⟨_,rfl,h⟩
  case fin =>
   rintro⟨b1,b2⟩ s' ⟨hb,rfl,hij⟩;lia
  case h =>
   exact⟨rfl,rfl,qBq _⟩
end PySem.SeqAt
namespace L2
open PySem PySem.Spec PyProof.Rows
theorem aI.GL{K:qAa}{H H':Hp}{a:Addr}{xs:List V}(e:aI H H')(h:dE K H a xs):dE K H' a xs:=by
 rcases h with (h | ⟨o,h⟩) | h
 ·exact .inl (.inl (e _ _ h))
 ·exact .inl (.inr ⟨o,e _ _ h⟩)
 ·exact .inr h
theorem aI.upd_ne'(s:aI H H')(h:H D=none):aI H (upd H' D o):=fun b u e=>by
 rw[aK (aO e h)];exact s b u e
theorem mX(F:α->β):∀xs:List α,((qAq xs.length).filterMap fun i=>(xs[i]?).bind fun x=>some (F x))=xs.map F
 | []=>rfl
 | x::r=>by
  rw[qBu,qHs,qCl,qBx];show F x::_=F x::r.map F;rw[<- mX F r];rfl
theorem c8(f:α->Option β):∀xs:List α,((qAq xs.length).filterMap fun i=>(xs[i]?).bind f)=xs.filterMap f
 | []=>rfl
 | x::r=>by
  rw[qBu,qHs,qCl,qBx,qCl,<- c8 f r];rfl
theorem Pl.hX{K:qAa}{H:Hp}{x C dx C' dx':Addr}{fs fs':List (Str×V)}{v:V}(h:Pl K H v)(hx:H x=some (.ins C dx fs)):Pl K (upd H x (.ins C' dx' fs')) v:=by
 obtain⟨T,ty,kd⟩:=h.ex;refine⟨T,?_,kd⟩;have at_:∀b o,H b=some o->(∀C dx fs,o≠.ins C dx fs)->upd H x (.ins C' dx' fs') b=some o:=fun b o e n=>by
  rw[aK]
  ·exact e
  ·rintro rfl;rw[hx] at e;exact n _ _ _ (Option.some.inj e).symm
 cases ty with
 | non=>exact .non
 | bl x=>exact .bl x
 | int i=>exact .int i
 | str x=>exact .str x
 | flt x=>exact .flt x
 | lst e=>exact .lst (at_ _ _ e (by intro _ _ _ z;cases z))
 | frz e=>exact .frz (at_ _ _ e (by intro _ _ _ z;cases z))
 | tup e=>exact .tup (at_ _ _ e (by intro _ _ _ z;cases z))
 | dK e=>exact .dK (at_ _ _ e (by intro _ _ _ z;cases z))
 | dT e=>exact .dT (at_ _ _ e (by intro _ _ _ z;cases z))
def SameBut(x:Addr)(H H':Hp):Prop:=∀b o,b≠x->H b=some o->H' b=some o
theorem aI.but(s:aI H H')(x:Addr):SameBut x H H':=fun b o _ e=>s b o e
theorem SameBut.then(a:SameBut x H H1)(b:aI H1 H2):SameBut x H H2:=fun c o n e=>b c o (a c o n e)
theorem SameBut.fV(a:SameBut x H H1)(u:HO):SameBut x H (upd H1 x u):=fun c o n e=>by rw[aK n];exact a c o n e
theorem SameBut.made(hx:H x=none)(hd:H dx=none)(ne:dx≠x)(s:SameBut x (upd (upd H dx (.own x)) x (.ins C dx [])) H'):aI H H':=fun b o e=>by
 have n1:b≠x:=aO e hx;have n2:b≠dx:=aO e hd;exact s b o n1 (by rw[aK n1,aK n2];exact e)
theorem eJ.up{P:qBd}{w:qCb}{K:qAa}{mg:Str->Option qAe}{base:Heap}{k:Nat}{f:Addr}{fd:qAz}{ps:List Str}{sp:Sp}(F:eJ P w K mg base cI k f fd ps sp):eJ P w K mg base (fT P w) k f fd ps sp :=
 ⟨F.len,fun A outer s H args us vs Q E hr he hb hv hs=>qEv (F.run A outer s H args us vs Q E hr he hb hv hs) fun r s' h=>by
  cases r with
  | error e=>exact False.elim h
  | ok fl=>cases fl <;> exact h⟩
structure Mx (K:qAa) (x qual:Str) (st:Stmt) (ps:List Str) (f:Addr) (fd:qAz):Prop where
 fn:Bx K x qual st f fd
 bd:∀us:List qAe,us.length=ps.length->qJd fd ⟨us,[]⟩=pure (ps.zip us)
theorem cE{K:qAa}{x qual:Str}{st:Stmt}{ps:List Str}{f:Addr}{oc:qAe}{od an:Option Addr}{osl:Array (Option qAe)}{kV doc pm cdv ct:qAe}
  (l:K.lookup f=some ⟨oc,od,.func (qAx x qual (aY st) (aS st) (aD st) .none kV doc pm an cdv ct),osl⟩)
  (c:qAw K cdv qual=true) (k:qAm K (.ref f)=true)
  (hb:∀(kV doc pm:qAe) (an:Option Addr) (cdv ct:qAe) (us:List qAe),us.length=ps.length->qJd (qAx x qual (aY st) (aS st) (aD st) .none kV doc pm an cdv ct) ⟨us,[]⟩=pure (ps.zip us)) :
  ∃fd,Mx K x qual st ps f fd:=⟨_,vG l c k,hb kV doc pm an cdv ct⟩
structure Md (P:qBd) (w:qCb) (K:qAa) (mg:Str->Option qAe) (base:Heap) (k:Nat) (ps:List Str) (sp:Sp) (f:Addr):Prop where
 ex:∃fd,eJ P w K mg base (fT P w) k f fd ps sp/\Binds K fd ps []
section
variable {P:qBd}{w:qCb}{K:qAa}{mg:Str->Option qAe}{base:Heap}{x qual:Str}{st:Stmt}{ps N:List Str}{f:Addr}{fd:qAz}{k j:Nat}{sp sp':Sp}
theorem Mx.pV(t:Mx K x qual st ps f fd)(S:aL N ps (aD st))(len:∀vs H Q E,sp vs H Q E->vs.length=ps.length)
  (hbody:∀(cdv:qAe) (A:qCc) (outer:List Env) (s:qAh) (H:Hp) (vs:List V) (Q:VK) (E:XK),bX k (A.deeper (qGa qual (aD st) s.heap.objs.size f cdv))->sp vs H Q E ->
   ∃t,mK (jI cI P w K mg base N qual (aD st) f cdv A outer s H E).DN (aS st) t/\t { nx:=fun _ H'=>Q .non H',rt:=Q } (start N vs) H):Md P w K mg base (k+1) ps sp f :=
 ⟨fd,(t.fn.ok S len hbody).up,.all t.bd⟩
theorem Mx.Av(t:Mx K x qual st ps f fd)(S:aL N ps (aD st))(len:∀vs H Q E,sp vs H Q E->vs.length=ps.length)
  (hbody:∀(cdv:qAe) (A:qCc) (outer:List Env) (s:qAh) (H:Hp) (vs:List V) (Q:VK) (E:XK),bX k (A.deeper (qGa qual (aD st) s.heap.objs.size f cdv))->sp vs H Q E ->
   ∃t,mK (jI (fT P w) P w K mg base N qual (aD st) f cdv A outer s H E) (aS st) t/\t { nx:=fun _ H'=>Q .non H',rt:=Q } (start N vs) H):Md P w K mg base (k+1) ps sp f :=
 ⟨fd,t.fn.yQ S len hbody,.all t.bd⟩
theorem Md.up(M:Md P w K mg base k ps sp f)(h:k<=j):Md P w K mg base j ps sp f:=let ⟨fd,F,b⟩:=M.ex;⟨fd,⟨F.len,fun A outer s H args us vs Q E hr he hb hv hs=>F.run A outer s H args us vs Q E (hr.mono h) he hb hv hs⟩,b⟩
theorem Md.imp(M:Md P w K mg base k ps sp f)(h:∀vs H Q E,sp' vs H Q E->sp vs H Q E):Md P w K mg base k ps sp' f:=let ⟨fd,F,b⟩:=M.ex;⟨fd,F.imp h,b⟩
end
structure Aw (K:qAa) (C:Addr) (m:Str) (f:Addr):Prop where
 ga:qCu K (.ref C) "__getattribute__"=some (some (.builtin "type.__getattribute__"))
 rd:qIv K C (.type "type")=true
 at_:qIw K (.ref C) (.type "type") m=some (.val (.ref f))
 kp:qAm K (.ref f)=true
section
variable {X:Cx}{Ex:XS}{k j:Nat}{f C:Addr}{ps:List Str}{sp:Sp}{x m:Str}{p pos apos:Pos}{e o:Expr}{es:List Expr}{ta:TE}{t:TA}
theorem lS(R:Pass X Ex)(hg:Gl X x)(hm:X.mg x=some (.ref C))(M:Aw X.K C m f)(F:Md X.prog X.w X.K X.mg X.base k ps sp f)(hr:bX j X.A)(hj:k<=j)(ha:PA X (e::es) t)
  (hdb:(x == ("__debug__":Str))=false:=by decide)
  (hst:qBg (e::es) X.env=(false,eval e X.env)::qBg es X.env:=by rfl) (hpl:(qEi pos (qBg es X.env)).any (·.1)=false:=by rfl)
  (ht:eval (.Call (.Attribute (.Name x p) m apos) (e::es) [] pos) X.env=(do
   let ov <- eval (.Name x p) X.env
   qJy apos.atName
   let (f,first) <- qFv [ov] (qIc ov m pl)
   callWith pos f first (qEi pos (qBg (e::es) X.env)) (qKl pos (qIb [] X.env))):=by rfl) :
  PE X (.Call (.Attribute (.Name x p) m apos) (e::es) [] pos) (pT sp [] Ex t):=by
 intro pins s σ H Q I h;obtain⟨fd,F,hb⟩:=F.ex;refine qFi (pl:=pl) (bI (bL (v:=.ref C) hg hm rfl hdb pins s σ H (fun v H'=>v = .ref C/\H'=H) I ⟨rfl,rfl⟩) fun u s1 ⟨x,H1,I1,rx,ex,eH⟩=>?_) ht;subst ex eH;obtain rfl:u=Value.ref C:=rx;refine PySem.W.method_cls I1.kU M.ga (PySem.W.cls_value I1.kU M.rd M.at_ rfl ?_);refine qDx (first:=[]) (h₀:=X.base) I.ok.mod.Al M.kp (bI (ha pos pins _ σ _ _ (I1.tok _) h) fun us s2 ⟨vs,H2,I2,r,q2⟩=>⟨I2.kU,?_⟩) hst hpl;exact jP R F (hr.mono hj) hb .nil I2 r q2
def vP(K:qAa)(MO:Addr->Sp->Prop)(m:Str)(Ex:XS)(ta:TE)(t:TA):TE:=fun σ H Q=>ta σ H fun x H1=>∃a C dx fs g sp,x = .ref a/\H1 a=some (.ins C dx fs)/\fs.lookup m=none/\uI K C/\Meth K C m g/\MO g sp /\
 t σ H1 fun vs H2=>sp (x::vs) H2 Q fun c _ H'=>Ex c σ H'
theorem kD(R:Pass X Ex)(he:PE X o ta)(hr:bX j X.A)(hj:k<=j)(ha:PA X (e::es) t)
  (hst:qBg (e::es) X.env=(false,eval e X.env)::qBg es X.env:=by rfl) (hpl:(qEi pos (qBg es X.env)).any (·.1)=false:=by rfl)
  (ht:eval (.Call (.Attribute o m apos) (e::es) [] pos) X.env=(do
   let ov <- eval o X.env
   qJy apos.atName
   let (f,first) <- qFv [ov] (qIc ov m pl)
   callWith pos f first (qEi pos (qBg (e::es) X.env)) (qKl pos (qIb [] X.env))):=by rfl) :
  PE X (.Call (.Attribute o m apos) (e::es) [] pos) (vP X.K (fun g sp=>∃ps,Md X.prog X.w X.K X.mg X.base k ps sp g) m Ex ta t):=by
 intro pins s σ H Q I h;refine qFi (pl:=pl) (bI (he pins s σ H _ I h) fun u s1 ⟨x,H1,I1,rx,a,C,dx,fs,g,sp,ex,ea,l,c,hm,⟨ps,F⟩,q⟩=>?_) ht;subst ex;obtain rfl:u=Value.ref a:=rx;obtain⟨fd,F,hb⟩:=F.ex;refine jZ I1 ea c hm l ?_;refine qDx (first:=[.ref a]) (h₀:=X.base) I.ok.mod.Al hm.kp (bI (ha pos pins s1 σ H1 _ I1 q) fun us s2 ⟨vs,H2,I2,r,q2⟩=>⟨I2.kU,?_⟩) hst hpl;exact jP (us:=.ref a::us) (vs:=.ref a::vs) R F (hr.mono hj) hb .nil I2 (.cons rfl r) (by rw[qBm];exact q2)
theorem sW(R:Pass X Ex)(he:PE X o ta)(hr:bX j X.A)(hj:k<=j)
  (ht:eval (.Call (.Attribute o m apos) [] [] pos) X.env=(do
   let ov <- eval o X.env
   qJy apos.atName
   let (f,first) <- qFv [ov] (qIc ov m pl)
   callWith pos f first (qEi pos (qBg [] X.env)) (qKl pos (qIb [] X.env))):=by rfl) :
  PE X (.Call (.Attribute o m apos) [] [] pos) (vP X.K (fun g sp=>∃ps,Md X.prog X.w X.K X.mg X.base k ps sp g) m Ex ta EG):=by
 intro pins s σ H Q I h;refine qFi (pl:=pl) (bI (he pins s σ H _ I h) fun u s1 ⟨x,H1,I1,rx,a,C,dx,fs,g,sp,ex,ea,l,c,hm,⟨ps,F⟩,q⟩=>?_) ht;subst ex;obtain rfl:u=Value.ref a:=rx;obtain⟨fd,F,hb⟩:=F.ex;refine jZ I1 ea c hm l ?_;exact PySem.W.callWith_K0 (first:=[.ref a]) I1.kU hm.kp (jP (us:=[.ref a]) (vs:=[.ref a]) R F (hr.mono hj) hb .nil I1 (.cons rfl .nil) q)
def BH(C:Addr)(sp:Sp)(Ex:XS)(t:TA):TE:=fun σ H Q=>t σ H fun vs H1=>∀x dx,H1 x=none->H1 dx=none->dx≠x ->
 sp (.ref x::vs) (upd (upd H1 dx (.own x)) x (.ins C dx [])) (fun v H2=>v = .non/\Q (.ref x) H2) fun c _ H'=>Ex c σ H'
theorem sX(R:Pass X Ex)(M:Mk X.K C f)(F:eJ X.prog X.w X.K X.mg X.base (fT X.prog X.w) k f fd ps sp)(hr:bX (k+1) X.A)(hb:Binds X.K fd ps [])
  (I:Inv X pins σ H s) (r:Vals vs us)
  (h:∀x dx,H x=none->H dx=none->dx≠x->sp (.ref x::vs) (upd (upd H dx (.own x)) x (.ins C dx [])) (fun v H2=>v = .non/\Q (.ref x) H2) fun c _ H'=>Ex c σ H') :
  qBj (qBn X.prog X.w) X.A (call (.ref C) us) (EP X pins σ Q) X.xe s:=by
 have hq:=h (s.heap.objs.size+1) s.heap.objs.size (I.bV.fresh (qHf _)) (I.bV.fresh (qAk _)) (qBe (qGv _));have I2:=Inv.made (C:=C) I;have r2:Vals (V.ref (s.heap.objs.size+1)::vs) (Value.ref (s.heap.objs.size+1)::us):=.cons rfl r;have hl:(Value.ref (s.heap.objs.size+1)::us).length=ps.length:=by
  have e:=r2.length;rw[F.len _ _ _ _ hq] at e;exact e.symm
 have hb2:=hb { s with heap:=(s.heap.push qCk).push (qCw C s.heap.objs.size) } (Value.ref (s.heap.objs.size+1)::us) I2.kU (by rw[qBm];exact hl);rw[qBm] at hb2;refine qGk (uY (f:=f) I.kU M.makes M.init (beq_iff_eq.mp M.fn) (qEv (F.run _ X.stack _ _ ⟨Value.ref (s.heap.objs.size+1)::us,[]⟩ (Value.ref (s.heap.objs.size+1)::us) _ _ _ (hr.make C us [])
  (I2.yE.make C us []) hb2 r2 hq) fun r s' hq'=>?_))
 cases r with
 | error ev =>
  obtain⟨e,C',H',rfl,Fl,q⟩:=hq';exact R.on pins σ _ _ e C' H' s' I2 Fl q
 | ok fl =>
  cases fl with
  | ret u =>
   obtain⟨v,H',I3,rv,ev,q3⟩:=I2.after hq';subst ev;exact⟨rv,⟨V.ref (s.heap.objs.size+1),H',I3,rfl,q3⟩⟩
  | next=>exact False.elim hq'
  | brk=>exact False.elim hq'
  | cont=>exact False.elim hq'
theorem eL(R:Pass X Ex)(M:Mk X.K C f)(F:Md X.prog X.w X.K X.mg X.base k ps sp f)(hr:bX j X.A)(hj:k+1<=j)(hg:Gl X x)(hm:X.mg x=some (.ref C))
  (ha:PA X (e::es) t) (hdb:(x == ("__debug__":Str))=false:=by decide) (he:qBg (e::es) X.env=(false,eval e X.env)::qBg es X.env:=by rfl) (hpl:(qEi pos (qBg es X.env)).any (·.1)=false:=by rfl) :
  PE X (.Call (.Name x p) (e::es) [] pos) (BH C sp Ex t):=by
 intro pins s σ H Q I h;obtain⟨fd,F,hb⟩:=F.ex;refine qDo (g7 I hg hm ?_ hdb);refine qDx (h₀:=X.base) I.ok.mod.Al M.kp (bI (ha pos pins s σ H _ I h) fun us s1 ⟨vs,H1,I1,r,q⟩=>⟨I1.kU,?_⟩) he hpl;exact sX R M F (hr.mono hj) hb I1 r q
end
structure Fc (K:qAa) (C:Addr):Prop where
 cl:uI K C
 ca:qAc K (.ref C) "__class__"=some (some (.builtin "object.__class__"))
 cg:qCu K (.builtin "object.__class__") "__get__"=some (some (.builtin "getset_descriptor.__get__"))
 ct:qDw K (.builtin "object.__class__")=some true
 mo:qBt K C (.type "object")=some true
section
variable {X:Cx}
theorem hZ(hh:X.calm=true):eR X (.builtin "sum") (fun xs H Q=>∃(p:Addr) (ns:List Int),xs=[.ref p]/\(aT X.K H p (ns.map V.int)\/dE X.K H p (ns.map V.int))/\Q (.int ns.sum) H):=by
 intro pins s σ H xs us Q I r h;obtain⟨p,ns,rfl,hq,q⟩:=h;obtain⟨u,rfl,rx⟩:=vals1 r;cases rx;rcases hq with hq | hq
 ·obtain⟨its,r',pl,hz⟩:=I.list hq;have hi:=intsAre_of r';obtain⟨xs,hx⟩:=hi.allInts.items;have hl':s.heap.IsList p (intItems xs):=hx▸pl.isList;refine sum_intListG (I.ok.hd hh) hl' fun h' tk t' hk=>?_;have e1:ns=xs.toList.map (·.1):=by
   rw[<- nums_intItems,<- hx];exact(show numsOf its.toArray.toList=ns from hi.numsOf).symm
  have e2:preSum (numAt xs) xs.size=ns.sum:=by
   rw[preSum_eq,qEj (by simp),e1]
  rw[e2];exact⟨.int ns.sum,H,I.kept (t':=tk) hk,⟨_,rfl⟩,q⟩
 ·obtain⟨its,r',pl,hz⟩:=I.tuple hq;have hi:=intsAre_of r';obtain⟨xs,hx⟩:=hi.allInts.items;have hl':s.heap.IsTuple p (intItems xs):=hx▸pl;refine PySem.W.ktm_sumG (I.ok.hd hh) hl' fun h' tk t' hk=>?_;have e1:ns=xs.toList.map (·.1):=by
   rw[<- nums_intItems,<- hx];exact(show numsOf its.toArray.toList=ns from hi.numsOf).symm
  have e2:preSum (numAt xs) xs.size=ns.sum:=by
   rw[preSum_eq,qEj (by simp),e1]
  rw[e2];exact⟨.int ns.sum,H,I.kept (t':=tk) hk,⟨_,rfl⟩,q⟩
theorem jB:∀{us:List qAe},Vals (bs.map V.bl) us->LSm.BoolsAre us bs:=by
 induction bs with
 | nil=>intro us h;cases h;exact .nil
 | cons b bs ih =>
  intro us h;cases h with
  | cons r t=>cases r;exact .cons b (ih t)
theorem oF(hh:X.calm=true):eR X (.builtin "all") (fun xs H Q=>∃(p:Addr) (bs:List Bool),xs=[.ref p]/\aT X.K H p (bs.map V.bl)/\Q (.bl (bs.all id)) H):=by
 intro pins s σ H xs us Q I r h;obtain⟨p,bs,rfl,hq,q⟩:=h;obtain⟨u,rfl,rx⟩:=vals1 r;cases rx;obtain⟨its,r',pl,hz⟩:=I.list hq;have hb:=jB r';have hl:=pl.isList;have hlt:p<s.heap.objs.size:=by obtain⟨_,e,_⟩:=hl;exact qAs e
 refine call_all_walk (qEq hl ?_);refine⟨s.heap.objs.size,[s.heap.objs.size,p],[s.heap.objs.size],its.toArray.size,_,_,fun i=>(bs[i]?).getD true,rfl,Walks.list (A:=X.A.in1) (I.ok.hd hh) _ p (qBe hlt) its.toArray,
  ⟨⟨_,qBb _ rfl,rfl,rfl⟩,hl.push _⟩,fun i v s' Q' E' hP hQ=>?_,fun h' tk hk=>?_⟩
 ·obtain⟨b,e,rfl⟩:=hb.get i v (by simpa using hP);simp only[e,qIy] at hQ;exact qBy hQ
 ·have e:((qAq its.toArray.size).all fun i=>(bs[i]?).getD true)=bs.all id:=by
   rw[qAp,hb.length];exact LSm.range_all bs
  rw[e];exact⟨.bl _,H,I.kept (t':=tk) (LSm.kept_iter hk),rfl,q⟩
theorem vQ(hh:X.calm=true):eR X (.builtin "any") (fun xs H Q=>∃(p:Addr) (bs:List Bool),xs=[.ref p]/\aT X.K H p (bs.map V.bl)/\Q (.bl (bs.any id)) H):=by
 intro pins s σ H xs us Q I r h;obtain⟨p,bs,rfl,hq,q⟩:=h;obtain⟨u,rfl,rx⟩:=vals1 r;cases rx;obtain⟨its,r',pl,hz⟩:=I.list hq;have hb:=jB r';have hl:=pl.isList;have hlt:p<s.heap.objs.size:=by obtain⟨_,e,_⟩:=hl;exact qAs e
 refine call_any_walk (qEq hl ?_);refine⟨s.heap.objs.size,[s.heap.objs.size,p],[s.heap.objs.size],its.toArray.size,_,_,fun i=>(bs[i]?).getD false,rfl,Walks.list (A:=X.A.in1) (I.ok.hd hh) _ p (qBe hlt) its.toArray,
  ⟨⟨_,qBb _ rfl,rfl,rfl⟩,hl.push _⟩,fun i v s' Q' E' hP hQ=>?_,fun h' tk hk=>?_⟩
 ·obtain⟨b,e,rfl⟩:=hb.get i v (by simpa using hP);simp only[e,qIy] at hQ;exact qBy hQ
 ·have e:((qAq its.toArray.size).any fun i=>(bs[i]?).getD false)=bs.any id:=by
   rw[qAp,hb.length];exact LSm.range_any bs
  rw[e];exact⟨.bl _,H,I.kept (t':=tk) (LSm.kept_iter hk),rfl,q⟩
theorem mY:qBv "sum"=some (.builtin "sum"):=by decide +kernel
theorem vR:qBv "all"=some (.builtin "all"):=by decide +kernel
theorem BI:qBv "any"=some (.builtin "any"):=by decide +kernel
def yU(K:qAa):V->List V->Hp->VK->Prop:=fun x vs H Q=>∃(p:Addr) (ns:List Int) (i:Int) (j:Nat),x = .ref p/\vs=[.int i]/\dE K H p (ns.map V.int)/\ns[j]?=some i/\(∀m,m<j->ns[m]?≠some i)/\Q (.int (j:Nat)) H
def IJ(i:Int)(u:qAe):Bool:=match u with
 | .int k _=>k == i
 | _=>false
theorem fF:Ar X "list.append" qX:=lO
theorem vS:Ar X "tuple.index" (yU X.K):=by
 intro pins s σ H x vs v us Q I rx rv h;obtain⟨p,ns,i,j,rfl,rfl,hq,hj,hno,q⟩:=h;cases rx;obtain⟨u,rfl,ru⟩:=rv.one;obtain⟨t,rfl⟩:=(show ∃t,u=Value.int i t from ru);obtain⟨its,r',pl,hz⟩:=I.tuple hq;have hi:=intsAre_of r';obtain⟨⟨oc,od,odt,osl⟩,h1,h2,n,h3⟩:=id pl;dsimp only at h2 h3;subst h2 h3;have at_:∀(m:Nat) (k:Int),ns[m]?=some k->∃t,its[m]?=some (.int k t):=fun m k hm=>by
  obtain⟨u,hu,ru⟩:=r'.get (i:=m) (x:=.int k) (by rw[qAu,hm];rfl);obtain⟨t,rfl⟩:=(show ∃t,u=Value.int k t from ru);exact⟨t,hu⟩
 have hl:=r'.length;rw[qAb] at hl;obtain⟨t1,ht1⟩:=at_ j i hj;have hjl:j<its.length:=by
  rcases qBo j its.length with z | z
  ·exact z
  ·rw[qEm z] at ht1;cases ht1
 refine qIs F.slot_tuple_index ⟨_,h1,rfl⟩ F.entry_tuple_index (F.args_tuple_index_2 _ _) (SeqAt.k7 p its.toArray n od osl (.int i t) (IJ i) j (by simpa using hjl) ?_ fun m hm hmj=>?_) ⟨h1,fun y hy=>?_,?_⟩
 ·have e:its.toArray[j]'(by simpa using hjl) = .int i t1:=by
   have:=qAf hjl;rw[ht1] at this;simpa using (Option.some.inj this).symm
  rw[e];show(i == i)=true;simp
 ·have hml:m<its.length:=by simpa using hm
  have hmn:m<ns.length:=by lia
  obtain⟨t2,ht2⟩:=at_ m _ (qAf hmn);have e:its.toArray[m]'hm = .int ns[m] t2:=by
   have:=qAf hml;rw[ht2] at this;simpa using (Option.some.inj this).symm
  rw[e];show(ns[m] == i)=false;rw[beq_eq_false_iff_ne];intro z;exact hno m hmj (by rw[qAf hmn,z])
 ·have hy':y∈its:=by simpa using hy
  obtain⟨m,hm,e⟩:=List.getElem_of_mem hy';have hmn:m<ns.length:=by lia
  obtain⟨t2,ht2⟩:=at_ m _ (qAf hmn);rw[qAf hm,e] at ht2;obtain rfl:y = .int ns[m] t2:=Option.some.inj ht2;exact SeqAt.EqAt.int_int _ _ _ _
 ·exact⟨.int (j:Nat),H,I.tok _,⟨_,rfl⟩,q⟩
mutual
inductive Dat (K:qAa) (H:Hp):V->qEz->Prop
 | int (i:Int):Dat K H (.int i) (.int i)
 | lst {p:Addr}{xs:List V}{ds:List qEz}:aT K H p xs->DatAll K H xs ds->Dat K H (.ref p) (.list ds)
 | tup {p:Addr}{xs:List V}{ds:List qEz}:dE K H p xs->DatAll K H xs ds->Dat K H (.ref p) (.tuple ds)
inductive DatAll (K:qAa) (H:Hp):List V->List qEz->Prop
 | nil:DatAll K H [] []
 | cons {x:V}{d:qEz}{xs:List V}{ds:List qEz}:Dat K H x d->DatAll K H xs ds->DatAll K H (x::xs) (d::ds)
end
end
def Hs(K:qAa)(tl:TE):TI:=fun σ H R=>tl σ H fun x H1=>∃a,x = .ref a/\(((∃xs,aT K H1 a xs)/\R (pF K a) H1)\/((∃xs,dE K H1 a xs)/\R (Ew K a) H1))
theorem BJ(hl:PE X l tl):PI X tg l (Hs X.K tl):=by
 intro pins s σ H R I h;refine bI (hl pins s σ H _ I h) fun v s1 ⟨x,H1,I1,r1,q1⟩=>?_;obtain⟨a,e,q⟩:=q1;subst e;cases r1;rcases q with ⟨⟨xs,hq⟩,q⟩ | ⟨⟨xs,hq⟩,q⟩
 ·obtain⟨its,rv,p,hz⟩:=I1.list hq;refine qEq p.isList ?_;refine⟨s1.heap.objs.size,[s1.heap.objs.size],_,_,H1,rfl,I1.kept (t':=s1.toks) fun b o e=>qAg _ e,lI a _,⟨_,qBb _ rfl,rfl,rfl⟩,fun b hb=>?_,q⟩;have e:b=s1.heap.objs.size:=by simpa using hb
  subst e;exact I1.pE (qAk _) (I1.bV.fresh (qAk _))
 ·obtain⟨its,rv,p,hz⟩:=I1.tuple hq;refine wpAny_pyIter_tuple (show s1.heap.IsTuple a its.toArray from p) ?_;refine⟨s1.heap.objs.size,[s1.heap.objs.size],_,_,H1,rfl,I1.kept (t':=s1.toks) fun b o e=>qAg _ e,pG a _,⟨_,qBb _ rfl,rfl,rfl⟩,fun b hb=>?_,q⟩;have e:b=s1.heap.objs.size:=by simpa using hb
  subst e;exact I1.pE (qAk _) (I1.bV.fresh (qAk _))
theorem iB{prog:qBd}{w:qCb}{A:qCc}{E:qAe->qAh->Prop}{s:qAh}{t sl:Addr}{items:Array qAe}{vl vu:qAe}{lo hi:Option Int}{Q:qAe->qAh->Prop}(ht:IsTup s.heap t items)(hs:s.heap.IsSliceOf sl vl vu .none)(pl:qHm vl lo)(pu:qHm vu hi)
  (h0:HT.cV items.size 0 lo=0) (h1:HT.cV items.size items.size hi=items.size)
  (h:Q (.ref t) s):qBj (qBn prog w) A (qHg (.ref t) (.ref sl)) Q E s:=by
 obtain⟨os,hos,hcs,hds⟩:=id hs;have hTs:s.TypeIs (.ref sl) "slice":=⟨os,hos,hcs⟩;unfold qHg;try with_reducible refine qCn ?_
 first | refine qAd (qAr ?_) | skip
 refine qAd (wpAny_sequenceKey ht.typeIs (by decide) ?_);refine qAd (wpAny_callSpecial?_slot (name:=Str.ofString "__getitem__") ht.typeIs qDc
  (wpAny_call_entry qDc ht.typeIs entry_tuple_getitem ?_ (args_tuple_getitem _ _)))
 show qBj _ _ (Builtin.Tuple.tupleItemsOf (.ref t) >>= _) _ _ s;refine qAd (tupleItemsOf_ ht ?_);refine qAd (wpAny_typeOf hTs ?_);rw[if_pos (by decide)];refine qAd (HT.eT hs pl pu ?_);have hy:(((HT.cV items.size 0 lo:Nat):Int) == 0&&(1:Int) == 1&&(HT.cV items.size items.size hi-HT.cV items.size 0 lo) == items.size)=true:=by
  rw[h0,h1];simp
 show qBj _ _ (if (((HT.cV items.size 0 lo:Nat):Int) == 0&&(1:Int) == 1&&(HT.cV items.size items.size hi-HT.cV items.size 0 lo) == items.size)=true then _ else _) _ _ s;rw[if_pos hy];refine qAd (m:=Builtin.Tuple.tupleIsExact (.ref t)) ?_;unfold Builtin.Tuple.tupleIsExact;refine qAd (wpAny_typeOf ht.typeIs (qAr ?_));rw[if_pos (by decide)];first
  | exact qAd (wpAny_rule (qAr ⟨_,rfl,qAr h⟩))
  | exact qAd (wpAny_rule (qAd (qAr (qAr ⟨_,rfl,qAr h⟩))))
def Ht(K:qAa):V->Option Int->Option Int->Hp->VK->Prop:=fun x lo hi H Q=>∃a xs,x = .ref a/\dE K H a xs/\∀p H',aI H H'->dE K H' p (eA xs lo hi)->Q (.ref p) H'
theorem rC:EJ X (Ht X.K):=by
 intro pins s σ H x v vl vu lo hi sl Q I rx hs pl pu h;obtain⟨a,xs,rfl,hx,q⟩:=h;by_cases hw:HT.cV xs.length 0 lo=0/\HT.cV xs.length xs.length hi=xs.length
 ·cases rx
  obtain⟨its,r,ht,hz⟩:=I.tuple hx;have hlen:its.toArray.size=xs.length:=by rw[qAp];exact r.length.symm
  refine⟨"tuple",_,PyProof.Rows.slot_tuple_getitem.lookup,ht.typeIs,?_⟩;refine iB ht hs pl pu (by rw[hlen];exact hw.1) (by rw[hlen];exact hw.2) ⟨.ref a,H,I,rfl,q a H (.refl H) ?_⟩;unfold eA;rw[hw.1,hw.2,qJv,qKw,qDk];exact hx
 ·exact Bq pins s σ H (.ref a) v vl vu lo hi sl Q I rx hs pl pu ⟨a,xs,rfl,hx,hw,fun p hp=>q p _ (.aJ hp) (dE.of aB)⟩
section
variable {K:qAa}{a:Addr}{xs:List V}{σ0:St}{H1:Hp}{i0:Nat}{c:TT}{te:TE}{Q:Addr->Hp->Prop}
theorem cR(f:Nat->V->Option V)(hq:aT K H1 a xs)(hn:xs.length<=qAj)
  (step:∀(i:Nat) (x:V) (H2:Hp) (k:VK) (k0:Hp->Prop),aI H1 H2->xs[i]?=some x->(∀y,f i x=some y->∀H3,aI H2 H3->k y H3)->(f i x=none->∀H3,aI H2 H3->k0 H3) ->
   c (σ0.set i0 (some x)) H2 fun b H4=>if b=true then te (σ0.set i0 (some x)) H4 k else k0 H4)
  (h:∀D H2,H1 D=none->aI H1 H2->H2 D=some (.lst ((qAq xs.length).filterMap fun i=>(xs[i]?).bind (f i)))->Q D H2) :
  ∀D,H1 D=none->∃W:Nat->Nat->St->Hp->Prop,(∃m,W 0 m σ0 (upd H1 D (.lst [])))/\∀i m σ1 H2,W i m σ1 H2 ->
   ((pF K a).stop i H2/\Q D H2)\/((pF K a).go i H2/\∃N:St->Hp->Prop,(∀σ' H',N σ' H'->∃m',m'<m/\W (i+1) m' σ' H') /\
    ∀x H',(pF K a).uR i H2 x H'->bQ i0 x σ1 H' fun σ2 H3=>c σ2 H3 fun b H4=>if b=true then te σ2 H4 fun y H5=>∃xs,H5 D=some (.lst xs)/\xs.length<qAj/\N σ2 (upd H5 D (.lst (xs++[y]))) else N σ2 H4):=by
 intro D hD;refine⟨fun i m σ1 H2=>σ1.set i0 none=σ0.set i0 none/\aI H1 H2/\H2 D=some (.lst ((qAq i).filterMap fun i=>(xs[i]?).bind (f i)))/\i<=xs.length/\m=xs.length-i,⟨xs.length,rfl,.aJ hD,aB,qBq _,rfl⟩,?_⟩;rintro i m σ1 H2 ⟨hσ,hs,hd,hi,rfl⟩;have hset:∀v:Option V,σ1.set i0 v=σ0.set i0 v:=fun v=>by
  have z:=congrArg (fun l=>qKc l i0 v) hσ;simpa using z
 rcases qBo i xs.length with hlt | hge
 ·right
  refine⟨⟨xs,xs[i],hs.seq hq,by simp[hlt]⟩,fun σ' H'=>σ'.set i0 none=σ0.set i0 none/\aI H1 H'/\H' D=some (.lst ((qAq (i+1)).filterMap fun i=>(xs[i]?).bind (f i))),fun σ' H' ⟨a,b,c⟩=>⟨xs.length-(i+1),by lia,a,b,c,hlt,rfl⟩,?_⟩;rintro x H' ⟨rfl,hx⟩;have hx:=hx xs (hs.seq hq);show c (σ1.set i0 (some x)) _ _;rw[hset];refine step i x _ _ _ hs hx (fun y hy H3 hs3=>⟨_,hs3 _ _ hd,?_,?_,?_,?_⟩) fun hno H3 hs3=>⟨?_,hs.trans hs3,?_⟩
  ·refine qCg (qDz _ _) ?_;rw[qCy];lia
  ·simp
  ·refine(hs.trans hs3).upd_ne' hD
  ·rw[aB,qCp,qCm];simp[hx,hy]
  ·simp
  ·rw[hs3 _ _ hd,qCp,qCm];simp[hx,hno]
 ·left
  obtain rfl:i=xs.length:=qEe hi hge;exact⟨⟨xs,hs.seq hq,qAk _⟩,h D _ hD hs hd⟩
theorem vT(f:Nat->V->Option V)(hq:dE K H1 a xs)(hn:xs.length<=qAj)
  (step:∀(i:Nat) (x:V) (H2:Hp) (k:VK) (k0:Hp->Prop),aI H1 H2->xs[i]?=some x->(∀y,f i x=some y->∀H3,aI H2 H3->k y H3)->(f i x=none->∀H3,aI H2 H3->k0 H3) ->
   c (σ0.set i0 (some x)) H2 fun b H4=>if b=true then te (σ0.set i0 (some x)) H4 k else k0 H4)
  (h:∀D H2,H1 D=none->aI H1 H2->H2 D=some (.lst ((qAq xs.length).filterMap fun i=>(xs[i]?).bind (f i)))->Q D H2) :
  ∀D,H1 D=none->∃W:Nat->Nat->St->Hp->Prop,(∃m,W 0 m σ0 (upd H1 D (.lst [])))/\∀i m σ1 H2,W i m σ1 H2 ->
   ((Ew K a).stop i H2/\Q D H2)\/((Ew K a).go i H2/\∃N:St->Hp->Prop,(∀σ' H',N σ' H'->∃m',m'<m/\W (i+1) m' σ' H') /\
    ∀x H',(Ew K a).uR i H2 x H'->bQ i0 x σ1 H' fun σ2 H3=>c σ2 H3 fun b H4=>if b=true then te σ2 H4 fun y H5=>∃xs,H5 D=some (.lst xs)/\xs.length<qAj/\N σ2 (upd H5 D (.lst (xs++[y]))) else N σ2 H4):=by
 intro D hD;refine⟨fun i m σ1 H2=>σ1.set i0 none=σ0.set i0 none/\aI H1 H2/\H2 D=some (.lst ((qAq i).filterMap fun i=>(xs[i]?).bind (f i)))/\i<=xs.length/\m=xs.length-i,⟨xs.length,rfl,.aJ hD,aB,qBq _,rfl⟩,?_⟩;rintro i m σ1 H2 ⟨hσ,hs,hd,hi,rfl⟩;have hset:∀v:Option V,σ1.set i0 v=σ0.set i0 v:=fun v=>by
  have z:=congrArg (fun l=>qKc l i0 v) hσ;simpa using z
 rcases qBo i xs.length with hlt | hge
 ·right
  refine⟨⟨xs,xs[i],hs.GL hq,by simp[hlt]⟩,fun σ' H'=>σ'.set i0 none=σ0.set i0 none/\aI H1 H'/\H' D=some (.lst ((qAq (i+1)).filterMap fun i=>(xs[i]?).bind (f i))),fun σ' H' ⟨a,b,c⟩=>⟨xs.length-(i+1),by lia,a,b,c,hlt,rfl⟩,?_⟩;rintro x H' ⟨rfl,hx⟩;have hx:=hx xs (hs.GL hq);show c (σ1.set i0 (some x)) _ _;rw[hset];refine step i x _ _ _ hs hx (fun y hy H3 hs3=>⟨_,hs3 _ _ hd,?_,?_,?_,?_⟩) fun hno H3 hs3=>⟨?_,hs.trans hs3,?_⟩
  ·refine qCg (qDz _ _) ?_;rw[qCy];lia
  ·simp
  ·refine(hs.trans hs3).upd_ne' hD
  ·rw[aB,qCp,qCm];simp[hx,hy]
  ·simp
  ·rw[hs3 _ _ hd,qCp,qCm];simp[hx,hno]
 ·left
  obtain rfl:i=xs.length:=qEe hi hge;exact⟨⟨xs,hs.GL hq,qAk _⟩,h D _ hD hs hd⟩
end
section
variable {X:Cx}
theorem BK:qBv "min"=some (.builtin "min"):=by decide +kernel
end
section
variable {K:qAa}{lo:Int}{n:Nat}{σ0:St}{H1:Hp}{i0:Nat}{c:TT}{te:TE}{Q:Addr->Hp->Prop}
end
section
variable {X:Cx}
theorem iS:qBv "str"=some (.type "str"):=by decide +kernel
end
def Fd(K:qAa)(l:Addr):It :=
  ⟨fun i H=>∃xs x,aT K H l xs/\xs[i]?=some x,
   fun i H v H'=>∃t x,v = .ref t/\H t=none/\H'=upd H t (.tup [.int (i:Int),x])/\∀xs,aT K H l xs->xs[i]?=some x,
   fun i H=>∃xs,aT K H l xs/\xs.length<=i⟩
def BL(e it l:Addr)(i:Nat)(h:Heap):Prop:=(∃old,IsEnum h e it (i:Int) old)/\h.IsListIter it l i
theorem sY{P:qBd}{w:qCb}{K:qAa}{elts:List Expr}{x1}{pos:Pos}{e it l:Addr}(hne:e≠it):
  Turn P w K (.Tuple elts x1 pos) (Fd K l) [e,it] e (BL e it l) where
 mem:=by simp
 obj:=fun i h ⟨⟨old,he⟩,⟨o,ho,_,d⟩⟩ b hb=>by
  simp only[qDe,qBs,or_false] at hb;rcases hb with rfl | rfl
  ·exact⟨_,he,fun v q=>nomatch q⟩
  ·exact⟨_,ho,fun v q=>by rw[d] at q;cases q⟩
 keep:=fun i h h' ⟨⟨old,he⟩,h1⟩ k=>⟨⟨old,k e (by simp) _ he⟩,h1.at fun o q=>k it (by simp) o q⟩
 item:=by
  intro X hP hw hK hc i pins s σ H E I hf st hg;subst hP hw hK;obtain⟨⟨old,he⟩,h1⟩:=st;obtain⟨xs,x,q1,hx⟩:=hg;obtain⟨its1,r1,p1,z1⟩:=I.list q1;obtain⟨u,hu,ru⟩:=r1.get hx;refine wpAny_pyNext_enum_item he h1 p1.isList (by simpa using hu) hne fun h' a1 a2 a3 a4 a5=>⟨_,rfl,?_⟩;refine wpAny_letOwnedTupleGo_enum a1 fun h'' b1 hs=>?_;have lt:∀c o,s.heap.get? c=some o->c≠s.heap.objs.size:=fun c o e=>qBe (qAs e);have lte:s.heap.objs.size≠e:=(lt e _ he).symm;have I1:Inv X pins σ H { s with heap:=h'',toks:=s.toks+1 }:=I.qZ (t':=s.toks+1) (fun c o hb e=>(hs.2 c (fun q=>hb (by simp[q]))).trans (a5 c o (fun q=>hb (by simp[q])) (fun q=>hb (by simp[q])) e)) hf;have ht:h''.get? s.heap.objs.size=some { cls:=.type "tuple",data:=.seq #[.int i s.toks,u] }:=(hs.2 _ lte).trans a3;have hn:H s.heap.objs.size=none:=I.bV.fresh (qAk _);have I2:Inv X pins σ (upd H s.heap.objs.size (.tup [.int (i:Int),x])) { s with heap:=h'',toks:=s.toks+1 }:=by
   refine I1.EV hn (qIn I.sz) (qBe I.lt).symm (fun y c q=>?_) (fun p hp=>?_) (I.El (qAk _)) ⟨Ak,[.int i s.toks,u],.cons ⟨_,rfl⟩ (.cons ru .nil),_,ht,rfl,_,rfl⟩
   ·obtain⟨_,o,ho,_⟩:=I.cell y c q;exact lt c o ho
   ·exact lt _ _ (I.pin p hp).1
  refine⟨.ref s.heap.objs.size,_,I2,rfl,⟨_,x,rfl,hn,rfl,fun xs' q=>?_⟩,⟨⟨u,?_⟩,a2.at fun o e=>(hs.2 _ hne.symm).trans e⟩,fun c hb=>?_⟩
  ·rw[I.nV q q1];exact hx
  ·rw[show((i+1:Nat):Int)=(i:Int)+1 by push_cast;rfl];exact b1
  ·obtain⟨o,ho,_⟩:∃o,s.heap.get? c=some o/\True:=by
    simp only[qDe,qBs,or_false] at hb;rcases hb with rfl | rfl
    ·exact⟨_,he,trivial⟩
    ·obtain⟨o,ho,_⟩:=h1;exact⟨o,ho,trivial⟩
   rw[aK (lt c o ho)];exact(hf c hb).1
 done:=by
  intro X hP hw hK hc i pins s σ H E I hf st hg;subst hP hw hK;obtain⟨⟨old,he⟩,h1⟩:=st;obtain⟨xs,q1,hend⟩:=hg;obtain⟨its1,r1,p1,z1⟩:=I.list q1;have e1:=r1.length;exact wpAny_pyNext_enum_end (I.ok.hd hc) he h1 p1.isList (by simp;lia) fun h' k=>⟨rfl,I.qZ (t':=s.toks) (fun c o hb e=>k c o (fun q=>hb (by simp[q])) e) hf⟩
 self:=fun _ _ _ _ _ ⟨⟨_,he⟩,_⟩ h=>wpAny_pyIter_enum he h
def Fe(K:qAa)(ta:TA):TI:=fun σ H R=>ta σ H fun vs H1=>∃l,vs=[.ref l]/\(∃xs,aT K H1 l xs)/\R (Fd K l) H1
theorem yV:qBv "enumerate"=some (.type "enumerate"):=by decide +kernel
theorem yW{X:Cx}{elts:List Expr}{x1}{tpos:Pos}{a:Expr}{ta:TA}{p pos:Pos}(hg:Gl X "enumerate")(hm:X.mg "enumerate"=none)(ha:PA X [a] ta)(hs:qBg [a] X.env=[(false,eval a X.env)]:=by rfl):
  PI X (.Tuple elts x1 tpos) (.Call (.Name "enumerate" p) [a] [] pos) (Fe X.K ta):=by
 intro pins s σ H R I h;refine Call_ (gT I hg hm yV (qDi (bI (ha pos pins s σ H _ I h) fun us s1 ⟨vs,H1,I1,r1,q1⟩=>?_) hs rfl));obtain⟨l,e,⟨xs,q1⟩,q⟩:=q1;subst e;obtain⟨u,rfl,ru⟩:=vals1 r1;cases (show u=Value.ref l from ru);obtain⟨its1,r1,p1,z1⟩:=I1.list q1;refine call_enumerate_list p1.isList fun h' hE hI hsz hk=>?_;refine wpAny_pyIter_enum hE ?_;have I2:Inv X pins σ H1 { s1 with heap:=h' }:=I1.kept (t':=s1.toks) hk;refine⟨_,[s1.heap.objs.size+1,s1.heap.objs.size],_,_,H1,rfl,I2,sY (Nat.succ_ne_self _),⟨⟨_,hE⟩,hI⟩,fun c hc=>?_,q⟩;have hge:s1.heap.objs.size<=c:=by
  simp only[qDe,qBs,or_false] at hc;rcases hc with h | h
  all_goals first | (rw[h];exact Nat.le_add_right _ _) | exact qIj h.symm
 have:=I1.pE (H':=H1) hge (I1.bV.fresh hge);exact this
section
variable {K:qAa}{a a':Addr}{xs ys:List V}{σ0:St}{H1:Hp}{g:TG}{c:TT}{te:TE}{Q:Addr->Hp->Prop}
end
section
variable {X:Cx}
end
section
variable {K:qAa}{a:Addr}{xs:List V}{lo:Int}{n:Nat}{σ0:St}{H1:Hp}{i0:Nat}{c:TT}{te:TE}{Q:Addr->Hp->Prop}
def c9(H H':Hp):Prop:=∀b xs,H b=some (.tup xs)->H' b=some (.tup xs)
theorem aI.t(s:aI H H'):c9 H H':=fun _ _ e=>s _ _ e
theorem c9.lst(h:H D=some (.lst ys)):c9 H (upd H D o):=fun b xs e=>by
 rw[aK fun q=>by subst q;rw[h] at e;cases e];exact e
end
section
variable {X:Cx}{tg:Expr}
end
section
variable {X:Cx}{e c:Expr}{te:TE}{ts:TO}{pos p2:Pos}
end
def mZ(h:Heap)(vs:List qAe):Heap:=((h.push (qCo "list" #[] 0)).update h.objs.size (Obj.mapSeq (· ++ vs.toArray))).push (qCo "list" vs.toArray 0)
section
variable {X:Cx}
end
section
variable {X:Cx}
mutual
inductive fW (K:qAa) (H:Hp):V->qEz->Prop
 | int (i:Int):fW K H (.int i) (.int i)
 | non:fW K H .non .none
 | bl (b:Bool):fW K H (.bl b) (.bool b)
 | str (x:Str):PyData.strOk x=true->fW K H (.str x) (.str x)
 | lst {p:Addr}{xs:List V}{ds:List qEz}:aT K H p xs->bH K H xs ds->fW K H (.ref p) (.list ds)
 | tup {p:Addr}{xs:List V}{ds:List qEz}:dE K H p xs->bH K H xs ds->fW K H (.ref p) (.tuple ds)
inductive bH (K:qAa) (H:Hp):List V->List qEz->Prop
 | nil:bH K H [] []
 | cons {x:V}{d:qEz}{xs:List V}{ds:List qEz}:fW K H x d->bH K H xs ds->bH K H (x::xs) (d::ds)
end
mutual
theorem fW.reads(I:Inv X pins σ H s):∀{v:V}{d:qEz}{u:qAe},fW X.K H v d->RelV v u->∃as,Reads s.heap u d as
 | _,_,u,.int i,r=>by obtain⟨t,rfl⟩:=(show ∃t,u=Value.int i t from r);exact⟨_,.int i t⟩
 | _,_,u,.non,r=>by obtain rfl:u=Value.none:=r;exact⟨_,.none⟩
 | _,_,u,.bl b,r=>by obtain rfl:u=Value.bool b:=r;exact⟨_,.bool b⟩
 | _,_,u,.str x _,r=>by obtain⟨t,rfl⟩:=(show ∃t,u=Value.str x t from r);exact⟨_,.str x t⟩
 | _,_,u,.lst (p:=p) hq ha,r=>by
  obtain rfl:u = .ref p:=r;obtain⟨its,r',pl,hz⟩:=I.list hq;obtain⟨o,ho,hc,n,hd⟩:=pl.isList;obtain⟨as,z⟩:=bH.reads I ha r';exact⟨_,.list ho hc hd (by simpa using z)⟩
 | _,_,u,.tup (p:=p) hq ha,r=>by
  obtain rfl:u = .ref p:=r;obtain⟨its,r',pl,hz⟩:=I.tuple hq;obtain⟨o,ho,hc,n,hd⟩:=pl;obtain⟨as,z⟩:=bH.reads I ha r';exact⟨_,.tuple ho hc hd (by simpa using z)⟩
theorem bH.reads(I:Inv X pins σ H s):∀{vs:List V}{ds:List qEz}{us:List qAe},bH X.K H vs ds->Vals vs us->∃as,ReadsAll s.heap us ds as
 | _,_,_,.nil,.nil=>⟨_,.nil⟩
 | _,_,_,.cons h t,.cons r rs=>by
  obtain⟨a1,z1⟩:=fW.reads I h r;obtain⟨a2,z2⟩:=bH.reads I t rs;exact⟨_,.cons z1 z2⟩
end
mutual
theorem fW.lay{K:qAa}{H:Hp}:∀{v:V}{d:qEz},fW K H v d->d.canLay0=true/\PyData.eqv d d=true
 | _,_,.int i=>⟨rfl,by simp[PyData.eqv]⟩
 | _,_,.non=>⟨rfl,by simp[PyData.eqv]⟩
 | _,_,.bl b=>⟨rfl,by simp[PyData.eqv]⟩
 | _,_,.str x h=>⟨h,by simp[PyData.eqv]⟩
 | _,_,.lst _ h=>by
  obtain⟨a,b⟩:=bH.lay h;exact⟨by simpa [PyData.canLay0] using a,by simpa [PyData.eqv] using b⟩
 | _,_,.tup _ h=>by
  obtain⟨a,b⟩:=bH.lay h;exact⟨by simpa [PyData.canLay0] using a,by simpa [PyData.eqv] using b⟩
theorem bH.lay{K:qAa}{H:Hp}:∀{vs:List V}{ds:List qEz},bH K H vs ds->PyData.canLayAll0 ds=true/\PyData.eqvAll ds ds=true
 | _,_,.nil=>⟨rfl,rfl⟩
 | _,_,.cons h t=>by
  obtain⟨a,b⟩:=fW.lay h;obtain⟨c,d⟩:=bH.lay t;exact⟨by simp[PyData.canLayAll0,a,c],by simp[PyData.eqvAll,b,d]⟩
end
mutual
theorem fW.same{K:qAa}{H H':Hp}(s:aI H H'):∀{v:V}{d:qEz},fW K H v d->fW K H' v d
 | _,_,.int i=>.int i
 | _,_,.non=>.non
 | _,_,.bl b=>.bl b
 | _,_,.str x h=>.str x h
 | _,_,.lst q h=>.lst (s.seq q) (bH.same s h)
 | _,_,.tup q h=>.tup (s.GL q) (bH.same s h)
theorem bH.same{K:qAa}{H H':Hp}(s:aI H H'):∀{vs:List V}{ds:List qEz},bH K H vs ds->bH K H' vs ds
 | _,_,.nil=>.nil
 | _,_,.cons h t=>.cons (fW.same s h) (bH.same s t)
end
end
section
variable {X:Cx}
end
section
variable {X:Cx}
variable {o e:Expr}{es:List Expr}{to:TE}{t:TA}{name:Str}{apos cpos:Pos}{T id:String}{r:V->List V->Hp->VK->Prop}
end
section
variable {A:qCc}{prog:qBd}{w:qCb}{E:qAe->qAh->Prop}
end
section
variable {X:Cx}{pos:Pos}
end
section
variable {κ:Type} [DecidableEq κ]
def gW(kvs:List (κ×V))(k:κ):Option V:=(kvs.find? fun kv=>decide (kv.1=k)).map (·.2)
def putK(kvs:List (κ×V))(k:κ)(v:V):List (κ×V) :=
 if (kvs.any fun kv=>decide (kv.1=k))=true then kvs.map (fun kv=>if kv.1=k then (kv.1,v) else kv) else kvs++[(k,v)]
theorem iC{p:κ×V}{r:List (κ×V)}{k:κ}(e:p.1=k):gW (p::r) k=some p.2:=by simp[gW,qEc,e]
theorem iD{p:κ×V}{r:List (κ×V)}{k:κ}(e:¬p.1=k):gW (p::r) k=gW r k:=by simp[gW,qEc,e]
theorem kE(k:κ):∀kvs:List (κ×V),(kvs.any fun kv=>decide (kv.1=k))=(gW kvs k).isSome
 | []=>rfl
 | p::r=>by
  rw[qFh];by_cases e:p.1=k
  ·simp only[iC e,decide_eq_true e,Bool.true_or,Option.isSome_some]
  ·rw[iD e,decide_eq_false e,qKh];exact kE k r
theorem jC(kvs:List (κ×V))(k:κ)(v:V):(putK kvs k v).length<=kvs.length+1:=by
 unfold putK;split
 ·rw[qAb];lia
 ·rw[qBi,qBu,List.length_nil];lia
theorem vU{kvs:List (κ×V)}{k:κ}(v:V)(h:gW kvs k=none):putK kvs k v=kvs++[(k,v)]:=by
 unfold putK;rw[kE,h];exact if_neg (by decide)
theorem gY.iT(r:gY o u):o.isSome=u.isSome:=by
 cases o with
 | none=>cases u with
  | none=>rfl
  | some _=>exact(show False from r).elim
 | some _=>cases u with
  | none=>exact(show False from r).elim
  | some _=>rfl
theorem KV.val{kvs:List (κ×V)}{vs:List (κ×qAe)}(r:KV kvs vs)(k:κ):gY (gW kvs k) (qJc vs k):=by
 unfold KV at r;induction r with
 | nil=>exact True.intro
 | @cons p q ps qs h t ih =>
  obtain⟨h1,h2⟩:=h;by_cases e:p.1=k
  ·have e':q.1=k:=h1.symm.trans e;have b:qJc (q::qs) k=some q.2:=by simp[qJc,qEc,e']
   rw[iC e,b];exact h2
  ·have e':¬q.1=k:=fun z=>e (h1.trans z);have b:qJc (q::qs) k=qJc qs k:=by simp[qJc,qEc,e']
   rw[iD e,b];exact ih
theorem KV.any(r:KV kvs vs)(k:κ):(kvs.any fun kv=>decide (kv.1=k))=vs.any fun kv=>decide (kv.1=k):=by
 unfold KV at r;induction r with
 | nil=>rfl
 | cons h t ih=>rw[qFh,qFh,ih,h.1]
theorem KV.BM(r:KV kvs vs)(k:κ){y:V}{u:qAe}(ry:RelV y u):
  KV (kvs.map fun kv=>if kv.1=k then (kv.1,y) else kv) (vs.map fun kv=>if kv.1=k then (kv.1,u) else kv):=by
 unfold KV at r|-;induction r with
 | nil=>exact .nil
 | @cons p q ps qs h t ih =>
  rw[qBk,qBk];refine .cons ?_ ih;obtain⟨h1,h2⟩:=h;by_cases e:p.1=k
  ·rw[if_pos e,if_pos (h1.symm.trans e)];exact⟨h1,ry⟩
  ·rw[if_neg e,if_neg (fun z=>e (h1.trans z))];exact⟨h1,h2⟩
theorem KV.put(r:KV kvs vs)(k:κ){y:V}{u:qAe}(ry:RelV y u):KV (putK kvs k y) (stored vs k u):=by
 unfold putK stored;rw[r.any k];by_cases e:(vs.any fun kv=>decide (kv.1=k))=true
 ·rw[if_pos e,if_pos e];exact r.BM k ry
 ·rw[if_neg e,if_neg e];exact Paired.snoc r ⟨rfl,ry⟩
theorem KV.length(r:KV kvs vs):kvs.length=vs.length:=Paired.length r
end
theorem vV(r:RelV (kV k) u):(cH P w).is k u=true:=by
 cases k with
 | inl i=>obtain⟨t,e⟩:=(show ∃t,u=Value.int i t from r);subst e;exact nP P w i t
 | inr x=>obtain⟨t,e⟩:=(show ∃t,u=Value.str x t from r);subst e;exact nQ P w x t
theorem lT:∀{ks:List Key}{us:List qAe},Vals (ks.map kV) us->ItemsAre (cH P w) ks us
 | [],_,r=>by rw[qGs] at r;cases r;exact .nil
 | k::ks,_,r=>by
  rw[qBk] at r;cases r with
  | cons h t=>exact .cons (vV h) (lT t)
abbrev KT(H:Hp):List (List Key×V)->List (List Key×Addr×qAe)->Prop:=Paired fun p q=>p.1=q.1/\H q.2.1=some (.tup (p.1.map kV))/\RelV p.2 q.2.2
theorem KT.val{H:Hp}{kvs:List (List Key×V)}{xs:List (List Key×Addr×qAe)}(r:KT H kvs xs)(k:List Key):gY (gW kvs k) ((qKr xs k).map (·.2)):=by
 induction r with
 | nil=>exact True.intro
 | @cons p q ps qs h t ih =>
  obtain⟨h1,_,h2⟩:=h;by_cases e:p.1=k
  ·have e':q.1=k:=h1.symm.trans e;have b:qKr (q::qs) k=some q.2:=by simp[qKr,qEc,e']
   rw[iC e,b];exact h2
  ·have e':¬q.1=k:=fun z=>e (h1.trans z);have b:qKr (q::qs) k=qKr qs k:=by simp[qKr,qEc,e']
   rw[iD e,b];exact ih
theorem KT.BM(r:KT H kvs xs)(k:List Key){y:V}{u:qAe}(ry:RelV y u):
  KT H (kvs.map fun kv=>if kv.1=k then (kv.1,y) else kv) (xs.map (putAt k u)):=by
 induction r with
 | nil=>exact .nil
 | @cons p q ps qs h t ih =>
  rw[qBk,qBk];refine .cons ?_ ih;obtain⟨h1,h2,h3⟩:=h;unfold putAt;by_cases e:p.1=k
  ·rw[if_pos e,if_pos (h1.symm.trans e)];exact⟨h1,h2,ry⟩
  ·rw[if_neg e,if_neg (fun z=>e (h1.trans z))];exact⟨h1,h2,h3⟩
theorem KT.put(r:KT H kvs xs)(k:List Key){b:Addr}{y:V}{u:qAe}(hb:H b=some (.tup (k.map kV)))(ry:RelV y u):
  KT H (putK kvs k y) (storedH xs k b u):=by
 have e:(kvs.any fun kv=>decide (kv.1=k))=(qKr xs k).isSome:=by
  rw[kE,(r.val k).iT,qIp]
 unfold putK storedH;rw[e];by_cases q:(qKr xs k).isSome=true
 ·rw[if_pos q,if_pos q];exact r.BM k ry
 ·rw[if_neg q,if_neg q];exact Paired.snoc r ⟨rfl,hb,ry⟩
theorem KT.keeps(r:KT H kvs xs)(ht:∀b ys,H b=some (.tup ys)->H' b=some (.tup ys)):KT H' kvs xs :=
 Paired.AZ r fun _ _ z=>⟨z.1,ht _ _ z.2.1,z.2.2⟩
section
variable {P:qBd}{w:qCb}{H:Hp}{h:Heap}{a:Addr}
theorem Ax(ok:gQ P w H h)(e:Rd H a u):bY P w H h a u:=e.ok ok
theorem Ay(ok:gQ P w H h)(e:Rd H a (.dK kvs)):kvs.length<=qAj/\(a == qEs)=false/\∃vs,KV kvs vs/\h.DictOf (cH P w) a vs :=
 show bY P w H h a (.dK kvs) from Ax ok e
theorem Ff(ok:gQ P w H h)(e:H a=some (.dK kvs)):kvs.length<=qAj/\(a == qEs)=false/\∃vs,KV kvs vs/\h.DictOf (cH P w) a vs:=Ay ok (.inl e)
theorem pX(ok:gQ P w H h)(e:H a=some (.tup (ks.map kV))):(qHz (cH P w)).is h ks a:=by
 obtain⟨_,its,r,o,h1,h2,n,h3⟩:=(show bY P w H h a (.tup (ks.map kV)) from ok a _ e);exact⟨o,its.toArray,n,h1,h2,h3,by simpa using lT r⟩
theorem Az(ok:gQ P w H h)(e:Rd H a (.dT kvs)):kvs.length<=qAj/\(a == qEs)=false /\
  ∃xs,KT H kvs xs/\h.DictOfH (qHz (cH P w)) a xs:=by
 obtain⟨z,y,xs,r,o,es,ep,h1,h2,h3,h4,h5⟩:=(show bY P w H h a (.dT kvs) from Ax ok e);refine⟨z,y,xs,r,o,es,ep,h1,h2,h3,h4,fun x hx=>?_,h5⟩;have all:∀{l:List (List Key×V)}{m:List (List Key×Addr×qAe)},KT H l m->∀x∈m,(qHz (cH P w)).is h x.1 x.2.1:=by
  intro l m q;induction q with
  | nil=>intro x hx;exact nomatch hx
  | @cons p q ps qs hq t ih =>
   intro x hx;rcases List.mem_cons.mp hx with e | hx
   ·subst e;exact pX ok (by rw[<- hq.1];exact hq.2.1)
   ·exact ih x hx
 exact all r x hx
theorem Fg(ok:gQ P w H h)(e:H a=some (.dT kvs)):kvs.length<=qAj/\(a == qEs)=false /\
  ∃xs,KT H kvs xs/\h.DictOfH (qHz (cH P w)) a xs:=Az ok (.inl e)
end
def vW(H:Hp)(a:Addr)(y:V)(r:Option V):Prop :=
 (∃kvs k,Rd H a (.dK kvs)/\y=kV k/\r=gW kvs k)\/∃kvs k b,Rd H a (.dT kvs)/\y = .ref b/\H b=some (.tup (k.map kV))/\r=gW kvs k
def vX(H:Hp)(a:Addr)(y v:V)(H':Hp):Prop :=
 (∃kvs k,H a=some (.dK kvs)/\y=kV k/\kvs.length<qAj/\H'=upd H a (.dK (putK kvs k v))) \/
 ∃kvs k b,H a=some (.dT kvs)/\y = .ref b/\H b=some (.tup (k.map kV))/\kvs.length<qAj/\H'=upd H a (.dT (putK kvs k v))
theorem vW.t{H:Hp}{a b:Addr}{kvs:List (List Key×V)}{k:List Key}(e:H a=some (.dT kvs))(eb:H b=some (.tup (k.map kV))):vW H a (.ref b) (gW kvs k):=.inr ⟨kvs,k,b,.inl e,rfl,eb,rfl⟩
theorem vX.t{H:Hp}{a b:Addr}{kvs:List (List Key×V)}{k:List Key}{v:V}(e:H a=some (.dT kvs))(eb:H b=some (.tup (k.map kV)))(hl:kvs.length<qAj):
  vX H a (.ref b) v (upd H a (.dT (putK kvs k v))):=.inr ⟨kvs,k,b,e,rfl,eb,hl,rfl⟩
section
variable {X:Cx}{pins:List (Addr×Obj)}{σ:St}{H:Hp}{s:qAh}{a:Addr}{y v:V}{u r:qAe}{o:Option V}{A:qCc}{E:qAe->qAh->Prop}
theorem Hu(hu:A.units+1<qLe)(I:Inv X pins σ H s)(g:vW H a y o)(ry:RelV y u)(h:∀s',Inv X pins σ H s'->Q (.bool o.isSome) s'):
  qBj (qBn X.prog X.w) A (qDg .In u (.ref a)) Q E s:=by
 rcases g with ⟨kvs,k,e,ey,l⟩ | ⟨kvs,k,b,e,ey,eb,l⟩
 ·subst ey;obtain⟨z,hd,vs,rel,dd⟩:=Ay I.bV e;refine wpAny_in_of (vV ry) hd dd.mapOf ?_;rw[<- (rel.val k).iT,<- l];exact h _ (I.tok _)
 ·subst ey;cases (show u=Value.ref b from ry);obtain⟨z,hd,xs,rel,dd⟩:=Az I.bV e;refine wpAny_in_heap (tupleKind_room_in1 hu) (pX I.bV eb) hd dd ?_;have q:=(rel.val k).iT;rw[qIp] at q;rw[<- q,<- l];exact h _ (I.tok _)
theorem rD(I:Inv X pins σ H s)(mu:Ej (H a))(hs:qGt a s.heap h')(he:∃q,h'.get? a=some q)(new:bY X.prog X.w (upd H a ob) h' a ob):
  Inv X pins σ (upd H a ob) { s with heap:=h',toks:=t' } :=
 I.write (x:=a) (e:=a) mu (.inl rfl) (fun b q hb z=>(hs.2 b hb).trans z) he new
theorem BN(z:kvs.length<=qAj)(hd:(a == qEs)=false)(rel:KV kvs vs)(dd:h'.DictOf (cH P w) a vs):
  bY P w H' h' a (.dK kvs):=⟨z,hd,vs,rel,dd⟩
theorem sZ(hu:A.units+1<qLe)(I:Inv X pins σ H s)(g:vX H a y v H')(ry:RelV y u)(rv:RelV v r)(h:∀s',Inv X pins σ H' s'->Q () s'):
  qBj (qBn X.prog X.w) A (setItem (.ref a) u r) Q E s:=by
 rcases g with ⟨kvs,k,e,ey,l,eH⟩ | ⟨kvs,k,b,e,ey,eb,l,eH⟩
 ·subst ey eH;obtain⟨z,hd,vs,rel,dd⟩:=Ff I.bV e;have hz:vs.length<=qAj:=by rw[<- rel.length];exact z
  have hl:(putK kvs k v).length<=qAj:=by have:=jC kvs k v;lia
  refine wpAny_setItem_pairs (hsz:=hz) (vV ry) dd fun h' dd' hs=>h _ ?_;have he:∃q,h'.get? a=some q:=let ⟨q,_,_,hq,_⟩:=dd';⟨q,hq⟩;exact rD I (by rw[e];exact True.intro) hs he (BN hl hd (rel.put k rv) dd')
 ·subst ey eH;cases (show u=Value.ref b from ry);obtain⟨z,hd,xs,rel,dd⟩:=Fg I.bV e;have hz:xs.length<=qAj:=by rw[<- Paired.length rel];exact z
  have hl:(putK kvs k v).length<=qAj:=by have:=jC kvs k v;lia
  refine wpAny_setItem_heap (hsz:=hz) (tupleKind_room_in1 hu) (pX I.bV eb) dd fun h' dd' hs=>h _ ?_;obtain⟨q,es,ep,hq,h2,h3,h4,_,h5⟩:=dd';refine rD I (by rw[e];exact True.intro) hs ⟨q,hq⟩ ⟨hl,hd,_,(rel.put k eb rv).keeps fun c ys ec=>?_,q,es,ep,hq,h2,h3,h4,h5⟩;rw[aK (cL ec e (fun z=>nomatch z))];exact ec
end
section
variable {X:Cx}{pins:List (Addr×Obj)}{σ:St}{H:Hp}{s:qAh}{a:Addr}{kvs:List (Key×V)}{k:Key}{u:qAe}{A:qCc}{E:qAe->qAh->Prop}
end
def Hv(ty td:TE):TE:=fun σ H Q=>ty σ H fun y H1=>td σ H1 fun x H2=>∃a o,x = .ref a/\vW H2 a y o/\Q (.bl o.isSome) H2
def Fh(td ty tv:TE):TS:=fun D σ H=>tv σ H fun v H1=>td σ H1 fun x H2=>ty σ H2 fun y H3=>∃a H4,x = .ref a/\vX H3 a y v H4/\D.nx σ H4
section
variable {X:Cx}{o i e value:Expr}{pos pos' tpos:Pos}{td ty tv:TE}
theorem BO(hu:X.A.units+1<qLe)(hi:PE X i ty)(ho:PE X o td):PC X .In i o (Hv ty td):=by
 intro pins s σ H Q I h;refine bI (hi pins s σ H _ I h) fun iv s1 ⟨y,H1,I1,ry,q1⟩=>bI (ho pins s1 σ H1 _ I1 q1) fun u s2 ⟨x,H2,I2,rx,a,ov,ex,g,q2⟩=>?_;subst ex;obtain rfl:u=Value.ref a:=rx;exact Hu hu I2 g ry fun s3 I3=>⟨.bl ov.isSome,H2,I3,rfl,q2⟩
theorem yX(hu:X.A.units+1<qLe)(ho:PE X o td)(hi:PE X i ty)(hv:PE X value tv)(hs:qIa value (some (.Subscript o i pos')) pos.line X.env=pure false):
  PS X (.Assign [.Subscript o i pos'] value pos) (Fh td ty tv):=by
 intro pins s σ H D I h;refine wpAny_Assign_Subscript (bI (hv pins s σ H _ I h) fun r s1 ⟨v,H1,I1,rv,q1⟩=>bI (ho pins s1 σ H1 _ I1 q1) fun u s2 ⟨x,H2,I2,rx,q2⟩=>bI (hi pins s2 σ H2 _ I2 q2) fun iv s3 ⟨y,H3,I3,ry,a,H4,ex,g,q3⟩=>?_) hs;subst ex;obtain rfl:u=Value.ref a:=rx;exact sZ hu I3 g ry rv fun s4 I4=>⟨σ,H4,I4,q3⟩
end
section
variable {κ:Type} [DecidableEq κ]
end
theorem vY(h:Heap)(hb:qEs<h.objs.size):bY P w H (h.push { cls:=.type "dict",data:=.dict #[] }) h.objs.size (.dT []) :=
 ⟨qBq _,beq_eq_false_iff_ne.mpr (Ne.symm (qBe hb)),[],.nil,_,#[],0,qBb _ rfl,⟨rfl,rfl,rfl⟩,rfl,rfl,qHl⟩
def BP:TE:=fun _ H Q=>∀p,H p=none->Q (.ref p) (upd H p (.dT []))
section
variable {X:Cx}{pos:Pos}
theorem vZ:PE X (.Dict [] [] pos) BP:=fun pins s σ H Q I h =>
 wpAny_Dict_empty ⟨.ref s.heap.objs.size,_,I.laid (a:=s.heap.objs.size) (o:=.dT []) (t':=s.toks) (fun _ _ q=>qAg _ q) (qAk _) (vY s.heap I.big),rfl,h _ (I.bV.fresh (qAk _))⟩
end
end L2
namespace PySem.W
open PySem PySem.Calls PyProof.Rows
def KasT.Ok{α:Type}(n:Nat)(P:α->Prop):KasT α->Prop
 | .ret a=>P a
 | .ask i j k=>i<n/\j<n/\∀b,(k b).Ok n P
theorem KasT.Ok.bind{α β:Type}{n:Nat}{P:α->Prop}{P':β->Prop}{f:α->KasT β}:∀{t:KasT α},t.Ok n P->(∀a,P a->(f a).Ok n P')->(t.bind f).Ok n P'
 | .ret a,h,hf=>hf a h
 | .ask i j k,h,hf=>⟨h.1,h.2.1,fun b=>KasT.Ok.bind (h.2.2 b) hf⟩
def KasT.run{α:Type}(lt:Nat->Nat->Bool):KasT α->α
 | .ret a=>a
 | .ask i j k=>(k (lt i j)).run lt
theorem KasT.Ok.wp(lt:Nat->Nat->Bool)(hc:∀i j C,i<n->j<n->C (lt i j) s->cmp i j C s):
  ∀{t:KasT α},t.Ok n P->(∀a,P a->a=t.run lt->Q a s)->t.kasWp cmp Q s
 | .ret a,h,hQ=>hQ a h rfl
 | .ask i j k,h,hQ=>hc i j _ h.1 h.2.1 (KasT.Ok.wp lt hc (h.2.2 (lt i j)) hQ)
def eV(n:Nat)(p:Array Nat):Prop:=p.toList.Perm (qAq n)
theorem eV.lt(h:eV n p)(hn:0<n)(i:Nat):p.getD i 0<n:=by
 by_cases hi:i<p.size
 ·have e:p.getD i 0=p[i]:=by simp[qEt,hi]
  rw[e];exact List.mem_range.mp (h.mem_iff.mp (by simp))
 ·have e:p.getD i 0=0:=by simp[qEt,hi]
  rw[e];exact hn
theorem eV.rev(h:eV n p)(i j:Nat):eV n (kas_rev p i j):=(Array.perm_iff_toList_perm.mp (mirror_perm p i j ((j-i)/2))).trans h
theorem eV.Iv(h:eV n p)(i j:Nat):eV n (bubble p i j):=(Array.perm_iff_toList_perm.mp (bubble_perm p i j)).trans h
theorem pY(h:eV n p)(hn:0<n):∀f m,(kas_asc p f m).Ok n (fun _=>True)
 | 0,m=>trivial
 | f+1,m=>⟨h.lt hn _,h.lt hn _,fun b=>by
  cases b with
  | true=>exact trivial
  | false=>exact pY h hn f (m+1)⟩
theorem jQ(hn:0<n):∀f p m q,eV n p->(kas_desc f p m q).Ok n (fun r=>eV n r.1)
 | 0,p,m,q,h=>h
 | f+1,p,m,q,h=>⟨h.lt hn _,h.lt hn _,fun b=>by
  cases b with
  | true =>
   show KasT.Ok n _ (if q>0 then _ else _);split
   ·exact jQ hn f _ _ _ (h.rev _ _)
   ·exact jQ hn f _ _ _ h
  | false=>exact⟨h.lt hn _,h.lt hn _,fun d=>by
    cases d with
    | true=>exact h
    | false=>exact jQ hn f _ _ _ h⟩⟩
theorem oG{n:Nat}(hn:0<n)(a m:Nat){p:Array Nat}(h:eV n p):(kas_tail3 a m p).Ok n (fun r=>eV n r.2) :=
 KasT.Ok.bind (pY (h.rev 0 a) hn _ _) fun _ _=>h.rev 0 a
theorem jD{n:Nat}(hn:0<n)(a m:Nat){p:Array Nat}(h:eV n p):(kas_descPart a m p).Ok n (fun r=>eV n r.2) :=
 KasT.Ok.bind (jQ hn _ _ _ _ h) fun r hr=>by
  show KasT.Ok n _ (if r.2.2>0 then _ else _);split
  ·exact oG hn _ _ (hr.rev _ _)
  ·exact oG hn _ _ hr
theorem v3{n:Nat}(hn:0<n)(m:Nat){p:Array Nat}(h:eV n p):(kas_count m p).Ok n (fun r=>eV n r.2) :=
 KasT.Ok.bind (pY h hn _ _) fun a _=>by
  show KasT.Ok n _ (if (a == m)=true then _ else if a>1 then _ else _);split
  ·exact h
  ·split
   ·exact⟨h.lt hn _,h.lt hn _,fun b=>by
     cases b with
     | true=>exact h
     | false=>exact jD hn _ _ (h.rev _ _)⟩
   ·exact jD hn _ _ h
theorem kF(h:eV n p)(hn:0<n)(k:Nat):∀f l r,(kas_place p k f l r).Ok n (fun _=>True)
 | 0,l,r=>trivial
 | f+1,l,r=>by
  show KasT.Ok n _ (if l≥r then _ else _);split
  ·exact trivial
  ·exact⟨h.lt hn _,h.lt hn _,fun b=>by
    cases b with
    | true=>exact kF h hn k f _ _
    | false=>exact kF h hn k f _ _⟩
theorem v5{n:Nat}(hn:0<n):∀f p k,eV n p->(kas_bin f p k).Ok n (eV n)
 | 0,p,k,h=>h
 | f+1,p,k,h=>KasT.Ok.bind (kF h hn k _ _ _) fun l _=>v5 hn f _ _ (h.Iv _ _)
theorem nA{n:Nat}(hn:0<n):(kas_sort n).Ok n (eV n) :=
 KasT.Ok.bind (v3 hn n (show eV n (qDd (qAq n)) from List.Perm.refl _)) fun r hr=>by
  show KasT.Ok n _ (if r.1<n then _ else _);split
  ·exact v5 hn _ _ _ hr
  ·exact hr
section
variable {prog:qBd}{w:qCb}{A:qCc}{E:qAe->qAh->Prop}{s:qAh}
theorem tD(h:n<2)(lt:Nat->Nat->Bool):(kas_sort n).run lt=qDd (qAq n):=by
 have c:n=0\/n=1:=by lia
 rcases c with rfl | rfl
 ·rfl
 ·rfl
theorem k8(ho:s.heap.get? a=some (qCo "list" vs.toArray n))(h64:vs.length<64)(lt:Nat->Nat->Bool)
  (ht:∀h',(∀b o,b≠a->s.heap.get? b=some o->h'.get? b=some o)->KatTups h' vs fs) (hT:∀v∈fs,∃i t,v=Value.int i t)
  (ask:∀h',(∀b o,b≠a->s.heap.get? b=some o->h'.get? b=some o)->∀i j C,i<vs.length->j<vs.length->C (lt i j) { s with heap:=h' }->kas_ask prog w A (tuples' true) vs i j C { s with heap:=h' })
  (h:∀p:Array Nat,eV vs.length p->p=(kas_sort vs.length).run lt->P (.done (.ret .none)) { s with heap:=qHi s.heap a vs (qDd (p.toList.map fun i=>vs.getD i Value.none)) }) :
  qBj (qBn prog w) A (Builtin.«list.sort» ⟨[.ref a],[]⟩) P E s:=by
 have ha:a<s.heap.objs.size:=qAs ho;have hsz:vs.toArray.size=vs.length:=by simp
 rw[list_sort_plain];refine qAd (listItems_at ho rfl ?_);refine qAd (listUpdate_at ho rfl ?_ (by rw[qAp,qEh];lia) (qBq _));obtain⟨e1,ho1⟩:∃e1,(s.heap.update a (Obj.mapSeq fun _=>(#[]:Array qAe))).get? a=some (qCo "list" #[] e1):=⟨_,qFd ho fun _=>#[]⟩;refine qAd (seqEpoch_at ho1 rfl ?_);refine qAd (wpAny_newTuple ?_ (by show vs.length<=_;rw[qEh];lia));refine qAd (wpAny_newList ?_ (qBq _));refine qCn ?_;have ho6:(((s.heap.update a (Obj.mapSeq fun _=>(#[]:Array qAe))).push (qCo "tuple" vs.toArray 0)).push (qCo "list" #[] 0)).get? a=some (qCo "list" #[] e1):=by
  rw[qJi _ _ _ (by rw[qIu,qFm];exact qBe (qGr ha)),qJi _ _ _ (by rw[qFm];exact qBe ha)];exact ho1
 have keep:∀b o,b≠a->s.heap.get? b=some o->(((s.heap.update a (Obj.mapSeq fun _=>(#[]:Array qAe))).push (qCo "tuple" vs.toArray 0)).push (qCo "list" #[] 0)).get? b=some o:=fun b o hb q=>by
  refine qAg _ (qAg _ ?_);rw[qEx _ _ _ _ hb];exact q
 show qBj (qBn prog w) A _ P E { s with heap:=((s.heap.update a (Obj.mapSeq fun _=>(#[]:Array qAe))).push (qCo "tuple" vs.toArray 0)).push (qCo "list" #[] 0) };dsimp only;by_cases h2:vs.toArray.size<2
 ·rw[if_pos h2,if_pos h2];refine qAd (qAr ?_);rw[StateT.run_pure];refine qAd (qAr ?_);dsimp only;refine qAd (seqEpoch_at ho6 rfl ?_);refine qAd (listUpdate_at ho6 rfl ?_ (qBq _) (by rw[Array.size_map];show(pairsOf vs).size<=_;rw[pairsOf_size,qEh];lia));simp only[bne_self_eq_false,qGj,if_false];have e:(arrOf (SortSt.mk' general' (vs.toArray.zip vs.toArray) #[] 7 none)).map (·.2)=qDd ((qDd (qAq vs.length)).toList.map fun i=>vs.getD i Value.none):=by
   have hr:=kas_range (vs.toArray.zip vs.toArray);rw[show(vs.toArray.zip vs.toArray).size=vs.length by simp] at hr;exact kat_snds (ks:=vs) (vs:=vs) rfl (st:=SortSt.mk' general' (vs.toArray.zip vs.toArray) #[] 7 none) (p:=qDd (qAq vs.length)) hr.symm
  have z:=h (qDd (qAq vs.length)) (List.Perm.refl _) (tD (by lia) lt).symm;rw[<- e] at z;exact qAr z
 ·rw[if_neg h2,if_neg h2];have h2':2<=vs.length:=by lia
  refine qAd (kat_kind (T:=.type "int") (ht _ keep) ?_ (fun v hv=>?_) (by decide) ?_)
  ·have t:=ht _ keep;cases vs with
   | nil=>simp at h2'
   | cons v r =>
    cases fs with
    | nil=>exact t.elim
    | cons f fr=>exact qKv _
  ·obtain⟨i,t,rfl⟩:=hT v hv;exact .now
  show qBj (qBn prog w) A _ P E _;refine qAd (qFo (kat_run (ks:=vs) (κ:=tuples' true) (G:=fun p s'=>(eV vs.length p/\p=(kas_sort vs.length).run lt)/\s'={ s with heap:=((s.heap.update a (Obj.mapSeq fun _=>(#[]:Array qAe))).push (qCo "tuple" vs.toArray 0)).push (qCo "list" #[] 0) })
   (Q:=fun st' s'=>∃p:Array Nat,p.size=vs.length/\arrOf st'=p.map (kas_item (vs.toArray.zip vs.toArray))/\failedOf st'=none/\(eV vs.length p/\p=(kas_sort vs.length).run lt)/\s'={ s with heap:=((s.heap.update a (Obj.mapSeq fun _=>(#[]:Array qAe))).push (qCo "tuple" vs.toArray 0)).push (qCo "list" #[] 0) })
   rfl h2' h64 (fun p' st' s' a1 a2 a3 a4=>⟨p',a1,a2,a3,a4.1,a4.2⟩) ((nA (by lia)).wp lt (ask _ keep) fun p hp hrun=>⟨⟨hp,hrun⟩,rfl⟩)) ?_ fun _ _ e=>e)
  rintro⟨⟨⟩,st'⟩ s' ⟨p,hp,har,hf,hpm,rfl⟩;dsimp only;have hout:=kat_snds (ks:=vs) (vs:=vs) rfl har;rw[hout];refine qAd (seqEpoch_at ho6 rfl ?_);refine qAd (listUpdate_at ho6 rfl ?_ (qBq _) (by rw[qAp,qAb,qBz,hp,qEh];lia));rw[hf];simp only[bne_self_eq_false,qGj,if_false];exact qAr (h p hpm.1 hpm.2)
def gH(h:Heap)(vs:List qAe):Heap:=((h.push (qCo "list" #[] 0)).update h.objs.size (Obj.mapSeq (· ++ vs.toArray))).push (qCo "list" vs.toArray 0)
theorem iE(q:h.get? b=some o):(gH h vs).get? b=some o:=by
 have hlt:b<h.objs.size:=qAs q;refine qAg _ ?_;rw[qEx _ _ _ _ (qBe hlt)];exact qAg _ q
theorem pZ(hl:s.heap.IsList l vs.toArray)(h64:vs.length<64)(lt:Nat->Nat->Bool)
  (ht:∀h':Heap,(∀b o,s.heap.get? b=some o->h'.get? b=some o)->KatTups h' vs fs) (hT:∀v∈fs,∃i t,v=Value.int i t)
  (ask:∀h':Heap,(∀b o,s.heap.get? b=some o->h'.get? b=some o)->∀i j C,i<vs.length->j<vs.length->C (lt i j) { s with heap:=h' }->kas_ask prog w A.in1.in1 (tuples' true) vs i j C { s with heap:=h' })
  (h:∀p:Array Nat,eV vs.length p->p=(kas_sort vs.length).run lt->Q (.ref (s.heap.objs.size+1)) { s with heap:=sortedAll s.heap vs (qDd (p.toList.map fun i=>vs.getD i Value.none)) }) :
  qBj (qBn prog w) A (call (.builtin "sorted") [.ref l]) Q E s:=by
 refine Calls.call_function_entry kind_sorted plain_sorted entry_sorted (args_sorted1 _) ?_;unfold Builtin.«sorted»;refine qAd (m:=checkCount "sorted" 1 1 _) (qAr ?_);refine qAd (collect_list hl ?_ (by rw[qEh];lia));refine qAd (wpAny_newList ?_ (by rw[qEh];lia));have hsz:((s.heap.push (qCo "list" #[] 0)).update s.heap.objs.size (Obj.mapSeq (· ++ vs.toArray))).objs.size=s.heap.objs.size+1:=by
  rw[qFm,qIu]
 have hoL:(((s.heap.push (qCo "list" #[] 0)).update s.heap.objs.size (Obj.mapSeq (· ++ vs.toArray))).push (qCo "list" vs.toArray 0)).get? (s.heap.objs.size+1)=some (qCo "list" vs.toArray 0):=by
  rw[<- hsz];exact qBb _ rfl
 show qBj _ _ _ _ _ { s with heap:=((s.heap.push (qCo "list" #[] 0)).update s.heap.objs.size (Obj.mapSeq (· ++ vs.toArray))).push (qCo "list" vs.toArray 0) };rw[hsz];have kp:∀h':Heap,(∀b o,b≠s.heap.objs.size+1->(gH s.heap vs).get? b=some o->h'.get? b=some o)->∀b o,s.heap.get? b=some o->h'.get? b=some o:=fun h' hk b o q =>
  hk b o (qBe (qGr (qAs q))) (iE q)
 refine qAd (qCn (wpAny_call_entry slot_list_sort ⟨_,hoL,rfl⟩ entry_list_sort (k8 (s:={ s with heap:=gH s.heap vs }) (fs:=fs) hoL h64 lt (fun h' hk=>ht h' (kp h' hk)) hT (fun h' hk i j C hi hj hC=>ask h' (kp h' hk) i j C hi hj hC) fun p hp hrun=>⟨_,rfl,?_⟩) (args_list_sort _)));exact qAr ⟨_,rfl,h p hp hrun⟩
end
end PySem.W
namespace L2
open PySem PySem.Spec PyProof.Rows PySem.W
theorem rE:∀(vs us:List qAe) (ns ms:List Int) (i:Nat),qGu vs ns->qGu us ms->Q (HT.lexLt ns ms) s->KatLex prog w A true (decide (vs.length<us.length)) Q (vs.zip us) i s
 | [],[],_,_,i,.nil,.nil,h=>h
 | [],_::_,_,_,i,.nil,.cons ..,h=>by
  show Q (decide _) s;rw[decide_eq_true (by simp)];exact h
 | _::_,[],_,_,i,.cons ..,.nil,h=>by
  show Q (decide _) s;rw[decide_eq_false (by simp)];exact h
 | _,_,_,_,i,.cons n t (vs:=vs) (ns:=ns) hv,.cons m u (vs:=us) (ns:=ms) hu,h=>by
  show KatLex prog w A true (decide (vs.length+1<us.length+1)) Q ((Value.int n t,Value.int m u)::vs.zip us) i s;refine kat_cons ((SeqAt.EqAt.int_int n t m u) prog w _ _ ?_);rw[show decide (vs.length+1<us.length+1)=decide (vs.length<us.length) from decide_eq_decide.mpr (by lia)];rw[HT.fA] at h;by_cases e:n=m
  ·rw[if_pos e] at h;rw[show(n == m)=true from by simpa using e];exact kat_yes (rE vs us ns ms (i+1) hv hu h)
  ·rw[if_neg e] at h;rw[show(n == m)=false from by simpa using e];refine kat_no ?_;cases hb:(true&&i == 0) with
   | true=>exact oneLt_int h
   | false=>exact kat_one _ _ (qKt h)
def intOf:V->Int
 | .int i=>i
 | _=>0
def eM(H:Hp)(a:Addr):List Int:=match H a with
 | some (.tup xs)=>xs.map intOf
 | _=>[]
theorem eW(h:H a=some (.tup (ns.map V.int))):eM H a=ns:=by
 unfold eM;rw[h];show(ns.map V.int).map intOf=ns;rw[qBw];exact List.map_id'' (fun _=>rfl) ns
theorem lU:∀{as:List Addr}{us:List qAe},Vals (as.map V.ref) us->us=as.map Value.ref
 | [],_,.nil=>rfl
 | a::as,_,.cons r t=>by
  cases r
  rw[lU t];rfl
theorem lV:∀(as:List Addr),Vals (as.map V.ref) (as.map Value.ref)
 | []=>.nil
 | a::as=>.cons rfl (lV as)
section
variable {X:Cx}{pins:List (Addr×Obj)}{σ:St}{H:Hp}{s:qAh}
def v7(H:Hp)(a:Addr):Prop:=∃(i:Int) (ns:List Int),H a=some (.tup ((i::ns).map V.int))
theorem v7.there(I:Inv X pins σ H s){a:Addr}(h:v7 H a):∃(o:Obj) (xs:List qAe) (n:Nat) (i:Int) (t:Tok),s.heap.get? a=some o/\o.cls = .type "tuple"/\o.data = .seq xs.toArray n/\qGu xs (eM H a)/\xs[0]?=some (.int i t):=by
 obtain⟨i,ns,h⟩:=h;obtain⟨its,r,⟨o,h1,h2,n,h3⟩,_⟩:=I.tuple (dE.of h);have hi:=intsAre_of r;rw[<- eW h] at hi;refine⟨o,its,n,i,?_⟩;obtain⟨u,hu,⟨t,rfl⟩⟩:=r.get (i:=0) (x:=.int i) rfl;exact⟨t,h1,h2,h3,hi,hu⟩
theorem kG(I:Inv X pins σ H s):∀(as:List Addr),(∀a∈as,v7 H a)->∃fs,(∀v∈fs,∃i t,v=Value.int i t)/\∀h':Heap,(∀b o,s.heap.get? b=some o->h'.get? b=some o)->KatTups h' (as.map Value.ref) fs
 | [],_=>⟨[],fun v hv=>(by cases hv),fun _ _=>KatTups.nil⟩
 | a::as,h=>by
  obtain⟨fs,h1,h2⟩:=kG I as fun b hb=>h b (by simp[hb]);obtain⟨o,xs,n,i,t,g1,g2,g3,g4,g5⟩:=(h a (by simp)).there I;refine⟨.int i t::fs,fun v hv=>?_,fun h' k=>KatTups.cons (k _ _ g1) g2 g3 (by simpa using g5) (h2 h' k)⟩;rcases List.mem_cons.mp hv with rfl | hv
  ·exact⟨i,t,rfl⟩
  ·exact h1 v hv
theorem jL(hb:b≠a)(q:h.get? b=some o):(qHi h a vs out).get? b=some o:=by
 unfold qHi;rw[qEx _ _ _ _ hb];refine qAg _ (qAg _ ?_);rw[qEx _ _ _ _ hb];exact q
theorem sortedHeap_at(ho:h.get? a=some (qCo "list" vs.toArray n)):∃c,(qHi h a vs out).get? a=some (qCo "list" out c):=by
 obtain⟨e1,ho1⟩:∃e1,(h.update a (Obj.mapSeq fun _=>(#[]:Array qAe))).get? a=some (qCo "list" #[] e1):=⟨_,qFd ho fun _=>#[]⟩;unfold qHi;exact⟨_,qFd (qAg _ (qAg _ ho1)) fun _=>out⟩
theorem range_getD(as:List Addr):(qAq as.length).map (fun i=>as.getD i 0)=as:=by
 refine List.ext_getElem (by simp) fun i h1 h2=>?_;simp[h2]
theorem k9:eR X (.builtin "sorted") (fun xs H Q=>∃(p:Addr) (as:List Addr),xs=[.ref p]/\aT X.K H p (as.map V.ref)/\(∀a∈as,v7 H a)/\as.length<64/\∀(l:Addr) (bs:List Addr),H l=none->bs.Perm as->bs=((kas_sort as.length).run fun i j=>HT.lexLt (eM H (as.getD i 0)) (eM H (as.getD j 0))).toList.map (fun i=>as.getD i 0)->Q (.ref l) (upd H l (.lst (bs.map V.ref)))):=by
 intro pins s σ H xs us Q I r h;obtain⟨p,as,rfl,hq,ht,h64,q⟩:=h;obtain⟨u,rfl,rx⟩:=vals1 r;cases rx;obtain⟨its,r',pl,hz⟩:=I.list hq;obtain rfl:=lU r';obtain⟨fs,f1,f2⟩:=kG I as ht;have hlen:(as.map Value.ref).length=as.length:=qAb _;refine pZ pl.isList (by rw[hlen];exact h64) (fun i j=>HT.lexLt (eM H (as.getD i 0)) (eM H (as.getD j 0))) f2 f1 (fun h' k i j C hi hj hC=>?_) fun pm hp hrun=>?_
 ·rw[hlen] at hi hj;obtain⟨o1,x1,n1,_,_,a1,a2,a3,a4,_⟩:=(ht (as.getD i 0) (by rw[qAt,qAf hi];exact qEo hi)).there I;obtain⟨o2,x2,n2,_,_,b1,b2,b3,b4,_⟩:=(ht (as.getD j 0) (by rw[qAt,qAf hj];exact qEo hj)).there I;have e:∀i,i<as.length->(as.map Value.ref).getD i Value.none = .ref (as.getD i 0):=fun i hi=>by
   rw[qAt,qAu,qAf hi,qAt,qAf hi];rfl
  unfold kas_ask;rw[e i hi,e j hj];refine kat_lt (k _ _ a1) a3 (k _ _ b1) b3 ?_;simpa using rE x1 x2 _ _ 0 a4 b4 hC
 ·rw[hlen] at hp;have kp:∀b o,s.heap.get? b=some o->(sortedAll s.heap (as.map Value.ref) (qDd (pm.toList.map fun i=>(as.map Value.ref).getD i Value.none))).get? b=some o:=fun b o e =>
   jL (h:=gH s.heap (as.map Value.ref)) (qBe (qGr (qAs e))) (iE e)
  have hsz:((s.heap.push (qCo "list" #[] 0)).update s.heap.objs.size (Obj.mapSeq (· ++ (as.map Value.ref).toArray))).objs.size=s.heap.objs.size+1:=by
   rw[qFm,qIu]
  have hoL:(gH s.heap (as.map Value.ref)).get? (s.heap.objs.size+1)=some (qCo "list" (as.map Value.ref).toArray 0):=by
   unfold gH;rw[<- hsz];exact qBb _ rfl
  obtain⟨c,hc⟩:=sortedHeap_at (out:=qDd (pm.toList.map fun i=>(as.map Value.ref).getD i Value.none)) hoL;have eo:(pm.toList.map fun i=>(as.map Value.ref).getD i Value.none)=(pm.toList.map fun i=>as.getD i 0).map Value.ref:=by
   rw[qBw];refine qDj fun i hi=>?_;have hi:i<as.length:=List.mem_range.mp (hp.mem_iff.mp hi);show _=Value.ref (as.getD i 0);rw[qAt,qAu,qAf hi,qAt,qAf hi];rfl
  have hpm:(pm.toList.map fun i=>as.getD i 0).Perm as:=by
   have z:=hp.map (fun i=>as.getD i 0);rw[range_getD] at z;exact z
  refine⟨.ref (s.heap.objs.size+1),_,I.laid (a:=s.heap.objs.size+1) (o:=.lst ((pm.toList.map fun i=>as.getD i 0).map V.ref)) (t':=s.toks) kp (qHf _) ?_,rfl,q _ _ (I.bV.fresh (qHf _)) hpm (by rw[hrun,hlen])⟩;refine⟨?_,(pm.toList.map fun i=>as.getD i 0).map Value.ref,c,lV _,?_⟩
  ·rw[qAb,hpm.length_eq,qEh];lia
  ·rw[<- eo];exact hc
theorem tE:qBv "sorted"=some (.builtin "sorted"):=by decide +kernel
end
section
variable {X:Cx}{a b c d:Expr}{ta tb tc td:TE}{pos:Pos}
def yY(r r' r'':R2)(ta tb tc td:TE):TT:=fun σ H Q=>ta σ H fun x H1=>tb σ H1 fun y H2=>r x y H2 fun z H3=>∃k,z = .bl k /\
 (if k=true then tc σ H3 fun w' H4=>r' y w' H4 fun z2 H5=>∃k2,z2 = .bl k2/\(if k2=true then td σ H5 fun v' H6=>r'' w' v' H6 fun z3 H7=>∃k3,z3 = .bl k3/\Q k3 H7 else Q false H5) else Q false H3)
theorem tF(ho:gX X (qDg op) r)(ho':gX X (qDg op') r')(ho'':gX X (qDg op'') r'')(ha:PE X a ta)(hb:PE X b tb)(hc:PE X c tc)(hd:PE X d td)
  (hm:lastMarks [op,op',op''] [b,c,d]=false:=by with_unfolding_all rfl):PT X (.Compare a [op,op',op''] [b,c,d] pos) (yY r r' r'' ta tb tc td):=by
 intro pins s σ H Q I h;refine isTrue_chain (bI (ha pins s σ H _ I h) fun v s1 ⟨x,H1,I1,r1,q1⟩=>test_link (bI (hb pins s1 σ H1 _ I1 q1) fun u s2 ⟨y,H2,I2,r2,q2⟩ =>
  bI (ho pins s2 σ H2 x y v u _ I2 r1 r2 q2) fun e1 s3 ⟨z,H3,I3,r3,k,e,q3⟩=>?_)) hm
 subst e;cases r3;refine qBy ?_;cases k with
 | false=>exact ite_ff ⟨H3,I3,q3⟩
 | true =>
  refine ite_tt (test_link (bI (hc pins s3 σ H3 _ I3 q3) fun w' s4 ⟨z',H4,I4,r4,q4⟩=>bI (ho' pins s4 σ H4 y z' u w' _ I4 r2 r4 q4) fun d' s5 ⟨z2,H5,I5,r5,k2,e2,q5⟩=>?_));subst e2;cases r5;refine qBy ?_;cases k2 with
  | false=>exact ite_ff ⟨H5,I5,q5⟩
  | true =>
   refine ite_tt (test_last (bI (hd pins s5 σ H5 _ I5 q5) fun v' s6 ⟨z4,H6,I6,r6,q6⟩=>bI (ho'' pins s6 σ H6 z' z4 w' v' _ I6 r4 r6 q6) fun d2 s7 ⟨z3,H7,I7,r7,k3,e3,q7⟩=>?_));subst e3;cases r7;exact qBy ⟨H7,I7,q7⟩
theorem yZ:Ar X "list.pop" ER:=Bv
theorem tG:Ar X "list.clear" vD:=vE
end
section
variable {K:qAa}{a:Addr}{xs:List V}{σ0:St}{H1:Hp}{g:TG}{c:TT}{te:TE}{Q:Addr->Hp->Prop}
theorem lW(Ag:St->Prop)(f:Nat->V->Option V)(h0:Ag σ0)(hq:aT K H1 a xs)(hn:xs.length<=qAj)
  (step:∀(i:Nat) (x:V) (σ1:St) (H2:Hp) (k:St->VK) (k0:St->Hp->Prop),Ag σ1->aI H1 H2->xs[i]?=some x->(∀σ2 y,Ag σ2->f i x=some y->∀H3,aI H2 H3->k σ2 y H3)->(∀σ2,Ag σ2->f i x=none->∀H3,aI H2 H3->k0 σ2 H3) ->
   g x σ1 H2 fun σ2 H3=>c σ2 H3 fun b H4=>if b=true then te σ2 H4 (k σ2) else k0 σ2 H4)
  (h:∀D H2,H1 D=none->aI H1 H2->H2 D=some (.lst ((qAq xs.length).filterMap fun i=>(xs[i]?).bind (f i)))->Q D H2) :
  ∀D,H1 D=none->∃W:Nat->Nat->St->Hp->Prop,(∃m,W 0 m σ0 (upd H1 D (.lst [])))/\∀i m σ1 H2,W i m σ1 H2 ->
   ((pF K a).stop i H2/\Q D H2)\/((pF K a).go i H2/\∃N:St->Hp->Prop,(∀σ' H',N σ' H'->∃m',m'<m/\W (i+1) m' σ' H') /\
    ∀x H',(pF K a).uR i H2 x H'->g x σ1 H' fun σ2 H3=>c σ2 H3 fun b H4=>if b=true then te σ2 H4 fun y H5=>∃xs,H5 D=some (.lst xs)/\xs.length<qAj/\N σ2 (upd H5 D (.lst (xs++[y]))) else N σ2 H4):=by
 intro D hD;refine⟨fun i m σ1 H2=>Ag σ1/\aI H1 H2/\H2 D=some (.lst ((qAq i).filterMap fun i=>(xs[i]?).bind (f i)))/\i<=xs.length/\m=xs.length-i,⟨xs.length,h0,.aJ hD,aB,qBq _,rfl⟩,?_⟩;rintro i m σ1 H2 ⟨hσ,hs,hd,hi,rfl⟩;rcases qBo i xs.length with hlt | hge
 ·right
  refine⟨⟨xs,xs[i],hs.seq hq,by simp[hlt]⟩,fun σ' H'=>Ag σ'/\aI H1 H'/\H' D=some (.lst ((qAq (i+1)).filterMap fun i=>(xs[i]?).bind (f i))),fun σ' H' ⟨a,b,c⟩=>⟨xs.length-(i+1),by lia,a,b,c,hlt,rfl⟩,?_⟩;rintro x H' ⟨rfl,hx⟩;have hx:=hx xs (hs.seq hq);refine step i x σ1 _ (fun σ2 y H5=>∃xs,H5 D=some (.lst xs)/\xs.length<qAj/\_) _ hσ hs hx (fun σ2 y a2 hy H3 hs3=>⟨_,hs3 _ _ hd,?_,a2,?_,?_⟩) fun σ2 a2 hno H3 hs3=>⟨a2,hs.trans hs3,?_⟩
  ·refine qCg (qDz _ _) ?_;rw[qCy];lia
  ·exact(hs.trans hs3).upd_ne' hD
  ·rw[aB,qCp,qCm];simp[hx,hy]
  ·rw[hs3 _ _ hd,qCp,qCm];simp[hx,hno]
 ·left
  obtain rfl:i=xs.length:=qEe hi hge;exact⟨⟨xs,hs.seq hq,qAk _⟩,h D _ hD hs hd⟩
end
section
variable {X:Cx}{Ex:XS}{o e:Expr}{es:List Expr}{ta:TE}{t:TA}{m:Str}{apos pos:Pos}{j k:Nat}
end
section
variable {X:Cx}
end
section
variable {K:qAa}{a:Addr}{xs:List V}{σ0:St}{H1:Hp}{i0:Nat}{c:TT}{te:TE}{Q:Addr->Hp->Prop}
end
section
variable {M:Model}{A:qCc}{E:qAe->qAh->Prop}{s:qAh}
end
section
variable {X:Cx}{NB:List Str}{pick:List (Option Nat)}{sc:qHh}{cl:List (Str×Addr)}{y0:Str}{pins:List (Addr×Obj)}{σ:St}{H:Hp}{s:qAh}{fp:List Addr}
end
section
variable {X:Cx}{NB:List Str}{pick:List (Option Nat)}{sc:qHh}{cl:List (Str×Addr)}{y0:Str}{elt target iter:Expr}{ifs:List Expr}{pos:Pos}{wi:TI}{g:TG}{c:TT}{te:TE}
end
end L2
namespace HT
open PySem PyProof.Rows
section
open PySem.SeqAt
open PySem.AutoSeq1 (wpAny_loadPart')
open PySem.MeetsSeq PySem.MeetsSeq2 PySem.MeetsSeq3
end
section
variable {prog:qBd}{w:qCb}{A:qCc}{E:qAe->qAh->Prop}{s:qAh}
end
end HT
namespace L2
open PySem PySem.Spec PyProof.Rows
section
variable {X:Cx}
end
section
variable {X:Cx}
end
end L2
namespace PySem
section
variable {prog:qBd}{w:qCb}{K:Type} [DecidableEq K] {knd:HeapKind prog w K}{A:qCc}{E:qAe->qAh->Prop}{s:qAh}
end
section
variable {prog:qBd}{w:qCb}{K:Type} [DecidableEq K] {knd:KeyKind prog w K}{A:qCc}{E:qAe->qAh->Prop}{s:qAh}
end
end PySem
namespace L2
open PySem PySem.Spec PyProof.Rows
section
variable {X:Cx}
end
section
variable {X:Cx}
end
section
variable {X:Cx}
end
end L2
set_option maxHeartbeats 4000000
namespace L2
open PySem PySem.Spec PyProof.Rows
section
variable {X:Cx}{pins:List (Addr×Obj)}{σ:St}{H:Hp}{s:qAh}
theorem v8(F:eJ X.prog X.w X.K X.mg X.base cI k f fd ps sp)(hr:bX (k+1) X.A)(hb:Binds X.K fd ps [])(I:Inv X pins σ H s)(r:Vals vs us)(h:sp vs H Q E0):
  qBj (qBn X.prog X.w) X.A.in1 (call (.ref f) us) (EP X pins σ Q) (fun _ _=>False) s:=by
 have hl:(us++[]).length=ps.length:=by rw[qBm,<- r.length];exact F.len _ _ _ _ h
 have b:=hb s us I.kU hl;rw[qBm] at b;refine qGk (qEv (F.run X.A.in1 X.stack s H ⟨us,[]⟩ us vs Q E0 hr.in1 I.yE.in1 b r h) fun r s' hq=>?_);cases r with
 | error e=>exact hq.elim
 | ok fl =>
  cases fl with
  | ret u=>exact I.after hq
  | next=>exact False.elim hq
  | brk=>exact False.elim hq
  | cont=>exact False.elim hq
theorem y8(I:Inv X pins σ H s)(fS:fK X pins H S)(fI:fK X pins H Ia)(eS:s.heap.get? S=some oS)(eI:s.heap.get? Ia=some oI)(dS:∀v,oS.data≠.cell v)(dI:∀v,oI.data≠.cell v):Inv X (pins++[(S,oS),(Ia,oI)]) σ H s :=
 I.mJ fun p hp=>by
  rcases List.mem_append.mp hp with z | z
  ·exact I.pin p (qAn _ z)
  ·rcases List.mem_cons.mp z with rfl | z
   ·exact⟨eS,fS.1,fS.2.1,fS.2.2.1,dS⟩
   ·rw[List.mem_singleton.mp z];exact⟨eI,fI.1,fI.2.1,fI.2.2.1,dI⟩
theorem y9(kf:Nat->Int)(F:eJ X.prog X.w X.K X.mg X.base cI k f fd ps sp)(hr:bX (k+1) X.A)(hb:Binds X.K fd ps [])
  (fS:fK X pins H S) (fI:fK X pins H Ia) (hSI:S≠Ia) (hq:aT X.K H l xs) (key:∀i v,xs[i]?=some v->sp [v] H (fun r H'=>r = .int (kf i)/\H'=H) E0){R:qLf->qAh->Prop}
  (hR:∀i x u s',xs[i]?=some x->RelV x u->(∀j,j<xs.length->kf i<=kf j/\(j<i->kf i<kf j))->Inv X pins σ H s'->R (.ok (.ret u)) s') :
  ∀(r j i:Nat) (s:qAh) (x:V) (vb:qAe) (tb:Tok) (c:Nat) (oI:Obj),xs.length-(j+1)=r->j+1<=xs.length->Inv X (pins++[(S,qCo "list" #[vb,.int (kf i) tb] c),(Ia,oI)]) σ H s->s.heap.IsListIter Ia l (j+1) ->
   xs[i]?=some x->RelV x vb->i<=j->(∀j',j'<=j->kf i<=kf j'/\(j'<i->kf i<kf j')) ->
   qFw (qBn X.prog X.w) X.A (.builtin "min.loop" ⟨[.ref Ia,.ref f,.ref S],[]⟩) R s:=by
 have hname:(toString "min" ++ toString ".loop":String)="min.loop":=by decide
 intro r;induction r with
 | zero =>
  intro j i s x vb tb c oI hr' hj I hit hx hxb hij hbest;have hin:j+1=xs.length:=by lia
  obtain⟨its,rv,p,hz⟩:=I.list hq;have hlen:=rv.length;have nS:=(I.pin (S,qCo "list" #[vb,.int (kf i) tb] c) (qAn _ (qAn _ (.head _)))).1;have I0:=I.dR;obtain⟨a0,a1,a2,a3,a4,a5⟩:=fI;obtain⟨b0,b1,b2,b3,b4,b5⟩:=fS;refine qGg qFe ?_;rw[Around.under_plainId qCr _];show qBj _ X.A.in1 (seqItems? (.ref S) >>= _) _ _ _;refine qAd (wpAny_seqItems nS rfl ?_);show qBj _ X.A.in1 (tryCatch (qKk (.ref Ia)) _ >>= _) _ _ _;refine qAd (qEu (wpAny_pyNext_list_end hr.in1.hd hit p.isList (by simp;lia) fun h' eb=>?_));have I1:Inv X pins σ H { s with heap:=h' }:=I0.turned (t':=s.toks) (fun b o hb e=>eb b o hb e) a0 a1 a3 a4 a5;have hS':h'.get? S=some (qCo "list" #[vb,.int (kf i) tb] c):=eb S _ hSI nS;have s1:=Heap.SameBut.update h' S (Obj.mapSeq fun _=>(#[]:Array qAe));show qBj _ X.A.in1 (updateSeq S (fun _=>#[]) >>= _) _ _ _;refine qAd ?_;refine wpAny_updateSeq hS' rfl (qAd (qHy (qAr ?_)));exact hR i x vb _ hx hxb (fun j' hj'=>hbest j' (by lia)) (I1.turned (fun b o hb e=>(s1.2 b hb).trans e) b0 b1 b3 b4 b5)
 | succ r ih =>
  intro j i s x vb tb c oI hr' hj I hit hx hxb hij hbest;have hlt:j+1<xs.length:=by lia
  obtain⟨its,rv,p,hz⟩:=I.list hq;have hlen:=rv.length;obtain⟨y,hy⟩:∃y,xs[j+1]?=some y:=⟨_,qAf hlt⟩;obtain⟨v,hv,rv'⟩:=rv.get hy;have nS:=(I.pin (S,qCo "list" #[vb,.int (kf i) tb] c) (qAn _ (qAn _ (.head _)))).1;have I0:=I.dR;have fI':=fI;have fS':=fS;obtain⟨a0,a1,a2,a3,a4,a5⟩:=fI;obtain⟨b0,b1,b2,b3,b4,b5⟩:=fS;refine qGg qFe ?_;rw[Around.under_plainId qCr _];show qBj _ X.A.in1 (seqItems? (.ref S) >>= _) _ _ _;refine qAd (wpAny_seqItems nS rfl ?_);show qBj _ X.A.in1 (tryCatch (qKk (.ref Ia)) _ >>= _) _ _ _;refine qAd (qEu (wpAny_pyNext_list_item hit p.isList (x:=v) (by simpa using hv) fun h' st' sb=>?_));have I1:Inv X pins σ H { s with heap:=h' }:=I0.turned (t':=s.toks) (fun b o hb e=>(sb.2 b hb).trans e) a0 a1 a3 a4 a5;obtain⟨oI',eI',ec,ed⟩:=id st';have eS':h'.get? S=some (qCo "list" #[vb,.int (kf i) tb] c):=(sb.2 S hSI).trans nS;have I2:=y8 I1 fS' fI' eS' eI' (fun v z=>nomatch z) (fun v z=>by rw[ed] at z;cases z);show qBj _ X.A.in1 (tryCatch (qFv [v] (call (.ref f) [v])) _ >>= _) _ _ _;refine qAd (qEu (qCn (qFo (v8 F hr hb I2 (.cons rv' .nil) (key (j+1) y hy)) (fun x' s2 he=>?_) fun _ _ hF=>hF.elim)));obtain⟨kv,H',I3,rk,rfl,rfl⟩:=he;obtain⟨t2,rfl⟩:=(show ∃t,x'=Value.int (kf (j+1)) t from rk);have nS2:=(I3.pin (S,qCo "list" #[vb,.int (kf i) tb] c) (qAn _ (qAn _ (.head _)))).1;have nI2:=(I3.pin (Ia,oI') (qAn _ (qAn _ (.tail _ (.head _))))).1;have hit2:s2.heap.IsListIter Ia l (j+1+1):=⟨oI',nI2,ec,ed⟩;show qBj _ X.A.in1 (tryCatch (qFv [v,.int (kf (j+1)) t2] (richCompare .Lt (.int (kf (j+1)) t2) (.int (kf i) tb) >>= _)) _ >>= _) _ _ _;refine qAd (qEu (qCn (qAd (CmpOf.ints_lt (prog:=X.prog) (w:=X.w) (A:=X.A.in1) (P:=fun i v=>∃t,v = .int (kf i) t) kf (fun i v h=>h) (j+1) i _ _ _ _ _ ⟨t2,rfl⟩ ⟨tb,rfl⟩ ?_))));refine qAd (qCn (qBy ?_));refine qAd (qHy (qAr ?_));by_cases hlt2:kf (j+1)<kf i
  ·have s1:=Heap.SameBut.update s2.heap S (Obj.mapSeq fun _=>#[v,.int (kf (j+1)) t2]);obtain⟨c2,hc2⟩:∃c2,(s2.heap.update S (Obj.mapSeq fun _=>#[v,.int (kf (j+1)) t2])).get? S=some (qCo "list" #[v,.int (kf (j+1)) t2] c2):=⟨_,qFd nS2 fun _=>#[v,.int (kf (j+1)) t2]⟩;simp only[hlt2,decide_true,if_true];refine qAd ?_;refine wpAny_updateSeq nS2 rfl (qAd (qHy ?_));rw[hname];have eI4:(s2.heap.update S (Obj.mapSeq fun _=>#[v,.int (kf (j+1)) t2])).get? Ia=some oI':=(s1.2 Ia hSI.symm).trans nI2;refine qAr ⟨qGx qCr _,ih (j+1) (j+1) _ y v t2 c2 oI' (by lia) hlt (y8 (I3.dR.turned (fun b o hb e=>(s1.2 b hb).trans e) b0 b1 b3 b4 b5) fS' fI' hc2 eI4 (fun v z=>nomatch z) (fun v z=>by rw[ed] at z;cases z)) ⟨oI',eI4,ec,ed⟩ hy rv' (qAk _) fun j' hj'=>?_⟩;by_cases e:j'=j+1
   ·subst e;exact⟨by lia,fun _=>by lia⟩
   ·have q1:=(hbest j' (by lia)).1;exact⟨by lia,fun _=>by lia⟩
  ·simp only[hlt2,decide_false,qGj,if_false];refine qAd (qHy ?_);rw[hname];refine qAr ⟨qGx qCr _,ih (j+1) i _ x vb tb c oI' (by lia) hlt (I3.tok _) hit2 hx hxb (by lia) fun j' hj'=>?_⟩;by_cases e:j'=j+1
   ·subst e;exact⟨by lia,fun _=>by lia⟩
   ·exact hbest j' (by lia)
theorem zA(kf:Nat->Int)(F:eJ X.prog X.w X.K X.mg X.base cI k f fd ps sp)(hr:bX (k+1) X.A)(hb:Binds X.K fd ps [])(I:Inv X pins σ H s)
  (hq:aT X.K H l xs) (h0:0<xs.length) (key:∀i v,xs[i]?=some v->sp [v] H (fun r H'=>r = .int (kf i)/\H'=H) E0)
  (hQ:∀i x,xs[i]?=some x->(∀j,j<xs.length->kf i<=kf j/\(j<i->kf i<kf j))->Q x H) :
  qBj (qBn X.prog X.w) X.A (call (.builtin "min") [.ref l] [(Str.ofString "key",.ref f)]) (EP X pins σ Q) X.xe s:=by
 have hname:(toString "min" ++ toString ".loop":String)="min.loop":=by decide
 obtain⟨its,rv,p,hz⟩:=I.list hq;have hlen:=rv.length;obtain⟨y,hy⟩:∃y,xs[0]?=some y:=⟨_,qAf h0⟩;obtain⟨v,hv,rv'⟩:=rv.get hy;refine kmk_tree PySem.F.kind_min PySem.F.plain_min PySem.F.entry_min (kmk_min_key _ _) ?_;show qBj _ X.A.in1 (Builtin.Builtins.bindParams "min" ["key","default"] 0 ⟨[],[(Str.ofString "key",.ref f)]⟩ >>= _) _ _ s;refine qAd (qHx (show Builtin.Builtins.bindParams "min" ["key","default"] 0 ⟨[],[(Str.ofString "key",.ref f)]⟩=pure [some (.ref f),none] from rfl) ?_);refine qAd (qAr ?_);refine qAd (qEq p.isList ?_);refine qAd (wpAny_newList ?_ (qBq _));rw[hname];have hS:(s.heap.push { cls:=.type "list_iterator",data:=.fields #[.ref l,.int 0 0] }).objs.size=s.heap.objs.size+1:=qIu ..;have hSI:(s.heap.push { cls:=.type "list_iterator",data:=.fields #[.ref l,.int 0 0] }).objs.size≠s.heap.objs.size:=by rw[hS];exact qKx (qGv _)
 have gI:((s.heap.push { cls:=.type "list_iterator",data:=.fields #[.ref l,.int 0 0] }).push (qCo "list" #[] 0)).get? s.heap.objs.size=some { cls:=.type "list_iterator",data:=.fields #[.ref l,.int 0 0] }:=qAg _ (qBb _ rfl);have gS:((s.heap.push { cls:=.type "list_iterator",data:=.fields #[.ref l,.int 0 0] }).push (qCo "list" #[] 0)).get? (s.heap.push { cls:=.type "list_iterator",data:=.fields #[.ref l,.int 0 0] }).objs.size=some (qCo "list" #[] 0):=qBb _ rfl;have I1:Inv X pins σ H { s with heap:=(s.heap.push { cls:=.type "list_iterator",data:=.fields #[.ref l,.int 0 0] }).push (qCo "list" #[] 0) }:=I.kept (t':=s.toks) fun b u e=>qAg _ (qAg _ e);have fI:fK X pins H s.heap.objs.size:=I.pE (qAk _) (I.bV.fresh (qAk _));have hSle:s.heap.objs.size<=(s.heap.push { cls:=.type "list_iterator",data:=.fields #[.ref l,.int 0 0] }).objs.size:=by rw[hS];exact qHf _
 have fS:fK X pins H (s.heap.push { cls:=.type "list_iterator",data:=.fields #[.ref l,.int 0 0] }).objs.size:=I.pE hSle (I.bV.fresh hSle);refine qAr ⟨qGx qCr _,?_⟩;show qFw (qBn X.prog X.w) X.A (.builtin "min.loop" ⟨[.ref s.heap.objs.size,.ref f,.ref (s.heap.push { cls:=.type "list_iterator",data:=.fields #[.ref l,.int 0 0] }).objs.size],[]⟩) _ { s with heap:=(s.heap.push { cls:=.type "list_iterator",data:=.fields #[.ref l,.int 0 0] }).push (qCo "list" #[] 0) };generalize (s.heap.push { cls:=.type "list_iterator",data:=.fields #[.ref l,.int 0 0] }).objs.size=S at hSI gS fS|-;generalize s.heap.objs.size=Ia at hSI gI fI|-;generalize (s.heap.push { cls:=.type "list_iterator",data:=.fields #[.ref l,.int 0 0] }).push (qCo "list" #[] 0)=hp at gI gS I1|-;obtain⟨its1,rv1,p1,_⟩:=I1.list hq;obtain⟨v1,hv1,rv1'⟩:=rv1.get hy;obtain⟨a0,a1,a2,a3,a4,a5⟩:=id fI;obtain⟨b0,b1,b2,b3,b4,b5⟩:=id fS;refine qGg qFe ?_;rw[Around.under_plainId qCr _];show qBj _ X.A.in1 (seqItems? (.ref S) >>= _) _ _ _;refine qAd (wpAny_seqItems gS rfl ?_);show qBj _ X.A.in1 (tryCatch (qKk (.ref Ia)) _ >>= _) _ _ _;refine qAd (qEu (wpAny_pyNext_list_item (i:=0) ⟨_,gI,rfl,rfl⟩ p1.isList (x:=v1) (by simpa using hv1) fun h' st' sb=>?_));have I2:Inv X pins σ H { s with heap:=h' }:=I1.turned (t':=s.toks) (fun b o hb e=>(sb.2 b hb).trans e) a0 a1 a3 a4 a5;obtain⟨oI',eI',ec,ed⟩:=id st';have eS':h'.get? S=some (qCo "list" #[] 0):=(sb.2 S hSI).trans gS;have I3:=y8 I2 fS fI eS' eI' (fun v z=>nomatch z) (fun v z=>by rw[ed] at z;cases z);show qBj _ X.A.in1 (tryCatch (qFv [v1] (call (.ref f) [v1])) _ >>= _) _ _ _;refine qAd (qEu (qCn (qFo (v8 F hr hb I3 (.cons rv1' .nil) (key 0 y hy)) (fun x' s2 he=>?_) fun _ _ hF=>hF.elim)));obtain⟨kv,H',I4,rk,rfl,rfl⟩:=he;obtain⟨t2,rfl⟩:=(show ∃t,x'=Value.int (kf 0) t from rk);have nS2:=(I4.pin (S,qCo "list" #[] 0) (qAn _ (qAn _ (.head _)))).1;have nI2:=(I4.pin (Ia,oI') (qAn _ (qAn _ (.tail _ (.head _))))).1;have s1:=Heap.SameBut.update s2.heap S (Obj.mapSeq fun _=>#[v1,.int (kf 0) t2]);obtain⟨c2,hc2⟩:∃c2,(s2.heap.update S (Obj.mapSeq fun _=>#[v1,.int (kf 0) t2])).get? S=some (qCo "list" #[v1,.int (kf 0) t2] c2):=⟨_,qFd nS2 fun _=>#[v1,.int (kf 0) t2]⟩;have eI4:(s2.heap.update S (Obj.mapSeq fun _=>#[v1,.int (kf 0) t2])).get? Ia=some oI':=(s1.2 Ia hSI.symm).trans nI2;show qBj _ X.A.in1 (updateSeq S (fun _=>#[v1,.int (kf 0) t2]) >>= _) _ _ _;refine qAd ?_;refine wpAny_updateSeq nS2 rfl ?_;rw[hname];refine qAr ⟨qGx qCr _,y9 kf F hr hb fS fI hSI hq key (fun i x u s' hx ru hb' I'=>⟨x,H',I',ru,hQ i x hx hb'⟩) _ 0 0 _ y v1 t2 c2 oI' rfl h0 (y8 (I4.dR.turned (t':=s2.toks) (fun b o hb e=>(s1.2 b hb).trans e) b0 b1 b3 b4 b5) fS fI hc2 eI4 (fun v z=>nomatch z) (fun v z=>by rw[ed] at z;cases z)) ⟨oI',eI4,ec,ed⟩ hy rv1' (qAk _) fun j' hj'=>?_⟩;have e:j'=0:=by lia
 subst e;exact⟨qJb _,fun h=>absurd h (qDp _)⟩
def zB(K:qAa)(sp:Sp)(t:TA):TE:=fun σ H Q=>t σ H fun vs H1=>∃(l:Addr) (xs:List V) (kf:Nat->Int),vs=[.ref l]/\aT K H1 l xs/\0<xs.length/\(∀i v,xs[i]?=some v->sp [v] H1 (fun r H'=>r = .int (kf i)/\H'=H1) E0) /\
 ∀i x,xs[i]?=some x->(∀j,j<xs.length->kf i<=kf j/\(j<i->kf i<kf j))->Q x H1
theorem tH(D:Df X.prog X.w X.K X.mg X.base cI k y ps sp f fd)(hr:bX j X.A)(hj:k+1<=j)(hg:Gl X "min")(hm:X.mg "min"=none)(hgk:PE X (.Name y p2) (tC (.ref f)))(ha:PA X [e] t)
  (he:qEi pos (qBg [e] X.env)=(false,eval e X.env)::qEi pos (qBg [] X.env):=by rfl) (hpl:(qEi pos (qBg [e] X.env)).any (·.1)=false:=by rfl) :
  PE X (.Call (.Name "min" p) [e] [⟨some "key",.Name y p2,kp⟩] pos) (zB X.K sp t):=by
 intro pins s σ H Q I h;refine qDo (gT I hg hm BK ?_ (by decide) (by decide));refine callWith_kw (bI (ha pos pins s σ H _ I h) fun us s1 ⟨vs,H1,I1,r1,q1⟩=>?_) he hpl;refine kws_cons (bI (hgk pins s1 σ H1 (fun v H'=>v = .ref f/\H'=H1) I1 ⟨rfl,rfl⟩) fun u s2 ⟨v,H2,I2,r2,e1,e2⟩=>kws_nil ?_);subst e1 e2;obtain rfl:u=Value.ref f:=r2;obtain⟨l,xs,kf,rfl,hq,h0,key,hQ⟩:=q1;obtain⟨u1,rfl,ru⟩:=vals1 r1;cases ru;exact zA kf D.ok (hr.mono hj) D.bd I2 hq h0 key hQ
end
end L2
set_option maxHeartbeats 4000000
namespace PySem.W
open PySem PySem.Calls PyProof.Rows
theorem KasT.lX{α:Type}{n:Nat}{P:α->Prop}{lt lt':Nat->Nat->Bool}(h:∀i j,i<n->j<n->lt i j=lt' i j):∀{t:KasT α},t.Ok n P->t.run lt=t.run lt'
 | .ret a,_=>rfl
 | .ask i j k,o=>by
  show(k (lt i j)).run lt=(k (lt' i j)).run lt';rw[h i j o.1 o.2.1];exact KasT.lX h (o.2.2 _)
theorem KasT.v9:∀{t:KasT α},t.Ok n P->P (t.run lt)
 | .ret a,h=>h
 | .ask i j k,o=>show P ((k (lt i j)).run lt) from KasT.v9 (t:=k (lt i j)) (o.2.2 (lt i j))
namespace S6
def rk(n:Nat)(code:Nat->Nat)(i:Nat):Nat:=((qAq n).filter fun k=>decide (code k<code i)).length
end S6
end PySem.W
namespace L2
open PySem PySem.Spec PyProof.Rows PySem.W
section
variable {X:Cx}
end
end L2
set_option maxHeartbeats 4000000
namespace L2
open PySem PySem.Spec PyProof.Rows
section
variable {prog:qBd}{w:qCb}{A:qCc}{E:qAe->qAh->Prop}{s:qAh}{d it:Addr}{o:Obj}{es:Array DictEntry}{ep:Nat}
end
section
variable {X:Cx}{tg:Expr}
end
section
variable {K:qAa}{a:Addr}{xs:List V}{σ0:St}{H1:Hp}{g:TG}{c:TT}{te:TE}{Q:Addr->Hp->Prop}
theorem p0(Ag:St->Prop)(R:Nat->V->Hp->Prop)(mono:∀i y H H',c9 H H'->R i y H->R i y H')(h0:Ag σ0)(hq:aT K H1 a xs)(hn:xs.length<=qAj)
  (step:∀(i:Nat) (x:V) (t:Addr) (σ1:St) (H2:Hp) (k:St->VK) (k0:St->Hp->Prop),Ag σ1->aI H1 H2->xs[i]?=some x->H2 t=some (.tup [.int (i:Int),x])->(∀σ2 y H3,Ag σ2->aI H2 H3->R i y H3->k σ2 y H3) ->
   g (.ref t) σ1 H2 fun σ2 H3=>c σ2 H3 fun b H4=>if b=true then te σ2 H4 (k σ2) else k0 σ2 H4)
  (h:∀D ys H2,H1 D=none->aI H1 H2->ys.length=xs.length->(∀i y,ys[i]?=some y->R i y H2)->H2 D=some (.lst ys)->Q D H2) :
  ∀D,H1 D=none->∃W:Nat->Nat->St->Hp->Prop,(∃m,W 0 m σ0 (upd H1 D (.lst [])))/\∀i m σ1 H2,W i m σ1 H2 ->
   ((Fd K a).stop i H2/\Q D H2)\/((Fd K a).go i H2/\∃N:St->Hp->Prop,(∀σ' H',N σ' H'->∃m',m'<m/\W (i+1) m' σ' H') /\
    ∀x H',(Fd K a).uR i H2 x H'->g x σ1 H' fun σ2 H3=>c σ2 H3 fun b H4=>if b=true then te σ2 H4 fun y H5=>∃xs,H5 D=some (.lst xs)/\xs.length<qAj/\N σ2 (upd H5 D (.lst (xs++[y]))) else N σ2 H4):=by
 intro D hD;refine⟨fun i m σ1 H2=>Ag σ1/\aI H1 H2/\(∃ys,ys.length=i/\(∀j y,ys[j]?=some y->R j y H2)/\H2 D=some (.lst ys))/\i<=xs.length/\m=xs.length-i,⟨xs.length,h0,.aJ hD,⟨[],rfl,fun j y e=>(by cases e),aB⟩,qBq _,rfl⟩,?_⟩;rintro i m σ1 H2 ⟨hσ,hs,⟨ys,hy,hR,hd⟩,hi,rfl⟩;rcases qBo i xs.length with hlt | hge
 ·right
  refine⟨⟨xs,xs[i],hs.seq hq,by simp[hlt]⟩,fun σ' H'=>Ag σ'/\aI H1 H'/\∃ys,ys.length=i+1/\(∀j y,ys[j]?=some y->R j y H')/\H' D=some (.lst ys),fun σ' H' ⟨a,b,c⟩=>⟨xs.length-(i+1),by lia,a,b,c,hlt,rfl⟩,?_⟩;rintro v H' ⟨t,x,rfl,ht,rfl,hx⟩;have hx:=hx xs (hs.seq hq);have hst:aI H1 (upd H2 t (.tup [.int (i:Int),x])):=hs.trans (.aJ ht);have u2:=aI.aJ (o:=.tup [.int (i:Int),x]) ht;have hdt:=u2 _ _ hd;refine step i x t σ1 _ (fun σ2 y H5=>∃xs,H5 D=some (.lst xs)/\xs.length<qAj/\_) _ hσ hst hx aB (fun σ2 y H3 a2 hs3 hR3=>⟨_,hs3 _ _ hdt,by lia,a2,(hst.trans hs3).upd_ne' hD,ys++[y],by rw[qBi];show _+1=_;lia,fun j z e=>?_,aB⟩);have keep:∀{j z},R j z H3->R j z (upd H3 D (.lst (ys++[y]))):=fun {j z} q=>mono _ _ _ _ (.lst (hs3 _ _ hdt)) q;rcases qBo j ys.length with z1 | z1
  ·rw[qDv z1] at e;exact keep (mono _ _ _ _ hs3.t (mono _ _ _ _ u2.t (hR j z e)))
  ·rw[qDq z1] at e;obtain⟨rfl,rfl⟩:j=i/\y=z:=by
    rcases qFb (j-ys.length) with q | q
    ·rw[q] at e;exact⟨by lia,Option.some.inj e⟩
    ·rw[qEm (by show 1<=_;lia)] at e;cases e
   exact keep hR3
 ·left
  obtain rfl:i=xs.length:=qEe hi hge;exact⟨⟨xs,hs.seq hq,qAk _⟩,h D ys _ hD hs hy hR hd⟩
end
section
variable {X:Cx}
end
section
variable {K:qAa}{a:Addr}{xs:List V}{lo:Int}{n:Nat}{σ0:St}{H1:Hp}{i0:Nat}{c:TT}{te:TE}{Q:Addr->Hp->Prop}
end
section
variable {X:Cx}
end
section
variable {K:qAa}{a a':Addr}{xs xs':List V}{lo:Int}{n:Nat}{σ0:St}{H1:Hp}{i0:Nat}{c:TT}{te:TE}{g:TG}{Q:Addr->Hp->Prop}
end
section
variable {X:Cx}
end
section
variable {K:qAa}{lo:Int}{n:Nat}{σ0:St}{H1:Hp}{i0:Nat}{c:TT}{te:TE}{Q:Addr->Hp->Prop}
end
section
variable {prog:qBd}{w:qCb}{A:qCc}{E:qAe->qAh->Prop}{s:qAh}
end
section
variable {X:Cx}
end
section
variable {X:Cx}
end
end L2
namespace L2
namespace ST
open PySem
end ST
end L2
namespace L2
namespace ST
open PySem PySem.Spec PyProof.Rows
def iv:qAe->Int
 | .int n _=>n
 | _=>0
section
variable {prog:qBd}{w:qCb}{A:qCc}{E:qAe->qAh->Prop}{s:qAh}
end
section
variable {prog:qBd}{w:qCb}{A:qCc}{R:qLf->qAh->Prop}{I:Addr}{fp wr:List Addr}{G:Array qKm->Array qKm->Prop}{n:Nat}{P:Nat->qAe->Prop}{St:Nat->qAh->Prop}
end
end ST
end L2
namespace PySem
namespace ST
open L2.ST
section
variable {prog:qBd}{w:qCb}{A:qCc}{E:qAe->qAh->Prop}{s:qAh}
set_option maxHeartbeats 3200000 in
end
end ST
end PySem
namespace PySem
namespace ST
open L2.ST
section
variable {prog:qBd}{w:qCb}{A:qCc}{E:qAe->qAh->Prop}{s:qAh}{I S:Addr}{o:Obj}{es:Array (Int×qAe)}{ep:Nat}{t:SetTable}
end
end ST
end PySem
namespace PySem
namespace ST
open L2.ST PyProof.Rows
section
variable {prog:qBd}{w:qCb}{A:qCc}{E:qAe->qAh->Prop}{s:qAh}{I S:Addr}{o:Obj}{es:Array (Int×qAe)}{ep:Nat}{t:SetTable}
end
end ST
end PySem
namespace PySem
namespace ST
open L2.ST PyProof.Rows
section
variable {prog:qBd}{w:qCb}{A:qCc}{E:qAe->qAh->Prop}{s:qAh}{S:Addr}{σ:List Int}
end
end ST
end PySem
namespace L2
open PySem PySem.Spec PyProof.Rows
section
variable {X:Cx}
end
end L2
set_option maxHeartbeats 4000000
namespace L2
open PySem PySem.Spec PyProof.Rows
section
variable {X:Cx}{tg:Expr}
end
section
variable {K:qAa}{a a':Addr}{xs xs':List V}{lo:Int}{n:Nat}{σ0:St}{H1:Hp}{i0:Nat}{c:TT}{te:TE}{g:TG}{Q:Addr->Hp->Prop}
end
end L2
set_option maxHeartbeats 4000000
namespace L2
open PySem PySem.Spec PyProof.Rows
end L2
set_option maxHeartbeats 4000000
namespace L2
open PySem PySem.Spec PyProof.Rows
section
variable {X:Cx}
end
section
variable {X:Cx}
def IK(t:TE):TE:=fun σ H Q=>t σ H fun x H1=>∃i:Int,x = .int i/\i.natAbs.log2<1920/\Q (.str (toString i)) H1
theorem wB{e:Expr}{t:TE}{pos:Pos}(h:PE X e t):PE X (.FormattedValue e (-1) none pos) (IK t):=by
 intro pins s σ H Q I hq;refine wpAny_FormattedValue_plain (bI (h pins s σ H _ I hq) fun v s1 ⟨x,H1,I1,r1,q1⟩=>?_);obtain⟨i,rfl,hi,q⟩:=q1;obtain⟨t,rfl⟩:=(show ∃t,v=Value.int i t from r1);exact wpAny_formatField_int hi ⟨.str _,H1,I1.tok _,⟨_,rfl⟩,q⟩
abbrev TJ:=St->Hp->Str->(Str->Hp->Prop)->Prop
def PJ(X:Cx)(es:List Expr)(t:TJ):Prop :=
 ∀(pins:List (Addr×Obj)) (s:qAh) (σ:St) (H:Hp) (acc:Str) (R:Str->Hp->Prop) (Q:Str->qAh->Prop),Inv X pins σ H s->t σ H acc R->(∀out H' s',Inv X pins σ H' s'->R out H'->Q out s')->Joins (qBn X.prog X.w) X.A X.xe (evalEach es X.env) acc Q s
def Fi:TJ:=fun _ H acc R=>R acc H
def BQ(t:TE)(r:TJ):TJ:=fun σ H acc R=>t σ H fun x H1=>∃y:Str,x = .str y/\(acc++y).length<=qAj/\r σ H1 (acc++y) R
theorem BR:PJ X [] Fi:=fun _ _ _ _ _ _ _ I h k=>k _ _ _ I h
theorem iF{e:Expr}{es:List Expr}{t:TE}{r:TJ}(h:PE X e t)(hr:PJ X es r):PJ X (e::es) (BQ t r):=by
 intro pins s σ H acc R Q I hq k;show qBj _ _ (eval e X.env) _ _ s;refine bI (h pins s σ H _ I hq) fun v s1 ⟨x,H1,I1,r1,q1⟩=>?_;obtain⟨y,rfl,hy,q⟩:=q1;obtain⟨t,rfl⟩:=(show ∃t,v=Value.str y t from r1);exact⟨y,t,rfl,hy,hr pins s1 σ H1 _ R Q I1 q k⟩
def IL(t:TJ):TE:=fun σ H Q=>t σ H Str.empty fun out H1=>out.length<=qAj/\Q (.str out) H1
theorem Fj{e1 e2:Expr}{es:List Expr}{t:TJ}{pos:Pos}(h:PJ X (e1::e2::es) t):PE X (.JoinedStr (e1::e2::es) pos) (IL t):=by
 intro pins s σ H Q I hq;exact wpAny_JoinedStr (h pins s σ H _ _ _ I hq fun out H' s' I' q=>⟨q.1,.str _,H',I'.tok _,⟨_,rfl⟩,q.2⟩)
def rJoin(K:qAa):V->List V->Hp->VK->Prop:=fun x vs H Q=>∃(sep:Str) (p:Addr) (ss:List Str),x = .str sep/\vs=[.ref p]/\aT K H p (ss.map V.str)/\(ss.map (·.length)).sum+ss.length*sep.length<=16777216/\Q (.str (Txt.join sep ss)) H
theorem rF:∀{ss:List Str}{us:List qAe},Vals (ss.map V.str) us->StrsAre us ss
 | [],_,.nil=>.nil
 | s::ss,_,.cons r rs=>by
  obtain⟨t,rfl⟩:=(show ∃t,_=Value.str s t from r);exact .cons s t (rF rs)
theorem eX:Ar X "str.join" (rJoin X.K):=by
 intro pins s σ H x vs v us Q I rx rv h;obtain⟨sep,p,ss,rfl,rfl,hq,hl,q⟩:=h;obtain⟨t,rfl⟩:=(show ∃t,v=Value.str sep t from rx);obtain⟨u,rfl,ru⟩:=rv.one;cases ru;obtain⟨its,r',pl,hz⟩:=I.list hq;exact join_list pl.isList (rF r') hl fun t' k=>⟨.str _,H,I.tok _,⟨_,rfl⟩,q⟩
end
end L2
set_option maxHeartbeats 4000000
namespace PySem.W
open PySem PySem.Calls PyProof.Rows
theorem KasT.run_bind{α β:Type}{lt:Nat->Nat->Bool}{f:α->KasT β}:∀{t:KasT α},(t.bind f).run lt=(f (t.run lt)).run lt
 | .ret a=>rfl
 | .ask i j k=>KasT.run_bind (t:=k (lt i j))
namespace SG
section
variable {n:Nat}{code:Nat->Nat}
abbrev ck(code:Nat->Nat)(p:Array Nat)(i:Nat):Nat:=code (p.getD i 0)
abbrev lc(code:Nat->Nat):Nat->Nat->Bool:=fun i j=>decide (code i<code j)
def wC(code:Nat->Nat)(p:Array Nat)(m:Nat):Prop:=∀i j,i<j->j<m->ck code p i<ck code p j
def Dec(code:Nat->Nat)(p:Array Nat)(m:Nat):Prop:=∀i j,i<j->j<m->ck code p j<ck code p i
def Inj(n:Nat)(code:Nat->Nat)(p:Array Nat):Prop:=∀i j,i<n->j<n->ck code p i=ck code p j->i=j
theorem getD_at(p:Array Nat)(i:Nat):p.getD i 0=(p[i]?).getD 0:=by
 by_cases h:i<p.size
 ·simp[qEt,h]
 ·simp[qEt,h]
theorem eV.size{p:Array Nat}(h:eV n p):p.size=n:=by
 have:=h.length_eq;rw[qCy,qBz] at this;exact this
theorem BS{p:Array Nat}(hn:0<n)(h:eV n p)(inj:∀i j,i<n->j<n->code i=code j->i=j):Inj n code p:=fun i j hi hj e=>by
 have e:=inj _ _ (h.lt hn i) (h.lt hn j) e;have nd:p.toList.Nodup:=h.nodup_iff.mpr List.nodup_range;have sz:=eV.size h;have gi:p.getD i 0=p.toList[i]'(by rw[qBz];lia):=by simp[qEt,show i<p.size by lia]
 have gj:p.getD j 0=p.toList[j]'(by rw[qBz];lia):=by simp[qEt,show j<p.size by lia]
 rw[gi,gj] at e;exact(qJm nd).mp e
theorem nC{p:Array Nat}(ij:Inj n code p):∀f m,1<=m->m+f<=n->wC code p m->∃m',(kas_asc p f m).run (lc code)=m'/\m<=m'/\m'<=m+f/\wC code p m'/\(m'=m+f\/ck code p m'<ck code p (m'-1))
 | 0,m,_,_,s=>⟨m,rfl,qAk _,qAk _,s,.inl rfl⟩
 | f+1,m,m1,mf,s=>by
  by_cases h:ck code p m<ck code p (m-1)
  ·refine⟨m,?_,qAk _,by lia,s,.inr h⟩;show KasT.run _ (if lc code (p.getD m 0) (p.getD (m-1) 0)=true then _ else _)=m;rw[if_pos (decide_eq_true h)];rfl
  ·have s':wC code p (m+1):=fun i j hij hj=>by
    rcases qBo j m with q | q
    ·exact s i j hij q
    ·obtain rfl:j=m:=by lia
     have ne:ck code p j≠ck code p (j-1):=fun e=>by have:=ij j (j-1) (by lia) (by lia) e;lia
     rcases qBo i (j-1) with z | z
     ·have:=s i (j-1) z (by lia);lia
     ·obtain rfl:i=j-1:=by lia
      lia
   obtain⟨m',e,a,b,c,d⟩:=nC ij f (m+1) (by lia) (by lia) s';refine⟨m',?_,by lia,by lia,c,by lia⟩;show KasT.run _ (if lc code (p.getD m 0) (p.getD (m-1) 0)=true then _ else _)=m';rw[if_neg (by rw[show lc code (p.getD m 0) (p.getD (m-1) 0)=false from decide_eq_false h];decide)];exact e
theorem oH{p:Array Nat}(ij:Inj n code p):∀f m,1<=m->m+f<=n->Dec code p m->∃m',(kas_desc f p m 0).run (lc code)=(p,m',0)/\m<=m'/\m'<=m+f/\Dec code p m'
 | 0,m,_,_,s=>⟨m,rfl,qAk _,qAk _,s⟩
 | f+1,m,m1,mf,s=>by
  by_cases h:ck code p m<ck code p (m-1)
  ·have s':Dec code p (m+1):=fun i j hij hj=>by
    rcases qBo j m with q | q
    ·exact s i j hij q
    ·obtain rfl:j=m:=by lia
     rcases qBo i (j-1) with z | z
     ·have:=s i (j-1) z (by lia);lia
     ·obtain rfl:i=j-1:=by lia
      lia
   obtain⟨m',e,a,b,c⟩:=oH ij f (m+1) (by lia) (by lia) s';refine⟨m',?_,by lia,by lia,c⟩;show KasT.run _ (if lc code (p.getD m 0) (p.getD (m-1) 0)=true then (if 0>0 then _ else _) else _)=_;rw[if_pos (decide_eq_true h),if_neg (by lia)];exact e
  ·have ne:ck code p m≠ck code p (m-1):=fun e=>by have:=ij m (m-1) (by lia) (by lia) e;lia
   refine⟨m,?_,qAk _,by lia,s⟩;show KasT.run _ (if lc code (p.getD m 0) (p.getD (m-1) 0)=true then _ else KasT.ask _ _ _)=_;rw[if_neg (by rw[show lc code (p.getD m 0) (p.getD (m-1) 0)=false from decide_eq_false h];decide)];show KasT.run _ (if lc code (p.getD (m-1) 0) (p.getD m 0)=true then _ else _)=_;rw[if_pos (decide_eq_true (by show ck code p (m-1)<ck code p m;lia))];rfl
theorem wD{p:Array Nat}{m:Nat}(hm:m<=p.size)(i:Nat)(hi:i<m):(kas_rev p 0 m).getD i 0=p.getD (m-1-i) 0:=by
 rw[getD_at,getD_at];unfold kas_rev;rw[getElem?_mirror_all hm,if_pos ⟨qBq _,hi⟩,Nat.zero_add]
theorem tI(hn:0<n)(inj:∀i j,i<n->j<n->code i=code j->i=j){p:Array Nat}(h:eV n p):∃m p',(kas_count n p).run (lc code)=(m,p')/\eV n p'/\1<=m/\m<=n/\wC code p' m:=by
 have ij:=BS hn h inj;have sz:=eV.size h;obtain⟨m1,e1,a1,b1,c1,d1⟩:=nC ij (n-1) 1 (qAk _) (by lia) fun i j hij hj=>by lia
 unfold kas_count;rw[KasT.run_bind,e1];by_cases h1:(m1 == n)=true
 ·rw[if_pos h1];exact⟨m1,p,rfl,h,by lia,by lia,c1⟩
 rw[if_neg h1];have ne:m1≠n:=fun e=>h1 (by rw[e];exact beq_self_eq_true _);by_cases h2:m1>1
 ·rw[if_pos h2];refine⟨m1,p,?_,h,by lia,by lia,c1⟩;show KasT.run _ (if lc code (p.getD 0 0) (p.getD (m1-1) 0)=true then _ else _)=_;rw[if_pos (decide_eq_true (c1 0 (m1-1) (by lia) (by lia)))];rfl
 rw[if_neg h2];obtain rfl:m1=1:=by lia
 have lt1:ck code p 1<ck code p 0:=by rcases d1 with z | z;lia;exact z
 obtain⟨m2,e2,a2,b2,c2⟩:=oH ij (n-(1+1)) (1+1) (by lia) (by lia) fun i j hij hj=>by
  obtain rfl:i=0:=by lia
  obtain rfl:j=1:=by lia
  exact lt1
 unfold kas_descPart;rw[KasT.run_bind,e2];show ∃m p',KasT.run _ (if (0:Nat)>0 then _ else kas_tail3 m2 n p)=(m,p')/\_;rw[if_neg (by lia)];have h2:=h.rev 0 m2;have s2:wC code (kas_rev p 0 m2) m2:=fun i j hij hj=>by
  show code _<code _;rw[wD (by lia) i (by lia),wD (by lia) j hj];exact c2 (m2-1-j) (m2-1-i) (by lia) (by lia)
 obtain⟨m3,e3,a3,b3,c3,_⟩:=nC (BS hn h2 inj) (n-m2) m2 (by lia) (by lia) s2;refine⟨m3,kas_rev p 0 m2,?_,h2,by lia,by lia,c3⟩;unfold kas_tail3;rw[KasT.run_bind,e3];rfl
theorem iU{p:Array Nat}{k:Nat}(hk:k<n)(ij:Inj n code p)(s:wC code p k):∀f l r,l<=r->r<=k->r-l<=f->(∀i,i<l->ck code p i<ck code p k)->(∀i,r<=i->i<k->ck code p k<ck code p i) ->
  ∃l',(kas_place p k f l r).run (lc code)=l'/\l'<=k/\(∀i,i<l'->ck code p i<ck code p k)/\(∀i,l'<=i->i<k->ck code p k<ck code p i)
 | 0,l,r,lr,rk,f0,a,b=>⟨l,rfl,by lia,a,fun i hi=>b i (by lia)⟩
 | f+1,l,r,lr,rk,fl,a,b=>by
  by_cases h:l≥r
  ·refine⟨l,?_,by lia,a,fun i hi=>b i (by lia)⟩;show KasT.run _ (if l≥r then _ else _)=l;rw[if_pos h];rfl
  ·have q:(kas_place p k (f+1) l r).run (lc code)=(if lc code (p.getD k 0) (p.getD ((l+r)/2) 0)=true then kas_place p k f l ((l+r)/2) else kas_place p k f ((l+r)/2+1) r).run (lc code):=by
    show KasT.run _ (if l≥r then _ else _)=_;rw[if_neg h];rfl
   rw[q];by_cases c:ck code p k<ck code p ((l+r)/2)
   ·rw[if_pos (decide_eq_true c)];refine iU hk ij s f l ((l+r)/2) (by lia) (by lia) (by lia) a fun i hi hik=>?_;rcases qBo ((l+r)/2) i with z | z
    ·have:=s _ i z hik;lia
    ·obtain rfl:i=(l+r)/2:=by lia
     exact c
   ·rw[if_neg (by rw[show lc code (p.getD k 0) (p.getD ((l+r)/2) 0)=false from decide_eq_false c];decide)];have ne:ck code p k≠ck code p ((l+r)/2):=fun e=>by have:=ij k _ hk (by lia) e;lia
    refine iU hk ij s f ((l+r)/2+1) r (by lia) rk (by lia) (fun i hi=>?_) b;rcases qBo i ((l+r)/2) with z | z
    ·have:=s i _ z (by lia);lia
    ·obtain rfl:i=(l+r)/2:=by lia
     lia
theorem wF{p:Array Nat}{k l:Nat}(hk:k<p.size)(hl:l<=k)(i:Nat):(bubble p k (k-l)).getD i 0=if i=l then p.getD k 0 else if l<i/\i<=k then p.getD (i-1) 0 else p.getD i 0:=by
 rw[getD_at (bubble p k (k-l)),getD_at p k,getD_at p (i-1),getD_at p i,getElem?_bubble hk _ (by lia),show k-(k-l)=l by lia];split
 ·rfl
 ·split <;> rfl
theorem rG(hn:0<n)(inj:∀i j,i<n->j<n->code i=code j->i=j):∀f p k,eV n p->wC code p k->k+f=n->eV n ((kas_bin f p k).run (lc code))/\wC code ((kas_bin f p k).run (lc code)) n
 | 0,p,k,h,s,e=>by
  obtain rfl:k=n:=by lia
  exact⟨h,s⟩
 | f+1,p,k,h,s,e=>by
  have ij:=BS hn h inj;have sz:=eV.size h;obtain⟨l,el,lk,a,b⟩:=iU (by lia) ij s k 0 k (qBq _) (qAk _) (by lia) (fun i hi=>by lia) (fun i hi hk=>by lia);show eV n ((KasT.bind _ _).run _)/\wC code ((KasT.bind _ _).run _) n;rw[KasT.run_bind,el];refine rG hn inj f _ (k+1) (h.Iv _ _) (fun i j hij hj=>?_) (by lia);show code _<code _;rw[wF (by lia) lk,wF (by lia) lk];by_cases j1:j=l
  ·rw[if_pos j1,if_neg (by lia),if_neg (by lia)];exact a i (by lia)
  rw[if_neg j1];by_cases j2:l<j/\j<=k
  ·rw[if_pos j2];by_cases i1:i=l
   ·rw[if_pos i1];exact b (j-1) (by lia) (by lia)
   rw[if_neg i1];by_cases i2:l<i/\i<=k
   ·rw[if_pos i2];exact s (i-1) (j-1) (by lia) (by lia)
   ·rw[if_neg i2];exact s i (j-1) (by lia) (by lia)
  ·rw[if_neg j2,if_neg (by lia),if_neg (by lia)];exact s i j hij (by lia)
theorem wG(hn:0<n)(inj:∀i j,i<n->j<n->code i=code j->i=j):wC code ((kas_sort n).run (lc code)) n:=by
 obtain⟨m,p',e,h,m1,mn,s⟩:=tI hn inj (show eV n (qDd (qAq n)) from List.Perm.refl _);unfold kas_sort;rw[KasT.run_bind,e];show wC code (KasT.run _ (if m<n then kas_bin (n-max m 1) p' (max m 1) else _)) n;rw[show max m 1=m by lia];by_cases z:m<n
 ·rw[if_pos z];exact(rG hn inj _ p' m h s (by lia)).2
 ·rw[if_neg z];obtain rfl:m=n:=by lia
  exact s
theorem p3(hn:0<n){lt:Nat->Nat->Bool}(hlt:∀i j,i<n->j<n->lt i j=decide (code i<code j))(inj:∀i j,i<n->j<n->code i=code j->i=j):(((kas_sort n).run lt).toList.map code).Pairwise (· < ·):=by
 have e:(kas_sort n).run lt=(kas_sort n).run (lc code):=KasT.lX (n:=n) (P:=eV n) (fun i j hi hj=>hlt i j hi hj) (nA hn);have pm:eV n ((kas_sort n).run lt):=KasT.v9 (nA hn);have s:=wG hn inj;rw[<- e] at s;have sz:=eV.size pm;rw[List.pairwise_map,List.pairwise_iff_getElem];intro i j hi hj hij;rw[qBz] at hi hj;have z:=s i j hij (by lia);have gi:((kas_sort n).run lt).getD i 0=((kas_sort n).run lt).toList[i]'(by rw[qBz];exact hi):=by simp[qEt,hi]
 have gj:((kas_sort n).run lt).getD j 0=((kas_sort n).run lt).toList[j]'(by rw[qBz];exact hj):=by simp[qEt,hj]
 have z:code _<code _:=z;rw[gi,gj] at z;exact z
end
end SG
end PySem.W
namespace L2
open PySem PySem.Spec PyProof.Rows PySem.W
section
variable {X:Cx}
theorem lA:eR X (.builtin "sorted") (fun xs H Q=>∃(p:Addr) (as:List Addr) (c:Addr->Nat),xs=[.ref p]/\aT X.K H p (as.map V.ref)/\(∀a∈as,v7 H a)/\as.length<64/\(∀a∈as,∀b∈as,HT.lexLt (eM H a) (eM H b)=decide (c a<c b))/\(as.map c).Nodup /\
  ∀(l:Addr) (bs:List Addr),H l=none->bs.Perm as->(bs.map c).Pairwise (· < ·)->Q (.ref l) (upd H l (.lst (bs.map V.ref)))):=fun pins s σ H xs us Q I r h=>by
 obtain⟨p,as,c,e1,e2,e3,e4,e5,e6,q⟩:=h;refine k9 pins s σ H xs us Q I r ⟨p,as,e1,e2,e3,e4,fun l bs hl hp hb=>q l bs hl hp ?_⟩;rcases qFb as.length with z | h0
 ·have:as=[]:=List.eq_nil_of_length_eq_zero z;subst this;rw[List.perm_nil.mp hp];exact List.Pairwise.nil
 have at_:∀i,i<as.length->as.getD i 0∈as:=fun i hi=>by
  rw[qAt,qAf hi];exact qEo hi
 have z:=SG.p3 h0 (code:=fun i=>c (as.getD i 0)) (fun i j hi hj=>e5 _ (at_ i hi) _ (at_ j hj)) fun i j hi hj e=>by
  refine(List.getElem?_inj (i:=i) (j:=j) (by rw[qAb];exact hi) e6).mp ?_;rw[qAu,qAu,qAf hi,qAf hj];have e':c (as.getD i 0)=c (as.getD j 0):=e;rw[qAt,qAt,qAf hi,qAf hj] at e';exact congrArg some e'
 rw[hb,qBw];exact z
end
section
variable {K:qAa}{a:Addr}{xs:List V}{σ0:St}{H1:Hp}{g:TG}{c:TT}{te:TE}{Q:Addr->Hp->Prop}
theorem p7(Ag:St->Prop)(R:Nat->V->Hp->Prop)(mono:∀i y H H',c9 H H'->R i y H->R i y H')(h0:Ag σ0)(hq:aT K H1 a xs)(hn:xs.length<=qAj)
  (step:∀(i:Nat) (x:V) (σ1:St) (H2:Hp) (k:St->VK) (k0:St->Hp->Prop),Ag σ1->aI H1 H2->xs[i]?=some x->(∀σ2 y H3,Ag σ2->aI H2 H3->R i y H3->k σ2 y H3) ->
   g x σ1 H2 fun σ2 H3=>c σ2 H3 fun b H4=>if b=true then te σ2 H4 (k σ2) else k0 σ2 H4)
  (h:∀D ys H2,H1 D=none->aI H1 H2->ys.length=xs.length->(∀i y,ys[i]?=some y->R i y H2)->H2 D=some (.lst ys)->Q D H2) :
  ∀D,H1 D=none->∃W:Nat->Nat->St->Hp->Prop,(∃m,W 0 m σ0 (upd H1 D (.lst [])))/\∀i m σ1 H2,W i m σ1 H2 ->
   ((pF K a).stop i H2/\Q D H2)\/((pF K a).go i H2/\∃N:St->Hp->Prop,(∀σ' H',N σ' H'->∃m',m'<m/\W (i+1) m' σ' H') /\
    ∀x H',(pF K a).uR i H2 x H'->g x σ1 H' fun σ2 H3=>c σ2 H3 fun b H4=>if b=true then te σ2 H4 fun y H5=>∃xs,H5 D=some (.lst xs)/\xs.length<qAj/\N σ2 (upd H5 D (.lst (xs++[y]))) else N σ2 H4):=by
 intro D hD;refine⟨fun i m σ1 H2=>Ag σ1/\aI H1 H2/\(∃ys,ys.length=i/\(∀j y,ys[j]?=some y->R j y H2)/\H2 D=some (.lst ys))/\i<=xs.length/\m=xs.length-i,⟨xs.length,h0,.aJ hD,⟨[],rfl,fun j y e=>(by cases e),aB⟩,qBq _,rfl⟩,?_⟩;rintro i m σ1 H2 ⟨hσ,hs,⟨ys,hy,hR,hd⟩,hi,rfl⟩;rcases qBo i xs.length with hlt | hge
 ·right
  refine⟨⟨xs,xs[i],hs.seq hq,by simp[hlt]⟩,fun σ' H'=>Ag σ'/\aI H1 H'/\∃ys,ys.length=i+1/\(∀j y,ys[j]?=some y->R j y H')/\H' D=some (.lst ys),fun σ' H' ⟨a,b,c⟩=>⟨xs.length-(i+1),by lia,a,b,c,hlt,rfl⟩,?_⟩;rintro x H' ⟨rfl,hx⟩;have hx:=hx xs (hs.seq hq);refine step i x σ1 _ (fun σ2 y H5=>∃xs,H5 D=some (.lst xs)/\xs.length<qAj/\_) _ hσ hs hx (fun σ2 y H3 a2 hs3 hR3=>⟨_,hs3 _ _ hd,by lia,a2,(hs.trans hs3).upd_ne' hD,ys++[y],by rw[qBi];show _+1=_;lia,fun j z e=>?_,aB⟩);have keep:∀{j z},R j z H3->R j z (upd H3 D (.lst (ys++[y]))):=fun {j z} q=>mono _ _ _ _ (.lst (hs3 _ _ hd)) q;rcases qBo j ys.length with z1 | z1
  ·rw[qDv z1] at e;exact keep (mono _ _ _ _ hs3.t (hR j z e))
  ·rw[qDq z1] at e;obtain⟨rfl,rfl⟩:j=i/\y=z:=by
    rcases qFb (j-ys.length) with q | q
    ·rw[q] at e;exact⟨by lia,Option.some.inj e⟩
    ·rw[qEm (by show 1<=_;lia)] at e;cases e
   exact keep hR3
 ·left
  obtain rfl:i=xs.length:=qEe hi hge;exact⟨⟨xs,hs.seq hq,qAk _⟩,h D ys _ hD hs hy hR hd⟩
end
end L2
set_option maxHeartbeats 8000000
namespace K11
open PySem L2
seal PE PT PW PA PS mK PG Es PI gX GI eR PO EJ DP Ar GK sU Be IB Hb
def top(i:Nat):Stmt:=PySem.Challenge.pw_shareparley_k11_words_of_rules.main.body.getD i (.Pass ⟨0,0,0,0⟩)
abbrev BU:Stmt:=top 6
abbrev wH:Stmt:=top 7
abbrev BV:Stmt:=top 8
abbrev Hw:Stmt:=top 11
abbrev BW:Stmt:=top 12
abbrev BX:Stmt:=top 13
abbrev BY:Stmt:=top 16
abbrev BZ:Stmt:=top 17
abbrev Ca:Stmt:=top 19
abbrev Cb:Stmt:=top 20
abbrev Cc:Stmt:=top 21
abbrev Hx:Stmt:=top 22
abbrev Cd:Stmt:=top 23
abbrev Ce:Stmt:=top 24
abbrev Cf:Stmt:=top 25
abbrev Hy:Stmt:=top 33
abbrev Hz:Stmt:=top 34
abbrev Cg:Stmt:=top 36
abbrev Ci:Stmt:=top 37
abbrev Cj:Stmt:=top 38
abbrev Ck:Stmt:=top 39
abbrev Cm:Stmt:=top 40
abbrev Co:Stmt:=top 43
abbrev Cp:Stmt:=top 44
abbrev Cq:Stmt:=top 45
abbrev Cr:Stmt:=top 46
abbrev Cs:Stmt:=top 47
abbrev Ct:Stmt:=top 48
abbrev DR:Stmt:=inClass (top 26) 0
abbrev GN:Stmt:=inClass (top 26) 1
abbrev tJ:Stmt:=inClass (top 26) 2
abbrev DS:Stmt:=inClass (top 26) 3
abbrev DT:Stmt:=inClass (top 26) 4
abbrev DU:Stmt:=inClass (top 27) 0
abbrev DV:Stmt:=inClass (top 27) 1
abbrev tK:Stmt:=inClass (top 27) 2
abbrev DW:Stmt:=inClass (top 30) 0
abbrev DX:Stmt:=inClass (top 30) 1
abbrev tL:Stmt:=inClass (top 30) 2
abbrev tM:Stmt:=inClass (top 28) 0
abbrev tN:Stmt:=inClass (top 28) 1
abbrev tO:Stmt:=inClass (top 28) 2
abbrev DY:Stmt:=inClass (top 29) 0
abbrev DZ:Stmt:=inClass (top 29) 1
abbrev Ea:Stmt:=inClass (top 29) 2
abbrev Eb:Stmt:=inClass (top 35) 0
abbrev Ec:Stmt:=inClass (top 35) 1
abbrev Ed:Stmt:=inClass (top 35) 3
abbrev Ee:Stmt:=inClass (top 41) 0
abbrev tP:Stmt:=inClass (top 41) 1
abbrev tQ:Stmt:=inClass (top 41) 2
abbrev Ef:Stmt:=inClass (top 41) 4
theorem oJ{v:V}{m:Nat}(h1:kC 0 (2^m-1) v=true):∃g:Nat,v = .int (g:Int)/\g<2^m:=by
 cases v with
 | int i =>
  have z:(decide (0<=i)&&decide (i<=2^m-1))=true:=h1;rw[qAo] at z;have z1:=of_decide_eq_true z.1;have z2:=of_decide_eq_true z.2;have e:((2^m:Nat):Int)=2^m:=by push_cast;rfl
  exact⟨i.toNat,by rw[qEy z1],by lia⟩
 | _=>exact(qAi h1).elim
theorem rH{g m:Nat}(hg:g<2^m):kC 0 (2^m-1) (.int (g:Int))=true:=by
 show(decide (0<=(g:Int))&&decide ((g:Int)<=2^m-1))=true;have e:((2^m:Nat):Int)=2^m:=by push_cast;rfl
 rw[decide_eq_true (by lia),decide_eq_true (by lia)];rfl
def fX:List Int:=[1,2,4,8,16,32]
def alone(i:Nat):Int:=fX.getD i 0
def lY(g:Nat)(i:Nat):Option V:=if qCf (g:Int) (alone i)=0 then none else some (.int (i:Int))
def hN(g:Nat):Nat->List Int
 | 0=>[]
 | i+1=>if g/2^i%2=1 then hN g i++[(i:Int)] else hN g i
def cX(g:Nat):List Int:=hN g 6
theorem p8:∀g:_root_.Fin 64,(qAq 6).filterMap (lY g.1)=(cX g.1).map V.int:=by decide +kernel
theorem p9(g:Nat):∀i,(hN g i).length<=i
 | 0=>qAk _
 | i+1=>by
  have h:=p9 g i;unfold hN;split
  ·rw[qBi,qIf];lia
  ·lia
theorem qA{g m:Nat}(hg:g<2^m):∀(i:Nat) (x:Int),x∈hN g i->0<=x/\x<m
 | 0,x,h=>by cases h
 | i+1,x,h=>by
  unfold hN at h;split at h
  ·rename_i hb;rcases List.mem_append.mp h with h | h
   ·exact qA hg i x h
   ·have:x=(i:Int):=by simpa using h
    rcases qBo i m with z | z
    ·lia
    ·have:g/2^i=0:=qGw (qAl hg (qCq (by decide) z));lia
  ·exact qA hg i x h
def mZ(ns:List Int)(g:Nat):Nat->Int
 | 0=>0
 | i+1=>if g/2^i%2=1 then mZ ns g i+ns.getD i 0 else mZ ns g i
def wI(ns:List Int)(g:Nat):Int:=mZ ns g ns.length
theorem lZ{ns:List Int}{g m:Nat}(hg:g<2^m):∀k,mZ ns g (m+k)=mZ ns g m
 | 0=>rfl
 | k+1=>by
  have:g/2^(m+k)=0:=qGw (qAl hg (qCq (by decide) (by lia)));show(if g/2^(m+k)%2=1 then _ else mZ ns g (m+k))=_;rw[if_neg (by lia)];exact lZ hg k
theorem nD(ns:List Int)(g:Nat):∀i,((hN g i).map fun h=>ns.getD h.toNat 0).sum=mZ ns g i
 | 0=>rfl
 | i+1=>by
  unfold hN mZ;split
  ·rw[qCi,List.sum_append,nD ns g i];simp
  ·exact nD ns g i
theorem qC{ns:List Int}{g:Nat}(hl:ns.length<=6)(hg:g<2^ns.length):((cX g).map fun h=>ns.getD h.toNat 0).sum=wI ns g:=by
 unfold cX;rw[nD];obtain⟨k,hk⟩:∃k,6=ns.length+k:=⟨6-ns.length,by lia⟩;rw[hk];exact lZ hg k
theorem nE(xs:List V)(n:Nat):eA xs (some (n:Int)) none=xs.drop n:=by
 unfold eA;rw[HT.qT,HT.n8];rcases qKz n xs.length with h | h
 ·rw[qJt h];exact qEj (by rw[qFk];lia)
 ·rw[qJq h,List.drop_length,qHu h];simp
theorem wJ(xs:List V)(n:Nat):eA xs none (some (n:Int))=xs.take n:=by
 unfold eA;rw[HT.qT,HT.n8,qJv,qKw];rcases qKz n xs.length with h | h
 ·rw[qJt h]
 ·rw[qJq h,qDk,qEj h]
theorem zC{m:Nat}(h:m<=6):2^m<=64:=qCq (n:=2) (by decide) h
theorem jR{K:qAa}{H:Hp}{ns:List Int}:∀u∈ns.map V.int,Pl K H u:=fun u hu=>by
 obtain⟨x,_,rfl⟩:=List.mem_map.mp hu;exact .int x
theorem all_ints(ns:List Int):(ns.map V.int).all gU=true:=by
 induction ns with
 | nil=>rfl
 | cons n r ih=>exact ih
theorem kH{α β:Type}{f g:α->Option β}:∀{l:List α},(∀x∈l,f x=g x)->l.filterMap f=l.filterMap g
 | [],_=>rfl
 | x::r,h=>by
  rw[qCl,qCl,h x (by simp),kH fun y hy=>h y (by simp[hy])]
def kI:List Int:=[1,2,4,8,16,32,64]
structure RC (K:qAa) (fE fH RU C g:Addr):Prop where
 oc:Fc K C
 nm:cB K C "many"
 me:Meth K C "earn" fE
 mh:Meth K C "hands" fH
 mr:Meth K C "reckon" g
 Ju:qCe K (.ref C) (.ref RU)=some true
def Cu(fs:List (Str×V)):Prop:=fs.lookup ("earn":Str)=none/\fs.lookup ("hands":Str)=none/\fs.lookup ("reckon":Str)=none
def lB(P:qBd)(w:qCb)(K:qAa)(mg:Str->Option qAe)(base:Heap)(fE fH RU:Addr)(H:Hp)(a:Addr)(m:Nat)(e:Nat->Int):Prop :=
 ∃(C dx g:Addr) (fs:List (Str×V)),H a=some (.ins C dx fs)/\RC K fE fH RU C g/\fs.lookup ("many":Str)=some (.int (m:Int))/\1<=m/\m<=6/\Cu fs /\
  ∃ps,Md P w K mg base 6 ps (fun vs H2 Q _=>∃gr:Nat,vs=[.ref a,.int (gr:Int)]/\gr<2^m/\aI H H2/\∀H3,aI H2 H3->Q (.int (e gr)) H3) g
def okN(xs:List V):Bool:=decide (1<=xs.length)&&decide (xs.length<=6)&&xs.all gU
theorem fG(n:Nat):kC 1 6 (.int (n:Int))=(decide (1<=n)&&decide (n<=6)):=by
 show(decide (1<=(n:Int))&&decide ((n:Int)<=6))=_;rw[qEd,qAo,qAo,decide_eq_true_iff,decide_eq_true_iff,decide_eq_true_iff,decide_eq_true_iff];lia
structure T (K:qAa) (mg:Str->Option qAe) (AL LN RU OW PL PA VO MA NE fE fH rR rO rP rA rV rM rN iR iO iP iA iV iM iN fL wR wO wP wA wV wM wN SE NG NL NT:Addr):Prop where
 iG:mg "isinstance"=none
 oK:mg "int"=none
 kJ:mg "bool"=none
 cK:mg "range"=none
 dW:mg "len"=none
 dA:mg "list"=none
 jE:mg "sum"=none
 l8:mg "all"=none
 oM:mg "any"=none
 fY:mg "sorted"=none
 iH:mg "tuple"=none
 oN:mg "min"=none
 kK:mg "abs"=none
 kL:mg "enumerate"=none
 gP:mg "str"=none
 pD:mg "ALONE"=some (.ref AL)
 al:∀H:Hp,dE K H AL (fX.map V.int)
 Eg:mg "LENGTHS"=some (.ref LN)
 ln:∀H:Hp,dE K H LN (kI.map V.int)
 IM:∃o,K.lookup LN=some o/\o.cls = .type "tuple"/\o.dict=none
 we:∃tk,mg "WELL"=some (.int 64 tk)
 wK:mg "Rule"=some (.ref RU)
 GO:RC K fE fH RU RU rR
 IP:Mk K RU iR
 Fm:mg "Own"=some (.ref OW)
 Cv:RC K fE fH RU OW rO
 IQ:Mk K OW iO
 HA:cB K OW "numbers"
 Fn:mg "Plain"=some (.ref PL)
 Cw:RC K fE fH RU PL rP
 IS:Mk K PL iP
 HB:cB K PL "earnings"
 Fo:mg "Pairs"=some (.ref PA)
 Cy:RC K fE fH RU PA rA
 IT:Mk K PA iA
 HC:cB K PA "pairs"
 Fp:mg "Votes"=some (.ref VO)
 tR:RC K fE fH RU VO rV
 IU:Mk K VO iV
 HD:cB K VO "quota"
 Cz:cB K VO "prize"
 CA:cB K VO "weights"
 Fq:mg "Match"=some (.ref MA)
 zD:RC K fE fH RU MA rM
 IV:Mk K MA iM
 HE:cB K MA "pairs"
 Fs:cB K MA "best"
 Ft:mg "Net"=some (.ref NE)
 rJ:RC K fE fH RU NE rN
 IW:Mk K NE iN
 HF:cB K NE "costs"
 zE:cB K NE "ropes"
 IX:Meth K NE "least" fL
 IY:Meth K RU "words" wR
 IZ:Meth K OW "words" wO
 Ja:Meth K PL "words" wP
 Jb:Meth K PA "words" wA
 Jc:Meth K VO "words" wV
 Jd:Meth K MA "words" wM
 Je:Meth K NE "words" wN
 Jf:∃fd,Mx K "__init__" "Rule.__init__" DR ["self","many"] iR fd
 xH:∃fd,Mx K "hands" "Rule.hands" GN ["self"] fH fd
 xE:∃fd,Mx K "earn" "Rule.earn" tJ ["self","group"] fE fd
 Jg:∃fd,Mx K "reckon" "Rule.reckon" DS ["self","group"] rR fd
 Jh:∃fd,Mx K "words" "Rule.words" DT ["self"] wR fd
 Ji:∃fd,Mx K "__init__" "Own.__init__" DU ["self","numbers"] iO fd
 Jj:∃fd,Mx K "reckon" "Own.reckon" DV ["self","group"] rO fd
 HG:∃fd,Mx K "words" "Own.words" tK ["self"] wO fd
 Jk:∃fd,Mx K "__init__" "Plain.__init__" DW ["self","table"] iP fd
 Jl:∃fd,Mx K "reckon" "Plain.reckon" DX ["self","group"] rP fd
 HH:∃fd,Mx K "words" "Plain.words" tL ["self"] wP fd
 HI:∃fd,Mx K "__init__" "Pairs.__init__" tM ["self","many","pairs"] iA fd
 HJ:∃fd,Mx K "reckon" "Pairs.reckon" tN ["self","group"] rA fd
 HK:∃fd,Mx K "words" "Pairs.words" tO ["self"] wA fd
 Jm:∃fd,Mx K "__init__" "Votes.__init__" DY ["self","quota","prize","weights"] iV fd
 Jn:∃fd,Mx K "reckon" "Votes.reckon" DZ ["self","group"] rV fd
 Jo:∃fd,Mx K "words" "Votes.words" Ea ["self"] wV fd
 Jp:∃fd,Mx K "__init__" "Match.__init__" Eb ["self","many","pairs"] iM fd
 Jq:∃fd,Mx K "reckon" "Match.reckon" Ec ["self","group"] rM fd
 Jr:∃fd,Mx K "words" "Match.words" Ed ["self"] wM fd
 Js:∃fd,Mx K "__init__" "Net.__init__" Ee ["self","costs","ropes"] iN fd
 HL:∃fd,Mx K "least" "Net.least" tP ["self","group"] fL fd
 HM:∃fd,Mx K "reckon" "Net.reckon" tQ ["self","group"] rN fd
 Jt:∃fd,Mx K "words" "Net.words" Ef ["self"] wN fd
 Eh:Aw K RU "__init__" iR
 GP:mg "ShareError"=some (.ref SE)
 Fu:mg "NoGroup"=some (.ref NG)
 wL:mg "NoRule"=some (.ref NL)
 Fv:mg "NoTable"=some (.ref NT)
 Jv:kA K SE
 wQ:qDh K NL BA "ValueError.__new__"=true
 Fw:qDh K NT BA "ValueError.__new__"=true
 Fx:qDh K NG BA "ValueError.__new__"=true
section
variable {P:qBd}{w:qCb}{K:qAa}{mg:Str->Option qAe}{base:Heap}{AL LN RU OW PL PA VO MA NE fE fH rR rO rP rA rV rM rN iR iO iP iA iV iM iN fL wR wO wP wA wV wM wN SE NG NL NT:Addr}{f:Addr}{fd:qAz}
def rK(K:qAa):Sp:=fun vs H Q _=>∃v,vs=[v]/\Pl K H v/\Q (.bl (gU v)) H
theorem Fy:aL ["thing"] ["thing"] (aD BU):=by constructor<;>first|rfl|decide +kernel
theorem CB(t:Tx K mg "is_number" BU ["thing"] f fd)(T:T K mg AL LN RU OW PL PA VO MA NE fE fH rR rO rP rA rV rM rN iR iO iP iA iV iM iN fL wR wO wP wA wV wM wN SE NG NL NT):Df P w K mg base cI 1 "is_number" ["thing"] (rK K) f fd:=by
 refine t.lR Fy (fun vs H Q E h=>?_) (fun cdv A outer s H vs Q E hr h=>?_)
 ·obtain⟨v,rfl,_⟩:=h;rfl
 ·obtain⟨v,rfl,pl,k⟩:=h;obtain⟨Ty,ty,kd⟩:=pl.ex;refine⟨_,aH (aU (jT (aV fU (by rfl) T.iG kB (aA (pv 0) (aA (g8 (v:=.ty "int") (by rfl) T.oK BE rfl) aC)))
   (mL (Bd (aV fU (by rfl) T.iG kB (aA (pv 0) (aA (g8 (v:=.ty "bool") (by rfl) T.kJ yT rfl) aC))))))),?_⟩
  refine⟨_,rfl,v,.ty "int",_,_,_,rfl,rfl,.of ty,kd.Hr K,_,rfl,?_⟩;refine fR (fun h1=>?_) (fun h1=>?_)
  ·refine⟨_,rfl,v,.ty "bool",_,_,_,rfl,rfl,.of ty,kd.EZ K,_,rfl,?_⟩;have e:(!(Ty == "bool"))=gU v:=by
    rw[Pl.gU ty];cases kd <;> first | rfl | (exact absurd h1 (by decide))
   rw[e];exact k
  ·have e:false=gU v:=by
    rw[Pl.gU ty];cases kd <;> first | rfl | (exact absurd rfl h1)
   rw[e];exact k
def qD(K:qAa):Sp:=fun vs H Q _=>∃(v:V) (lo hi:Int),vs=[v,.int lo,.int hi]/\Pl K H v/\Q (.bl (kC lo hi v)) H
theorem CC:aL ["thing","least","most"] ["thing","least","most"] (aD wH):=by constructor<;>first|rfl|decide +kernel
theorem zF{f1:Addr}{fd1:qAz}(t:Tx K mg "is_number_within" wH ["thing","least","most"] f fd)(D:Df P w K mg base cI 1 "is_number" ["thing"] (rK K) f1 fd1):
  Df P w K mg base cI 2 "is_number_within" ["thing","least","most"] (qD K) f fd:=by
 refine t.lR CC (fun vs H Q E h=>?_) (fun cdv A outer s H vs Q E hr h=>?_)
 ·obtain⟨v,lo,hi,rfl,_⟩:=h;rfl
 ·obtain⟨v,lo,hi,rfl,pl,k⟩:=h;refine⟨_,aH (aU (jT (bA D hr (qAk _) (by rfl) (aA (pv 0) aC)) (mL (uW uV uV (pv 1) (pv 0) (pv 2))))),?_⟩;refine⟨_,rfl,v,rfl,pl,_,rfl,?_⟩;cases v with
  | int i =>
   refine gL ⟨_,rfl,_,rfl,lo,i,rfl,rfl,_,rfl,?_⟩;refine fR (fun h1=>⟨_,rfl,i,hi,rfl,rfl,?_⟩) (fun h1=>?_)
   ·have e:decide (i<=hi)=kC lo hi (.int i):=by
     show _=(decide (lo<=i)&&decide (i<=hi));rw[h1,Bool.true_and]
    show Q (.bl (decide (i<=hi))) H;rw[e];exact k
   ·have e:false=kC lo hi (.int i):=by
     show _=(decide (lo<=i)&&decide (i<=hi));rw[Bool.eq_false_iff.mpr h1,qDl]
    rw[e];exact k
  | _=>exact eU k
def AA(K:qAa)(NL:Addr):Sp:=fun vs H Q E=>∃v,vs=[v]/\Pl K H v/\if kC 1 6 v=true then Q .non H else E (.ref NL) none H
theorem Fz:aL ["many"] ["many"] (aD BV):=by constructor<;>first|rfl|decide +kernel
theorem CD{f1:Addr}{fd1:qAz}(t:Tx K mg "check_many" BV ["many"] f fd)(T:T K mg AL LN RU OW PL PA VO MA NE fE fH rR rO rP rA rV rM rN iR iO iP iA iV iM iN fL wR wO wP wA wV wM wN SE NG NL NT)(D_is_number_within:Df P w K mg base cI 2 "is_number_within" ["thing","least","most"] (qD K) f1 fd1):
  Df P w K mg base (fT P w) 3 "check_many" ["many"] (AA K NL) f fd:=by
 refine t.Au Fz (fun vs H Q E h=>?_) (fun cdv A outer s H vs Q E hr h=>?_)
 ·obtain⟨v,rfl,_⟩:=h;rfl
 ·obtain⟨v,rfl,pl,k⟩:=h;refine⟨_,(aH (dG (eZ (dX (bA D_is_number_within hr (by decide) (by rfl) (aA (pv 0) (aA aG (aA aG aC)))))) (aH (c5 aP rfl (by rfl) T.wL T.wQ (aA a8 aC))) bO)),?_⟩;refine⟨_,rfl,v,1,6,rfl,pl,_,rfl,?_⟩;cases e:kC 1 6 v with
  | true =>
   rw[e,if_pos rfl] at k;exact eU k
  | false =>
   rw[e,if_neg qAi] at k;exact gL ⟨qO,k⟩
def CF:Sp:=fun vs H Q _=>∃m:Nat,vs=[.int (m:Int)]/\m<=6/\∀H',aI H H'->Q (.int (2^m-1)) H'
theorem tS:∀m:_root_.Fin 7,(fX.take m.1).sum=2^m.1-1:=by decide
theorem HN:aL ["many"] ["many"] (aD Hw):=by constructor<;>first|rfl|decide +kernel
theorem FA(t:Tx K mg "whole_company" Hw ["many"] f fd)(T:T K mg AL LN RU OW PL PA VO MA NE fE fH rR rO rP rA rV rM rN iR iO iP iA iV iM iN fL wR wO wP wA wV wM wN SE NG NL NT):Df P w K mg base cI 1 "whole_company" ["many"] CF f fd:=by
 refine t.lR HN (fun vs H Q E h=>?_) (fun cdv A outer s H vs Q E hr h=>?_)
 ·obtain⟨m,rfl,_⟩:=h;rfl
 ·obtain⟨m,rfl,hm,k⟩:=h;refine⟨_,(aH (aU (aV (hZ rfl) (by rfl) T.jE mY (aA (eK rC (bL (v:=.ref AL) (by rfl) T.pD rfl) fB (fD (pv 0))) aC)))),?_⟩;refine⟨_,rfl,_,rfl,AL,_,rfl,T.al _,fun p H' s hq=>⟨p,fX.take m,rfl,.inr ?_,?_⟩⟩
  ·rw[wJ,<- qKd] at hq;exact hq
  ·rw[tS ⟨m,by lia⟩];exact k H' s
def wU(K:qAa)(NG:Addr):Sp:=fun vs H Q E=>∃(v:V) (m:Nat),vs=[v,.int (m:Int)]/\m<=6/\Pl K H v/\(kC 0 (2^m-1) v=false->∀H',aI H H'->E (.ref NG) none H')/\(kC 0 (2^m-1) v=true->∀H',aI H H'->Q .non H')
theorem FC:aL ["group","many"] ["group","many"] (aD BW):=by constructor<;>first|rfl|decide +kernel
theorem CG{f1 f2:Addr}{fd1 fd2:qAz}(t:Tx K mg "check_group" BW ["group","many"] f fd)(T:T K mg AL LN RU OW PL PA VO MA NE fE fH rR rO rP rA rV rM rN iR iO iP iA iV iM iN fL wR wO wP wA wV wM wN SE NG NL NT)(D_is_number_within:Df P w K mg base cI 2 "is_number_within" ["thing","least","most"] (qD K) f1 fd1)
  (D_whole_company:Df P w K mg base cI 1 "whole_company" ["many"] CF f2 fd2):Df P w K mg base (fT P w) 3 "check_group" ["group","many"] (wU K NG) f fd:=by
 refine t.Au FC (fun vs H Q E h=>?_) (fun cdv A outer s H vs Q E hr h=>?_)
 ·obtain⟨v,m,rfl,_⟩:=h;rfl
 ·obtain⟨v,m,rfl,hm,pl,k0,k⟩:=h;refine⟨_,(aH (dG (eZ (dX (bA D_is_number_within hr (by decide) (by rfl) (aA (pv 0) (aA aG (aA (bA D_whole_company hr (by decide) (by rfl) (aA (pv 1) aC)) aC)))))) (aH (c5 aP rfl (by rfl) T.Fu T.Fx (aA a8 aC))) bO)),?_⟩;refine⟨_,rfl,_,rfl,m,rfl,hm,fun H' s=>⟨v,0,_,rfl,pl.same s,_,rfl,?_⟩⟩;cases e:kC 0 (2^m-1) v with
  | true=>exact eU (k e H' s)
  | false=>exact gL ⟨qO,k0 e H' s⟩
theorem iI{i:Int}(h0:0<=i)(h5:i<=5):jN (fX.map V.int) i=some (.int (alone i.toNat)):=by
 have h:i.toNat<6:=by lia
 have all:∀j:_root_.Fin 6,(fX.map V.int)[j.1]?=some (.int (alone j.1)):=by decide
 have z:=bU (all ⟨i.toNat,h⟩);rw[show(((⟨i.toNat,h⟩:_root_.Fin 6).1:Nat):Int)=i from qEy h0] at z;exact z
def wW(K:qAa)(NG:Addr):Sp:=fun vs H Q E=>∃v,vs=[v]/\Pl K H v/\(kC 0 (2^6-1) v=false->∀H',aI H H'->E (.ref NG) none H') /\
 ∀(g:Nat) (l:Addr) (H':Hp),v = .int (g:Int)->g<64->H l=none->aI H H'->H' l=some (.lst ((cX g).map V.int))->Q (.ref l) H'
theorem FD:aL ["group"] ["group"] (aD BX):=by constructor<;>first|rfl|decide +kernel
theorem CH{f1:Addr}{fd1:qAz}(t:Tx K mg "hands_of" BX ["group"] f fd)(T:T K mg AL LN RU OW PL PA VO MA NE fE fH rR rO rP rA rV rM rN iR iO iP iA iV iM iN fL wR wO wP wA wV wM wN SE NG NL NT)(D_check_group:Df P w K mg base (fT P w) 3 "check_group" ["group","many"] (wU K NG) f1 fd1):
  Df P w K mg base (fT P w) 4 "hands_of" ["group"] (wW K NG) f fd:=by
 refine t.Au FD (fun vs H Q E h=>?_) (fun cdv A outer s H vs Q E hr h=>?_)
 ·obtain⟨v,rfl,_⟩:=h;rfl
 ·obtain⟨v,rfl,pl,k0,k⟩:=h;refine⟨_,(aE (bC (dU aP.toPass D_check_group hr (by decide) (by rfl) (aA (pv 0) (aA (aV a9 (by rfl) T.dW dP (aA (bL (v:=.ref AL) (by rfl) T.pD rfl) aC)) aC))))
   (aH (aU (cT (NB:=["hand","group"]) (pick:=[none,some 0]) (cO (by with_unfolding_all rfl) (by exact(And.intro rfl trivial)) rfl (by decide +kernel) (by decide +kernel) (by rfl) (by rfl)) rfl
     (cW (by rfl) T.cK (aA (aV a9 (by rfl) T.dW dP (aA (bL (v:=.ref AL) (by rfl) T.pD rfl) aC)) aC)) (fun _ _ _=>aQ (i:=0) (show(["hand","group"]:List Str).Nodup from by decide +kernel) rfl cF)
     (fun _ _ _=>mV (cA lJ (aM jX (pv 1) (aZ (yS K) (bL (v:=.ref AL) (by rfl) T.pD rfl) (pv 0) (fun _ _=>rfl))) aG (bZ _))) (fun _ _ _=>(pv 0)))))),?_⟩
  refine⟨_,rfl,AL,_,rfl,.inr (T.al _),v,6,rfl,by decide,pl,k0,fun h1 H' s1=>?_⟩;obtain⟨g,rfl,hg⟩:=oJ h1;have hg:g<64:=hg;refine⟨AL,_,rfl,.inr (T.al _),_,rfl,by decide,by decide,?_⟩;refine oE (lY g) (by decide) (fun i H2 kk kk0 hi h1 h2=>?_) fun D hD=>?_
  ·obtain⟨j,rfl⟩:∃j:Nat,j=i:=⟨i,rfl⟩;have e0:(0:Int)+(j:Int)=(j:Int):=qEn _;have hat:jN (fX.map V.int) ((0:Int)+(j:Int))=some (.int (alone j)):=by
    rw[e0];have z:=iI (i:=(j:Int)) (by lia) (by have:j<6:=hi;lia);simpa using z
   refine⟨_,rfl,_,rfl,AL,_,_,_,rfl,rfl,T.al _,hat,_,_,rfl,rfl,rfl,_,rfl,?_⟩;refine fR (fun h3=>⟨_,rfl,h1 _ ?_⟩) (fun h3=>h2 ?_)
   ·have z:¬V.int (qCf (g:Int) (alone j))=V.int 0:=of_decide_eq_false (by
     have z:(!decide (V.int (qCf (g:Int) (alone j))=V.int 0))=true:=h3;simpa using z)
    rw[e0];unfold lY;rw[if_neg fun q=>z (congrArg V.int q)]
   ·unfold lY;refine if_pos (qCd fun q=>h3 ?_);show(!decide (V.int (qCf (g:Int) (alone j))=V.int 0))=true;rw[decide_eq_false fun z=>q (V.int.inj z)];rfl
  ·have e':(qAq 6).filterMap (lY g)=(cX g).map V.int:=p8 ⟨g,hg⟩;show Q _ (upd H' D (.lst ((qAq 6).filterMap (lY g))));rw[e'];exact k g D _ rfl hg (s1.free hD) (s1.trans (.aJ hD)) aB
def gM(xs:List V):Bool:=[2,4,8,16,32,64].contains xs.length&&xs.all gU&&decide (xs[0]?=some (.int 0))
def AB(K:qAa):Sp:=fun vs H Q _=>∃(p:Addr) (xs:List V),vs=[.ref p]/\H p=some (.lst xs)/\(∀v∈xs,Pl K H v)/\xs.length<=1000/\∀H',aI H H'->Q (.bl (gM xs)) H'
theorem FE:aL ["thing"] ["thing"] (aD BY):=by constructor<;>first|rfl|decide +kernel
theorem zG(n:Nat):(!EO (.int (n:Int)) (eA (kI.map V.int) (some 1) none)) = !([2,4,8,16,32,64].contains n):=by
 have e:eA (kI.map V.int) (some 1) none=[V.int 2,.int 4,.int 8,.int 16,.int 32,.int 64]:=by decide
 rw[e];have q:∀k:Nat,yL (.int (k:Int)) (.int (n:Int))=(n == k):=fun k=>by
  show((k:Int) == (n:Int))=(n == k);rw[qEd,beq_iff_eq,beq_iff_eq];lia
 have:=q 2;have:=q 4;have:=q 8;have:=q 16;have:=q 32;have:=q 64;simp_all [EO];rfl
theorem CI{f1:Addr}{fd1:qAz}(t:Tx K mg "is_table" BY ["thing"] f fd)(T:T K mg AL LN RU OW PL PA VO MA NE fE fH rR rO rP rA rV rM rN iR iO iP iA iV iM iN fL wR wO wP wA wV wM wN SE NG NL NT)(D_is_number:Df P w K mg base cI 1 "is_number" ["thing"] (rK K) f1 fd1):
  Df P w K mg base cI 2 "is_table" ["thing"] (AB K) f fd:=by
 refine t.lR FE (fun vs H Q E h=>?_) (fun cdv A outer s H vs Q E hr h=>?_)
 ·obtain⟨p,xs,rfl,_⟩:=h;rfl
 ·obtain⟨p,xs,rfl,hp,pl,hlen,k⟩:=h;refine⟨_,(aE (dG (PW.pt (pw_or (eZ (dX (aV fU (by rfl) T.iG kB (aA (pv 0) (aA (g8 (v:=.ty "list") (by rfl) T.dA dQ rfl) aC))))) (pw_or1 (cA mR (aV a9 (by rfl) T.dW dP (aA (pv 0) aC)) (eK rC (bL (v:=.ref LN) (by rfl) T.Eg rfl) (fD aG) fB) (by rfl))))) (aH (aU nU)) bO)
   (aH (aU (jT (aV (oF rfl) (by rfl) T.l8 vR (aA (cT (NB:=["number"]) (pick:=[none]) (cO (by with_unfolding_all rfl) (by exact trivial) rfl (by decide +kernel) (by decide +kernel) (by rfl) (by rfl)) rfl
     (bP (pv 0)) (fun _ _ _=>aQ (i:=0) (show(["number"]:List Str).Nodup from by decide +kernel) rfl cF)
     (fun _ _ _=>cJ) (fun _ _ _=>(bA D_is_number hr (by decide) (by rfl) (aA (pv 0) aC)))) aC)) (mL (gG i6 (aZ bE (pv 0) aG (fun _ _=>rfl)) aG (bZ _))))))),?_⟩
  refine⟨_,rfl,.ref p,.ty "list",_,_,_,rfl,rfl,.of (.lst hp),Kd.lst.Fb K,_,rfl,eU ?_⟩;refine⟨_,rfl,p,_,rfl,.inl (aT.of hp),_,rfl,LN,_,rfl,T.ln _,fun q H1 s1 hq=>⟨q,_,rfl,.inr hq,rfl,by decide,_,rfl,?_⟩⟩;show if (!EO (.int (xs.length:Int)) (eA (kI.map V.int) (some 1) none))=true then _ else _;rw[zG];cases ec:[2,4,8,16,32,64].contains xs.length with
  | false =>
   have e:false=gM xs:=by unfold gM;rw[ec];rfl
   refine gL ?_;have z:=k H1 s1;rw[<- e] at z;exact z
  | true =>
   refine eU ⟨_,rfl,p,rfl,⟨xs,aT.of (s1 _ _ hp)⟩,?_⟩;refine cR (xs:=xs) (fun _ x=>some (.bl (gU x))) (aT.of (s1 _ _ hp)) (qBp (aW hlen)) (fun i x H2 kk kk0 s2 hx h1 h2=>?_) fun D H2 hD s2 hd=>?_
   ·exact⟨_,rfl,x,rfl,(pl x (qAy hx)).same (s1.trans s2),h1 _ rfl _ (.refl _)⟩
   ·have ed:((qAq xs.length).filterMap fun i=>(xs[i]?).bind fun x=>some (V.bl (gU x)))=(xs.map gU).map V.bl:=by
     rw[qBw,<- mX];rfl
    rw[ed] at hd;refine⟨D,_,rfl,aT.of hd,_,rfl,?_⟩;have ea:(xs.map gU).all id=xs.all gU:=by rw[qKn];rfl
    rw[ea];cases eb:xs.all gU with
    | false =>
     have e:false=gM xs:=by unfold gM;rw[ec,eb];rfl
     refine eU ?_;have z:=k H2 (s1.trans s2);rw[<- e] at z;exact z
    | true =>
     have hpos:0<xs.length:=by
      cases xs with
      | nil=>exact absurd ec (by decide)
      | cons _ _=>exact qKv _
     obtain⟨i,hi⟩:∃i,xs[0]?=some (.int i):=by
      have hm:=List.all_eq_true.mp eb xs[0] (qEo hpos);cases e0:xs[0] with
      | int i=>exact⟨i,by rw[qAf hpos,e0]⟩
      | _=>rw[e0] at hm;exact(qAi hm).elim
     refine gL ⟨_,rfl,p,_,_,_,rfl,rfl,aT.of (s2 _ _ (s1 _ _ hp)),bU hi,rfl,?_⟩;have e:decide (V.int i=V.int 0)=gM xs:=by unfold gM;rw[ec,eb,hi];simp
     show Q (.bl (decide (V.int i=V.int 0))) H2;rw[e];exact k H2 (s1.trans s2)
def AD(K:qAa)(NT:Addr):Sp:=fun vs H Q E=>∃(p:Addr) (xs:List V),vs=[.ref p]/\H p=some (.lst xs)/\(∀v∈xs,Pl K H v)/\xs.length<=1000/\(gM xs=false->∀H',aI H H'->E (.ref NT) none H') /\
 ∀m:Nat,1<=m->m<=6->xs.length=2^m->gM xs=true->∀H',aI H H'->Q (.int (m:Int)) H'
theorem FF:aL ["table"] ["table"] (aD BZ):=by constructor<;>first|rfl|decide +kernel
theorem zH{xs:List V}(h:gM xs=true):∃m:Nat,1<=m/\m<=6/\xs.length=2^m:=by
 have z:[2,4,8,16,32,64].contains xs.length=true:=by
  unfold gM at h;rw[qAo,qAo] at h;exact h.1.1
 have z:xs.length∈[2,4,8,16,32,64]:=by simpa using z
 simp only[qDe,qBs,or_false] at z;rcases z with z | z | z | z | z | z
 ·exact⟨1,by decide,by decide,z⟩
 ·exact⟨2,by decide,by decide,z⟩
 ·exact⟨3,by decide,by decide,z⟩
 ·exact⟨4,by decide,by decide,z⟩
 ·exact⟨5,by decide,by decide,z⟩
 ·exact⟨6,by decide,by decide,z⟩
theorem zI:∀m:_root_.Fin 7,kI[m.1]?=some ((2:Int)^m.1)/\∀j:_root_.Fin 7,j.1<m.1->kI[j.1]?≠some ((2:Int)^m.1):=by decide
theorem CJ{f1:Addr}{fd1:qAz}(t:Tx K mg "hands_in" BZ ["table"] f fd)(T:T K mg AL LN RU OW PL PA VO MA NE fE fH rR rO rP rA rV rM rN iR iO iP iA iV iM iN fL wR wO wP wA wV wM wN SE NG NL NT)(D_is_table:Df P w K mg base cI 2 "is_table" ["thing"] (AB K) f1 fd1):
  Df P w K mg base (fT P w) 3 "hands_in" ["table"] (AD K NT) f fd:=by
 refine t.Au FF (fun vs H Q E h=>?_) (fun cdv A outer s H vs Q E hr h=>?_)
 ·obtain⟨p,xs,rfl,_⟩:=h;rfl
 ·obtain⟨p,xs,rfl,hp,pl,hlen,k0,k⟩:=h;refine⟨_,(aE (dG (eZ (dX (bA D_is_table hr (by decide) (by rfl) (aA (pv 0) aC)))) (aH (c5 aP rfl (by rfl) T.Fv T.Fw (aA a8 aC))) bO)
   (aH (aU (fQ PySem.F.plainAttrs_tuple PySem.F.slot_tuple_index PySem.F.type_tuple_index vS (bL (v:=.ref LN) (by rfl) T.Eg rfl) (aA (aV a9 (by rfl) T.dW dP (aA (pv 0) aC)) aC))))),?_⟩
  refine⟨_,rfl,p,xs,rfl,hp,pl,hlen,fun H1 s1=>⟨_,rfl,?_⟩⟩;cases e:gM xs with
  | false=>exact gL ⟨qO,k0 e H1 s1⟩
  | true =>
   obtain⟨m,h1,h6,hm⟩:=zH e;obtain⟨l1,l2⟩:=zI ⟨m,by lia⟩;refine eU ⟨.inr (.inl ⟨rfl,T.IM⟩),_,rfl,p,_,rfl,.inl (aT.of (s1 _ _ hp)),LN,kI,_,m,rfl,rfl,T.ln _,?_,?_,k m h1 h6 hm e H1 s1⟩
   ·rw[hm,l1];push_cast;rfl
   ·intro j hj;have z:=l2 ⟨j,by lia⟩ hj;rw[hm];intro q;refine z (q.trans ?_);push_cast;rfl
def oO(K:qAa)(NL:Addr):Sp:=fun vs H Q E=>∃(p:Addr) (xs:List V),vs=[.ref p]/\(H p=some (.lst xs)\/H p=some (.tup xs))/\(∀v∈xs,Pl K H v)/\xs.length<=1000/\(xs.all gU=false->∀H',aI H H'->E (.ref NL) none H')/\(xs.all gU=true->∀H',aI H H'->Q .non H')
theorem FG:aL ["things"] ["things"] (aD Ca):=by constructor<;>first|rfl|decide +kernel
theorem CK{f1:Addr}{fd1:qAz}(t:Tx K mg "check_numbers" Ca ["things"] f fd)(T:T K mg AL LN RU OW PL PA VO MA NE fE fH rR rO rP rA rV rM rN iR iO iP iA iV iM iN fL wR wO wP wA wV wM wN SE NG NL NT)(D_is_number:Df P w K mg base cI 1 "is_number" ["thing"] (rK K) f1 fd1):
  Df P w K mg base (fT P w) 2 "check_numbers" ["things"] (oO K NL) f fd:=by
 refine t.Au FG (fun vs H Q E h=>?_) (fun cdv A outer s H vs Q E hr h=>?_)
 ·obtain⟨p,xs,rfl,_⟩:=h;rfl
 ·obtain⟨p,xs,rfl,hp,pl,hlen,k0,k⟩:=h;refine⟨_,(aH (dG (eZ (dX (aV (oF rfl) (by rfl) T.l8 vR (aA (cT (NB:=["thing"]) (pick:=[none]) (cO (by with_unfolding_all rfl) (by exact trivial) rfl (by decide +kernel) (by decide +kernel) (by rfl) (by rfl)) rfl
     (BJ (pv 0)) (fun _ _ _=>aQ (i:=0) (show(["thing"]:List Str).Nodup from by decide +kernel) rfl cF)
     (fun _ _ _=>cJ) (fun _ _ _=>(bA D_is_number hr (by decide) (by rfl) (aA (pv 0) aC)))) aC)))) (aH (c5 aP rfl (by rfl) T.wL T.wQ (aA a8 aC))) bO)),?_⟩
  have fin:∀(D:Addr) (H2:Hp),aI H H2->H2 D=some (.lst ((qAq xs.length).filterMap fun i=>(xs[i]?).bind fun x=>some (V.bl (gU x)))) ->
    ∃bs:List Bool,aT K H2 D (bs.map V.bl)/\bs.all id=xs.all gU:=fun D H2 s2 hd=>by
   refine⟨xs.map gU,?_,by rw[qKn];rfl⟩;rw[qBw,<- mX] at *;exact aT.of hd
  have step:∀(i:Nat) (x:V) (H2:Hp),aI H H2->xs[i]?=some x->Pl K H2 x:=fun i x H2 s2 hx=>(pl x (qAy hx)).same s2;have endk:∀(D:Addr) (H2:Hp) (bs:List Bool),aI H H2->bs.all id=xs.all gU->if (!(bs.all id))=true then (1<=qAj/\E (.ref NL) none H2) else Q .non H2:=fun D H2 bs s2 e=>by
   rw[e];cases eb:xs.all gU with
   | false=>exact gL ⟨by decide,k0 eb H2 s2⟩
   | true=>exact eU (k eb H2 s2)
  rcases hp with hp | hp
  ·refine⟨_,rfl,p,rfl,.inl ⟨⟨xs,aT.of hp⟩,?_⟩⟩;refine cR (xs:=xs) (fun _ x=>some (.bl (gU x))) (aT.of hp) (qBp (aW hlen)) (fun i x H2 kk kk0 s2 hx h1 h2=>?_) fun D H2 hD s2 hd=>?_
   ·exact⟨_,rfl,x,rfl,step i x H2 s2 hx,h1 _ rfl _ (.refl _)⟩
   ·obtain⟨bs,q1,q2⟩:=fin D H2 s2 hd;exact⟨D,bs,rfl,q1,_,rfl,endk D H2 bs s2 q2⟩
  ·refine⟨_,rfl,p,rfl,.inr ⟨⟨xs,dE.of hp⟩,?_⟩⟩;refine vT (xs:=xs) (fun _ x=>some (.bl (gU x))) (dE.of hp) (qBp (aW hlen)) (fun i x H2 kk kk0 s2 hx h1 h2=>?_) fun D H2 hD s2 hd=>?_
   ·exact⟨_,rfl,x,rfl,step i x H2 s2 hx,h1 _ rfl _ (.refl _)⟩
   ·obtain⟨bs,q1,q2⟩:=fin D H2 s2 hd;exact⟨D,bs,rfl,q1,_,rfl,endk D H2 bs s2 q2⟩
def tT(m:Int):List V->Bool
 | [.int i,.int j,.int _]=>decide (0<=i)&&decide (i<j)&&decide (j<m)
 | _=>false
theorem qE{m:Int}{xs:List V}(h:tT m xs=true):∃i j n:Int,xs=[.int i,.int j,.int n]/\0<=i/\i<j/\j<m:=by
 unfold tT at h;split at h
 ·rename_i i j n;rw[qAo,qAo] at h;exact⟨i,j,n,rfl,of_decide_eq_true h.1.1,of_decide_eq_true h.1.2,of_decide_eq_true h.2⟩
 ·cases h
theorem qF{m:Int}{xs:List V}(h:¬∃i j n:Int,xs=[.int i,.int j,.int n]/\0<=i/\i<j/\j<m):tT m xs=false:=by
 cases e:tT m xs with
 | false=>rfl
 | true=>exact absurd (qE e) h
def AE(K:qAa)(NL:Addr):Sp:=fun vs H Q E=>∃(m:Int) (a:Addr) (xs:List V),vs=[.int m,.ref a]/\H a=some (.tup xs)/\(∀v∈xs,Pl K H v)/\xs.length<=1000/\(tT m xs=false->∀H',aI H H'->E (.ref NL) none H')/\(tT m xs=true->∀H',aI H H'->Q .non H')
theorem FH:aL ["many","pair"] ["many","pair"] (aD Cb):=by constructor<;>first|rfl|decide +kernel
theorem CL{f1:Addr}{fd1:qAz}(t:Tx K mg "check_pair" Cb ["many","pair"] f fd)(T:T K mg AL LN RU OW PL PA VO MA NE fE fH rR rO rP rA rV rM rN iR iO iP iA iV iM iN fL wR wO wP wA wV wM wN SE NG NL NT)(D_check_numbers:Df P w K mg base (fT P w) 2 "check_numbers" ["things"] (oO K NL) f1 fd1):
  Df P w K mg base (fT P w) 3 "check_pair" ["many","pair"] (AE K NL) f fd:=by
 refine t.Au FH (fun vs H Q E h=>?_) (fun cdv A outer s H vs Q E hr h=>?_)
 ·obtain⟨m,a,xs,rfl,_⟩:=h;rfl
 ·obtain⟨m,a,xs,rfl,ha,pl,hlen,k0,k⟩:=h;refine⟨_,(aE (dG (PW.pt (pw_or (eZ (dX (aV fU (by rfl) T.iG kB (aA (pv 1) (aA (g8 (v:=.ty "tuple") (by rfl) T.iH vO rfl) aC))))) (pw_or1 (cA lJ (aV a9 (by rfl) T.dW dP (aA (pv 1) aC)) aG (bZ _))))) (aH (c5 aP rfl (by rfl) T.wL T.wQ (aA a8 aC))) bO)
   (aE (bC (dU aP.toPass D_check_numbers hr (by decide) (by rfl) (aA (pv 1) aC)))
   (aH (dG (eZ (tF uV nZ nZ aG (aZ bG (pv 1) aG (fun _ _=>rfl)) (aZ bG (pv 1) aG (fun _ _=>rfl)) (pv 0))) (aH (c5 aP rfl (by rfl) T.wL T.wQ (aA a8 aC))) bO)))),?_⟩
  refine⟨_,rfl,.ref a,.ty "tuple",_,_,_,rfl,rfl,.of (.tup ha),Kd.tup.BG K,_,rfl,eU ?_⟩;refine⟨_,rfl,a,_,rfl,.inr (dE.of ha),rfl,_,rfl,?_⟩;refine fR (fun h3=>?_) (fun h3=>?_)
  ·refine⟨qO,k0 (qF ?_) H (.refl H)⟩;rintro⟨i,j,n,rfl,_⟩;have e:decide (V.int (([V.int i,V.int j,V.int n].length:Nat):Int)=V.int 3)=true:=decide_eq_true rfl;rw[e] at h3;cases h3
  have e3:xs.length=3:=by
   refine qCd fun z=>h3 ?_;rw[decide_eq_false]
   ·rfl
   ·intro q;have:=V.int.inj q;lia
  refine⟨_,rfl,a,_,rfl,.inr ha,pl,hlen,fun no H1 s1=>k0 (qF ?_) H1 s1,fun yes H1 s1=>?_⟩
  ·rintro⟨i,j,n,rfl,_⟩;exact absurd no (by show ¬true=false;decide)
  obtain⟨i,j,n,rfl⟩:∃i j n:Int,xs=[.int i,.int j,.int n]:=by
   match xs,e3,yes with
   | [u,v,w'],_,yes =>
    rw[List.all_eq_true] at yes;have y1:=yes u (by simp);have y2:=yes v (by simp);have y3:=yes w' (by simp);cases u <;> first | (exact absurd y1 qAi) | skip
    cases v <;> first | (exact absurd y2 qAi) | skip
    cases w' <;> first | (exact absurd y3 qAi) | skip
    exact⟨_,_,_,rfl⟩
  have fail:¬(0<=i/\i<j/\j<m)->1<=qAj/\E (.ref NL) none H1:=fun z=>⟨by decide,k0 (qF (by
   rintro⟨i',j',n',e,z'⟩;cases e;exact z z')) H1 s1⟩
  refine⟨_,rfl,a,_,_,_,rfl,rfl,dE.of (s1 _ _ ha),rfl,_,_,rfl,rfl,_,rfl,?_⟩;refine fR (fun h1=>?_) (fun h1=>gL (fail fun z=>h1 (decide_eq_true z.1)));refine⟨_,rfl,a,_,_,_,rfl,rfl,dE.of (s1 _ _ ha),rfl,_,_,rfl,rfl,_,rfl,?_⟩;refine fR (fun h2=>?_) (fun h2=>gL (fail fun z=>h2 (decide_eq_true z.2.1)));refine⟨_,rfl,_,_,rfl,rfl,_,rfl,?_⟩;cases h3':decide (j<m) with
  | false=>exact gL (fail fun z=>(of_decide_eq_false h3') z.2.2)
  | true =>
   refine eU (k ?_ H1 s1);show(decide (0<=i)&&decide (i<j)&&decide (j<m))=true;rw[h1,h2,h3'];rfl
def cS:List V->Int×Int
 | [.int i,.int j,.int _]=>(i,j)
 | _=>(0,0)
def eN(m:Int):List (Int×Int)->List (List V)->Bool
 | _,[]=>true
 | seen,xs::r=>tT m xs && !(seen.contains (cS xs))&&eN m (seen++[cS xs]) r
def nF(m:Int)(xss:List (List V)):Bool:=eN m [] xss
theorem kM{m:Int}:∀{xss:List (List V)}{seen:List (Int×Int)},eN m seen xss=true->∀xs∈xss,tT m xs=true
 | [],_,_,xs,h=>by cases h
 | x::r,seen,h,xs,hx=>by
  have h':(tT m x && !(seen.contains (cS x))&&eN m (seen++[cS x]) r)=true:=h;rw[qAo,qAo] at h';rcases List.mem_cons.mp hx with rfl | hx
  ·exact h'.1.1
  ·exact kM h'.2 xs hx
def kN(ks:List (Int×Int)):List (List Key×V):=ks.map fun k=>([Sum.inl k.1,Sum.inl k.2],V.bl true)
theorem iW(i j:Int):∀ks:List (Int×Int),gW (kN ks) [Sum.inl i,Sum.inl j]=if ks.contains (i,j)=true then some (.bl true) else none
 | []=>rfl
 | k::r=>by
  have ih:=iW i j r;by_cases e:k=(i,j)
  ·subst e;rw[if_pos (by simp)];exact iC (p:=([Sum.inl i,Sum.inl j],V.bl true)) rfl
  ·have z:gW (kN (k::r)) [Sum.inl i,Sum.inl j]=gW (kN r) [Sum.inl i,Sum.inl j]:=iD (p:=([Sum.inl k.1,Sum.inl k.2],V.bl true)) (r:=kN r) (fun q=>e (by
    have q1:=List.cons.inj q;have q2:=List.cons.inj q1.2;exact Prod.ext (Sum.inl.inj q1.1) (Sum.inl.inj q2.1)))
   rw[z,ih];have e2:((k::r).contains (i,j))=r.contains (i,j):=by
    rw[List.contains_cons];have:((i,j) == k)=false:=by
     rw[beq_eq_false_iff_ne];exact fun q=>e q.symm
    rw[this,qKh]
   rw[e2]
def cY(H:Hp)(a:Addr):List V:=match H a with
 | some (.tup xs)=>xs
 | _=>[]
theorem bN{H:Hp}{a:Addr}{xs:List V}(h:H a=some (.tup xs)):cY H a=xs:=by
 unfold cY;rw[h]
def tU(K:qAa)(H:Hp)(as:List Addr):Prop:=∀a∈as,∃xs,H a=some (.tup xs)/\(∀v∈xs,Pl K H v)/\xs.length<=1000
theorem tU.eq{K:qAa}{H H':Hp}{as:List Addr}(t:tU K H as)(s:∀a xs,H a=some (.tup xs)->H' a=some (.tup xs)):as.map (cY H')=as.map (cY H):=by
 refine qDj fun a ha=>?_;obtain⟨xs,h,_⟩:=t a ha;rw[bN h,bN (s a xs h)]
def qG(p q:Int×Int):Prop:=p.1<q.1\/p.1=q.1/\p.2<q.2
def zJ(m:Int)(k:Int×Int):Nat:=k.1.toNat*m.toNat+k.2.toNat
theorem nG{m i j i' j':Int}(a0:0<=i)(a1:i<j)(a2:j<m)(b0:0<=i')(b1:i'<j')(b2:j'<m):zJ m (i,j)<zJ m (i',j')↔qG (i,j) (i',j'):=by
 show i.toNat*m.toNat+j.toNat<i'.toNat*m.toNat+j'.toNat↔i<i'\/i=i'/\j<j';rcases Int.lt_trichotomy i i' with h | h | h
 ·have z:=qIq m.toNat (show i.toNat+1<=i'.toNat by lia);rw[qLb,qLa] at z;exact⟨fun _=>.inl h,fun _=>by lia⟩
 ·subst h;exact⟨fun _=>.inr ⟨rfl,by lia⟩,fun _=>by lia⟩
 ·have z:=qIq m.toNat (show i'.toNat+1<=i.toNat by lia);rw[qLb,qLa] at z;exact⟨fun _=>by lia,fun _=>by lia⟩
theorem HP{m i j i' j' n n':Int}(a0:0<=i)(a1:i<j)(a2:j<m)(b0:0<=i')(b1:i'<j')(b2:j'<m)(hn:(i,j)=(i',j')->n=n'):HT.lexLt [i,j,n] [i',j',n']=decide (zJ m (i,j)<zJ m (i',j')):=by
 rw[decide_eq_decide.mpr (nG a0 a1 a2 b0 b1 b2),HT.fA];show _=decide (i<i'\/i=i'/\j<j');by_cases e:i=i'
 ·rw[if_pos e,HT.fA];by_cases e2:j=j'
  ·rw[if_pos e2,HT.fA,if_pos (hn (by rw[e,e2]))];exact(decide_eq_false (by lia)).symm
  ·rw[if_neg e2];exact decide_eq_decide.mpr (by lia)
 ·rw[if_neg e];exact decide_eq_decide.mpr (by lia)
theorem l9{m:Int}:∀{xss:List (List V)}{seen:List (Int×Int)},eN m seen xss=true->seen.Nodup->(seen++xss.map cS).Nodup
 | [],seen,_,h=>by rw[qGs,qBm];exact h
 | x::r,seen,h,hs=>by
  have h':(tT m x && !(seen.contains (cS x))&&eN m (seen++[cS x]) r)=true:=h;rw[qAo,qAo] at h';have z:=l9 h'.2 (by
   rw[qJg];refine⟨hs,by simp,fun a ha b hb=>?_⟩;rw[qJa] at hb;subst hb;intro e;subst e;have:=h'.1.2;simp[ha] at this)
  rw[qDn] at z;exact z
theorem pw_mem{α:Type}{R:α->α->Prop}:∀{l:List α},l.Pairwise R->∀{a b:α},a∈l->b∈l->a≠b->R a b\/R b a
 | [],_,a,b,ha,_,_=>by cases ha
 | x::l,h,a,b,ha,hb,ne=>by
  rw[qGi] at h;rcases List.mem_cons.mp ha with rfl | ha'
  ·rcases List.mem_cons.mp hb with rfl | hb'
   ·exact absurd rfl ne
   ·exact .inl (h.1 _ hb')
  ·rcases List.mem_cons.mp hb with rfl | hb'
   ·exact .inr (h.1 _ ha')
   ·exact pw_mem h.2 ha' hb' ne
def iJ(H:Hp)(a:Addr):Int×Int:=cS (cY H a)
theorem wX{m:Int}{H:Hp}{as:List Addr}(h:nF m (as.map (cY H))=true):as.Pairwise fun a b=>iJ H a≠iJ H b:=by
 have z:=l9 h qHl;rw[qFt,qBw] at z;exact List.pairwise_map.mp z
def rL(K:qAa)(NL:Addr):Sp:=fun vs H Q E=>∃(m:Int) (p:Addr) (as:List Addr),vs=[.int m,.ref p]/\H p=some (.lst (as.map V.ref))/\tU K H as/\as.length<64/\(nF m (as.map (cY H))=false->∀H',aI H H'->E (.ref NL) none H') /\
 (nF m (as.map (cY H))=true->∀(l:Addr) (bs:List Addr) (H':Hp),H l=none->bs.Perm as->bs.Pairwise (fun a b=>qG (iJ H a) (iJ H b))->aI H H'->H' l=some (.lst (bs.map V.ref))->Q (.ref l) H')
theorem rQ:aL ["many","pairs","seen","pair","hands"] ["many","pairs"] (aD Cc):=by constructor<;>first|rfl|decide +kernel
theorem CM{f1:Addr}{fd1:qAz}(t:Tx K mg "sorted_pairs" Cc ["many","pairs"] f fd)(T:T K mg AL LN RU OW PL PA VO MA NE fE fH rR rO rP rA rV rM rN iR iO iP iA iV iM iN fL wR wO wP wA wV wM wN SE NG NL NT)(D_check_pair:Df P w K mg base (fT P w) 3 "check_pair" ["many","pair"] (AE K NL) f1 fd1):
  Df P w K mg base (fT P w) 4 "sorted_pairs" ["many","pairs"] (rL K NL) f fd:=by
 refine t.Au rQ (fun vs H Q E h=>?_) (fun cdv A outer s H vs Q E hr h=>?_)
 ·obtain⟨m,p,as,rfl,_⟩:=h;rfl
 ·obtain⟨m,p,as,rfl,hp,ht,h64,k0,k⟩:=h;refine⟨_,(aE (aX (i:=2) rQ.nd rfl cF vZ)
   (aE (dM aP.own rfl (bP (pv 1)) (aQ (i:=3) rQ.nd rfl cF)
    (aE (bC (dU aP.toPass D_check_pair hr (by decide) (by rfl) (aA (pv 0) (aA (pv 3) aC))))
    (aE (aX (i:=4) rQ.nd rfl cF (e9 (aA (aZ bG (pv 3) aG (fun _ _=>rfl)) (aA (aZ bG (pv 3) aG (fun _ _=>rfl)) aC))))
    (aE (dG (Bc (BO (As hr) (pv 4) (pv 2))) (aH (c5 aP rfl (by rfl) T.wL T.wQ (aA a8 aC))) bO)
    (aH (yX (As hr) (pv 2) (pv 4) nU rfl))))))
   (aH (aU (aV lA (by rfl) T.fY tE (aA (pv 1) aC)))))),?_⟩
  refine fun d hd=>⟨_,rfl,p,rfl,⟨_,aT.of (aI.aJ hd _ _ hp)⟩,?_⟩;refine eQ (xs:=as.map V.ref) (fun i σ' H'=>aI H H'/\(∃o3 o4:Option V,σ'=[some (.int m),some (.ref p),some (.ref d),o3,o4])/\∃ks:List (Int×Int),ks.length<=i/\H' d=some (.dT (kN ks))/\nF m (as.map (cY H))=eN m ks ((as.map (cY H)).drop i)) ?_ ?_ ?_ ?_
  ·exact⟨.aJ hd,⟨_,_,rfl⟩,[],qBq _,aB,rfl⟩
  ·rintro i σ' H' _ ⟨s1,_⟩;exact aT.of (s1 _ _ hp)
  ·rintro i x σ' H' hx ⟨s1,⟨o3,o4,rfl⟩,ks,hks,hd1,he⟩;obtain⟨a,ha,rfl⟩:∃a,as[i]?=some a/\x = .ref a:=by
    rw[qAu] at hx;cases e:as[i]? with
    | none=>rw[e] at hx;cases hx
    | some y=>rw[e] at hx;exact⟨y,rfl,(Option.some.inj hx).symm⟩
   have hi:i<as.length:=by
    rcases qBo i as.length with z | z
    ·exact z
    ·rw[qEm z] at ha;cases ha
   obtain⟨xs,hxs,pl,hlen⟩:=ht a (qAy ha);have hdrop:(as.map (cY H)).drop i=xs::(as.map (cY H)).drop (i+1):=by
    rw[List.drop_eq_getElem_cons (by rw[qAb];exact hi),List.getElem_map];have:as[i]=a:=Option.some.inj ((qAf hi).symm.trans ha);rw[this,bN hxs]
   rw[hdrop] at he;have he':nF m (as.map (cY H))=(tT m xs && !(ks.contains (cS xs))&&eN m (ks++[cS xs]) ((as.map (cY H)).drop (i+1))):=he;refine⟨_,rfl,_,rfl,m,a,xs,rfl,s1 _ _ hxs,fun v hv=>(pl v hv).same s1,hlen,fun no H2 s2=>?_,fun yes H2 s2=>?_⟩
   ·exact k0 (by rw[he',no];rfl) H2 (s1.trans s2)
   obtain⟨u,v,n,rfl,_⟩:=qE yes;have ha2:=s2 _ _ (s1 _ _ hxs);refine⟨_,rfl,a,_,_,_,rfl,rfl,dE.of ha2,rfl,_,rfl,a,_,_,_,rfl,rfl,dE.of ha2,rfl,Ak,fun tt htt=>?_⟩;have u3:=aI.aJ (o:=.tup [V.int u,V.int v]) htt;have hd3:=u3 _ _ (s2 _ _ hd1);refine⟨_,rfl,_,rfl,d,_,rfl,vW.t (k:=[Sum.inl u,Sum.inl v]) hd3 aB,_,rfl,?_⟩;rw[iW];cases hc:ks.contains (u,v) with
   | true =>
    rw[if_pos rfl];refine gL ⟨qO,k0 ?_ _ ((s1.trans s2).trans u3)⟩;rw[he',show cS [V.int u,V.int v,V.int n]=(u,v) from rfl,hc,yes];rfl
   | false =>
    rw[if_neg qAi];refine eU ⟨_,rfl,_,rfl,d,_,rfl,vX.t (k:=[Sum.inl u,Sum.inl v]) hd3 aB (by unfold kN;rw[qAb];exact aW (by lia)),?_⟩;refine⟨((s1.trans s2).trans u3).upd_ne' hd,⟨_,_,rfl⟩,ks++[(u,v)],by rw[qBi];show _+1<=_;lia,?_,?_⟩
    ·rw[aB,vU _ (by rw[iW,hc];rfl)];unfold kN;rw[qCi];rfl
    ·rw[he',show cS [V.int u,V.int v,V.int n]=(u,v) from rfl,hc,yes];rfl
  ·rintro σ' H' ⟨s1,⟨o3,o4,rfl⟩,ks,hks,hd1,he⟩;rw[qAb,qHu (by rw[qAb];exact qAk _)] at he;have he:nF m (as.map (cY H))=true:=he;have at_:∀a∈as,∃u v n:Int,H a=some (.tup [.int u,.int v,.int n])/\iJ H a=(u,v)/\0<=u/\u<v/\v<m:=fun a ha=>by
    obtain⟨xs,hxs,_⟩:=ht a ha;obtain⟨u,v,n,e,e1⟩:=qE (kM he xs (by rw[<- bN hxs];exact List.mem_map.mpr ⟨a,ha,rfl⟩));subst e;exact⟨u,v,n,hxs,by unfold iJ;rw[bN hxs];rfl,e1⟩
   have pk:=wX he;have nk:∀a∈as,∀b∈as,iJ H a=iJ H b->a=b:=fun a ha b hb e=>qCd fun ne=>by
    rcases pw_mem pk ha hb ne with z | z
    ·exact z e
    ·exact z e.symm
   refine⟨_,rfl,p,as,fun a=>zJ m (iJ H a),rfl,aT.of (s1 _ _ hp),fun a ha=>?_,h64,fun a ha b hb=>?_,?_,fun l bs hl hp_ hpw=>k he l bs _ (s1.free hl) hp_ ?_ (s1.trans (.aJ hl)) aB⟩
   ·obtain⟨u,v,n,hu,_⟩:=at_ a ha;exact⟨u,[v,n],s1 _ _ hu⟩
   ·obtain⟨u,v,n,hu,ku,u0,u1,u2⟩:=at_ a ha;obtain⟨u',v',n',hu',ku',v0,v1,v2⟩:=at_ b hb;rw[eW (ns:=[u,v,n]) (s1 _ _ hu),eW (ns:=[u',v',n']) (s1 _ _ hu')];show _=decide (zJ m (iJ H a)<zJ m (iJ H b));rw[ku,ku'];refine HP u0 u1 u2 v0 v1 v2 fun e=>?_;have:=nk a ha b hb (by rw[ku,ku',e]);subst this;rw[hu] at hu';injection hu' with e1;injection e1 with e1;injection e1 with _ e1;injection e1 with _ e1;injection e1 with e1;injection e1
   ·refine List.pairwise_map.mpr (pk.imp_of_mem fun {a b} ha hb ne=>?_);obtain⟨u,v,n,hu,ku,u0,u1,u2⟩:=at_ a ha;obtain⟨u',v',n',hu',ku',v0,v1,v2⟩:=at_ b hb;rw[ku,ku'] at ne;show zJ m (iJ H a)≠zJ m (iJ H b);rw[ku,ku'];intro e;have x1:=mt (nG u0 u1 u2 v0 v1 v2).mpr (by lia);have x2:=mt (nG v0 v1 v2 u0 u1 u2).mpr (by lia);refine ne (Prod.ext ?_ ?_)
    ·show u=u';have x1:¬(u<u'\/u=u'/\v<v'):=x1;have x2:¬(u'<u\/u'=u/\v'<v):=x2;lia
    ·show v=v';have x1:¬(u<u'\/u=u'/\v<v'):=x1;have x2:¬(u'<u\/u'=u/\v'<v):=x2;lia
   ·refine(List.pairwise_map.mp hpw).imp_of_mem fun {a b} ha hb lt=>?_;obtain⟨u,v,n,hu,ku,u0,u1,u2⟩:=at_ a (hp_.mem_iff.mp ha);obtain⟨u',v',n',hu',ku',v0,v1,v2⟩:=at_ b (hp_.mem_iff.mp hb);rw[ku,ku'] at lt|-;exact(nG u0 u1 u2 v0 v1 v2).mp lt
def both(g i j:Nat):Bool:=decide (g/2^i%2=1)&&decide (g/2^j%2=1)
theorem zK:∀(g:_root_.Fin 64) (i j:_root_.Fin 6),decide (qCf (g.1:Int) (qBr (alone i.1) (alone j.1))=qBr (alone i.1) (alone j.1))=both g.1 i.1 j.1:=by decide +kernel
def CN:Sp:=fun vs H Q _=>∃g i j:Nat,vs=[.int (g:Int),.int (i:Int),.int (j:Int)]/\g<64/\i<6/\j<6/\Q (.bl (both g i j)) H
theorem FI:aL ["group","one","other","both"] ["group","one","other"] (aD Hx):=by constructor<;>first|rfl|decide +kernel
theorem FJ(t:Tx K mg "has_both" Hx ["group","one","other"] f fd)(T:T K mg AL LN RU OW PL PA VO MA NE fE fH rR rO rP rA rV rM rN iR iO iP iA iV iM iN fL wR wO wP wA wV wM wN SE NG NL NT):Df P w K mg base cI 1 "has_both" ["group","one","other"] CN f fd:=by
 refine t.lR FI (fun vs H Q E h=>?_) (fun cdv A outer s H vs Q E hr h=>?_)
 ·obtain⟨g,i,j,rfl,_⟩:=h;rfl
 ·obtain⟨g,i,j,rfl,hg,hi,hj,k⟩:=h;refine⟨_,(aE (aX (i:=3) FI.nd rfl cF (aM nY (aZ bG (bL (v:=.ref AL) (by rfl) T.pD rfl) (pv 1) (fun _ _=>rfl)) (aZ bG (bL (v:=.ref AL) (by rfl) T.pD rfl) (pv 2) (fun _ _=>rfl))))
   (aH (aU (gG i6 (aM jX (pv 0) (pv 3)) (pv 3) (bZ _))))),?_⟩
  have a1:=iI (i:=(i:Int)) (by lia) (by lia);have a2:=iI (i:=(j:Int)) (by lia) (by lia);refine⟨_,rfl,AL,_,_,_,rfl,rfl,T.al _,a1,_,rfl,AL,_,_,_,rfl,rfl,T.al _,a2,_,_,rfl,rfl,?_⟩;refine⟨_,rfl,_,rfl,_,_,rfl,rfl,_,rfl,rfl,?_⟩;have e:=zK ⟨g,hg⟩ ⟨i,hi⟩ ⟨j,hj⟩;have e':decide (V.int (qCf (g:Int) (qBr (alone i) (alone j)))=V.int (qBr (alone i) (alone j)))=both g i j:=by
   rw[<- e];exact decide_eq_decide.mpr ⟨V.int.inj,congrArg V.int⟩
  show Q (.bl (decide (V.int (qCf (g:Int) (qBr (alone i) (alone j)))=V.int (qBr (alone i) (alone j))))) H;rw[e'];exact k
def wY:Sp:=fun vs H Q _=>∃(l:Addr) (ns:List Int) (g:Nat),vs=[.ref l,.int (g:Int)]/\H l=some (.lst (ns.map V.int))/\ns.length<=6/\g<2^ns.length/\∀H',aI H H'->Q (.int (wI ns g)) H'
theorem FK:aL ["numbers","group"] ["numbers","group"] (aD Cd):=by constructor<;>first|rfl|decide +kernel
theorem CO{f1:Addr}{fd1:qAz}(t:Tx K mg "sum_of_hands" Cd ["numbers","group"] f fd)(T:T K mg AL LN RU OW PL PA VO MA NE fE fH rR rO rP rA rV rM rN iR iO iP iA iV iM iN fL wR wO wP wA wV wM wN SE NG NL NT)(D_hands_of:Df P w K mg base (fT P w) 4 "hands_of" ["group"] (wW K NG) f1 fd1):
  Df P w K mg base cI 5 "sum_of_hands" ["numbers","group"] wY f fd:=by
 refine t.lR FK (fun vs H Q E h=>?_) (fun cdv A outer s H vs Q E hr h=>?_)
 ·obtain⟨l,ns,g,rfl,_⟩:=h;rfl
 ·obtain⟨l,ns,g,rfl,hl,h6,hg,k⟩:=h;have hg64:g<64:=qAl hg (zC h6);refine⟨_,(aH (aU (aV (hZ rfl) (by rfl) T.jE mY (aA (cT (NB:=["hand","numbers"]) (pick:=[none,some 0]) (cO (by with_unfolding_all rfl) (by exact(And.intro rfl trivial)) rfl (by decide +kernel) (by decide +kernel) (by rfl) (by rfl)) rfl
     (bP (dU cU D_hands_of hr (by decide) (by rfl) (aA (pv 1) aC))) (fun _ _ _=>aQ (i:=0) (show(["hand","numbers"]:List Str).Nodup from by decide +kernel) rfl cF)
     (fun _ _ _=>cJ) (fun _ _ _=>(aZ (vN K) (pv 1) (pv 0) (fun _ _=>rfl)))) aC)))),?_⟩
  refine⟨_,rfl,_,rfl,.int _,fun no=>?_,fun g' q H1 hv _ hq s1 h1=>?_⟩
  ·exact absurd no (by rw[rH (m:=6) hg64];decide)
  ·have eg:g'=g:=by have:=V.int.inj hv;lia
   subst eg;refine⟨q,rfl,⟨_,aT.of h1⟩,?_⟩;refine cR (xs:=(cX g').map V.int) (fun _ x=>match x with | .int i=>some (.int (ns.getD i.toNat 0)) | _=>none) (aT.of h1) ?_ (fun i x H2 kk kk0 s2 hx h1 h2=>?_) fun D H2 hD s2 hd=>?_
   ·rw[qAb];exact qBp (aW (qBf (p9 g' 6) (by decide)))
   ·obtain⟨j,hj,rfl⟩:=List.mem_map.mp (qAy hx);obtain⟨j0,jl⟩:=qA hg 6 j hj;have hjn:j.toNat<ns.length:=by lia
    have hat:jN (ns.map V.int) j=some (.int (ns.getD j.toNat 0)):=by
     have z:=bU (xs:=ns.map V.int) (j:=j.toNat) (v:=.int (ns.getD j.toNat 0)) (by rw[qAu,qAt,qAf hjn];rfl);rw[qEy j0] at z;exact z
    exact⟨_,rfl,_,rfl,l,_,_,_,rfl,rfl,aT.of (s2 _ _ (s1 _ _ hl)),hat,h1 _ rfl _ (.refl _)⟩
   ·have ed:((qAq ((cX g').map V.int).length).filterMap fun i=>(((cX g').map V.int)[i]?).bind fun x=>match x with | .int i=>some (V.int (ns.getD i.toNat 0)) | _=>none)=((cX g').map fun h=>ns.getD h.toNat 0).map V.int:=by
     rw[c8,qBx,qBw];show(cX g').filterMap (fun i=>some (V.int (ns.getD i.toNat 0)))=_;rw[qFn];rfl
    rw[ed] at hd;refine⟨D,_,rfl,.inl (aT.of hd),?_⟩;rw[qC h6 hg];exact k H2 (s1.trans s2)
def nH(K:qAa)(NL:Addr):Sp:=fun vs H Q E=>∃(x C dx:Addr) (v:V),vs=[.ref x,v]/\H x=some (.ins C dx [])/\uI K C/\cB K C "many"/\Pl K H v/\(kC 1 6 v=false->E (.ref NL) none H)/\(kC 1 6 v=true->Q .non (upd H x (.ins C dx [("many",v)])))
theorem HQ:aL ["self","many"] ["self","many"] (aD DR):=by constructor<;>first|rfl|decide +kernel
theorem FL{f1:Addr}{fd1:qAz}(t:Mx K "__init__" "Rule.__init__" DR ["self","many"] f fd)(T:T K mg AL LN RU OW PL PA VO MA NE fE fH rR rO rP rA rV rM rN iR iO iP iA iV iM iN fL wR wO wP wA wV wM wN SE NG NL NT)(D_check_many:Df P w K mg base (fT P w) 3 "check_many" ["many"] (AA K NL) f1 fd1):
  Md P w K mg base 4 ["self","many"] (nH K NL) f:=by
 refine t.Av HQ (fun vs H Q E h=>?_) (fun cdv A outer s H vs Q E hr h=>?_)
 ·obtain⟨x,C,dx,v,rfl,_⟩:=h;rfl
 ·obtain⟨x,C,dx,v,rfl,hx,c,n,pl,k0,k⟩:=h;refine⟨_,(aE (bC (dU aP.toPass D_check_many hr (by decide) (by rfl) (aA (pv 1) aC)))
   (aH (eG (pv 0) (pv 1) rfl))),?_⟩
  refine⟨_,rfl,v,rfl,pl,?_⟩;cases e:kC 1 6 v with
  | false=>rw[if_neg qAi];exact k0 e
  | true =>
   rw[if_pos rfl];exact⟨_,rfl,_,rfl,x,C,dx,[],rfl,hx,c,n,by decide,k e⟩
def zL:Sp:=fun vs H Q _=>∃u v,vs=[u,v]/\Q (.int 0) H
theorem HR:aL ["self","group"] ["self","group"] (aD DS):=by constructor<;>first|rfl|decide +kernel
theorem FN(t:Mx K "reckon" "Rule.reckon" DS ["self","group"] f fd):Md P w K mg base 1 ["self","group"] zL f:=by
 refine t.pV HR (fun vs H Q E h=>?_) (fun cdv A outer s H vs Q E hr h=>?_)
 ·obtain⟨u,v,rfl,_⟩:=h;rfl
 ·obtain⟨u,v,rfl,k⟩:=h;exact⟨_,(aH (aU aG)),k⟩
def AF(P:qBd)(w:qCb)(K:qAa)(mg:Str->Option qAe)(base:Heap)(fE fH RU NG:Addr):Sp:=fun vs H Q E=>∃(a:Addr) (m:Nat) (e:Nat->Int) (v:V),vs=[.ref a,v]/\lB P w K mg base fE fH RU H a m e/\Pl K H v /\
 (kC 0 (2^m-1) v=false->∀H',aI H H'->E (.ref NG) none H')/\∀(g:Nat),v = .int (g:Int)->g<2^m->∀H',aI H H'->Q (.int (e g)) H'
theorem FO:aL ["self","group"] ["self","group"] (aD tJ):=by constructor<;>first|rfl|decide +kernel
theorem CP{f1:Addr}{fd1:qAz}(t:Mx K "earn" "Rule.earn" tJ ["self","group"] f fd)(T:T K mg AL LN RU OW PL PA VO MA NE fE fH rR rO rP rA rV rM rN iR iO iP iA iV iM iN fL wR wO wP wA wV wM wN SE NG NL NT)(D_check_group:Df P w K mg base (fT P w) 3 "check_group" ["group","many"] (wU K NG) f1 fd1):
  Md P w K mg base 7 ["self","group"] (AF P w K mg base fE fH RU NG) f:=by
 refine t.Av FO (fun vs H Q E h=>?_) (fun cdv A outer s H vs Q E hr h=>?_)
 ·obtain⟨a,m,e,v,rfl,_⟩:=h;rfl
 ·obtain⟨a,m,e,v,rfl,ro,pl,k0,k⟩:=h;refine⟨_,(aE (bC (dU aP.toPass D_check_group hr (by decide) (by rfl) (aA (pv 1) (aA (bR (pv 0) rfl) aC))))
   (aH (aU (kD (k:=6) aP.toPass (pv 0) hr (by decide) (aA (pv 1) aC))))),?_⟩
  obtain⟨C,dx,g,fs,h1,h2,h3,h4,h5,h6,ps,h7⟩:=ro;refine⟨_,rfl,_,rfl,a,C,dx,fs,_,rfl,h1,h2.oc.cl,h2.nm,h3,v,m,rfl,h5,pl,k0,fun yes H1 s1=>?_⟩;obtain⟨gr,rfl,hg⟩:=oJ yes;refine⟨_,rfl,a,C,dx,fs,g,_,rfl,s1 _ _ h1,h6.2.2,h2.oc.cl,h2.mr,⟨ps,h7⟩,?_⟩;exact⟨_,rfl,gr,rfl,hg,s1,fun H3 s3=>k gr rfl hg H3 (s1.trans s3)⟩
def CQ(K:qAa)(NL OW:Addr):Sp:=fun vs H Q E=>∃(x dx p:Addr) (xs:List V),vs=[.ref x,.ref p]/\H x=some (.ins OW dx [])/\H p=some (.lst xs)/\(∀v∈xs,Pl K H v)/\xs.length<=1000 /\
 (okN xs=false->∀H',SameBut x H H'->E (.ref NL) none H') /\
 (okN xs=true->∀l H',H l=none->SameBut x H H'->H' x=some (.ins OW dx [("many",.int (xs.length:Int)),("numbers",.ref l)])->H' l=some (.lst xs)->Q .non H')
theorem HS:aL ["self","numbers"] ["self","numbers"] (aD DU):=by constructor<;>first|rfl|decide +kernel
theorem FP{f1:Addr}{fd1:qAz}(t:Mx K "__init__" "Own.__init__" DU ["self","numbers"] f fd)(T:T K mg AL LN RU OW PL PA VO MA NE fE fH rR rO rP rA rV rM rN iR iO iP iA iV iM iN fL wR wO wP wA wV wM wN SE NG NL NT)(D_RI:Md P w K mg base 4 ["self","many"] (nH K NL) iR)(D_check_numbers:Df P w K mg base (fT P w) 2 "check_numbers" ["things"] (oO K NL) f1 fd1):
  Md P w K mg base 5 ["self","numbers"] (CQ K NL OW) f:=by
 refine t.Av HS (fun vs H Q E h=>?_) (fun cdv A outer s H vs Q E hr h=>?_)
 ·obtain⟨x,dx,p,xs,rfl,_⟩:=h;rfl
 ·obtain⟨x,dx,p,xs,rfl,hx,hp,pl,hlen,k0,k⟩:=h;refine⟨_,(aE (bC (lS aP.toPass (by rfl) T.wK T.Eh D_RI hr (by decide) (aA (pv 0) (aA (aV a9 (by rfl) T.dW dP (aA (pv 1) aC)) aC))))
   (aE (bC (dU aP.toPass D_check_numbers hr (by decide) (by rfl) (aA (pv 1) aC)))
   (aH (eG (pv 0) (bJ bM (by rfl) T.dA dQ (aA (pv 1) aC)) rfl)))),?_⟩
  refine⟨_,rfl,_,rfl,p,_,rfl,.inl (aT.of hp),x,OW,dx,_,rfl,hx,T.Cv.oc.cl,T.Cv.nm,.int _,fun no=>?_,fun yes=>?_⟩
  ·refine k0 ?_ H ((aI.refl H).but x);unfold okN;rw[fG] at no;rw[no];rfl
  have ne:p≠x:=cL hp hx (by intro z;cases z);have hp1:upd H x (.ins OW dx [("many",V.int (xs.length:Int))]) p=some (.lst xs):=by rw[aK ne];exact hp
  have sb:SameBut x H (upd H x (.ins OW dx [("many",V.int (xs.length:Int))])):=((aI.refl H).but x).fV _;have pl1:∀v∈xs,Pl K (upd H x (.ins OW dx [("many",V.int (xs.length:Int))])) v:=fun v hv=>(pl v hv).hX hx;refine⟨_,rfl,p,xs,rfl,.inl hp1,pl1,hlen,fun no H1 s1=>?_,fun yes2 H1 s1=>?_⟩
  ·refine k0 ?_ H1 (sb.then s1);unfold okN;rw[no,qDm]
  refine⟨_,rfl,p,_,rfl,.inl (aT.of (s1 _ _ hp1)),fun l hl=>?_⟩;have u2:=aI.aJ (o:=.lst xs) hl;have hx2:=u2 _ _ (s1 _ _ (aB (H:=H) (a:=x) (o:=.ins OW dx [("many",V.int (xs.length:Int))])));refine⟨_,rfl,x,OW,dx,_,rfl,hx2,T.Cv.oc.cl,T.HA,(by show 1<1000;decide),?_⟩;have nl:l≠x:=(aO (s1 _ _ (aB (H:=H) (a:=x) (o:=.ins OW dx [("many",V.int (xs.length:Int))]))) hl).symm;refine k ?_ l _ ?_ ((sb.then (s1.trans u2)).fV _) aB (by rw[aK nl];exact aB)
  ·unfold okN;rw[fG] at yes;rw[yes,yes2];rfl
  ·cases e:H l with
   | none=>rfl
   | some o =>
    have z:=s1 l o (by rw[aK nl];exact e);rw[hl] at z;cases z
def zM(OW:Addr):Sp:=fun vs H Q _=>∃(a dx l:Addr) (ns:List Int) (g:Nat),vs=[.ref a,.int (g:Int)]/\H a=some (.ins OW dx [("many",.int (ns.length:Int)),("numbers",.ref l)])/\H l=some (.lst (ns.map V.int))/\ns.length<=6/\g<2^ns.length/\∀H',aI H H'->Q (.int (wI ns g)) H'
theorem HU:aL ["self","group"] ["self","group"] (aD DV):=by constructor<;>first|rfl|decide +kernel
theorem FQ{f1:Addr}{fd1:qAz}(t:Mx K "reckon" "Own.reckon" DV ["self","group"] f fd)(T:T K mg AL LN RU OW PL PA VO MA NE fE fH rR rO rP rA rV rM rN iR iO iP iA iV iM iN fL wR wO wP wA wV wM wN SE NG NL NT)(D_sum_of_hands:Df P w K mg base cI 5 "sum_of_hands" ["numbers","group"] wY f1 fd1):
  Md P w K mg base 6 ["self","group"] (zM OW) f:=by
 refine t.pV HU (fun vs H Q E h=>?_) (fun cdv A outer s H vs Q E hr h=>?_)
 ·obtain⟨a,dx,l,ns,g,rfl,_⟩:=h;rfl
 ·obtain⟨a,dx,l,ns,g,rfl,ha,hl,h6,hg,k⟩:=h;refine⟨_,(aH (aU (bA D_sum_of_hands hr (by decide) (by rfl) (aA (bR (pv 0) rfl) (aA (pv 1) aC))))),?_⟩;exact⟨_,rfl,a,OW,dx,_,_,rfl,ha,T.Cv.oc.cl,T.HA,rfl,_,rfl,l,ns,g,rfl,hl,h6,hg,k⟩
theorem zN(D:Md P w K mg base 6 ["self","group"] (zM OW) rO)(c:RC K fE fH RU OW rO){H:Hp}{a dx l:Addr}{ns:List Int}(ha:H a=some (.ins OW dx [("many",.int (ns.length:Int)),("numbers",.ref l)]))(hl:H l=some (.lst (ns.map V.int)))(h1:1<=ns.length)(h6:ns.length<=6):
  lB P w K mg base fE fH RU H a ns.length (wI ns) :=
 ⟨OW,dx,rO,_,ha,c,rfl,h1,h6,⟨rfl,rfl,rfl⟩,_,D.imp fun vs H2 Q _ ⟨gr,e,hg,s,q⟩=>⟨a,dx,l,ns,gr,e,s _ _ ha,s _ _ hl,h6,hg,q⟩⟩
def CS(K:qAa)(NT PL:Addr):Sp:=fun vs H Q E=>∃(x dx p:Addr) (xs:List V),vs=[.ref x,.ref p]/\H x=some (.ins PL dx [])/\H p=some (.lst xs)/\(∀v∈xs,Pl K H v)/\xs.length<=1000 /\
 (gM xs=false->∀H',SameBut x H H'->E (.ref NT) none H') /\
 (gM xs=true->∀(m:Nat) l H',1<=m->m<=6->xs.length=2^m->H l=none->SameBut x H H'->H' x=some (.ins PL dx [("many",.int (m:Int)),("earnings",.ref l)])->H' l=some (.lst xs)->Q .non H')
theorem HV:aL ["self","table"] ["self","table"] (aD DW):=by constructor<;>first|rfl|decide +kernel
theorem FR{f1:Addr}{fd1:qAz}(t:Mx K "__init__" "Plain.__init__" DW ["self","table"] f fd)(T:T K mg AL LN RU OW PL PA VO MA NE fE fH rR rO rP rA rV rM rN iR iO iP iA iV iM iN fL wR wO wP wA wV wM wN SE NG NL NT)(D_RI:Md P w K mg base 4 ["self","many"] (nH K NL) iR)(D_hands_in:Df P w K mg base (fT P w) 3 "hands_in" ["table"] (AD K NT) f1 fd1):
  Md P w K mg base 5 ["self","table"] (CS K NT PL) f:=by
 refine t.Av HV (fun vs H Q E h=>?_) (fun cdv A outer s H vs Q E hr h=>?_)
 ·obtain⟨x,dx,p,xs,rfl,_⟩:=h;rfl
 ·obtain⟨x,dx,p,xs,rfl,hx,hp,pl,hlen,k0,k⟩:=h;refine⟨_,(aE (bC (lS aP.toPass (by rfl) T.wK T.Eh D_RI hr (by decide) (aA (pv 0) (aA (dU aP.toPass D_hands_in hr (by decide) (by rfl) (aA (pv 1) aC)) aC))))
   (aH (eG (pv 0) (bJ bM (by rfl) T.dA dQ (aA (pv 1) aC)) rfl))),?_⟩
  refine⟨_,rfl,_,rfl,p,xs,rfl,hp,pl,hlen,fun no H1 s1=>k0 no H1 (s1.but x),fun m h1 h6 hm yes H1 s1=>?_⟩;have i16:kC 1 6 (.int (m:Int))=true:=by rw[fG,decide_eq_true h1,decide_eq_true h6];rfl
  refine⟨x,PL,dx,_,rfl,s1 _ _ hx,T.Cw.oc.cl,T.Cw.nm,.int _,fun no=>?_,fun _=>?_⟩
  ·rw[i16] at no;cases no
  have ne:p≠x:=cL hp hx (by intro z;cases z);have hp1:upd H1 x (.ins PL dx [("many",V.int (m:Int))]) p=some (.lst xs):=by rw[aK ne];exact s1 _ _ hp
  refine⟨_,rfl,p,_,rfl,.inl (aT.of hp1),fun l hl=>?_⟩;have u2:=aI.aJ (o:=.lst xs) hl;have hx2:=u2 _ _ (aB (H:=H1) (a:=x) (o:=.ins PL dx [("many",V.int (m:Int))]));refine⟨_,rfl,x,PL,dx,_,rfl,hx2,T.Cw.oc.cl,T.HB,(by show 1<1000;decide),?_⟩;have nl:l≠x:=(aO (aB (H:=H1) (a:=x) (o:=.ins PL dx [("many",V.int (m:Int))])) hl).symm;refine k yes m l _ h1 h6 hm ?_ ((((s1.but x).fV _).then u2).fV _) aB (by rw[aK nl];exact aB);rw[aK nl] at hl;exact s1.free hl
def zO(PL:Addr):Sp:=fun vs H Q _=>∃(a dx l:Addr) (m:Nat) (ns:List Int) (g:Nat),vs=[.ref a,.int (g:Int)]/\H a=some (.ins PL dx [("many",.int (m:Int)),("earnings",.ref l)])/\H l=some (.lst (ns.map V.int))/\g<ns.length/\∀H',aI H H'->Q (.int (ns.getD g 0)) H'
theorem HW:aL ["self","group"] ["self","group"] (aD DX):=by constructor<;>first|rfl|decide +kernel
theorem FT(t:Mx K "reckon" "Plain.reckon" DX ["self","group"] f fd)(T:T K mg AL LN RU OW PL PA VO MA NE fE fH rR rO rP rA rV rM rN iR iO iP iA iV iM iN fL wR wO wP wA wV wM wN SE NG NL NT):Md P w K mg base 1 ["self","group"] (zO PL) f:=by
 refine t.pV HW (fun vs H Q E h=>?_) (fun cdv A outer s H vs Q E hr h=>?_)
 ·obtain⟨a,dx,l,m,ns,g,rfl,_⟩:=h;rfl
 ·obtain⟨a,dx,l,m,ns,g,rfl,ha,hl,hg,k⟩:=h;refine⟨_,(aH (aU (aZ bE (bR (pv 0) rfl) (pv 1) (fun _ _=>rfl)))),?_⟩;have hat:jN (ns.map V.int) (g:Int)=some (.int (ns.getD g 0)):=bU (by rw[qAu,qAt,qAf hg];rfl);exact⟨_,rfl,a,PL,dx,_,_,rfl,ha,T.Cw.oc.cl,T.HB,rfl,_,rfl,l,_,_,_,rfl,rfl,aT.of hl,hat,k H (.refl H)⟩
theorem tV(D:Md P w K mg base 1 ["self","group"] (zO PL) rP)(c:RC K fE fH RU PL rP){H:Hp}{a dx l:Addr}{m:Nat}{ns:List Int}(ha:H a=some (.ins PL dx [("many",.int (m:Int)),("earnings",.ref l)]))(hl:H l=some (.lst (ns.map V.int)))(hn:ns.length=2^m)(h1:1<=m)(h6:m<=6):
  lB P w K mg base fE fH RU H a m (fun g=>ns.getD g 0) :=
 ⟨PL,dx,rP,_,ha,c,rfl,h1,h6,⟨rfl,rfl,rfl⟩,_,(D.up (by decide)).imp fun vs H2 Q _ ⟨gr,e,hg,s,q⟩=>⟨a,dx,l,m,ns,gr,e,s _ _ ha,s _ _ hl,by lia,q⟩⟩
theorem wZ(D:Md P w K mg base 1 ["self","group"] zL rR)(c:RC K fE fH RU RU rR){H:Hp}{a dx:Addr}{m:Nat}(ha:H a=some (.ins RU dx [("many",.int (m:Int))]))(h1:1<=m)(h6:m<=6):
  lB P w K mg base fE fH RU H a m (fun _=>0) :=
 ⟨RU,dx,rR,_,ha,c,rfl,h1,h6,⟨rfl,rfl,rfl⟩,_,(D.up (by decide)).imp fun vs H2 Q _ ⟨gr,e,hg,s,q⟩=>⟨_,_,e,q H2 (.refl _)⟩⟩
def xA(K:qAa)(NL PA:Addr):Sp:=fun vs H Q E=>∃(x dx p:Addr) (v:V) (as:List Addr),vs=[.ref x,v,.ref p]/\H x=some (.ins PA dx [])/\Pl K H v/\H p=some (.lst (as.map V.ref))/\tU K H as/\as.length<64 /\
 (kC 1 6 v=false->∀H',SameBut x H H'->E (.ref NL) none H')/\∀m:Int,v = .int m->kC 1 6 v=true ->
  (nF m (as.map (cY H))=false->∀H',SameBut x H H'->E (.ref NL) none H') /\
  (nF m (as.map (cY H))=true->∀(l:Addr) (bs:List Addr) (H':Hp),H l=none->bs.Perm as->bs.Pairwise (fun a b=>qG (iJ H a) (iJ H b))->SameBut x H H'->H' x=some (.ins PA dx [("many",v),("pairs",.ref l)])->H' l=some (.lst (bs.map V.ref))->Q .non H')
theorem FU:aL ["self","many","pairs"] ["self","many","pairs"] (aD tM):=by constructor<;>first|rfl|decide +kernel
theorem CT{f1:Addr}{fd1:qAz}(t:Mx K "__init__" "Pairs.__init__" tM ["self","many","pairs"] f fd)(T:T K mg AL LN RU OW PL PA VO MA NE fE fH rR rO rP rA rV rM rN iR iO iP iA iV iM iN fL wR wO wP wA wV wM wN SE NG NL NT)(D_RI:Md P w K mg base 4 ["self","many"] (nH K NL) iR)(D_sorted_pairs:Df P w K mg base (fT P w) 4 "sorted_pairs" ["many","pairs"] (rL K NL) f1 fd1):
  Md P w K mg base 5 ["self","many","pairs"] (xA K NL PA) f:=by
 refine t.Av FU (fun vs H Q E h=>?_) (fun cdv A outer s H vs Q E hr h=>?_)
 ·obtain⟨x,dx,p,v,as,rfl,_⟩:=h;rfl
 ·obtain⟨x,dx,p,v,as,rfl,hx,pl,hp,ht,h64,k0,k⟩:=h;refine⟨_,(aE (bC (lS aP.toPass (by rfl) T.wK T.Eh D_RI hr (by decide) (aA (pv 0) (aA (pv 1) aC))))
   (aH (eG (pv 0) (dU aP.toPass D_sorted_pairs hr (by decide) (by rfl) (aA (pv 1) (aA (pv 2) aC))) rfl))),?_⟩
  refine⟨_,rfl,_,rfl,x,PA,dx,v,rfl,hx,T.Cy.oc.cl,T.Cy.nm,pl,fun no=>k0 no H ((aI.refl H).but x),fun yes=>?_⟩;obtain⟨m,rfl⟩:∃m,v = .int m:=by
   cases v <;> first | (exact⟨_,rfl⟩) | (exact absurd yes qAi)
  obtain⟨k1,k2⟩:=k m rfl yes;have at_:∀b o,(∀C dx fs,o≠HO.ins C dx fs)->H b=some o->upd H x (.ins PA dx [("many",V.int m)]) b=some o:=fun b o n e=>by
   rw[aK]
   ·exact e
   ·rintro rfl;rw[hx] at e;exact n _ _ _ (Option.some.inj e).symm
  have hp1:=at_ _ _ (by intro _ _ _ z;cases z) hp;have ht1:tU K (upd H x (.ins PA dx [("many",V.int m)])) as:=fun a ha=>by
   obtain⟨xs,h1,h2,h3⟩:=ht a ha;exact⟨xs,at_ _ _ (by intro _ _ _ z;cases z) h1,fun v hv=>(h2 v hv).hX hx,h3⟩
  have eqm:as.map (cY (upd H x (.ins PA dx [("many",V.int m)])))=as.map (cY H):=ht.eq fun a xs e=>at_ _ _ (by intro _ _ _ z;cases z) e;have sb:SameBut x H (upd H x (.ins PA dx [("many",V.int m)])):=((aI.refl H).but x).fV _;refine⟨_,rfl,_,rfl,m,p,as,rfl,hp1,ht1,h64,fun no H1 s1=>?_,fun ok l bs H1 hl hb hpw s1 h1=>?_⟩
  ·rw[eqm] at no;exact k1 no H1 (sb.then s1)
  rw[eqm] at ok;have hx1:=s1 _ _ (aB (H:=H) (a:=x) (o:=.ins PA dx [("many",V.int m)]));have nl:l≠x:=(aO (aB (H:=H) (a:=x) (o:=.ins PA dx [("many",V.int m)])) hl).symm;refine⟨_,rfl,x,PA,dx,_,rfl,hx1,T.Cy.oc.cl,T.HC,(by show 1<1000;decide),?_⟩;have kyU:∀a∈as,iJ (upd H x (.ins PA dx [("many",V.int m)])) a=iJ H a:=fun a ha=>by
   obtain⟨xs,h1,_⟩:=ht a ha;unfold iJ;rw[bN h1,bN (at_ _ _ (by intro _ _ _ z;cases z) h1)]
  refine k2 ok l bs _ ?_ hb (hpw.imp_of_mem fun {a b} ha hc z=>by rw[<- kyU a (hb.mem_iff.mp ha),<- kyU b (hb.mem_iff.mp hc)];exact z) ((sb.then s1).fV _) aB (by rw[aK nl];exact h1);rw[aK nl] at hl;exact hl
def pNum(t:List Int)(g:Nat):Option Int:=if both g (t.getD 0 0).toNat (t.getD 1 0).toNat=true then some (t.getD 2 0) else none
def xB(H:Hp)(bs:List Addr)(g:Nat):Int:=(bs.filterMap fun b=>pNum (eM H b) g).sum
def mB(H:Hp)(b:Addr):Prop:=∃(i j:Nat) (n:Int),H b=some (.tup [.int (i:Int),.int (j:Int),.int n])/\i<6/\j<6
theorem mB.same{H H':Hp}{b:Addr}(h:mB H b)(s:aI H H'):mB H' b:=let ⟨i,j,n,e,z⟩:=h;⟨i,j,n,s _ _ e,z⟩
theorem tW{H H':Hp}{bs:List Addr}(h:∀b∈bs,mB H b)(s:∀b∈bs,∀o,H b=some o->H' b=some o)(g:Nat):xB H' bs g=xB H bs g:=by
 unfold xB;congr 1;refine kH fun b hb=>?_;obtain⟨i,j,n,e,_⟩:=h b hb;rw[eW (ns:=[(i:Int),j,n]) e,eW (ns:=[(i:Int),j,n]) (s b hb _ e)]
def rS(PA:Addr):Sp:=fun vs H Q _=>∃(a dx l:Addr) (m:Int) (bs:List Addr) (g:Nat),vs=[.ref a,.int (g:Int)]/\H a=some (.ins PA dx [("many",.int m),("pairs",.ref l)])/\H l=some (.lst (bs.map V.ref))/\bs.length<=1000/\(∀b∈bs,mB H b)/\g<64/\∀H',aI H H'->Q (.int (xB H bs g)) H'
theorem FV:aL ["self","group"] ["self","group"] (aD tN):=by constructor<;>first|rfl|decide +kernel
theorem CU{f1:Addr}{fd1:qAz}(t:Mx K "reckon" "Pairs.reckon" tN ["self","group"] f fd)(T:T K mg AL LN RU OW PL PA VO MA NE fE fH rR rO rP rA rV rM rN iR iO iP iA iV iM iN fL wR wO wP wA wV wM wN SE NG NL NT)(D_has_both:Df P w K mg base cI 1 "has_both" ["group","one","other"] CN f1 fd1):
  Md P w K mg base 2 ["self","group"] (rS PA) f:=by
 refine t.pV FV (fun vs H Q E h=>?_) (fun cdv A outer s H vs Q E hr h=>?_)
 ·obtain⟨a,dx,l,m,bs,g,rfl,_⟩:=h;rfl
 ·obtain⟨a,dx,l,m,bs,g,rfl,ha,hl,hlen,hb,hg,k⟩:=h;refine⟨_,(aH (aU (aV (hZ rfl) (by rfl) T.jE mY (aA (cT (NB:=["one","other","number","group"]) (pick:=[none,none,none,some 1]) (cO (by with_unfolding_all rfl) (by exact(And.intro rfl trivial)) rfl (by decide +kernel) (by decide +kernel) (by rfl) (by rfl)) rfl
     (bP (bR (pv 0) rfl)) (fun _ _ _=>(show PG _ _ (uP K 3 (fJ (bQ 0) (fJ (bQ 1) (fJ (bQ 2) uO)))) from jU rfl (bT (aQ (i:=0) (show(["one","other","number","group"]:List Str).Nodup from by decide +kernel) rfl cF) (bT (aQ (i:=1) (show(["one","other","number","group"]:List Str).Nodup from by decide +kernel) rfl cF) (bT (aQ (i:=2) (show(["one","other","number","group"]:List Str).Nodup from by decide +kernel) rfl cF) g9)))))
     (fun _ _ _=>mV (dX (bA D_has_both hr (by decide) (by rfl) (aA (pv 3) (aA (pv 0) (aA (pv 1) aC)))))) (fun _ _ _=>(pv 2))) aC)))),?_⟩
  refine⟨_,rfl,a,PA,dx,_,_,rfl,ha,T.Cy.oc.cl,T.HC,rfl,l,rfl,⟨_,aT.of hl⟩,?_⟩;refine lW (xs:=bs.map V.ref) (fun σ'=>∃o0 o1 o2:Option V,σ'=[o0,o1,o2,some (.int (g:Int))]) (fun _ x=>match x with | .ref b=>(pNum (eM H b) g).map V.int | _=>none) ⟨_,_,_,rfl⟩ (aT.of hl) (by rw[qAb];exact qBp (aW hlen)) (fun i x σ1 H2 kk kk0 hσ s2 hx h1 h2=>?_) fun D H2 hD s2 hd=>?_
  ·obtain⟨o0,o1,o2,rfl⟩:=hσ;obtain⟨b,hbm,rfl⟩:=List.mem_map.mp (qAy hx);obtain⟨u,v,n,e,hu,hv⟩:=hb b hbm;have et:pNum (eM H b) g=if both g u v=true then some n else none:=by rw[eW (ns:=[(u:Int),v,n]) e];rfl
   refine⟨b,_,rfl,dE.of (s2 _ _ e),rfl,_,_,rfl,_,_,rfl,_,_,rfl,rfl,?_⟩;refine⟨_,rfl,_,rfl,_,rfl,g,u,v,rfl,hg,hu,hv,_,rfl,?_⟩;cases eb:both g u v with
   | true=>exact gL ⟨_,rfl,h1 _ _ ⟨_,_,_,rfl⟩ (by show(pNum (eM H b) g).map V.int=_;rw[et,eb];rfl) _ (.refl _)⟩
   | false=>exact eU (h2 _ ⟨_,_,_,rfl⟩ (by show(pNum (eM H b) g).map V.int=_;rw[et,eb];rfl) _ (.refl _))
  ·have ed:H2 D=some (.lst ((bs.filterMap fun b=>pNum (eM H b) g).map V.int)):=by
    rw[hd,c8,qBx,List.map_filterMap];rfl
   refine⟨D,_,rfl,.inl (aT.of ed),k H2 s2⟩
theorem tX(D:Md P w K mg base 2 ["self","group"] (rS PA) rA)(c:RC K fE fH RU PA rA){H:Hp}{a dx l:Addr}{m:Nat}{bs:List Addr}(ha:H a=some (.ins PA dx [("many",.int (m:Int)),("pairs",.ref l)]))(hl:H l=some (.lst (bs.map V.ref)))(hlen:bs.length<=1000)(hb:∀b∈bs,mB H b)(h1:1<=m)(h6:m<=6):
  lB P w K mg base fE fH RU H a m (xB H bs) :=
 ⟨PA,dx,rA,_,ha,c,rfl,h1,h6,⟨rfl,rfl,rfl⟩,_,(D.up (by decide)).imp fun vs H2 Q _ ⟨gr,e,hg,s,q⟩=>⟨a,dx,l,_,bs,gr,e,s _ _ ha,s _ _ hl,hlen,fun b hb'=>(hb b hb').same s,qAl hg (zC h6),by
  rw[tW hb fun b _ o e=>s b o e];exact q⟩⟩
def zP(vq vp:V)(xs:List V):Bool:=okN xs&&gU vq&&gU vp&&(match vq with | .int q=>decide (1<=q) | _=>false)
def CV(K:qAa)(NL VO:Addr):Sp:=fun vs H Q E=>∃(x dx p:Addr) (vq vp:V) (xs:List V),vs=[.ref x,vq,vp,.ref p]/\H x=some (.ins VO dx [])/\Pl K H vq/\Pl K H vp/\H p=some (.lst xs)/\(∀v∈xs,Pl K H v)/\xs.length<=1000 /\
 (zP vq vp xs=false->∀H',SameBut x H H'->E (.ref NL) none H') /\
 (zP vq vp xs=true->∀l H',H l=none->SameBut x H H'->H' x=some (.ins VO dx [("many",.int (xs.length:Int)),("quota",vq),("prize",vp),("weights",.ref l)])->H' l=some (.lst xs)->Q .non H')
theorem HX:aL ["self","quota","prize","weights"] ["self","quota","prize","weights"] (aD DY):=by constructor<;>first|rfl|decide +kernel
theorem FW{f1:Addr}{fd1:qAz}(t:Mx K "__init__" "Votes.__init__" DY ["self","quota","prize","weights"] f fd)(T:T K mg AL LN RU OW PL PA VO MA NE fE fH rR rO rP rA rV rM rN iR iO iP iA iV iM iN fL wR wO wP wA wV wM wN SE NG NL NT)(D_RI:Md P w K mg base 4 ["self","many"] (nH K NL) iR)(D_check_numbers:Df P w K mg base (fT P w) 2 "check_numbers" ["things"] (oO K NL) f1 fd1):
  Md P w K mg base 5 ["self","quota","prize","weights"] (CV K NL VO) f:=by
 refine t.Av HX (fun vs H Q E h=>?_) (fun cdv A outer s H vs Q E hr h=>?_)
 ·obtain⟨x,dx,p,vq,vp,xs,rfl,_⟩:=h;rfl
 ·obtain⟨x,dx,p,vq,vp,xs,rfl,hx,plq,plp,hp,pl,hlen,k0,k⟩:=h;refine⟨_,(aE (bC (lS aP.toPass (by rfl) T.wK T.Eh D_RI hr (by decide) (aA (pv 0) (aA (aV a9 (by rfl) T.dW dP (aA (pv 3) aC)) aC))))
   (aE (bC (dU aP.toPass D_check_numbers hr (by decide) (by rfl) (aA (bK (aA (pv 1) (aA (pv 2) aC))) aC)))
   (aE (bC (dU aP.toPass D_check_numbers hr (by decide) (by rfl) (aA (pv 3) aC)))
   (aE (dG (cA nZ (pv 1) aG (bZ _)) (aH (c5 aP rfl (by rfl) T.wL T.wQ (aA a8 aC))) bO)
   (aE (eG (pv 0) (pv 1) rfl)
   (aE (eG (pv 0) (pv 2) rfl)
   (aH (eG (pv 0) (bJ bM (by rfl) T.dA dQ (aA (pv 3) aC)) rfl)))))))),?_⟩
  refine⟨_,rfl,_,rfl,p,_,rfl,.inl (aT.of hp),x,VO,dx,_,rfl,hx,T.tR.oc.cl,T.tR.nm,.int _,fun no=>?_,fun yes=>?_⟩
  ·refine k0 ?_ H ((aI.refl H).but x);unfold zP okN;rw[fG] at no;rw[no];rfl
  rw[fG] at yes;have ne:p≠x:=cL hp hx (by intro z;cases z);have hp1:upd H x (.ins VO dx [("many",V.int (xs.length:Int))]) p=some (.lst xs):=by rw[aK ne];exact hp
  have hx1:upd H x (.ins VO dx [("many",V.int (xs.length:Int))]) x=some (.ins VO dx [("many",V.int (xs.length:Int))]):=aB;have sb:SameBut x H (upd H x (.ins VO dx [("many",V.int (xs.length:Int))])):=((aI.refl H).but x).fV _;have pl1:∀v∈xs,Pl K (upd H x (.ins VO dx [("many",V.int (xs.length:Int))])) v:=fun v hv=>(pl v hv).hX hx;have plq1:Pl K (upd H x (.ins VO dx [("many",V.int (xs.length:Int))])) vq:=plq.hX hx;have plp1:Pl K (upd H x (.ins VO dx [("many",V.int (xs.length:Int))])) vp:=plp.hX hx;generalize upd H x (.ins VO dx [("many",V.int (xs.length:Int))])=H0 at hp1 hx1 sb pl1 plq1 plp1|-;refine⟨_,rfl,_,rfl,Ak,fun c hc=>?_⟩;have u1:=aI.aJ (o:=.lst [vq,vp]) hc;refine⟨c,_,rfl,.inl aB,fun v hv=>?_,by show 2<=1000;decide,fun no H1 s1=>?_,fun yes2 H1 s1=>?_⟩
  ·simp only[qDe,qBs,or_false] at hv;rcases hv with rfl | rfl
   ·exact plq1.same u1
   ·exact plp1.same u1
  ·refine k0 ?_ H1 (sb.then (u1.trans s1));have z:(gU vq&&(gU vp&&true))=false:=no;unfold zP;rw[qKi] at z;rw[Bool.and_assoc (okN xs),z,qDm,qDl]
  have z:(gU vq&&(gU vp&&true))=true:=yes2;rw[qKi,qAo] at z;have t1:=u1.trans s1;refine⟨_,rfl,p,xs,rfl,.inl (t1 _ _ hp1),fun v hv=>(pl1 v hv).same t1,hlen,fun no H2 s2=>?_,fun yes3 H2 s2=>?_⟩
  ·refine k0 ?_ H2 (sb.then (t1.trans s2));unfold zP okN;rw[no,qDm,qDl,qDl,qDl]
  have t2:=t1.trans s2;obtain⟨q,rfl⟩:∃q,vq = .int q:=by
   cases vq <;> first | (exact⟨_,rfl⟩) | (exact absurd z.1 qAi)
  refine⟨_,rfl,_,_,rfl,rfl,_,rfl,?_⟩;cases hq:decide (q<1) with
  | true =>
   refine gL ⟨qO,k0 ?_ H2 (sb.then t2)⟩;have:¬1<=q:=by have:=of_decide_eq_true hq;lia
   unfold zP;show(_&&decide (1<=q))=false;rw[decide_eq_false this,qDm]
  | false =>
   have hq1:1<=q:=by have:=of_decide_eq_false hq;lia
   refine eU ?_;have hx2:=t2 _ _ hx1;refine⟨_,rfl,_,rfl,x,VO,dx,_,rfl,hx2,T.tR.oc.cl,T.HD,(by show 1<1000;decide),?_⟩;refine⟨_,rfl,_,rfl,x,VO,dx,_,rfl,aB,T.tR.oc.cl,T.Cz,(by show 2<1000;decide),?_⟩;have ne2:p≠x:=ne;have hp3:upd (upd H2 x (.ins VO dx [("many",V.int (xs.length:Int)),("quota",.int q)])) x (.ins VO dx [("many",V.int (xs.length:Int)),("quota",.int q),("prize",vp)]) p=some (.lst xs):=by rw[aK ne2,aK ne2];exact t2 _ _ hp1
   refine⟨_,rfl,p,_,rfl,.inl (aT.of hp3),fun l hl=>?_⟩;have hx3:upd (upd H2 x (.ins VO dx [("many",V.int (xs.length:Int)),("quota",.int q)])) x (.ins VO dx [("many",V.int (xs.length:Int)),("quota",.int q),("prize",vp)]) x=some (.ins VO dx [("many",V.int (xs.length:Int)),("quota",.int q),("prize",vp)]):=aB;have u4:=aI.aJ (o:=.lst xs) hl;have nl:l≠x:=(aO hx3 hl).symm;refine⟨_,rfl,x,VO,dx,_,rfl,u4 _ _ hx3,T.tR.oc.cl,T.CA,(by show 3<1000;decide),?_⟩;refine k ?_ l _ ?_ (((((sb.then t2).fV _).fV _).then u4).fV _) aB (by rw[aK nl];exact aB)
   ·unfold zP okN;show(_&&_&&decide (1<=q))=true;rw[yes,yes3,z.2,decide_eq_true hq1];rfl
   ·rw[aK nl,aK nl] at hl;cases e:H l with
    | none=>rfl
    | some o =>
     have z:=(sb.then t2) l o nl e;rw[hl] at z;cases z
def CW(q pz:Int)(ws:List Int)(g:Nat):Int:=if q<=wI ws g then pz else 0
def zQ(VO:Addr):Sp:=fun vs H Q _=>∃(a dx l:Addr) (q pz:Int) (ws:List Int) (g:Nat),vs=[.ref a,.int (g:Int)]/\H a=some (.ins VO dx [("many",.int (ws.length:Int)),("quota",.int q),("prize",.int pz),("weights",.ref l)])/\H l=some (.lst (ws.map V.int))/\ws.length<=6/\g<2^ws.length/\∀H',aI H H'->Q (.int (CW q pz ws g)) H'
theorem HY:aL ["self","group"] ["self","group"] (aD DZ):=by constructor<;>first|rfl|decide +kernel
theorem FX{f1:Addr}{fd1:qAz}(t:Mx K "reckon" "Votes.reckon" DZ ["self","group"] f fd)(T:T K mg AL LN RU OW PL PA VO MA NE fE fH rR rO rP rA rV rM rN iR iO iP iA iV iM iN fL wR wO wP wA wV wM wN SE NG NL NT)(D_sum_of_hands:Df P w K mg base cI 5 "sum_of_hands" ["numbers","group"] wY f1 fd1):
  Md P w K mg base 6 ["self","group"] (zQ VO) f:=by
 refine t.pV HY (fun vs H Q E h=>?_) (fun cdv A outer s H vs Q E hr h=>?_)
 ·obtain⟨a,dx,l,q,pz,ws,g,rfl,_⟩:=h;rfl
 ·obtain⟨a,dx,l,q,pz,ws,g,rfl,ha,hl,h6,hg,k⟩:=h;refine⟨_,(aH (aU (uN (cA ED (bA D_sum_of_hands hr (by decide) (by rfl) (aA (bR (pv 0) rfl) (aA (pv 1) aC))) (bR (pv 0) rfl) (bZ _)) (bR (pv 0) rfl) aG))),?_⟩;refine⟨_,rfl,a,VO,dx,_,_,rfl,ha,T.tR.oc.cl,T.CA,rfl,_,rfl,l,ws,g,rfl,hl,h6,hg,fun H1 s1=>?_⟩;refine⟨_,rfl,a,VO,dx,_,_,rfl,s1 _ _ ha,T.tR.oc.cl,T.HD,rfl,_,_,rfl,rfl,_,rfl,?_⟩;have z:=k H1 s1;unfold CW at z;refine fR (fun h1=>?_) (fun h1=>?_)
  ·rw[if_pos (of_decide_eq_true h1)] at z;exact⟨_,rfl,a,VO,dx,_,_,rfl,s1 _ _ ha,T.tR.oc.cl,T.Cz,rfl,z⟩
  ·rw[if_neg (fun q=>h1 (decide_eq_true q))] at z;exact z
theorem tY(D:Md P w K mg base 6 ["self","group"] (zQ VO) rV)(c:RC K fE fH RU VO rV){H:Hp}{a dx l:Addr}{q pz:Int}{ws:List Int}(ha:H a=some (.ins VO dx [("many",.int (ws.length:Int)),("quota",.int q),("prize",.int pz),("weights",.ref l)]))(hl:H l=some (.lst (ws.map V.int)))(h1:1<=ws.length)(h6:ws.length<=6):
  lB P w K mg base fE fH RU H a ws.length (CW q pz ws) :=
 ⟨VO,dx,rV,_,ha,c,rfl,h1,h6,⟨rfl,rfl,rfl⟩,_,D.imp fun vs H2 Q _ ⟨gr,e,hg,s,z⟩=>⟨a,dx,l,q,pz,ws,gr,e,s _ _ ha,s _ _ hl,h6,hg,z⟩⟩
def cC(m:Nat)(H:Hp)(bs:List Addr):Prop:=(∀b∈bs,∃(u v:Nat) (n:Int),H b=some (.tup [.int (u:Int),.int (v:Int),.int n])/\u<v/\v<m)/\(bs.map fun b=>cS (cY H b)).Nodup/\bs.length<=15
theorem cC.same{m:Nat}{H H':Hp}{bs:List Addr}(h:cC m H bs)(s:∀b∈bs,∀o,H b=some o->H' b=some o):cC m H' bs:=by
 refine⟨fun b hb=>?_,?_,h.2.2⟩
 ·obtain⟨u,v,n,e,z⟩:=h.1 b hb;exact⟨u,v,n,s b hb _ e,z⟩
 ·have e:(bs.map fun b=>cS (cY H' b))=bs.map fun b=>cS (cY H b):=qDj fun b hb=>by
   obtain⟨u,v,n,e,_⟩:=h.1 b hb;rw[bN e,bN (s b hb _ e)]
  rw[e];exact h.2.1
theorem cC.nI{m:Nat}{H:Hp}{bs cs:List Addr}(h:cC m H bs)(p:cs.Perm bs):cC m H cs :=
 ⟨fun b hb=>h.1 b (p.mem_iff.mp hb),((p.map _).nodup_iff).mpr h.2.1,by rw[p.length_eq];exact h.2.2⟩
theorem mC{m:Int}:∀{xss:List (List V)}{seen:List (Int×Int)},(∀xs∈xss,tT m xs=true)->(xss.map cS).Nodup->(∀k∈xss.map cS,seen.contains k=false)->eN m seen xss=true
 | [],_,_,_,_=>rfl
 | xs::r,seen,h,hn,hs=>by
  show(tT m xs && !(seen.contains (cS xs))&&eN m (seen++[cS xs]) r)=true;rw[qBk,qHb] at hn;have ih:eN m (seen++[cS xs]) r=true:=mC (fun x hx=>h x (qBa _ hx)) hn.2 fun k hk=>by
   have a:=hs k (by rw[qBk];exact qBa _ hk);have ne:k≠cS xs:=fun z=>hn.1 (z▸hk);rw[Bool.eq_false_iff] at a|-;intro z;rw[List.contains_iff_mem,List.mem_append] at z;rcases z with z | z
   ·exact a (List.contains_iff_mem.mpr z)
   ·exact ne (by simpa using z)
  rw[h xs (by simp),hs (cS xs) (by simp),ih];rfl
theorem cC.ok{m:Nat}{H:Hp}{bs:List Addr}(h:cC m H bs):nF (m:Int) (bs.map (cY H))=true:=by
 refine mC (fun xs hx=>?_) (by rw[qBw];exact h.2.1) (fun k _=>rfl);obtain⟨b,hb,rfl⟩:=List.mem_map.mp hx;obtain⟨u,v,n,e,z1,z2⟩:=h.1 b hb;rw[bN e];show(decide ((0:Int)<=u)&&decide ((u:Int)<v)&&decide ((v:Int)<m))=true;rw[decide_eq_true (by lia),decide_eq_true (by lia),decide_eq_true (by lia)];rfl
theorem cC.fM{K:qAa}{m:Nat}{H:Hp}{bs:List Addr}(h:cC m H bs):tU K H bs:=fun b hb=>by
 obtain⟨u,v,n,e,_⟩:=h.1 b hb;refine⟨_,e,fun x hx=>?_,by show 3<=1000;decide⟩;simp only[qDe,qBs,or_false] at hx;rcases hx with rfl | rfl | rfl
 ·exact .int _
 ·exact .int _
 ·exact .int _
abbrev P3:=Nat×Nat×Int
abbrev E2:=Int×List (Nat×Nat)
def lo(g:Nat):Nat:=((cX g).headD 0).toNat
def aN(g i:Nat):Bool:=decide (g/2^i%2=1)
def Pw(m:Nat)(ps:List P3):Prop:=(∀p∈ps,p.1<p.2.1/\p.2.1<m)/\(ps.map fun p=>(p.1,p.2.1)).Nodup
theorem lo_facts:∀g:_root_.Fin 64,g.1≠0->lo g.1<6/\aN g.1 (lo g.1)=true/\(∀k:_root_.Fin 6,k.1<lo g.1->aN g.1 k.1=false)/\cX g.1=(lo g.1:Int)::(cX g.1).tail/\(cX g.1).length<=6:=by decide +kernel
theorem rT:∀(g:_root_.Fin 64) (i k:_root_.Fin 6),aN g.1 i.1=true->2^i.1<=g.1/\aN (g.1-2^i.1) k.1=(aN g.1 k.1&&decide (k.1≠i.1)):=by decide +kernel
theorem tZ{g i k:Nat}(hg:g<64)(hi:i<6)(hk:k<6)(h:aN g i=true):aN (g-2^i) k=(aN g k&&decide (k≠i)):=(rT ⟨g,hg⟩ ⟨i,hi⟩ ⟨k,hk⟩ h).2
theorem qH{g i:Nat}(hg:g<64)(hi:i<6)(h:aN g i=true):2^i<=g:=(rT ⟨g,hg⟩ ⟨i,hi⟩ ⟨i,hi⟩ h).1
theorem FY{g i j k:Nat}(hg:g<64)(hi:i<6)(hj:j<6)(hk:k<6)(h:aN g i=true)(h2:aN g j=true)(ne:j≠i):aN (g-2^i-2^j) k=(aN g k&&decide (k≠i)&&decide (k≠j)):=by
 have z:aN (g-2^i) j=true:=by rw[tZ hg hi hj h,h2,decide_eq_true ne];rfl
 rw[tZ (qCg (qFy _ _) hg) hj hk z,tZ hg hi hk h]
def dH(B:Nat->E2)(g:Nat)(f:E2)(p:P3):E2:=if p.1=lo g/\both g p.1 p.2.1=true then (if p.2.2+(B (g-2^p.1-2^p.2.1)).1>f.1 then (p.2.2+(B (g-2^p.1-2^p.2.1)).1,(p.1,p.2.1)::(B (g-2^p.1-2^p.2.1)).2) else f) else f
def kO(B:Nat->E2)(ps:List P3)(g:Nat):E2:=ps.foldl (dH B g) (B (g-2^lo g))
def dJ(ps:List P3):Nat->List E2
 | 0=>[(0,[])]
 | n+1=>dJ ps n++[kO (fun i=>(dJ ps n).getD i (0,[])) ps (n+1)]
def bF(ps:List P3)(g:Nat):E2:=(dJ ps g).getD g (0,[])
theorem eC(ps:List P3):∀n,(dJ ps n).length=n+1
 | 0=>rfl
 | n+1=>by rw[dJ,qBi,eC ps n];rfl
theorem oP(ps:List P3)(n:Nat):(dJ ps n)[n]?=some (bF ps n):=by
 have h:n<(dJ ps n).length:=by rw[eC];lia
 unfold bF;rw[qAt,qAf h];rfl
theorem iX(ps:List P3):∀{i n:Nat},i<=n->(dJ ps n)[i]?=some (bF ps i)
 | i,0,h=>by
  have:i=0:=by lia
  subst this;rfl
 | i,n+1,h=>by
  rcases qBo n i with z | z
  ·have:i=n+1:=by lia
   subst this;exact oP ps _
  ·rw[dJ,qDv (by rw[eC];lia)];exact iX ps z
theorem oQ{B B':Nat->E2}{ps:List P3}{n:Nat}(h:∀i,i<=n->B i=B' i):kO B ps (n+1)=kO B' ps (n+1):=by
 have p1:∀k,1<=2^k:=fun k=>qFa;have e:dH B (n+1)=dH B' (n+1):=by
  funext f p
  unfold dH;rw[h (n+1-2^p.1-2^p.2.1) (by have:=p1 p.1;generalize 2^p.1=x at *;generalize 2^p.2.1=y at *;lia)]
 unfold kO;rw[e,h (n+1-2^lo (n+1)) (by have:=p1 (lo (n+1));generalize 2^lo (n+1)=x at *;lia)]
theorem kP(ps:List P3)(n:Nat):bF ps (n+1)=kO (fun i=>(dJ ps n).getD i (0,[])) ps (n+1):=by
 have z:=oP ps (n+1);rw[dJ,qDq (by rw[eC];exact qAk _),eC,Nat.sub_self] at z;exact(Option.some.inj z).symm
theorem mD(ps:List P3){g:Nat}(h:g≠0):bF ps g=kO (bF ps) ps g:=by
 obtain⟨n,rfl⟩:∃n,g=n+1:=⟨g-1,by lia⟩;rw[kP];refine oQ fun i hi=>?_;rw[qAt,iX ps hi];rfl
theorem mE{α β:Type}{f:β->α->β}{Q:β->Prop}:∀{xs:List α}{b:β},Q b->(∀b x,x∈xs->Q b->Q (f b x))->Q (xs.foldl f b)
 | [],_,h,_=>h
 | x::xs,b,h,st=>mE (xs:=xs) (st b x (by simp) h) fun b y hy=>st b y (qBa _ hy)
inductive Good (ps:List P3):Nat->Nat->Int->List (Nat×Nat)->Prop
 | nil (b g:Nat):Good ps b g 0 []
 | cons {b g i j:Nat}{n s:Int}{r:List (Nat×Nat)}:b<=i->i<j->j<6->aN g i=true->aN g j=true->(i,j,n)∈ps->Good ps (i+1) (g-2^i-2^j) s r->Good ps b g (n+s) ((i,j)::r)
theorem Good.raise{ps:List P3}{b g0:Nat}{s:Int}{r:List (Nat×Nat)}(h:Good ps b g0 s r):∀(g l:Nat),g<64->l<6->aN g l=true->g0=g-2^l->Good ps b g s r:=by
 induction h with
 | nil b g0=>exact fun g l _ _ _ _=>.nil b g
 | @cons b g0 i j n s r h1 h2 h3 h4 h5 h6 _ ih =>
  intro g l hg hl hb e;subst e;rw[tZ hg hl (by lia) hb,qAo,decide_eq_true_iff] at h4;rw[tZ hg hl (by lia) hb,qAo,decide_eq_true_iff] at h5;refine .cons h1 h2 h3 h4.1 h5.1 h6 (ih _ l (qCg (qBf (qFy _ _) (qFy _ _)) hg) hl ?_ ?_)
  ·have n1:l≠i:=fun z=>h4.2 z.symm;have n2:l≠j:=fun z=>h5.2 z.symm;rw[FY hg (by lia) h3 hl h4.1 h5.1 (by lia),hb,decide_eq_true n1,decide_eq_true n2];rfl
  ·generalize 2^i=x;generalize 2^j=y;generalize 2^l=z;lia
theorem Good.lift{ps:List P3}{b b' g:Nat}{s:Int}{r:List (Nat×Nat)}(h:Good ps b g s r)(z:∀k,k<b'->k<6->aN g k=false):Good ps b' g s r:=by
 cases h with
 | nil=>exact .nil _ _
 | @cons _ _ i j n s r h1 h2 h3 h4 h5 h6 h7 =>
  refine .cons (qJr fun q=>?_) h2 h3 h4 h5 h6 h7;rw[z i q (by lia)] at h4;exact qAi h4
theorem uA{ps:List P3}(hp:∀p∈ps,p.1<p.2.1/\p.2.1<6):∀g,g<64->Good ps 0 g (bF ps g).1 (bF ps g).2:=by
 intro g;induction g using Nat.strongRecOn with
 | ind g ih =>
  intro hg;rcases qFb g with rfl | pos
  ·exact .nil _ _
  have ne:g≠0:=by lia
  obtain⟨l6,lb,lmin,_⟩:=lo_facts ⟨g,hg⟩ ne;have l6:lo g<6:=l6;have lb:aN g (lo g)=true:=lb;have p1:∀k,1<=2^k:=fun k=>qFa;rw[mD ps ne];unfold kO;refine mE (Q:=fun f:E2=>Good ps 0 g f.1 f.2) ?_ fun f p hm hf=>?_
  ·have q1:=p1 (lo g);exact(ih (g-2^lo g) (by generalize 2^lo g=x at *;lia) (by generalize 2^lo g=x at *;lia)).raise g (lo g) hg l6 lb rfl
  ·unfold dH;split
   ·rename_i c;split
    ·obtain⟨i,j,n⟩:=p;obtain⟨c1,c2⟩:=c;have c1:i=lo g:=c1;obtain⟨h1,h2⟩:=hp _ hm;have h1:i<j:=h1;have h2:j<6:=h2;have c2:(aN g i&&aN g j)=true:=c2;rw[qAo] at c2;have q1:=p1 i;refine .cons (qBq _) h1 h2 c2.1 c2.2 hm ((ih (g-2^i-2^j) ?_ ?_).lift fun k hk k6=>?_)
     ·show g-2^i-2^j<g;generalize 2^i=x at *;generalize 2^j=y at *;lia
     ·show g-2^i-2^j<64;generalize 2^i=x at *;generalize 2^j=y at *;lia
     ·rw[FY hg (by lia) h2 k6 c2.1 c2.2 (by lia)];rcases qBo k (lo g) with z | z
      ·have y:aN g k=false:=lmin ⟨k,k6⟩ z;rw[y];rfl
      ·have:k=i:=by lia
       rw[decide_eq_false (fun q=>q this),qDm];rfl
    ·exact hf
   ·exact hf
inductive A2 {α:Type} (R:Addr->α->Prop):List Addr->List α->Prop
 | nil:A2 R [] []
 | cons {a:Addr}{x:α}{as:List Addr}{xs:List α}:R a x->A2 R as xs->A2 R (a::as) (x::xs)
theorem A2.len{α:Type}{R:Addr->α->Prop}{as:List Addr}{xs:List α}(h:A2 R as xs):as.length=xs.length:=by
 induction h with
 | nil=>rfl
 | cons _ _ ih=>rw[qBu,qBu,ih]
theorem A2.imp{α:Type}{R S:Addr->α->Prop}{as:List Addr}{xs:List α}(h:A2 R as xs)(f:∀a x,R a x->S a x):A2 S as xs:=by
 induction h with
 | nil=>exact .nil
 | cons r _ ih=>exact .cons (f _ _ r) ih
theorem A2.at{α:Type}{R:Addr->α->Prop}{as:List Addr}{xs:List α}(h:A2 R as xs):∀{i:Nat}{a:Addr},as[i]?=some a->∃x,xs[i]?=some x/\R a x:=by
 induction h with
 | nil=>intro i a e;simp at e
 | cons r _ ih =>
  intro i b e;cases i with
  | zero=>simp only[qHn,Option.some.injEq] at e;subst e;exact⟨_,rfl,r⟩
  | succ i=>rw[qEb] at e;exact ih e
theorem A2.get{α:Type}{R:Addr->α->Prop}{as:List Addr}{xs:List α}(h:A2 R as xs):∀{i:Nat}{x:α},xs[i]?=some x->∃a,as[i]?=some a/\R a x:=by
 induction h with
 | nil=>intro i a e;simp at e
 | cons r _ ih =>
  intro i b e;cases i with
  | zero=>simp only[qHn,Option.some.injEq] at e;subst e;exact⟨_,rfl,r⟩
  | succ i=>rw[qEb] at e;exact ih e
theorem A2.snoc{α:Type}{R:Addr->α->Prop}{as:List Addr}{xs:List α}{a:Addr}{x:α}(h:A2 R as xs)(r:R a x):A2 R (as++[a]) (xs++[x]):=by
 induction h with
 | nil=>exact .cons r .nil
 | cons r' _ ih=>exact .cons r' ih
def cP(H:Hp)(b:Addr)(p:P3):Prop:=H b=some (.tup [.int (p.1:Int),.int (p.2.1:Int),.int p.2.2])
def GQ(H:Hp)(b:Addr)(d:Nat×Nat):Prop:=H b=some (.tup [.int (d.1:Int),.int (d.2:Int)])
def rW(H:Hp)(t:Addr)(e:E2):Prop:=∃(q:Addr) (rs:List Addr),H t=some (.tup [.int e.1,.ref q])/\H q=some (.tup (rs.map V.ref))/\A2 (GQ H) rs e.2
theorem cP.keep{H H':Hp}{b:Addr}{p:P3}(h:cP H b p)(s:c9 H H'):cP H' b p:=s _ _ h
theorem GQ.keep{H H':Hp}{b:Addr}{p:Nat×Nat}(h:GQ H b p)(s:c9 H H'):GQ H' b p:=s _ _ h
theorem rW.keep{H H':Hp}{b:Addr}{e:E2}(h:rW H b e)(s:c9 H H'):rW H' b e :=
 let ⟨q,rs,h1,h2,h3⟩:=h;⟨q,rs,s _ _ h1,s _ _ h2,h3.imp fun _ _ h=>h.keep s⟩
theorem cC.list{m:Nat}{H:Hp}:∀{bs:List Addr},(∀b∈bs,∃(u v:Nat) (n:Int),H b=some (.tup [.int (u:Int),.int (v:Int),.int n])/\u<v/\v<m)->∃ps,A2 (cP H) bs ps/\(∀p∈ps,p.1<p.2.1/\p.2.1<m)/\(bs.map fun b=>cS (cY H b))=ps.map fun p=>((p.1:Int),(p.2.1:Int))
 | [],_=>⟨[],.nil,fun _ h=>(qBs h).elim,rfl⟩
 | b::bs,h=>by
  obtain⟨ps,h1,h2,h3⟩:=cC.list (bs:=bs) fun c hc=>h c (qBa _ hc);obtain⟨u,v,n,e,z⟩:=h b (by simp);refine⟨(u,v,n)::ps,.cons e h1,fun p hp=>?_,?_⟩
  ·rcases List.mem_cons.mp hp with rfl | hp
   ·exact z
   ·exact h2 p hp
  ·rw[qBk,qBk,h3,bN e];rfl
theorem cC.pw{m:Nat}{H:Hp}{bs:List Addr}(h:cC m H bs):∃ps,A2 (cP H) bs ps/\Pw m ps:=by
 obtain⟨ps,h1,h2,h3⟩:=cC.list h.1;refine⟨ps,h1,h2,?_⟩;have nd:=h.2.1;rw[h3] at nd;have e:(ps.map fun p=>((p.1:Int),(p.2.1:Int)))=(ps.map fun p=>(p.1,p.2.1)).map fun q=>((q.1:Int),(q.2:Int)):=by rw[qBw];rfl
 rw[e] at nd;refine List.Pairwise.of_map _ (fun a b ne=>?_) nd;rintro rfl;exact ne rfl
theorem nJ{as:List Addr}{i:Nat}{a:Addr}(h:as[i]?=some a):jN (as.map V.ref) (i:Int)=some (.ref a):=bU (by rw[qAu,h];rfl)
theorem at_of{as:List Addr}{i:Nat}{x:V}(h:(as.map V.ref)[i]?=some x):∃a,as[i]?=some a/\x = .ref a:=by
 rw[qAu] at h;cases e:as[i]? with
 | none=>rw[e] at h;cases h
 | some y=>rw[e] at h;exact⟨y,rfl,(Option.some.inj h).symm⟩
theorem kQ{H:Hp}{ts:List Addr}{ps:List P3}{n i:Nat}(h:A2 (rW H) ts (dJ ps n))(hi:i<=n):∃t,ts[i]?=some t/\rW H t (bF ps i):=h.get (iX ps hi)
theorem Good.len{ps:List P3}{b g:Nat}{s:Int}{r:List (Nat×Nat)}(h:Good ps b g s r)(hb:b<=6):r.length+b<=6:=by
 induction h with
 | nil b g=>simpa using hb
 | @cons b g i j n s r h1 h2 h3 _ _ _ _ ih =>
  have:=ih (by lia);rw[qBu];lia
theorem uB:∀i:_root_.Fin 6,alone i.1=((2^i.1:Nat):Int):=by decide
theorem eD{i:Nat}(h:i<6):jN (fX.map V.int) (i:Int)=some (.int ((2^i:Nat):Int)):=by
 have z:=iI (i:=(i:Int)) (by lia) (by lia);rw[qJo,uB ⟨i,h⟩] at z;exact z
theorem uC{α β:Type}{f:β->α->β}{b:β}{xs:List α}{i:Nat}{x:α}(h:xs[i]?=some x):(xs.take (i+1)).foldl f b=f ((xs.take i).foldl f b) x:=by
 rw[List.take_succ,h,qGm];rfl
def FZ:Sp:=fun vs H Q _=>∃(lb lp:Addr) (ts bs:List Addr) (ps:List P3) (n:Nat),vs=[.ref lb,.ref lp,.int ((n+1:Nat):Int)]/\H lb=some (.lst (ts.map V.ref))/\A2 (rW H) ts (dJ ps n)/\H lp=some (.lst (bs.map V.ref))/\A2 (cP H) bs ps/\(∀p∈ps,p.1<p.2.1/\p.2.1<6)/\n+1<64 /\
 ∀t H',aI H H'->rW H' t (bF ps (n+1))->Q (.ref t) H'
theorem oR:aL ["best","pairs","group","least","found","one","other","number","rest"] ["best","pairs","group"] (aD Hy):=by constructor<;>first|rfl|decide +kernel
theorem Ga{f1 f2:Addr}{fd1 fd2:qAz}(t:Tx K mg "best_of_group" Hy ["best","pairs","group"] f fd)(T:T K mg AL LN RU OW PL PA VO MA NE fE fH rR rO rP rA rV rM rN iR iO iP iA iV iM iN fL wR wO wP wA wV wM wN SE NG NL NT)(D_hands_of:Df P w K mg base (fT P w) 4 "hands_of" ["group"] (wW K NG) f1 fd1)(D_has_both:Df P w K mg base cI 1 "has_both" ["group","one","other"] CN f2 fd2):
  Df P w K mg base cI 5 "best_of_group" ["best","pairs","group"] FZ f fd:=by
 refine t.lR oR (fun vs H Q E h=>?_) (fun cdv A outer s H vs Q E hr h=>?_)
 ·obtain⟨lb,lp,ts,bs,ps,n,rfl,_⟩:=h;rfl
 ·obtain⟨lb,lp,ts,bs,ps,n,rfl,hlb,hts,hlp,hbs,hps,hn,k⟩:=h;refine⟨_,(aE (aX (i:=3) oR.nd rfl cF (aZ bE (dU cU D_hands_of hr (by decide) (by rfl) (aA (pv 2) aC)) aG (fun _ _=>rfl)))
   (aE (aX (i:=4) oR.nd rfl cF (aZ bE (pv 0) (aM e8 (pv 2) (aZ bG (bL (v:=.ref AL) (by rfl) T.pD rfl) (pv 3) (fun _ _=>rfl))) (fun _ _=>rfl)))
   (aE (dM PassesOwn.never rfl (bP (pv 1)) (jU rfl (bT (aQ (i:=5) oR.nd rfl cF) (bT (aQ (i:=6) oR.nd rfl cF) (bT (aQ (i:=7) oR.nd rfl cF) g9))))
    (aH (dG (PW.pt (pw_and (cA i6 (pv 5) (pv 3) (bZ _)) (pw_and1 (dX (bA D_has_both hr (by decide) (by rfl) (aA (pv 2) (aA (pv 5) (aA (pv 6) aC)))))))) (aE (aX (i:=8) oR.nd rfl cF (aZ bE (pv 0) (aM e8 (aM e8 (pv 2) (aZ bG (bL (v:=.ref AL) (by rfl) T.pD rfl) (pv 5) (fun _ _=>rfl))) (aZ bG (bL (v:=.ref AL) (by rfl) T.pD rfl) (pv 6) (fun _ _=>rfl))) (fun _ _=>rfl)))
     (aH (dG (cA Ao (aM cN (pv 7) (aZ bG (pv 8) aG (fun _ _=>rfl))) (aZ bG (pv 4) aG (fun _ _=>rfl)) (bZ _)) (aH (aX (i:=4) oR.nd rfl cF (e9 (aA (aM cN (pv 7) (aZ bG (pv 8) aG (fun _ _=>rfl))) (aA (aM yI (e9 (aA (e9 (aA (pv 5) (aA (pv 6) aC))) aC)) (aZ bG (pv 8) aG (fun _ _=>rfl))) aC))))) bO))) bO)))
   (aH (aU (pv 4)))))),?_⟩
  have p1:∀k,1<=2^k:=fun k=>qFa;have ne:n+1≠0:=by lia
  obtain⟨l6,lb1,lmin,hh,_⟩:=lo_facts ⟨n+1,hn⟩ ne;have l6:lo (n+1)<6:=l6;have lb1:aN (n+1) (lo (n+1))=true:=lb1;have hh:cX (n+1)=(lo (n+1):Int)::(cX (n+1)).tail:=hh;have hle:=qH hn l6 lb1;refine⟨_,rfl,_,rfl,.int _,fun no=>?_,fun g l H1 eg hg hl s1 h1=>?_⟩
  ·have z:=rH (g:=n+1) (m:=6) hn;rw[z] at no;cases no
  have eg:g=n+1:=by have:=V.int.inj eg;lia
  subst eg;rw[hh] at h1;obtain⟨t0,ht0,e0⟩:=kQ hts (i:=n+1-2^lo (n+1)) (by have:=p1 (lo (n+1));generalize 2^lo (n+1)=x at *;lia);have hat:jN (ts.map V.ref) (((n+1:Nat):Int)-((2^lo (n+1):Nat):Int))=some (.ref t0):=by
   rw[<- qHv hle];exact nJ ht0
  refine⟨l,_,_,_,rfl,rfl,aT.of h1,bU (xs:=((lo (n+1):Int)::(cX (n+1)).tail).map V.int) (j:=0) (v:=V.int (lo (n+1):Int)) rfl,?_⟩;refine⟨_,rfl,_,rfl,_,rfl,AL,_,_,_,rfl,rfl,T.al _,eD l6,_,_,rfl,rfl,lb,_,_,_,rfl,rfl,aT.of (s1 _ _ hlb),hat,?_⟩;refine⟨_,rfl,lp,rfl,⟨_,aT.of (s1 _ _ hlp)⟩,?_⟩;refine eQ (xs:=bs.map V.ref) (fun i σ' H'=>aI H H'/\∃(tf:Addr) (o5 o6 o7 o8:Option V),rW H' tf ((ps.take i).foldl (dH (bF ps) (n+1)) (bF ps (n+1-2^lo (n+1))))/\σ'=[some (.ref lb),some (.ref lp),some (.int ((n+1:Nat):Int)),some (.int (lo (n+1):Int)),some (.ref tf),o5,o6,o7,o8]) ?_ ?_ ?_ ?_
  ·exact⟨s1,t0,none,none,none,none,e0.keep s1.t,rfl⟩
  ·rintro i σ' H' _ ⟨s2,_⟩;exact aT.of (s2 _ _ hlp)
  ·rintro i x σ' H2 hx ⟨s2,tf,o5,o6,o7,o8,ef,rfl⟩;obtain⟨b,hb,rfl⟩:=at_of hx;obtain⟨⟨u,v,c⟩,hp,ep⟩:=hbs.at hb;obtain⟨huv,hv⟩:=hps _ (qAy hp);have huv:u<v:=huv;have hv:v<6:=hv;have tk:=uC (f:=dH (bF ps) (n+1)) (b:=bF ps (n+1-2^lo (n+1))) hp;refine⟨b,_,rfl,dE.of (s2 _ _ ep),rfl,_,_,rfl,_,_,rfl,_,_,rfl,rfl,?_⟩;have jH:dH (bF ps) (n+1) ((ps.take i).foldl (dH (bF ps) (n+1)) (bF ps (n+1-2^lo (n+1)))) (u,v,c)=(ps.take i).foldl (dH (bF ps) (n+1)) (bF ps (n+1-2^lo (n+1)))->rW H2 tf ((ps.take (i+1)).foldl (dH (bF ps) (n+1)) (bF ps (n+1-2^lo (n+1)))):=fun z=>by
    rw[tk,z];exact ef
   generalize hF:(ps.take i).foldl (dH (bF ps) (n+1)) (bF ps (n+1-2^lo (n+1)))=F at *;refine⟨_,rfl,_,rfl,rfl,_,rfl,?_⟩;refine fR (fun h3=>?_) (fun h3=>?_)
   ·have c1:u=lo (n+1):=by have:=V.int.inj (of_decide_eq_true h3);lia
    refine⟨_,rfl,_,rfl,_,rfl,n+1,u,v,rfl,hn,by lia,hv,_,rfl,?_⟩;refine fR (fun h4=>?_) (fun h4=>?_)
    ·have h4:both (n+1) u v=true:=h4;have h4':(aN (n+1) u&&aN (n+1) v)=true:=h4;rw[qAo] at h4';have w1:2^u<=n+1:=qH hn (by lia) h4'.1;have w2:2^v<=n+1-2^u:=qH (qCg (qFy _ _) hn) hv (by rw[tZ hn (by lia) hv h4'.1,h4'.2,decide_eq_true (show v≠u by lia)];rfl);obtain⟨tr,htr,er⟩:=kQ hts (i:=n+1-2^u-2^v) (by have:=p1 u;generalize 2^u=x at *;generalize 2^v=y at *;lia);have hat2:jN (ts.map V.ref) (((n+1:Nat):Int)-((2^u:Nat):Int)-((2^v:Nat):Int))=some (.ref tr):=by
      rw[<- qHv w1,<- qHv w2];exact nJ htr
     obtain⟨rq,rr,r1,r2,r3⟩:=er.keep s2.t;obtain⟨fq,fr,g1,g2,g3⟩:=ef;have gl:(bF ps (n+1-2^u-2^v)).2.length+0<=6:=(uA hps (n+1-2^u-2^v) (qCg (qBf (qFy _ _) (qFy _ _)) hn)).len (by lia);refine⟨_,rfl,_,rfl,_,rfl,AL,_,_,_,rfl,rfl,T.al _,eD (by lia),_,_,rfl,rfl,_,rfl,AL,_,_,_,rfl,rfl,T.al _,eD hv,_,_,rfl,rfl,lb,_,_,_,rfl,rfl,aT.of (s2 _ _ hlb),hat2,?_⟩;refine⟨_,rfl,_,rfl,tr,_,_,_,rfl,rfl,dE.of r1,rfl,_,_,rfl,rfl,_,rfl,tf,_,_,_,rfl,rfl,dE.of g1,rfl,_,_,rfl,rfl,_,rfl,?_⟩;refine fR (fun h5=>?_) (fun h5=>?_)
     ·have h5:c+(bF ps (n+1-2^u-2^v)).1>F.1:=of_decide_eq_true h5;have eF:dH (bF ps) (n+1) F (u,v,c)=(c+(bF ps (n+1-2^u-2^v)).1,(u,v)::(bF ps (n+1-2^u-2^v)).2):=by
       unfold dH;rw[if_pos ⟨c1,h4⟩,if_pos h5]
      rw[eF] at tk;refine⟨_,rfl,_,rfl,tr,_,_,_,rfl,rfl,dE.of r1,rfl,_,_,rfl,rfl,_,rfl,_,rfl,Ak,fun t1 ht1=>⟨qO,fun t2 ht2=>?_⟩⟩;have u1:=aI.aJ (o:=.tup [V.int (u:Int),V.int (v:Int)]) ht1;have u2:=aI.aJ (o:=.tup [V.ref t1]) ht2;have u12:=u1.trans u2;have d1:=u2 _ _ (aB (H:=H2) (a:=t1) (o:=.tup [V.int (u:Int),V.int (v:Int)]));have fin:∀(p:Addr) (H3:Hp),aI (upd (upd H2 t1 (.tup [V.int (u:Int),V.int (v:Int)])) t2 (.tup [V.ref t1])) H3->H3 p=some (.tup ((t1::rr).map V.ref))->∀tt,H3 tt=none->rW (upd H3 tt (.tup [.int (c+(bF ps (n+1-2^u-2^v)).1),.ref p])) tt ((ps.take (i+1)).foldl (dH (bF ps) (n+1)) (bF ps (n+1-2^lo (n+1))))/\aI H (upd H3 tt (.tup [.int (c+(bF ps (n+1-2^u-2^v)).1),.ref p])):=fun p H3 s3 hp3 tt htt=>by
       have u3:=aI.aJ (o:=.tup [.int (c+(bF ps (n+1-2^u-2^v)).1),.ref p]) htt;rw[tk];refine⟨⟨p,t1::rr,aB,u3 _ _ hp3,.cons (u3 _ _ (s3 _ _ d1)) (r3.imp fun _ _ z=>z.keep ((u12.trans s3).trans u3).t)⟩,((s2.trans u12).trans s3).trans u3⟩
      refine⟨_,rfl,tr,_,_,_,rfl,rfl,dE.of (u12 _ _ r1),rfl,t2,rq,_,_,rfl,rfl,dE.of aB,dE.of (u12 _ _ r2),by simp,?_,fun e=>?_,fun e p hp=>?_⟩
      ·rw[qAb,r3.len];show 1+_<=qAj;exact qBf (m:=7) (by lia) (by decide)
      ·refine⟨Ak,fun tt htt=>?_⟩;have e':rr=[]:=by simpa using e
       subst e';obtain⟨q1,q2⟩:=fin t2 _ (.refl _) aB tt htt;exact⟨q2,tt,_,_,_,_,q1,rfl⟩
      ·refine⟨Ak,fun tt htt=>?_⟩;obtain⟨q1,q2⟩:=fin p _ (.aJ hp) aB tt htt;exact⟨q2,tt,_,_,_,_,q1,rfl⟩
     ·have h5:¬c+(bF ps (n+1-2^u-2^v)).1>F.1:=fun z=>h5 (decide_eq_true z);refine⟨s2,tf,_,_,_,_,jH ?_,rfl⟩;unfold dH;rw[if_pos ⟨c1,h4⟩,if_neg h5]
    ·have h4:¬both (n+1) u v=true:=h4;refine⟨s2,tf,_,_,_,_,jH ?_,rfl⟩;unfold dH;rw[if_neg fun z=>h4 z.2]
   ·have c1:¬u=lo (n+1):=fun z=>h3 (decide_eq_true (by rw[z]));refine eU ?_;refine⟨s2,tf,_,_,_,_,jH ?_,rfl⟩;unfold dH;rw[if_neg fun z=>c1 z.1]
  ·rintro σ' H2 ⟨s2,tf,o5,o6,o7,o8,ef,rfl⟩;rw[qAb,hbs.len,qDk] at ef;exact⟨_,rfl,k tf H2 s2 (by rw[mD ps ne];exact ef)⟩
def Gb:Sp:=fun vs H Q _=>∃(lp:Addr) (bs:List Addr) (ps:List P3) (m:Nat),vs=[.int (m:Int),.ref lp]/\H lp=some (.lst (bs.map V.ref))/\A2 (cP H) bs ps/\(∀p∈ps,p.1<p.2.1/\p.2.1<6)/\1<=m/\m<=6 /\
 ∀(l:Addr) (ts:List Addr) (H':Hp),H l=none->aI H H'->H' l=some (.lst (ts.map V.ref))->A2 (rW H') ts (dJ ps (2^m-1))->Q (.ref l) H'
theorem CY:aL ["many","pairs","best","group"] ["many","pairs"] (aD Hz):=by constructor<;>first|rfl|decide +kernel
theorem Gd{f1 f2:Addr}{fd1 fd2:qAz}(t:Tx K mg "best_pairings" Hz ["many","pairs"] f fd)(T:T K mg AL LN RU OW PL PA VO MA NE fE fH rR rO rP rA rV rM rN iR iO iP iA iV iM iN fL wR wO wP wA wV wM wN SE NG NL NT)(D_whole_company:Df P w K mg base cI 1 "whole_company" ["many"] CF f1 fd1)(D_best_of_group:Df P w K mg base cI 5 "best_of_group" ["best","pairs","group"] FZ f2 fd2):
  Df P w K mg base cI 6 "best_pairings" ["many","pairs"] Gb f fd:=by
 refine t.lR CY (fun vs H Q E h=>?_) (fun cdv A outer s H vs Q E hr h=>?_)
 ·obtain⟨lp,bs,ps,m,rfl,_⟩:=h;rfl
 ·obtain⟨lp,bs,ps,m,rfl,hlp,hbs,hps,m1,m6,k⟩:=h;refine⟨_,(aE (aX (i:=2) CY.nd rfl cF (bK (aA (e9 (aA aG (aA (e9 aC) aC))) aC)))
   (aE (dM PassesOwn.never rfl (sM (by rfl) T.cK (aA aG (aA (aM cN (bA D_whole_company hr (by decide) (by rfl) (aA (pv 0) aC)) aG) aC))) (aQ (i:=3) CY.nd rfl cF)
    (aH (bC (fQ qCt qDu qDt fF (pv 2) (aA (bA D_best_of_group hr (by decide) (by rfl) (aA (pv 2) (aA (pv 1) (aA (pv 3) aC)))) aC)))))
   (aH (aU (pv 2))))),?_⟩
  have h64:2^m<=64:=qCq (n:=2) (by decide) m6;have h2:1<=2^m:=qFa;refine⟨by show 0<=qAj;decide,fun te hte=>⟨Ak,fun t0 ht0=>⟨qO,fun l hl=>?_⟩⟩⟩;have u1:=aI.aJ (o:=.tup []) hte;have u2:=aI.aJ (o:=.tup [V.int 0,V.ref te]) ht0;have u3:=aI.aJ (o:=.lst [V.ref t0]) hl;have s0:=(u1.trans u2).trans u3;have l0:H l=none:=(u1.trans u2).free hl;have e0:rW (upd (upd (upd H te (.tup [])) t0 (.tup [V.int 0,V.ref te])) l (.lst [V.ref t0])) t0 ((0,[]):E2):=⟨te,[],u3 _ _ aB,u3 _ _ (u2 _ _ aB),.nil⟩;have hl0:upd (upd (upd H te (.tup [])) t0 (.tup [V.int 0,V.ref te])) l (.lst [V.ref t0]) l=some (.lst ([t0].map V.ref)):=aB;generalize upd (upd (upd H te (.tup [])) t0 (.tup [V.int 0,V.ref te])) l (.lst [V.ref t0])=H1 at s0 e0 hl0|-;clear u1 u2 u3 hte ht0 hl;have e2:((2:Int)^m-1+1-1).toNat=2^m-1:=by
   have e:((2^m:Nat):Int)=2^m:=by push_cast;rfl
   lia
  have e3:((2^m:Nat):Int)=2^m:=by push_cast;rfl
  refine⟨_,rfl,m,rfl,m6,fun H2 s2=>⟨_,_,rfl,rfl,1,_,rfl,⟨by decide,by decide,by lia,by lia⟩,?_⟩⟩;rw[e2];refine dN (n:=2^m-1) (fun i σ' H'=>aI H H'/\∃(ts:List Addr) (o3:Option V),H' l=some (.lst (ts.map V.ref))/\A2 (rW H') ts (dJ ps i)/\σ'=[some (.int (m:Int)),some (.ref lp),some (.ref l),o3]) ?_ ?_ ?_
  ·exact⟨s0.trans s2,[t0],none,s2 _ _ hl0,.cons (e0.keep s2.t) .nil,rfl⟩
  ·rintro i σ' H3 hi ⟨s3,ts,o3,h3,h4,rfl⟩;refine⟨_,rfl,.inl ⟨rfl,_,aT.of h3⟩,_,rfl,_,rfl,_,rfl,l,lp,ts,bs,ps,i,?_,h3,h4,s3 _ _ hlp,hbs.imp fun _ _ z=>z.keep s3.t,hps,by lia,fun tn H4 s4 e4=>?_⟩
   ·show [V.ref l,V.ref lp,V.int (1+(i:Int))]=_;rw[show(1:Int)+(i:Int)=((i+1:Nat):Int) by lia]
   refine⟨l,_,_,rfl,rfl,s4 _ _ h3,?_,(s3.trans s4).upd_ne' l0,ts++[tn],_,by rw[aB,qCi];rfl,?_,rfl⟩
   ·rw[qAb,h4.len,eC];exact aW (by lia)
   ·have kt:c9 H4 (upd H4 l (.lst (ts.map V.ref++[V.ref tn]))):=c9.lst (s4 _ _ h3);have z:dJ ps (i+1)=dJ ps i++[bF ps (i+1)]:=by rw[kP];rfl
    rw[z];exact(h4.imp fun _ _ z=>z.keep (fun b xs e=>kt _ _ (s4 _ _ e))).snoc (e4.keep kt)
  ·rintro σ' H3 ⟨s3,ts,o3,h3,h4,rfl⟩;exact⟨_,rfl,k l ts H3 l0 s3 h3 h4⟩
theorem A2.mem{α:Type}{R:Addr->α->Prop}{as:List Addr}{xs:List α}(h:A2 R as xs):(∀a∈as,∃x∈xs,R a x)/\∀x∈xs,∃a∈as,R a x:=by
 induction h with
 | nil=>exact⟨fun _ h=>(qBs h).elim,fun _ h=>(qBs h).elim⟩
 | cons r _ ih =>
  refine⟨fun a ha=>?_,fun x hx=>?_⟩
  ·rcases List.mem_cons.mp ha with rfl | ha
   ·exact⟨_,by simp,r⟩
   ·obtain⟨x,hx,e⟩:=ih.1 a ha;exact⟨x,qBa _ hx,e⟩
  ·rcases List.mem_cons.mp hx with rfl | hx
   ·exact⟨_,by simp,r⟩
   ·obtain⟨a,ha,e⟩:=ih.2 x hx;exact⟨a,qBa _ ha,e⟩
theorem cP.eq{H:Hp}{b:Addr}{p p':P3}(h:cP H b p)(h':cP H b p'):p=p':=by
 obtain⟨u,v,n⟩:=p;obtain⟨u',v',n'⟩:=p';have z:some (HO.tup [.int (u:Int),.int (v:Int),.int n])=some (HO.tup [.int (u':Int),.int (v':Int),.int n']):=h.symm.trans h';have z:=HO.tup.inj (Option.some.inj z);simp only[List.cons.injEq,V.int.injEq,and_true] at z;obtain⟨z1,z2,z3⟩:=z;rw[show u=u' by lia,show v=v' by lia,z3]
def lC(ps:List P3):Prop:=ps.Pairwise fun p q=>p.1<q.1\/p.1=q.1/\p.2.1<q.2.1
theorem cP.ky{H:Hp}{b:Addr}{p:P3}(h:cP H b p):iJ H b=((p.1:Int),(p.2.1:Int)):=by
 unfold iJ;rw[bN (show H b=some (.tup [.int (p.1:Int),.int (p.2.1:Int),.int p.2.2]) from h)];rfl
theorem A2.HZ{R:Addr->P3->Prop}{bs:List Addr}{ps:List P3}(h:A2 R bs ps):∀p∈ps,∃b∈bs,R b p:=by
 induction h with
 | nil=>intro p hp;cases hp
 | cons r _ ih =>
  intro p hp;rcases List.mem_cons.mp hp with rfl | hp
  ·exact⟨_,qEa,r⟩
  ·obtain⟨b,hb,z⟩:=ih p hp;exact⟨b,qBa _ hb,z⟩
theorem A2.Ib{H:Hp}{bs:List Addr}{ps:List P3}(h:A2 (cP H) bs ps)(s:bs.Pairwise fun a b=>qG (iJ H a) (iJ H b)):lC ps:=by
 unfold lC;induction h with
 | nil=>exact .nil
 | cons r t ih =>
  rw[qGi] at s|-;refine⟨fun p hp=>?_,ih s.2⟩;obtain⟨b,hb,z⟩:=t.HZ p hp;have y:=s.1 b hb;rw[r.ky,z.ky] at y;unfold qG at y;dsimp only at y;lia
theorem CZ{H H':Hp}{bs:List Addr}(t:c9 H H')(ht:∀a∈bs,∃xs,H a=some (.tup xs))(h:bs.Pairwise fun a b=>qG (iJ H a) (iJ H b)):bs.Pairwise fun a b=>qG (iJ H' a) (iJ H' b):=by
 have e:∀a∈bs,iJ H' a=iJ H a:=fun a ha=>by
  obtain⟨xs,hx⟩:=ht a ha;unfold iJ;rw[bN hx,bN (t a xs hx)]
 refine h.imp_of_mem fun {a b} ha hb z=>?_;rw[e a ha,e b hb];exact z
def oT(MA:Addr)(H:Hp)(a lb:Addr)(m:Nat)(ps:List P3):Prop:=∃(dx l:Addr) (ts:List Addr),H a=some (.ins MA dx [("many",.int (m:Int)),("pairs",.ref l),("best",.ref lb)])/\H lb=some (.lst (ts.map V.ref))/\A2 (rW H) ts (dJ ps (2^m-1))/\1<=m/\m<=6/\Pw m ps
theorem oT.same{MA:Addr}{H H':Hp}{a lb:Addr}{m:Nat}{ps:List P3}(h:oT MA H a lb m ps)(s:aI H H'):oT MA H' a lb m ps :=
 let ⟨dx,l,ts,h1,h2,h3,h4⟩:=h;⟨dx,l,ts,s _ _ h1,s _ _ h2,h3.imp fun _ _ z=>z.keep s.t,h4⟩
theorem Pw.six{m:Nat}{ps:List P3}(h:Pw m ps)(h6:m<=6):Pw 6 ps:=⟨fun p hp=>let ⟨a,b⟩:=h.1 p hp;⟨a,by lia⟩,h.2⟩
def Dc(MA:Addr):Sp:=fun vs H Q _=>∃(x dx p:Addr) (m:Nat) (as:List Addr),vs=[.ref x,.int (m:Int),.ref p]/\H x=some (.ins MA dx [])/\H p=some (.lst (as.map V.ref))/\cC m H as/\1<=m/\m<=6 /\
 ∀(l lb:Addr) (bs:List Addr) (ps:List P3) (H':Hp),H lb=none->bs.Perm as->SameBut x H H'->A2 (cP H') bs ps->oT MA H' x lb m ps->(∃dx,H' x=some (.ins MA dx [("many",.int (m:Int)),("pairs",.ref l),("best",.ref lb)]))->H' l=some (.lst (bs.map V.ref))->lC ps->H l=none->Q .non H'
theorem Ic:aL ["self","many","pairs"] ["self","many","pairs"] (aD Eb):=by constructor<;>first|rfl|decide +kernel
theorem Ge{f1 f2:Addr}{fd1 fd2:qAz}(t:Mx K "__init__" "Match.__init__" Eb ["self","many","pairs"] f fd)(T:T K mg AL LN RU OW PL PA VO MA NE fE fH rR rO rP rA rV rM rN iR iO iP iA iV iM iN fL wR wO wP wA wV wM wN SE NG NL NT)(D_RI:Md P w K mg base 4 ["self","many"] (nH K NL) iR)(D_sorted_pairs:Df P w K mg base (fT P w) 4 "sorted_pairs" ["many","pairs"] (rL K NL) f1 fd1)(D_best_pairings:Df P w K mg base cI 6 "best_pairings" ["many","pairs"] Gb f2 fd2):
  Md P w K mg base 7 ["self","many","pairs"] (Dc MA) f:=by
 refine t.Av Ic (fun vs H Q E h=>?_) (fun cdv A outer s H vs Q E hr h=>?_)
 ·obtain⟨x,dx,p,m,as,rfl,_⟩:=h;rfl
 ·obtain⟨x,dx,p,m,as,rfl,hx,hp,ok,m1,m6,k⟩:=h;refine⟨_,(aE (bC (lS aP.toPass (by rfl) T.wK T.Eh D_RI hr (by decide) (aA (pv 0) (aA (pv 1) aC))))
   (aE (eG (pv 0) (dU aP.toPass D_sorted_pairs hr (by decide) (by rfl) (aA (pv 1) (aA (pv 2) aC))) rfl)
   (aH (eG (pv 0) (bA D_best_pairings hr (by decide) (by rfl) (aA (pv 1) (aA (bR (pv 0) rfl) aC))) rfl)))),?_⟩
  have i16:kC 1 6 (.int (m:Int))=true:=by rw[fG,decide_eq_true m1,decide_eq_true m6];rfl
  refine⟨_,rfl,_,rfl,x,MA,dx,_,rfl,hx,T.zD.oc.cl,T.zD.nm,.int _,fun no=>(by rw[i16] at no;cases no),fun yes=>?_⟩;have at_:∀b o,(∀C dx fs,o≠HO.ins C dx fs)->H b=some o->upd H x (.ins MA dx [("many",V.int (m:Int))]) b=some o:=fun b o n e=>by
   rw[aK]
   ·exact e
   ·rintro rfl;rw[hx] at e;exact n _ _ _ (Option.some.inj e).symm
  have hp1:=at_ _ _ (by intro _ _ _ z;cases z) hp;have yQ:cC m (upd H x (.ins MA dx [("many",V.int (m:Int))])) as:=ok.same fun b hb o e=>by
   obtain⟨u,v,n,e',_⟩:=ok.1 b hb;rw[e'] at e;exact(Option.some.inj e)▸at_ _ _ (by intro _ _ _ z;cases z) e'
  have sb:SameBut x H (upd H x (.ins MA dx [("many",V.int (m:Int))])):=((aI.refl H).but x).fV _;refine⟨_,rfl,_,rfl,(m:Int),p,as,rfl,hp1,yQ.fM,by have:=ok.2.2;lia,fun no H1 s1=>(by rw[yQ.ok] at no;cases no),fun _ l bs H1 hl hb hpw s1 h1=>?_⟩;have hx1:=s1 _ _ (aB (H:=H) (a:=x) (o:=.ins MA dx [("many",V.int (m:Int))]));refine⟨_,rfl,x,MA,dx,_,rfl,hx1,T.zD.oc.cl,T.HE,(by show 1<1000;decide),?_⟩;have nl:l≠x:=(aO (aB (H:=H) (a:=x) (o:=.ins MA dx [("many",V.int (m:Int))])) hl).symm;have ok2:cC m H1 bs:=(yQ.nI hb).same fun b _ o e=>s1 _ _ e;obtain⟨ps,a2,pw⟩:=ok2.pw;have at2:∀b xs,H1 b=some (HO.tup xs)->upd H1 x (.ins MA dx [("many",V.int (m:Int)),("pairs",.ref l)]) b=some (.tup xs):=fun b xs e=>by
   rw[aK (cL e hx1 (fun z=>nomatch z))];exact e
  refine⟨_,rfl,_,rfl,x,MA,dx,_,_,rfl,aB,T.zD.oc.cl,T.HE,rfl,l,bs,ps,m,rfl,(by show upd _ _ _ l=_;rw[aK nl];exact h1),a2.imp fun _ _ z=>z.keep at2,(pw.six m6).1,m1,m6,fun lb ts H2 hlb s2 h2 hts=>?_⟩;have hx2:=s2 _ _ (aB (H:=H1) (a:=x) (o:=.ins MA dx [("many",V.int (m:Int)),("pairs",.ref l)]));have nlb:lb≠x:=(aO (aB (H:=H1) (a:=x) (o:=.ins MA dx [("many",V.int (m:Int)),("pairs",.ref l)])) hlb).symm;refine⟨_,rfl,x,MA,dx,_,rfl,hx2,T.zD.oc.cl,T.Fs,(by show 2<1000;decide),?_⟩;have hlb0:H lb=none:=by
   have z:H1 lb=none:=by
    have:upd H1 x (.ins MA dx [("many",V.int (m:Int)),("pairs",.ref l)]) lb=none:=hlb;rw[aK nlb] at this;exact this
   have y:=s1.free z;rw[aK nlb] at y;exact y
  have at3:∀(o:HO),c9 H2 (upd H2 x o):=fun o b xs e=>by
   rw[aK (cL e hx2 (fun z=>nomatch z))];exact e
  exact k l lb bs ps _ hlb0 hb ((((sb.then s1).fV _).then s2).fV _) (a2.imp fun _ _ z=>((z.keep at2).keep s2.t).keep (at3 _)) ⟨dx,l,ts,aB,(by rw[aK nlb];exact h2),hts.imp fun _ _ z=>z.keep (at3 _),m1,m6,pw⟩ ⟨dx,aB⟩ (by rw[aK nl];exact s2 _ _ (by rw[aK nl];exact h1)) (a2.Ib (CZ s1.t (fun a ha=>let ⟨u,v,n,e,_⟩:=yQ.1 a (hb.mem_iff.mp ha);⟨_,e⟩) hpw)) (by rw[aK nl] at hl;exact hl)
def zR(MA:Addr):Sp:=fun vs H Q _=>∃(a lb:Addr) (m:Nat) (ps:List P3) (g:Nat),vs=[.ref a,.int (g:Int)]/\oT MA H a lb m ps/\g<2^m/\Q (.int (bF ps g).1) H
theorem Ie:aL ["self","group"] ["self","group"] (aD Ec):=by constructor<;>first|rfl|decide +kernel
theorem Gf(t:Mx K "reckon" "Match.reckon" Ec ["self","group"] f fd)(T:T K mg AL LN RU OW PL PA VO MA NE fE fH rR rO rP rA rV rM rN iR iO iP iA iV iM iN fL wR wO wP wA wV wM wN SE NG NL NT):Md P w K mg base 1 ["self","group"] (zR MA) f:=by
 refine t.pV Ie (fun vs H Q E h=>?_) (fun cdv A outer s H vs Q E hr h=>?_)
 ·obtain⟨a,lb,m,ps,g,rfl,_⟩:=h;rfl
 ·obtain⟨a,lb,m,ps,g,rfl,mo,hg,k⟩:=h;refine⟨_,(aH (aU (aZ bG (aZ bE (bR (pv 0) rfl) (pv 1) (fun _ _=>rfl)) aG (fun _ _=>rfl)))),?_⟩;obtain⟨dx,l,ts,h1,h2,h3,h4⟩:=mo;obtain⟨tb,hb,q,rs,e1,e2,e3⟩:=kQ h3 (i:=g) (by lia);exact⟨_,rfl,a,MA,dx,_,_,rfl,h1,T.zD.oc.cl,T.Fs,rfl,_,rfl,lb,_,_,_,rfl,rfl,aT.of h2,nJ hb,tb,_,_,_,rfl,rfl,dE.of e1,rfl,k⟩
theorem uD(D:Md P w K mg base 1 ["self","group"] (zR MA) rM)(c:RC K fE fH RU MA rM){H:Hp}{a lb:Addr}{m:Nat}{ps:List P3}(h:oT MA H a lb m ps):lB P w K mg base fE fH RU H a m (fun g=>(bF ps g).1):=by
 have h':=h;obtain⟨dx,l,ts,h1,h2,h3,h4,h5,h6⟩:=h';exact⟨MA,dx,rM,_,h1,c,rfl,h4,h5,⟨rfl,rfl,rfl⟩,_,(D.up (by decide)).imp fun vs H2 Q _ ⟨gr,e,hg,s,q⟩=>⟨a,lb,m,ps,gr,e,h.same s,hg,q H2 (.refl _)⟩⟩
def ea(r:P3):Nat:=r.1
def eb(r:P3):Nat:=if r.1=r.2.1 then 6 else r.2.1
def cM(r:P3):Nat:=2^ea r+2^eb r
def cQ(r:P3):Prop:=r.1<=r.2.1/\r.2.1<6
def uJ(G:Nat)(r:P3):Bool:=aN G (ea r)&&aN G (eb r)
def jn(J G:Nat)(r:P3):Bool:=uJ G r&&(aN J (ea r) != aN J (eb r))
theorem cQ.lt{r:P3}(h:cQ r):ea r<6/\eb r<7/\ea r≠eb r:=by
 obtain⟨h1,h2⟩:=h;unfold ea eb;split <;> lia
theorem Dd:∀(J:_root_.Fin 128) (a b k:_root_.Fin 7),aN (J.1 ||| (2^a.1+2^b.1)) k.1=(aN J.1 k.1||decide (k.1=a.1)||decide (k.1=b.1))\/a.1=b.1:=by decide +kernel
theorem Gg:∀(J:_root_.Fin 128) (a b:_root_.Fin 7),J.1 ||| (2^a.1+2^b.1)<128\/a.1=b.1:=by decide +kernel
theorem fZ{J k:Nat}{r:P3}(hJ:J<128)(h:cQ r)(hk:k<7):aN (J ||| cM r) k=(aN J k||decide (k=ea r)||decide (k=eb r)):=by
 obtain⟨h1,h2,h3⟩:=h.lt;exact(Dd ⟨J,hJ⟩ ⟨ea r,by lia⟩ ⟨eb r,h2⟩ ⟨k,hk⟩).resolve_right h3
theorem nK{J:Nat}{r:P3}(hJ:J<128)(h:cQ r):J ||| cM r<128:=by
 obtain⟨h1,h2,h3⟩:=h.lt;exact(Gg ⟨J,hJ⟩ ⟨ea r,by lia⟩ ⟨eb r,h2⟩).resolve_right h3
def gA(J:Nat):Nat:=((qAq 7).filter (aN J)).length
theorem xC:∀(J:_root_.Fin 128) (a b:_root_.Fin 7),(aN J.1 a.1 != aN J.1 b.1)=true->gA (J.1 ||| (2^a.1+2^b.1))=gA J.1+1:=by decide +kernel
theorem nL{J:Nat}{r:P3}(hJ:J<128)(h:cQ r)(hj:(aN J (ea r) != aN J (eb r))=true):gA (J ||| cM r)=gA J+1:=by
 obtain⟨h1,h2,h3⟩:=h.lt;exact xC ⟨J,hJ⟩ ⟨ea r,by lia⟩ ⟨eb r,h2⟩ hj
theorem qI:∀g:_root_.Fin 64,gA (g.1+64)=(cX g.1).length+1:=by decide +kernel
def gC(xs:List P3)(r:P3):Prop:=∃i,xs[i]?=some r/\∀(j:Nat) (y:P3),xs[j]?=some y->r.2.2<=y.2.2/\(j<i->r.2.2<y.2.2)
theorem gC.uniq{xs:List P3}{r r':P3}(h:gC xs r)(h':gC xs r'):r=r':=by
 obtain⟨i,hi,h1⟩:=h;obtain⟨i',hi',h2⟩:=h';have a:=h1 i' r' hi';have b:=h2 i r hi;have e:i=i':=by
  rcases qJk i i' with z | z | z
  ·have:=b.2 z;have:=a.1;lia
  ·exact z
  ·have:=a.2 z;have:=b.1;lia
 subst e;exact Option.some.inj (hi.symm.trans hi')
theorem gC.mem{xs:List P3}{r:P3}(h:gC xs r):r∈xs:=let ⟨_,hi,_⟩:=h;qAy hi
theorem gC.le{xs:List P3}{r y:P3}(h:gC xs r)(hy:y∈xs):r.2.2<=y.2.2:=by
 obtain⟨i,_,h1⟩:=h;obtain⟨j,hj⟩:=qIm hy;exact(h1 j y hj).1
inductive Run (rs:List P3) (G:Nat):Nat->List P3->Prop
 | stop:Run rs G G []
 | step {J:Nat}{r:P3}{l:List P3}:J≠G->gC (rs.filter (jn J G)) r->Run rs G (J ||| cM r) l->Run rs G J (r::l)
theorem Run.uniq{rs:List P3}{G J:Nat}{l l':List P3}(h:Run rs G J l)(h':Run rs G J l'):l=l':=by
 induction h generalizing l' with
 | stop =>
  cases h' with
  | stop=>rfl
  | step ne _ _=>exact absurd rfl ne
 | step ne m _ ih =>
  cases h' with
  | stop=>exact absurd rfl ne
  | step _ m' r' =>
   have e:=m.uniq m';subst e;rw[ih r']
theorem oU{J G:Nat}{rs:List P3}{r:P3}(h:gC (rs.filter (jn J G)) r):r∈rs/\uJ G r=true/\(aN J (ea r) != aN J (eb r))=true:=by
 have m:=List.mem_filter.mp h.mem;have z:(uJ G r&&(aN J (ea r) != aN J (eb r)))=true:=m.2;rw[qAo] at z;exact⟨m.1,z.1,z.2⟩
theorem Run.facts{rs:List P3}{G J:Nat}{l:List P3}(ok:∀r∈rs,cQ r)(h:Run rs G J l)(hJ:J<128):(∀r∈l,r∈rs/\uJ G r=true)/\(∀r∈l,¬(aN J (ea r)=true/\aN J (eb r)=true))/\(l.map fun r=>(r.1,r.2.1)).Nodup/\l.length+gA J=gA G:=by
 induction h with
 | stop=>exact⟨fun _ h=>(qBs h).elim,fun _ h=>(qBs h).elim,qHl,by simp⟩
 | @step J r l ne m h ih =>
  obtain⟨hr,hg,hj⟩:=oU m;have o:=ok r hr;obtain⟨o1,o2,o3⟩:=o.lt;obtain⟨i1,i2,i3,i4⟩:=ih (nK hJ o);have up:∀k,k<7->aN J k=true->aN (J ||| cM r) k=true:=fun k hk z=>by rw[fZ hJ o hk,z];rfl
  have both:aN (J ||| cM r) (ea r)=true/\aN (J ||| cM r) (eb r)=true:=⟨by rw[fZ hJ o (by lia)];simp,by rw[fZ hJ o o2];simp⟩;refine⟨fun r' hr'=>?_,fun r' hr' z=>?_,?_,?_⟩
  ·rcases List.mem_cons.mp hr' with rfl | hr'
   ·exact⟨hr,hg⟩
   ·exact i1 r' hr'
  ·rcases List.mem_cons.mp hr' with rfl | hr'
   ·rw[z.1,z.2] at hj;exact absurd hj (by decide)
   ·obtain⟨p1,p2,_⟩:=(ok r' (i1 r' hr').1).lt;exact i2 r' hr' ⟨up _ (by lia) z.1,up _ p2 z.2⟩
  ·rw[qBk,qHb];refine⟨fun z=>?_,i3⟩;obtain⟨r',hr',e⟩:=List.mem_map.mp z;have e1:r'.1=r.1:=(Prod.mk.inj e).1;have e2:r'.2.1=r.2.1:=(Prod.mk.inj e).2;have f1:ea r'=ea r:=e1;have f2:eb r'=eb r:=by unfold eb;rw[e1,e2]
   exact i2 r' hr' (by rw[f1,f2];exact both)
  ·rw[qBu];have:=nL hJ o hj;lia
inductive Cn (R:P3->Prop):Nat->Nat->Prop
 | refl (a:Nat):Cn R a a
 | fw {a:Nat}{r:P3}:R r->Cn R a (ea r)->Cn R a (eb r)
 | bw {a:Nat}{r:P3}:R r->Cn R a (eb r)->Cn R a (ea r)
theorem Cn.trans{R:P3->Prop}{a b c:Nat}(h:Cn R a b)(h':Cn R b c):Cn R a c:=by
 induction h' with
 | refl=>exact h
 | fw r _ ih=>exact .fw r ih
 | bw r _ ih=>exact .bw r ih
theorem Cn.symm{R:P3->Prop}{a b:Nat}(h:Cn R a b):Cn R b a:=by
 induction h with
 | refl=>exact .refl _
 | fw r _ ih=>exact(Cn.bw r (.refl _)).trans ih
 | bw r _ ih=>exact(Cn.fw r (.refl _)).trans ih
theorem Cn.mono{R S:P3->Prop}(f:∀r,R r->S r){a b:Nat}(h:Cn R a b):Cn S a b:=by
 induction h with
 | refl=>exact .refl _
 | fw r _ ih=>exact .fw (f _ r) ih
 | bw r _ ih=>exact .bw (f _ r) ih
theorem Cn.Gh{R:P3->Prop}{a b J:Nat}(h:Cn R a b)(hb:aN J a≠aN J b):∃r,R r/\(aN J (ea r) != aN J (eb r))=true:=by
 induction h with
 | refl=>exact absurd rfl hb
 | @fw r hr h ih =>
  by_cases e:aN J (ea r)=aN J (eb r)
  ·exact ih (by rw[e];exact hb)
  ·exact⟨r,hr,by simpa using e⟩
 | @bw r hr h ih =>
  by_cases e:aN J (ea r)=aN J (eb r)
  ·exact ih (by rw[<- e];exact hb)
  ·exact⟨r,hr,by simpa using e⟩
def Bn(rs:List P3)(G J:Nat)(L:List P3):Prop:=∀(c:Int) (a b:Nat),a<7->b<7->aN J a=true->aN J b=true->Cn (fun r=>r∈rs/\uJ G r=true/\r.2.2<=c) a b->Cn (fun r=>r∈L/\r.2.2<=c) a b
theorem Bn.step{rs:List P3}{G J:Nat}{L:List P3}{r:P3}(ok:∀r∈rs,cQ r)(h:Bn rs G J L)(hJ:J<128)(m:gC (rs.filter (jn J G)) r):Bn rs G (J ||| cM r) (L++[r]):=by
 obtain⟨hr,hg,hj⟩:=oU m;have o:=ok r hr;obtain⟨o1,o2,o3⟩:=o.lt;have old:∀c a b,a<7->b<7->aN J a=true->aN J b=true->Cn (fun r=>r∈rs/\uJ G r=true/\r.2.2<=c) a b->Cn (fun r'=>r'∈L++[r]/\r'.2.2<=c) a b:=fun c a b ha hb h1 h2 z =>
  (h c a b ha hb h1 h2 z).mono fun r' q=>⟨qDr _ q.1,q.2⟩
 obtain⟨p,w,hp7,hw7,hp,hw,hw',join⟩:∃p w,p<7/\w<7/\aN J p=true/\aN J w=false/\(∀k,k<7->aN (J ||| cM r) k=true->aN J k=true\/k=w)/\∀(R:P3->Prop),R r->Cn R p w:=by
  cases e1:aN J (ea r) with
  | true =>
   have e2:aN J (eb r)=false:=by
    cases e2:aN J (eb r) with
    | true=>rw[e1,e2] at hj;exact absurd hj (by decide)
    | false=>rfl
   refine⟨ea r,eb r,by lia,o2,e1,e2,fun k hk z=>?_,fun R hR=>.fw hR (.refl _)⟩;rw[fZ hJ o hk,qCz,qCz] at z;rcases z with (z | z) | z
   ·exact .inl z
   ·have:=of_decide_eq_true z;subst this;exact .inl e1
   ·exact .inr (of_decide_eq_true z)
  | false =>
   have e2:aN J (eb r)=true:=by
    cases e2:aN J (eb r) with
    | false=>rw[e1,e2] at hj;exact absurd hj (by decide)
    | true=>rfl
   refine⟨eb r,ea r,o2,by lia,e2,e1,fun k hk z=>?_,fun R hR=>.bw hR (.refl _)⟩;rw[fZ hJ o hk,qCz,qCz] at z;rcases z with (z | z) | z
   ·exact .inl z
   ·exact .inr (of_decide_eq_true z)
   ·have:=of_decide_eq_true z;subst this;exact .inl e2
 have new:∀c b,b<7->aN J b=true->Cn (fun r=>r∈rs/\uJ G r=true/\r.2.2<=c) w b->Cn (fun r'=>r'∈L++[r]/\r'.2.2<=c) w b:=fun c b hb h2 z=>by
  obtain⟨r',⟨q1,q2,q3⟩,q4⟩:=z.Gh (J:=J) (by rw[hw,h2];decide);have q5:r'∈rs.filter (jn J G):=List.mem_filter.mpr ⟨q1,by unfold jn;rw[q2,q4];rfl⟩;have le:=m.le q5;have rc:r.2.2<=c:=by lia
  have y:=old c p b hp7 hb hp h2 ((join _ ⟨hr,hg,rc⟩).trans z);exact(join (fun r'=>r'∈L++[r]/\r'.2.2<=c) ⟨qAn _ (List.mem_singleton.mpr rfl),rc⟩).symm.trans y
 intro c a b ha hb h1 h2 z;rcases hw' a ha h1 with a1 | a1
 ·rcases hw' b hb h2 with b1 | b1
  ·exact old c a b ha hb a1 b1 z
  ·subst b1;exact(new c a ha a1 z.symm).symm
 ·subst a1;rcases hw' b hb h2 with b1 | b1
  ·exact new c b hb b1 z
  ·subst b1;exact .refl _
theorem Run.bn{rs:List P3}{G J:Nat}{l:List P3}(ok:∀r∈rs,cQ r)(h:Run rs G J l):∀L,J<128->Bn rs G J L->Bn rs G G (L++l):=by
 induction h with
 | stop=>intro L _ b;rw[qBm];exact b
 | @step J r l ne m h ih =>
  intro L hJ b;have o:=ok r (oU m).1;have z:=ih (L++[r]) (nK hJ o) (b.step ok hJ m);rw[qDn] at z;exact z
theorem iK:∀k:_root_.Fin 7,aN 64 k.1=true->k.1=6:=by decide
theorem zS(rs:List P3)(G:Nat):Bn rs G 64 []:=fun c a b ha hb h1 h2 _=>by
 have e1:a=6:=iK ⟨a,ha⟩ h1;have e2:b=6:=iK ⟨b,hb⟩ h2;rw[e1,e2];exact .refl _
theorem Run.well{rs:List P3}{G J:Nat}{l:List P3}(ok:∀r∈rs,cQ r)(h:Run rs G J l):∀L,J<128->(∀k,k<7->aN J k=true->Cn (fun r=>r∈L) 6 k)->∀k,k<7->aN G k=true->Cn (fun r=>r∈L++l) 6 k:=by
 induction h with
 | stop=>intro L _ b;rw[qBm];exact b
 | @step J r l ne m h ih =>
  intro L hJ b;obtain⟨hr,hg,hj⟩:=oU m;have o:=ok r hr;obtain⟨o1,o2,o3⟩:=o.lt;have z:=ih (L++[r]) (nK hJ o) fun k hk q=>by
   have old:∀k,k<7->aN J k=true->Cn (fun r'=>r'∈L++[r]) 6 k:=fun k hk y=>(b k hk y).mono fun r' q=>qDr _ q;have hm:r∈L++[r]:=qAn _ (List.mem_singleton.mpr rfl);rw[fZ hJ o hk,qCz,qCz] at q;rcases q with (q | q) | q
   ·exact old k hk q
   ·have e:=of_decide_eq_true q;subst e;cases e1:aN J (ea r) with
    | true=>exact old _ (by lia) e1
    | false =>
     have e2:aN J (eb r)=true:=by
      cases e2:aN J (eb r) with
      | false=>rw[e1,e2] at hj;exact absurd hj (by decide)
      | true=>rfl
     exact .bw hm (old _ o2 e2)
   ·have e:=of_decide_eq_true q;subst e;cases e2:aN J (eb r) with
    | true=>exact old _ o2 e2
    | false =>
     have e1:aN J (ea r)=true:=by
      cases e1:aN J (ea r) with
      | false=>rw[e1,e2] at hj;exact absurd hj (by decide)
      | true=>rfl
     exact .fw hm (old _ (by lia) e1)
  rw[qDn] at z;exact z
theorem uE{rs:List P3}{g:Nat}{l:List P3}(ok:∀r∈rs,cQ r)(hg:g<64)(h:Run rs (g+64) 64 l):
  (∀r∈l,r∈rs/\uJ (g+64) r=true)/\(l.map fun r=>(r.1,r.2.1)).Nodup/\l.length=(cX g).length/\(∀k,k<7->aN (g+64) k=true->Cn (fun r=>r∈l) 6 k) /\
  ∀r∈rs,uJ (g+64) r=true->Cn (fun r'=>r'∈l/\r'.2.2<=r.2.2) (ea r) (eb r):=by
 obtain⟨f1,f2,f3,f4⟩:=h.facts ok (by decide);have c1:=qI ⟨g,hg⟩;have c1:gA (g+64)=(cX g).length+1:=c1;have c2:gA 64=1:=by decide
 have w:=h.well ok [] (by decide) fun k hk q=>by
  have e:k=6:=iK ⟨k,hk⟩ q;rw[e];exact .refl _
 have b:=h.bn ok [] (by decide) (zS rs _);rw[qFt] at w b;refine⟨f1,f3,by lia,w,fun r hr hi=>?_⟩;have o:=ok r hr;obtain⟨o1,o2,o3⟩:=o.lt;have i2:=hi;unfold uJ at i2;rw[qAo] at i2;exact b r.2.2 (ea r) (eb r) (by lia) o2 i2.1 i2.2 (.fw ⟨hr,hi,qJb _⟩ (.refl _))
def rX:Sp:=fun vs H Q _=>∃(b:Addr) (r:P3),vs=[.ref b]/\cP H b r/\Q (.int r.2.2) H
theorem Gi:aL ["rope"] ["rope"] (aD Ci):=by constructor<;>first|rfl|decide +kernel
theorem De(t:Tx K mg "cost_of" Ci ["rope"] f fd)(T:T K mg AL LN RU OW PL PA VO MA NE fE fH rR rO rP rA rV rM rN iR iO iP iA iV iM iN fL wR wO wP wA wV wM wN SE NG NL NT):Df P w K mg base cI 1 "cost_of" ["rope"] rX f fd:=by
 refine t.lR Gi (fun vs H Q E h=>?_) (fun cdv A outer s H vs Q E hr h=>?_)
 ·obtain⟨b,r,rfl,_⟩:=h;rfl
 ·obtain⟨b,r,rfl,hb,k⟩:=h;refine⟨_,(aH (aU (aZ bG (pv 0) aG (fun _ _=>rfl)))),?_⟩;exact⟨_,rfl,b,_,_,_,rfl,rfl,dE.of hb,rfl,k⟩
theorem zT:∀u:_root_.Fin 6,qBr ((2^u.1:Nat):Int) 64=((2^u.1+2^6:Nat):Int):=by decide +kernel
theorem Dg:∀u v:_root_.Fin 6,u.1<v.1->qBr ((2^u.1:Nat):Int) ((2^v.1:Nat):Int)=((2^u.1+2^v.1:Nat):Int):=by decide +kernel
def xD:Sp:=fun vs H Q _=>∃(b:Addr) (r:P3),vs=[.ref b]/\cP H b r/\cQ r/\Q (.int (cM r:Int)) H
theorem Gj:aL ["rope"] ["rope"] (aD Cj):=by constructor<;>first|rfl|decide +kernel
theorem Dh(t:Tx K mg "ends_of" Cj ["rope"] f fd)(T:T K mg AL LN RU OW PL PA VO MA NE fE fH rR rO rP rA rV rM rN iR iO iP iA iV iM iN fL wR wO wP wA wV wM wN SE NG NL NT):Df P w K mg base cI 1 "ends_of" ["rope"] xD f fd:=by
 refine t.lR Gj (fun vs H Q E h=>?_) (fun cdv A outer s H vs Q E hr h=>?_)
 ·obtain⟨b,r,rfl,_⟩:=h;rfl
 ·obtain⟨b,⟨u,v,c⟩,rfl,hb,⟨h1,h2⟩,k⟩:=h;obtain⟨tkWE,hWE⟩:=T.we;refine⟨_,(aE (dG (cA i6 (aZ bG (pv 0) aG (fun _ _=>rfl)) (aZ bG (pv 0) aG (fun _ _=>rfl)) (bZ _)) (aH (aU (aM nY (aZ bG (bL (v:=.ref AL) (by rfl) T.pD rfl) (aZ bG (pv 0) aG (fun _ _=>rfl)) (fun _ _=>rfl)) (bL (v:=.int 64) (by rfl) hWE ⟨tkWE,rfl⟩)))) bO)
   (aH (aU (aM nY (aZ bG (bL (v:=.ref AL) (by rfl) T.pD rfl) (aZ bG (pv 0) aG (fun _ _=>rfl)) (fun _ _=>rfl)) (aZ bG (bL (v:=.ref AL) (by rfl) T.pD rfl) (aZ bG (pv 0) aG (fun _ _=>rfl)) (fun _ _=>rfl)))))),?_⟩
  have h1:u<=v:=h1;have h2:v<6:=h2;have hb:H b=some (.tup [.int (u:Int),.int (v:Int),.int c]):=hb;refine⟨_,rfl,b,_,_,_,rfl,rfl,dE.of hb,rfl,_,rfl,b,_,_,_,rfl,rfl,dE.of hb,rfl,rfl,_,rfl,fR (fun h3=>?_) (fun h3=>?_)⟩
  ·have e:u=v:=by have:=V.int.inj (of_decide_eq_true h3);lia
   subst e;refine⟨_,rfl,b,_,_,_,rfl,rfl,dE.of hb,rfl,AL,_,_,_,rfl,rfl,T.al _,eD h2,_,_,rfl,rfl,?_⟩;have z:=zT ⟨u,h2⟩;have e:cM (u,u,c)=2^u+2^6:=by
    unfold cM ea eb;rw[if_pos rfl]
   rw[e] at k;show Q (.int (qBr ((2^u:Nat):Int) 64)) H;rw[show qBr ((2^u:Nat):Int) 64=((2^u+2^6:Nat):Int) from z];exact k
  ·have e:u≠v:=fun z=>h3 (decide_eq_true (by rw[z]));refine⟨_,rfl,b,_,_,_,rfl,rfl,dE.of hb,rfl,AL,_,_,_,rfl,rfl,T.al _,eD (by lia),_,rfl,b,_,_,_,rfl,rfl,dE.of hb,rfl,AL,_,_,_,rfl,rfl,T.al _,eD h2,_,_,rfl,rfl,?_⟩;have z:=Dg ⟨u,by lia⟩ ⟨v,h2⟩ (by show u<v;lia);have e2:cM (u,v,c)=2^u+2^v:=by
    unfold cM ea eb;rw[if_neg e]
   rw[e2] at k;show Q (.int (qBr ((2^u:Nat):Int) ((2^v:Nat):Int))) H;rw[show qBr ((2^u:Nat):Int) ((2^v:Nat):Int)=((2^u+2^v:Nat):Int) from z];exact k
theorem zU:∀(J:_root_.Fin 128) (a b:_root_.Fin 7),a.1≠b.1->decide (qCf ((2^a.1+2^b.1:Nat):Int) (J.1:Int)=((2^a.1+2^b.1:Nat):Int))=(aN J.1 a.1&&aN J.1 b.1)/\decide (qCf ((2^a.1+2^b.1:Nat):Int) (J.1:Int)=0)=(!aN J.1 a.1 && !aN J.1 b.1):=by decide +kernel
theorem xF{J:Nat}{r:P3}(hJ:J<128)(h:cQ r):decide (qCf (cM r:Int) (J:Int)=(cM r:Int))=(aN J (ea r)&&aN J (eb r))/\decide (qCf (cM r:Int) (J:Int)=0)=(!aN J (ea r) && !aN J (eb r)):=by
 obtain⟨h1,h2,h3⟩:=h.lt;exact zU ⟨J,hJ⟩ ⟨ea r,by lia⟩ ⟨eb r,h2⟩ h3
def AG:Sp:=fun vs H Q _=>∃(b:Addr) (r:P3) (J G:Nat),vs=[.ref b,.int (J:Int),.int (G:Int)]/\cP H b r/\cQ r/\J<128/\G<128/\Q (.bl (jn J G r)) H
theorem Di{a b:Int}:decide (V.int a=V.int b)=decide (a=b):=decide_eq_decide.mpr ⟨V.int.inj,congrArg V.int⟩
theorem AH:aL ["rope","joined","ground","ends"] ["rope","joined","ground"] (aD Ck):=by constructor<;>first|rfl|decide +kernel
theorem Dj{f1:Addr}{fd1:qAz}(t:Tx K mg "joins_on" Ck ["rope","joined","ground"] f fd)(T:T K mg AL LN RU OW PL PA VO MA NE fE fH rR rO rP rA rV rM rN iR iO iP iA iV iM iN fL wR wO wP wA wV wM wN SE NG NL NT)(D_ends_of:Df P w K mg base cI 1 "ends_of" ["rope"] xD f1 fd1):Df P w K mg base cI 2 "joins_on" ["rope","joined","ground"] AG f fd:=by
 refine t.lR AH (fun vs H Q E h=>?_) (fun cdv A outer s H vs Q E hr h=>?_)
 ·obtain⟨b,r,J,G,rfl,_⟩:=h;rfl
 ·obtain⟨b,r,J,G,rfl,hb,ok,hJ,hG,k⟩:=h;refine⟨_,(aE (aX (i:=3) AH.nd rfl cF (bA D_ends_of hr (by decide) (by rfl) (aA (pv 0) aC)))
   (aH (aU (jT (gG i6 (aM jX (pv 3) (pv 2)) (pv 3) (bZ _)) (jT (gG lJ (aM jX (pv 3) (pv 1)) aG (bZ _)) (mL (gG lJ (aM jX (pv 3) (pv 1)) (pv 3) (bZ _)))))))),?_⟩
  refine⟨_,rfl,b,r,rfl,hb,ok,?_⟩;obtain⟨g1,_⟩:=xF hG ok;obtain⟨j1,j2⟩:=xF hJ ok;refine⟨_,rfl,_,rfl,_,_,rfl,rfl,_,rfl,rfl,_,rfl,?_⟩;rw[Di,g1];have ek:jn J G r=((aN G (ea r)&&aN G (eb r))&&(aN J (ea r) != aN J (eb r))):=rfl;rw[ek] at k;cases eg:(aN G (ea r)&&aN G (eb r)) with
  | false =>
   rw[eg] at k;exact eU k
  | true =>
   rw[eg] at k;refine gL ?_;refine⟨_,rfl,_,rfl,_,_,rfl,rfl,rfl,_,rfl,?_⟩;rw[Di,j2];have last:(!aN J (ea r) && !aN J (eb r))=false->DO Iq (DO (uT fun i j=>V.int (qCf i j)) (uM 3) (uM 1)) (uM 3) [some (.ref b),some (.int (J:Int)),some (.int (G:Int)),some (.int (cM r:Int))] H Q:=fun z=>by
    refine⟨_,rfl,_,rfl,_,_,rfl,rfl,_,rfl,rfl,?_⟩;rw[Di,j1];cases e1:aN J (ea r) <;> cases e2:aN J (eb r)
    ·rw[e1,e2] at z;cases z
    ·rw[e1,e2] at k;exact k
    ·rw[e1,e2] at k;exact k
    ·rw[e1,e2] at k;exact k
   cases e3:(!aN J (ea r) && !aN J (eb r)) with
   | true =>
    have e4:aN J (ea r)=false/\aN J (eb r)=false:=by
     cases e1:aN J (ea r) <;> cases e2:aN J (eb r) <;> rw[e1,e2] at e3 <;> first | exact⟨rfl,rfl⟩ | cases e3
    rw[e4.1,e4.2] at k;exact eU k
   | false=>exact gL (last e3)
def dB(H:Hp)(b:Addr):P3:=match H b with
 | some (.tup [.int u,.int v,.int c])=>(u.toNat,v.toNat,c)
 | _=>(0,0,0)
theorem cP.of{H:Hp}{b:Addr}{r:P3}(h:cP H b r):dB H b=r:=by
 unfold dB;rw[show H b=some (.tup [.int (r.1:Int),.int (r.2.1:Int),.int r.2.2]) from h];rfl
theorem A2.filter{H:Hp}{as:List Addr}{rs:List P3}(p:P3->Bool)(h:A2 (cP H) as rs):A2 (cP H) (as.filter fun b=>p (dB H b)) (rs.filter p):=by
 induction h with
 | nil=>exact .nil
 | @cons a x as xs r _ ih =>
  cases e:p x with
  | true =>
   rw[qFf (by rw[r.of];exact e),qFf e];exact .cons r ih
  | false =>
   rw[qFg (by rw[r.of,e];decide),qFg (by rw[e];decide)];exact ih
theorem jF(p:Addr->Bool):∀as:List Addr,(as.map V.ref).filterMap (fun x=>match x with | .ref b=>if p b=true then some (V.ref b) else none | _=>none)=(as.filter p).map V.ref
 | []=>rfl
 | a::as=>by
  have ih:=jF p as;rw[qBk];cases e:p a with
  | true =>
   rw[List.filterMap_cons_some (b:=V.ref a) (by show(if p a=true then _ else _)=_;rw[if_pos e]),qFf e,ih];rfl
  | false =>
   rw[List.filterMap_cons_none (by show(if p a=true then _ else _)=_;rw[if_neg (by rw[e];decide)]),qFg (by rw[e];decide),ih]
def AI:Sp:=fun vs H Q _=>∃(lr:Addr) (as:List Addr) (rs:List P3) (g:Nat),vs=[.ref lr,.int (g:Int)]/\H lr=some (.lst (as.map V.ref))/\A2 (cP H) as rs/\(∀r∈rs,cQ r)/\(∀h,h<6->aN g h=true->∃r∈rs,r.1=h/\r.2.1=h)/\g<64/\as.length<=100 /\
 ∀(l:Addr) (cs:List Addr) (L:List P3) (H':Hp),H l=none->aI H H'->H' l=some (.lst (cs.map V.ref))->A2 (cP H') cs L->Run rs (g+64) 64 L->Q (.ref l) H'
theorem zV:∀g:_root_.Fin 64,qBr (g.1:Int) 64=((g.1+64:Nat):Int):=by decide +kernel
theorem zW:∀(J:_root_.Fin 128) (a b:_root_.Fin 7),qBr (J.1:Int) ((2^a.1+2^b.1:Nat):Int)=((J.1 ||| (2^a.1+2^b.1):Nat):Int):=by decide +kernel
theorem qJ:∀(g:_root_.Fin 64) (h:_root_.Fin 7),aN (g.1+64) h.1=(aN g.1 h.1||decide (h.1=6)):=by decide +kernel
theorem zX:∀(J G:_root_.Fin 128),(∀h:_root_.Fin 7,aN J.1 h.1=aN G.1 h.1)->J.1=G.1:=by decide +kernel
theorem xG{rs:List P3}{g J:Nat}(hg:g<64)(hJ:J<128)(sub:∀h,h<7->aN J h=true->aN (g+64) h=true)(w6:aN J 6=true)(ne:J≠g+64)(wr:∀h,h<6->aN g h=true->∃r∈rs,r.1=h/\r.2.1=h):0<(rs.filter (jn J (g+64))).length:=by
 obtain⟨h,hh7,hh⟩:∃h,h<7/\aN J h≠aN (g+64) h:=by
  refine qCd fun z=>ne ?_;exact zX ⟨J,hJ⟩ ⟨g+64,by lia⟩ fun h=>qCd fun q=>z ⟨h.1,h.2,q⟩
 have hG:aN (g+64) h=true:=by
  cases e:aN (g+64) h with
  | true=>rfl
  | false =>
   cases e2:aN J h with
   | true=>rw[sub h hh7 e2] at e;cases e
   | false=>rw[e,e2] at hh;exact absurd rfl hh
 have hJf:aN J h=false:=by
  cases e2:aN J h with
  | true=>rw[e2,hG] at hh;exact absurd rfl hh
  | false=>rfl
 have h6:h≠6:=fun z=>by rw[z,w6] at hJf;cases hJf
 have hb:=qJ ⟨g,hg⟩ ⟨h,hh7⟩;have hb:aN (g+64) h=(aN g h||decide (h=6)):=hb
 rw[hG,decide_eq_false h6,Bool.or_false] at hb;obtain⟨r,hr,e1,e2⟩:=wr h (by lia) hb.symm;have a1:ea r=h:=e1;have a2:eb r=6:=by unfold eb;rw[if_pos (by rw[e1,e2])]
 have hw:=qJ ⟨g,hg⟩ ⟨6,by decide⟩;have hw:aN (g+64) 6=(aN g 6||decide (6=6)):=hw
 rw[decide_eq_true rfl,qKo] at hw;refine List.length_pos_of_mem (List.mem_filter.mpr ⟨hr,?_⟩);unfold jn uJ;rw[a1,a2,hG,hw,hJf,w6];rfl
theorem nM(J:Nat):gA J<=7:=by
 unfold gA;exact qBf (List.length_filter_le _ _) (by decide)
theorem Dk{J:Nat}{r:P3}(hJ:J<128)(h:cQ r):qBr (J:Int) (cM r:Int)=((J ||| cM r:Nat):Int):=by
 obtain⟨h1,h2,h3⟩:=h.lt;exact zW ⟨J,hJ⟩ ⟨ea r,by lia⟩ ⟨eb r,h2⟩
theorem mF:aL ["ropes","group","ground","joined","laid","rope"] ["ropes","group"] (aD Cm):=by constructor<;>first|rfl|decide +kernel
theorem Dl{fC f1 f2:Addr}{fdC fd1 fd2:qAz}(t:Tx K mg "least_net" Cm ["ropes","group"] f fd)(T:T K mg AL LN RU OW PL PA VO MA NE fE fH rR rO rP rA rV rM rN iR iO iP iA iV iM iN fL wR wO wP wA wV wM wN SE NG NL NT)(D_joins_on:Df P w K mg base cI 2 "joins_on" ["rope","joined","ground"] AG f1 fd1)(D_ends_of:Df P w K mg base cI 1 "ends_of" ["rope"] xD f2 fd2)(D_cost_of:Df P w K mg base cI 1 "cost_of" ["rope"] rX fC fdC):
  Df P w K mg base cI 3 "least_net" ["ropes","group"] AI f fd:=by
 refine t.lR mF (fun vs H Q E h=>?_) (fun cdv A outer s H vs Q E hr h=>?_)
 ·obtain⟨lr,as,rs,g,rfl,_⟩:=h;rfl
 ·obtain⟨lr,as,rs,g,rfl,hlr,ha,ok,wr,hg,hlen,k⟩:=h;obtain⟨tkWE,hWE⟩:=T.we;refine⟨_,(aE (aX (i:=2) mF.nd rfl (by first|exact .inl rfl|exact .inr rfl) (aM nY (pv 1) (bL (v:=.int 64) (by rfl) hWE ⟨tkWE,rfl⟩)))
   (aE (aX (i:=3) mF.nd rfl (by first|exact .inl rfl|exact .inr rfl) (bL (v:=.int 64) (by rfl) hWE ⟨tkWE,rfl⟩))
   (aE (aX (i:=4) mF.nd rfl cF (bK aC))
   (aE (uQ PassesOwn.never (cA lJ (pv 3) (pv 2) (bZ _))
    (aE (aX (i:=5) mF.nd rfl cF (tH D_cost_of hr (by decide) (by rfl) T.oN (bL (v:=.ref fC) (by rfl) D_cost_of.at_ rfl) (aA (cT (NB:=["each","ground","joined"]) (pick:=[none,some 2,some 3]) (cO (by with_unfolding_all rfl) (by exact(And.intro rfl (And.intro rfl trivial))) rfl (by decide +kernel) (by decide +kernel) (by rfl) (by rfl)) rfl
     (bP (pv 0)) (fun _ _ _=>aQ (i:=0) (show(["each","ground","joined"]:List Str).Nodup from by decide +kernel) rfl cF)
     (fun _ _ _=>mV (dX (bA D_joins_on hr (by decide) (by rfl) (aA (pv 0) (aA (pv 2) (aA (pv 1) aC)))))) (fun _ _ _=>(pv 0))) aC)))
    (aE (bC (fQ qCt qDu qDt fF (pv 4) (aA (pv 5) aC)))
    (aH (aX (i:=3) mF.nd rfl (by first|exact .inl rfl|exact .inr rfl) (aM nY (pv 3) (bA D_ends_of hr (by decide) (by rfl) (aA (pv 5) aC))))))))
   (aH (aU (pv 4))))))),?_⟩
  refine⟨_,rfl,_,_,rfl,rfl,?_⟩;show bQ 2 (V.int (qBr (g:Int) 64)) _ _ _;rw[show qBr (g:Int) 64=((g+64:Nat):Int) from zV ⟨g,hg⟩];refine⟨by show 0<=qAj;decide,fun l hl=>?_⟩;refine⟨fun m σ' H'=>∃(J:Nat) (cs:List Addr) (L:List P3) (o5:Option V),m=8-gA J/\J<128/\(∀h,h<7->aN J h=true->aN (g+64) h=true)/\aN J 6=true/\L.length+1=gA J/\aI H H'/\H' l=some (.lst (cs.map V.ref))/\A2 (cP H') cs L/\(∀rest,Run rs (g+64) J rest->Run rs (g+64) 64 (L++rest))/\σ'=[some (.ref lr),some (.int (g:Int)),some (.int ((g+64:Nat):Int)),some (.int (J:Int)),some (.ref l),o5],⟨_,64,[],[],none,rfl,by decide,fun h hh z=>?_,by decide,by decide,.aJ hl,aB,.nil,fun rest z=>z,rfl⟩,?_⟩
  ·have e:h=6:=iK ⟨h,hh⟩ z;subst e;have hw:=qJ ⟨g,hg⟩ ⟨6,by decide⟩;have hw:aN (g+64) 6=(aN g 6||decide (6=6)):=hw
   rw[decide_eq_true rfl,qKo] at hw;exact hw
  rintro m σ' H1 ⟨J,cs,L,o5,rfl,hJ,sub,w6,hL,s1,e1,a1,run,rfl⟩;refine⟨_,rfl,_,rfl,rfl,_,rfl,fR (fun hp=>?_) (fun hp=>?_)⟩
  ·have ne:J≠g+64:=fun z=>by
    subst z;have hp:(!decide (V.int ((g+64:Nat):Int)=V.int ((g+64:Nat):Int)))=true:=hp;rw[decide_eq_true rfl] at hp;cases hp
   have pos:=xG hg hJ sub w6 ne wr;have aR:=a1;refine⟨fun σ' H'=>∃(J':Nat) (cs:List Addr) (L:List P3) (o5:Option V),gA J<gA J'/\J'<128/\(∀h,h<7->aN J' h=true->aN (g+64) h=true)/\aN J' 6=true/\L.length+1=gA J'/\aI H H'/\H' l=some (.lst (cs.map V.ref))/\A2 (cP H') cs L/\(∀rest,Run rs (g+64) J' rest->Run rs (g+64) 64 (L++rest))/\σ'=[some (.ref lr),some (.int (g:Int)),some (.int ((g+64:Nat):Int)),some (.int (J':Int)),some (.ref l),o5],fun σ' H' ⟨J',cs,L,o5,b1,b2,b3,b4,b5,b6,b7,b8,b9,b10⟩=>⟨8-gA J',by have:=nM J';have:=nM J;lia,J',cs,L,o5,rfl,b2,b3,b4,b5,b6,b7,b8,b9,b10⟩,?_⟩;have hlr1:=s1 _ _ hlr;have ha1:A2 (cP H1) as rs:=ha.imp fun _ _ z=>z.keep s1.t;refine⟨_,rfl,lr,rfl,⟨_,aT.of hlr1⟩,?_⟩;refine cR (xs:=as.map V.ref) (fun _ x=>match x with | .ref b=>if jn J (g+64) (dB H1 b)=true then some (V.ref b) else none | _=>none) (aT.of hlr1) (by rw[qAb];exact qBp (aW (by lia))) (fun i x H2 kk kk0 s2 hx h1 h2=>?_) fun D H2 hD s2 hd=>?_
   ·obtain⟨b,hb,rfl⟩:=at_of hx;obtain⟨r,hr,pr⟩:=ha1.at hb;have okr:=ok r (qAy hr);have pr2:=pr.keep s2.t;refine⟨_,rfl,_,rfl,_,rfl,b,r,J,g+64,rfl,pr2,okr,hJ,by lia,_,rfl,?_⟩;cases ej:jn J (g+64) r with
    | true=>exact gL ⟨_,rfl,h1 _ (by show(if jn J (g+64) (dB H1 b)=true then some (V.ref b) else none)=_;rw[pr.of,if_pos ej]) _ (.refl _)⟩
    | false=>exact eU (h2 (by show(if jn J (g+64) (dB H1 b)=true then some (V.ref b) else none)=_;rw[pr.of,if_neg (by rw[ej];decide)]) _ (.refl _))
   ·rw[c8,jF fun b=>jn J (g+64) (dB H1 b)] at hd;have aF:A2 (cP H2) (as.filter fun b=>jn J (g+64) (dB H1 b)) (rs.filter (jn J (g+64))):=(ha1.filter (jn J (g+64))).imp fun _ _ z=>z.keep s2.t;generalize (as.filter fun b=>jn J (g+64) (dB H1 b))=fs at hd aF;have kfa:∀(i:Nat) (r:P3),(rs.filter (jn J (g+64)))[i]?=some r->((rs.filter (jn J (g+64))).getD i (0,0,0)).2.2=r.2.2:=fun i r e=>by rw[qAt,e];rfl
    refine⟨D,_,fun i=>((rs.filter (jn J (g+64))).getD i (0,0,0)).2.2,rfl,aT.of hd,by rw[qAb,aF.len];exact pos,fun i v hv=>?_,fun i v hv best=>?_⟩
    ·obtain⟨b,hb,rfl⟩:=at_of hv;obtain⟨r,hr,pr⟩:=aF.at hb;exact⟨b,r,rfl,pr,congrArg V.int (kfa i r hr).symm,rfl⟩
    ·obtain⟨b,hb,rfl⟩:=at_of hv;obtain⟨r,hr,pr⟩:=aF.at hb;have mn:gC (rs.filter (jn J (g+64))) r:=⟨i,hr,fun j y hy=>by
      have z:=best j (by rw[qAb,aF.len];exact(List.getElem?_eq_some_iff.mp hy).1);dsimp only at z;rw[kfa i r hr,kfa j y hy] at z;exact z⟩
     obtain⟨m1,m2,m3⟩:=oU mn;have okr:=ok r m1;obtain⟨o1,o2,o3⟩:=okr.lt;have e2:=s2 _ _ e1;refine⟨_,rfl,.inl ⟨rfl,_,aT.of e2⟩,_,rfl,l,_,_,rfl,rfl,e2,by rw[qAb,a1.len];have:=nM J;exact aW (by lia),?_⟩;have t3:c9 H2 (upd H2 l (.lst (cs.map V.ref++[V.ref b]))):=c9.lst e2;refine⟨_,rfl,_,rfl,b,r,rfl,pr.keep t3,okr,_,_,rfl,rfl,?_⟩;refine⟨J ||| cM r,cs++[b],L++[r],some (.ref b),by rw[nL hJ okr m3];lia,nK hJ okr,fun h hh z=>?_,?_,by rw[qBi,nL hJ okr m3];show _+1+1=_;lia,(s1.trans s2).upd_ne' hl,by rw[aB,qCi];rfl,(a1.imp fun _ _ z=>(z.keep s2.t).keep t3).snoc (pr.keep t3),fun rest z=>?_,?_⟩
     ·rw[fZ hJ okr hh,qCz,qCz] at z;unfold uJ at m2;rw[qAo] at m2;rcases z with (z | z) | z
      ·exact sub h hh z
      ·rw[of_decide_eq_true z];exact m2.1
      ·rw[of_decide_eq_true z];exact m2.2
     ·rw[fZ hJ okr (by decide),w6];rfl
     ·rw[qDn];exact run _ (.step ne mn z)
     ·show [some (V.ref lr),some (V.int (g:Int)),some (V.int ((g+64:Nat):Int)),some (V.int (qBr (J:Int) (cM r:Int))),some (V.ref l),some (V.ref b)]=_;rw[Dk hJ okr]
  ·have e:J=g+64:=by
    refine qCd fun z=>hp ?_;show(!decide (V.int (J:Int)=V.int ((g+64:Nat):Int)))=true;rw[decide_eq_false fun q=>z (by have:=V.int.inj q;lia)];rfl
   subst e;have z:=run [] .stop;rw[qBm] at z;exact⟨_,rfl,k l cs L H1 hl s1 e1 a1 z⟩
def AJ:Sp:=fun vs H Q _=>∃(p:Addr) (ns:List Int),vs=[.ref p]/\H p=some (.lst (ns.map V.int))/\(∀n∈ns,0<=n)/\ns.length<=64/\∀H',aI H H'->Q .non H'
theorem rY:∀{ns:List Int},(∀n∈ns,0<=n)->(ns.map fun n=>decide (n<0)).any id=false
 | [],_=>rfl
 | n::r,h=>by
  have a:=h n (by simp);have i:=rY (ns:=r) fun x hx=>h x (qBa _ hx);show(decide (n<0)||(r.map fun n=>decide (n<0)).any id)=false
  rw[i,decide_eq_false (by lia)];rfl
theorem Gk:aL ["costs"] ["costs"] (aD Cg):=by constructor<;>first|rfl|decide +kernel
theorem Dm{f1:Addr}{fd1:qAz}(t:Tx K mg "check_costs" Cg ["costs"] f fd)(T:T K mg AL LN RU OW PL PA VO MA NE fE fH rR rO rP rA rV rM rN iR iO iP iA iV iM iN fL wR wO wP wA wV wM wN SE NG NL NT)(D_check_numbers:Df P w K mg base (fT P w) 2 "check_numbers" ["things"] (oO K NL) f1 fd1):
  Df P w K mg base (fT P w) 3 "check_costs" ["costs"] AJ f fd:=by
 refine t.Au Gk (fun vs H Q E h=>?_) (fun cdv A outer s H vs Q E hr h=>?_)
 ·obtain⟨p,ns,rfl,_⟩:=h;rfl
 ·obtain⟨p,ns,rfl,hp,h0,hlen,k⟩:=h;refine⟨_,(aE (bC (dU aP.toPass D_check_numbers hr (by decide) (by rfl) (aA (pv 0) aC)))
   (aH (dG (dX (aV (vQ rfl) (by rfl) T.oM BI (aA (cT (NB:=["cost"]) (pick:=[none]) (cO (by with_unfolding_all rfl) (by exact trivial) rfl (by decide +kernel) (by decide +kernel) (by rfl) (by rfl)) rfl
     (bP (pv 0)) (fun _ _ _=>aQ (i:=0) (show(["cost"]:List Str).Nodup from by decide +kernel) rfl cF)
     (fun _ _ _=>cJ) (fun _ _ _=>(gG nZ (pv 0) aG (bZ _)))) aC))) (aH (c5 aP rfl (by rfl) T.wL T.wQ (aA a8 aC))) bO))),?_⟩
  refine⟨_,rfl,p,_,rfl,.inl hp,jR,by rw[qAb];lia,fun no=>(by rw[all_ints] at no;cases no),fun _ H1 s1=>?_⟩;have hp1:=s1 _ _ hp;refine⟨_,rfl,p,rfl,⟨_,aT.of hp1⟩,?_⟩;refine cR (xs:=ns.map V.int) (fun _ x=>match x with | .int n=>some (.bl (decide (n<0))) | _=>none) (aT.of hp1) (by rw[qAb];exact qBp (aW (by lia))) (fun i x H2 kk kk0 s2 hx h1 h2=>?_) fun D H2 hD s2 hd=>?_
  ·obtain⟨n,_,rfl⟩:=List.mem_map.mp (qAy hx);exact⟨_,rfl,_,_,rfl,rfl,h1 _ rfl _ (.refl _)⟩
  ·have ed:H2 D=some (.lst ((ns.map fun n=>decide (n<0)).map V.bl)):=by
    rw[hd,c8,qBx,qBw,<- qDf];rfl
   refine⟨D,_,rfl,aT.of ed,_,rfl,?_⟩;rw[rY h0];exact eU (k H2 (s1.trans s2))
def nN(NE:Addr)(H:Hp)(a ll lr:Addr)(cs:List Int)(rs:List P3):Prop:=∃(dx:Addr) (bs:List Addr),H a=some (.ins NE dx [("many",.int (cs.length:Int)),("costs",.ref ll),("ropes",.ref lr)])/\H ll=some (.lst (cs.map V.int))/\H lr=some (.lst (bs.map V.ref))/\A2 (cP H) bs rs/\1<=cs.length/\cs.length<=6/\Pw cs.length rs/\bs.length<=15
theorem nN.same{NE:Addr}{H H':Hp}{a ll lr:Addr}{cs:List Int}{rs:List P3}(h:nN NE H a ll lr cs rs)(s:aI H H'):nN NE H' a ll lr cs rs :=
 let ⟨dx,bs,h1,h2,h3,h4,h5⟩:=h;⟨dx,bs,s _ _ h1,s _ _ h2,s _ _ h3,h4.imp fun _ _ z=>z.keep s.t,h5⟩
theorem A2.AK{H:Hp}{bs:List Addr}{rs:List P3}(h:A2 (cP H) bs rs):bs.map (fun b=>(dB H b).2.2)=rs.map (·.2.2):=by
 induction h with
 | nil=>rfl
 | cons r _ ih=>rw[qBk,qBk,ih,r.of]
def Dn(NE:Addr):Sp:=fun vs H Q _=>∃(x dx p q:Addr) (cs:List Int) (as:List Addr),vs=[.ref x,.ref p,.ref q]/\H x=some (.ins NE dx [])/\H p=some (.lst (cs.map V.int))/\1<=cs.length/\cs.length<=6/\(∀c∈cs,0<=c)/\H q=some (.lst (as.map V.ref))/\cC cs.length H as/\(∀a∈as,∀r,cP H a r->0<=r.2.2) /\
 ∀(l lr:Addr) (bs:List Addr) (rs:List P3) (H':Hp),H l=none->H lr=none->bs.Perm as->SameBut x H H'->A2 (cP H') bs rs->nN NE H' x l lr cs rs->lC rs->Q .non H'
theorem Ig:aL ["self","costs","ropes"] ["self","costs","ropes"] (aD Ee):=by constructor<;>first|rfl|decide +kernel
theorem Gm{f1 f2 f3:Addr}{fd1 fd2 fd3:qAz}(t:Mx K "__init__" "Net.__init__" Ee ["self","costs","ropes"] f fd)(T:T K mg AL LN RU OW PL PA VO MA NE fE fH rR rO rP rA rV rM rN iR iO iP iA iV iM iN fL wR wO wP wA wV wM wN SE NG NL NT)(D_RI:Md P w K mg base 4 ["self","many"] (nH K NL) iR)(D_check_costs:Df P w K mg base (fT P w) 3 "check_costs" ["costs"] AJ f1 fd1)(D_sorted_pairs:Df P w K mg base (fT P w) 4 "sorted_pairs" ["many","pairs"] (rL K NL) f2 fd2)(D_cost_of:Df P w K mg base cI 1 "cost_of" ["rope"] rX f3 fd3):
  Md P w K mg base 5 ["self","costs","ropes"] (Dn NE) f:=by
 refine t.Av Ig (fun vs H Q E h=>?_) (fun cdv A outer s H vs Q E hr h=>?_)
 ·obtain⟨x,dx,p,q,cs,as,rfl,_⟩:=h;rfl
 ·obtain⟨x,dx,p,q,cs,as,rfl,hx,hp,c1,c6,c0,hq,ok,r0,k⟩:=h;refine⟨_,(aE (bC (lS aP.toPass (by rfl) T.wK T.Eh D_RI hr (by decide) (aA (pv 0) (aA (aV a9 (by rfl) T.dW dP (aA (pv 1) aC)) aC))))
   (aE (bC (dU aP.toPass D_check_costs hr (by decide) (by rfl) (aA (pv 1) aC)))
   (aE (eG (pv 0) (bJ bM (by rfl) T.dA dQ (aA (pv 1) aC)) rfl)
   (aE (eG (pv 0) (dU aP.toPass D_sorted_pairs hr (by decide) (by rfl) (aA (bR (pv 0) rfl) (aA (pv 2) aC))) rfl)
   (aH (bC (dU aP.toPass D_check_costs hr (by decide) (by rfl) (aA (cT (NB:=["rope"]) (pick:=[none]) (cO (by with_unfolding_all rfl) (by exact trivial) rfl (by decide +kernel) (by decide +kernel) (by rfl) (by rfl)) rfl
     (bP (bR (pv 0) rfl)) (fun _ _ _=>aQ (i:=0) (show(["rope"]:List Str).Nodup from by decide +kernel) rfl cF)
     (fun _ _ _=>cJ) (fun _ _ _=>(bA D_cost_of hr (by decide) (by rfl) (aA (pv 0) aC)))) aC)))))))),?_⟩
  have i16:kC 1 6 (.int (cs.length:Int))=true:=by rw[fG,decide_eq_true c1,decide_eq_true c6];rfl
  have hel:((cs.map V.int).length:Int)=(cs.length:Int):=by rw[qAb]
  refine⟨_,rfl,_,rfl,p,_,rfl,.inl (aT.of hp),x,NE,dx,.int (cs.length:Int),(by show [V.ref x,V.int ((cs.map V.int).length:Int)]=_;rw[hel]),hx,T.rJ.oc.cl,T.rJ.nm,.int _,fun no=>(by rw[i16] at no;cases no),fun _=>?_⟩;have sb1:SameBut x H (upd H x (.ins NE dx [("many",V.int (cs.length:Int))])):=((aI.refl H).but x).fV _;have t1:c9 H (upd H x (.ins NE dx [("many",V.int (cs.length:Int))])):=fun b xs e=>sb1 _ _ (cL e hx (fun z=>nomatch z)) e;have hp1:=sb1 _ _ (cL hp hx (fun z=>nomatch z)) hp;have hq1:=sb1 _ _ (cL hq hx (fun z=>nomatch z)) hq;have yQ:cC cs.length (upd H x (.ins NE dx [("many",V.int (cs.length:Int))])) as:=ok.same fun b hb o e=>by
   obtain⟨u,v,n,e',_⟩:=ok.1 b hb;exact sb1 _ _ (cL e' hx (fun z=>nomatch z)) e
  have hx1:upd H x (.ins NE dx [("many",V.int (cs.length:Int))]) x=some (.ins NE dx [("many",V.int (cs.length:Int))]):=aB;generalize upd H x (.ins NE dx [("many",V.int (cs.length:Int))])=H1 at sb1 t1 hp1 hq1 yQ hx1|-;refine⟨_,rfl,p,cs,rfl,hp1,c0,by lia,fun H2 s2=>?_⟩;refine⟨_,rfl,p,_,rfl,.inl (aT.of (s2 _ _ hp1)),fun l hl=>?_⟩;have u3:=aI.aJ (o:=.lst (cs.map V.int)) hl;have hx3:=u3 _ _ (s2 _ _ hx1);have nl:l≠x:=(aO (s2 _ _ hx1) hl).symm;have l0:H l=none:=by
   cases e:H l with
   | none=>rfl
   | some o=>have z:=s2 _ _ (sb1 _ _ nl e);rw[hl] at z;cases z
  refine⟨_,rfl,x,NE,dx,_,rfl,hx3,T.rJ.oc.cl,T.HF,(by show 1<1000;decide),?_⟩;have sb4:=((sb1.then (s2.trans u3)).fV (.ins NE dx [("many",V.int (cs.length:Int)),("costs",.ref l)]));have k4:upd (upd H2 l (.lst (cs.map V.int))) x (.ins NE dx [("many",V.int (cs.length:Int)),("costs",.ref l)]) l=some (.lst (cs.map V.int)):=by rw[aK nl];exact aB
  have hx4:upd (upd H2 l (.lst (cs.map V.int))) x (.ins NE dx [("many",V.int (cs.length:Int)),("costs",.ref l)]) x=some (.ins NE dx [("many",V.int (cs.length:Int)),("costs",.ref l)]):=aB;show Eo _ _ _ _ (upd (upd H2 l (.lst (cs.map V.int))) x (.ins NE dx [("many",V.int (cs.length:Int)),("costs",.ref l)]));generalize upd (upd H2 l (.lst (cs.map V.int))) x (.ins NE dx [("many",V.int (cs.length:Int)),("costs",.ref l)])=H4 at sb4 k4 hx4|-;have hq4:=sb4 _ _ (cL hq hx (fun z=>nomatch z)) hq;have ok4:cC cs.length H4 as:=ok.same fun b hb o e=>by
   obtain⟨u,v,n,e',_⟩:=ok.1 b hb;exact sb4 _ _ (cL e' hx (fun z=>nomatch z)) e
  refine⟨_,rfl,x,NE,dx,_,_,rfl,hx4,T.rJ.oc.cl,T.rJ.nm,rfl,_,rfl,(cs.length:Int),q,as,rfl,hq4,ok4.fM,by have:=ok.2.2;lia,fun no H5 s5=>(by rw[ok4.ok] at no;cases no),fun _ lr bs H5 hlr hb hpw s5 e5=>?_⟩;have hx5:=s5 _ _ hx4;have nlr:lr≠x:=(aO hx4 hlr).symm;have lr0:H lr=none:=by
   cases e:H lr with
   | none=>rfl
   | some o=>have z:=sb4 _ _ nlr e;rw[hlr] at z;cases z
  refine⟨_,rfl,x,NE,dx,_,rfl,hx5,T.rJ.oc.cl,T.zE,(by show 2<1000;decide),?_⟩;have sb6:=((sb4.then s5).fV (.ins NE dx [("many",V.int (cs.length:Int)),("costs",.ref l),("ropes",.ref lr)]));have hx6:upd H5 x (.ins NE dx [("many",V.int (cs.length:Int)),("costs",.ref l),("ropes",.ref lr)]) x=some (.ins NE dx [("many",V.int (cs.length:Int)),("costs",.ref l),("ropes",.ref lr)]):=aB;have t46:c9 H4 (upd H5 x (.ins NE dx [("many",V.int (cs.length:Int)),("costs",.ref l),("ropes",.ref lr)])):=fun b xs e=>by rw[aK (cL (s5 _ _ e) hx5 (fun z=>nomatch z))];exact s5 _ _ e
  have e6:upd H5 x (.ins NE dx [("many",V.int (cs.length:Int)),("costs",.ref l),("ropes",.ref lr)]) lr=some (.lst (bs.map V.ref)):=by rw[aK nlr];exact e5
  have k6:upd H5 x (.ins NE dx [("many",V.int (cs.length:Int)),("costs",.ref l),("ropes",.ref lr)]) l=some (.lst (cs.map V.int)):=by rw[aK nl];exact s5 _ _ k4
  have ok6:cC cs.length (upd H5 x (.ins NE dx [("many",V.int (cs.length:Int)),("costs",.ref l),("ropes",.ref lr)])) bs:=(ok.same fun b hb o e=>by
   obtain⟨u,v,n,e',_⟩:=ok.1 b hb;exact sb6 _ _ (cL e' hx (fun z=>nomatch z)) e).nI hb
  refine⟨_,rfl,x,NE,dx,_,_,rfl,hx6,T.rJ.oc.cl,T.zE,rfl,lr,rfl,⟨_,aT.of e6⟩,?_⟩;obtain⟨rs,a6,pw⟩:=ok6.pw;have blen:bs.length<=15:=ok6.2.2;have r06:∀r∈rs,0<=r.2.2:=fun r hr=>by
   obtain⟨b,hb',pr⟩:=a6.mem.2 r hr;have hba:=hb.mem_iff.mp hb';obtain⟨u,v,n,e',_⟩:=ok.1 b hba;have pr':cP _ b (u,v,n):=sb6 _ _ (cL e' hx (fun z=>nomatch z)) e';have z:=pr.eq pr';rw[z];exact r0 b hba (u,v,n) e'
  rw[show fP ("ropes":Str) (V.ref lr) [(("many":Str),V.int (cs.length:Int)),(("costs":Str),V.ref l)]=[(("many":Str),V.int (cs.length:Int)),(("costs":Str),V.ref l),(("ropes":Str),V.ref lr)] from rfl];generalize upd H5 x (.ins NE dx [("many",V.int (cs.length:Int)),("costs",.ref l),("ropes",.ref lr)])=H6 at sb6 hx6 e6 k6 a6 t46|-;refine cR (xs:=bs.map V.ref) (fun _ x=>match x with | .ref b=>some (.int (dB H6 b).2.2) | _=>none) (aT.of e6) (by rw[qAb];exact qBp (aW (by lia))) (fun i y H7 kk kk0 s7 hy h1 h2=>?_) fun D H7 hD s7 hd=>?_
  ·obtain⟨b,hb',rfl⟩:=at_of hy;obtain⟨r,hr',pr⟩:=a6.at hb';exact⟨_,rfl,b,r,rfl,pr.keep s7.t,h1 _ (by show some (V.int (dB H6 b).2.2)=_;rw[pr.of]) _ (.refl _)⟩
  ·have ed:H7 D=some (.lst ((rs.map (·.2.2)).map V.int)):=by
    rw[hd,c8,qBx,<- a6.AK,qBw,<- qDf];rfl
   refine⟨D,_,rfl,ed,fun n hn=>?_,by rw[qAb,<- a6.len];lia,fun H8 s8=>?_⟩
   ·obtain⟨r,hr',rfl⟩:=List.mem_map.mp hn;exact r06 r hr'
   ·have s68:=s7.trans s8;have nx:∀b:Addr,True:=fun _=>trivial;exact k l lr bs rs H8 l0 lr0 hb (sb6.then s68) (a6.imp fun _ _ z=>z.keep s68.t) ⟨dx,bs,s68 _ _ hx6,s68 _ _ k6,s68 _ _ e6,a6.imp fun _ _ z=>z.keep s68.t,c1,c6,pw,blen⟩ (a6.Ib (CZ t46 (fun a ha=>let ⟨u,v,n,e,_⟩:=ok4.1 a (hb.mem_iff.mp ha);⟨_,e⟩) hpw))
theorem A2.of_get{α:Type}{R:Addr->α->Prop}:∀{as:List Addr}{xs:List α},as.length=xs.length->(∀(i:Nat) (a:Addr) (x:α),as[i]?=some a->xs[i]?=some x->R a x)->A2 R as xs
 | [],[],_,_=>.nil
 | [],_::_,h,_=>by cases h
 | _::_,[],h,_=>by cases h
 | a::as,x::xs,h,f=>.cons (f 0 a x rfl rfl) (A2.of_get (Nat.succ.inj h) fun i b y e1 e2=>f (i+1) b y (by rw[qEb];exact e1) (by rw[qEb];exact e2))
theorem A2.app{α:Type}{R:Addr->α->Prop}{as bs:List Addr}{xs ys:List α}(h:A2 R as xs)(h':A2 R bs ys):A2 R (as++bs) (xs++ys):=by
 induction h with
 | nil=>exact h'
 | cons r _ ih=>exact .cons r ih
def Gn(cs:List Int):List P3:=(qAq cs.length).map fun i=>(i,i,cs.getD i 0)
def allR(cs:List Int)(rs:List P3):List P3:=Gn cs++rs
theorem uF{β:Type}{S:Addr->β->Prop}{f:Nat->β}{ys:List V}{n:Nat}(hy:ys.length=n)(h:∀i y,ys[i]?=some y->∃b,y = .ref b/\S b (f i)):∃ws:List Addr,ys=ws.map V.ref/\A2 S ws ((qAq n).map f):=by
 refine⟨ys.map fun y=>match y with | .ref b=>b | _=>0,?_,A2.of_get (by rw[qAb,qAb,qCy,hy]) fun i a x e1 e2=>?_⟩
 ·rw[qBw];refine(List.map_id ys).symm.trans (qDj fun y hm=>?_);obtain⟨i,hi⟩:=qIm hm;obtain⟨b,rfl,_⟩:=h i y hi;rfl
 ·rw[qAu] at e1 e2;cases ey:ys[i]? with
  | none=>rw[ey] at e1;cases e1
  | some y =>
   rw[ey] at e1;obtain⟨b,rfl,pb⟩:=h i y ey;have e1:b=a:=Option.some.inj e1;have hi:i<n:=by rw[<- hy];exact(List.getElem?_eq_some_iff.mp ey).1
   rw[List.getElem?_range hi] at e2;have e2:f i=x:=Option.some.inj e2;rw[<- e1,<- e2];exact pb
theorem Dp{g h m:Nat}(hg:g<2^m)(hb:aN g h=true):h<m:=by
 refine qCd fun z=>?_;have z2:g<2^h:=qAl hg (qCq (by decide) (by lia));have:g/2^h=0:=qGw z2;unfold aN at hb;rw[this] at hb;exact absurd (of_decide_eq_true hb) (by decide)
theorem oV{cs:List Int}{rs:List P3}(h6:cs.length<=6)(pw:Pw cs.length rs):∀r∈allR cs rs,cQ r:=fun r hr=>by
 rcases List.mem_append.mp hr with z | z
 ·obtain⟨i,hi,rfl⟩:=List.mem_map.mp z;have:=List.mem_range.mp hi;exact⟨qAk _,by show i<6;lia⟩
 ·obtain⟨a,b⟩:=pw.1 r z;exact⟨qBp a,by lia⟩
theorem xI{cs:List Int}{rs:List P3}{g:Nat}(hg:g<2^cs.length):∀h,h<6->aN g h=true->∃r∈allR cs rs,r.1=h/\r.2.1=h:=fun h _ hb =>
 ⟨(h,h,cs.getD h 0),qDr _ (List.mem_map.mpr ⟨h,List.mem_range.mpr (Dp hg hb),rfl⟩),rfl,rfl⟩
def AM(NE:Addr):Sp:=fun vs H Q _=>∃(a ll lr:Addr) (cs:List Int) (rs:List P3) (g:Nat),vs=[.ref a,.int (g:Int)]/\nN NE H a ll lr cs rs/\g<2^cs.length /\
 ∀(l:Addr) (ds:List Addr) (L:List P3) (H':Hp),H l=none->aI H H'->H' l=some (.lst (ds.map V.ref))->A2 (cP H') ds L->Run (allR cs rs) (g+64) 64 L->Q (.ref l) H'
theorem AN:aL ["self","group","to_the_well"] ["self","group"] (aD tP):=by constructor<;>first|rfl|decide +kernel
theorem Dq{f1:Addr}{fd1:qAz}(t:Mx K "least" "Net.least" tP ["self","group"] f fd)(T:T K mg AL LN RU OW PL PA VO MA NE fE fH rR rO rP rA rV rM rN iR iO iP iA iV iM iN fL wR wO wP wA wV wM wN SE NG NL NT)(D_least_net:Df P w K mg base cI 3 "least_net" ["ropes","group"] AI f1 fd1):Md P w K mg base 4 ["self","group"] (AM NE) f:=by
 refine t.pV AN (fun vs H Q E h=>?_) (fun cdv A outer s H vs Q E hr h=>?_)
 ·obtain⟨a,ll,lr,cs,rs,g,rfl,_⟩:=h;rfl
 ·obtain⟨a,ll,lr,cs,rs,g,rfl,no,hg,k⟩:=h;refine⟨_,(aE (jO (NB:=["hand","cost"]) (pick:=[none,none]) (i:=2) AN.nd rfl cF (by rfl) (cO (by with_unfolding_all rfl) (by exact trivial) rfl (by decide +kernel) (by decide +kernel) (by rfl) (by rfl)) rfl
     (yW (by rfl) T.kL (aA (bR (pv 0) rfl) aC)) (fun _ _ _=>(show PG _ _ (uP K 2 (fJ (bQ 0) (fJ (bQ 1) uO))) from jU rfl (bT (aQ (i:=0) (show(["hand","cost"]:List Str).Nodup from by decide +kernel) rfl cF) (bT (aQ (i:=1) (show(["hand","cost"]:List Str).Nodup from by decide +kernel) rfl cF) g9))))
     (fun _ _ _=>cJ) (fun _ _ _=>(e9 (aA (pv 0) (aA (pv 0) (aA (pv 1) aC))))))
   (aH (aU (bA D_least_net hr (by decide) (by rfl) (aA (aM cD (pv 2) (bR (pv 0) rfl)) (aA (pv 1) aC)))))),?_⟩
  obtain⟨dx,bs,h1,h2,h3,h4,c1,c6,pw,blen⟩:=no;refine⟨_,rfl,a,NE,dx,_,_,rfl,h1,T.rJ.oc.cl,T.HF,rfl,ll,rfl,⟨_,aT.of h2⟩,?_⟩;refine p0 (xs:=cs.map V.int) (fun σ'=>∃o0 o1:Option V,σ'=[o0,o1]) (fun i y H=>∃b,y = .ref b/\cP H b (i,i,cs.getD i 0)) (fun i y H H' st ⟨b,e,q⟩=>⟨b,e,q.keep st⟩) ⟨_,_,rfl⟩ (aT.of h2) (by rw[qAb];exact qBp (aW (by lia))) (fun i x tt σ1 H2 kk kk0 hσ s2 hx ht h1'=>?_) fun D ys H2 hD s2 hy hys hd=>?_
  ·obtain⟨o0,o1,rfl⟩:=hσ;have ex:x = .int (cs.getD i 0):=by
    rw[qAu] at hx;cases e:cs[i]? with
    | none=>rw[e] at hx;cases hx
    | some c =>
     rw[e] at hx;rw[qAt,e];exact(Option.some.inj hx).symm
   subst ex;refine⟨tt,_,rfl,dE.of ht,rfl,_,_,rfl,_,_,rfl,rfl,?_⟩;exact⟨_,rfl,_,rfl,_,rfl,GF,fun t3 ht3=>h1' _ _ _ ⟨_,_,rfl⟩ (.aJ ht3) ⟨t3,rfl,aB⟩⟩
  ·obtain⟨ws,rfl,aw⟩:=uF (S:=cP H2) (f:=fun i=>(i,i,cs.getD i 0)) hy hys;have h12:=s2 _ _ h1;have h32:=s2 _ _ h3;have wl:ws.length=cs.length:=by rw[aw.len,qAb,qCy,qAb]
   refine⟨_,rfl,_,rfl,a,NE,dx,_,_,rfl,h12,T.rJ.oc.cl,T.zE,rfl,D,lr,_,_,rfl,rfl,aT.of hd,aT.of h32,by rw[qAb,qAb];exact qBp (aW (by lia)),fun lc hlc=>?_⟩;have u3:=aI.aJ (o:=.lst (ws.map V.ref++bs.map V.ref)) hlc;have s3:=s2.trans u3;rw[qAb] at aw;refine⟨_,rfl,lc,ws++bs,allR cs rs,g,rfl,by rw[aB,qCi],A2.app (aw.imp fun _ _ z=>z.keep u3.t) (h4.imp fun _ _ z=>z.keep s3.t),oV c6 pw,xI hg,qAl hg (qCq (n:=2) (by decide) c6),by rw[qBi];lia,fun l ds L H' hl s4 e4 a4 run=>?_⟩;exact k l ds L H' (s3.free hl) (s3.trans s4) e4 a4 run
open Classical in
noncomputable def netL (rs:List P3) (g:Nat):List P3:=if h:∃L,Run rs (g+64) 64 L then Classical.choose h else []
theorem zY{rs:List P3}{g:Nat}{L:List P3}(h:Run rs (g+64) 64 L):netL rs g=L:=by
 have e:∃L,Run rs (g+64) 64 L:=⟨L,h⟩;unfold netL;rw[dif_pos e];exact(Classical.choose_spec e).uniq h
noncomputable def gainN (cs:List Int) (rs:List P3) (g:Nat):Int:=-(((netL (allR cs rs) g).map (·.2.2)).sum)
def rZ(NE:Addr):Sp:=fun vs H Q _=>∃(a ll lr:Addr) (cs:List Int) (rs:List P3) (g:Nat),vs=[.ref a,.int (g:Int)]/\nN NE H a ll lr cs rs/\g<2^cs.length/\∀H',aI H H'->Q (.int (gainN cs rs g)) H'
theorem Gp:aL ["self","group"] ["self","group"] (aD tQ):=by constructor<;>first|rfl|decide +kernel
theorem Dr{f3:Addr}{fd3:qAz}(t:Mx K "reckon" "Net.reckon" tQ ["self","group"] f fd)(T:T K mg AL LN RU OW PL PA VO MA NE fE fH rR rO rP rA rV rM rN iR iO iP iA iV iM iN fL wR wO wP wA wV wM wN SE NG NL NT)(DL:Md P w K mg base 4 ["self","group"] (AM NE) fL)(D_cost_of:Df P w K mg base cI 1 "cost_of" ["rope"] rX f3 fd3):Md P w K mg base 5 ["self","group"] (rZ NE) f:=by
 refine t.pV Gp (fun vs H Q E h=>?_) (fun cdv A outer s H vs Q E hr h=>?_)
 ·obtain⟨a,ll,lr,cs,rs,g,rfl,_⟩:=h;rfl
 ·obtain⟨a,ll,lr,cs,rs,g,rfl,no,hg,k⟩:=h;refine⟨_,(aH (aU (EB Bk (aV (hZ rfl) (by rfl) T.jE mY (aA (cT (NB:=["rope"]) (pick:=[none]) (cO (by with_unfolding_all rfl) (by exact trivial) rfl (by decide +kernel) (by decide +kernel) (by rfl) (by rfl)) rfl
     (bP (kD (k:=4) cU (pv 0) hr (by decide) (aA (pv 1) aC))) (fun _ _ _=>aQ (i:=0) (show(["rope"]:List Str).Nodup from by decide +kernel) rfl cF)
     (fun _ _ _=>cJ) (fun _ _ _=>(bA D_cost_of hr (by decide) (by rfl) (aA (pv 0) aC)))) aC))))),?_⟩
  have no':=no;obtain⟨dx,bs,h1,h2,h3,h4,c1,c6,pw,blen⟩:=no';refine⟨_,rfl,a,NE,dx,_,fL,_,rfl,h1,rfl,T.rJ.oc.cl,T.IX,⟨_,DL⟩,_,rfl,a,ll,lr,cs,rs,g,rfl,no,hg,fun l ds L H1 hl s1 e1 a1 run=>⟨l,rfl,⟨_,aT.of e1⟩,?_⟩⟩;have hg6:g<64:=qAl hg (qCq (n:=2) (by decide) c6);have Ll:L.length<=6:=by
   rw[(uE (oV c6 pw) hg6 run).2.2.1];exact p9 g 6
  refine cR (xs:=ds.map V.ref) (fun _ x=>match x with | .ref b=>some (.int (dB H1 b).2.2) | _=>none) (aT.of e1) (by rw[qAb,a1.len];exact qBp (aW (by lia))) (fun i y H7 kk kk0 s7 hy h1 h2=>?_) fun D H7 hD s7 hd=>?_
  ·obtain⟨b,hb',rfl⟩:=at_of hy;obtain⟨r,hr',pr⟩:=a1.at hb';exact⟨_,rfl,b,r,rfl,pr.keep s7.t,h1 _ (by show some (V.int (dB H1 b).2.2)=_;rw[pr.of]) _ (.refl _)⟩
  ·have ed:H7 D=some (.lst ((L.map (·.2.2)).map V.int)):=by
    rw[hd,c8,qBx,<- a1.AK,qBw,<- qDf];rfl
   refine⟨D,_,rfl,.inl (aT.of ed),_,rfl,?_⟩;have z:=k H7 (s1.trans s7);unfold gainN at z;rw[zY run] at z;exact z
theorem zZ(D:Md P w K mg base 5 ["self","group"] (rZ NE) rN)(c:RC K fE fH RU NE rN){H:Hp}{a ll lr:Addr}{cs:List Int}{rs:List P3}(h:nN NE H a ll lr cs rs):lB P w K mg base fE fH RU H a cs.length (gainN cs rs):=by
 have h':=h;obtain⟨dx,bs,h1,h2,h3,h4,c1,c6,pw,blen⟩:=h';exact⟨NE,dx,rN,_,h1,c,rfl,c1,c6,⟨rfl,rfl,rfl⟩,_,(D.up (by decide)).imp fun vs H2 Q _ ⟨gr,e,hg,s,q⟩=>⟨a,ll,lr,cs,rs,gr,e,h.same s,hg,fun H3 s3=>q H3 s3⟩⟩
def nW(i:Int):Str:=Str.ofString (toString i)
def pW(p:P3):Str:=Str.empty++nW (p.1:Int)++("-":Str)++nW (p.2.1:Int)++(":":Str)++nW p.2.2
theorem gE{n:Int}(h:n.natAbs<10^60):n.natAbs.log2<1920:=by
 by_cases z:n.natAbs=0
 ·rw[z];decide +kernel
 ·exact(Nat.log2_lt z).mpr (qKy h (by decide +kernel))
theorem dZ{i:Int}(h:i.natAbs<10^60):(nW i).length<=61:=by
 unfold nW;cases i with
 | ofNat n =>
  have h:n<10^60:=h;exact qBf (qFs (v:=(n:Int)) (qJh n) (k:=60) (by decide) (by exact_mod_cast h)) (by decide)
 | negSucc n =>
  have h:n+1<10^60:=h;have z:=qFs (v:=((n+1:Nat):Int)) (qJh _) (k:=60) (by decide) (by exact_mod_cast h);rw[qKs] at z|-;rw[show toString (Int.negSucc n)="-" ++ toString ((n+1:Nat):Int) from rfl,String.toList_append,qBi];exact qBf (qGb (show("-":String).toList.length<=1 by decide) z) (by decide)
theorem qK{p:P3}(h1:p.1<6)(h2:p.2.1<6)(h:p.2.2.natAbs<10^60):(pW p).length<=185:=by
 unfold pW;rw[Str.length_append,Str.length_append,Str.length_append,Str.length_append,Str.length_append];have a:=dZ (i:=(p.1:Int)) (qAl (show _<6 from h1) (by decide +kernel));have b:=dZ (i:=(p.2.1:Int)) (qAl (show _<6 from h2) (by decide +kernel));have c:=dZ h;have e0:Str.empty.length=0:=rfl;have e1:("-":Str).length=1:=rfl;have e2:(":":Str).length=1:=rfl;lia
def oW:Sp:=fun vs H Q _=>∃(p:Addr) (ns:List Int),vs=[.ref p]/\H p=some (.lst (ns.map V.int))/\ns.length<=64/\(∀n∈ns,n.natAbs<10^60)/\∀(D:Addr) (H':Hp),H D=none->aI H H'->H' D=some (.lst ((ns.map nW).map V.str))->Q (.ref D) H'
theorem Gq:aL ["numbers"] ["numbers"] (aD Ce):=by constructor<;>first|rfl|decide +kernel
theorem Ds(t:Tx K mg "number_words" Ce ["numbers"] f fd)(T:T K mg AL LN RU OW PL PA VO MA NE fE fH rR rO rP rA rV rM rN iR iO iP iA iV iM iN fL wR wO wP wA wV wM wN SE NG NL NT):Df P w K mg base cI 1 "number_words" ["numbers"] oW f fd:=by
 refine t.lR Gq (fun vs H Q E h=>?_) (fun cdv A outer s H vs Q E hr h=>?_)
 ·obtain⟨p,ns,rfl,_⟩:=h;rfl
 ·obtain⟨p,ns,rfl,hp,h64,hn,k⟩:=h;refine⟨_,(aH (aU (cT (NB:=["number"]) (pick:=[none]) (cO (by with_unfolding_all rfl) (by exact trivial) rfl (by decide +kernel) (by decide +kernel) (by rfl) (by rfl)) rfl
     (bP (pv 0)) (fun _ _ _=>aQ (i:=0) (show(["number"]:List Str).Nodup from by decide +kernel) rfl cF)
     (fun _ _ _=>cJ) (fun _ _ _=>(bJ cZ (by rfl) T.gP iS (aA (pv 0) aC)))))),?_⟩
  refine⟨_,rfl,p,rfl,⟨_,aT.of hp⟩,?_⟩;refine cR (xs:=ns.map V.int) (fun _ x=>match x with | .int i=>some (.str (nW i)) | _=>none) (aT.of hp) (by rw[qAb];exact qBp (aW (by lia))) (fun i x H2 kk kk0 s2 hx g1 g2=>?_) fun D H2 hD s2 hd=>?_
  ·obtain⟨n,hm,rfl⟩:=List.mem_map.mp (qAy hx);exact⟨_,rfl,n,rfl,gE (hn n hm),g1 _ rfl _ (.refl _)⟩
  ·refine k D H2 hD s2 ?_;rw[hd,c8,qBx,qBw];show some (HO.lst (ns.filterMap fun i=>some (V.str (nW i))))=_;rw[qFn];rfl
def r8:Sp:=fun vs H Q _=>∃(p:Addr) (bs:List Addr) (ps:List P3),vs=[.ref p]/\H p=some (.lst (bs.map V.ref))/\A2 (cP H) bs ps/\ps.length<=64/\(∀q∈ps,q.1<6/\q.2.1<6/\q.2.2.natAbs<10^60)/\∀(D:Addr) (H':Hp),H D=none->aI H H'->H' D=some (.lst ((ps.map pW).map V.str))->Q (.ref D) H'
theorem A2.Dt{R:Addr->P3->Prop}{bs:List Addr}{ps:List P3}(h:A2 R bs ps):∀(i:Nat) (b:Addr),bs[i]?=some b->∃p,ps[i]?=some p/\R b p:=by
 induction h with
 | nil=>intro i b e;cases e
 | cons r _ ih =>
  intro i b e;cases i with
  | zero=>cases e;exact⟨_,rfl,r⟩
  | succ i=>exact ih i b e
theorem Gr:aL ["pairs"] ["pairs"] (aD Cf):=by constructor<;>first|rfl|decide +kernel
theorem Du(t:Tx K mg "pair_words" Cf ["pairs"] f fd)(T:T K mg AL LN RU OW PL PA VO MA NE fE fH rR rO rP rA rV rM rN iR iO iP iA iV iM iN fL wR wO wP wA wV wM wN SE NG NL NT):Df P w K mg base cI 1 "pair_words" ["pairs"] r8 f fd:=by
 refine t.lR Gr (fun vs H Q E h=>?_) (fun cdv A outer s H vs Q E hr h=>?_)
 ·obtain⟨p,bs,ps,rfl,_⟩:=h;rfl
 ·obtain⟨p,bs,ps,rfl,hp,a2,h64,hn,k⟩:=h;refine⟨_,(aH (aU (cT (NB:=["one","other","number"]) (pick:=[none,none,none]) (cO (by with_unfolding_all rfl) (by exact trivial) rfl (by decide +kernel) (by decide +kernel) (by rfl) (by rfl)) rfl
     (bP (pv 0)) (fun _ _ _=>(show PG _ _ (uP K 3 (fJ (bQ 0) (fJ (bQ 1) (fJ (bQ 2) uO)))) from jU rfl (bT (aQ (i:=0) (show(["one","other","number"]:List Str).Nodup from by decide +kernel) rfl cF) (bT (aQ (i:=1) (show(["one","other","number"]:List Str).Nodup from by decide +kernel) rfl cF) (bT (aQ (i:=2) (show(["one","other","number"]:List Str).Nodup from by decide +kernel) rfl cF) g9)))))
     (fun _ _ _=>cJ) (fun _ _ _=>(Fj (iF (wB (pv 0)) (iF a8 (iF (wB (pv 1)) (iF a8 (iF (wB (pv 2)) BR)))))))))),?_⟩
  refine⟨_,rfl,p,rfl,⟨_,aT.of hp⟩,?_⟩;refine lW (xs:=bs.map V.ref) (fun σ'=>∃o0 o1 o2:Option V,σ'=[o0,o1,o2]) (fun i _=>(ps[i]?).map fun q=>V.str (pW q)) ⟨_,_,_,rfl⟩ (aT.of hp) (by rw[qAb,a2.len];exact qBp (aW (by lia))) (fun i x σ1 H2 kk kk0 hσ s2 hx g1 g2=>?_) fun D H2 hD s2 hd=>?_
  ·obtain⟨o0,o1,o2,rfl⟩:=hσ;rw[qAu] at hx;cases e:bs[i]? with
   | none=>rw[e] at hx;cases hx
   | some b =>
    rw[e] at hx;cases hx;obtain⟨q,hq,r⟩:=a2.Dt i b e;obtain⟨q1,q2,q3⟩:=hn q (qAy hq);have l1:=dZ (i:=(q.1:Int)) (qAl (show _<6 from q1) (by decide +kernel));have l2:=dZ (i:=(q.2.1:Int)) (qAl (show _<6 from q2) (by decide +kernel));have l3:=dZ q3;have pl:=qK q1 q2 q3;have e0:Str.empty.length=0:=rfl;have e1:("-":Str).length=1:=rfl;have e2:(":":Str).length=1:=rfl;have sl:1000<=qAj:=by decide
    refine⟨b,_,rfl,dE.of (s2 _ _ r),rfl,_,_,rfl,_,_,rfl,_,_,rfl,rfl,?_⟩;have z1:=gE (n:=(q.1:Int)) (qAl (show _<6 from q1) (by decide +kernel));have z2:=gE (n:=(q.2.1:Int)) (qAl (show _<6 from q2) (by decide +kernel));refine⟨_,rfl,(q.1:Int),rfl,z1,nW q.1,rfl,(by rw[Str.length_append];lia),_,rfl,(by rw[Str.length_append,Str.length_append];lia),_,rfl,(q.2.1:Int),rfl,z2,nW q.2.1,rfl,(by rw[Str.length_append,Str.length_append,Str.length_append];lia),_,rfl,(by rw[Str.length_append,Str.length_append,Str.length_append,Str.length_append];lia),_,rfl,q.2.2,rfl,gE q3,nW q.2.2,rfl,?_,?_,g1 _ _ ⟨_,_,_,rfl⟩ (by show(ps[i]?).map _=_;rw[hq];rfl) _ (.refl _)⟩
    ·show(pW q).length<=_;lia
    ·show(pW q).length<=_;lia
  ·refine k D H2 hD s2 ?_;rw[hd];have e:(qAq (bs.map V.ref).length).filterMap (fun i=>((bs.map V.ref)[i]?).bind fun _=>(ps[i]?).map fun q=>V.str (pW q))=(qAq ps.length).filterMap fun i=>(ps[i]?).bind fun q=>some (V.str (pW q)):=by
    rw[qAb,a2.len];refine kH fun i hi=>?_;have hi':i<bs.length:=by rw[a2.len];exact List.mem_range.mp hi
    rw[qAu,qAf hi'];cases ps[i]? <;> rfl
   rw[e,c8,qFn,qBw];rfl
def eB(h:Str)(ss:List Str):Str:=Txt.join (" ":Str) (h::ss)
theorem r9{B:Nat}:∀{ss:List Str},(∀s∈ss,s.length<=B)->(ss.map (·.length)).sum<=B*ss.length
 | [],_=>by simp
 | s::ss,h=>by
  have a:=h s qEa;have b:=r9 fun t ht=>h t (qBa _ ht);rw[qBk,qKb,qBu,Nat.mul_succ];lia
theorem gJ{h:Str}{ss:List Str}(h0:h.length<=185)(hl:ss.length<=200)(hs:∀s∈ss,s.length<=185):(((h::ss).map (·.length)).sum+(h::ss).length*(" ":Str).length<=16777216):=by
 have a:=r9 hs;have e:(" ":Str).length=1:=rfl;rw[qBk,qKb,qBu,e,Nat.mul_one];have:=Nat.mul_le_mul_left 185 hl;lia
theorem eO{a b:Nat}(h1:a<=8)(h2:b<=128):a+b<=qAj:=qBf (qGb h1 h2) (by decide)
theorem uG{a b:Nat}(h1:a<=64)(h2:b<=64):1+a+b<=qAj:=qBf (qGb (qGb (qAk 1) h1) h2) (by decide)
def z5:Sp:=fun vs H Q _=>∃a:Addr,vs=[.ref a]/\Q (.str ("none":Str)) H
theorem Ih:aL ["self"] ["self"] (aD DT):=by constructor<;>first|rfl|decide +kernel
theorem Gs(t:Mx K "words" "Rule.words" DT ["self"] f fd):Md P w K mg base 1 ["self"] z5 f:=by
 refine t.pV Ih (fun vs H Q E h=>?_) (fun cdv A outer s H vs Q E hr h=>?_)
 ·obtain⟨a,rfl,_⟩:=h;rfl
 ·obtain⟨a,rfl,k⟩:=h;exact⟨_,(aH (aU a8)),k⟩
def sA(OW:Addr):Sp:=fun vs H Q _=>∃(a dx l:Addr) (m:V) (ns:List Int),vs=[.ref a]/\H a=some (.ins OW dx [("many",m),("numbers",.ref l)])/\H l=some (.lst (ns.map V.int))/\ns.length<=64/\(∀n∈ns,n.natAbs<10^60)/\∀H',aI H H'->Q (.str (eB ("own":Str) (ns.map nW))) H'
theorem Gu:aL ["self"] ["self"] (aD tK):=by constructor<;>first|rfl|decide +kernel
theorem Dv{f1:Addr}{fd1:qAz}(t:Mx K "words" "Own.words" tK ["self"] f fd)(T:T K mg AL LN RU OW PL PA VO MA NE fE fH rR rO rP rA rV rM rN iR iO iP iA iV iM iN fL wR wO wP wA wV wM wN SE NG NL NT)(D_number_words:Df P w K mg base cI 1 "number_words" ["numbers"] oW f1 fd1):Md P w K mg base 2 ["self"] (sA OW) f:=by
 refine t.pV Gu (fun vs H Q E h=>?_) (fun cdv A outer s H vs Q E hr h=>?_)
 ·obtain⟨a,dx,l,m,ns,rfl,_⟩:=h;rfl
 ·obtain⟨a,dx,l,m,ns,rfl,ha,hl,h64,hn,k⟩:=h;refine⟨_,(aH (aU (fQ qCx qDb qDa eX a8 (aA (aM cD (bK (aA a8 aC)) (bA D_number_words hr (by decide) (by rfl) (aA (bR (pv 0) rfl) aC))) aC)))),?_⟩;refine⟨rfl,qO,fun l0 hl0=>?_⟩;have u0:=aI.aJ (o:=.lst [V.str ("own":Str)]) hl0;refine⟨_,rfl,a,OW,dx,_,_,rfl,u0 _ _ ha,T.Cv.oc.cl,T.HA,rfl,l,ns,rfl,u0 _ _ hl,h64,hn,fun D H1 hD s1 h1=>?_⟩;have hb:∀s∈ns.map nW,s.length<=185:=fun s hs=>by
   obtain⟨n,hm,rfl⟩:=List.mem_map.mp hs;exact qBf (dZ (hn n hm)) (by decide)
  refine⟨l0,D,_,_,rfl,rfl,aT.of (s1 _ _ aB),aT.of h1,(by rw[qAb,qAb];exact eO (by decide) (qBf h64 (by decide))),fun p hp=>?_⟩;refine⟨_,p,("own":Str)::ns.map nW,rfl,rfl,aT.of aB,gJ (by decide) (by rw[qAb];lia) hb,k _ (u0.trans (s1.trans (.aJ hp)))⟩
theorem qL{ns:List Int}(hn:∀n∈ns,n.natAbs<10^60):∀s∈ns.map nW,s.length<=185:=fun s hs=>by
 obtain⟨n,hm,rfl⟩:=List.mem_map.mp hs;exact qBf (dZ (hn n hm)) (by decide)
theorem qM{ps:List P3}(hn:∀q∈ps,q.1<6/\q.2.1<6/\q.2.2.natAbs<10^60):∀s∈ps.map pW,s.length<=185:=fun s hs=>by
 obtain⟨p,hm,rfl⟩:=List.mem_map.mp hs;obtain⟨a,b,c⟩:=hn p hm;exact qK a b c
def z6(VO:Addr):Sp:=fun vs H Q _=>∃(a dx l:Addr) (m:V) (q z:Int) (ns:List Int),vs=[.ref a]/\H a=some (.ins VO dx [("many",m),("quota",.int q),("prize",.int z),("weights",.ref l)])/\H l=some (.lst (ns.map V.int))/\ns.length<=62/\(∀n∈q::z::ns,n.natAbs<10^60)/\∀H',aI H H'->Q (.str (eB ("votes":Str) ((q::z::ns).map nW))) H'
theorem Ii:aL ["self"] ["self"] (aD Ea):=by constructor<;>first|rfl|decide +kernel
theorem Gv{f1:Addr}{fd1:qAz}(t:Mx K "words" "Votes.words" Ea ["self"] f fd)(T:T K mg AL LN RU OW PL PA VO MA NE fE fH rR rO rP rA rV rM rN iR iO iP iA iV iM iN fL wR wO wP wA wV wM wN SE NG NL NT)(D_number_words:Df P w K mg base cI 1 "number_words" ["numbers"] oW f1 fd1):Md P w K mg base 2 ["self"] (z6 VO) f:=by
 refine t.pV Ii (fun vs H Q E h=>?_) (fun cdv A outer s H vs Q E hr h=>?_)
 ·obtain⟨a,dx,l,m,q,z,ns,rfl,_⟩:=h;rfl
 ·obtain⟨a,dx,l,m,q,z,ns,rfl,ha,hl,h64,hn,k⟩:=h;refine⟨_,(aH (aU (fQ qCx qDb qDa eX a8 (aA (aM cD (bK (aA a8 aC)) (bA D_number_words hr (by decide) (by rfl) (aA (aM cD (bK (aA (bR (pv 0) rfl) (aA (bR (pv 0) rfl) aC))) (bR (pv 0) rfl)) aC))) aC)))),?_⟩;refine⟨rfl,qO,fun l0 hl0=>?_⟩;have u0:=aI.aJ (o:=.lst [V.str ("votes":Str)]) hl0;refine⟨_,rfl,a,VO,dx,_,_,rfl,u0 _ _ ha,T.tR.oc.cl,T.HD,rfl,_,rfl,a,VO,dx,_,_,rfl,u0 _ _ ha,T.tR.oc.cl,T.Cz,rfl,Ak,fun l1 hl1=>?_⟩;have u1:=u0.trans (aI.aJ (o:=.lst [V.int q,V.int z]) hl1);refine⟨_,rfl,a,VO,dx,_,_,rfl,u1 _ _ ha,T.tR.oc.cl,T.CA,rfl,l1,l,_,_,rfl,rfl,aT.of aB,aT.of (u1 _ _ hl),(by rw[qAb];exact eO (by show 2<=8;decide) (by lia)),fun l2 hl2=>?_⟩;have u2:=(aI.aJ (o:=.lst [V.int q,V.int z]) hl1).trans (aI.aJ (o:=.lst ([V.int q,V.int z]++ns.map V.int)) hl2);refine⟨l2,q::z::ns,rfl,aB,(by show ns.length+1+1<=64;lia),hn,fun D H1 hD s1 h1=>?_⟩;refine⟨l0,D,_,_,rfl,rfl,aT.of (s1 _ _ (u2 _ _ aB)),aT.of h1,(by rw[qAb,qAb];exact eO (by decide) (by show ns.length+1+1<=128;lia)),fun p hp=>?_⟩;refine⟨_,p,("votes":Str)::(q::z::ns).map nW,rfl,rfl,aT.of aB,gJ (by decide) (by rw[qAb];show ns.length+1+1<=200;lia) (qL hn),k _ (u0.trans (u2.trans (s1.trans (.aJ hp))))⟩
def sC(PL:Addr):Sp:=fun vs H Q _=>∃(a dx l:Addr) (m:V) (e:Int) (ns:List Int),vs=[.ref a]/\H a=some (.ins PL dx [("many",m),("earnings",.ref l)])/\H l=some (.lst ((e::ns).map V.int))/\ns.length<=64/\(∀n∈ns,n.natAbs<10^60)/\∀H',aI H H'->Q (.str (eB ("table":Str) (ns.map nW))) H'
theorem Gw:aL ["self"] ["self"] (aD tL):=by constructor<;>first|rfl|decide +kernel
theorem Dw{f1:Addr}{fd1:qAz}(t:Mx K "words" "Plain.words" tL ["self"] f fd)(T:T K mg AL LN RU OW PL PA VO MA NE fE fH rR rO rP rA rV rM rN iR iO iP iA iV iM iN fL wR wO wP wA wV wM wN SE NG NL NT)(D_number_words:Df P w K mg base cI 1 "number_words" ["numbers"] oW f1 fd1):Md P w K mg base 2 ["self"] (sC PL) f:=by
 refine t.pV Gw (fun vs H Q E h=>?_) (fun cdv A outer s H vs Q E hr h=>?_)
 ·obtain⟨a,dx,l,m,e,ns,rfl,_⟩:=h;rfl
 ·obtain⟨a,dx,l,m,e,ns,rfl,ha,hl,h64,hn,k⟩:=h;refine⟨_,(aH (aU (fQ qCx qDb qDa eX a8 (aA (aM cD (bK (aA a8 aC)) (bA D_number_words hr (by decide) (by rfl) (aA (eK hV (bR (pv 0) rfl) (fD aG) fB) aC))) aC)))),?_⟩;refine⟨rfl,qO,fun l0 hl0=>?_⟩;have u0:=aI.aJ (o:=.lst [V.str ("table":Str)]) hl0;refine⟨_,rfl,a,PL,dx,_,_,rfl,u0 _ _ ha,T.Cw.oc.cl,T.HB,rfl,1,rfl,l,_,rfl,aT.of (u0 _ _ hl),fun l2 hl2=>?_⟩;have ec:eA ((e::ns).map V.int) (some 1) none=ns.map V.int:=by
   have z:=nE ((e::ns).map V.int) 1;exact z
  rw[ec];have u2:=aI.aJ (o:=.lst (ns.map V.int)) hl2;refine⟨l2,ns,rfl,aB,h64,hn,fun D H1 hD s1 h1=>?_⟩;refine⟨l0,D,_,_,rfl,rfl,aT.of (s1 _ _ (u2 _ _ aB)),aT.of h1,(by rw[qAb,qAb];exact eO (by decide) (qBf h64 (by decide))),fun p hp=>?_⟩;refine⟨_,p,("table":Str)::ns.map nW,rfl,rfl,aT.of aB,gJ (by decide) (by rw[qAb];lia) (qL hn),k _ (u0.trans (u2.trans (s1.trans (.aJ hp))))⟩
def sD(PA:Addr):Sp:=fun vs H Q _=>∃(a dx l:Addr) (m:V) (bs:List Addr) (ps:List P3),vs=[.ref a]/\H a=some (.ins PA dx [("many",m),("pairs",.ref l)])/\H l=some (.lst (bs.map V.ref))/\A2 (cP H) bs ps/\ps.length<=64/\(∀q∈ps,q.1<6/\q.2.1<6/\q.2.2.natAbs<10^60)/\∀H',aI H H'->Q (.str (eB ("pairs":Str) (ps.map pW))) H'
theorem Gx:aL ["self"] ["self"] (aD tO):=by constructor<;>first|rfl|decide +kernel
theorem Dx{f1:Addr}{fd1:qAz}(t:Mx K "words" "Pairs.words" tO ["self"] f fd)(T:T K mg AL LN RU OW PL PA VO MA NE fE fH rR rO rP rA rV rM rN iR iO iP iA iV iM iN fL wR wO wP wA wV wM wN SE NG NL NT)(D_pair_words:Df P w K mg base cI 1 "pair_words" ["pairs"] r8 f1 fd1):Md P w K mg base 2 ["self"] (sD PA) f:=by
 refine t.pV Gx (fun vs H Q E h=>?_) (fun cdv A outer s H vs Q E hr h=>?_)
 ·obtain⟨a,dx,l,m,bs,ps,rfl,_⟩:=h;rfl
 ·obtain⟨a,dx,l,m,bs,ps,rfl,ha,hl,a2,h64,hn,k⟩:=h;refine⟨_,(aH (aU (fQ qCx qDb qDa eX a8 (aA (aM cD (bK (aA a8 aC)) (bA D_pair_words hr (by decide) (by rfl) (aA (bR (pv 0) rfl) aC))) aC)))),?_⟩;refine⟨rfl,qO,fun l0 hl0=>?_⟩;have u0:=aI.aJ (o:=.lst [V.str ("pairs":Str)]) hl0;refine⟨_,rfl,a,PA,dx,_,_,rfl,u0 _ _ ha,T.Cy.oc.cl,T.HC,rfl,l,bs,ps,rfl,u0 _ _ hl,a2.imp fun _ _ z=>z.keep u0.t,h64,hn,fun D H1 hD s1 h1=>?_⟩;refine⟨l0,D,_,_,rfl,rfl,aT.of (s1 _ _ aB),aT.of h1,(by rw[qAb,qAb];exact eO (by decide) (qBf h64 (by decide))),fun p hp=>?_⟩;refine⟨_,p,("pairs":Str)::ps.map pW,rfl,rfl,aT.of aB,gJ (by decide) (by rw[qAb];lia) (qM hn),k _ (u0.trans (s1.trans (.aJ hp)))⟩
def z7(MA:Addr):Sp:=fun vs H Q _=>∃(a dx l lb:Addr) (m:V) (bs:List Addr) (ps:List P3),vs=[.ref a]/\H a=some (.ins MA dx [("many",m),("pairs",.ref l),("best",.ref lb)])/\H l=some (.lst (bs.map V.ref))/\A2 (cP H) bs ps/\ps.length<=64/\(∀q∈ps,q.1<6/\q.2.1<6/\q.2.2.natAbs<10^60)/\∀H',aI H H'->Q (.str (eB ("match":Str) (ps.map pW))) H'
theorem Ij:aL ["self"] ["self"] (aD Ed):=by constructor<;>first|rfl|decide +kernel
theorem Gy{f1:Addr}{fd1:qAz}(t:Mx K "words" "Match.words" Ed ["self"] f fd)(T:T K mg AL LN RU OW PL PA VO MA NE fE fH rR rO rP rA rV rM rN iR iO iP iA iV iM iN fL wR wO wP wA wV wM wN SE NG NL NT)(D_pair_words:Df P w K mg base cI 1 "pair_words" ["pairs"] r8 f1 fd1):Md P w K mg base 2 ["self"] (z7 MA) f:=by
 refine t.pV Ij (fun vs H Q E h=>?_) (fun cdv A outer s H vs Q E hr h=>?_)
 ·obtain⟨a,dx,l,lb,m,bs,ps,rfl,_⟩:=h;rfl
 ·obtain⟨a,dx,l,lb,m,bs,ps,rfl,ha,hl,a2,h64,hn,k⟩:=h;refine⟨_,(aH (aU (fQ qCx qDb qDa eX a8 (aA (aM cD (bK (aA a8 aC)) (bA D_pair_words hr (by decide) (by rfl) (aA (bR (pv 0) rfl) aC))) aC)))),?_⟩;refine⟨rfl,qO,fun l0 hl0=>?_⟩;have u0:=aI.aJ (o:=.lst [V.str ("match":Str)]) hl0;refine⟨_,rfl,a,MA,dx,_,_,rfl,u0 _ _ ha,T.zD.oc.cl,T.HE,rfl,l,bs,ps,rfl,u0 _ _ hl,a2.imp fun _ _ z=>z.keep u0.t,h64,hn,fun D H1 hD s1 h1=>?_⟩;refine⟨l0,D,_,_,rfl,rfl,aT.of (s1 _ _ aB),aT.of h1,(by rw[qAb,qAb];exact eO (by decide) (qBf h64 (by decide))),fun p hp=>?_⟩;refine⟨_,p,("match":Str)::ps.map pW,rfl,rfl,aT.of aB,gJ (by decide) (by rw[qAb];lia) (qM hn),k _ (u0.trans (s1.trans (.aJ hp)))⟩
def z8(NE:Addr):Sp:=fun vs H Q _=>∃(a dx l lr:Addr) (m:V) (cs:List Int) (bs:List Addr) (ps:List P3),vs=[.ref a]/\H a=some (.ins NE dx [("many",m),("costs",.ref l),("ropes",.ref lr)])/\H l=some (.lst (cs.map V.int))/\H lr=some (.lst (bs.map V.ref))/\A2 (cP H) bs ps/\ps.length<=64/\cs.length<=64/\(∀n∈cs,n.natAbs<10^60)/\(∀q∈ps,q.1<6/\q.2.1<6/\q.2.2.natAbs<10^60)/\∀H',aI H H'->Q (.str (eB ("net":Str) (cs.map nW++ps.map pW))) H'
theorem Ik:aL ["self"] ["self"] (aD Ef):=by constructor<;>first|rfl|decide +kernel
theorem Gz{f1 f2:Addr}{fd1 fd2:qAz}(t:Mx K "words" "Net.words" Ef ["self"] f fd)(T:T K mg AL LN RU OW PL PA VO MA NE fE fH rR rO rP rA rV rM rN iR iO iP iA iV iM iN fL wR wO wP wA wV wM wN SE NG NL NT)(D_number_words:Df P w K mg base cI 1 "number_words" ["numbers"] oW f1 fd1)(D_pair_words:Df P w K mg base cI 1 "pair_words" ["pairs"] r8 f2 fd2):Md P w K mg base 2 ["self"] (z8 NE) f:=by
 refine t.pV Ik (fun vs H Q E h=>?_) (fun cdv A outer s H vs Q E hr h=>?_)
 ·obtain⟨a,dx,l,lr,m,cs,bs,ps,rfl,_⟩:=h;rfl
 ·obtain⟨a,dx,l,lr,m,cs,bs,ps,rfl,ha,hl,hlr,a2,h64,c64,hc,hn,k⟩:=h;refine⟨_,(aH (aU (fQ qCx qDb qDa eX a8 (aA (aM cD (aM cD (bK (aA a8 aC)) (bA D_number_words hr (by decide) (by rfl) (aA (bR (pv 0) rfl) aC))) (bA D_pair_words hr (by decide) (by rfl) (aA (bR (pv 0) rfl) aC))) aC)))),?_⟩;refine⟨rfl,qO,fun l0 hl0=>?_⟩;have u0:=aI.aJ (o:=.lst [V.str ("net":Str)]) hl0;refine⟨_,rfl,a,NE,dx,_,_,rfl,u0 _ _ ha,T.rJ.oc.cl,T.HF,rfl,l,cs,rfl,u0 _ _ hl,c64,hc,fun D H1 hD s1 h1=>?_⟩;have u1:=u0.trans s1;refine⟨l0,D,_,_,rfl,rfl,aT.of (s1 _ _ aB),aT.of h1,(by rw[qAb,qAb];exact eO (by decide) (qBf c64 (by decide))),fun l2 hl2=>?_⟩;have u2:=u1.trans (aI.aJ (o:=.lst ([V.str ("net":Str)]++(cs.map nW).map V.str)) hl2);refine⟨_,rfl,a,NE,dx,_,_,rfl,u2 _ _ ha,T.rJ.oc.cl,T.zE,rfl,lr,bs,ps,rfl,u2 _ _ hlr,a2.imp fun _ _ z=>z.keep u2.t,h64,hn,fun D3 H3 hD3 s3 h3=>?_⟩;refine⟨l2,D3,_,_,rfl,rfl,aT.of (s3 _ _ aB),aT.of h3,(by rw[qBi,qAb,qAb,qAb,qAb];exact uG c64 h64),fun p hp=>?_⟩;refine⟨_,p,("net":Str)::(cs.map nW++ps.map pW),rfl,rfl,aT.of (by rw[aB,qBk,qCi];rfl),gJ (by decide) (by rw[qBi,qAb,qAb];lia) (fun s hs=>?_),k _ (u2.trans (s3.trans (.aJ hp)))⟩;rcases List.mem_append.mp hs with h | h
  ·exact qL hc s h
  ·exact qM hn s h
def AO(K:qAa):Sp:=fun vs H Q _=>∃(a:Addr) (ns:List Int),vs=[.ref a,.int 0]/\aT K H a (ns.map V.int)/\∀c:Int,Q (.int c) H
theorem GA:aL ["_law_script","_law_k"] ["_law_script","_law_k"] (aD Co):=by constructor<;>first|rfl|decide +kernel
theorem Dy(t:Tx K mg "_law_cell" Co ["_law_script","_law_k"] f fd)(T:T K mg AL LN RU OW PL PA VO MA NE fE fH rR rO rP rA rV rM rN iR iO iP iA iV iM iN fL wR wO wP wA wV wM wN SE NG NL NT):Df P w K mg base cI 1 "_law_cell" ["_law_script","_law_k"] (AO K) f fd:=by
 refine t.lR GA (fun vs H Q E h=>?_) (fun cdv A outer s H vs Q E hr h=>?_)
 ·obtain⟨a,ns,rfl,_⟩:=h;rfl
 ·obtain⟨a,ns,rfl,hq,k⟩:=h;refine⟨_,(aE (dG (cA nZ (pv 1) (aV a9 (by rfl) T.dW dP (aA (pv 0) aC)) (bZ _)) (aH (aU (aZ bE (pv 0) (pv 1) (fun _ _=>rfl)))) bO)
   (aH (aU aG))),?_⟩
  refine⟨_,rfl,_,rfl,a,_,rfl,.inl hq,_,_,rfl,rfl,_,rfl,fR (fun h=>?_) (fun _=>k 0)⟩;have hpos:0<ns.length:=by
   have z:=of_decide_eq_true h;rw[qAb] at z;lia
  have hat:jN (ns.map V.int) 0=some (.int (ns.getD 0 0)):=bU (j:=0) (by rw[qAu,qAt,qAf hpos];rfl);exact⟨_,rfl,_,rfl,a,_,_,_,rfl,rfl,hq,hat,k _⟩
def xJ(K:qAa):Sp:=fun vs H Q _=>∃(a:Addr) (ns:List Int) (m:Nat) (far by_:Int),vs=[.ref a,.int (m:Int),.int far,.int by_]/\aT K H a (ns.map V.int)/\ns.length<=63/\1<=m/\m<=63/\0<far/\0<=by_/\by_<=11 /\
 ∀(l:Addr) (rs:List Int) (H':Hp),rs.length=m->(∀r∈rs,-far<=r/\r<=far)->H l=none->aI H H'->H' l=some (.lst (rs.map V.int))->Q (.ref l) H'
theorem oX:aL ["_law_script","_law_many","_law_far","_law_by","_law_great","_law_row_here","_law_k","_law_at"] ["_law_script","_law_many","_law_far","_law_by"] (aD Cp):=by constructor<;>first|rfl|decide +kernel
theorem Dz(t:Tx K mg "_law_row" Cp ["_law_script","_law_many","_law_far","_law_by"] f fd)(T:T K mg AL LN RU OW PL PA VO MA NE fE fH rR rO rP rA rV rM rN iR iO iP iA iV iM iN fL wR wO wP wA wV wM wN SE NG NL NT):Df P w K mg base cI 1 "_law_row" ["_law_script","_law_many","_law_far","_law_by"] (xJ K) f fd:=by
 refine t.lR oX (fun vs H Q E h=>?_) (fun cdv A outer s H vs Q E hr h=>?_)
 ·obtain⟨a,ns,m,far,by_,rfl,_⟩:=h;rfl
 ·obtain⟨a,ns,m,far,by_,rfl,hq,hns,m1,m63,hfar,b0,b5,k⟩:=h;refine⟨_,(aE (aX (i:=4) oX.nd rfl (by first|exact .inl rfl|exact .inr rfl) (aM cN (aM cN (aM dO aG (aM jW aG aG)) (aM dO aG (aM jW aG aG))) aG))
   (aE (jO (NB:=["_law_k","_law_by","_law_far","_law_great"]) (pick:=[none,some 3,some 2,some 4]) (i:=5) oX.nd rfl (by first|exact .inl rfl|exact .inr rfl) (by rfl) (cO (by with_unfolding_all rfl) (by exact(And.intro rfl (And.intro rfl (And.intro rfl trivial)))) rfl (by decide +kernel) (by decide +kernel) (by rfl) (by rfl)) rfl
     (cW (by rfl) T.cK (aA (pv 1) aC)) (fun _ _ _=>aQ (i:=0) (show(["_law_k","_law_by","_law_far","_law_great"]:List Str).Nodup from by decide +kernel) rfl cF)
     (fun _ _ _=>cJ) (fun _ _ _=>(aM dY (aM dO (aM cN (aM dO (pv 0) (pv 0)) (pv 1)) (pv 3)) (aM cN (aM dO aG (pv 2)) aG))))
   (aE (dM PassesOwn.never rfl (cW (by rfl) T.cK (aA (aV a9 (by rfl) T.dW dP (aA (pv 0) aC)) aC)) (aQ (i:=6) oX.nd rfl (by first|exact .inl rfl|exact .inr rfl))
    (aE (aX (i:=7) oX.nd rfl cF (aM e8 (aM e8 (pv 1) aG) (aM dY (pv 6) (pv 1))))
    (aH (Bg (aM dY (aM cN (aM dO (aZ bE (pv 5) (pv 7) (fun _ _=>rfl)) aG) (aM dO (aZ bE (pv 0) (pv 6) (fun _ _=>rfl)) (pv 3))) (aM cN (aM dO aG (pv 2)) aG)) (Bf (pv 5) (pv 7) set_list)))))
   (aH (aU (cT (NB:=["_law_number","_law_far"]) (pick:=[none,some 2]) (cO (by with_unfolding_all rfl) (by exact(And.intro rfl trivial)) rfl (by decide +kernel) (by decide +kernel) (by rfl) (by rfl)) rfl
     (bP (pv 5)) (fun _ _ _=>aQ (i:=0) (show(["_law_number","_law_far"]:List Str).Nodup from by decide +kernel) rfl cF)
     (fun _ _ _=>cJ) (fun _ _ _=>(aM e8 (pv 0) (pv 1))))))))),?_⟩
  refine⟨_,_,rfl,rfl,⟨by decide,by decide,by decide⟩,_,_,rfl,rfl,.inl ⟨by decide,by decide⟩,_,_,rfl,rfl,⟨by decide,by decide,by decide⟩,_,_,rfl,rfl,.inl ⟨by decide,by decide⟩,_,_,rfl,rfl,_,_,rfl,rfl,?_⟩;obtain⟨gr,hgr⟩:∃gr:Int,8731*(10:Int)^(55:Int).toNat+69621*(10:Int)^(30:Int).toNat+982451653=gr:=⟨_,rfl⟩;show bQ 4 (V.int (8731*(10:Int)^(55:Int).toNat+69621*(10:Int)^(30:Int).toNat+982451653)) _ _ _;rw[hgr];refine⟨_,rfl,(m:Int),rfl,by lia,by lia,?_⟩;refine oE (n:=m) (fun i=>some (.int ((((0+(i:Int))*(0+(i:Int))+by_)*gr)%(2*far+1)))) (qBp (aW (by lia))) (fun i H2 kk kk0 hi h1 h2=>?_) fun l hl=>?_
  ·have hk:(0+(i:Int))*(0+(i:Int))<=63*63:=qKg (by lia) (by lia) (by lia) (by lia);have hk0:0<=(0+(i:Int))*(0+(i:Int)):=qKf (by lia) (by lia);refine⟨_,rfl,_,rfl,_,_,rfl,rfl,.inl ⟨by lia,by lia⟩,_,rfl,_,_,rfl,rfl,_,rfl,_,_,rfl,rfl,.inl ⟨by lia,by lia⟩,_,rfl,_,_,rfl,rfl,.inl ⟨by decide,by decide⟩,_,_,rfl,rfl,_,_,rfl,rfl,(by show 0<2*far+1;lia),?_⟩;exact h1 _ rfl
  ·have er:∃r0:List Int,r0.length=m/\(∀r∈r0,0<=r/\r<2*far+1)/\(qAq m).filterMap (fun(i:Nat)=>some (V.int ((((0+(i:Int))*(0+(i:Int))+by_)*gr)%(2*far+1))))=r0.map V.int:=by
    refine⟨(qAq m).map fun(i:Nat)=>(((0+(i:Int))*(0+(i:Int))+by_)*gr)%(2*far+1),by rw[qAb,qCy],fun r hr=>(by
     obtain⟨i,_,rfl⟩:=List.mem_map.mp hr;exact⟨qEf _ (by lia),qEg _ (by lia)⟩),?_⟩
    rw[qBw,<- qDf];rfl
   obtain⟨r0,hr0,hb0,er⟩:=er;rw[er];have s0:=aI.aJ (o:=.lst (r0.map V.int)) hl;refine⟨_,rfl,a,_,rfl,.inl (s0.seq hq),(ns.length:Int),(by show [V.int ((ns.map V.int).length:Int)]=_;rw[qAb]),by lia,by lia,?_⟩;refine dN (n:=ns.length) (fun i σ' H'=>∃(rs:List Int) (o6 o7:Option V),rs.length=m/\(∀r∈rs,0<=r/\r<2*far+1)/\aI H H'/\H' l=some (.lst (rs.map V.int))/\σ'=[some (.ref a),some (.int (m:Int)),some (.int far),some (.int by_),some (.int gr),some (.ref l),o6,o7]) ?_ ?_ ?_
   ·exact⟨r0,_,_,hr0,hb0,s0,aB,rfl⟩
   ·rintro i σ' H' hi ⟨rs,o6,o7,hrs,hbd,s1,h1,rfl⟩;refine⟨_,rfl,_,_,rfl,rfl,_,rfl,_,rfl,_,_,rfl,rfl,(by show(0:Int)<m;lia),_,_,rfl,rfl,?_⟩;obtain⟨j,hj,hjm⟩:∃j:Nat,(m:Int)-1-(0+(i:Int))%(m:Int)=(j:Int)/\j<m:=by
     have h0:=qEf (0+(i:Int)) (b:=(m:Int)) (by lia);have h1:=qEg (0+(i:Int)) (b:=(m:Int)) (by lia);exact⟨((m:Int)-1-(0+(i:Int))%(m:Int)).toNat,by lia,by lia⟩
    show bQ 7 (V.int ((m:Int)-1-(0+(i:Int))%(m:Int))) _ _ _;rw[hj];have hjl:j<rs.length:=by lia
    have hat1:jN (rs.map V.int) (j:Int)=some (.int rs[j]):=bU (by rw[qAu,qAf hjl];rfl);have hat2:jN (ns.map V.int) (0+(i:Int))=some (.int ns[i]):=by
     rw[qEn];exact bU (by rw[qAu,qAf hi];rfl)
    have hix:yJ (rs.map V.int).length (j:Int)=some j:=by
     unfold yJ;rw[qAb,if_pos (by lia),if_pos (by lia)];rfl
    refine⟨_,rfl,_,rfl,l,_,_,_,rfl,rfl,aT.of h1,hat1,_,_,rfl,rfl,.inr ⟨by decide,by decide⟩,_,rfl,_,rfl,a,_,_,_,rfl,rfl,s1.seq hq,hat2,_,rfl,_,_,rfl,rfl,.inr ⟨by lia,by lia⟩,_,_,rfl,rfl,_,rfl,_,_,rfl,rfl,.inl ⟨by decide,by decide⟩,_,_,rfl,rfl,_,_,rfl,rfl,(by show 0<2*far+1;lia),?_⟩;refine⟨_,rfl,_,rfl,l,_,_,j,rfl,rfl,h1,hix,?_⟩;refine⟨rs.set j ((rs[j]*1000003+ns[i]*by_)%(2*far+1)),_,_,by rw[qJs];exact hrs,fun r hr=>(by
     rcases List.mem_or_eq_of_mem_set hr with h | h
     ·exact hbd r h
     ·rw[h];exact⟨qEf _ (by lia),qEg _ (by lia)⟩),s1.upd_ne' hl,?_,rfl⟩
    rw[aB,List.map_set]
   ·rintro σ' H' ⟨rs,o6,o7,hrs,hbd,s1,h1,rfl⟩;refine⟨_,rfl,l,rfl,⟨_,aT.of h1⟩,?_⟩;refine cR (xs:=rs.map V.int) (fun _ x=>match x with | .int i=>some (.int (i-far)) | _=>none) (aT.of h1) (by rw[qAb];exact qBp (aW (by lia))) (fun i x H2 kk kk0 s2 hx h1 h2=>?_) fun D H2 hD s2 hd=>?_
    ·obtain⟨j,hj,rfl⟩:=List.mem_map.mp (qAy hx);exact⟨_,rfl,_,rfl,_,_,rfl,rfl,h1 _ rfl _ (.refl _)⟩
    ·have hd:H2 D=some (.lst ((rs.map fun r=>r-far).map V.int)):=by
      rw[hd,c8,qBx,qBw,<- qDf];rfl
     exact k D _ H2 (by rw[qAb];exact hrs) (fun r hr=>by
      obtain⟨x,hx,rfl⟩:=List.mem_map.mp hr;have:=hbd x hx;lia) (s1.free hD) (s1.trans s2) hd
def xT:Nat->Nat
 | 0=>0
 | k+1=>xT k+k
theorem DA:∀i:_root_.Fin 6,xT i.1+i.1<=15:=by decide
def gN(i j:Nat)(H:Hp)(bs:List Addr):Prop:=(∀b∈bs,∃(u v:Nat) (n:Int),H b=some (.tup [.int (u:Int),.int (v:Int),.int n])/\u<v/\(v<i\/(v=i/\u<j)))/\(bs.map fun b=>cS (cY H b)).Nodup/\bs.length<=xT i+j
theorem gN.keep{i j:Nat}{H H':Hp}{bs:List Addr}(h:gN i j H bs)(s:∀b xs,H b=some (.tup xs)->H' b=some (.tup xs)):gN i j H' bs:=by
 refine⟨fun b hb=>?_,?_,h.2.2⟩
 ·obtain⟨u,v,n,e,z⟩:=h.1 b hb;exact⟨u,v,n,s b _ e,z⟩
 ·have e:(bs.map fun b=>cS (cY H' b))=bs.map fun b=>cS (cY H b):=qDj fun b hb=>by
   obtain⟨u,v,n,e,_⟩:=h.1 b hb;rw[bN e,bN (s b _ e)]
  rw[e];exact h.2.1
theorem gN.go{i j:Nat}{H:Hp}{bs:List Addr}(h:gN i j H bs):gN i (j+1) H bs :=
 ⟨fun b hb=>let ⟨u,v,n,e,z1,z2⟩:=h.1 b hb;⟨u,v,n,e,z1,by lia⟩,h.2.1,by have:=h.2.2;lia⟩
theorem gN.up{i:Nat}{H:Hp}{bs:List Addr}(h:gN i i H bs):gN (i+1) 0 H bs :=
 ⟨fun b hb=>let ⟨u,v,n,e,z1,z2⟩:=h.1 b hb;⟨u,v,n,e,z1,by lia⟩,h.2.1,h.2.2⟩
theorem gN.add{i j:Nat}{n:Int}{H:Hp}{bs:List Addr}{b:Addr}(h:gN i j H bs)(hb:H b=some (.tup [.int (j:Int),.int (i:Int),.int n]))(hj:j<i):gN i (j+1) H (bs++[b]):=by
 refine⟨fun c hc=>?_,?_,by rw[qBi];have:=h.2.2;show _+1<=_;lia⟩
 ·rcases List.mem_append.mp hc with hc | hc
  ·exact h.go.1 c hc
  ·have:c=b:=by simpa using hc
   subst this;exact⟨j,i,n,hb,hj,.inr ⟨rfl,by lia⟩⟩
 ·rw[qCi,qJg];refine⟨h.2.1,by simp,fun x hx y hy e=>?_⟩;subst e;obtain⟨c,hc,rfl⟩:=List.mem_map.mp hx;obtain⟨u,v,n',e,z1,z2⟩:=h.1 c hc;have hy:cS (cY H c)=cS (cY H b):=by simpa using hy
  rw[bN e,bN hb] at hy;have y1:(u:Int)=j:=(Prod.mk.inj hy).1;have y2:(v:Int)=i:=(Prod.mk.inj hy).2;lia
def xU(far:Int)(H:Hp)(bs:List Addr):Prop:=∀b∈bs,∀(p:P3),cP H b p->-far<=p.2.2/\p.2.2<=far
theorem xU.keep{far:Int}{H H':Hp}{bs:List Addr}{i j:Nat}(h:xU far H bs)(o:gN i j H bs)(s:∀b xs,H b=some (.tup xs)->H' b=some (.tup xs)):xU far H' bs:=fun b hb p hp=>by
 obtain⟨u,v,n,e,_⟩:=o.1 b hb;have z:=s _ _ e;rw[show H' b=_ from hp] at z;exact h b hb p (show H b=_ by rw[e,z])
theorem xU.add{far n:Int}{H:Hp}{bs:List Addr}{b:Addr}{u v:Int}(h:xU far H bs)(hb:H b=some (.tup [.int u,.int v,.int n]))(hn:-far<=n/\n<=far):xU far H (bs++[b]):=fun c hc p hp=>by
 rcases List.mem_append.mp hc with hc | hc
 ·exact h c hc p hp
 ·rw[qJa] at hc;subst hc;rw[show H c=_ from hp] at hb;injection hb with e;injection e with e;injection e with _ e;injection e with _ e;injection e with e;injection e with e;rw[e];exact hn
def AQ(K:qAa):Sp:=fun vs H Q _=>∃(a:Addr) (ns:List Int) (m:Nat) (far c:Int),vs=[.ref a,.int (m:Int),.int far,.int c]/\aT K H a (ns.map V.int)/\ns.length<=63/\m<=6/\0<far /\
 ∀(l:Addr) (bs:List Addr) (H':Hp),H l=none->aI H H'->H' l=some (.lst (bs.map V.ref))->cC m H' bs->xU far H' bs->Q (.ref l) H'
theorem jG:aL ["_law_script","_law_many","_law_far","_law_cell_here","_law_numbers","_law_pairs_here","_law_other","_law_one","_law_drawn","_law_number","_law_at"] ["_law_script","_law_many","_law_far","_law_cell_here"] (aD Cq):=by constructor<;>first|rfl|decide +kernel
theorem DB{f1:Addr}{fd1:qAz}(t:Tx K mg "_law_pairs" Cq ["_law_script","_law_many","_law_far","_law_cell_here"] f fd)(T:T K mg AL LN RU OW PL PA VO MA NE fE fH rR rO rP rA rV rM rN iR iO iP iA iV iM iN fL wR wO wP wA wV wM wN SE NG NL NT)(D_law_row:Df P w K mg base cI 1 "_law_row" ["_law_script","_law_many","_law_far","_law_by"] (xJ K) f1 fd1):
  Df P w K mg base cI 2 "_law_pairs" ["_law_script","_law_many","_law_far","_law_cell_here"] (AQ K) f fd:=by
 refine t.lR jG (fun vs H Q E h=>?_) (fun cdv A outer s H vs Q E hr h=>?_)
 ·obtain⟨a,ns,m,far,c,rfl,_⟩:=h;rfl
 ·obtain⟨a,ns,m,far,c,rfl,hq,hns,m6,hfar,k⟩:=h;refine⟨_,(aE (aX (i:=4) jG.nd rfl cF (bA D_law_row hr (by decide) (by rfl) (aA (pv 0) (aA aG (aA (pv 2) (aA aG aC))))))
   (aE (aX (i:=5) jG.nd rfl cF (bK aC))
   (aE (dM PassesOwn.never rfl (cW (by rfl) T.cK (aA (pv 1) aC)) (aQ (i:=6) jG.nd rfl cF)
    (aH (dM PassesOwn.never rfl (cW (by rfl) T.cK (aA (pv 6) aC)) (aQ (i:=7) jG.nd rfl cF)
     (aE (aX (i:=8) jG.nd rfl cF (aM dY (aM dO (aM dO (aM cN (pv 3) aG) (aM cN (aM dO (aV a9 (by rfl) T.dW dP (aA (pv 4) aC)) (aV a9 (by rfl) T.dW dP (aA (pv 4) aC))) aG)) aG) aG))
     (aE (aX (i:=9) jG.nd rfl cF (vC qCt PySem.F.slot_list_pop PySem.F.type_list_pop yZ (pv 4)))
     (aH (dG (PW.pt (pw_or (cA Ao (aM dY (pv 3) aG) aG (bZ _)) (pw_or1 (cA i6 (aM dY (aM gF (pv 8) aG) aG) aG (bZ _))))) (aH (bC (fQ qCt qDu qDt fF (pv 5) (aA (e9 (aA (pv 7) (aA (pv 6) (aA (pv 9) aC)))) aC)))) bO)))))))
   (aE (aX (i:=10) jG.nd rfl cF (aM dY (aM gF (pv 3) aG) (aM cN (aV a9 (by rfl) T.dW dP (aA (pv 5) aC)) aG)))
   (aH (aU (aM cD (eK hV (pv 5) (fD (pv 10)) fB) (eK hV (pv 5) fB (fD (pv 10)))))))))),?_⟩
  refine⟨_,rfl,_,rfl,a,ns,15,far,7,rfl,hq,hns,by decide,by decide,hfar,by decide,by decide,fun ln nu H1 hnu hnb ln0 s1 hln=>?_⟩;refine⟨by show 0<=qAj;decide,fun lp hlp=>?_⟩;have lp0:H lp=none:=s1.free hlp;have nlp:lp≠ln:=(aO hln hlp).symm;refine⟨_,rfl,(m:Int),rfl,by lia,by lia,?_⟩;refine dN (n:=m) (fun i σ' H'=>aI H H'/\∃(nu':List Int) (bs:List Addr) (o6 o7 o8 o9:Option V),H' ln=some (.lst (nu'.map V.int))/\nu'.length+xT i=15/\(∀r∈nu',-far<=r/\r<=far)/\xU far H' bs/\H' lp=some (.lst (bs.map V.ref))/\gN i 0 H' bs/\σ'=[some (.ref a),some (.int (m:Int)),some (.int far),some (.int c),some (.ref ln),some (.ref lp),o6,o7,o8,o9,none]) ?_ ?_ ?_
  ·exact⟨s1.upd_ne' lp0,nu,[],none,none,none,none,by rw[aK nlp.symm];exact hln,by rw[hnu];rfl,hnb,fun b hb=>absurd hb (by simp),aB,⟨fun b hb=>absurd hb (by simp),by simp,by simp⟩,rfl⟩
  ·rintro i σ' H' hi ⟨s2,nu',bs,o6,o7,o8,o9,h1,h2,hB,hD,h3,h4,rfl⟩;refine⟨_,rfl,(i:Int),(by show [V.int (0+(i:Int))]=_;rw[qEn]),by lia,by lia,?_⟩;refine dN (n:=i) (fun j σ' H'=>aI H H'/\∃(nu':List Int) (bs:List Addr) (o7 o8 o9:Option V),H' ln=some (.lst (nu'.map V.int))/\nu'.length+xT i+j=15/\(∀r∈nu',-far<=r/\r<=far)/\xU far H' bs/\H' lp=some (.lst (bs.map V.ref))/\gN i j H' bs/\σ'=[some (.ref a),some (.int (m:Int)),some (.int far),some (.int c),some (.ref ln),some (.ref lp),some (.int (0+(i:Int))),o7,o8,o9,none]) ?_ ?_ ?_
   ·exact⟨s2,nu',bs,o7,o8,o9,h1,h2,hB,hD,h3,h4,rfl⟩
   ·clear h1 h2 hB hD h3 h4 s2 nu' bs o7 o8 o9
    rintro j σ' H' hj ⟨s2,nu',bs,o7,o8,o9,h1,h2,hB,hD,h3,h4,rfl⟩;have ht:=DA ⟨i,by lia⟩;have ht:xT i+i<=15:=ht;have hl15:(nu'.map V.int).length<=15:=by rw[qAb];lia
    have hk:(((nu'.map V.int).length:Nat):Int)*(((nu'.map V.int).length:Nat):Int)<=15*15:=qKg (by lia) (by lia) (by lia) (by lia);have hk0:0<=(((nu'.map V.int).length:Nat):Int)*(((nu'.map V.int).length:Nat):Int):=qKf (by lia) (by lia);refine⟨_,rfl,_,_,rfl,rfl,_,rfl,ln,_,rfl,.inl (aT.of h1),_,rfl,ln,_,rfl,.inl (aT.of h1),_,_,rfl,rfl,.inl ⟨by lia,by lia⟩,_,_,rfl,rfl,_,_,rfl,rfl,.inr ⟨by lia,by lia⟩,_,_,rfl,rfl,.inr ⟨by decide,by decide⟩,_,_,rfl,rfl,(by show(0:Int)<2147483629;decide),?_⟩;have hpos:0<nu'.length:=by lia
    obtain⟨n,hn⟩:∃n,nu'[nu'.length-1]?=some n:=⟨_,qAf (by lia)⟩;have hpop:(nu'.map V.int)[(nu'.map V.int).length-1]?=some (.int n):=by rw[qAb,qAu,hn];rfl
    refine⟨_,rfl,.inl ⟨rfl,_,aT.of h1⟩,ln,_,_,rfl,rfl,h1,hpop,?_⟩;have s3:aI H (upd H' ln (.lst (nu'.map V.int).dropLast)):=s2.upd_ne' ln0;have g1:upd H' ln (.lst (nu'.map V.int).dropLast) ln=some (.lst (nu'.dropLast.map V.int)):=by rw[aB,List.map_dropLast]
    have g2:nu'.dropLast.length+xT i+(j+1)=15:=by rw[qIk];lia
    have g3:upd H' ln (.lst (nu'.map V.int).dropLast) lp=some (.lst (bs.map V.ref)):=by rw[aK nlp];exact h3
    have g4:gN i j (upd H' ln (.lst (nu'.map V.int).dropLast)) bs:=h4.keep fun b xs e=>by
     rw[aK (cL e h1 (by intro z;cases z))];exact e
    have gD:xU far (upd H' ln (.lst (nu'.map V.int).dropLast)) bs:=hD.keep h4 fun b xs e=>by
     rw[aK (cL e h1 (by intro z;cases z))];exact e
    generalize upd H' ln (.lst (nu'.map V.int).dropLast)=H2 at s3 g1 g3 g4 gD|-;have gB:∀r∈nu'.dropLast,-far<=r/\r<=far:=fun r hr=>hB r ((List.dropLast_sublist nu').subset hr);have nB:=hB n (qAy hn);clear h1 h2 hB hD h3 h4 hpop hn;refine⟨_,rfl,_,_,rfl,rfl,(by show(0:Int)<3;decide),_,_,rfl,rfl,_,rfl,?_⟩;refine fR (fun _=>?_) (fun _=>?_)
    ·refine⟨_,rfl,.inl ⟨rfl,_,aT.of g3⟩,_,rfl,_,rfl,_,rfl,GF,fun tt htt=>?_⟩;have u4:=aI.aJ (o:=.tup [V.int (0+(j:Int)),V.int (0+(i:Int)),V.int n]) htt;have tt0:H tt=none:=s3.free htt;have b1:=u4 _ _ g3;have b2:=u4 _ _ g1;have b3:upd H2 tt (.tup [V.int (0+(j:Int)),V.int (0+(i:Int)),V.int n]) tt=some (.tup [V.int (j:Int),V.int (i:Int),V.int n]):=by rw[aB,qEn,qEn]
     have b4:=(g4.keep fun b xs e=>u4 b _ e).add b3 hj;have bD:=(gD.keep g4 fun b xs e=>u4 b _ e).add b3 nB;have b5:=s3.trans u4;generalize upd H2 tt _=H3 at b1 b2 b3 b4 b5 bD|-;refine⟨lp,_,_,rfl,rfl,b1,by rw[qAb];have:=g4.2.2;exact aW (by lia),?_⟩;exact⟨b5.upd_ne' lp0,_,bs++[tt],_,_,_,by rw[aK nlp.symm];exact b2,g2,gB,bD.keep b4 (fun b xs e=>by rw[aK (cL e b1 (by intro z;cases z))];exact e),by rw[aB,qCi];rfl,b4.keep (fun b xs e=>by
      rw[aK (cL e b1 (by intro z;cases z))];exact e),rfl⟩
    ·refine⟨_,rfl,_,_,rfl,rfl,⟨by decide,by decide⟩,_,_,rfl,rfl,(by show(0:Int)<2;decide),rfl,_,rfl,?_⟩;refine fR (fun _=>?_) (fun _=>?_)
     ·refine⟨_,rfl,.inl ⟨rfl,_,aT.of g3⟩,_,rfl,_,rfl,_,rfl,GF,fun tt htt=>?_⟩;have u4:=aI.aJ (o:=.tup [V.int (0+(j:Int)),V.int (0+(i:Int)),V.int n]) htt;have tt0:H tt=none:=s3.free htt;have b1:=u4 _ _ g3;have b2:=u4 _ _ g1;have b3:upd H2 tt (.tup [V.int (0+(j:Int)),V.int (0+(i:Int)),V.int n]) tt=some (.tup [V.int (j:Int),V.int (i:Int),V.int n]):=by rw[aB,qEn,qEn]
      have b4:=(g4.keep fun b xs e=>u4 b _ e).add b3 hj;have bD:=(gD.keep g4 fun b xs e=>u4 b _ e).add b3 nB;have b5:=s3.trans u4;generalize upd H2 tt _=H3 at b1 b2 b3 b4 b5 bD|-;refine⟨lp,_,_,rfl,rfl,b1,by rw[qAb];have:=g4.2.2;exact aW (by lia),?_⟩;exact⟨b5.upd_ne' lp0,_,bs++[tt],_,_,_,by rw[aK nlp.symm];exact b2,g2,gB,bD.keep b4 (fun b xs e=>by rw[aK (cL e b1 (by intro z;cases z))];exact e),by rw[aB,qCi];rfl,b4.keep (fun b xs e=>by
       rw[aK (cL e b1 (by intro z;cases z))];exact e),rfl⟩
     ·exact⟨s3,_,bs,_,_,_,g1,g2,gB,gD,g3,g4.go,rfl⟩
   ·clear h1 h2 hB hD h3 h4 s2 nu' bs o7 o8 o9
    rintro σ' H' ⟨s2,nu',bs,o7,o8,o9,h1,h2,hB,hD,h3,h4,rfl⟩;exact⟨s2,nu',bs,_,_,_,_,h1,by show nu'.length+(xT i+i)=15;lia,hB,hD,h3,h4.up,rfl⟩
  ·rintro σ' H' ⟨s2,nu',bs,o6,o7,o8,o9,h1,h2,hB,hD,h3,h4,rfl⟩;obtain⟨p,hp⟩:∃p:Nat,c/3%(((bs.map V.ref).length:Int)+1)=(p:Int):=by
    have h0:=qEf (c/3) (b:=((bs.map V.ref).length:Int)+1) (by lia);exact⟨(c/3%(((bs.map V.ref).length:Int)+1)).toNat,by lia⟩
   refine⟨_,rfl,_,_,rfl,rfl,⟨by decide,by decide⟩,_,rfl,lp,_,rfl,.inl (aT.of h3),_,_,rfl,rfl,_,_,rfl,rfl,(by show 0<((bs.map V.ref).length:Int)+1;lia),?_⟩;show bQ 10 (V.int (c/3%(((bs.map V.ref).length:Int)+1))) _ _ _;rw[hp];have m15:bs.length<=15:=by
    have:∀i:_root_.Fin 7,xT i.1<=15:=by decide
    have z:xT m<=15:=this ⟨m,by lia⟩;have:=h4.2.2;lia
   refine⟨_,rfl,_,rfl,_,rfl,lp,_,rfl,aT.of h3,fun p1 hp1=>?_⟩;have u1:=aI.aJ (o:=.lst (eA (bs.map V.ref) (some (p:Int)) none)) hp1;refine⟨_,rfl,_,rfl,_,rfl,lp,_,rfl,aT.of (u1 _ _ h3),fun p2 hp2=>?_⟩;have u2:=aI.aJ (o:=.lst (eA (bs.map V.ref) none (some (p:Int)))) hp2;have e1:eA (bs.map V.ref) (some (p:Int)) none=(bs.drop p).map V.ref:=by rw[nE,List.map_drop]
   have e2:eA (bs.map V.ref) none (some (p:Int))=(bs.take p).map V.ref:=by rw[wJ,qKd]
   refine⟨p1,p2,_,_,rfl,rfl,aT.of (u2 _ _ aB),aT.of aB,by rw[e1,e2,qAb,qAb,qFk,qFj];exact qBp (aW (by lia)),fun l hl=>?_⟩;have u3:=aI.aJ (o:=.lst (eA (bs.map V.ref) (some (p:Int)) none++eA (bs.map V.ref) none (some (p:Int)))) hl;have u:=(u1.trans u2).trans u3;have pm:(bs.drop p++bs.take p).Perm bs:=by
    have z:=List.perm_append_comm (l₁:=bs.drop p) (l₂:=bs.take p);rw[List.take_append_drop] at z;exact z
   have ok:cC m H' bs:=⟨fun b hb=>let ⟨u,v,n,e,z1,z2⟩:=h4.1 b hb;⟨u,v,n,e,z1,by lia⟩,h4.2.1,m15⟩;refine k l (bs.drop p++bs.take p) _ ((s2.trans (u1.trans u2)).free hl) (s2.trans u) ?_ ((ok.nI pm).same fun b _ o e=>u b o e) (fun b hb=>(hD.keep h4 fun b xs e=>u b _ e) b (pm.mem_iff.mp hb));rw[aB,e1,e2,qCi]
def dF(h:Str)(ss:List Str):Str:=ss.foldl (fun acc s=>acc++(" ":Str)++s) h
theorem sE(h:Str)(ss:List Str):eB h ss=dF h ss:=by
 show(⟨ss.foldl (fun acc p=>acc++(" ":Str).cps++p.cps) h.cps⟩:Str)=dF h ss;induction ss generalizing h with
 | nil=>rfl
 | cons s ss ih=>exact ih (h++(" ":Str)++s)
theorem xK(h:Str)(a b:List Str):dF h (a++b)=dF (dF h a) b:=by
 unfold dF;rw[qGm]
def lD(ps:List P3)(u v:Nat):List P3:=ps.filter fun p=>decide (p.1=u)&&decide (p.2.1=v)
def Ei(ps:List P3):List P3:=(qAq 6).flatMap fun u=>(qAq 6).flatMap fun v=>lD ps u v
def eY(h:Str)(ns:List Int)(ps:List P3):Str:=dF (dF h (ns.map nW)) ((Ei ps).map pW)
theorem z9{ps:List P3}{u v:Nat}(h:(ps.map fun p=>(p.1,p.2.1)).Nodup):(lD ps u v).length<=1:=by
 unfold lD;induction ps with
 | nil=>exact qBq _
 | cons p ps ih =>
  rw[qBk,qHb] at h;rw[qEp];by_cases c:(decide (p.1=u)&&decide (p.2.1=v))=true
  ·rw[if_pos c];rw[qAo,decide_eq_true_eq,decide_eq_true_eq] at c;have e:ps.filter (fun p=>decide (p.1=u)&&decide (p.2.1=v))=[]:=List.filter_eq_nil_iff.mpr fun q hq z=>by
    rw[qAo,decide_eq_true_eq,decide_eq_true_eq] at z;exact h.1 (List.mem_map.mpr ⟨q,hq,by rw[z.1,z.2,c.1,c.2]⟩)
   rw[e];exact qAk 1
  ·rw[if_neg c];exact ih h.2
theorem xM{α:Type}{a b:List α}(h:a.Perm b)(h1:a.length<=1):a=b:=by
 match a,h1 with
 | [],_=>rw[List.nil_perm.mp h]
 | [x],_=>rw[List.singleton_perm.mp h]
theorem xN{ps qs:List P3}(h:ps.Perm qs)(hn:(ps.map fun p=>(p.1,p.2.1)).Nodup):Ei ps=Ei qs:=by
 unfold Ei;have e:∀u v,lD ps u v=lD qs u v:=fun u v=>xM (h.filter _) (z9 hn);simp only[e]
theorem DC{ps:List P3}(h:lC ps):(ps.map fun p=>(p.1,p.2.1)).Nodup:=by
 refine List.pairwise_map.mpr (h.imp fun {p q} z e=>?_);have e1:=congrArg Prod.fst e;have e2:=congrArg Prod.snd e;dsimp only at e1 e2;lia
theorem oY{c:P3->Nat}:∀(N:Nat) (l:List P3),l.Pairwise (fun p q=>c p<=c q)->((qAq N).flatMap fun k=>l.filter fun p=>decide (c p=k))=l.filter fun p=>decide (c p<N)
 | 0,l,_=>by
  rw[List.range_zero,qFl];exact(List.filter_eq_nil_iff.mpr fun p _ z=>by simp at z).symm
 | N+1,l,h=>by
  rw[qCp,qGc,oY N l h,qGn,qFl,qBm];induction l with
  | nil=>rfl
  | cons p l ih =>
   rw[qGi] at h;have ih:=ih h.2;rcases qJk (c p) N with z | z | z
   ·rw[qEp,if_pos (by simpa using z),qEp (p:=fun p=>decide (c p=N)),if_neg (by simp;lia),qEp (p:=fun p=>decide (c p<N+1)),if_pos (by simp;lia),List.cons_append,ih]
   ·have e:∀q∈p::l,¬c q<N:=fun q hq=>by
     rcases List.mem_cons.mp hq with rfl | hq
     ·lia
     ·have:=h.1 q hq;lia
    rw[List.filter_eq_nil_iff.mpr fun q hq=>by simpa using e q hq,qFt];refine qGo fun q hq=>?_;have:=e q hq;exact decide_eq_decide.mpr (by lia)
   ·have e:∀q∈p::l,N<c q:=fun q hq=>by
     rcases List.mem_cons.mp hq with rfl | hq
     ·exact z
     ·have:=h.1 q hq;lia
    rw[List.filter_eq_nil_iff.mpr fun q hq=>by have:=e q hq;simp;lia,qFt];refine qGo fun q hq=>?_;have:=e q hq;exact decide_eq_decide.mpr (by lia)
theorem oZ{α β:Type}{f g:α->List β}{l:List α}(h:∀a∈l,f a=g a):l.flatMap f=l.flatMap g:=by
 rw[qJn,qJn,qDj h]
theorem DD(f:Nat->List P3):((qAq 6).flatMap fun u=>(qAq 6).flatMap fun v=>f (6*u+v))=(qAq 36).flatMap f:=by
 simp[qAq,List.range.loop]
theorem Aa{ps:List P3}(h:lC ps)(h6:∀p∈ps,p.1<6/\p.2.1<6):Ei ps=ps:=by
 unfold Ei;have e:∀u v,v<6->lD ps u v=ps.filter fun p=>decide (6*p.1+p.2.1=6*u+v):=fun u v hv=>qGo fun p hp=>by
  have:=h6 p hp;rw[<- Bool.decide_and];exact decide_eq_decide.mpr (by lia)
 have e2:((qAq 6).flatMap fun u=>(qAq 6).flatMap fun v=>lD ps u v)=(qAq 6).flatMap fun u=>(qAq 6).flatMap fun v=>ps.filter fun p=>decide (6*p.1+p.2.1=6*u+v):=by
  refine oZ fun u _=>oZ fun v hv=>e u v (List.mem_range.mp hv)
 rw[e2,DD fun k=>ps.filter fun p=>decide (6*p.1+p.2.1=k),oY (c:=fun p=>6*p.1+p.2.1) 36 ps (h.imp_of_mem fun {p q} hp hq z=>by
  have:=h6 p hp;have:=h6 q hq;lia)]
 exact List.filter_eq_self.mpr fun p hp=>by
  have:=h6 p hp;simp;lia
theorem GB(acc:Str)(p:P3):acc++(" ":Str)++nW (p.1:Int)++("-":Str)++nW (p.2.1:Int)++(":":Str)++nW p.2.2=acc++(" ":Str)++pW p:=by
 unfold pW;rw[Str.empty_append];simp only[Str.append_assoc]
theorem mG(h s:Str)(ss:List Str):dF h (ss++[s])=dF h ss++(" ":Str)++s:=by
 unfold dF;rw[qGm];rfl
def AR:Sp:=fun vs H Q _=>∃(wd:Str) (p q:Addr) (ns:List Int) (bs:List Addr) (ps:List P3),vs=[.str wd,.ref p,.ref q]/\wd.length<=10/\H p=some (.lst (ns.map V.int))/\ns.length<=64/\(∀n∈ns,n.natAbs<10^60)/\H q=some (.lst (bs.map V.ref))/\A2 (cP H) bs ps/\ps.length<=15/\(∀r∈ps,r.1<6/\r.2.1<6/\r.2.2.natAbs<10^60)/\Q (.str (eY wd ns ps)) H
def qN(ps:List P3)(u:Nat):List P3:=(qAq u).flatMap fun u=>(qAq 6).flatMap fun v=>lD ps u v
def uH(ps:List P3)(u v:Nat):List P3:=qN ps u++(qAq v).flatMap fun v=>lD ps u v
theorem Ab(ps:List P3)(u:Nat):uH ps u 6=qN ps (u+1):=by
 unfold uH qN;rw[qCp (n:=u),qGc,qGn,qFl,qBm]
theorem pA(ps:List P3)(u v:Nat):uH ps u (v+1)=uH ps u v++lD ps u v:=by
 unfold uH;rw[qCp,qGc,qGn,qFl,qBm,qDn]
theorem pB(ps:List P3)(r:P3)(u v:Nat):lD (ps++[r]) u v=lD ps u v++if (decide (r.1=u)&&decide (r.2.1=v))=true then [r] else []:=by
 unfold lD;rw[List.filter_append,qEp,List.filter_nil]
theorem kR:aL ["_law_word","_law_numbers","_law_pairs_here","_law_number","_law_one","_law_other","_law_pair"] ["_law_word","_law_numbers","_law_pairs_here"] (aD Cr):=by constructor<;>first|rfl|decide +kernel
theorem DE(t:Tx K mg "_law_written" Cr ["_law_word","_law_numbers","_law_pairs_here"] f fd)(T:T K mg AL LN RU OW PL PA VO MA NE fE fH rR rO rP rA rV rM rN iR iO iP iA iV iM iN fL wR wO wP wA wV wM wN SE NG NL NT):Df P w K mg base cI 1 "_law_written" ["_law_word","_law_numbers","_law_pairs_here"] AR f fd:=by
 refine t.lR kR (fun vs H Q E h=>?_) (fun cdv A outer s H vs Q E hr h=>?_)
 ·obtain⟨wd,p,q,ns,bs,ps,rfl,_⟩:=h;rfl
 ·obtain⟨wd,p,q,ns,bs,ps,rfl,hwd,hp,hns,hnb,hq,a2,h15,hpb,k⟩:=h;refine⟨_,(aE (dM PassesOwn.never rfl (bP (pv 1)) (aQ (i:=3) kR.nd rfl cF)
    (aH (aX (i:=0) kR.nd rfl cF (aM cG (aM cG (pv 0) a8) (bJ cZ (by rfl) T.gP iS (aA (pv 3) aC))))))
   (aE (dM PassesOwn.never rfl (cW (by rfl) T.cK (aA aG aC)) (aQ (i:=4) kR.nd rfl cF)
    (aH (dM PassesOwn.never rfl (cW (by rfl) T.cK (aA aG aC)) (aQ (i:=5) kR.nd rfl cF)
     (aH (dM PassesOwn.never rfl (bP (pv 2)) (aQ (i:=6) kR.nd rfl cF)
      (aH (dG (PW.pt (pw_and (cA i6 (aZ bG (pv 6) aG (fun _ _=>rfl)) (pv 4) (bZ _)) (pw_and1 (cA i6 (aZ bG (pv 6) aG (fun _ _=>rfl)) (pv 5) (bZ _))))) (aH (aX (i:=0) kR.nd rfl cF (aM cG (aM cG (aM cG (aM cG (aM cG (aM cG (pv 0) a8) (bJ cZ (by rfl) T.gP iS (aA (pv 4) aC))) a8) (bJ cZ (by rfl) T.gP iS (aA (pv 5) aC))) a8) (bJ cZ (by rfl) T.gP iS (aA (aZ bG (pv 6) aG (fun _ _=>rfl)) aC))))) bO)))))))
   (aH (aU (pv 0))))),?_⟩
  have sl:200000<=qAj:=by decide
  have e1:(" ":Str).length=1:=rfl;have e2:("-":Str).length=1:=rfl;have e3:(":":Str).length=1:=rfl;refine⟨_,rfl,p,rfl,⟨_,aT.of hp⟩,?_⟩;refine eQ (xs:=ns.map V.int) (fun i σ' H'=>H'=H/\(dF wd ((ns.take i).map nW)).length<=10+62*i/\∃o3:Option V,σ'=[some (.str (dF wd ((ns.take i).map nW))),some (.ref p),some (.ref q),o3,none,none,none]) ⟨rfl,hwd,_,rfl⟩ ?_ ?_ ?_
  ·rintro i σ' H' _ ⟨rfl,_⟩;exact aT.of hp
  ·rintro i x σ' H' hx ⟨rfl,hl,o3,rfl⟩;obtain⟨n,hn,rfl⟩:∃n,ns[i]?=some n/\x = .int n:=by
    rw[qAu] at hx;cases e:ns[i]? with
    | none=>rw[e] at hx;cases hx
    | some y=>rw[e] at hx;exact⟨y,rfl,(Option.some.inj hx).symm⟩
   have hi:i<ns.length:=(List.getElem?_eq_some_iff.mp hn).1;have bn:=hnb n (qAy hn);have ln:=dZ bn;have et:dF wd ((ns.take (i+1)).map nW)=dF wd ((ns.take i).map nW)++(" ":Str)++nW n:=by
    rw[qJf,hn,qCi];exact mG _ _ _
   refine⟨_,rfl,_,_,rfl,rfl,(by rw[e1];lia),_,rfl,n,rfl,gE bn,_,nW n,rfl,rfl,(by rw[Str.length_append,e1];lia),?_⟩;refine⟨rfl,?_,some (.int n),?_⟩
   ·rw[et,Str.length_append,Str.length_append,e1];lia
   ·rw[et];rfl
  ·rintro σ' H' ⟨rfl,hl,o3,rfl⟩;rw[qAb] at hl;rw[qAb,qDk];rw[qDk] at hl;generalize hW:dF wd (ns.map nW)=W at hl;refine⟨6,rfl,by decide,by decide,?_⟩;refine dN (n:=6) (fun u σ' H1=>H1=H'/\(dF W ((qN ps u).map pW)).length<=4000+16740*u/\∃o4 o5 o6:Option V,σ'=[some (.str (dF W ((qN ps u).map pW))),some (.ref p),some (.ref q),o3,o4,o5,o6]) ?_ ?_ ?_
   ·exact⟨rfl,by show W.length<=_;lia,_,_,_,rfl⟩
   ·rintro u σ' H1 hu ⟨rfl,hl1,o4,o5,o6,rfl⟩;refine⟨6,rfl,by decide,by decide,?_⟩;refine dN (n:=6) (fun v σ' H2=>H2=H1/\(dF W ((uH ps u v).map pW)).length<=4000+16740*u+2790*v/\∃o5 o6:Option V,σ'=[some (.str (dF W ((uH ps u v).map pW))),some (.ref p),some (.ref q),o3,some (.int (0+(u:Int))),o5,o6]) ?_ ?_ ?_
    ·exact⟨rfl,by show(dF W (((qN ps u++[])).map pW)).length<=_;rw[qBm];exact hl1,_,_,by show _=[some (V.str (dF W (((qN ps u++[])).map pW))),_,_,_,_,_,_];rw[qBm];rfl⟩
    ·rintro v σ' H2 hv ⟨rfl,hl2,o5,o6,rfl⟩;refine⟨_,rfl,q,rfl,⟨_,aT.of hq⟩,?_⟩;refine eQ (xs:=bs.map V.ref) (fun i σ' H3=>H3=H2/\(dF W ((uH ps u v++lD (ps.take i) u v).map pW)).length<=4000+16740*u+2790*v+186*i/\∃o6:Option V,σ'=[some (.str (dF W ((uH ps u v++lD (ps.take i) u v).map pW))),some (.ref p),some (.ref q),o3,some (.int (0+(u:Int))),some (.int (0+(v:Int))),o6]) ?_ ?_ ?_ ?_
     ·exact⟨rfl,by rw[qJu];show(dF W (((uH ps u v++[])).map pW)).length<=_;rw[qBm];exact hl2,_,by rw[qJu];show _=[some (V.str (dF W (((uH ps u v++[])).map pW))),_,_,_,_,_,_];rw[qBm];rfl⟩
     ·rintro i σ' H3 _ ⟨rfl,_⟩;exact aT.of hq
     ·rintro i x σ' H3 hx ⟨rfl,hl3,o6,rfl⟩;rw[qAu] at hx;cases e:bs[i]? with
      | none=>rw[e] at hx;cases hx
      | some b =>
       rw[e] at hx;cases hx;obtain⟨r,hr,at_⟩:=a2.Dt i b e;obtain⟨q1,q2,q3⟩:=hpb r (qAy hr);have hi:i<ps.length:=(List.getElem?_eq_some_iff.mp hr).1;have et:ps.take (i+1)=ps.take i++[r]:=by rw[qJf,hr];rfl
       have l1:=dZ (i:=(r.1:Int)) (qAl (show _<6 from q1) (by decide +kernel));have l2:=dZ (i:=(r.2.1:Int)) (qAl (show _<6 from q2) (by decide +kernel));have l3:=dZ q3;have pl:=qK q1 q2 q3;have no:(decide (r.1=u)&&decide (r.2.1=v))=false->lD (ps.take (i+1)) u v=lD (ps.take i) u v:=fun c=>by
        rw[et,pB,c,if_neg qAi,qBm]
       refine⟨_,rfl,b,_,_,_,rfl,rfl,dE.of at_,rfl,_,rfl,rfl,_,rfl,?_⟩;refine fR (fun c1=>?_) (fun c1=>?_)
       ·refine⟨_,rfl,b,_,_,_,rfl,rfl,dE.of at_,rfl,_,rfl,rfl,_,rfl,?_⟩;have c1:(r.1:Int)=0+(u:Int):=V.int.inj (of_decide_eq_true c1);refine fR (fun c2=>?_) (fun c2=>?_)
        ·have c2:(r.2.1:Int)=0+(v:Int):=V.int.inj (of_decide_eq_true c2);rw[<- c1,<- c2];have eb:lD (ps.take (i+1)) u v=lD (ps.take i) u v++[r]:=by
          rw[et,pB,if_pos (by rw[decide_eq_true (show r.1=u by lia),decide_eq_true (show r.2.1=v by lia)];rfl)]
         have ex:dF W ((uH ps u v++lD (ps.take (i+1)) u v).map pW)=dF W ((uH ps u v++lD (ps.take i) u v).map pW)++(" ":Str)++pW r:=by
          rw[eb,<- qDn,qCi];exact mG _ _ _
         have z1:=gE (n:=(r.1:Int)) (qAl (show _<6 from q1) (by decide +kernel));have z2:=gE (n:=(r.2.1:Int)) (qAl (show _<6 from q2) (by decide +kernel));refine⟨_,rfl,_,_,rfl,rfl,(by rw[e1];lia),_,rfl,_,rfl,z1,_,nW r.1,rfl,rfl,(by rw[Str.length_append,e1];lia),_,_,rfl,rfl,(by rw[Str.length_append,Str.length_append,e1,e2];lia),_,rfl,_,rfl,z2,_,nW r.2.1,rfl,rfl,(by rw[Str.length_append,Str.length_append,Str.length_append,e1,e2];lia),_,_,rfl,rfl,(by rw[Str.length_append,Str.length_append,Str.length_append,Str.length_append,e1,e2,e3];lia),_,rfl,b,_,_,_,rfl,rfl,dE.of at_,rfl,_,rfl,gE q3,_,nW r.2.2,rfl,rfl,(by rw[Str.length_append,Str.length_append,Str.length_append,Str.length_append,Str.length_append,e1,e2,e3];lia),?_⟩;rw[GB];refine⟨rfl,by rw[ex,Str.length_append,Str.length_append,e1];lia,some (.ref b),?_⟩;rw[ex];rfl
        ·have c2:¬(r.2.1:Int)=0+(v:Int):=fun z=>c2 (decide_eq_true (by rw[z]));refine⟨rfl,?_,some (.ref b),?_⟩
         ·rw[no (by rw[decide_eq_false (show ¬r.2.1=v by lia),qDm])];lia
         ·rw[no (by rw[decide_eq_false (show ¬r.2.1=v by lia),qDm])];rfl
       ·have c1:¬(r.1:Int)=0+(u:Int):=fun z=>c1 (decide_eq_true (by rw[z]));refine⟨rfl,?_,some (.ref b),?_⟩
        ·rw[no (by rw[decide_eq_false (show ¬r.1=u by lia),qDl])];lia
        ·rw[no (by rw[decide_eq_false (show ¬r.1=u by lia),qDl])];rfl
     ·rintro σ' H3 ⟨rfl,hl3,o6,rfl⟩;rw[qAb,a2.len] at hl3;rw[qAb,a2.len,qDk,<- pA];rw[qDk,<- pA] at hl3;exact⟨rfl,by lia,_,_,rfl⟩
    ·rintro σ' H2 ⟨rfl,hl2,o5,o6,rfl⟩;rw[Ab] at hl2|-;exact⟨rfl,by lia,_,_,_,rfl⟩
   ·rintro σ' H1 ⟨rfl,hl1,o4,o5,o6,rfl⟩;refine⟨_,rfl,?_⟩;subst hW;exact k
def iY(P:qBd)(w:qCb)(K:qAa)(mg:Str->Option qAe)(base:Heap)(H:Hp)(a:Addr)(tx:Str):Prop :=
 ∃(C dx g:Addr) (fs:List (Str×V)),H a=some (.ins C dx fs)/\fs.lookup ("words":Str)=none/\uI K C/\Meth K C "words" g /\
  ∃ps,Md P w K mg base 3 ps (fun vs H2 Q _=>vs=[.ref a]/\aI H H2/\∀H3,aI H2 H3->Q (.str tx) H3) g
theorem iY.same{H H':Hp}{a:Addr}{tx:Str}(r:iY P w K mg base H a tx)(s:aI H H'):iY P w K mg base H' a tx:=by
 obtain⟨C,dx,g,fs,h1,h2,h3,h4,ps,h7⟩:=r;exact⟨C,dx,g,fs,s _ _ h1,h2,h3,h4,ps,h7.imp fun vs H2 Q _ ⟨e,b,d⟩=>⟨e,s.trans b,d⟩⟩
def AS(P:qBd)(w:qCb)(K:qAa)(mg:Str->Option qAe)(base:Heap):Sp:=fun vs H Q _=>∃(r d:Addr) (c:Int) (as:List Addr) (ts:List Str),vs=[.ref r,.ref d,.int c]/\H r=some (.lst (as.map V.ref))/\H d=some (.lst (ts.map V.str))/\as.length=7/\ts.length=7/\(∀(i:Nat) (a:Addr) (tx:Str),as[i]?=some a->ts[i]?=some tx->iY P w K mg base H a tx)/\∀H',aI H H'->Q (.bl true) H'
theorem sF:aL ["_law_rules","_law_due","_law_start","_law_k","_law_at","_law_found"] ["_law_rules","_law_due","_law_start"] (aD Cs):=by constructor<;>first|rfl|decide +kernel
theorem DF(t:Tx K mg "_law_told" Cs ["_law_rules","_law_due","_law_start"] f fd)(T:T K mg AL LN RU OW PL PA VO MA NE fE fH rR rO rP rA rV rM rN iR iO iP iA iV iM iN fL wR wO wP wA wV wM wN SE NG NL NT):Df P w K mg base cI 4 "_law_told" ["_law_rules","_law_due","_law_start"] (AS P w K mg base) f fd:=by
 refine t.lR sF (fun vs H Q E h=>?_) (fun cdv A outer s H vs Q E hr h=>?_)
 ·obtain⟨r,d,c,as,ts,rfl,_⟩:=h;rfl
 ·obtain⟨r,d,c,as,ts,rfl,hr_,hd,a7,t7,ob,k⟩:=h;refine⟨_,(aE (dM PassesOwn.never rfl (cW (by rfl) T.cK (aA aG aC)) (aQ (i:=3) sF.nd rfl cF)
    (aE (aX (i:=4) sF.nd rfl cF (aM dY (aM cN (pv 2) (aM dO aG (pv 3))) aG))
    (aE (aX (i:=5) sF.nd rfl cF (sW (k:=3) cU (aZ bE (pv 0) (pv 4) (fun _ _=>rfl)) hr (by decide)))
    (aH (dG (PW.pt (pw_or (eZ (dX (aV fU (by rfl) T.iG kB (aA (pv 5) (aA (g8 (v:=.ty "str") (by rfl) T.gP iS rfl) aC))))) (pw_or1 (cA lJ (pv 5) (aZ bE (pv 1) (pv 4) (fun _ _=>rfl)) (bZ _))))) (aH (aU nU)) bO)))))
   (aH (aU nU))),?_⟩
  refine⟨7,rfl,by decide,by decide,?_⟩;refine dN (n:=7) (fun i σ' H'=>aI H H'/\∃o3 o4 o5:Option V,σ'=[some (.ref r),some (.ref d),some (.int c),o3,o4,o5]) ?_ ?_ ?_
  ·exact⟨.refl _,_,_,_,rfl⟩
  ·rintro i σ' H1 hi ⟨s1,o3,o4,o5,rfl⟩;obtain⟨j,hj,j7⟩:∃j:Nat,(c+3*(0+(i:Int)))%7=(j:Int)/\j<7:=⟨((c+3*(0+(i:Int)))%7).toNat,by lia,by lia⟩;refine⟨_,rfl,_,rfl,_,_,rfl,rfl,.inl ⟨by lia,by lia⟩,_,_,rfl,rfl,_,_,rfl,rfl,(by show(0:Int)<7;decide),?_⟩;show bQ 4 (V.int ((c+3*(0+(i:Int)))%7)) _ _ _;rw[hj];obtain⟨a,ha⟩:∃a,as[j]?=some a:=⟨_,qAf (by lia)⟩;obtain⟨tx,htx⟩:∃tx,ts[j]?=some tx:=⟨_,qAf (by lia)⟩;have hat1:jN (as.map V.ref) (j:Int)=some (.ref a):=bU (by rw[qAu,ha];rfl);have hat2:jN (ts.map V.str) (j:Int)=some (.str tx):=bU (by rw[qAu,htx];rfl);obtain⟨C,dx,g,fs,h1,h2,h3,h4,ps,h7⟩:=(ob j a tx ha htx).same s1;refine⟨_,rfl,_,rfl,r,_,_,_,rfl,rfl,aT.of (s1 _ _ hr_),hat1,a,C,dx,fs,g,_,rfl,h1,h2,h3,h4,⟨ps,h7⟩,rfl,.refl _,fun H3 s3=>?_⟩;refine⟨_,rfl,_,_,_,_,_,rfl,rfl,.of (.str _),rfl,_,rfl,?_⟩;refine eU ?_;refine⟨_,rfl,_,rfl,_,rfl,d,_,_,_,rfl,rfl,aT.of (s3 _ _ (s1 _ _ hd)),hat2,rfl,_,rfl,?_⟩;dsimp only;rw[if_neg (by simp)];exact⟨s1.trans s3,_,_,_,rfl⟩
  ·rintro σ' H1 ⟨s1,o3,o4,o5,rfl⟩;exact k _ s1
theorem DG(T:T K mg AL LN RU OW PL PA VO MA NE fE fH rR rO rP rA rV rM rN iR iO iP iA iV iM iN fL wR wO wP wA wV wM wN SE NG NL NT)(D:Md P w K mg base 1 ["self"] z5 wR){H:Hp}{a dx:Addr}{m:V}(ha:H a=some (.ins RU dx [("many",m)])):iY P w K mg base H a ("none":Str) :=
 ⟨RU,dx,wR,_,ha,rfl,T.GO.oc.cl,T.IY,_,(D.up (by decide)).imp fun vs H2 Q _ ⟨e,s,q⟩=>⟨a,e,q _ (.refl _)⟩⟩
theorem GC(T:T K mg AL LN RU OW PL PA VO MA NE fE fH rR rO rP rA rV rM rN iR iO iP iA iV iM iN fL wR wO wP wA wV wM wN SE NG NL NT)(D:Md P w K mg base 2 ["self"] (sA OW) wO){H:Hp}{a dx l:Addr}{m:V}{ns:List Int}(ha:H a=some (.ins OW dx [("many",m),("numbers",.ref l)]))(hl:H l=some (.lst (ns.map V.int)))(h64:ns.length<=64)(hn:∀n∈ns,n.natAbs<10^60):iY P w K mg base H a (eB ("own":Str) (ns.map nW)) :=
 ⟨OW,dx,wO,_,ha,rfl,T.Cv.oc.cl,T.IZ,_,(D.up (by decide)).imp fun vs H2 Q _ ⟨e,s,q⟩=>⟨a,dx,l,m,ns,e,s _ _ ha,s _ _ hl,h64,hn,q⟩⟩
theorem Ac(T:T K mg AL LN RU OW PL PA VO MA NE fE fH rR rO rP rA rV rM rN iR iO iP iA iV iM iN fL wR wO wP wA wV wM wN SE NG NL NT)(D:Md P w K mg base 2 ["self"] (z6 VO) wV){H:Hp}{a dx l:Addr}{m:V}{q z:Int}{ns:List Int}(ha:H a=some (.ins VO dx [("many",m),("quota",.int q),("prize",.int z),("weights",.ref l)]))(hl:H l=some (.lst (ns.map V.int)))(h62:ns.length<=62)(hn:∀n∈q::z::ns,n.natAbs<10^60):iY P w K mg base H a (eB ("votes":Str) ((q::z::ns).map nW)) :=
 ⟨VO,dx,wV,_,ha,rfl,T.tR.oc.cl,T.Jc,_,(D.up (by decide)).imp fun vs H2 Q _ ⟨e,s,k⟩=>⟨a,dx,l,m,q,z,ns,e,s _ _ ha,s _ _ hl,h62,hn,k⟩⟩
theorem Ad(T:T K mg AL LN RU OW PL PA VO MA NE fE fH rR rO rP rA rV rM rN iR iO iP iA iV iM iN fL wR wO wP wA wV wM wN SE NG NL NT)(D:Md P w K mg base 2 ["self"] (sC PL) wP){H:Hp}{a dx l:Addr}{m:V}{e0:Int}{ns:List Int}(ha:H a=some (.ins PL dx [("many",m),("earnings",.ref l)]))(hl:H l=some (.lst ((e0::ns).map V.int)))(h64:ns.length<=64)(hn:∀n∈ns,n.natAbs<10^60):iY P w K mg base H a (eB ("table":Str) (ns.map nW)) :=
 ⟨PL,dx,wP,_,ha,rfl,T.Cw.oc.cl,T.Ja,_,(D.up (by decide)).imp fun vs H2 Q _ ⟨e,s,q⟩=>⟨a,dx,l,m,e0,ns,e,s _ _ ha,s _ _ hl,h64,hn,q⟩⟩
theorem Ae(T:T K mg AL LN RU OW PL PA VO MA NE fE fH rR rO rP rA rV rM rN iR iO iP iA iV iM iN fL wR wO wP wA wV wM wN SE NG NL NT)(D:Md P w K mg base 2 ["self"] (sD PA) wA){H:Hp}{a dx l:Addr}{m:V}{bs:List Addr}{ps:List P3}(ha:H a=some (.ins PA dx [("many",m),("pairs",.ref l)]))(hl:H l=some (.lst (bs.map V.ref)))(a2:A2 (cP H) bs ps)(h64:ps.length<=64)(hn:∀q∈ps,q.1<6/\q.2.1<6/\q.2.2.natAbs<10^60):iY P w K mg base H a (eB ("pairs":Str) (ps.map pW)) :=
 ⟨PA,dx,wA,_,ha,rfl,T.Cy.oc.cl,T.Jb,_,(D.up (by decide)).imp fun vs H2 Q _ ⟨e,s,q⟩=>⟨a,dx,l,m,bs,ps,e,s _ _ ha,s _ _ hl,a2.imp fun _ _ z=>z.keep s.t,h64,hn,q⟩⟩
theorem Af(T:T K mg AL LN RU OW PL PA VO MA NE fE fH rR rO rP rA rV rM rN iR iO iP iA iV iM iN fL wR wO wP wA wV wM wN SE NG NL NT)(D:Md P w K mg base 2 ["self"] (z7 MA) wM){H:Hp}{a dx l lb:Addr}{m:V}{bs:List Addr}{ps:List P3}(ha:H a=some (.ins MA dx [("many",m),("pairs",.ref l),("best",.ref lb)]))(hl:H l=some (.lst (bs.map V.ref)))(a2:A2 (cP H) bs ps)(h64:ps.length<=64)(hn:∀q∈ps,q.1<6/\q.2.1<6/\q.2.2.natAbs<10^60):iY P w K mg base H a (eB ("match":Str) (ps.map pW)) :=
 ⟨MA,dx,wM,_,ha,rfl,T.zD.oc.cl,T.Jd,_,(D.up (by decide)).imp fun vs H2 Q _ ⟨e,s,q⟩=>⟨a,dx,l,lb,m,bs,ps,e,s _ _ ha,s _ _ hl,a2.imp fun _ _ z=>z.keep s.t,h64,hn,q⟩⟩
theorem GD(T:T K mg AL LN RU OW PL PA VO MA NE fE fH rR rO rP rA rV rM rN iR iO iP iA iV iM iN fL wR wO wP wA wV wM wN SE NG NL NT)(D:Md P w K mg base 2 ["self"] (z8 NE) wN){H:Hp}{a dx l lr:Addr}{m:V}{cs:List Int}{bs:List Addr}{ps:List P3}(ha:H a=some (.ins NE dx [("many",m),("costs",.ref l),("ropes",.ref lr)]))(hl:H l=some (.lst (cs.map V.int)))(hr:H lr=some (.lst (bs.map V.ref)))(a2:A2 (cP H) bs ps)(h64:ps.length<=64)(c64:cs.length<=64)(hc:∀n∈cs,n.natAbs<10^60)(hn:∀q∈ps,q.1<6/\q.2.1<6/\q.2.2.natAbs<10^60):iY P w K mg base H a (eB ("net":Str) (cs.map nW++ps.map pW)) :=
 ⟨NE,dx,wN,_,ha,rfl,T.rJ.oc.cl,T.Je,_,(D.up (by decide)).imp fun vs H2 Q _ ⟨e,s,q⟩=>⟨a,dx,l,lr,m,cs,bs,ps,e,s _ _ ha,s _ _ hl,s _ _ hr,a2.imp fun _ _ z=>z.keep s.t,h64,c64,hc,hn,q⟩⟩
theorem nO{h:Str}{ns:List Int}:eY h ns []=eB h (ns.map nW):=by
 rw[sE];rfl
theorem kS{h:Str}{ps qs:List P3}(hp:ps.Perm qs)(hs:lC ps)(h6:∀p∈ps,p.1<6/\p.2.1<6)(ns:List Int):eY h ns qs=eB h (ns.map nW++ps.map pW):=by
 rw[sE,xK];unfold eY;rw[<- xN hp (DC hs),Aa hs h6]
theorem dC{H:Hp}{q x dx:Addr}{o u v:HO}(hq:H q=some o)(hx:H x=none)(hd:H dx=none):upd (upd H dx u) x v q=some o:=by
 rw[aK (aO hq hx),aK (aO hq hd)];exact hq
theorem eP{H:Hp}{l x dx:Addr}{u v:HO}(ne:dx≠x)(hl:upd (upd H dx u) x v l=none):H l=none:=by
 have nl:l≠x:=fun z=>by rw[z,aB] at hl;cases hl
 have nd:l≠dx:=fun z=>by rw[z,aK ne,aB] at hl;cases hl
 rw[aK nl,aK nd] at hl;exact hl
theorem A2.perm{α:Type}{R:Addr->α->Prop}{as bs:List Addr}(p:bs.Perm as):∀{xs:List α},A2 R as xs->∃ys,A2 R bs ys/\ys.Perm xs:=by
 induction p with
 | nil=>intro xs h;exact⟨xs,h,.refl _⟩
 | cons b _ ih =>
  intro xs h;cases h with
  | cons r t =>
   obtain⟨ys,h1,h2⟩:=ih t;exact⟨_,.cons r h1,h2.cons _⟩
 | swap a b l =>
  intro xs h;cases h with
  | cons r t =>
   cases t with
   | cons r2 t2=>exact⟨_,.cons r2 (.cons r t2),.swap _ _ _⟩
 | trans _ _ ih1 ih2 =>
  intro xs h;obtain⟨ys,h1,h2⟩:=ih2 h;obtain⟨zs,h3,h4⟩:=ih1 h1;exact⟨zs,h3,h4.trans h2⟩
theorem A2.uniq{H:Hp}{bs:List Addr}{ps qs:List P3}(h:A2 (cP H) bs ps)(k:A2 (cP H) bs qs):ps=qs:=by
 induction h generalizing qs with
 | nil=>cases k;rfl
 | cons r _ ih =>
  cases k with
  | cons r2 t2=>rw[r.eq r2,ih t2]
theorem DH{H:Hp}{q:Addr}{ns:List Int}{x dx:Addr}{R:VK}{E:XK}(hx:H x=none)(hd:H dx=none)(ne:dx≠x)(hq:H q=some (.lst (ns.map V.int)))(h1:1<=ns.length)(h6:ns.length<=6)
  (k:∀l H',H l=none->aI H H'->H' x=some (.ins OW dx [("many",.int (ns.length:Int)),("numbers",.ref l)])->H' l=some (.lst (ns.map V.int))->R .non H') :
  CQ K NL OW [.ref x,.ref q] (upd (upd H dx (.own x)) x (.ins OW dx [])) R E:=by
 refine⟨x,dx,q,_,rfl,aB,dC hq hx hd,jR,by rw[qAb];lia,fun no=>?_,fun _ l H' hl sb e1 e2=>?_⟩
 ·unfold okN at no;rw[qAb,decide_eq_true h1,decide_eq_true h6,all_ints] at no;cases no
 ·rw[qAb] at e1;exact k l H' (eP ne hl) (sb.made hx hd ne) e1 e2
theorem Ah{ns:List Int}{m:Nat}(hn:(0::ns).length=2^m)(h1:1<=m)(h6:m<=6):gM ((0::ns).map V.int)=true:=by
 unfold gM;rw[all_ints,qAb,hn];have:∀m:_root_.Fin 7,1<=m.1->[2,4,8,16,32,64].contains (2^m.1)=true:=by decide
 rw[this ⟨m,by lia⟩ h1];rfl
theorem xO{H:Hp}{q:Addr}{ns:List Int}{m:Nat}{x dx:Addr}{R:VK}{E:XK}(hx:H x=none)(hd:H dx=none)(ne:dx≠x)(hq:H q=some (.lst ((0::ns).map V.int)))(hn:(0::ns).length=2^m)(h1:1<=m)(h6:m<=6)
  (k:∀l H',H l=none->aI H H'->H' x=some (.ins PL dx [("many",.int (m:Int)),("earnings",.ref l)])->H' l=some (.lst ((0::ns).map V.int))->R .non H') :
  CS K NT PL [.ref x,.ref q] (upd (upd H dx (.own x)) x (.ins PL dx [])) R E:=by
 have h64:=zC h6;have ok:=Ah hn h1 h6;refine⟨x,dx,q,_,rfl,aB,dC hq hx hd,jR,by rw[qAb];lia,fun no=>?_,fun _ m' l H' m1 m6 hm' hl sb e1 e2=>?_⟩
 ·rw[ok] at no;cases no
 ·have em:m'=m:=by
   rw[qAb,hn] at hm';have inj:∀a b:_root_.Fin 7,2^a.1=2^b.1->b.1=a.1:=by decide
   exact inj ⟨m,by lia⟩ ⟨m',by lia⟩ hm'
  subst em;exact k l H' (eP ne hl) (sb.made hx hd ne) e1 e2
theorem Ai(c:Fc K RU)(n:cB K RU "many"){H:Hp}{m:Nat}{x dx:Addr}{R:VK}{E:XK}(hx:H x=none)(hd:H dx=none)(ne:dx≠x)(h1:1<=m)(h6:m<=6)
  (k:∀H',aI H H'->H' x=some (.ins RU dx [("many",.int (m:Int))])->R .non H') :
  nH K NL [.ref x,.int (m:Int)] (upd (upd H dx (.own x)) x (.ins RU dx [])) R E:=by
 have ok:kC 1 6 (.int (m:Int))=true:=by rw[fG,decide_eq_true h1,decide_eq_true h6];rfl
 refine⟨x,RU,dx,_,rfl,aB,c.cl,n,.int _,fun no=>?_,fun _=>?_⟩
 ·rw[ok] at no;cases no
 ·refine k _ (SameBut.made hx hd ne (((aI.refl _).but x).fV _)) aB
theorem xP{H:Hp}{p:Addr}{q pz:Int}{ws:List Int}{x dx:Addr}{R:VK}{E:XK}(hx:H x=none)(hd:H dx=none)(ne:dx≠x)(hp:H p=some (.lst (ws.map V.int)))(hq:1<=q)(h1:1<=ws.length)(h6:ws.length<=6)
  (k:∀(l:Addr) (H':Hp),H l=none->aI H H'->H' x=some (.ins VO dx [("many",.int (ws.length:Int)),("quota",.int q),("prize",.int pz),("weights",.ref l)])->H' l=some (.lst (ws.map V.int))->R .non H') :
  CV K NL VO [.ref x,.int q,.int pz,.ref p] (upd (upd H dx (.own x)) x (.ins VO dx [])) R E:=by
 refine⟨x,dx,p,_,_,_,rfl,aB,.int _,.int _,dC hp hx hd,jR,by rw[qAb];lia,fun no=>?_,fun _ l H' hl sb e1 e2=>?_⟩
 ·have ok:zP (.int q) (.int pz) (ws.map V.int)=true:=by
   unfold zP okN;rw[qAb,all_ints,decide_eq_true h1,decide_eq_true h6];show decide (1<=q)=true;exact decide_eq_true hq
  rw[ok] at no;cases no
 ·rw[qAb] at e1;exact k l H' (eP ne hl) (sb.made hx hd ne) e1 e2
theorem xQ{H:Hp}{q:Addr}{m:Nat}{as:List Addr}{qs:List P3}{x dx:Addr}{R:VK}{E:XK}(hx:H x=none)(hd:H dx=none)(ne:dx≠x)(hq:H q=some (.lst (as.map V.ref)))(ok:cC m H as)(a2:A2 (cP H) as qs)(h1:1<=m)(h6:m<=6)
  (k:∀(l:Addr) (bs:List Addr) (ps:List P3) (H':Hp),H l=none->aI H H'->ps.Perm qs->lC ps->A2 (cP H') bs ps->H' x=some (.ins PA dx [("many",.int (m:Int)),("pairs",.ref l)])->H' l=some (.lst (bs.map V.ref))->R .non H') :
  xA K NL PA [.ref x,.int (m:Int),.ref q] (upd (upd H dx (.own x)) x (.ins PA dx [])) R E:=by
 have ok':cC m (upd (upd H dx (.own x)) x (.ins PA dx [])) as:=ok.same fun b _ o e=>dC e hx hd;have i16:kC 1 6 (.int (m:Int))=true:=by rw[fG,decide_eq_true h1,decide_eq_true h6];rfl
 refine⟨x,dx,q,_,as,rfl,aB,.int _,dC hq hx hd,ok'.fM,by have:=ok.2.2;lia,fun no=>?_,fun m' e _=>⟨fun no=>?_,fun _ l bs H' hl p hpw sb e1 e2=>?_⟩⟩
 ·rw[i16] at no;cases no
 ·have e:=V.int.inj e;subst e;rw[ok'.ok] at no;cases no
 ·have s:=sb.made hx hd ne;have t:c9 (upd (upd H dx (.own x)) x (.ins PA dx [])) H':=fun b xs e=>sb b _ (cL e aB (fun z=>nomatch z)) e;obtain⟨ps,a3,pm⟩:=(a2.imp fun _ _ z=>z.keep s.t).perm p;exact k l bs ps H' (eP ne hl) s pm (a3.Ib (CZ t (fun a ha=>let ⟨u,v,n,e,_⟩:=ok'.1 a (p.mem_iff.mp ha);⟨_,e⟩) hpw)) a3 e1 e2
theorem xR{H:Hp}{q:Addr}{m:Nat}{as:List Addr}{qs:List P3}{x dx:Addr}{R:VK}{E:XK}(hx:H x=none)(hd:H dx=none)(ne:dx≠x)(hq:H q=some (.lst (as.map V.ref)))(ok:cC m H as)(a2:A2 (cP H) as qs)(h1:1<=m)(h6:m<=6)
  (k:∀(l lb:Addr) (bs:List Addr) (ps:List P3) (H':Hp),H l=none->H lb=none->aI H H'->ps.Perm qs->lC ps->A2 (cP H') bs ps->oT MA H' x lb m ps->(∃dx,H' x=some (.ins MA dx [("many",.int (m:Int)),("pairs",.ref l),("best",.ref lb)]))->H' l=some (.lst (bs.map V.ref))->R .non H') :
  Dc MA [.ref x,.int (m:Int),.ref q] (upd (upd H dx (.own x)) x (.ins MA dx [])) R E:=by
 have ok':cC m (upd (upd H dx (.own x)) x (.ins MA dx [])) as:=ok.same fun b _ o e=>dC e hx hd;refine⟨x,dx,q,m,as,rfl,aB,dC hq hx hd,ok',h1,h6,fun l lb bs ps H' hlb pm sb e1 e2 e3 e4 e5 hl=>?_⟩;have s:=sb.made hx hd ne;obtain⟨ps',a3,pm'⟩:=(a2.imp fun _ _ z=>z.keep s.t).perm pm;rw[a3.uniq e1] at pm';exact k l lb bs ps H' (eP ne hl) (eP ne hlb) s pm' e5 e1 e2 e3 e4
theorem DI{H:Hp}{p q:Addr}{cs:List Int}{as:List Addr}{qs:List P3}{x dx:Addr}{R:VK}{E:XK}(hx:H x=none)(hd:H dx=none)(ne:dx≠x)(hp:H p=some (.lst (cs.map V.int)))(c1:1<=cs.length)(c6:cs.length<=6)(c0:∀c∈cs,0<=c)(hq:H q=some (.lst (as.map V.ref)))(ok:cC cs.length H as)(a2:A2 (cP H) as qs)(r0:∀r∈qs,0<=r.2.2)
  (k:∀(l lr:Addr) (rs:List P3) (H':Hp),H l=none->H lr=none->aI H H'->rs.Perm qs->lC rs->nN NE H' x l lr cs rs->R .non H') :
  Dn NE [.ref x,.ref p,.ref q] (upd (upd H dx (.own x)) x (.ins NE dx [])) R E:=by
 have ok':cC cs.length (upd (upd H dx (.own x)) x (.ins NE dx [])) as:=ok.same fun b _ o e=>dC e hx hd;refine⟨x,dx,p,q,cs,as,rfl,aB,dC hp hx hd,c1,c6,c0,dC hq hx hd,ok',fun a ha r hr=>?_,fun l lr bs rs H' hl hlr pm sb e1 e2 e3=>?_⟩
 ·obtain⟨u,v,n,e,_⟩:=ok.1 a ha;have e':cP _ a (u,v,n):=dC (u:=.own x) (v:=.ins NE dx []) e hx hd;have z:=hr.eq e';obtain⟨r',hr',pr'⟩:=a2.mem.1 a ha;have z2:r'=(u,v,n):=pr'.eq e;rw[z,<- z2];exact r0 r' hr'
 ·have s:=sb.made hx hd ne;obtain⟨ps',a3,pm'⟩:=(a2.imp fun _ _ z=>z.keep s.t).perm pm;rw[a3.uniq e1] at pm';exact k l lr rs H' (eP ne hl) (eP ne hlr) s pm' e3 e2
def pC(ns:List Int):Prop:=∀n∈ns,n.natAbs<10^60
def DJ(ps:List P3):Prop:=ps.length<=15/\∀q∈ps,q.1<6/\q.2.1<6/\q.2.2.natAbs<10^60
def S7(RU OW VO PL PA MA NE:Addr)(hs:List Addr)(H:Hp)(x0 x1 x2 x3 x4 x5 x6:Addr)(m:Nat)(nu ws ro cs:List Int)(q z:Int)(p4 p5 rs:List P3):Prop :=
 (∃d,H x0=some (.ins RU d [("many",.int (m:Int))])) /\
 (∃d l,l∉hs/\H x1=some (.ins OW d [("many",.int (m:Int)),("numbers",.ref l)])/\H l=some (.lst (nu.map V.int))) /\
 (∃d l,l∉hs/\H x2=some (.ins VO d [("many",.int (m:Int)),("quota",.int q),("prize",.int z),("weights",.ref l)])/\H l=some (.lst (ws.map V.int))) /\
 (∃d l,l∉hs/\H x3=some (.ins PL d [("many",.int (m:Int)),("earnings",.ref l)])/\H l=some (.lst ((0::ro).map V.int))) /\
 (∃d l bs,l∉hs/\H x4=some (.ins PA d [("many",.int (m:Int)),("pairs",.ref l)])/\H l=some (.lst (bs.map V.ref))/\A2 (cP H) bs p4) /\
 (∃d l lb bs,l∉hs/\lb∉hs/\H x5=some (.ins MA d [("many",.int (m:Int)),("pairs",.ref l),("best",.ref lb)])/\H l=some (.lst (bs.map V.ref))/\A2 (cP H) bs p5/\oT MA H x5 lb m p5) /\
 (∃l lr,l∉hs/\lr∉hs/\nN NE H x6 l lr cs rs)
theorem S7.keep{hs:List Addr}{H H':Hp}{x0 x1 x2 x3 x4 x5 x6:Addr}{m:Nat}{nu ws ro cs:List Int}{q z:Int}{p4 p5 rs:List P3}(h:S7 RU OW VO PL PA MA NE hs H x0 x1 x2 x3 x4 x5 x6 m nu ws ro cs q z p4 p5 rs)(hl:∀a∈hs,∃ys,H a=some (.lst ys))(k:∀a o,a∉hs->H a=some o->H' a=some o):S7 RU OW VO PL PA MA NE hs H' x0 x1 x2 x3 x4 x5 x6 m nu ws ro cs q z p4 p5 rs:=by
 have k2:∀{a o},(∀ys,o≠.lst ys)->H a=some o->H' a=some o:=fun {a o} n e=>k a o (fun z=>by
  obtain⟨ys,y⟩:=hl a z;rw[e] at y;exact n ys (Option.some.inj y)) e
 have t:c9 H H':=fun b xs e=>k2 (fun _ z=>nomatch z) e;obtain⟨⟨d0,h0⟩,⟨d1,l1,n1,h1,g1⟩,⟨d2,l2,n2,h2,g2⟩,⟨d3,l3,n3,h3,g3⟩,⟨d4,l4,b4,n4,h4,g4,a4⟩,⟨d5,l5,lb,b5,n5,m5,h5,g5,a5,o5⟩,l6,lr,n6,m6,o6⟩:=h;obtain⟨dx,ll,ts,e1,e2,e3,e4⟩:=o5;obtain⟨dy,b6,f1,f2,f3,f4,f5⟩:=o6;exact⟨⟨d0,k2 (fun _ z=>nomatch z) h0⟩,⟨d1,l1,n1,k2 (fun _ z=>nomatch z) h1,k _ _ n1 g1⟩,⟨d2,l2,n2,k2 (fun _ z=>nomatch z) h2,k _ _ n2 g2⟩,⟨d3,l3,n3,k2 (fun _ z=>nomatch z) h3,k _ _ n3 g3⟩,⟨d4,l4,b4,n4,k2 (fun _ z=>nomatch z) h4,k _ _ n4 g4,a4.imp fun _ _ z=>z.keep t⟩,⟨d5,l5,lb,b5,n5,m5,k2 (fun _ z=>nomatch z) h5,k _ _ n5 g5,a5.imp fun _ _ z=>z.keep t,dx,ll,ts,k2 (fun _ z=>nomatch z) e1,k _ _ m5 e2,e3.imp fun _ _ z=>z.keep t,e4⟩,l6,lr,n6,m6,dy,b6,k2 (fun _ z=>nomatch z) f1,k _ _ n6 f2,k _ _ m6 f3,f4.imp fun _ _ z=>z.keep t,f5⟩
theorem S7.same{hs:List Addr}{H H':Hp}{x0 x1 x2 x3 x4 x5 x6:Addr}{m:Nat}{nu ws ro cs:List Int}{q z:Int}{p4 p5 rs:List P3}(h:S7 RU OW VO PL PA MA NE hs H x0 x1 x2 x3 x4 x5 x6 m nu ws ro cs q z p4 p5 rs)(k:aI H H'):S7 RU OW VO PL PA MA NE hs H' x0 x1 x2 x3 x4 x5 x6 m nu ws ro cs q z p4 p5 rs:=by
 obtain⟨⟨d0,h0⟩,⟨d1,l1,n1,h1,g1⟩,⟨d2,l2,n2,h2,g2⟩,⟨d3,l3,n3,h3,g3⟩,⟨d4,l4,b4,n4,h4,g4,a4⟩,⟨d5,l5,lb,b5,n5,m5,h5,g5,a5,o5⟩,l6,lr,n6,m6,o6⟩:=h;exact⟨⟨d0,k _ _ h0⟩,⟨d1,l1,n1,k _ _ h1,k _ _ g1⟩,⟨d2,l2,n2,k _ _ h2,k _ _ g2⟩,⟨d3,l3,n3,k _ _ h3,k _ _ g3⟩,⟨d4,l4,b4,n4,k _ _ h4,k _ _ g4,a4.imp fun _ _ z=>z.keep k.t⟩,⟨d5,l5,lb,b5,n5,m5,k _ _ h5,k _ _ g5,a5.imp fun _ _ z=>z.keep k.t,o5.same k⟩,l6,lr,n6,m6,o6.same k⟩
theorem Iw{α:Type}{a b c d e f g v:α}{Pr:Nat->α->Prop}(h0:Pr 0 a)(h1:Pr 1 b)(h2:Pr 2 c)(h3:Pr 3 d)(h4:Pr 4 e)(h5:Pr 5 f)(h6:Pr 6 g):∀(i:Nat),[a,b,c,d,e,f,g][i]?=some v->Pr i v
 | 0,z=>by cases z;exact h0
 | 1,z=>by cases z;exact h1
 | 2,z=>by cases z;exact h2
 | 3,z=>by cases z;exact h3
 | 4,z=>by cases z;exact h4
 | 5,z=>by cases z;exact h5
 | 6,z=>by cases z;exact h6
 | i+7,z=>by cases z
theorem S7.words(T:T K mg AL LN RU OW PL PA VO MA NE fE fH rR rO rP rA rV rM rN iR iO iP iA iV iM iN fL wR wO wP wA wV wM wN SE NG NL NT)(D_RW:Md P w K mg base 1 ["self"] z5 wR)(D_OWo:Md P w K mg base 2 ["self"] (sA OW) wO)(D_VW:Md P w K mg base 2 ["self"] (z6 VO) wV)(D_PlW:Md P w K mg base 2 ["self"] (sC PL) wP)(D_PaW:Md P w K mg base 2 ["self"] (sD PA) wA)(D_MW:Md P w K mg base 2 ["self"] (z7 MA) wM)(D_NW:Md P w K mg base 2 ["self"] (z8 NE) wN)
  {hs:List Addr}{H:Hp}{x0 x1 x2 x3 x4 x5 x6:Addr}{m:Nat}{nu ws ro cs:List Int}{q z:Int}{p4 p5 rs:List P3} (h:S7 RU OW VO PL PA MA NE hs H x0 x1 x2 x3 x4 x5 x6 m nu ws ro cs q z p4 p5 rs)
  (b1:pC nu) (c1:nu.length<=62) (b2:pC (q::z::ws)) (c2:ws.length<=62) (b3:pC ro) (c3:ro.length<=64) (b4:DJ p4) (b5:DJ p5) (b6:pC cs) (c6:cs.length<=62) (b7:DJ rs) (i:Nat) (a:Addr) (tx:Str) (ha:[x0,x1,x2,x3,x4,x5,x6][i]?=some a) (ht:[("none":Str),eB ("own":Str) (nu.map nW),eB ("votes":Str) ((q::z::ws).map nW),eB ("table":Str) (ro.map nW),eB ("pairs":Str) (p4.map pW),eB ("match":Str) (p5.map pW),eB ("net":Str) (cs.map nW++rs.map pW)][i]?=some tx):iY P w K mg base H a tx:=by
 obtain⟨⟨d0,h0⟩,⟨d1,l1,n1,h1,g1⟩,⟨d2,l2,n2,h2,g2⟩,⟨d3,l3,n3,h3,g3⟩,⟨d4,l4,b4',n4,h4,g4,a4⟩,⟨d5,l5,lb,b5',n5,m5,h5,g5,a5,o5⟩,l6,lr,n6,m6,dy,b6',f1,f2,f3,f4,f5⟩:=h;have l15:∀{k:Nat},k<=15->k<=64:=fun h=>by lia
 have w0:=DG T D_RW h0;have w1:=GC T D_OWo h1 g1 (by lia) b1;have w2:=Ac T D_VW h2 g2 c2 b2;have w3:=Ad T D_PlW h3 g3 c3 b3;have w4:=Ae T D_PaW h4 g4 a4 (l15 b4.1) b4.2;have w5:=Af T D_MW h5 g5 a5 (l15 b5.1) b5.2;have w6:=GD T D_NW f1 f2 f3 f4 (l15 b7.1) (by lia) b6 b7.2;have z:=Iw (v:=a) (Pr:=fun i a=>∀tx,[("none":Str),eB ("own":Str) (nu.map nW),eB ("votes":Str) ((q::z::ws).map nW),eB ("table":Str) (ro.map nW),eB ("pairs":Str) (p4.map pW),eB ("match":Str) (p5.map pW),eB ("net":Str) (cs.map nW++rs.map pW)][i]?=some tx->iY P w K mg base H a tx)
  (fun tx e=>Option.some.inj e▸w0) (fun tx e=>Option.some.inj e▸w1) (fun tx e=>Option.some.inj e▸w2) (fun tx e=>Option.some.inj e▸w3) (fun tx e=>Option.some.inj e▸w4) (fun tx e=>Option.some.inj e▸w5) (fun tx e=>Option.some.inj e▸w6) i ha
 exact z tx ht
theorem S7.rules(T:T K mg AL LN RU OW PL PA VO MA NE fE fH rR rO rP rA rV rM rN iR iO iP iA iV iM iN fL wR wO wP wA wV wM wN SE NG NL NT)(D_RR:Md P w K mg base 1 ["self","group"] zL rR)(D_OR:Md P w K mg base 6 ["self","group"] (zM OW) rO)(D_VR:Md P w K mg base 6 ["self","group"] (zQ VO) rV)(D_PR:Md P w K mg base 1 ["self","group"] (zO PL) rP)(D_PaR:Md P w K mg base 2 ["self","group"] (rS PA) rA)(D_MR:Md P w K mg base 1 ["self","group"] (zR MA) rM)(D_NRk:Md P w K mg base 5 ["self","group"] (rZ NE) rN)
  {hs:List Addr}{H:Hp}{x0 x1 x2 x3 x4 x5 x6:Addr}{m:Nat}{nu ws ro cs:List Int}{q z:Int}{p4 p5 rs:List P3} (h:S7 RU OW VO PL PA MA NE hs H x0 x1 x2 x3 x4 x5 x6 m nu ws ro cs q z p4 p5 rs)
  (m1:1<=m) (m6:m<=6) (c1:nu.length=m) (c2:ws.length=m) (c3:(0::ro).length=2^m) (b4:DJ p4) (c6:cs.length=m) (i:Nat) (a:Addr) (ha:[x0,x1,x2,x3,x4,x5,x6][i]?=some a):∃e,lB P w K mg base fE fH RU H a m e:=by
 obtain⟨⟨d0,h0⟩,⟨d1,l1,n1,h1,g1⟩,⟨d2,l2,n2,h2,g2⟩,⟨d3,l3,n3,h3,g3⟩,⟨d4,l4,b4',n4,h4,g4,a4⟩,⟨d5,l5,lb,b5',n5,m5,h5,g5,a5,o5⟩,l6,lr,n6,m6',o6⟩:=h;refine Iw (v:=a) (Pr:=fun i a=>∃e,lB P w K mg base fE fH RU H a m e) ⟨_,wZ D_RR T.GO h0 m1 m6⟩ ?_ ?_ ⟨_,tV D_PR T.Cw h3 g3 c3 m1 m6⟩ ⟨_,tX D_PaR T.Cy h4 g4 (by rw[a4.len];have:=b4.1;lia) (fun b hb=>?_) m1 m6⟩ ⟨_,uD D_MR T.zD o5⟩ ?_ i ha
 ·subst c1;exact⟨_,zN D_OR T.Cv h1 g1 m1 m6⟩
 ·subst c2;exact⟨_,tY D_VR T.tR h2 g2 m1 m6⟩
 ·obtain⟨p,hp,z⟩:=a4.mem.1 b hb;obtain⟨z1,z2,_⟩:=b4.2 p hp;exact⟨_,_,_,z,z1,z2⟩
 ·subst c6;exact⟨_,zZ D_NRk T.rJ o6⟩
theorem Aj:∀m:_root_.Fin 7,1<=m.1->jN [V.int 2,V.int 4,V.int 8,V.int 16,V.int 32,V.int 64] ((m.1:Int)-1)=some (.int ((2^m.1:Nat):Int)):=by decide
def sG(K:qAa):Sp:=fun vs H Q _=>∃(a:Addr) (ns:List Int),vs=[.ref a]/\aT K H a (ns.map V.int)/\ns.length<=63/\∀H',Q (.bl true) H'
def gO(p:P3):P3:=(p.1,p.2.1,if p.2.2<0 then -p.2.2 else p.2.2)
theorem A2.AU{S:Addr->P3->Prop}:∀{ys:List V}{ps:List P3},ys.length=ps.length->(∀(i:Nat) (y:V),ys[i]?=some y->∃(b:Addr) (p:P3),y=V.ref b/\ps[i]?=some p/\S b (gO p))->∃cs,ys=cs.map V.ref/\A2 S cs (ps.map gO)
 | [],[],_,_=>⟨[],rfl,.nil⟩
 | [],p::ps,h,_=>by cases h
 | y::ys,[],h,_=>by cases h
 | y::ys,p::ps,h,k=>by
  obtain⟨b,p',rfl,e,s⟩:=k 0 y rfl;cases e;obtain⟨cs,rfl,t⟩:=A2.AU (Nat.succ.inj h) fun i y e=>k (i+1) y e;exact⟨b::cs,rfl,.cons s t⟩
theorem A2.cS{H:Hp}{bs:List Addr}{ps:List P3}(h:A2 (cP H) bs ps):(bs.map fun b=>cS (cY H b))=ps.map fun p=>((p.1:Int),(p.2.1:Int)):=by
 induction h with
 | nil=>rfl
 | cons r _ ih =>
  rw[qBk,qBk,ih,bN (show _=some (HO.tup [.int _,.int _,.int _]) from r)];rfl
theorem cC.Il{m:Nat}{H H':Hp}{bs cr:List Addr}{qs:List P3}(ok:cC m H bs)(a:A2 (cP H) bs qs)(b:A2 (cP H) cr (qs.map gO))(t:c9 H H'):cC m H' cr:=by
 have b':A2 (cP H') cr (qs.map gO):=b.imp fun _ _ z=>z.keep t;refine⟨fun c hc=>?_,?_,by rw[b.len,qAb,<- a.len];exact ok.2.2⟩
 ·obtain⟨p,hp,z⟩:=b'.mem.1 c hc;obtain⟨q,hq,rfl⟩:=List.mem_map.mp hp;obtain⟨d,hd,y⟩:=a.mem.2 q hq;obtain⟨u,v,n,e,z1,z2⟩:=ok.1 d hd;have y2:q=(u,v,n):=y.eq e;subst y2;exact⟨u,v,_,z,z1,z2⟩
 ·have e:=ok.2.1;rw[a.cS] at e;rw[b'.cS,qBw];exact e
theorem iZ{F:St->Hp->Prop}{σ σ':St}{H:Hp}(e:σ=σ')(h:F σ' H):F σ H:=e▸h
theorem dD:aL ["_law_script","_law_first","_law_many","_law_size","_law_far","_law_numbers","_law_votes","_law_quota","_law_row_here","_law_pairs_here","_law_ropes","_law_costs","_law_due","_law_handed","_law_rules","_law_one","_law_rule"] ["_law_script"] (aD Ct):=by constructor<;>first|rfl|decide +kernel
theorem DK{f1 f2 f3 f4 f5:Addr}{fd1 fd2 fd3 fd4 fd5:qAz}(t:Tx K mg "law" Ct ["_law_script"] f fd)(T:T K mg AL LN RU OW PL PA VO MA NE fE fH rR rO rP rA rV rM rN iR iO iP iA iV iM iN fL wR wO wP wA wV wM wN SE NG NL NT)
  (D_law_cell:Df P w K mg base cI 1 "_law_cell" ["_law_script","_law_k"] (AO K) f1 fd1) (D_law_row:Df P w K mg base cI 1 "_law_row" ["_law_script","_law_many","_law_far","_law_by"] (xJ K) f2 fd2)
  (D_law_pairs:Df P w K mg base cI 2 "_law_pairs" ["_law_script","_law_many","_law_far","_law_cell_here"] (AQ K) f3 fd3) (D_law_written:Df P w K mg base cI 1 "_law_written" ["_law_word","_law_numbers","_law_pairs_here"] AR f4 fd4)
  (D_law_told:Df P w K mg base cI 4 "_law_told" ["_law_rules","_law_due","_law_start"] (AS P w K mg base) f5 fd5)
  (D_RI:Md P w K mg base 4 ["self","many"] (nH K NL) iR) (D_OI:Md P w K mg base 5 ["self","numbers"] (CQ K NL OW) iO) (D_PI:Md P w K mg base 5 ["self","table"] (CS K NT PL) iP)
  (D_PaI:Md P w K mg base 5 ["self","many","pairs"] (xA K NL PA) iA) (D_VI:Md P w K mg base 5 ["self","quota","prize","weights"] (CV K NL VO) iV)
  (D_RW:Md P w K mg base 1 ["self"] z5 wR) (D_OWo:Md P w K mg base 2 ["self"] (sA OW) wO) (D_VW:Md P w K mg base 2 ["self"] (z6 VO) wV) (D_PlW:Md P w K mg base 2 ["self"] (sC PL) wP) (D_PaW:Md P w K mg base 2 ["self"] (sD PA) wA) (D_MW:Md P w K mg base 2 ["self"] (z7 MA) wM) (D_NW:Md P w K mg base 2 ["self"] (z8 NE) wN)
  (D_RR:Md P w K mg base 1 ["self","group"] zL rR) (D_OR:Md P w K mg base 6 ["self","group"] (zM OW) rO) (D_VR:Md P w K mg base 6 ["self","group"] (zQ VO) rV) (D_PR:Md P w K mg base 1 ["self","group"] (zO PL) rP) (D_PaR:Md P w K mg base 2 ["self","group"] (rS PA) rA) (D_MR:Md P w K mg base 1 ["self","group"] (zR MA) rM) (D_NRk:Md P w K mg base 5 ["self","group"] (rZ NE) rN)
  (D_E:Md P w K mg base 7 ["self","group"] (AF P w K mg base fE fH RU NG) fE)
  (D_MI:Md P w K mg base 7 ["self","many","pairs"] (Dc MA) iM) (D_NI:Md P w K mg base 5 ["self","costs","ropes"] (Dn NE) iN) :
  Df P w K mg base cI 10 "law" ["_law_script"] (sG K) f fd:=by
 refine t.lR dD (fun vs H Q E h=>?_) (fun cdv A outer s H vs Q E hr h=>?_)
 ·obtain⟨a,ns,rfl,_⟩:=h;rfl
 ·obtain⟨a,ns,rfl,hq,hns,k⟩:=h;refine⟨_,(aE (aX (i:=1) dD.nd rfl cF (aM dY (aM dO (bA D_law_cell hr (by decide) (by rfl) (aA (pv 0) (aA aG aC))) aG) aG))
   (aE (aX (i:=2) dD.nd rfl (by first|exact .inl rfl|exact .inr rfl) (aM cN aG (aM dY (bA D_law_cell hr (by decide) (by rfl) (aA (pv 0) (aA aG aC))) aG)))
   (aE (aX (i:=3) dD.nd rfl cF (aZ bE (bK (aA aG (aA aG (aA aG (aA aG (aA aG (aA aG aC))))))) (aM e8 (pv 2) aG) (fun _ _=>rfl)))
   (aE (aX (i:=4) dD.nd rfl (by first|exact .inl rfl|exact .inr rfl) (aZ bE (bK (aA aG (aA (aM jW aG aG) (aA (aM jW aG aG) (aA (aM jW aG aG) aC))))) (aM dY (aM gF (pv 1) aG) aG) (fun _ _=>rfl)))
   (aE (aX (i:=5) dD.nd rfl cF (bA D_law_row hr (by decide) (by rfl) (aA (pv 0) (aA (pv 2) (aA (pv 4) (aA aG aC))))))
   (aE (aX (i:=6) dD.nd rfl cF (bA D_law_row hr (by decide) (by rfl) (aA (pv 0) (aA (aM cN (pv 2) aG) (aA (pv 4) (aA aG aC))))))
   (aE (aX (i:=7) dD.nd rfl cF (aM cN aG (aM dY (aV jY (by rfl) T.kK pU (aA (aZ bE (pv 6) aG (fun _ _=>rfl)) aC)) (pv 4))))
   (aE (aX (i:=8) dD.nd rfl cF (bA D_law_row hr (by decide) (by rfl) (aA (pv 0) (aA (aM e8 (pv 3) aG) (aA (pv 4) (aA aG aC))))))
   (aE (aX (i:=9) dD.nd rfl (by first|exact .inl rfl|exact .inr rfl) (bA D_law_pairs hr (by decide) (by rfl) (aA (pv 0) (aA (pv 2) (aA (pv 4) (aA (aM gF (pv 1) aG) aC))))))
   (aE (jO (NB:=["_law_one","_law_other","_law_number"]) (pick:=[none,none,none]) (i:=10) dD.nd rfl cF (by rfl) (cO (by with_unfolding_all rfl) (by exact trivial) rfl (by decide +kernel) (by decide +kernel) (by rfl) (by rfl)) rfl
     (bP (pv 9)) (fun _ _ _=>(show PG _ _ (uP K 3 (fJ (bQ 0) (fJ (bQ 1) (fJ (bQ 2) uO)))) from jU rfl (bT (aQ (i:=0) (show(["_law_one","_law_other","_law_number"]:List Str).Nodup from by decide +kernel) rfl cF) (bT (aQ (i:=1) (show(["_law_one","_law_other","_law_number"]:List Str).Nodup from by decide +kernel) rfl cF) (bT (aQ (i:=2) (show(["_law_one","_law_other","_law_number"]:List Str).Nodup from by decide +kernel) rfl cF) g9)))))
     (fun _ _ _=>cJ) (fun _ _ _=>(e9 (aA (pv 0) (aA (pv 1) (aA (aV jY (by rfl) T.kK pU (aA (pv 2) aC)) aC))))))
   (aE (jO (NB:=["_law_number"]) (pick:=[none]) (i:=11) dD.nd rfl cF (by rfl) (cO (by with_unfolding_all rfl) (by exact trivial) rfl (by decide +kernel) (by decide +kernel) (by rfl) (by rfl)) rfl
     (bP (bA D_law_row hr (by decide) (by rfl) (aA (pv 0) (aA (pv 2) (aA (pv 4) (aA aG aC)))))) (fun _ _ _=>aQ (i:=0) (show(["_law_number"]:List Str).Nodup from by decide +kernel) rfl cF)
     (fun _ _ _=>cJ) (fun _ _ _=>(aV jY (by rfl) T.kK pU (aA (pv 0) aC))))
   (aE (aX (i:=12) dD.nd rfl cF (bK (aA a8 (aA (bA D_law_written hr (by decide) (by rfl) (aA a8 (aA (pv 5) (aA (bK aC) aC)))) (aA (bA D_law_written hr (by decide) (by rfl) (aA a8 (aA (aM cD (bK (aA (pv 7) aC)) (eK hV (pv 6) (fD aG) fB)) (aA (bK aC) aC)))) aC)))))
   (aE (aX (i:=12) dD.nd rfl cF (aM cD (pv 12) (bK (aA (bA D_law_written hr (by decide) (by rfl) (aA a8 (aA (pv 8) (aA (bK aC) aC)))) (aA (bA D_law_written hr (by decide) (by rfl) (aA a8 (aA (bK aC) (aA (pv 9) aC)))) (aA (bA D_law_written hr (by decide) (by rfl) (aA a8 (aA (bK aC) (aA (pv 9) aC)))) aC))))))
   (aE (bC (fQ qCt qDu qDt fF (pv 12) (aA (bA D_law_written hr (by decide) (by rfl) (aA a8 (aA (pv 11) (aA (pv 10) aC)))) aC)))
   (aE (aX (i:=13) dD.nd rfl cF (bK (aA (bJ bM (by rfl) T.dA dQ (aA (pv 5) aC)) (aA (eK hV (pv 6) (fD aG) fB) (aA (aM cD (bK (aA aG aC)) (pv 8)) (aA (bJ bM (by rfl) T.dA dQ (aA (pv 9) aC)) (aA (bJ bM (by rfl) T.dA dQ (aA (pv 9) aC)) (aA (bJ bM (by rfl) T.dA dQ (aA (pv 11) aC)) (aA (bJ bM (by rfl) T.dA dQ (aA (pv 10) aC)) aC)))))))))
   (aE (aX (i:=14) dD.nd rfl cF (bK (aA (eL cU T.IP D_RI hr (by decide) (by rfl) T.wK (aA (pv 2) aC)) (aA (eL cU T.IQ D_OI hr (by decide) (by rfl) T.Fm (aA (aZ bE (pv 13) aG (fun _ _=>rfl)) aC)) (aA (eL cU T.IU D_VI hr (by decide) (by rfl) T.Fp (aA (pv 7) (aA (aZ bE (pv 6) aG (fun _ _=>rfl)) (aA (aZ bE (pv 13) aG (fun _ _=>rfl)) aC)))) (aA (eL cU T.IS D_PI hr (by decide) (by rfl) T.Fn (aA (aZ bE (pv 13) aG (fun _ _=>rfl)) aC)) aC))))))
   (aE (aX (i:=14) dD.nd rfl cF (aM cD (pv 14) (bK (aA (eL cU T.IT D_PaI hr (by decide) (by rfl) T.Fo (aA (pv 2) (aA (aZ bE (pv 13) aG (fun _ _=>rfl)) aC))) (aA (eL cU T.IV D_MI hr (by decide) (by rfl) T.Fq (aA (pv 2) (aA (aZ bE (pv 13) aG (fun _ _=>rfl)) aC))) (aA (eL cU T.IW D_NI hr (by decide) (by rfl) T.Ft (aA (aZ bE (pv 13) aG (fun _ _=>rfl)) (aA (aZ bE (pv 13) aG (fun _ _=>rfl)) aC))) aC))))))
   (aE (dG (eZ (dX (bA D_law_told hr (by decide) (by rfl) (aA (pv 14) (aA (pv 12) (aA (aM gF (pv 1) aG) aC)))))) (aH (aU nU)) bO)
   (aE (dM PassesOwn.never rfl (bP (pv 13)) (aQ (i:=15) dD.nd rfl (by first|exact .inl rfl|exact .inr rfl))
    (aH (bC (vC qCt PySem.F.slot_list_clear PySem.F.type_list_clear tG (pv 15)))))
   (aE (dM PassesOwn.never rfl (bP (pv 14)) (aQ (i:=16) dD.nd rfl cF)
    (aH (bC (kD (k:=7) cU (pv 16) hr (by decide) (aA (aM e8 (pv 3) aG) aC)))))
   (aH (aU (bA D_law_told hr (by decide) (by rfl) (aA (pv 14) (aA (pv 12) (aA (aM gF (pv 1) aG) aC)))))))))))))))))))))))))),?_⟩
  refine⟨_,rfl,a,ns,rfl,hq,fun c=>⟨_,_,rfl,rfl,.inr ⟨by decide,by decide⟩,_,_,rfl,rfl,(by show(0:Int)<2147483647;decide),?_⟩⟩;obtain⟨fi,hfi,f0,f1⟩:∃fi:Int,c*48271%2147483647=fi/\0<=fi/\fi<2147483647:=⟨_,rfl,qEf _ (by decide),qEg _ (by decide)⟩;show bQ 1 (V.int (c*48271%2147483647)) _ _ _;rw[hfi];refine⟨_,rfl,a,ns,rfl,hq,fun c2=>⟨_,_,rfl,rfl,(by show(0:Int)<6;decide),_,_,rfl,rfl,?_⟩⟩;obtain⟨m,hm,m1,m6⟩:∃m:Nat,1+c2%6=(m:Int)/\1<=m/\m<=6:=⟨(1+c2%6).toNat,by lia,by lia,by lia⟩;show bQ 2 (V.int (1+c2%6)) _ _ _;rw[hm];have h64:=zC m6;have hpos:0<2^m:=Nat.two_pow_pos m;refine⟨by show 6<=qAj;decide,fun lz hlz=>⟨_,rfl,_,_,rfl,rfl,lz,_,_,_,rfl,rfl,aT.of aB,Aj ⟨m,by lia⟩ m1,?_⟩⟩;have s0:=aI.aJ (o:=.lst [V.int 2,V.int 4,V.int 8,V.int 16,V.int 32,V.int 64]) hlz;generalize upd H lz _=H0 at s0|-;refine⟨_,_,rfl,rfl,⟨by decide,by decide,by decide⟩,_,_,rfl,rfl,⟨by decide,by decide,by decide⟩,_,_,rfl,rfl,⟨by decide,by decide,by decide⟩,by show 4<=qAj;decide,fun lf hlf=>?_⟩;refine⟨_,rfl,_,_,rfl,rfl,⟨by decide,by decide⟩,_,_,rfl,rfl,(by show(0:Int)<4;decide),?_⟩;obtain⟨v,hv,hvm⟩:=BD (xs:=[V.int 3,V.int ((10:Int)^(6:Int).toNat),V.int ((10:Int)^(18:Int).toNat),V.int ((10:Int)^(59:Int).toNat)]) (i:=fi/6%4) (by lia) (by show fi/6%4<4;lia);obtain⟨far,rfl,hfar,far9⟩:∃far:Int,v = .int far/\0<far/\far<=10^59:=by
   simp only[qDe,qBs,or_false] at hvm;rcases hvm with rfl | rfl | rfl | rfl
   ·exact⟨_,rfl,by decide,by decide⟩
   ·exact⟨_,rfl,by decide,by decide⟩
   ·exact⟨_,rfl,by decide,by decide⟩
   ·exact⟨_,rfl,by decide,by decide⟩
  refine⟨lf,_,_,_,rfl,rfl,aT.of aB,hv,?_⟩;have s1:=s0.trans (aI.aJ (o:=.lst [V.int 3,V.int ((10:Int)^(6:Int).toNat),V.int ((10:Int)^(18:Int).toNat),V.int ((10:Int)^(59:Int).toNat)]) hlf);generalize upd H0 lf _=H1 at s1|-;clear hlf s0 hlz hvm hv;have small:∀r:Int,-far<=r/\r<=far->r.natAbs<10^60:=fun r h=>by lia
  refine⟨_,rfl,_,rfl,_,rfl,a,ns,m,far,5,rfl,s1.seq hq,hns,m1,by lia,hfar,by decide,by decide,fun ln nu H2 nuL nuB ln0 s2 hln=>?_⟩;refine⟨_,rfl,_,rfl,_,_,rfl,rfl,_,rfl,a,ns,m+2,far,3,rfl,(s1.trans s2).seq hq,hns,by lia,by lia,hfar,by decide,by decide,fun lv vo H3 voL voB lv0 s3 hlv=>?_⟩;have sv:=s1.trans (s2.trans s3);have v0L:0<vo.length:=by lia
  have at0:jN (vo.map V.int) 0=some (.int vo[0]):=bU (j:=0) (by rw[qAu,qAf v0L];rfl);refine⟨_,rfl,lv,_,_,_,rfl,rfl,aT.of hlv,at0,_,rfl,_,rfl,_,_,rfl,rfl,hfar,_,_,rfl,rfl,?_⟩;obtain⟨qu,hqu,qu1,quf⟩:∃qu:Int,1+(if vo[0]<0 then -vo[0] else vo[0])%far=qu/\1<=qu/\qu<=far :=
   ⟨_,rfl,by have:=qEf (if vo[0]<0 then -vo[0] else vo[0]) (b:=far) (by lia);lia,by have:=qEg (if vo[0]<0 then -vo[0] else vo[0]) hfar;lia⟩
  show bQ 7 (V.int (1+(if vo[0]<0 then -vo[0] else vo[0])%far)) _ _ _;rw[hqu];have e2m:((2^m:Nat):Int)-1=((2^m-1:Nat):Int):=by lia
  have m2:2<=2^m:=qBf (by decide:2<=2^1) (qCq (by decide) m1);refine⟨_,rfl,_,rfl,_,_,rfl,rfl,_,rfl,a,ns,2^m-1,far,2,(by rw[<- e2m];rfl),sv.seq hq,hns,by lia,by lia,hfar,by decide,by decide,fun lw ro H4 roL roB lw0 s4 hlw=>?_⟩;have s14:=sv.trans s4;refine⟨_,rfl,_,rfl,_,rfl,_,rfl,_,_,rfl,rfl,⟨by decide,by decide⟩,a,ns,m,far,_,rfl,s14.seq hq,hns,m6,hfar,fun lp bs H5 lp0 s5 hlp ok bd=>?_⟩;have s15:=s14.trans s5;dsimp only[bQ];refine iZ (σ':=[some (.ref a),some (.int fi),some (.int (m:Int)),some (.int ((2^m:Nat):Int)),some (.int far),some (.ref ln),some (.ref lv),some (.int qu),some (.ref lw),some (.ref lp),none,none,none,none,none,none,none]) rfl ?_;obtain⟨qs,a5,wq⟩:=ok.pw;have h15:=ok.2.2;have hbl:bs.length=qs.length:=a5.len;refine⟨_,rfl,lp,rfl,⟨_,aT.of hlp⟩,?_⟩;refine p7 (xs:=bs.map V.ref) (fun σ'=>∃o0 o1 o2:Option V,σ'=[o0,o1,o2]) (fun i y H=>∃(b:Addr) (p:P3),y = .ref b/\qs[i]?=some p/\cP H b (gO p)) (fun i y H H' t ⟨b,p,e1,e2,e3⟩=>⟨b,p,e1,e2,e3.keep t⟩) ⟨_,_,_,rfl⟩ (aT.of hlp) (by rw[qAb];exact qBp (aW (by lia))) (fun i x σ1 H2 kk kk0 hσ s2 hx g1=>?_) fun lr ys H6 hlr s6 hyl hyR hr6=>?_
  ·obtain⟨o0,o1,o2,rfl⟩:=hσ;obtain⟨b,e,rfl⟩:=at_of hx;obtain⟨q,hq',r⟩:=a5.Dt i b e;refine⟨b,_,rfl,dE.of (s2 _ _ r),rfl,_,_,rfl,_,_,rfl,_,_,rfl,rfl,?_⟩;exact⟨_,rfl,_,rfl,_,rfl,_,rfl,GF,fun tt htt=>g1 _ _ _ ⟨_,_,_,rfl⟩ (.aJ htt) ⟨tt,q,rfl,hq',aB⟩⟩
  rw[qAb,hbl] at hyl;obtain⟨cr,rfl,a6⟩:=A2.AU hyl hyR;refine⟨_,rfl,_,rfl,_,rfl,a,ns,m,far,11,rfl,(s15.trans s6).seq hq,hns,m1,by lia,hfar,by decide,by decide,fun l7 c0 H7 c0L c0B l70 s7 h7=>⟨l7,rfl,⟨_,aT.of h7⟩,?_⟩⟩;refine cR (xs:=c0.map V.int) (fun _ x=>match x with | .int n=>some (.int (if n<0 then -n else n)) | _=>none) (aT.of h7) (by rw[qAb,c0L];exact qBp (aW (by lia))) (fun i x H2 kk kk0 s2 hx g1 g2=>?_) fun lc H8 hlc s8 hd=>?_
  ·obtain⟨n,_,rfl⟩:=List.mem_map.mp (qAy hx);exact⟨_,rfl,_,rfl,g1 _ rfl _ (.refl _)⟩
  obtain⟨cs,csL,cs0,csB,ec⟩:∃cs:List Int,cs.length=m/\(∀c∈cs,0<=c)/\pC cs/\H8 lc=some (.lst (cs.map V.int)):=by
   refine⟨c0.map fun n=>if n<0 then -n else n,by rw[qAb];exact c0L,fun n hn=>?_,fun n hn=>?_,?_⟩
   ·obtain⟨y,hy,rfl⟩:=List.mem_map.mp hn;lia
   ·obtain⟨y,hy,rfl⟩:=List.mem_map.mp hn;have:=small y (c0B y hy);lia
   ·rw[hd,c8,qBx,qBw,<- qDf];rfl
  have s58:=s6.trans (s7.trans s8);have s48:=s5.trans s58;have e_n:=(s3.trans (s4.trans s48)) _ _ hln;have e_v:=(s4.trans s48) _ _ hlv;have e_w:=s48 _ _ hlw;have e_p:=s58 _ _ hlp;have e_r:=(s7.trans s8) _ _ hr6;have A8:A2 (cP H8) bs qs:=a5.imp fun _ _ z=>z.keep s58.t;have B8:A2 (cP H8) cr (qs.map gO):=a6.imp fun _ _ z=>z.keep (s7.trans s8).t;have ok8:cC m H8 bs:=ok.same fun b _ o e=>s58 b o e;have qB:∀r∈qs,r.1<6/\r.2.1<6/\r.2.2.natAbs<10^60:=fun r hr=>by
   obtain⟨b,hb,z⟩:=a5.mem.2 r hr;have:=wq.1 r hr;exact⟨by lia,by lia,small _ (bd b hb r z)⟩
  have rB:∀r∈qs.map gO,r.1<6/\r.2.1<6/\r.2.2.natAbs<10^60/\0<=r.2.2:=fun r hr=>by
   obtain⟨y,hy,rfl⟩:=List.mem_map.mp hr;obtain⟨z1,z2,z3⟩:=qB y hy;refine⟨z1,z2,?_,?_⟩
   ·show(if y.2.2<0 then -y.2.2 else y.2.2).natAbs<_;lia
   ·show 0<=(if y.2.2<0 then -y.2.2 else y.2.2);lia
  have q15:qs.length<=15:=by lia
  clear hyR hyl hr6 hlr hlp hlw hlv hln h7 l70 hd hlc bd a5 a6 ok s2 s3 s4 s5 s6 s7 s8 s58 s48 s14 s15 sv s1 lp0 lw0 lv0 ln0 c0B c0L
  dsimp only;refine iZ (σ':=[some (.ref a),some (.int fi),some (.int (m:Int)),some (.int ((2^m:Nat):Int)),some (.int far),some (.ref ln),some (.ref lv),some (.int qu),some (.ref lw),some (.ref lp),some (.ref lr),some (.ref lc),none,none,none,none,none]) rfl ?_;clear hqu at0 v0L;obtain⟨v0,v1,ws,rfl,wsL⟩:∃v0 v1 ws,vo=v0::v1::ws/\ws.length=m:=by
   match vo,voL with
   | v0::v1::ws,h=>exact⟨v0,v1,ws,rfl,by simpa using h⟩
  have ec1:eA ((v0::v1::ws).map V.int) (some 1) none=(v1::ws).map V.int:=nE ((v0::v1::ws).map V.int) 1;have ec2:eA ((v0::v1::ws).map V.int) (some 2) none=ws.map V.int:=nE ((v0::v1::ws).map V.int) 2;have nuS:pC nu:=fun r hr=>small r (nuB r hr);have voS:pC (qu::v1::ws):=fun r hr=>by
   rcases List.mem_cons.mp hr with rfl | hr
   ·lia
   ·exact small r (voB r (qBa _ hr))
  have roS:pC ro:=fun r hr=>small r (roB r hr);have no15:∀r∈([]:List P3),r.1<6/\r.2.1<6/\r.2.2.natAbs<10^60:=fun r hr=>by cases hr
  have rB':∀r∈qs.map gO,r.1<6/\r.2.1<6/\r.2.2.natAbs<10^60:=fun r hr=>⟨(rB r hr).1,(rB r hr).2.1,(rB r hr).2.2.1⟩;have r15:(qs.map gO).length<=15:=by rw[qAb];exact q15
  clear nuB voB roB
  have wl:∀{k:Nat},k<=64->k<=qAj:=fun h=>qBf h (by decide);refine⟨_,rfl,wl (by show 0<=64;decide),fun y0 hy0=>?_⟩;have u0:=aI.aJ (o:=.lst []) hy0;have f0:upd H8 y0 (.lst []) y0=some (.lst []):=aB;generalize upd H8 y0 (.lst [])=G0 at u0 f0|-;refine⟨("own":Str),ln,y0,nu,[],[],rfl,by decide,u0 _ _ e_n,by lia,nuS,f0,.nil,by decide,no15,?_⟩;refine⟨_,rfl,wl (by show 1<=64;decide),fun y1 hy1=>?_⟩;have u1:=aI.aJ (o:=.lst [V.int qu]) hy1;have f1':upd G0 y1 (.lst [V.int qu]) y1=some (.lst [V.int qu]):=aB;generalize upd G0 y1 (.lst [V.int qu])=G1 at u1 f1'|-;refine⟨_,rfl,1,rfl,lv,_,rfl,aT.of (u1 _ _ (u0 _ _ e_v)),fun y2 hy2=>?_⟩;rw[ec1];have u2:=aI.aJ (o:=.lst ((v1::ws).map V.int)) hy2;have f2:upd G1 y2 (.lst ((v1::ws).map V.int)) y2=some (.lst ((v1::ws).map V.int)):=aB;generalize upd G1 y2 (.lst ((v1::ws).map V.int))=G2 at u2 f2|-;refine⟨y1,y2,_,_,rfl,rfl,aT.of (u2 _ _ f1'),aT.of f2,wl (by rw[qAb];show 1+(ws.length+1)<=64;lia),fun y3 hy3=>?_⟩;have u3:=aI.aJ (o:=.lst ([V.int qu]++(v1::ws).map V.int)) hy3;have f3:upd G2 y3 (.lst ([V.int qu]++(v1::ws).map V.int)) y3=some (.lst ([V.int qu]++(v1::ws).map V.int)):=aB;generalize upd G2 y3 (.lst ([V.int qu]++(v1::ws).map V.int))=G3 at u3 f3|-;refine⟨wl (by show 0<=64;decide),fun y4 hy4=>?_⟩;have u4:=aI.aJ (o:=.lst []) hy4;have f4:upd G3 y4 (.lst []) y4=some (.lst []):=aB;generalize upd G3 y4 (.lst [])=G4 at u4 f4|-;refine⟨("votes":Str),y3,y4,qu::v1::ws,[],[],rfl,by decide,u4 _ _ f3,(by show ws.length+1+1<=64;lia),voS,f4,.nil,by decide,no15,?_⟩;refine⟨wl (by show 3<=64;decide),fun d1 hd1=>?_⟩;rw[nO,nO];have S4:=u0.trans (u1.trans (u2.trans (u3.trans u4)));clear u0 u1 u2 u3 u4 f0 f1' f2 f3 f4 hy0 hy1 hy2 hy3 hy4;have u5:=aI.aJ (o:=HO.lst [V.str ("none":Str),V.str (eB ("own":Str) (nu.map nW)),V.str (eB ("votes":Str) ((qu::v1::ws).map nW))]) hd1;have f5:upd G4 d1 (HO.lst [V.str ("none":Str),V.str (eB ("own":Str) (nu.map nW)),V.str (eB ("votes":Str) ((qu::v1::ws).map nW))]) d1=some (HO.lst [V.str ("none":Str),V.str (eB ("own":Str) (nu.map nW)),V.str (eB ("votes":Str) ((qu::v1::ws).map nW))]):=aB;generalize upd G4 d1 (HO.lst [V.str ("none":Str),V.str (eB ("own":Str) (nu.map nW)),V.str (eB ("votes":Str) ((qu::v1::ws).map nW))])=G5 at u5 f5|-;have S5:=S4.trans u5;dsimp only[bQ];refine iZ (σ':=[some (.ref a),some (.int fi),some (.int (m:Int)),some (.int ((2^m:Nat):Int)),some (.int far),some (.ref ln),some (.ref lv),some (.int qu),some (.ref lw),some (.ref lp),some (.ref lr),some (.ref lc),some (.ref d1),none,none,none,none]) rfl ?_;refine⟨_,rfl,_,rfl,wl (by show 0<=64;decide),fun y0 hy0=>?_⟩;have u6:=aI.aJ (o:=.lst []) hy0;have f6:upd G5 y0 (.lst []) y0=some (.lst []):=aB;generalize upd G5 y0 (.lst [])=G6 at u6 f6|-;have r64:ro.length<=64:=by lia
  refine⟨("table":Str),lw,y0,ro,[],[],rfl,by decide,u6 _ _ (S5 _ _ e_w),r64,roS,f6,.nil,by decide,no15,?_⟩;refine⟨wl (by show 0<=64;decide),fun y1 hy1=>?_⟩;have u7:=aI.aJ (o:=.lst []) hy1;have f7:upd G6 y1 (.lst []) y1=some (.lst []):=aB;generalize upd G6 y1 (.lst [])=G7 at u7 f7|-;have S7':=S5.trans (u6.trans u7);refine⟨_,rfl,("pairs":Str),y1,lp,[],bs,qs,rfl,by decide,f7,by decide,fun r hr=>(by cases hr),S7' _ _ e_p,A8.imp fun _ _ z=>z.keep S7'.t,q15,qB,?_⟩;refine⟨wl (by show 0<=64;decide),fun y2 hy2=>?_⟩;have u8:=aI.aJ (o:=.lst []) hy2;have f8:upd G7 y2 (.lst []) y2=some (.lst []):=aB;generalize upd G7 y2 (.lst [])=G8 at u8 f8|-;have S8':=S7'.trans u8;refine⟨_,rfl,("match":Str),y2,lp,[],bs,qs,rfl,by decide,f8,by decide,fun r hr=>(by cases hr),S8' _ _ e_p,A8.imp fun _ _ z=>z.keep S8'.t,q15,qB,?_⟩;refine⟨wl (by show 3<=64;decide),fun d2 hd2=>?_⟩;have u9:=aI.aJ (o:=HO.lst [V.str (eY ("table":Str) ro []),V.str (eY ("pairs":Str) [] qs),V.str (eY ("match":Str) [] qs)]) hd2;have f9:upd G8 d2 (HO.lst [V.str (eY ("table":Str) ro []),V.str (eY ("pairs":Str) [] qs),V.str (eY ("match":Str) [] qs)]) d2=some (HO.lst [V.str (eY ("table":Str) ro []),V.str (eY ("pairs":Str) [] qs),V.str (eY ("match":Str) [] qs)]):=aB;generalize upd G8 d2 (HO.lst [V.str (eY ("table":Str) ro []),V.str (eY ("pairs":Str) [] qs),V.str (eY ("match":Str) [] qs)])=G9 at u9 f9|-;refine⟨d1,d2,_,_,rfl,rfl,aT.of ((u6.trans (u7.trans (u8.trans u9))) _ _ f5),aT.of f9,wl (by show 3+3<=64;decide),fun d3 hd3=>?_⟩;have S9':=S8'.trans u9;have d30:H8 d3=none:=S9'.free hd3;have u10:=aI.aJ (o:=HO.lst ([V.str ("none":Str),V.str (eB ("own":Str) (nu.map nW)),V.str (eB ("votes":Str) ((qu::v1::ws).map nW))]++[V.str (eY ("table":Str) ro []),V.str (eY ("pairs":Str) [] qs),V.str (eY ("match":Str) [] qs)])) hd3;have f10:upd G9 d3 (HO.lst ([V.str ("none":Str),V.str (eB ("own":Str) (nu.map nW)),V.str (eB ("votes":Str) ((qu::v1::ws).map nW))]++[V.str (eY ("table":Str) ro []),V.str (eY ("pairs":Str) [] qs),V.str (eY ("match":Str) [] qs)])) d3=some (HO.lst ([V.str ("none":Str),V.str (eB ("own":Str) (nu.map nW)),V.str (eB ("votes":Str) ((qu::v1::ws).map nW))]++[V.str (eY ("table":Str) ro []),V.str (eY ("pairs":Str) [] qs),V.str (eY ("match":Str) [] qs)])):=aB;generalize upd G9 d3 (HO.lst ([V.str ("none":Str),V.str (eB ("own":Str) (nu.map nW)),V.str (eB ("votes":Str) ((qu::v1::ws).map nW))]++[V.str (eY ("table":Str) ro []),V.str (eY ("pairs":Str) [] qs),V.str (eY ("match":Str) [] qs)]))=G10 at u10 f10|-;have S10:=S9'.trans u10;clear u6 u7 u8 u9 u10 f6 f7 f8 f9 hy0 hy1 hy2 hd1 hd2 S4 u5 S5 S7' S8' S9' f5 hd3;dsimp only[bQ];refine iZ (σ':=[some (.ref a),some (.int fi),some (.int (m:Int)),some (.int ((2^m:Nat):Int)),some (.int far),some (.ref ln),some (.ref lv),some (.int qu),some (.ref lw),some (.ref lp),some (.ref lr),some (.ref lc),some (.ref d3),none,none,none,none]) rfl ?_;refine⟨_,rfl,.inl ⟨rfl,_,aT.of f10⟩,_,rfl,_,rfl,("net":Str),lc,lr,cs,cr,qs.map gO,rfl,by decide,S10 _ _ ec,by lia,csB,S10 _ _ e_r,B8.imp fun _ _ z=>z.keep S10.t,r15,rB',?_⟩;refine⟨d3,_,_,rfl,rfl,f10,aW (by show 6<=1000;decide),?_⟩;have S11:aI H8 (upd G10 d3 (.lst (([V.str ("none":Str),V.str (eB ("own":Str) (nu.map nW)),V.str (eB ("votes":Str) ((qu::v1::ws).map nW))]++[V.str (eY ("table":Str) ro []),V.str (eY ("pairs":Str) [] qs),V.str (eY ("match":Str) [] qs)])++[V.str (eY ("net":Str) cs (qs.map gO))]))):=S10.upd_ne' d30;have f11:=aB (H:=G10) (a:=d3) (o:=HO.lst (([V.str ("none":Str),V.str (eB ("own":Str) (nu.map nW)),V.str (eB ("votes":Str) ((qu::v1::ws).map nW))]++[V.str (eY ("table":Str) ro []),V.str (eY ("pairs":Str) [] qs),V.str (eY ("match":Str) [] qs)])++[V.str (eY ("net":Str) cs (qs.map gO))]));generalize upd G10 d3 _=G11 at S11 f11|-;clear S10 f10;have f11:G11 d3=some (.lst ([("none":Str),eB ("own":Str) (nu.map nW),eB ("votes":Str) ((qu::v1::ws).map nW),eY ("table":Str) ro [],eY ("pairs":Str) [] qs,eY ("match":Str) [] qs,eY ("net":Str) cs (qs.map gO)].map V.str)):=f11;rw[nO] at f11;have e_n:=S11 _ _ e_n;have e_v:=S11 _ _ e_v;have e_w:=S11 _ _ e_w;have e_p:=S11 _ _ e_p;have e_r:=S11 _ _ e_r;have ec:=S11 _ _ ec;have A11:A2 (cP G11) bs qs:=A8.imp fun _ _ z=>z.keep S11.t;have B11:A2 (cP G11) cr (qs.map gO):=B8.imp fun _ _ z=>z.keep S11.t;have ok11:cC m G11 bs:=ok8.same fun b _ o e=>S11 b o e;clear S11 A8 B8 ok8 d30;dsimp only;refine⟨_,rfl,ln,_,rfl,.inl (aT.of e_n),fun q0 hq0=>?_⟩;have u0:=aI.aJ (o:=.lst (nu.map V.int)) hq0;have g0:upd G11 q0 (.lst (nu.map V.int)) q0=some (.lst (nu.map V.int)):=aB;generalize upd G11 q0 (.lst (nu.map V.int))=J0 at u0 g0|-;refine⟨_,rfl,2,rfl,lv,_,rfl,aT.of (u0 _ _ e_v),fun q1 hq1=>?_⟩;rw[ec2];have u1:=aI.aJ (o:=.lst (ws.map V.int)) hq1;have g1:upd J0 q1 (.lst (ws.map V.int)) q1=some (.lst (ws.map V.int)):=aB;generalize upd J0 q1 (.lst (ws.map V.int))=J1 at u1 g1|-;have U1:=u0.trans u1;refine⟨wl (by show 1<=64;decide),fun z0 hz0=>?_⟩;have u2:=aI.aJ (o:=.lst [V.int 0]) hz0;have gz:upd J1 z0 (.lst [V.int 0]) z0=some (.lst [V.int 0]):=aB;generalize upd J1 z0 (.lst [V.int 0])=J2 at u2 gz|-;have U2:=U1.trans u2;refine⟨_,rfl,z0,lw,_,_,rfl,rfl,aT.of gz,aT.of (U2 _ _ e_w),wl (by rw[qAb];show 1+ro.length<=64;lia),fun q2 hq2=>?_⟩;have u3:=aI.aJ (o:=.lst ([V.int 0]++ro.map V.int)) hq2;have g2:upd J2 q2 (.lst ([V.int 0]++ro.map V.int)) q2=some (.lst ([V.int 0]++ro.map V.int)):=aB;generalize upd J2 q2 (.lst ([V.int 0]++ro.map V.int))=J3 at u3 g2|-;have U3:=U2.trans u3;refine⟨_,rfl,lp,_,rfl,.inl (aT.of (U3 _ _ e_p)),fun q3 hq3=>?_⟩;have u4:=aI.aJ (o:=.lst (bs.map V.ref)) hq3;have g3:upd J3 q3 (.lst (bs.map V.ref)) q3=some (.lst (bs.map V.ref)):=aB;generalize upd J3 q3 (.lst (bs.map V.ref))=J4 at u4 g3|-;have U4:=U3.trans u4;refine⟨_,rfl,lp,_,rfl,.inl (aT.of (U4 _ _ e_p)),fun q4 hq4=>?_⟩;have u5:=aI.aJ (o:=.lst (bs.map V.ref)) hq4;have g4:upd J4 q4 (.lst (bs.map V.ref)) q4=some (.lst (bs.map V.ref)):=aB;generalize upd J4 q4 (.lst (bs.map V.ref))=J5 at u5 g4|-;have U5:=U4.trans u5;refine⟨_,rfl,lc,_,rfl,.inl (aT.of (U5 _ _ ec)),fun q5 hq5=>?_⟩;have u6:=aI.aJ (o:=.lst (cs.map V.int)) hq5;have g5:upd J5 q5 (.lst (cs.map V.int)) q5=some (.lst (cs.map V.int)):=aB;generalize upd J5 q5 (.lst (cs.map V.int))=J6 at u6 g5|-;have U6:=U5.trans u6;refine⟨_,rfl,lr,_,rfl,.inl (aT.of (U6 _ _ e_r)),fun q6 hq6=>?_⟩;have u7:=aI.aJ (o:=.lst (cr.map V.ref)) hq6;have g6:upd J6 q6 (.lst (cr.map V.ref)) q6=some (.lst (cr.map V.ref)):=aB;generalize upd J6 q6 (.lst (cr.map V.ref))=J7 at u7 g6|-;have U7:=U6.trans u7;have g5:=u7 _ _ g5;have g4:=(u6.trans u7) _ _ g4;have g3:=(u5.trans (u6.trans u7)) _ _ g3;have g2:=(u4.trans (u5.trans (u6.trans u7))) _ _ g2;have g1:=(u2.trans (u3.trans (u4.trans (u5.trans (u6.trans u7))))) _ _ g1;have g0:=(u1.trans (u2.trans (u3.trans (u4.trans (u5.trans (u6.trans u7)))))) _ _ g0;have dh:d3∉[q0,q1,q2,q3,q4,q5,q6]:=fun hm=>by
   simp only[qDe,qBs,or_false] at hm;rcases hm with h | h | h | h | h | h | h
   ·exact aO f11 hq0 h
   ·exact aO (u0 _ _ f11) hq1 h
   ·exact aO (U2 _ _ f11) hq2 h
   ·exact aO (U3 _ _ f11) hq3 h
   ·exact aO (U4 _ _ f11) hq4 h
   ·exact aO (U5 _ _ f11) hq5 h
   ·exact aO (U6 _ _ f11) hq6 h
  have fresh:∀{b:Addr},J7 b=none->b∉[q0,q1,q2,q3,q4,q5,q6]:=fun {b} hb hm=>by
   simp only[qDe,qBs,or_false] at hm;rcases hm with rfl | rfl | rfl | rfl | rfl | rfl | rfl
   ·rw[g0] at hb;cases hb
   ·rw[g1] at hb;cases hb
   ·rw[g2] at hb;cases hb
   ·rw[g3] at hb;cases hb
   ·rw[g4] at hb;cases hb
   ·rw[g5] at hb;cases hb
   ·rw[g6] at hb;cases hb
  have f11:=U7 _ _ f11;have e_v:=U7 _ _ e_v;have A7:A2 (cP J7) bs qs:=A11.imp fun _ _ z=>z.keep U7.t;have B7:A2 (cP J7) cr (qs.map gO):=B11.imp fun _ _ z=>z.keep U7.t;have ok7:cC m J7 bs:=ok11.same fun b _ o e=>U7 b o e;have g2:J7 q2=some (.lst ((0::ro).map V.int)):=g2;clear u0 u1 u2 u3 u4 u5 u6 u7 U1 U2 U3 U4 U5 U6 U7 hq0 hq1 hq2 hq3 hq4 hq5 hq6 hz0 gz e_n e_w e_p e_r ec A11 B11 ok11;refine⟨wl (by show 7<=64;decide),fun lh hlh=>?_⟩;have nlh:=fresh hlh;have v0:=aI.aJ (o:=HO.lst [V.ref q0,V.ref q1,V.ref q2,V.ref q3,V.ref q4,V.ref q5,V.ref q6]) hlh;have elh:upd J7 lh (HO.lst [V.ref q0,V.ref q1,V.ref q2,V.ref q3,V.ref q4,V.ref q5,V.ref q6]) lh=some (HO.lst [V.ref q0,V.ref q1,V.ref q2,V.ref q3,V.ref q4,V.ref q5,V.ref q6]):=aB;generalize upd J7 lh (HO.lst [V.ref q0,V.ref q1,V.ref q2,V.ref q3,V.ref q4,V.ref q5,V.ref q6])=H9 at v0 elh|-;have g0:=v0 _ _ g0;have g1:=v0 _ _ g1;have g2:=v0 _ _ g2;have g3:=v0 _ _ g3;have g4:=v0 _ _ g4;have g5:=v0 _ _ g5;have g6:=v0 _ _ g6;have f11:=v0 _ _ f11;have e_v:=v0 _ _ e_v;have A9:A2 (cP H9) bs qs:=A7.imp fun _ _ z=>z.keep v0.t;have B9:A2 (cP H9) cr (qs.map gO):=B7.imp fun _ _ z=>z.keep v0.t;have ok9:cC m H9 bs:=ok7.same fun b _ o e=>v0 b o e;have fresh:∀{b:Addr},H9 b=none->b∉[q0,q1,q2,q3,q4,q5,q6]:=fun {b} hb=>fresh (v0.free hb);clear v0 A7 B7 ok7 hlh;dsimp only[bQ];refine iZ (σ':=[some (.ref a),some (.int fi),some (.int (m:Int)),some (.int ((2^m:Nat):Int)),some (.int far),some (.ref ln),some (.ref lv),some (.int qu),some (.ref lw),some (.ref lp),some (.ref lr),some (.ref lc),some (.ref d3),some (.ref lh),none,none,none]) rfl ?_;refine⟨_,rfl,fun x0 dx0 hx0 hd0 ne0=>Ai T.GO.oc T.GO.nm hx0 hd0 ne0 m1 m6 fun K0 s0 i0=>⟨rfl,?_⟩⟩;refine⟨_,rfl,lh,_,_,_,rfl,rfl,aT.of (s0 _ _ elh),rfl,fun x1 dx1 hx1 hd1 ne1=>DH hx1 hd1 ne1 (s0 _ _ g0) (by lia) (by lia) fun l1 K1 hl1 s1 i1 j1=>⟨rfl,?_⟩⟩;have t1:=s0.trans s1;refine⟨_,rfl,_,rfl,lv,_,_,_,rfl,rfl,aT.of (t1 _ _ e_v),bU (j:=1) rfl,_,rfl,lh,_,_,_,rfl,rfl,aT.of (t1 _ _ elh),rfl,fun x2 dx2 hx2 hd2 ne2=>xP hx2 hd2 ne2 (t1 _ _ g1) qu1 (by lia) (by lia) fun l2 K2 hl2 s2 i2 j2=>⟨rfl,?_⟩⟩;have t2:=t1.trans s2;refine⟨_,rfl,lh,_,_,_,rfl,rfl,aT.of (t2 _ _ elh),bU (j:=2) rfl,fun x3 dx3 hx3 hd3 ne3=>xO hx3 hd3 ne3 (t2 _ _ g2) (m:=m) (by show ro.length+1=2^m;lia) m1 m6 fun l3 K3 hl3 s3 i3 j3=>⟨rfl,?_⟩⟩;have t3:=t2.trans s3;refine⟨wl (by show 4<=64;decide),fun r1 hr1=>?_⟩;have s4:=aI.aJ (o:=HO.lst [V.ref x0,V.ref x1,V.ref x2,V.ref x3]) hr1;have er1:upd K3 r1 (HO.lst [V.ref x0,V.ref x1,V.ref x2,V.ref x3]) r1=some (HO.lst [V.ref x0,V.ref x1,V.ref x2,V.ref x3]):=aB;generalize upd K3 r1 (HO.lst [V.ref x0,V.ref x1,V.ref x2,V.ref x3])=K4 at s4 er1|-;have t4:=t3.trans s4;dsimp only[bQ];refine⟨_,rfl,_,rfl,_,rfl,lh,_,_,_,rfl,rfl,aT.of (t4 _ _ elh),bU (j:=3) rfl,fun x4 dx4 hx4 hd4 ne4=>xQ hx4 hd4 ne4 (t4 _ _ g3) (ok9.same fun b _ o e=>t4 b o e) (A9.imp fun _ _ z=>z.keep t4.t) m1 m6 fun l4 b4 p4 K5 hl4 s5 pm4 sr4 a4 i4 j4=>⟨rfl,?_⟩⟩;have t5:=t4.trans s5;refine⟨_,rfl,_,rfl,lh,_,_,_,rfl,rfl,aT.of (t5 _ _ elh),bU (j:=4) rfl,fun x5 dx5 hx5 hd5 ne5=>xR hx5 hd5 ne5 (t5 _ _ g4) (ok9.same fun b _ o e=>t5 b o e) (A9.imp fun _ _ z=>z.keep t5.t) m1 m6 fun l5 lb5 b5 p5 K6 hl5 hlb5 s6 pm5 sr5 a5 o5 i5 j5=>⟨rfl,?_⟩⟩;have t6:=t5.trans s6;have okr:cC cs.length K6 cr:=by
   rw[csL];exact cC.Il ok9 A9 B9 t6.t
  have at5:jN [V.ref q0,V.ref q1,V.ref q2,V.ref q3,V.ref q4,V.ref q5,V.ref q6] 5=some (V.ref q5):=rfl;have at6:jN [V.ref q0,V.ref q1,V.ref q2,V.ref q3,V.ref q4,V.ref q5,V.ref q6] 6=some (V.ref q6):=rfl;refine⟨_,rfl,lh,_,_,_,rfl,rfl,aT.of (t6 _ _ elh),at5,_,rfl,lh,_,_,_,rfl,rfl,aT.of (t6 _ _ elh),at6,fun x6 dx6 hx6 hd6 ne6=>DI hx6 hd6 ne6 (t6 _ _ g5) (by lia) (by lia) cs0 (t6 _ _ g6) okr (B9.imp fun _ _ z=>z.keep t6.t) (fun r hr=>(rB r hr).2.2.2) fun l6 lr6 rs K7 hl6 hlr6 s7 pm6 sr6 o6=>⟨rfl,?_⟩⟩;have t7:=t6.trans s7;refine⟨wl (by show 3<=64;decide),fun r2 hr2=>?_⟩;have s8:=aI.aJ (o:=HO.lst [V.ref x4,V.ref x5,V.ref x6]) hr2;have er2:upd K7 r2 (HO.lst [V.ref x4,V.ref x5,V.ref x6]) r2=some (HO.lst [V.ref x4,V.ref x5,V.ref x6]):=aB;generalize upd K7 r2 (HO.lst [V.ref x4,V.ref x5,V.ref x6])=K8 at s8 er2|-;have t8:=t7.trans s8;refine⟨r1,r2,_,_,rfl,rfl,aT.of ((s5.trans (s6.trans (s7.trans s8))) _ _ er1),aT.of er2,wl (by show 4+3<=64;decide),fun r3 hr3=>?_⟩;have nr3:=fresh (t8.free hr3);have s9:=aI.aJ (o:=HO.lst ([V.ref x0,V.ref x1,V.ref x2,V.ref x3]++[V.ref x4,V.ref x5,V.ref x6])) hr3;have er3:upd K8 r3 (HO.lst ([V.ref x0,V.ref x1,V.ref x2,V.ref x3]++[V.ref x4,V.ref x5,V.ref x6])) r3=some (HO.lst ([V.ref x0,V.ref x1,V.ref x2,V.ref x3]++[V.ref x4,V.ref x5,V.ref x6])):=aB;generalize upd K8 r3 (HO.lst ([V.ref x0,V.ref x1,V.ref x2,V.ref x3]++[V.ref x4,V.ref x5,V.ref x6]))=K9 at s9 er3|-;have t9:=t8.trans s9;have er3:K9 r3=some (.lst ([x0,x1,x2,x3,x4,x5,x6].map V.ref)):=er3;have w8:=s8.trans s9;have w7:=s7.trans w8;have w6:=s6.trans w7;have w5:=s5.trans w6;have w4:=s4.trans w5;have w3:=s3.trans w4;have w2:=s2.trans w3;have w1:=s1.trans w2;rw[nuL] at i1;rw[wsL] at i2;have seven:S7 RU OW VO PL PA MA NE [q0,q1,q2,q3,q4,q5,q6] K9 x0 x1 x2 x3 x4 x5 x6 m nu ws ro cs qu v1 p4 p5 rs :=
   ⟨⟨dx0,w1 _ _ i0⟩,⟨dx1,l1,fresh (s0.free hl1),w2 _ _ i1,w2 _ _ j1⟩,⟨dx2,l2,fresh (t1.free hl2),w3 _ _ i2,w3 _ _ j2⟩,⟨dx3,l3,fresh (t2.free hl3),w4 _ _ i3,w4 _ _ j3⟩,
    ⟨dx4,l4,b4,fresh (t4.free hl4),w6 _ _ i4,w6 _ _ j4,a4.imp fun _ _ z=>z.keep w6.t⟩,(let ⟨dz,i5⟩:=i5;⟨dz,l5,lb5,b5,fresh (t5.free hl5),fresh (t5.free hlb5),w7 _ _ i5,w7 _ _ j5,a5.imp fun _ _ z=>z.keep w7.t,o5.same w7⟩),l6,lr6,fresh (t6.free hl6),fresh (t6.free hlr6),o6.same w8⟩
  have hl7:∀q∈[q0,q1,q2,q3,q4,q5,q6],∃ys,K9 q=some (.lst ys):=fun q hq=>by
   simp only[qDe,qBs,or_false] at hq;rcases hq with rfl | rfl | rfl | rfl | rfl | rfl | rfl
   ·exact⟨_,t9 _ _ g0⟩
   ·exact⟨_,t9 _ _ g1⟩
   ·exact⟨_,t9 _ _ g2⟩
   ·exact⟨_,t9 _ _ g3⟩
   ·exact⟨_,t9 _ _ g4⟩
   ·exact⟨_,t9 _ _ g5⟩
   ·exact⟨_,t9 _ _ g6⟩
  have elh:=t9 _ _ elh;have f11:=t9 _ _ f11;have p6:∀{ps:List P3},ps.Perm qs->∀p∈ps,p.1<6/\p.2.1<6:=fun pm p hp=>⟨(qB p (pm.mem_iff.mp hp)).1,(qB p (pm.mem_iff.mp hp)).2.1⟩;have sp4:DJ p4:=⟨by rw[pm4.length_eq];exact q15,fun p hp=>qB p (pm4.mem_iff.mp hp)⟩;have sp5:DJ p5:=⟨by rw[pm5.length_eq];exact q15,fun p hp=>qB p (pm5.mem_iff.mp hp)⟩;have sp6:DJ rs:=⟨by rw[pm6.length_eq];exact r15,fun p hp=>rB' p (pm6.mem_iff.mp hp)⟩;rw[kS pm4 sr4 (p6 pm4) [],kS pm5 sr5 (p6 pm5) [],kS pm6 sr6 (fun p hp=>⟨(sp6.2 p hp).1,(sp6.2 p hp).2.1⟩) cs] at f11;clear w1 w2 w3 w4 w5 w6 w7 w8 t1 t2 t3 t4 t5 t6 t7 t8 s0 s1 s2 s3 s4 s5 s6 s7 s8 s9 i0 i1 i2 i3 i4 i5 j1 j2 j3 j4 j5 o5 o6 a4 a5 hl1 hl2 hl3 hl4 hl5 hl6 hlb5 hlr6 hx0 hx1 hx2 hx3 hx4 hx5 hx6 hd0 hd1 hd2 hd3 hd4 hd5 hd6 er1 er2 hr1 hr2 hr3 fresh okr ok9 A9 B9 g0 g1 g2 g3 g4 g5 g6 e_v pm4 pm5 pm6 sr4 sr5 sr6 p6;dsimp only[bQ];refine iZ (σ':=[some (.ref a),some (.int fi),some (.int (m:Int)),some (.int ((2^m:Nat):Int)),some (.int far),some (.ref ln),some (.ref lv),some (.int qu),some (.ref lw),some (.ref lp),some (.ref lr),some (.ref lc),some (.ref d3),some (.ref lh),some (.ref r3),none,none]) rfl ?_;have wds:=fun(H:Hp) (h:S7 RU OW VO PL PA MA NE [q0,q1,q2,q3,q4,q5,q6] H x0 x1 x2 x3 x4 x5 x6 m nu ws ro cs qu v1 p4 p5 rs)=>h.words T D_RW D_OWo D_VW D_PlW D_PaW D_MW D_NW nuS (by lia) voS (by lia) roS r64 sp4 sp5 csB (by lia) sp6;refine⟨_,rfl,_,rfl,_,rfl,_,_,rfl,rfl,⟨by decide,by decide⟩,r3,d3,_,_,_,rfl,er3,f11,rfl,rfl,wds _ seven,fun K10 s10=>⟨_,rfl,eU ?_⟩⟩;have seven:=seven.same s10;have elh:=s10 _ _ elh;have f11:=s10 _ _ f11;have er3:=s10 _ _ er3;have hl7:∀q∈[q0,q1,q2,q3,q4,q5,q6],∃ys,K10 q=some (.lst ys):=fun q hq=>let ⟨ys,z⟩:=hl7 q hq;⟨ys,s10 _ _ z⟩;clear s10 t9;dsimp only[An];refine⟨_,rfl,lh,rfl,⟨_,aT.of elh⟩,?_⟩;refine eQ (xs:=[q0,q1,q2,q3,q4,q5,q6].map V.ref) (fun i σ' H'=>(∀b o,b∉[q0,q1,q2,q3,q4,q5,q6]->K10 b=some o->H' b=some o)/\(∀q∈[q0,q1,q2,q3,q4,q5,q6],∃zs,H' q=some (.lst zs))/\∃o15:Option V,σ'=[some (.ref a),some (.int fi),some (.int (m:Int)),some (.int ((2^m:Nat):Int)),some (.int far),some (.ref ln),some (.ref lv),some (.int qu),some (.ref lw),some (.ref lp),some (.ref lr),some (.ref lc),some (.ref d3),some (.ref lh),some (.ref r3),o15,none]) ?_ ?_ ?_ ?_
  ·exact⟨fun _ _ _ e=>e,hl7,_,rfl⟩
  ·rintro i σ' H' _ ⟨fr,_⟩;exact aT.of (fr _ _ nlh elh)
  ·rintro i x σ' H' hx ⟨fr,hz,o15,rfl⟩;obtain⟨q,hq,rfl⟩:=List.mem_map.mp (qAy hx);obtain⟨zs,hzs⟩:=hz q hq;refine⟨_,rfl,.inl ⟨rfl,_,aT.of hzs⟩,q,_,rfl,rfl,hzs,fun b o nb e=>?_,fun y hy=>?_,_,rfl⟩
   ·have nq:b≠q:=fun z=>nb (by rw[z];exact hq);rw[aK nq];exact fr b o nb e
   ·by_cases c:y=q
    ·exact⟨_,by rw[c];exact aB⟩
    ·obtain⟨ws',e⟩:=hz y hy;exact⟨ws',by rw[aK c];exact e⟩
  rintro σ' K11' ⟨fr,_,o15,rfl⟩;have seven:=seven.keep hl7 fr;have f11:=fr _ _ dh f11;have er3:=fr _ _ nr3 er3;clear fr hl7 elh;refine⟨_,rfl,r3,rfl,⟨_,aT.of er3⟩,?_⟩;refine eQ (xs:=[x0,x1,x2,x3,x4,x5,x6].map V.ref) (fun i σ' H'=>aI K11' H'/\∃o16:Option V,σ'=[some (.ref a),some (.int fi),some (.int (m:Int)),some (.int ((2^m:Nat):Int)),some (.int far),some (.ref ln),some (.ref lv),some (.int qu),some (.ref lw),some (.ref lp),some (.ref lr),some (.ref lc),some (.ref d3),some (.ref lh),some (.ref r3),o15,o16]) ?_ ?_ ?_ ?_
  ·exact⟨.refl _,_,rfl⟩
  ·rintro i σ' H' _ ⟨s1,_⟩;exact aT.of (s1 _ _ er3)
  ·rintro i x σ' H' hx ⟨s1,o16,rfl⟩;obtain⟨y,hy,rfl⟩:=at_of hx;obtain⟨e,ro'⟩:=(seven.same s1).rules T D_RR D_OR D_VR D_PR D_PaR D_MR D_NRk m1 m6 nuL wsL (by show ro.length+1=2^m;lia) sp4 csL i y hy;obtain⟨C,dx,g,fs,h1,h2,h3,h4,h5,h6,ps,h7⟩:=id ro';have pe:((2^m:Nat):Int)-1=((2^m-1:Nat):Int):=by lia
   refine⟨_,rfl,y,C,dx,fs,fE,_,rfl,h1,h6.1,h2.oc.cl,h2.me,⟨_,D_E⟩,?_⟩;refine⟨_,rfl,_,_,rfl,rfl,y,m,e,_,rfl,ro',.int _,fun no=>absurd no ?_,fun g' e' hg' H2 s2=>⟨s1.trans s2,_,rfl⟩⟩;show ¬(decide ((0:Int)<=((2^m:Nat):Int)-1)&&decide (((2^m:Nat):Int)-1<=(2:Int)^m-1))=false;rw[decide_eq_true (by lia),decide_eq_true (by rw[Int.natCast_pow];exact qJb _)];decide
  rintro σ' K12 ⟨s1,o16,rfl⟩;exact⟨_,rfl,_,rfl,_,rfl,_,_,rfl,rfl,⟨by decide,by decide⟩,r3,d3,_,_,_,rfl,s1 _ _ er3,s1 _ _ f11,rfl,rfl,wds _ (seven.same s1),fun K13 s13=>k _⟩
end
end K11
namespace PySem.W.Fast
def tw9215159807680092602:Unit:=()
def tw7974246375125058954:Unit:=()
def tw2918180792830598814:Unit:=()
def tw14029650899390859646:Unit:=()
def tw9593220719959123235:Unit:=()
def tw12162714613412253076:Unit:=()
def tw14401924309591102134:Unit:=()
def tw11942470298369314506:Unit:=()
def tw18056794688424266208:Unit:=()
def tw9741134753235200315:Unit:=()
def tw4745425276902411036:Unit:=()
def tw14353778074677753408:Unit:=()
def tw3289724593372654669:Unit:=()
def tw6033293146153529185:Unit:=()
def tw6025584990872243437:Unit:=()
def tw12337871860467919882:Unit:=()
def tw13138040494741609007:Unit:=()
def tw14741082102223733721:Unit:=()
def tw16072930560028229519:Unit:=()
def tw15247057669698583046:Unit:=()
def tw8997074898348651911:Unit:=()
def tw6451453821262495512:Unit:=()
def tw846870297136051183:Unit:=()
def tw10048440421710098369:Unit:=()
def tw12121870386037817666:Unit:=()
def tw2328498671687672016:Unit:=()
def tw2406153179829293326:Unit:=()
def tw4723450914252212688:Unit:=()
def tw10150384424068116904:Unit:=()
def tw7313179593316300296:Unit:=()
def tw17319625240699142189:Unit:=()
def tw3066081320420345209:Unit:=()
def tw16526047105265282281:Unit:=()
def tw13727704791218145206:Unit:=()
def tw2336512103572985998:Unit:=()
def tw3477887116725601576:Unit:=()
def tw11181385028352874886:Unit:=()
def tw14275929710334126461:Unit:=()
def tw8373303656130099619:Unit:=()
def tw13854988956638717782:Unit:=()
def tw8004657861492869320:Unit:=()
def tw2542987421675102660:Unit:=()
def tw3027380690491792037:Unit:=()
def tw15559129407130417824:Unit:=()
def tw9960473188371541327:Unit:=()
def tw2599774798068535953:Unit:=()
def tw11912593099370827182:Unit:=()
def tw6042787156780107651:Unit:=()
def tw18071477729508913934:Unit:=()
def tw14076338932827155093:Unit:=()
def tw1665529132040655520:Unit:=()
def tw5760956414300613690:Unit:=()
def tw11539595864718053417:Unit:=()
def tw13610927052477961935:Unit:=()
def tw1573723122989747393:Unit:=()
def tw10764915282296470809:Unit:=()
def tw17434168549846947911:Unit:=()
def tw12218786553533292646:Unit:=()
def tw11320646016629533117:Unit:=()
def tw11947299543194514341:Unit:=()
def tw17689202695894865355:Unit:=()
def tw2442175330276570809:Unit:=()
def tw12003558676398140177:Unit:=()
def tw7780762212441563510:Unit:=()
def tw2178607835470809738:Unit:=()
def tw15441302846259569487:Unit:=()
def tw12733760293026119056:Unit:=()
def tw7174234661107301153:Unit:=()
def tw6869980796963220192:Unit:=()
def tw16318503551070594309:Unit:=()
def tw10338014256305825255:Unit:=()
def tw9018144809020306470:Unit:=()
def tw5457092522608970428:Unit:=()
def tw8538020924130133538:Unit:=()
def tw10024431851985222025:Unit:=()
def tw80023437574044189:Unit:=()
def tw31782009881878428:Unit:=()
def tw1050006465916443650:Unit:=()
def tw8121604065817544660:Unit:=()
def tw5628761220308027599:Unit:=()
def tw7321010812656150218:Unit:=()
def tw5201050979065471358:Unit:=()
def tw6050047645144945142:Unit:=()
def tw2235118103863276922:Unit:=()
def tw5723061267234490796:Unit:=()
def tw14973939361237817702:Unit:=()
def tw12792245580094367036:Unit:=()
def tw9828866039059430776:Unit:=()
def tw11289225341023282996:Unit:=()
def tw4034666955005488236:Unit:=()
def tw10053564412926387121:Unit:=()
def tw13278118422656530132:Unit:=()
def tw2402923023133477241:Unit:=()
def tw13764734898786484898:Unit:=()
def tw16732545914390690586:Unit:=()
def tw13831310077649862661:Unit:=()
def tw9959429766864316350:Unit:=()
def tw1680444844241982945:Unit:=()
def tw8108409102455121370:Unit:=()
def tw14018001232378010954:Unit:=()
def tw16188810693348574405:Unit:=()
def tw1890246514821660215:Unit:=()
def tw16910488609593412206:Unit:=()
def tw6478094529266550070:Unit:=()
def tw536239134333456687:Unit:=()
def tw7884576680516136966:Unit:=()
def tw3389225368469151171:Unit:=()
def tw10660539239672705015:Unit:=()
def tw16927428741529514959:Unit:=()
def tw17859129996390494028:Unit:=()
def tw18101997247216205579:Unit:=()
def tw10877893261398515189:Unit:=()
def tw13142518436154476442:Unit:=()
def tw1350661188513248177:Unit:=()
def tw12872461243407859229:Unit:=()
def tw2460172504684837622:Unit:=()
def tw14267231875973210659:Unit:=()
def tw6710911238083607928:Unit:=()
def tw17394969572539340826:Unit:=()
def tw4158852979581990921:Unit:=()
def tw14824661524342175298:Unit:=()
def tw124732645862464636:Unit:=()
def tw17829365738294482513:Unit:=()
def tw5880829397795651070:Unit:=()
def tw17468939498874832977:Unit:=()
def tw10754677182022317710:Unit:=()
def tw5880259749528215914:Unit:=()
def tw9783109726160531241:Unit:=()
def tw17313954649258999890:Unit:=()
def tw9277403815769401791:Unit:=()
def tw2625784450597060420:Unit:=()
def tw11761852641152114630:Unit:=()
def tw12254512856646230993:Unit:=()
def tw3422365338514765217:Unit:=()
def tw15350230354019324527:Unit:=()
def tw8415873767166234564:Unit:=()
def tw17839584175444223605:Unit:=()
def tw7103648922410471907:Unit:=()
def tw17958793449007162835:Unit:=()
def tw8045404837359131990:Unit:=()
def tw3793672883280711265:Unit:=()
def tw15995618697275411464:Unit:=()
def tw14759227531341755061:Unit:=()
def tw13761113887792841242:Unit:=()
def tw8801987228651818203:Unit:=()
def tw6369198068183407688:Unit:=()
def tw3967735043967521620:Unit:=()
def tw2318002704628500388:Unit:=()
def tw13035590955394184456:Unit:=()
def tw16723581355746132203:Unit:=()
def tw13517936590617621719:Unit:=()
def tw17085805918739494119:Unit:=()
def tw1073964913398173694:Unit:=()
def tw12628030667140270327:Unit:=()
def tw16533729554401577945:Unit:=()
def tw4469034140824475479:Unit:=()
def tw1803393089629351591:Unit:=()
def tw7171933033222929978:Unit:=()
def tw131920653935247837:Unit:=()
def tw4446137260714156510:Unit:=()
def tw2042362483714527309:Unit:=()
def tw6891833045075276517:Unit:=()
def tw3820705885490762919:Unit:=()
def tw5368490187751390931:Unit:=()
def tw7263024174726311203:Unit:=()
def tw4262406478594886591:Unit:=()
def tw6531525826455648079:Unit:=()
def tw374213591088527622:Unit:=()
def tw4634395745504840486:Unit:=()
def tw15918194434480002566:Unit:=()
def tw12273452767619326486:Unit:=()
def tw5429928202398195369:Unit:=()
def tw9171400310590910119:Unit:=()
def tw18287919357266174799:Unit:=()
def tw12072925595492242462:Unit:=()
def tw1465008900026193643:Unit:=()
def tw15708582410724024379:Unit:=()
def tw7016781077560938250:Unit:=()
def tw8781085491100755249:Unit:=()
def tw614018531015194582:Unit:=()
def tw10386505187798253136:Unit:=()
def tw335909922834018666:Unit:=()
def tw14283499012990328280:Unit:=()
def tw16189840504314704844:Unit:=()
def tw11507546545069348282:Unit:=()
def tw3509163161909759190:Unit:=()
def tw5950150476296977926:Unit:=()
def tw1340676979705028471:Unit:=()
def tw15032494092549600134:Unit:=()
def tw12392794400347346606:Unit:=()
def tw3563492385094288562:Unit:=()
def tw14061019185072431588:Unit:=()
def tw8491046165040469607:Unit:=()
def tw13538946819119319737:Unit:=()
def tw10005295446052168997:Unit:=()
def tw5542754288744628238:Unit:=()
def tw9494287740257993590:Unit:=()
def tw16550189431303640119:Unit:=()
def tw14333837674687267226:Unit:=()
def tw1114457376012929332:Unit:=()
def tw8394987620100467555:Unit:=()
def tw11473841342167604767:Unit:=()
def tw8549515088803017403:Unit:=()
def tw12995875180037788148:Unit:=()
def tw2143544267518172265:Unit:=()
def tw10527589161695988672:Unit:=()
def tw16785047682890939293:Unit:=()
def tw13824383282954691433:Unit:=()
def tw17382148470685932606:Unit:=()
def tw3667585723141465939:Unit:=()
def tw5960982174486934815:Unit:=()
def tw5921856633198476708:Unit:=()
def tw1826383624938392703:Unit:=()
def tw17084775888655701139:Unit:=()
def tw15698163340726464512:Unit:=()
def tw17853789089665670412:Unit:=()
def tw16359191001895309882:Unit:=()
def tw13179633418684432138:Unit:=()
def tw14608785479201332704:Unit:=()
def tw7300710764233225161:Unit:=()
def tw10157079861585259479:Unit:=()
def tw4119162157296262115:Unit:=()
def tw13692428024445504570:Unit:=()
def tw5820023526481652864:Unit:=()
def tw3125188578144709429:Unit:=()
def tw9118149914866621223:Unit:=()
def tw14759688166226764056:Unit:=()
def tw17257529017273684327:Unit:=()
def tw9149873376692090492:Unit:=()
def tw14382361286697944052:Unit:=()
def tw900446934595642311:Unit:=()
def tw5736085447029466259:Unit:=()
def tw18230733466381032315:Unit:=()
def tw610036760399956828:Unit:=()
def tw7554945492881535237:Unit:=()
def tw12202946327178764539:Unit:=()
def tw652877861163962517:Unit:=()
def tw742347677127203477:Unit:=()
def tw36482544180867011:Unit:=()
def tw17323163007606180759:Unit:=()
def tw2979709272771251427:Unit:=()
def tw1382747397144560927:Unit:=()
def tw10815205317952550936:Unit:=()
def tw15797153874526457738:Unit:=()
def tw10539649640235923361:Unit:=()
def tw7400654179674845412:Unit:=()
def tw1304825113064556068:Unit:=()
def tw5960471574273115976:Unit:=()
def tw17515851673464339546:Unit:=()
def tw17670949202118764365:Unit:=()
def tw808556568911877423:Unit:=()
def tw1294485012125027736:Unit:=()
def tw17726917710684641856:Unit:=()
def tw13397331255750731101:Unit:=()
def tw13343464549106451404:Unit:=()
def tw4392746958571284092:Unit:=()
def tw2306298451821417517:Unit:=()
def tw5657929134198965889:Unit:=()
def tw6457576003545423856:Unit:=()
def tw11418623789769624250:Unit:=()
def tw13844967832803765126:Unit:=()
def tw3170891263340055958:Unit:=()
def tw8467621189620374996:Unit:=()
def tw17412038164208452994:Unit:=()
def tw14014561800176548877:Unit:=()
def tw9607270301654934205:Unit:=()
def tw13136640065344684336:Unit:=()
def tw2948165880327867419:Unit:=()
def tw2391894617544027139:Unit:=()
def tw3995322153463818122:Unit:=()
def tw6793418209350942036:Unit:=()
def tw8336920726074167097:Unit:=()
def tw18440910213698198240:Unit:=()
def tw6461396685244419335:Unit:=()
def tw3298960324915303581:Unit:=()
def tw16227554002338223157:Unit:=()
def tw13296896570746728721:Unit:=()
def tw17860077402619456120:Unit:=()
def tw267652852177895967:Unit:=()
def tw1334190207945328093:Unit:=()
def tw15981673398586276288:Unit:=()
def tw4520137708019407293:Unit:=()
def tw11159402062883004337:Unit:=()
def tw16828697638839466571:Unit:=()
def tw3159235302533861407:Unit:=()
def tw5479644626689975209:Unit:=()
def tw18054731320452260545:Unit:=()
def tw14967483569432696037:Unit:=()
def tw13137991701052376249:Unit:=()
def tw1845515924180899026:Unit:=()
def tw9330037793801672946:Unit:=()
def tw14781158651156022361:Unit:=()
def tw15954290471368107271:Unit:=()
def tw8982113065242942654:Unit:=()
def tw11236801115849930393:Unit:=()
def tw13312948506774841917:Unit:=()
def tw10441666576117241826:Unit:=()
def tw2532141565544345015:Unit:=()
def tw2524668216330737417:Unit:=()
def tw1007166187745530206:Unit:=()
def tw14471232819103967388:Unit:=()
def tw4127780923191895432:Unit:=()
def tw4914232918514105203:Unit:=()
def tw3158569762405119342:Unit:=()
def tw4969544094862337453:Unit:=()
def tw15283260249506138547:Unit:=()
def tw2056945896466738237:Unit:=()
def tw13873632333558120856:Unit:=()
def tw13301832685787867919:Unit:=()
def tw13557216974035999768:Unit:=()
end PySem.W.Fast
set_option maxHeartbeats 8000000
namespace K11
open PySem L2
theorem Im{K:qAa}{mg:Str->Option qAe}{h:Heap}{AL LN RU OW PL PA VO MA NE fE fH rR rO rP rA rV rM rN iR iO iP iA iV iM iN fL wR wO wP wA wV wM wN SE NG NL NT:Addr}  {n_AL:Nat}{osl_AL:Array (Option qAe)}{t_AL0 t_AL1 t_AL2 t_AL3 t_AL4 t_AL5:Tok}  {n_LN:Nat}{osl_LN:Array (Option qAe)}{t_LN0 t_LN1 t_LN2 t_LN3 t_LN4 t_LN5 t_LN6:Tok}  {tk_we:Tok}                                        {oc_RI kV_RI doc_RI pm_RI cdv_RI ct_RI:qAe}{od_RI an_RI:Option Addr}{osl_RI:Array (Option qAe)}{oc_H kV_H doc_H pm_H cdv_H ct_H:qAe}{od_H an_H:Option Addr}{osl_H:Array (Option qAe)}{oc_E kV_E doc_E pm_E cdv_E ct_E:qAe}{od_E an_E:Option Addr}{osl_E:Array (Option qAe)}{oc_RR kV_RR doc_RR pm_RR cdv_RR ct_RR:qAe}{od_RR an_RR:Option Addr}{osl_RR:Array (Option qAe)}{oc_RW kV_RW doc_RW pm_RW cdv_RW ct_RW:qAe}{od_RW an_RW:Option Addr}{osl_RW:Array (Option qAe)}{oc_OI kV_OI doc_OI pm_OI cdv_OI ct_OI:qAe}{od_OI an_OI:Option Addr}{osl_OI:Array (Option qAe)}{oc_OR kV_OR doc_OR pm_OR cdv_OR ct_OR:qAe}{od_OR an_OR:Option Addr}{osl_OR:Array (Option qAe)}{oc_OWo kV_OWo doc_OWo pm_OWo cdv_OWo ct_OWo:qAe}{od_OWo an_OWo:Option Addr}{osl_OWo:Array (Option qAe)}{oc_PI kV_PI doc_PI pm_PI cdv_PI ct_PI:qAe}{od_PI an_PI:Option Addr}{osl_PI:Array (Option qAe)}{oc_PR kV_PR doc_PR pm_PR cdv_PR ct_PR:qAe}{od_PR an_PR:Option Addr}{osl_PR:Array (Option qAe)}{oc_PlW kV_PlW doc_PlW pm_PlW cdv_PlW ct_PlW:qAe}{od_PlW an_PlW:Option Addr}{osl_PlW:Array (Option qAe)}{oc_PaI kV_PaI doc_PaI pm_PaI cdv_PaI ct_PaI:qAe}{od_PaI an_PaI:Option Addr}{osl_PaI:Array (Option qAe)}{oc_PaR kV_PaR doc_PaR pm_PaR cdv_PaR ct_PaR:qAe}{od_PaR an_PaR:Option Addr}{osl_PaR:Array (Option qAe)}{oc_PaW kV_PaW doc_PaW pm_PaW cdv_PaW ct_PaW:qAe}{od_PaW an_PaW:Option Addr}{osl_PaW:Array (Option qAe)}{oc_VI kV_VI doc_VI pm_VI cdv_VI ct_VI:qAe}{od_VI an_VI:Option Addr}{osl_VI:Array (Option qAe)}{oc_VR kV_VR doc_VR pm_VR cdv_VR ct_VR:qAe}{od_VR an_VR:Option Addr}{osl_VR:Array (Option qAe)}{oc_VW kV_VW doc_VW pm_VW cdv_VW ct_VW:qAe}{od_VW an_VW:Option Addr}{osl_VW:Array (Option qAe)}{oc_MI kV_MI doc_MI pm_MI cdv_MI ct_MI:qAe}{od_MI an_MI:Option Addr}{osl_MI:Array (Option qAe)}{oc_MR kV_MR doc_MR pm_MR cdv_MR ct_MR:qAe}{od_MR an_MR:Option Addr}{osl_MR:Array (Option qAe)}{oc_MW kV_MW doc_MW pm_MW cdv_MW ct_MW:qAe}{od_MW an_MW:Option Addr}{osl_MW:Array (Option qAe)}{oc_NI kV_NI doc_NI pm_NI cdv_NI ct_NI:qAe}{od_NI an_NI:Option Addr}{osl_NI:Array (Option qAe)}{oc_NLs kV_NLs doc_NLs pm_NLs cdv_NLs ct_NLs:qAe}{od_NLs an_NLs:Option Addr}{osl_NLs:Array (Option qAe)}{oc_NRk kV_NRk doc_NRk pm_NRk cdv_NRk ct_NRk:qAe}{od_NRk an_NRk:Option Addr}{osl_NRk:Array (Option qAe)}{oc_NW kV_NW doc_NW pm_NW cdv_NW ct_NW:qAe}{od_NW an_NW:Option Addr}{osl_NW:Array (Option qAe)}  (X:K.In h)(G:h.Ns qAv mg)
  (iG:qBc K qAv "isinstance"=some none)
  (oK:qBc K qAv "int"=some none)
  (kJ:qBc K qAv "bool"=some none)
  (cK:qBc K qAv "range"=some none)
  (dW:qBc K qAv "len"=some none)
  (dA:qBc K qAv "list"=some none)
  (jE:qBc K qAv "sum"=some none)
  (l8:qBc K qAv "all"=some none)
  (oM:qBc K qAv "any"=some none)
  (fY:qBc K qAv "sorted"=some none)
  (iH:qBc K qAv "tuple"=some none)
  (oN:qBc K qAv "min"=some none)
  (kK:qBc K qAv "abs"=some none)
  (kL:qBc K qAv "enumerate"=some none)
  (gP:qBc K qAv "str"=some none)
  (pD:qBc K qAv "ALONE"=some (some (.ref AL)))
  (lkAL:K.lookup AL=some ⟨.type "tuple",none,.seq #[.int 1 t_AL0,.int 2 t_AL1,.int 4 t_AL2,.int 8 t_AL3,.int 16 t_AL4,.int 32 t_AL5] n_AL,osl_AL⟩)
  (Eg:qBc K qAv "LENGTHS"=some (some (.ref LN)))
  (lkLN:K.lookup LN=some ⟨.type "tuple",none,.seq #[.int 1 t_LN0,.int 2 t_LN1,.int 4 t_LN2,.int 8 t_LN3,.int 16 t_LN4,.int 32 t_LN5,.int 64 t_LN6] n_LN,osl_LN⟩)
  (we:qBc K qAv "WELL"=some (some (.int 64 tk_we)))
  (wK:qBc K qAv "Rule"=some (some (.ref RU)))
  (pgRU:qCh K RU Str.empty=true)
  (hdRU:qCj K RU=true)
  (poRU:qCs K RU=true)
  (saRU:qAc K (.ref RU) "__setattr__"=some (some (.builtin "object.__setattr__")))
  (caRU:qAc K (.ref RU) "__class__"=some (some (.builtin "object.__class__")))
  (moRU:qBt K RU (.type "object")=some true)
  (nmRU:qAc K (.ref RU) "many"=some none)
  (feRU:qAc K (.ref RU) "earn"=some (some (.ref fE)))
  (fhRU:qAc K (.ref RU) "hands"=some (some (.ref fH)))
  (frRU:qAc K (.ref RU) "reckon"=some (some (.ref rR)))
  (irRU:qCe K (.ref RU) (.ref RU)=some true)
  (mkRU:qCv K RU=true)
  (fiRU:qAc K (.ref RU) "__init__"=some (some (.ref iR)))
  (kkRU:qAm K (.ref RU)=true)
  (Fm:qBc K qAv "Own"=some (some (.ref OW)))
  (pgOW:qCh K OW Str.empty=true)
  (hdOW:qCj K OW=true)
  (poOW:qCs K OW=true)
  (saOW:qAc K (.ref OW) "__setattr__"=some (some (.builtin "object.__setattr__")))
  (caOW:qAc K (.ref OW) "__class__"=some (some (.builtin "object.__class__")))
  (moOW:qBt K OW (.type "object")=some true)
  (nmOW:qAc K (.ref OW) "many"=some none)
  (feOW:qAc K (.ref OW) "earn"=some (some (.ref fE)))
  (fhOW:qAc K (.ref OW) "hands"=some (some (.ref fH)))
  (frOW:qAc K (.ref OW) "reckon"=some (some (.ref rO)))
  (irOW:qCe K (.ref OW) (.ref RU)=some true)
  (mkOW:qCv K OW=true)
  (fiOW:qAc K (.ref OW) "__init__"=some (some (.ref iO)))
  (kkOW:qAm K (.ref OW)=true)
  (nf0OW:qAc K (.ref OW) "numbers"=some none)
  (Fn:qBc K qAv "Plain"=some (some (.ref PL)))
  (pgPL:qCh K PL Str.empty=true)
  (hdPL:qCj K PL=true)
  (poPL:qCs K PL=true)
  (saPL:qAc K (.ref PL) "__setattr__"=some (some (.builtin "object.__setattr__")))
  (caPL:qAc K (.ref PL) "__class__"=some (some (.builtin "object.__class__")))
  (moPL:qBt K PL (.type "object")=some true)
  (nmPL:qAc K (.ref PL) "many"=some none)
  (fePL:qAc K (.ref PL) "earn"=some (some (.ref fE)))
  (fhPL:qAc K (.ref PL) "hands"=some (some (.ref fH)))
  (frPL:qAc K (.ref PL) "reckon"=some (some (.ref rP)))
  (irPL:qCe K (.ref PL) (.ref RU)=some true)
  (mkPL:qCv K PL=true)
  (fiPL:qAc K (.ref PL) "__init__"=some (some (.ref iP)))
  (kkPL:qAm K (.ref PL)=true)
  (nf0PL:qAc K (.ref PL) "earnings"=some none)
  (Fo:qBc K qAv "Pairs"=some (some (.ref PA)))
  (pgPA:qCh K PA Str.empty=true)
  (hdPA:qCj K PA=true)
  (poPA:qCs K PA=true)
  (saPA:qAc K (.ref PA) "__setattr__"=some (some (.builtin "object.__setattr__")))
  (caPA:qAc K (.ref PA) "__class__"=some (some (.builtin "object.__class__")))
  (moPA:qBt K PA (.type "object")=some true)
  (nmPA:qAc K (.ref PA) "many"=some none)
  (fePA:qAc K (.ref PA) "earn"=some (some (.ref fE)))
  (fhPA:qAc K (.ref PA) "hands"=some (some (.ref fH)))
  (frPA:qAc K (.ref PA) "reckon"=some (some (.ref rA)))
  (irPA:qCe K (.ref PA) (.ref RU)=some true)
  (mkPA:qCv K PA=true)
  (fiPA:qAc K (.ref PA) "__init__"=some (some (.ref iA)))
  (kkPA:qAm K (.ref PA)=true)
  (nf0PA:qAc K (.ref PA) "pairs"=some none)
  (Fp:qBc K qAv "Votes"=some (some (.ref VO)))
  (pgVO:qCh K VO Str.empty=true)
  (hdVO:qCj K VO=true)
  (poVO:qCs K VO=true)
  (saVO:qAc K (.ref VO) "__setattr__"=some (some (.builtin "object.__setattr__")))
  (caVO:qAc K (.ref VO) "__class__"=some (some (.builtin "object.__class__")))
  (moVO:qBt K VO (.type "object")=some true)
  (nmVO:qAc K (.ref VO) "many"=some none)
  (feVO:qAc K (.ref VO) "earn"=some (some (.ref fE)))
  (fhVO:qAc K (.ref VO) "hands"=some (some (.ref fH)))
  (frVO:qAc K (.ref VO) "reckon"=some (some (.ref rV)))
  (irVO:qCe K (.ref VO) (.ref RU)=some true)
  (mkVO:qCv K VO=true)
  (fiVO:qAc K (.ref VO) "__init__"=some (some (.ref iV)))
  (kkVO:qAm K (.ref VO)=true)
  (nf0VO:qAc K (.ref VO) "quota"=some none)
  (nf1VO:qAc K (.ref VO) "prize"=some none)
  (nf2VO:qAc K (.ref VO) "weights"=some none)
  (Fq:qBc K qAv "Match"=some (some (.ref MA)))
  (pgMA:qCh K MA Str.empty=true)
  (hdMA:qCj K MA=true)
  (poMA:qCs K MA=true)
  (saMA:qAc K (.ref MA) "__setattr__"=some (some (.builtin "object.__setattr__")))
  (caMA:qAc K (.ref MA) "__class__"=some (some (.builtin "object.__class__")))
  (moMA:qBt K MA (.type "object")=some true)
  (nmMA:qAc K (.ref MA) "many"=some none)
  (feMA:qAc K (.ref MA) "earn"=some (some (.ref fE)))
  (fhMA:qAc K (.ref MA) "hands"=some (some (.ref fH)))
  (frMA:qAc K (.ref MA) "reckon"=some (some (.ref rM)))
  (irMA:qCe K (.ref MA) (.ref RU)=some true)
  (mkMA:qCv K MA=true)
  (fiMA:qAc K (.ref MA) "__init__"=some (some (.ref iM)))
  (kkMA:qAm K (.ref MA)=true)
  (nf0MA:qAc K (.ref MA) "pairs"=some none)
  (nf1MA:qAc K (.ref MA) "best"=some none)
  (Ft:qBc K qAv "Net"=some (some (.ref NE)))
  (pgNE:qCh K NE Str.empty=true)
  (hdNE:qCj K NE=true)
  (poNE:qCs K NE=true)
  (saNE:qAc K (.ref NE) "__setattr__"=some (some (.builtin "object.__setattr__")))
  (caNE:qAc K (.ref NE) "__class__"=some (some (.builtin "object.__class__")))
  (moNE:qBt K NE (.type "object")=some true)
  (nmNE:qAc K (.ref NE) "many"=some none)
  (feNE:qAc K (.ref NE) "earn"=some (some (.ref fE)))
  (fhNE:qAc K (.ref NE) "hands"=some (some (.ref fH)))
  (frNE:qAc K (.ref NE) "reckon"=some (some (.ref rN)))
  (irNE:qCe K (.ref NE) (.ref RU)=some true)
  (mkNE:qCv K NE=true)
  (fiNE:qAc K (.ref NE) "__init__"=some (some (.ref iN)))
  (kkNE:qAm K (.ref NE)=true)
  (nf0NE:qAc K (.ref NE) "costs"=some none)
  (nf1NE:qAc K (.ref NE) "ropes"=some none)
  (fflNE:qAc K (.ref NE) "least"=some (some (.ref fL)))
  (ffwRU:qAc K (.ref RU) "words"=some (some (.ref wR)))
  (ffwOW:qAc K (.ref OW) "words"=some (some (.ref wO)))
  (ffwPL:qAc K (.ref PL) "words"=some (some (.ref wP)))
  (ffwPA:qAc K (.ref PA) "words"=some (some (.ref wA)))
  (ffwVO:qAc K (.ref VO) "words"=some (some (.ref wV)))
  (ffwMA:qAc K (.ref MA) "words"=some (some (.ref wM)))
  (ffwNE:qAc K (.ref NE) "words"=some (some (.ref wN)))
  (lRI:K.lookup iR=some ⟨oc_RI,od_RI,.func (qAx "__init__" "Rule.__init__" (aY DR) (aS DR) (aD DR) .none kV_RI doc_RI pm_RI an_RI cdv_RI ct_RI),osl_RI⟩)
  (cdRI:qAw K cdv_RI "Rule.__init__"=true)
  (kpRI:qAm K (.ref iR)=true)
  (fnRI:qBh K (.ref iR)=true)
  (lH:K.lookup fH=some ⟨oc_H,od_H,.func (qAx "hands" "Rule.hands" (aY GN) (aS GN) (aD GN) .none kV_H doc_H pm_H an_H cdv_H ct_H),osl_H⟩)
  (cdH:qAw K cdv_H "Rule.hands"=true)
  (kpH:qAm K (.ref fH)=true)
  (fnH:qBh K (.ref fH)=true)
  (lE:K.lookup fE=some ⟨oc_E,od_E,.func (qAx "earn" "Rule.earn" (aY tJ) (aS tJ) (aD tJ) .none kV_E doc_E pm_E an_E cdv_E ct_E),osl_E⟩)
  (cdE:qAw K cdv_E "Rule.earn"=true)
  (kpE:qAm K (.ref fE)=true)
  (fnE:qBh K (.ref fE)=true)
  (lRR:K.lookup rR=some ⟨oc_RR,od_RR,.func (qAx "reckon" "Rule.reckon" (aY DS) (aS DS) (aD DS) .none kV_RR doc_RR pm_RR an_RR cdv_RR ct_RR),osl_RR⟩)
  (cdRR:qAw K cdv_RR "Rule.reckon"=true)
  (kpRR:qAm K (.ref rR)=true)
  (fnRR:qBh K (.ref rR)=true)
  (lRW:K.lookup wR=some ⟨oc_RW,od_RW,.func (qAx "words" "Rule.words" (aY DT) (aS DT) (aD DT) .none kV_RW doc_RW pm_RW an_RW cdv_RW ct_RW),osl_RW⟩)
  (cdRW:qAw K cdv_RW "Rule.words"=true)
  (kpRW:qAm K (.ref wR)=true)
  (fnRW:qBh K (.ref wR)=true)
  (lOI:K.lookup iO=some ⟨oc_OI,od_OI,.func (qAx "__init__" "Own.__init__" (aY DU) (aS DU) (aD DU) .none kV_OI doc_OI pm_OI an_OI cdv_OI ct_OI),osl_OI⟩)
  (cdOI:qAw K cdv_OI "Own.__init__"=true)
  (kpOI:qAm K (.ref iO)=true)
  (fnOI:qBh K (.ref iO)=true)
  (lOR:K.lookup rO=some ⟨oc_OR,od_OR,.func (qAx "reckon" "Own.reckon" (aY DV) (aS DV) (aD DV) .none kV_OR doc_OR pm_OR an_OR cdv_OR ct_OR),osl_OR⟩)
  (cdOR:qAw K cdv_OR "Own.reckon"=true)
  (kpOR:qAm K (.ref rO)=true)
  (fnOR:qBh K (.ref rO)=true)
  (lOWo:K.lookup wO=some ⟨oc_OWo,od_OWo,.func (qAx "words" "Own.words" (aY tK) (aS tK) (aD tK) .none kV_OWo doc_OWo pm_OWo an_OWo cdv_OWo ct_OWo),osl_OWo⟩)
  (cdOWo:qAw K cdv_OWo "Own.words"=true)
  (kpOWo:qAm K (.ref wO)=true)
  (fnOWo:qBh K (.ref wO)=true)
  (lPI:K.lookup iP=some ⟨oc_PI,od_PI,.func (qAx "__init__" "Plain.__init__" (aY DW) (aS DW) (aD DW) .none kV_PI doc_PI pm_PI an_PI cdv_PI ct_PI),osl_PI⟩)
  (cdPI:qAw K cdv_PI "Plain.__init__"=true)
  (kpPI:qAm K (.ref iP)=true)
  (fnPI:qBh K (.ref iP)=true)
  (lPR:K.lookup rP=some ⟨oc_PR,od_PR,.func (qAx "reckon" "Plain.reckon" (aY DX) (aS DX) (aD DX) .none kV_PR doc_PR pm_PR an_PR cdv_PR ct_PR),osl_PR⟩)
  (cdPR:qAw K cdv_PR "Plain.reckon"=true)
  (kpPR:qAm K (.ref rP)=true)
  (fnPR:qBh K (.ref rP)=true)
  (lPlW:K.lookup wP=some ⟨oc_PlW,od_PlW,.func (qAx "words" "Plain.words" (aY tL) (aS tL) (aD tL) .none kV_PlW doc_PlW pm_PlW an_PlW cdv_PlW ct_PlW),osl_PlW⟩)
  (cdPlW:qAw K cdv_PlW "Plain.words"=true)
  (kpPlW:qAm K (.ref wP)=true)
  (fnPlW:qBh K (.ref wP)=true)
  (lPaI:K.lookup iA=some ⟨oc_PaI,od_PaI,.func (qAx "__init__" "Pairs.__init__" (aY tM) (aS tM) (aD tM) .none kV_PaI doc_PaI pm_PaI an_PaI cdv_PaI ct_PaI),osl_PaI⟩)
  (cdPaI:qAw K cdv_PaI "Pairs.__init__"=true)
  (kpPaI:qAm K (.ref iA)=true)
  (fnPaI:qBh K (.ref iA)=true)
  (lPaR:K.lookup rA=some ⟨oc_PaR,od_PaR,.func (qAx "reckon" "Pairs.reckon" (aY tN) (aS tN) (aD tN) .none kV_PaR doc_PaR pm_PaR an_PaR cdv_PaR ct_PaR),osl_PaR⟩)
  (cdPaR:qAw K cdv_PaR "Pairs.reckon"=true)
  (kpPaR:qAm K (.ref rA)=true)
  (fnPaR:qBh K (.ref rA)=true)
  (lPaW:K.lookup wA=some ⟨oc_PaW,od_PaW,.func (qAx "words" "Pairs.words" (aY tO) (aS tO) (aD tO) .none kV_PaW doc_PaW pm_PaW an_PaW cdv_PaW ct_PaW),osl_PaW⟩)
  (cdPaW:qAw K cdv_PaW "Pairs.words"=true)
  (kpPaW:qAm K (.ref wA)=true)
  (fnPaW:qBh K (.ref wA)=true)
  (lVI:K.lookup iV=some ⟨oc_VI,od_VI,.func (qAx "__init__" "Votes.__init__" (aY DY) (aS DY) (aD DY) .none kV_VI doc_VI pm_VI an_VI cdv_VI ct_VI),osl_VI⟩)
  (cdVI:qAw K cdv_VI "Votes.__init__"=true)
  (kpVI:qAm K (.ref iV)=true)
  (fnVI:qBh K (.ref iV)=true)
  (lVR:K.lookup rV=some ⟨oc_VR,od_VR,.func (qAx "reckon" "Votes.reckon" (aY DZ) (aS DZ) (aD DZ) .none kV_VR doc_VR pm_VR an_VR cdv_VR ct_VR),osl_VR⟩)
  (cdVR:qAw K cdv_VR "Votes.reckon"=true)
  (kpVR:qAm K (.ref rV)=true)
  (fnVR:qBh K (.ref rV)=true)
  (lVW:K.lookup wV=some ⟨oc_VW,od_VW,.func (qAx "words" "Votes.words" (aY Ea) (aS Ea) (aD Ea) .none kV_VW doc_VW pm_VW an_VW cdv_VW ct_VW),osl_VW⟩)
  (cdVW:qAw K cdv_VW "Votes.words"=true)
  (kpVW:qAm K (.ref wV)=true)
  (fnVW:qBh K (.ref wV)=true)
  (lMI:K.lookup iM=some ⟨oc_MI,od_MI,.func (qAx "__init__" "Match.__init__" (aY Eb) (aS Eb) (aD Eb) .none kV_MI doc_MI pm_MI an_MI cdv_MI ct_MI),osl_MI⟩)
  (cdMI:qAw K cdv_MI "Match.__init__"=true)
  (kpMI:qAm K (.ref iM)=true)
  (fnMI:qBh K (.ref iM)=true)
  (lMR:K.lookup rM=some ⟨oc_MR,od_MR,.func (qAx "reckon" "Match.reckon" (aY Ec) (aS Ec) (aD Ec) .none kV_MR doc_MR pm_MR an_MR cdv_MR ct_MR),osl_MR⟩)
  (cdMR:qAw K cdv_MR "Match.reckon"=true)
  (kpMR:qAm K (.ref rM)=true)
  (fnMR:qBh K (.ref rM)=true)
  (lMW:K.lookup wM=some ⟨oc_MW,od_MW,.func (qAx "words" "Match.words" (aY Ed) (aS Ed) (aD Ed) .none kV_MW doc_MW pm_MW an_MW cdv_MW ct_MW),osl_MW⟩)
  (cdMW:qAw K cdv_MW "Match.words"=true)
  (kpMW:qAm K (.ref wM)=true)
  (fnMW:qBh K (.ref wM)=true)
  (lNI:K.lookup iN=some ⟨oc_NI,od_NI,.func (qAx "__init__" "Net.__init__" (aY Ee) (aS Ee) (aD Ee) .none kV_NI doc_NI pm_NI an_NI cdv_NI ct_NI),osl_NI⟩)
  (cdNI:qAw K cdv_NI "Net.__init__"=true)
  (kpNI:qAm K (.ref iN)=true)
  (fnNI:qBh K (.ref iN)=true)
  (lNLs:K.lookup fL=some ⟨oc_NLs,od_NLs,.func (qAx "least" "Net.least" (aY tP) (aS tP) (aD tP) .none kV_NLs doc_NLs pm_NLs an_NLs cdv_NLs ct_NLs),osl_NLs⟩)
  (cdNLs:qAw K cdv_NLs "Net.least"=true)
  (kpNLs:qAm K (.ref fL)=true)
  (fnNLs:qBh K (.ref fL)=true)
  (lNRk:K.lookup rN=some ⟨oc_NRk,od_NRk,.func (qAx "reckon" "Net.reckon" (aY tQ) (aS tQ) (aD tQ) .none kV_NRk doc_NRk pm_NRk an_NRk cdv_NRk ct_NRk),osl_NRk⟩)
  (cdNRk:qAw K cdv_NRk "Net.reckon"=true)
  (kpNRk:qAm K (.ref rN)=true)
  (fnNRk:qBh K (.ref rN)=true)
  (lNW:K.lookup wN=some ⟨oc_NW,od_NW,.func (qAx "words" "Net.words" (aY Ef) (aS Ef) (aD Ef) .none kV_NW doc_NW pm_NW an_NW cdv_NW ct_NW),osl_NW⟩)
  (cdNW:qAw K cdv_NW "Net.words"=true)
  (kpNW:qAm K (.ref wN)=true)
  (fnNW:qBh K (.ref wN)=true)
  (cgcRI:qCu K (.ref RU) "__getattribute__"=some (some (.builtin "type.__getattribute__")))
  (crcRI:qIv K RU (.type "type")=true)
  (cfcRI:qIw K (.ref RU) (.type "type") "__init__"=some (.val (.ref iR)))
  (GP:qBc K qAv "ShareError"=some (some (.ref SE)))
  (Fu:qBc K qAv "NoGroup"=some (some (.ref NG)))
  (wL:qBc K qAv "NoRule"=some (some (.ref NL)))
  (Fv:qBc K qAv "NoTable"=some (some (.ref NT)))
  (c6:qCu K (.builtin "object.__class__") "__get__"=some (some (.builtin "getset_descriptor.__get__")))
  (c7:qDw K (.builtin "object.__class__")=some true)
  (SE2:qFq K (.ref SE)=some (.type "type"))
  (SE3:qAc K (.ref SE) "__getattribute__"=some (some (.builtin "BaseException.__getattribute__")))
  (SE4:qAc K (.ref SE) "__getattr__"=some none)
  (SE5:qAc K (.ref SE) "__class__"=some (some (.builtin "object.__class__")))
  (SE8:qBt K SE (.type "object")=some true)
  (SE9:qBt K SE (.type "BaseException")=some true)
  (wQ:qDh K NL BA "ValueError.__new__"=true)
  (Fw:qDh K NT BA "ValueError.__new__"=true)
  (Fx:qDh K NG BA "ValueError.__new__"=true) :
  ∃AL LN RU OW PL PA VO MA NE fE fH rR rO rP rA rV rM rN iR iO iP iA iV iM iN fL wR wO wP wA wV wM wN SE NG NL NT,T K mg AL LN RU OW PL PA VO MA NE fE fH rR rO rP rA rV rM rN iR iO iP iA iV iM iN fL wR wO wP wA wV wM wN SE NG NL NT :=
 ⟨AL,LN,RU,OW,PL,PA,VO,MA,NE,fE,fH,rR,rO,rP,rA,rV,rM,rN,iR,iO,iP,iA,iV,iM,iN,fL,wR,wO,wP,wA,wV,wM,wN,SE,NG,NL,NT,qBl X G iG,qBl X G oK,qBl X G kJ,qBl X G cK,qBl X G dW,qBl X G dA,qBl X G jE,qBl X G l8,qBl X G oM,qBl X G fY,qBl X G iH,qBl X G oN,qBl X G kK,qBl X G kL,qBl X G gP,qCa X G pD,fun _=>.inr ⟨_,_,_,lkAL,rfl,rfl,by show 6<=qAj;decide,.cons ⟨_,rfl⟩ (.cons ⟨_,rfl⟩ (.cons ⟨_,rfl⟩ (.cons ⟨_,rfl⟩ (.cons ⟨_,rfl⟩ (.cons ⟨_,rfl⟩ .nil)))))⟩,qCa X G Eg,fun _=>.inr ⟨_,_,_,lkLN,rfl,rfl,by show 7<=qAj;decide,.cons ⟨_,rfl⟩ (.cons ⟨_,rfl⟩ (.cons ⟨_,rfl⟩ (.cons ⟨_,rfl⟩ (.cons ⟨_,rfl⟩ (.cons ⟨_,rfl⟩ (.cons ⟨_,rfl⟩ .nil))))))⟩,⟨_,lkLN,rfl,rfl⟩,⟨tk_we,qCa X G we⟩,qCa X G wK,⟨⟨⟨pgRU,hdRU,poRU,saRU⟩,caRU,c6,c7,moRU⟩,nmRU,⟨feRU,fnE,kpE⟩,⟨fhRU,fnH,kpH⟩,⟨frRU,fnRR,kpRR⟩,irRU⟩,⟨mkRU,fiRU,fnRI,kkRU⟩,qCa X G Fm,⟨⟨⟨pgOW,hdOW,poOW,saOW⟩,caOW,c6,c7,moOW⟩,nmOW,⟨feOW,fnE,kpE⟩,⟨fhOW,fnH,kpH⟩,⟨frOW,fnOR,kpOR⟩,irOW⟩,⟨mkOW,fiOW,fnOI,kkOW⟩,nf0OW,qCa X G Fn,⟨⟨⟨pgPL,hdPL,poPL,saPL⟩,caPL,c6,c7,moPL⟩,nmPL,⟨fePL,fnE,kpE⟩,⟨fhPL,fnH,kpH⟩,⟨frPL,fnPR,kpPR⟩,irPL⟩,⟨mkPL,fiPL,fnPI,kkPL⟩,nf0PL,qCa X G Fo,⟨⟨⟨pgPA,hdPA,poPA,saPA⟩,caPA,c6,c7,moPA⟩,nmPA,⟨fePA,fnE,kpE⟩,⟨fhPA,fnH,kpH⟩,⟨frPA,fnPaR,kpPaR⟩,irPA⟩,⟨mkPA,fiPA,fnPaI,kkPA⟩,nf0PA,qCa X G Fp,⟨⟨⟨pgVO,hdVO,poVO,saVO⟩,caVO,c6,c7,moVO⟩,nmVO,⟨feVO,fnE,kpE⟩,⟨fhVO,fnH,kpH⟩,⟨frVO,fnVR,kpVR⟩,irVO⟩,⟨mkVO,fiVO,fnVI,kkVO⟩,nf0VO,nf1VO,nf2VO,qCa X G Fq,⟨⟨⟨pgMA,hdMA,poMA,saMA⟩,caMA,c6,c7,moMA⟩,nmMA,⟨feMA,fnE,kpE⟩,⟨fhMA,fnH,kpH⟩,⟨frMA,fnMR,kpMR⟩,irMA⟩,⟨mkMA,fiMA,fnMI,kkMA⟩,nf0MA,nf1MA,qCa X G Ft,⟨⟨⟨pgNE,hdNE,poNE,saNE⟩,caNE,c6,c7,moNE⟩,nmNE,⟨feNE,fnE,kpE⟩,⟨fhNE,fnH,kpH⟩,⟨frNE,fnNRk,kpNRk⟩,irNE⟩,⟨mkNE,fiNE,fnNI,kkNE⟩,nf0NE,nf1NE,⟨fflNE,fnNLs,kpNLs⟩,⟨ffwRU,fnRW,kpRW⟩,⟨ffwOW,fnOWo,kpOWo⟩,⟨ffwPL,fnPlW,kpPlW⟩,⟨ffwPA,fnPaW,kpPaW⟩,⟨ffwVO,fnVW,kpVW⟩,⟨ffwMA,fnMW,kpMW⟩,⟨ffwNE,fnNW,kpNW⟩,cE lRI cdRI kpRI (fun _ _ _ _ _ _ us hl=>match us,hl with | [_,_],_=>rfl),cE lH cdH kpH (fun _ _ _ _ _ _ us hl=>match us,hl with | [_],_=>rfl),cE lE cdE kpE (fun _ _ _ _ _ _ us hl=>match us,hl with | [_,_],_=>rfl),cE lRR cdRR kpRR (fun _ _ _ _ _ _ us hl=>match us,hl with | [_,_],_=>rfl),cE lRW cdRW kpRW (fun _ _ _ _ _ _ us hl=>match us,hl with | [_],_=>rfl),cE lOI cdOI kpOI (fun _ _ _ _ _ _ us hl=>match us,hl with | [_,_],_=>rfl),cE lOR cdOR kpOR (fun _ _ _ _ _ _ us hl=>match us,hl with | [_,_],_=>rfl),cE lOWo cdOWo kpOWo (fun _ _ _ _ _ _ us hl=>match us,hl with | [_],_=>rfl),cE lPI cdPI kpPI (fun _ _ _ _ _ _ us hl=>match us,hl with | [_,_],_=>rfl),cE lPR cdPR kpPR (fun _ _ _ _ _ _ us hl=>match us,hl with | [_,_],_=>rfl),cE lPlW cdPlW kpPlW (fun _ _ _ _ _ _ us hl=>match us,hl with | [_],_=>rfl),cE lPaI cdPaI kpPaI (fun _ _ _ _ _ _ us hl=>match us,hl with | [_,_,_],_=>rfl),cE lPaR cdPaR kpPaR (fun _ _ _ _ _ _ us hl=>match us,hl with | [_,_],_=>rfl),cE lPaW cdPaW kpPaW (fun _ _ _ _ _ _ us hl=>match us,hl with | [_],_=>rfl),cE lVI cdVI kpVI (fun _ _ _ _ _ _ us hl=>match us,hl with | [_,_,_,_],_=>rfl),cE lVR cdVR kpVR (fun _ _ _ _ _ _ us hl=>match us,hl with | [_,_],_=>rfl),cE lVW cdVW kpVW (fun _ _ _ _ _ _ us hl=>match us,hl with | [_],_=>rfl),cE lMI cdMI kpMI (fun _ _ _ _ _ _ us hl=>match us,hl with | [_,_,_],_=>rfl),cE lMR cdMR kpMR (fun _ _ _ _ _ _ us hl=>match us,hl with | [_,_],_=>rfl),cE lMW cdMW kpMW (fun _ _ _ _ _ _ us hl=>match us,hl with | [_],_=>rfl),cE lNI cdNI kpNI (fun _ _ _ _ _ _ us hl=>match us,hl with | [_,_,_],_=>rfl),cE lNLs cdNLs kpNLs (fun _ _ _ _ _ _ us hl=>match us,hl with | [_,_],_=>rfl),cE lNRk cdNRk kpNRk (fun _ _ _ _ _ _ us hl=>match us,hl with | [_,_],_=>rfl),cE lNW cdNW kpNW (fun _ _ _ _ _ _ us hl=>match us,hl with | [_],_=>rfl),⟨cgcRI,crcRI,cfcRI,kpRI⟩,qCa X G GP,qCa X G Fu,qCa X G wL,qCa X G Fv,BF SE2 SE3 SE4 SE5 c6 c7 SE8 SE9,wQ,Fw,Fx⟩
theorem walk{l:qIx}{q:qBd}{loose:List Str}{XP:(Str->Option qAe)->Heap->Prop}{YP:qCb->Heap->Prop}{d:DefRec}{K:Params->qAa}(hn:l.most=some 63)(hdf:d.params.defaults=[])
  (hY:∀(w:qCb) (h:Heap),YP w h->(K w.params).In h)
  (F:∀(w:qCb) (mg:Str->Option qAe) (fa:Addr) (h:Heap),(K w.params).In h->h.Ns qAv mg->mg d.name=some (.ref fa) ->
   ∃fd:qAz,(∀(s:qAh) (u:qAe),qJe s fd ⟨[u],[]⟩ [("_law_script",u)])/\∀base:Heap,(K w.params).In base->base.Ns qAv mg->eJ l.prog w (K w.params) mg base cI 10 fa fd ["_law_script"] (sG (K w.params))) :
  qJj q loose XP YP l.row.toRowW d [] (fun f vs=>PySem.call f vs) :=
 L2.yN (n:=63) (k:=10) (x:="_law_script") (CX:=fun _=>cI) (sp:=fun w=>sG (K w.params)) hn (by decide) hdf ⟨rfl,by decide,by decide⟩ hY F (fun _ _ a ns hl _ hS=>⟨a,ns,rfl,hS,hl,fun _=>rfl⟩) fun _ _ _ _ _ z=>z
theorem DM{P:qBd}{w:qCb}{K:qAa}{mg:Str->Option qAe}{fa:Addr}(hfa:mg "law"=some (.ref fa))(hT:∃AL LN RU OW PL PA VO MA NE fE fH rR rO rP rA rV rM rN iR iO iP iA iV iM iN fL wR wO wP wA wV wM wN SE NG NL NT,T K mg AL LN RU OW PL PA VO MA NE fE fH rR rO rP rA rV rM rN iR iO iP iA iV iM iN fL wR wO wP wA wV wM wN SE NG NL NT)
  (t_sNum:∃f fd,Tx K mg "is_number" BU ["thing"] f fd)
  (t_sWith:∃f fd,Tx K mg "is_number_within" wH ["thing","least","most"] f fd)
  (t_sChM:∃f fd,Tx K mg "check_many" BV ["many"] f fd)
  (t_sWC:∃f fd,Tx K mg "whole_company" Hw ["many"] f fd)
  (t_sChk:∃f fd,Tx K mg "check_group" BW ["group","many"] f fd)
  (t_sHnd:∃f fd,Tx K mg "hands_of" BX ["group"] f fd)
  (t_sIsT:∃f fd,Tx K mg "is_table" BY ["thing"] f fd)
  (t_sHin:∃f fd,Tx K mg "hands_in" BZ ["table"] f fd)
  (t_sCkN:∃f fd,Tx K mg "check_numbers" Ca ["things"] f fd)
  (t_sCkP:∃f fd,Tx K mg "check_pair" Cb ["many","pair"] f fd)
  (t_sSrt:∃f fd,Tx K mg "sorted_pairs" Cc ["many","pairs"] f fd)
  (t_sHB:∃f fd,Tx K mg "has_both" Hx ["group","one","other"] f fd)
  (t_sSoH:∃f fd,Tx K mg "sum_of_hands" Cd ["numbers","group"] f fd)
  (t_sNWo:∃f fd,Tx K mg "number_words" Ce ["numbers"] f fd)
  (t_sPWo:∃f fd,Tx K mg "pair_words" Cf ["pairs"] f fd)
  (t_sBG:∃f fd,Tx K mg "best_of_group" Hy ["best","pairs","group"] f fd)
  (t_sBP:∃f fd,Tx K mg "best_pairings" Hz ["many","pairs"] f fd)
  (t_sCkC:∃f fd,Tx K mg "check_costs" Cg ["costs"] f fd)
  (t_sCst:∃f fd,Tx K mg "cost_of" Ci ["rope"] f fd)
  (t_sEnd:∃f fd,Tx K mg "ends_of" Cj ["rope"] f fd)
  (t_sJon:∃f fd,Tx K mg "joins_on" Ck ["rope","joined","ground"] f fd)
  (t_sLNt:∃f fd,Tx K mg "least_net" Cm ["ropes","group"] f fd)
  (t_sCel:∃f fd,Tx K mg "_law_cell" Co ["_law_script","_law_k"] f fd)
  (t_sRow:∃f fd,Tx K mg "_law_row" Cp ["_law_script","_law_many","_law_far","_law_by"] f fd)
  (t_sPrs:∃f fd,Tx K mg "_law_pairs" Cq ["_law_script","_law_many","_law_far","_law_cell_here"] f fd)
  (t_sWri:∃f fd,Tx K mg "_law_written" Cr ["_law_word","_law_numbers","_law_pairs_here"] f fd)
  (t_sTol:∃f fd,Tx K mg "_law_told" Cs ["_law_rules","_law_due","_law_start"] f fd)
  (t_sLaw:∃f fd,Tx K mg "law" Ct ["_law_script"] f fd)
  : ∃fd:qAz,(∀(s:qAh) (u:qAe),qJe s fd ⟨[u],[]⟩ [("_law_script",u)])/\∀base:Heap,K.In base->base.Ns qAv mg->eJ P w K mg base cI 10 fa fd ["_law_script"] (sG K):=by
 obtain⟨AL,LN,RU,OW,PL,PA,VO,MA,NE,fE,fH,rR,rO,rP,rA,rV,rM,rN,iR,iO,iP,iA,iV,iM,iN,fL,wR,wO,wP,wA,wV,wM,wN,SE,NG,NL,NT,T⟩:=hT;obtain⟨f_sNum,fd_sNum,t_sNum⟩:=t_sNum;obtain⟨f_sWith,fd_sWith,t_sWith⟩:=t_sWith;obtain⟨f_sChM,fd_sChM,t_sChM⟩:=t_sChM;obtain⟨f_sWC,fd_sWC,t_sWC⟩:=t_sWC;obtain⟨f_sChk,fd_sChk,t_sChk⟩:=t_sChk;obtain⟨f_sHnd,fd_sHnd,t_sHnd⟩:=t_sHnd;obtain⟨f_sIsT,fd_sIsT,t_sIsT⟩:=t_sIsT;obtain⟨f_sHin,fd_sHin,t_sHin⟩:=t_sHin;obtain⟨f_sCkN,fd_sCkN,t_sCkN⟩:=t_sCkN;obtain⟨f_sCkP,fd_sCkP,t_sCkP⟩:=t_sCkP;obtain⟨f_sSrt,fd_sSrt,t_sSrt⟩:=t_sSrt;obtain⟨f_sHB,fd_sHB,t_sHB⟩:=t_sHB;obtain⟨f_sSoH,fd_sSoH,t_sSoH⟩:=t_sSoH;obtain⟨f_sNWo,fd_sNWo,t_sNWo⟩:=t_sNWo;obtain⟨f_sPWo,fd_sPWo,t_sPWo⟩:=t_sPWo;obtain⟨f_sBG,fd_sBG,t_sBG⟩:=t_sBG;obtain⟨f_sBP,fd_sBP,t_sBP⟩:=t_sBP;obtain⟨f_sCkC,fd_sCkC,t_sCkC⟩:=t_sCkC;obtain⟨f_sCst,fd_sCst,t_sCst⟩:=t_sCst;obtain⟨f_sEnd,fd_sEnd,t_sEnd⟩:=t_sEnd;obtain⟨f_sJon,fd_sJon,t_sJon⟩:=t_sJon;obtain⟨f_sLNt,fd_sLNt,t_sLNt⟩:=t_sLNt;obtain⟨f_sCel,fd_sCel,t_sCel⟩:=t_sCel;obtain⟨f_sRow,fd_sRow,t_sRow⟩:=t_sRow;obtain⟨f_sPrs,fd_sPrs,t_sPrs⟩:=t_sPrs;obtain⟨f_sWri,fd_sWri,t_sWri⟩:=t_sWri;obtain⟨f_sTol,fd_sTol,t_sTol⟩:=t_sTol;obtain⟨f_sLaw,fd_sLaw,t_sLaw⟩:=t_sLaw;have e:=hfa.symm.trans t_sLaw.at_;cases e;refine⟨fd_sLaw,fun s u=>.of_eq (t_sLaw.bd [u] rfl),fun base _ _=>?_⟩;obtain⟨m1,x1⟩:=T.Jf;obtain⟨m2,x2⟩:=T.xH;obtain⟨m3,x3⟩:=T.xE;obtain⟨m4,x4⟩:=T.Jg;obtain⟨m5,x5⟩:=T.Ji;obtain⟨m6,x6⟩:=T.Jj;obtain⟨m7,x7⟩:=T.Jk;obtain⟨m8,x8⟩:=T.Jl;obtain⟨m9,x9⟩:=T.HI;obtain⟨m10,x10⟩:=T.HJ;obtain⟨m11,x11⟩:=T.Jm;obtain⟨m12,x12⟩:=T.Jn;obtain⟨m13,x13⟩:=T.Jp;obtain⟨m14,x14⟩:=T.Jq;obtain⟨m15,x15⟩:=T.Js;obtain⟨m16,x16⟩:=T.HL;obtain⟨m17,x17⟩:=T.HM;obtain⟨n1,y1⟩:=T.Jh;obtain⟨n2,y2⟩:=T.HG;obtain⟨n3,y3⟩:=T.HH;obtain⟨n4,y4⟩:=T.HK;obtain⟨n5,y5⟩:=T.Jo;obtain⟨n6,y6⟩:=T.Jr;obtain⟨n7,y7⟩:=T.Jt;have d0:=CB (P:=P) (w:=w) (base:=base) t_sNum T;have d1:=zF (P:=P) (w:=w) (base:=base) t_sWith d0;have d2:=CD t_sChM T d1;have d3:=FA (P:=P) (w:=w) (base:=base) t_sWC T;have d4:=CG t_sChk T d1 d3;have d5:=CH t_sHnd T d4;have d6:=CJ t_sHin T (CI t_sIsT T d0);have d7:=CK t_sCkN T d0;have d8:=CO t_sSoH T d5;have d9:=CM t_sSrt T (CL t_sCkP T d7);have d10:=FJ (P:=P) (w:=w) (base:=base) t_sHB T;have d11:=Ds (P:=P) (w:=w) (base:=base) t_sNWo T;have d12:=Du (P:=P) (w:=w) (base:=base) t_sPWo T;have eRI:=FL x1 T d2;have eE:=CP x3 T d4;have eRR:=FN (P:=P) (w:=w) (mg:=mg) (base:=base) x4;have eOI:=FP x5 T eRI d7;have eOR:=FQ x6 T d8;have ePI:=FR x7 T eRI d6;have ePR:=FT (P:=P) (w:=w) (mg:=mg) (base:=base) x8 T;have ePaI:=CT x9 T eRI d9;have ePaR:=CU x10 T d10;have eVI:=FW x11 T eRI d7;have eVR:=FX x12 T d8;have eMI:=Ge x13 T eRI d9 (Gd t_sBP T d3 (Ga t_sBG T d5 d10));have eMR:=Gf (P:=P) (w:=w) (mg:=mg) (base:=base) x14 T;have c1:=De (P:=P) (w:=w) (base:=base) t_sCst T;have c2:=Dh (P:=P) (w:=w) (base:=base) t_sEnd T;have c3:=Dj t_sJon T c2;have c4:=Dl t_sLNt T c3 c2 c1;have eNI:=Gm x15 T eRI (Dm t_sCkC T d7) d9 c1;have eNL:=Dq x16 T c4;have eNR:=Dr x17 T eNL c1;have w1:=Gs (P:=P) (w:=w) (mg:=mg) (base:=base) y1;have w2:=Dv y2 T d11;have w3:=Dw y3 T d11;have w4:=Dx y4 T d12;have w5:=Gv y5 T d11;have w6:=Gy y6 T d12;have w7:=Gz y7 T d11 d12;have l3:=Dz (P:=P) (w:=w) (base:=base) t_sRow T;exact(DK t_sLaw T (Dy t_sCel T) l3 (DB t_sPrs T l3) (DE t_sWri T) (DF t_sTol T) eRI eOI ePI ePaI eVI w1 w2 w5 w3 w4 w6 w7 eRR eOR eVR ePR ePaR eMR eNR eE eMI eNI).ok
end K11
open PySem PySem.W PyProof.Rows
theorem L2.uu1{α}{P:List α->Prop}(h:∀ a,P [a]):∀us,us.length=1->P us
|[a],_=>h a
theorem L2.uu2{α}{P:List α->Prop}(h:∀ a b,P [a,b]):∀us,us.length=2->P us
|[a,b],_=>h a b
theorem L2.uu3{α}{P:List α->Prop}(h:∀ a b c,P [a,b,c]):∀us,us.length=3->P us
|[a,b,c],_=>h a b c
theorem L2.uu4{α}{P:List α->Prop}(h:∀ a b c d,P [a,b,c,d]):∀us,us.length=4->P us
|[a,b,c,d],_=>h a b c d
set_option maxRecDepth 100000 in
set_option maxHeartbeats 0 in
theorem PySem.Challenge.cw_shareparley_k11_words_of_rules_holds : PySem.Challenge.rw_shareparley_k11_words_of_rules.Holds := by
 w_on;o_law;k_head;(case hw=>w_witness2)
 k_fill
 refine K11.walk (l:=PySem.Challenge.rw_shareparley_k11_words_of_rules) rfl rfl (fun w h Y=>PySem.W.kIn_of Y) ?F
 case F =>
  intro w mg fa h KX G hmg;refine K11.DM hmg ?T ?t_sNum ?t_sWith ?t_sChM ?t_sWC ?t_sChk ?t_sHnd ?t_sIsT ?t_sHin ?t_sCkN ?t_sCkP ?t_sSrt ?t_sHB ?t_sSoH ?t_sNWo ?t_sPWo ?t_sBG ?t_sBP ?t_sCkC ?t_sCst ?t_sEnd ?t_sJon ?t_sLNt ?t_sCel ?t_sRow ?t_sPrs ?t_sWri ?t_sTol ?t_sLaw
  case T=>
   refine' K11.Im KX G ?iG ?oK ?kJ ?cK ?dW ?dA ?jE ?l8 ?oM ?fY ?iH ?oN ?kK ?kL ?gP ?pD ?lkAL ?Eg ?lkLN ?we ?wK ?pgRU ?hdRU ?poRU ?saRU ?caRU ?moRU ?nmRU ?feRU ?fhRU ?frRU ?irRU ?mkRU ?fiRU ?kkRU ?Fm ?pgOW ?hdOW ?poOW ?saOW ?caOW ?moOW ?nmOW ?feOW ?fhOW ?frOW ?irOW ?mkOW ?fiOW ?kkOW ?nf0OW ?Fn ?pgPL ?hdPL ?poPL ?saPL ?caPL ?moPL ?nmPL ?fePL ?fhPL ?frPL ?irPL ?mkPL ?fiPL ?kkPL ?nf0PL ?Fo ?pgPA ?hdPA ?poPA ?saPA ?caPA ?moPA ?nmPA ?fePA ?fhPA ?frPA ?irPA ?mkPA ?fiPA ?kkPA ?nf0PA ?Fp ?pgVO ?hdVO ?poVO ?saVO ?caVO ?moVO ?nmVO ?feVO ?fhVO ?frVO ?irVO ?mkVO ?fiVO ?kkVO ?nf0VO ?nf1VO ?nf2VO ?Fq ?pgMA ?hdMA ?poMA ?saMA ?caMA ?moMA ?nmMA ?feMA ?fhMA ?frMA ?irMA ?mkMA ?fiMA ?kkMA ?nf0MA ?nf1MA ?Ft ?pgNE ?hdNE ?poNE ?saNE ?caNE ?moNE ?nmNE ?feNE ?fhNE ?frNE ?irNE ?mkNE ?fiNE ?kkNE ?nf0NE ?nf1NE ?fflNE ?ffwRU ?ffwOW ?ffwPL ?ffwPA ?ffwVO ?ffwMA ?ffwNE ?lRI ?cdRI ?kpRI ?fnRI ?lH ?cdH ?kpH ?fnH ?lE ?cdE ?kpE ?fnE ?lRR ?cdRR ?kpRR ?fnRR ?lRW ?cdRW ?kpRW ?fnRW ?lOI ?cdOI ?kpOI ?fnOI ?lOR ?cdOR ?kpOR ?fnOR ?lOWo ?cdOWo ?kpOWo ?fnOWo ?lPI ?cdPI ?kpPI ?fnPI ?lPR ?cdPR ?kpPR ?fnPR ?lPlW ?cdPlW ?kpPlW ?fnPlW ?lPaI ?cdPaI ?kpPaI ?fnPaI ?lPaR ?cdPaR ?kpPaR ?fnPaR ?lPaW ?cdPaW ?kpPaW ?fnPaW ?lVI ?cdVI ?kpVI ?fnVI ?lVR ?cdVR ?kpVR ?fnVR ?lVW ?cdVW ?kpVW ?fnVW ?lMI ?cdMI ?kpMI ?fnMI ?lMR ?cdMR ?kpMR ?fnMR ?lMW ?cdMW ?kpMW ?fnMW ?lNI ?cdNI ?kpNI ?fnNI ?lNLs ?cdNLs ?kpNLs ?fnNLs ?lNRk ?cdNRk ?kpNRk ?fnNRk ?lNW ?cdNW ?kpNW ?fnNW ?cgcRI ?crcRI ?cfcRI ?GP ?Fu ?wL ?Fv ?c6 ?c7 ?SE2 ?SE3 ?SE4 ?SE5 ?SE8 ?SE9 ?wQ ?Fw ?Fx
   case iG|oK|kJ|cK|dW|dA|jE|l8|oM|fY|iH|oN|kK|kL|gP|pD|lkAL|Eg|lkLN|we|wK|pgRU|hdRU|poRU|saRU|caRU|moRU|nmRU|feRU|fhRU|frRU=>k_is
   (case irRU=>kit_is)
   case mkRU|fiRU|kkRU|Fm|pgOW|hdOW|poOW|saOW|caOW|moOW|nmOW|feOW|fhOW|frOW=>k_is
   (case irOW=>kit_is)
   case mkOW|fiOW|kkOW|nf0OW|Fn|pgPL|hdPL|poPL|saPL|caPL|moPL|nmPL|fePL|fhPL|frPL=>k_is
   (case irPL=>kit_is)
   case mkPL|fiPL|kkPL|nf0PL|Fo|pgPA|hdPA|poPA|saPA|caPA|moPA|nmPA|fePA|fhPA|frPA=>k_is
   (case irPA=>kit_is)
   case mkPA|fiPA|kkPA|nf0PA|Fp|pgVO|hdVO|poVO|saVO|caVO|moVO|nmVO|feVO|fhVO|frVO=>k_is
   (case irVO=>kit_is)
   case mkVO|fiVO|kkVO|nf0VO|nf1VO|nf2VO|Fq|pgMA|hdMA|poMA|saMA|caMA|moMA|nmMA|feMA|fhMA|frMA=>k_is
   (case irMA=>kit_is)
   case mkMA|fiMA|kkMA|nf0MA|nf1MA|Ft|pgNE|hdNE|poNE|saNE|caNE|moNE|nmNE|feNE|fhNE|frNE=>k_is
   (case irNE=>kit_is)
   case mkNE|fiNE|kkNE|nf0NE|nf1NE|fflNE|ffwRU|ffwOW|ffwPL|ffwPA|ffwVO|ffwMA|ffwNE|lRI|cdRI|kpRI|fnRI|lH|cdH|kpH|fnH|lE|cdE|kpE|fnE|lRR|cdRR|kpRR|fnRR|lRW|cdRW|kpRW|fnRW|lOI|cdOI|kpOI|fnOI|lOR|cdOR|kpOR|fnOR|lOWo|cdOWo|kpOWo|fnOWo|lPI|cdPI|kpPI|fnPI|lPR|cdPR|kpPR|fnPR|lPlW|cdPlW|kpPlW|fnPlW|lPaI|cdPaI|kpPaI|fnPaI|lPaR|cdPaR|kpPaR|fnPaR|lPaW|cdPaW|kpPaW|fnPaW|lVI|cdVI|kpVI|fnVI|lVR|cdVR|kpVR|fnVR|lVW|cdVW|kpVW|fnVW|lMI|cdMI|kpMI|fnMI|lMR|cdMR|kpMR|fnMR|lMW|cdMW|kpMW|fnMW|lNI|cdNI|kpNI|fnNI|lNLs|cdNLs|kpNLs|fnNLs|lNRk|cdNRk|kpNRk|fnNRk|lNW|cdNW|kpNW|fnNW|cgcRI|crcRI|cfcRI|GP|Fu|wL|Fv|c6|c7|SE2|SE3|SE4|SE5|SE8|SE9=>k_is
   case wQ|Fw|Fx=>k_exc
  case t_sNum|t_sChM|t_sWC|t_sHnd|t_sIsT|t_sHin|t_sCkN|t_sNWo|t_sPWo|t_sCkC|t_sCst|t_sEnd|t_sLaw=>
   refine' L2.bW KX G ?a ?l ?c ?k (fun _ _ _ _ _ _=>L2.uu1 fun _=>rfl)
   case a|l|c|k=>k_is
  case t_sWith|t_sHB|t_sBG|t_sJon|t_sWri|t_sTol=>
   refine' L2.bW KX G ?a ?l ?c ?k (fun _ _ _ _ _ _=>L2.uu3 fun _ _ _=>rfl)
   case a|l|c|k=>k_is
  case t_sChk|t_sCkP|t_sSrt|t_sSoH|t_sBP|t_sLNt|t_sCel=>
   refine' L2.bW KX G ?a ?l ?c ?k (fun _ _ _ _ _ _=>L2.uu2 fun _ _=>rfl)
   case a|l|c|k=>k_is
  case t_sRow|t_sPrs=>
   refine' L2.bW KX G ?a ?l ?c ?k (fun _ _ _ _ _ _=>L2.uu4 fun _ _ _ _=>rfl)
   case a|l|c|k=>k_is
