import PyProof.Rows.All
import Wide.All
import OpenK.AllK
import Wide.FinOn
import Lean
import PyProof.EqAt
import PyProof.EqKinds
import PyProof.TupleCall
import PySem.Challenge.RW_shareparley_k14_no_text
import KE.IntBitsLaws
import OpenK.KEqL
import KE.LcSums
import KE.KTupSum
import PyProof.Rows.EqDataRows
import PyProof.EnumMake
import PyProof.Rows.Range3
import PyProof.Rows.SortShell
import PyProof.Rows.SortWalk
import PyProof.ListRange
import KE.KSortTup
import KE.KDictOf
import KE.KMinKey
import KE.KDictList
import PyProof.Rows.SetFrom
import PyProof.SetScanFacts
import KE.KRevIter
import PyProof.FString
import PyProof.Rows.StrJoin2
import KE.KIntText
import PyProof.Draws
import PyProof.StrLawsTight
import PyProof.StrLawsIdx
import PyProof.StrCalls6
set_option compiler.extract_closed false
set_option autoImplicit true
local macro_rules|`(tactic|exists $es,*)=>`(tactic|refine ⟨$es,*, ?_⟩)
open List renaming length_map->qAa,getElem?_eq_getElem->qAe,length_append->qAf,length_cons->qAn,mem_of_getElem?->qAp,mem_cons_of_mem->qAq,mem_cons_self->qAr,getElem?_map->qAs,mem_append_right->qAx,getElem?_append_left->qAy,getElem?_append_right->qAz,size_toArray->qBc,replicate->qBd,getD_eq_getElem?_getD->qBg,range->qBk,map_cons->qBo,not_mem_nil->qBs,length_drop->qBw,append_nil->qBx,append_assoc->qCc,map_map->qCe,mem_cons->qCk,filterMap_append->qCq,length_take->qCs,map_append->qCt,filterMap_cons->qCw,filterMap_eq_map'->qCz,take_of_length_le->qDb,getElem_mem->qDc,mem_of_mem_take->qDj,getElem?_eq_none->qDq,length_filterMap_le->qDs,filterMap_map->qDt,mem_of_mem_drop->qDv,mem_append_left->qDw,range_succ->qEb,toArray->qEd,map_nil->qEe,getElem?_drop->qEf,nil_append->qEk,length_range->qEl,replicate_succ->qEp,lookup->qEq,drop_left->qFh,map_take->qFp,find?_cons->qFq,getElem?_set_self->qFw,flatten_cons->qFy,drop_drop->qFz,length_replicate->qGd,cons_append->qGe,getElem?_set_ne->qGh,sum_cons->qGl,map_drop->qGm,length_take_le->qGs,length_nil->qGt,getElem?_take_of_lt->qHi,any_cons->qHn,of_mem_zip->qHy,length_set->qHz,filterMap_eq_map->qIa,take_left->qIl,filterMap->qIm,map_congr_left->qIo,length->qIp,getElem_of_mem->qIq,set->qIz,pairwise_cons->qJa,take_length->qJk,mem_append->qJw,nodup_nil->qKf,mem_or_eq_of_mem_set->qKg,drop_zero->qKh,getElem?_replicate->qKl,getElem?_cons_zero->qKm,getElem?_cons_succ->qKn,range_succ_eq_map->qKs,drop_of_length_le->qKt,map_set->qLe,all_map->qLf,length_dropLast->qLn,set_cons_succ->qLx,mem_singleton->qLy,map_replicate->qLz,foldl->qMf,range'_succ->qMl,getElem_inj->qMm,all_eq_true->qMn,all_cons->qNe
open PySem.W renaming Frag->qAb,findIn->qAd,keepIn->qAv,nsIn->qBa,mroIn->qBm,codeIn->qBt,fnOf->qBu,mg_of->qBv,mg_none_of->qBz,hasDictIn->qCd,hideAll->qCf,isFn->qCh,Looks->qCy,plainGet->qDa,specialIn->qDd,plainOver->qDe,emptyDict->qDf,looks_findIn->qDh,kitOne->qDl,excIn->qDm,makesIn->qDn,instObj->qDy,hideAll_get->qDz,hideAll_none->qEg,typeIn->qEo,of_hideAll->qEw,callWith_K->qEx,takesIn->qFj,kitAny->qFv,looks_mroIn->qGg,lookIn->qGv,funFrames_hide->qHj,cellsFrom_some->qHk,readsIn->qHo,methodCall_KW->qHp,findCls->qHq,notCls->qHw,plainGet_of->qIc,clsIn->qIj,methodObj->qIr,handedIn->qJd,takerIn->qJf,InstAt->qJm,KitX->qKk,looks_clsIn->qKq,findObj_own->qKr,method_cls->qLc,codeRec_of->qLd,set_plain->qLg,kitx_list->qLh,kitx_dict->qLi,handed_on->qLj,cls_value->qLk,any_some->qLp,kia_one->qLs,bind_fn->qLt,OpenLaw->qLu,WalkO->qMj
open PySem renaming wpAny_bind->qAc,sizeLine->qAg,Value->qAh,Shared->qAj,wpAny_pure->qAo,mainGlobals->qAu,Program->qBe,starEach->qBl,wpAny->qBq,model->qBr,FuncData->qBy,Around->qCb,World->qCj,wpAny_mono->qCm,bootBuiltins->qCn,wpAny_truthy_bool->qCr,wpAny_holding->qCx,compareOp->qDi,wpAny_Call_Name_kw->qDx,codeAny_call_builtin->qEa,binaryOp->qEs,wpAny_pyIter_list->qEt,wpAny_loadPart_at->qEu,wpAny_call->qEv,wpAny_standAt->qEz,wpAny_of_eq->qFa,keywordEach->qFb,backTo->qFc,wpAny_passesOwn->qFe,sizeLine_eq->qFf,codeAny_mono->qFg,wpAny_newObj_type->qFi,wpAny_isSubtype_exc->qFt,wpAny_field->qFu,wpAny_execs_nil->qGc,sysModules->qGi,foldedSetIterable->qGj,codeAny->qGk,noteFrame->qGq,PyData->qGr,backToKw->qGz,attributeBase->qHa,Scope->qHb,wpAny_ite_false->qHf,sliceBounds->qHg,letOwnedTupleGo->qHh,wpAny_loadPart->qHt,call_meets->qHv,standAt->qIf,behindInMarks->qIg,holding->qIx,wpAny_Name->qJb,assignEach->qJc,swapsWith->qJq,raiseStmt->qJr,getMethod->qJs,IsPart->qJt,isInstance->qKb,getItem->qKc,NameKind->qKp,tupleKind->qKv,rawInt->qKw,excClassObj->qKx,cellsFrom->qKy,callerA->qKz,assign->qLa,BindsTo->qLb,Model->qLo,valueAt->qMb,bindArgs->qMc,Keyword->qMd,typeOf->qMo,isSubtype->qMp,cLine->qMq,PassesOwn->qMr,relabel->qMy,getAttr->qMz,bindL->qNa,bindC->qNb,again->qNc,isTrue->qNj,callWith->qNk,Result->qNl,GenState->qNm,atKey->qNo,spliced->qOd
open PySem.Heap renaming get?_push_of_some->qAi,lt_size->qAt,get?_push_size->qBh,get?_update_other->qCl,get?_update_self->qDg,FlyingW->qDk,get?_none_of_le->qFd,get?_update_ne->qGu,size_push->qHe,size_update->qHr,SameBut->qIb,MadeExcOf->qKj,get?_push_ne->qMg,get?_push_at->qMh,HeldW->qMi,LeftW->qOc
open Nat renaming le_trans->qAk,le_refl->qAl,lt_of_lt_of_le->qAw,ne_of_lt->qBi,lt_or_ge->qBj,zero_le->qBn,lt_of_le_of_lt->qBp,le_of_lt->qCu,lt_irrefl->qDp,le_antisymm->qDr,pow_le_pow_right->qEj,toDigits->qFm,lt_trans->qFn,eq_zero_or_pos->qFs,sub_self->qHc,one_le_two_pow->qHd,succ_le_succ->qHu,sub_le->qIh,add_le_add_right->qIk,add_le_add->qIn,mul_le_mul_left->qIs,le_succ->qIt,add_le_add_left->qIu,lt_succ_of_lt->qJi,lt_succ_self->qJn,lt_of_not_le->qJo,le_add_right->qJp,toDigits_append_toDigits->qJv,pow_pos->qKa,succ_pos->qLl,le_of_eq->qLm,mul_le_mul_right->qLr,pos_of_ne_zero->qMe,lt_trichotomy->qMk,succ_ne_self->qMs,min_eq_right->qMt,le_of_not_lt->qMu,strongRecOn->qMv,not_lt_zero->qMw,min_eq_left->qMx,add_assoc->qNn,sub_zero->qNw,ne_of_gt->qNx,le_total->qNy,one_mul->qNz,log2_lt->qOa,add_mul->qOb
open Bool renaming false_ne_true->qAm,and_eq_true->qBb,and_false->qDo,eq_iff_iff->qFr,false_and->qGb,false_eq_true->qGx,or_eq_true->qJy,not_true->qKo,false_or->qNg,and_true->qNh
open PySem.F renaming plainAttrs_str->qBf,type_str_join->qCo,slot_str_join->qCp,type_list_append->qEh,slot_list_append->qEi,plainAttrs_list->qEm,excBase_ValueError->qGo,type_str_split->qHl,slot_str_split->qHm,type_str_startswith->qJg,slot_str_startswith->qJh,args_tuple_add_2->qJu,entry_tuple_add->qJz,slot_tuple_add->qKe
open Int renaming emod_lt_of_pos->qCa,emod_nonneg->qCi,natCast_nonneg->qDu,toNat_natCast->qEn,toNat_of_nonneg->qFk,negSucc->qGa,ofNat->qGw,natAbs_natCast->qJe,zero_add->qJl,fdiv_eq_ediv_of_nonneg->qKi,ofNat_sub->qKu,mul_nonneg->qNf
open Array renaming toList_append->qCg,length_toList->qCv,getD->qGn,getElem?_eq_getElem->qGy,append_assoc->qIw,toList->qNi
open PyProof.Rows renaming slot_tuple_getitem->qEc,callWith_type1->qFx,toString_length_le->qHx,callWith_builtin1->qId,slice_closes_to->qNp,replace_strikes->qNq,ofString_length->qNr,lt_int->qNs,len_le_of_split->qNt,filter_free->qNu,evalArgs_kw2->qNv
open PySem.Builtin renaming bitAnd->qEr,bitOr->qFl
open PyProof.Rows renaming seqObj->qEy,envOfC->qGf,kindOf->qIi,AllBare->qIy,IntsAre->qJj,sortedHeap->qKd
open PySem.Calls renaming spliced_cons->qFo,callWith_builtin->qHs,evalArgs_plain->qIe,Constant_str->qIv,Name_function_global->qJx,spliced_nil->qMa
open Classical renaming byContradiction->qGp
open Option renaming isSome_map->qLq,getD_some->qLv,getD_none->qLw,none->qNd
theorem cO{α:Sort _}{a:α}{b:Prop}:a=a\/b:=.inl rfl
set_option Elab.async false
set_option linter.all false
set_option maxRecDepth 100000
local macro_rules
| `(#[0])=>`(by rfl)
| `(#[1])=>`(by decide)
| `(#[2])=>`(by decide +kernel)
| `(#[3])=>`(by first|exact .inl rfl|exact .inr rfl)
| `(#[6])=>`(fun _ _=>rfl)
| `(#[7])=>`(by with_unfolding_all rfl)
| `(#[8,$l])=>`(show (($l):List PySem.Str).Nodup from by decide +kernel)
| `(#[9])=>`(PySem.PassesOwn.never)
namespace L2
open PySem PySem.Spec PyProof.Rows
theorem kG:1<=qAg:=by decide
theorem Bk:2<=qAg:=by decide
theorem Bc:3<=qAg:=by decide
abbrev Key:=Sum Int Str
def p8:Key->qAh->Bool
 | .inl k,v=>Value.isInt k v
 | .inr x,v=>Value.isStrOf x v
def OQ(w:qCj):Key->Int
 | .inl k=>hashInt k
 | .inr x=>hashStr w x
theorem cT:∀{k:Key}{v:qAh},p8 k v=true->(∃i t,k=Sum.inl i/\v=Value.int i t)\/(∃x t,k=Sum.inr x/\v=Value.str x t)
 | .inl i,v,h=>by
  obtain⟨t,e⟩:=Value.isInt_shape (k:=i) (v:=v) h;exact .inl ⟨i,t,rfl,e⟩
 | .inr x,v,h=>by
  obtain⟨t,e⟩:=Value.isStrOf_shape (x:=x) (v:=v) h;exact .inr ⟨x,t,rfl,e⟩
theorem z7(i:Int)(t:Tok):p8 (.inl i) (.int i t)=true:=by simp[p8,Value.isInt]
theorem z8(x:Str)(t:Tok):p8 (.inr x) (.str x t)=true:=by simp[p8,Value.isStrOf]
theorem Hh(a b:Int):decide ((Sum.inl a:Key)=Sum.inl b)=(a == b):=by
 by_cases e:a=b
 .subst e;simp
 .have h:¬(Sum.inl a:Key)=Sum.inl b:=fun q=>e (Sum.inl.inj q);rw[decide_eq_false h];exact(beq_eq_false_iff_ne.mpr e).symm
theorem Hi(a b:Str):decide ((Sum.inr a:Key)=Sum.inr b)=decide (a=b):=by
 by_cases e:a=b
 .subst e;simp
 .have h:¬(Sum.inr a:Key)=Sum.inr b:=fun q=>e (Sum.inr.inj q);rw[decide_eq_false h,decide_eq_false e]
theorem Hj(a:Int)(b:Str):decide ((Sum.inl a:Key)=Sum.inr b)=false:=decide_eq_false (fun q=>nomatch q)
theorem Hk(a:Str)(b:Int):decide ((Sum.inr a:Key)=Sum.inl b)=false:=decide_eq_false (fun q=>nomatch q)
def dS(prog:qBe)(w:qCj):PySem.KeyKind prog w Key where
 is:=p8
 hash:=OQ w
 inj:=fun v a b ha hb=>by
  rcases cT ha with ⟨i,t,rfl,rfl⟩ | ⟨x,t,rfl,rfl⟩
  .rcases cT hb with ⟨j,u,rfl,e⟩ | ⟨y,u,rfl,e⟩
   .injection e with e1 _;rw[e1]
   .exact nomatch e
  .rcases cT hb with ⟨j,u,rfl,e⟩ | ⟨y,u,rfl,e⟩
   .exact nomatch e
   .injection e with e1 _;rw[e1]
 byValue:=fun k v h=>by
  rcases cT h with ⟨i,t,rfl,rfl⟩ | ⟨x,t,rfl,rfl⟩ <;> rfl
 pyHash:=fun hv h=>by
  rcases cT hv with ⟨i,t,rfl,rfl⟩ | ⟨x,t,rfl,rfl⟩
  .exact wpAny_pyHash_int h
  .exact wpAny_pyHash_str h
 eqBool:=fun hu hv h=>by
  rcases cT hu with ⟨i,t,rfl,rfl⟩ | ⟨x,t,rfl,rfl⟩
  .rcases cT hv with ⟨j,u,rfl,rfl⟩ | ⟨y,u,rfl,rfl⟩
   .rw[Hh] at h;exact wpAny_eqBool_int h
   .rw[Hj] at h;exact SeqAt.EqAt.int_str i t y u _ _ _ _ h
  .rcases cT hv with ⟨j,u,rfl,rfl⟩ | ⟨y,u,rfl,rfl⟩
   .rw[Hk] at h;exact SeqAt.EqAt.str_int x t j u _ _ _ _ h
   .rw[Hi] at h;exact wpAny_eqBool_str h
 «strs»:=fun k x t v h=>by
  rcases cT h with ⟨i,u,rfl,e⟩ | ⟨y,u,rfl,e⟩
  .exact nomatch e
  .injection e with e1 _
   subst e1;cases v <;> rfl
theorem tO(prog:qBe)(w:qCj)(i:Int)(t:Tok):(dS prog w).is (.inl i) (.int i t)=true:=z7 i t
theorem tP(prog:qBe)(w:qCj)(x:Str)(t:Tok):(dS prog w).is (.inr x) (.str x t)=true:=z8 x t
inductive V where
 | non | bl (b:Bool) | int (i:Int) | str (x:Str) | byt (b:Array UInt8) | flt (b:UInt64) | ref (a:Addr) | ty (n:String)
 deriving DecidableEq
def RelV:V->qAh->Prop
 | .non,u=>u=Value.none
 | .bl b,u=>u=Value.bool b
 | .int i,u=>∃t,u=Value.int i t
 | .str x,u=>∃t,u=Value.str x t
 | .byt b,u=>∃t,u=Value.bytes b t
 | .flt b,u=>∃t,u=Value.float b t
 | .ref a,u=>u=Value.ref a
 | .ty n,u=>u=Value.type n
abbrev Vals:List V->List qAh->Prop:=Paired RelV
theorem Vals.length(r:Vals xs us):xs.length=us.length:=Paired.length r
theorem Vals.get:∀{xs:List V}{us:List qAh}{i:Nat}{x:V},Vals xs us->xs[i]?=some x->∃u,us[i]?=some u/\RelV x u
 | _,_,_,_,.nil,e=>by simp at e
 | _,_,0,_,.cons r _,e=>by simp at e;subst e;exact⟨_,rfl,r⟩
 | _,_,i+1,x,.cons _ t,e=>by
  obtain⟨u,h1,h2⟩:=Vals.get (i:=i) (x:=x) t (by simpa using e);exact⟨u,by simpa using h1,h2⟩
theorem Vals.set(r:RelV x u):∀{xs:List V}{us:List qAh} (i:Nat),Vals xs us->Vals (xs.set i x) (us.set i u)
 | _,_,_,.nil=>.nil
 | _,_,0,.cons _ t=>.cons r t
 | _,_,i+1,.cons q t=>.cons q (Vals.set r i t)
theorem Vals.append:∀{xs ys:List V}{us ws:List qAh},Vals xs us->Vals ys ws->Vals (xs++ys) (us++ws)
 | _,_,_,_,.nil,s=>s
 | _,_,_,_,.cons r t,s=>.cons r (Vals.append t s)
theorem Vals.take:∀{xs:List V}{us:List qAh} (n:Nat),Vals xs us->Vals (xs.take n) (us.take n)
 | _,_,0,_=>.nil
 | _,_,_+1,.nil=>.nil
 | _,_,n+1,.cons r t=>.cons r (Vals.take n t)
theorem Vals.drop:∀{xs:List V}{us:List qAh} (n:Nat),Vals xs us->Vals (xs.drop n) (us.drop n)
 | _,_,0,r=>r
 | _,_,_+1,.nil=>.nil
 | _,_,n+1,.cons _ t=>Vals.drop n t
def jS:Option V->Option qAh->Prop
 | some v,some u=>RelV v u
 | none,none=>True
 | _,_=>False
def KV{κ:Type}:List (κ×V)->List (κ×qAh)->Prop:=Paired fun(p:κ×V) (q:κ×qAh)=>p.1=q.1/\RelV p.2 q.2
def kV:Key->V
 | .inl i=>.int i
 | .inr x=>.str x
inductive HO where
 | lst (xs:List V)
 | tup (xs:List V)
 | dK (kvs:List (Key×V)) | dT (kvs:List (List Key×V))
 | set (S:Int->Bool) (n:Nat)
 | ins (C dx:Addr) (fs:List (Str×V))
 | own (x:Addr)
 | xd (fs:List (Str×V))
 | met (f x:Addr)
 | rng (lo hi:Int)
 | frz (o:Obj) (u:HO)
 | tbl (ps:Array qAh)
 | ext (φ:Heap->Prop)
abbrev Hp:=Addr->Option HO
def upd(H:Hp)(a:Addr)(o:HO):Hp:=fun b=>if b=a then some o else H b
theorem aB:upd H a o a=some o:=by delta upd;rw[if_pos rfl]
theorem aM(h:b≠a):upd H a o b=H b:=by delta upd;rw[if_neg h]
theorem rP:upd (upd H a o) a u=upd H a u:=by
 funext b;delta upd;split <;> rfl
theorem fE{H:Hp}{a b:Addr}{o u:HO}(h:H a=some o)(h':H b=some u)(d:o≠u):a≠b:=by
 intro e;subst e;rw[h] at h';exact d (Option.some.inj h')
theorem bD{H:Hp}{a b:Addr}{o:HO}(h:H a=some o)(h':H b=none):a≠b:=by
 intro e;subst e;rw[h] at h';cases h'
section
variable (P:qBe) (w:qCj)
def cM(H:Hp)(h:Heap)(a:Addr):HO->Prop
 | .lst xs=>xs.length<=qAg/\∃(its:List qAh) (n:Nat),Vals xs its/\h.get? a=some { cls:=.type "list",data:=.seq its.toArray n }
 | .tup xs=>xs.length<=qAg/\∃its:List qAh,Vals xs its/\IsTup h a its.toArray
 | .dK kvs=>kvs.length<=qAg/\(a == qGi)=false/\∃vs,KV kvs vs/\h.DictOf (dS P w) a vs
 | .dT kvs=>kvs.length<=qAg/\(a == qGi)=false/\∃xs:List (List Key×Addr×qAh),
   Paired (fun(p:List Key×V) (q:List Key×Addr×qAh)=>p.1=q.1/\H q.2.1=some (.tup (p.1.map kV))/\RelV p.2 q.2.2) kvs xs /\
   ∃o es ep,h.get? a=some o/\o.ExactDict/\o.data = .dict es ep/\es.toList=xs.map (entryOfKey (qKv (dS P w)))/\(xs.map (·.1)).Nodup
 | .set S n=>h.SetOf (intKind P w) a S n
 | .ins C dx fs=>H dx=some (.own a)/\fs.length<=1000/\dx≠a/\h.get? a=some (qDy C dx) /\
   ∃mA,h.Ns1 dx mA/\(∀f,jS (fs.lookup f) (mA f))/\PySem.Within mA (fs.map (·.1))
 | .own _=>∃o,h.get? a=some o
 | .xd fs=>∃mA,h.Ns1 a mA/\∀f,jS (fs.lookup f) (mA f)
 | .rng lo hi=>∃t u v,h.get? a=some { cls:=.type "range",data:=.fields #[.int lo t,.int hi u,.int 1 v] }
 | .frz o u=>h.get? a=some o/\cM H h a u
 | .tbl ps=>h.get? a=some { cls:=.none,data:=.fields ps }
 | .met f x=>h.get? a=some (qIr (.ref f) (.ref x))
 | .ext φ=>φ h/\(∃o,h.get? a=some o)/\∀h1 h2:Heap,φ h1->(∀o,h1.get? a=some o->h2.get? a=some o)->φ h2
def jX(H:Hp)(h:Heap):Prop:=∀a o,H a=some o->cM P w H h a o
end
section
variable {P:qBe}{w:qCj}{H H':Hp}{h h':Heap}{a:Addr}{o:HO}
theorem cM.lt(x:cM P w H h a o):a<h.objs.size:=by
 cases o with
 | lst xs=>obtain⟨_,_,_,_,e⟩:=x;exact qAt e
 | tup xs=>obtain⟨_,_,_,p⟩:=x;exact p.lt
 | dK kvs=>obtain⟨_,_,_,_,o,_,_,e,_⟩:=x;exact qAt e
 | dT kvs=>obtain⟨_,_,_,_,o,_,_,e,_⟩:=x;exact qAt e
 | set S n=>obtain⟨o,_,_,_,e,_⟩:=x;exact qAt e
 | ins C dx fs=>obtain⟨_,_,_,e,_⟩:=x;exact qAt e
 | own y=>obtain⟨_,e⟩:=x;exact qAt e
 | xd fs=>obtain⟨_,⟨_,_,_,e,_⟩,_⟩:=x;exact qAt e
 | rng lo hi=>obtain⟨_,_,_,e⟩:=x;exact qAt e
 | frz ob u=>obtain⟨e,_⟩:=x;exact qAt e
 | tbl ps=>exact qAt (show h.get? a=some _ from x)
 | met f y=>exact qAt (show h.get? a=some _ from x)
 | ext φ=>obtain⟨_,⟨_,e⟩,_⟩:=x;exact qAt e
theorem Paired.Hl:∀{l₁:List α}{l₂:List β},Paired F l₁ l₂->(∀a b,F a b->G a b)->Paired G l₁ l₂
 | _,_,.nil,_=>.nil
 | _,_,.cons r t,f=>.cons (f _ _ r) (Paired.Hl t f)
theorem cM.iY(x:cM P w H h a o)(k:∀b u,(b=a\/H b=some (.own a))->h.get? b=some u->h'.get? b=some u)
  (ho:∀b,H b=some (.own a)->H' b=some (.own a)) (ht:∀b xs,H b=some (.tup xs)->H' b=some (.tup xs)):cM P w H' h' a o:=by
 induction o with
 | lst xs=>obtain⟨z,its,n,r,e⟩:=x;exact⟨z,its,n,r,k _ _ (.inl rfl) e⟩
 | tup xs=>obtain⟨z,its,r,ob,e,c⟩:=x;exact⟨z,its,r,ob,k _ _ (.inl rfl) e,c⟩
 | dK kvs=>obtain⟨z,y,vs,r,ob,es,ep,e,c⟩:=x;exact⟨z,y,vs,r,ob,es,ep,k _ _ (.inl rfl) e,c⟩
 | dT kvs =>
  obtain⟨z,y,xs,r,ob,es,ep,e,c⟩:=x;exact⟨z,y,xs,Paired.Hl r fun p q z=>⟨z.1,ht _ _ z.2.1,z.2.2⟩,ob,es,ep,k _ _ (.inl rfl) e,c⟩
 | set S n=>obtain⟨ob,es,ep,t,e,c⟩:=x;exact⟨ob,es,ep,t,k _ _ (.inl rfl) e,c⟩
 | ins C dx fs =>
  obtain⟨d,z,ne,e,mA,⟨od,es,ep,e2,c⟩,r⟩:=x;exact⟨ho _ d,z,ne,k _ _ (.inl rfl) e,mA,⟨od,es,ep,k _ _ (.inr d) e2,c⟩,r⟩
 | own y=>obtain⟨ob,e⟩:=x;exact⟨ob,k _ _ (.inl rfl) e⟩
 | xd fs=>obtain⟨mA,⟨od,es,ep,e,c⟩,r⟩:=x;exact⟨mA,⟨od,es,ep,k _ _ (.inl rfl) e,c⟩,r⟩
 | rng lo hi=>obtain⟨t,u,v,e⟩:=x;exact⟨t,u,v,k _ _ (.inl rfl) e⟩
 | frz ob u ih=>obtain⟨e,q⟩:=x;exact⟨k _ _ (.inl rfl) e,ih q⟩
 | tbl ps =>
  have e:h.get? a=some { cls:=.none,data:=.fields ps }:=x;show h'.get? a=some { cls:=.none,data:=.fields ps };exact k a _ (.inl rfl) e
 | met f y =>
  have e:h.get? a=some (qIr (.ref f) (.ref y)):=x;show h'.get? a=some (qIr (.ref f) (.ref y));exact k a _ (.inl rfl) e
 | ext φ=>obtain⟨p,⟨o,e⟩,st⟩:=x;exact⟨st _ _ p fun o q=>k _ _ (.inl rfl) q,⟨o,k _ _ (.inl rfl) e⟩,st⟩
theorem jX.lt(x:jX P w H h)(e:H a=some o):a<h.objs.size:=(x a o e).lt
theorem jX.fresh(x:jX P w H h)(e:h.objs.size<=a):H a=none:=by
 cases q:H a with
 | none=>rfl
 | some u=>exact absurd (qAw (x.lt q) e) (qDp _)
theorem jX.kept(x:jX P w H h)(k:∀b u,h.get? b=some u->h'.get? b=some u):jX P w H h':=fun a o e =>
 (x a o e).iY (fun b u _ q=>k b u q) (fun _ q=>q) fun _ _ q=>q
theorem jX.laid(x:jX P w H h)(k:∀b u,h.get? b=some u->h'.get? b=some u)(hp:h.objs.size<=a)(new:cM P w (upd H a o) h' a o):jX P w (upd H a o) h':=fun b u e=>by
 have hn:=x.fresh hp;by_cases hb:b=a
 .subst hb;rw[aB] at e;cases e;exact new
 .rw[aM hb] at e;exact(x b u e).iY (fun c v _ q=>k c v q) (fun c q=>by rw[aM (bD q hn)];exact q) fun c xs q=>by rw[aM (bD q hn)];exact q
end
def Rd(H:Hp)(a:Addr)(u:HO):Prop:=H a=some u\/∃o,H a=some (.frz o u)
theorem Rd.ok(r:Rd H a u)(x:jX P w H h):cM P w H h a u:=by
 rcases r with r | ⟨o,r⟩
 .exact x a u r
 .obtain⟨_,q⟩:=x a _ r;exact q
def Lo:Option HO->Prop
 | some (.lst _)=>True
 | some (.dK _)=>True
 | some (.dT _)=>True
 | some (.set _ _)=>True
 | some (.ins _ _ _)=>True
 | some (.ext _)=>True
 | _=>False
section
variable {P:qBe}{w:qCj}{H:Hp}{h h':Heap}{x e:Addr}{o':HO}
theorem jX.write(ok:jX P w H h)(mu:Lo (H x))(he:e=x\/H e=some (.own x))(k:∀b u,b≠e->h.get? b=some u->h'.get? b=some u)(heo:∃u,h'.get? e=some u)
  (new:cM P w (upd H x o') h' x o'):jX P w (upd H x o') h':=fun b u q=>by
 have nown:∀c y,H c=some (.own y)->c≠x:=fun c y r z=>by subst z;rw[r] at mu;exact mu
 have ntup:∀c xs,H c=some (.tup xs)->c≠x:=fun c xs r z=>by subst z;rw[r] at mu;exact mu
 by_cases hb:b=x
 .subst hb;rw[aB] at q;cases q;exact new
 .rw[aM hb] at q;by_cases hbe:b=e
  .have q':H b=some (.own x):=by
    rcases he with z | z
    .exact absurd (hbe.trans z) hb
    .rw[hbe];exact z
   rw[q] at q';cases q';obtain⟨v,hv⟩:=heo;exact⟨v,by rw[hbe];exact hv⟩
  .refine(ok b u q).iY (fun c v hc r=>k c v ?_ r) (fun c r=>by rw[aM (nown c b r)];exact r) fun c xs r=>by rw[aM (ntup c xs r)];exact r
   rcases hc with rfl | hc
   .exact hbe
   .rintro rfl;rcases he with z | z
    .exact nown c b hc z
    .rw[hc] at z;cases z;exact hb rfl
end
structure Un (fs ex:List Addr) (H H':Hp) (h h':Heap):Prop where
 keep:∀b o,h.get? b=some o->H b=none->b∉fs->b∉ex->h'.get? b=some o
 slot:∀b o,h.get? b=some o->H b=none->b∈fs->b∉ex->∃sl,h'.get? b=some { o with slots:=sl }
 free:∀b o,h.get? b=some o->H b=none->b∉ex->H' b=none
 there:∀b o,h.get? b=some o->b∉ex->∃o',h'.get? b=some o'
 dU:∀b xs,H b=some (.tup xs)->H' b=some (.tup xs)
 gB:∀b o u,H b=some (.frz o u)->H' b=some (.frz o u)
 gJ:∀b ps,H b=some (.tbl ps)->∃more,H' b=some (.tbl (ps++more))
section
variable {fs fs' ex ex':List Addr}{H H1 H2:Hp}{h h1 h2 h':Heap}{a x e:Addr}{o:HO}
theorem Un.any(u:Un fs ex H H1 h h1){b:Addr}{ob:Obj}(q:h.get? b=some ob)(n:H b=none)(hx:b∉ex):∃sl,h1.get? b=some { ob with slots:=sl }:=by
 by_cases hb:b∈fs
 .exact u.slot b ob q n hb hx
 .exact⟨ob.slots,u.keep b ob q n hb hx⟩
theorem Un.kept(k:∀b u,h.get? b=some u->h'.get? b=some u):Un fs ex H H h h' :=
 ⟨fun b ob q _ _ _=>k b ob q,fun b ob q _ _ _=>⟨ob.slots,k b ob q⟩,fun _ _ _ n _=>n,fun b ob q _=>⟨ob,k b ob q⟩,fun _ _ q=>q,fun _ _ _ q=>q,fun _ ps q=>⟨#[],by rw[q];simp⟩⟩
theorem Un.refl:Un fs ex H H h h:=Un.kept fun _ _ q=>q
theorem Un.laid(k:∀b u,h.get? b=some u->h'.get? b=some u)(hp:h.objs.size<=a)(hn:H a=none):Un fs ex H (upd H a o) h h' where
 keep:=fun b u q _ _ _=>k b u q
 slot:=fun b u q _ _ _=>⟨u.slots,k b u q⟩
 free:=fun b u q n _=>by rw[aM (qBi (qAw (qAt q) hp))];exact n
 there:=fun b u q _=>⟨u,k b u q⟩
 dU:=fun b xs q=>by rw[aM (bD q hn)];exact q
 gB:=fun b u xs q=>by rw[aM (bD q hn)];exact q
 gJ:=fun b ps q=>⟨#[],by rw[aM (bD q hn),q];simp⟩
theorem Un.write(mu:Lo (H x))(he:e=x\/H e=some (.own x))(k:∀b u,b≠e->h.get? b=some u->h'.get? b=some u)(heo:∃u,h'.get? e=some u):Un fs ex H (upd H x o) h h':=by
 have hx:∀b,H b=none->b≠x:=fun b n z=>by subst z;rw[n] at mu;exact mu
 have hb:∀b,H b=none->b≠e:=fun b n z=>by
  subst z;rcases he with r | r
  .exact hx b n r
  .rw[n] at r;cases r
 have hm:∀b u,H b=some u->¬Lo (some u)->b≠x:=fun b u q nm z=>by subst z;rw[q] at mu;exact nm mu
 refine⟨fun b u q n _ _=>k b u (hb b n) q,fun b u q n _ _=>⟨u.slots,k b u (hb b n) q⟩,fun b u q n _=>by rw[aM (hx b n)];exact n,fun b u q _=>?_,
  fun b xs q=>by rw[aM (hm b _ q fun z=>z)];exact q,fun b u xs q=>by rw[aM (hm b _ q fun z=>z)];exact q,fun b ps q=>⟨#[],by rw[aM (hm b _ q fun z=>z),q];simp⟩⟩
 by_cases hbe:b=e
 .subst hbe;exact heo
 .exact⟨u,k b u hbe q⟩
end
def Oz(h:Heap)(H:Hp):List Addr:=(qBk h.objs.size).filter fun a=>(H a).isSome
def rQ(h:Heap)(H:Hp):Heap:=qCf h (Oz h H)
theorem z9(h:Heap)(H:Hp):(rQ h H).objs.size=h.objs.size:=PySem.W.hideAll_size _ _
theorem Bl(e:h.get? b=some o)(n:H b=none):(rQ h H).get? b=some o :=
 qDz _ e fun hm=>by
  have q:(H b).isSome=true:=(List.mem_filter.mp hm).2;rw[n] at q;simp at q
theorem Ee(e:(rQ h H).get? b=some o):h.get? b=some o/\H b=none:=by
 have e':h.get? b=some o:=qEw (Oz h H) e;exists e';cases q:H b with
 | none=>rfl
 | some x =>
  have hm:b∈Oz h H:=List.mem_filter.mpr ⟨List.mem_range.mpr (qAt e'),by simp[q]⟩;have z:(rQ h H).get? b=none:=qEg (Oz h H) hm;rw[z] at e;cases e
def Ef(g h:Heap)(L:Addr):List (Addr×Obj):=(qBk h.objs.size).filterMap fun a=>if a=L\/(g.get? a).isSome=true then none else (h.get? a).map fun o=>(a,o)
def rest(g h:Heap)(L d:Addr):List (Addr×Obj):=(Ef g h L).filter fun p=>decide (p.1≠d)
structure Mod (K:qAb) (mg:Str->Option qAh) (base:Heap):Prop where
 Ea:K.In base
 glob:base.Ns qAu mg
 blt:∃mb,base.Ns builtinsNs mb/\∀x:Str,x≠"__name__"->mb x=qCn x
 nolimit:base.NoLimit
structure Cx where
 prog:qBe
 w:qCj
 K:qAb
 mg:Str->Option qAh
 base:Heap
 A:qCb
 N:List Str
 s₀:qAj
 H₀:Hp
 env:Env
 outer:List Env
 stack:List Env
 ex:List Addr
 fn:Str->Bool
 calm:Bool
 pn:List (Addr×Obj)
 xe:qAh->qAj->Prop
def gD(l:List Env):List Addr:=l.filterMap (·.frame)
abbrev Cx.fs(X:Cx):List Addr:=gD X.outer
def Lp(sc:qHb)(x:Str):Prop:=sc.names.lookup x=some .local\/sc.names.lookup x=some .cell\/sc.names.lookup x=some .free
def Loc(sc:qHb)(x:Str):Prop:=sc.names.lookup x=some .local\/sc.names.lookup x=some .cell
def Look(env:Env)(h:Heap)(m:Str->Option qAh)(x:Str)(u:qAh):Prop :=
 (env.kindOf x=some .local/\m x=some u)\/((env.kindOf x=some .cell\/env.kindOf x=some .free)/\∃c,env.cells.lookup x=some c/\h.IsCell c (some u))
structure Cx.Ok (X:Cx):Prop where
 mod:Mod X.K X.mg X.base
 kind:X.env.scope.kind = .function
 glob:X.env.globals=qAu
 blt:X.env.builtins=builtinsNs
 above:X.s₀.heap.objs.size<=X.env.locals
 inj:∀x y c,X.env.cells.lookup x=some c->X.env.cells.lookup y=some c->x=y
 has:∀x,(X.env.kindOf x=some .cell\/X.env.kindOf x=some .free)->∃c,X.env.cells.lookup x=some c
 Lq:∀x c,X.fn x=true->X.env.cells.lookup x=some c->X.s₀.heap.objs.size<=c
 hd:X.calm=true->X.A.handled=none
 frames:X.A.frames=some X.stack
 OA:X.stack=X.outer\/(X.stack=X.env::X.outer/\X.env.frame=some X.env.locals)
 Qx:∀b∈X.ex,b≠X.env.locals/\∀x c,X.env.cells.lookup x=some c->c≠b
 bs:∀b o,X.base.get? b=some o->X.s₀.heap.get? b=some o/\X.H₀ b=none
 Eg:X.base.objs.size<=X.s₀.heap.objs.size
 Bm:∀b o,X.base.get? b=some o->b∉X.ex
 Eh:∀b∈X.ex,b∉X.fs
 gK:X.s₀.heap.FunFrames X.base X.outer
 FZ:∀b∈X.fs,X.H₀ b=none
structure Inv (X:Cx) (pins:List (Addr×Obj)) (σ:List (Option V)) (H:Hp) (s:qAj):Prop where
 ok:X.Ok
 os:s.os=X.s₀.os
 bare:qIy s.gens
 base:Un X.fs X.ex X.H₀ H X.s₀.heap s.heap
 loc:∃m,s.heap.Ns X.env.locals m/\∀(i:Nat) (x:Str) (v:V),X.N[i]?=some x->σ[i]?=some (some v)->Lp X.env.scope x->∃u,RelV v u/\Look X.env s.heap m x u
 cell:∀x c,X.env.cells.lookup x=some c->∃v,s.heap.IsCell c v
 free:H X.env.locals=none
 gE:∀x c,X.env.cells.lookup x=some c->H c=none
 pin:∀p∈X.pn++pins,s.heap.get? p.1=some p.2/\H p.1=none/\p.1≠X.env.locals/\p.1∉X.fs/\∀v,p.2.data≠.cell v
 cE:jX X.prog X.w H s.heap
 len:σ.length=X.N.length
section
variable {X:Cx}{pins:List (Addr×Obj)}{σ:List (Option V)}{H H':Hp}{s:qAj}{h':Heap}
theorem Cx.Ok.OR(ok:X.Ok){b:Addr}{o:Obj}(e:X.base.get? b=some o):b∉X.fs:=fun hb=>by
 have:=(ok.gK.mem hb).1;rw[e] at this;cases this
theorem Inv.bs(I:Inv X pins σ H s):∀b o,X.base.get? b=some o->s.heap.get? b=some o/\H b=none:=fun b o e =>
 ⟨I.base.keep b o (I.ok.bs b o e).1 (I.ok.bs b o e).2 (I.ok.OR e) (I.ok.Bm b o e),I.base.free b o (I.ok.bs b o e).1 (I.ok.bs b o e).2 (I.ok.Bm b o e)⟩
theorem Inv.bk(I:Inv X pins σ H s):∀b o,X.base.get? b=some o->s.heap.get? b=some o:=fun b o e=>(I.bs b o e).1
theorem Inv.mod(I:Inv X pins σ H s):Mod X.K X.mg X.base:=I.ok.mod
theorem Inv.gL(I:Inv X pins σ H s):X.K.In s.heap:=I.ok.mod.Ea.keeps I.bk
theorem Inv.lt(I:Inv X pins σ H s):X.env.locals<s.heap.objs.size:=let ⟨_,hn,_⟩:=I.loc;hn.lt
theorem Inv.sz(I:Inv X pins σ H s):X.s₀.heap.objs.size<=s.heap.objs.size:=qAk I.ok.above (qCu I.lt)
theorem Inv.Hm(I:Inv X pins σ H s){a:Addr}(h:s.heap.objs.size<=a):a∉X.fs:=fun hb=>by
 obtain⟨_,o,ho,_⟩:=I.ok.gK.mem hb;exact absurd (qAw (qAt ho) (qAk I.sz h)) (qDp _)
theorem Inv.Ei(I:Inv X pins σ H s):∀x c,X.env.cells.lookup x=some c->c≠X.env.locals:=fun x c e z=>by
 obtain⟨v,o,ho,hd⟩:=I.cell x c e;obtain⟨m,⟨o',es,ep,ho',hd',_⟩,_⟩:=I.loc;rw[z,ho'] at ho;cases ho;rw[hd'] at hd;cases hd
theorem Inv.gK(I:Inv X pins σ H s):s.heap.FunFrames X.base X.outer:=by
 have all:∀(l:List Env),(∀b∈gD l,b∈X.fs)->X.s₀.heap.FunFrames X.base l->s.heap.FunFrames X.base l:=by
  intro l;induction l with
  | nil=>intro _ _;trivial
  | cons env r ih =>
   intro hs hl;obtain⟨hk,⟨L,o,hf,hn,ho,hd⟩,hr⟩:=hl;have hL:L∈X.fs:=hs L (by delta gD;rw[qCw,hf];exact qAr);obtain⟨sl,e⟩:=I.base.slot L o ho (I.ok.FZ L hL) hL fun z=>I.ok.Eh L z hL;exact⟨hk,⟨L,_,hf,hn,e,hd⟩,ih (fun b hb=>hs b (by delta gD;rw[qCw,hf];exact qAq _ hb)) hr⟩
 exact all X.outer (fun _ hb=>hb) I.ok.gK
theorem Inv.stack(I:Inv X pins σ H s):s.heap.FunFrames X.base X.stack:=by
 rcases I.ok.OA with e | ⟨e,hf⟩
 .rw[e];exact I.gK
 .rw[e];obtain⟨m,hn,_⟩:=I.loc;refine .cons (by rw[I.ok.kind];decide) hf hn ?_ I.gK;exact qFd (qAk I.ok.Eg I.ok.above)
theorem Inv.j4(I:Inv X pins σ H s):∀b∈gD X.stack,b∈X.env.locals::X.fs:=fun b hb=>by
 rcases I.ok.OA with e | ⟨e,hf⟩
 .rw[e] at hb;exact qAq _ hb
 .rw[e] at hb;delta gD at hb;rw[qCw,hf] at hb;exact hb
theorem Inv.jG(I:Inv X pins σ H s):∀b∈gD X.stack,H b=none:=fun b hb=>by
 rcases List.mem_cons.mp (I.j4 b hb) with e | hb
 .rw[e];exact I.free
 .obtain⟨_,o,ho,_⟩:=I.ok.gK.mem hb;exact I.base.free b o ho (I.ok.FZ b hb) fun z=>I.ok.Eh b z hb
theorem Inv.step{g':Array qNm}{t':Nat}{d':Drawn}{ch:List Addr}(I:Inv X pins σ H s)
  (hch:∀b∈ch,(b∈X.ex\/X.s₀.heap.objs.size<=b)/\b≠X.env.locals/\(∀x c,X.env.cells.lookup x=some c->c≠b)/\∀p∈X.pn++pins,p.1≠b)
  (keep:∀b o,b≠X.env.locals->b∉X.fs->b∉ch->s.heap.get? b=some o->H b=none->h'.get? b=some o)
  (slot:∀b o,b≠X.env.locals->b∈X.fs->b∉ch->s.heap.get? b=some o->H b=none->∃sl,h'.get? b=some { o with slots:=sl }) (free:∀b o,b∉ch->s.heap.get? b=some o->H b=none->H' b=none)
  (there:∀b o,b∉ch->s.heap.get? b=some o->∃o',h'.get? b=some o')
  (dU:∀b xs,H b=some (.tup xs)->H' b=some (.tup xs)) (gB:∀b o u,H b=some (.frz o u)->H' b=some (.frz o u)) (gJ:∀b ps,H b=some (.tbl ps)->∃more,H' b=some (.tbl (ps++more)))
  (ns:∀m,s.heap.Ns X.env.locals m->h'.Ns X.env.locals m) (cE:jX X.prog X.w H' h') (hg:qIy g') :
  Inv X pins σ H' { s with heap:=h',gens:=g',drawn:=d',toks:=t' }:=by
 have neL:∀b o,X.s₀.heap.get? b=some o->b≠X.env.locals:=fun b o e=>qBi (qAw (qAt e) I.ok.above);have neC:∀b o,X.s₀.heap.get? b=some o->b∉X.ex->b∉ch:=fun b o e hx hb=>by
  rcases(hch b hb).1 with z | z
  .exact hx z
  .exact absurd (qAw (qAt e) z) (qDp _)
 have cellK:∀x c,X.env.cells.lookup x=some c->∀v,s.heap.IsCell c v->h'.IsCell c v:=fun x c e v ⟨o,ho,hd⟩=>by
  have nch:c∉ch:=fun z=>(hch c z).2.2.1 x c e rfl;by_cases hc:c∈X.fs
  .obtain⟨sl,q⟩:=slot c o (I.Ei x c e) hc nch ho (I.gE x c e);exact⟨_,q,hd⟩
  .exact⟨o,keep c o (I.Ei x c e) hc nch ho (I.gE x c e),hd⟩
 refine⟨I.ok,I.os,hg,⟨fun b o e n hb hx=>?_,fun b o e n hb hx=>?_,fun b o e n hx=>?_,fun b o e hx=>?_,fun b xs e=>dU b xs (I.base.dU b xs e),fun b o xs e=>gB b o xs (I.base.gB b o xs e),fun b ps e=>?_⟩,?_,fun x c e=>?_,?_,fun x c e=>?_,fun p hp=>?_,cE,I.len⟩
 .exact keep b o (neL b o e) hb (neC b o e hx) (I.base.keep b o e n hb hx) (I.base.free b o e n hx)
 .obtain⟨sl,e1⟩:=I.base.slot b o e n hb hx;obtain⟨sl',e2⟩:=slot b _ (neL b o e) hb (neC b o e hx) e1 (I.base.free b o e n hx);exact⟨sl',e2⟩
 .obtain⟨o',e1⟩:=I.base.there b o e hx;exact free b o' (neC b o e hx) e1 (I.base.free b o e n hx)
 .obtain⟨o',e1⟩:=I.base.there b o e hx;exact there b o' (neC b o e hx) e1
 .obtain⟨m1,e1⟩:=I.base.gJ b ps e;obtain⟨m2,e2⟩:=gJ b _ e1;exact⟨m1++m2,by rw[e2,qIw]⟩
 .obtain⟨m,hn,hl⟩:=I.loc;refine⟨m,ns m hn,fun i x v e1 e2 e3=>?_⟩;obtain⟨u,r,l⟩:=hl i x v e1 e2 e3;exists u,r;rcases l with l | ⟨k,c,e,z⟩
  .exact .inl l
  .exact .inr ⟨k,c,e,cellK x c e _ z⟩
 .obtain⟨v,z⟩:=I.cell x c e;exact⟨v,cellK x c e v z⟩
 .obtain⟨m,⟨o,_,_,ho,_⟩,_⟩:=I.loc;exact free _ o (fun z=>(hch _ z).2.1 rfl) ho I.free
 .obtain⟨v,o,ho,hd⟩:=I.cell x c e;exact free c o (fun z=>(hch c z).2.2.1 x c e rfl) ho (I.gE x c e)
 .obtain⟨e,n,ne,nf,d⟩:=I.pin p hp;have nch:p.1∉ch:=fun z=>(hch p.1 z).2.2.2 p hp rfl;exact⟨keep p.1 p.2 ne nf nch e n,free p.1 p.2 nch e n,ne,nf,d⟩
theorem Inv.un{t':Nat}(I:Inv X pins σ H s)(u:Un X.fs [] H H' s.heap h')(cE:jX X.prog X.w H' h'):Inv X pins σ H' { s with heap:=h',toks:=t' }:=by
 obtain⟨m,⟨o,es,ep,ho,r⟩,_⟩:=id I.loc;obtain⟨sl,hL⟩:=u.any ho I.free (by simp);exact I.step (g':=s.gens) (d':=s.drawn) (ch:=[]) (fun _ z=>nomatch z) (fun b o _ hb _ e n=>u.keep b o e n hb (by simp)) (fun b o _ hb _ e n=>u.slot b o e n hb (by simp)) (fun b o _ e n=>u.free b o e n (by simp)) (fun b o _ e=>u.there b o e (by simp)) u.dU u.gB u.gJ (fun m' hm=>by
  obtain⟨o',es',ep',ho',r'⟩:=hm;rw[ho] at ho';cases ho';exact⟨_,es',ep',hL,r'⟩) cE I.bare
theorem Inv.call{g':Array qNm}{t':Nat}{d':Drawn}{ch:List Addr}(I:Inv X pins σ H s)(u:Un (gD X.stack) ch H H' s.heap h')(cE:jX X.prog X.w H' h')(hg:qIy g')
  (hch:∀b∈ch,(b∈X.ex\/X.s₀.heap.objs.size<=b)/\b≠X.env.locals/\(∀x c,X.env.cells.lookup x=some c->c≠b)/\∀p∈X.pn++pins,p.1≠b) :
  Inv X pins σ H' { s with heap:=h',gens:=g',drawn:=d',toks:=t' }:=by
 obtain⟨m,⟨o,es,ep,ho,r⟩,_⟩:=id I.loc;obtain⟨sl,hL⟩:=u.any ho I.free fun z=>(hch _ z).2.1 rfl;exact I.step (ch:=ch) hch (fun b o hL hb hc e n=>u.keep b o e n (fun z=>(List.mem_cons.mp (I.j4 b z)).elim hL hb) hc) (fun b o _ _ hc e n=>u.any e n hc) (fun b o hc e n=>u.free b o e n hc) (fun b o hc e=>u.there b o e hc) u.dU u.gB u.gJ (fun m' hm=>by
  obtain⟨o',es',ep',ho',r'⟩:=hm;rw[ho] at ho';cases ho';exact⟨_,es',ep',hL,r'⟩) cE hg
theorem Inv.turned{t':Nat}{it:Addr}(I:Inv X pins σ H s)(k:∀b o,b≠it->s.heap.get? b=some o->h'.get? b=some o)(hn:H it=none)(hL:it≠X.env.locals)
  (h1:it∈X.ex\/X.s₀.heap.objs.size<=it) (h2:∀x c,X.env.cells.lookup x=some c->c≠it) (h3:∀p∈X.pn++pins,p.1≠it):Inv X pins σ H { s with heap:=h',toks:=t' }:=by
 have nit:∀b u,H b=some u->b≠it:=fun b u e z=>by rw[z,hn] at e;cases e
 refine I.step (g':=s.gens) (d':=s.drawn) (ch:=[it]) (fun b hb=>?_) (fun b o _ _ hc e _=>k b o (fun z=>hc (by simp[z])) e) (fun b o _ _ hc e _=>⟨o.slots,k b o (fun z=>hc (by simp[z])) e⟩) (fun _ _ _ _ n=>n)
  (fun b o hc e=>⟨o,k b o (fun z=>hc (by simp[z])) e⟩) (fun _ _ e=>e) (fun _ _ _ e=>e) (fun b ps e=>⟨#[],by rw[e];simp⟩) (fun m hm=>?_) (fun b u e=>?_) I.bare
 .have e:b=it:=by simpa using hb
  subst e;exact⟨h1,hL,h2,h3⟩
 .obtain⟨o,es,ep,ho,r⟩:=hm;exact⟨o,es,ep,k _ o (Ne.symm hL) ho,r⟩
 .refine(I.cE b u e).iY (fun c v hc q=>k c v ?_ q) (fun _ q=>q) fun _ _ q=>q;rcases hc with z | z
  .rw[z];exact nit b u e
  .exact nit c _ z
theorem Inv.tok(I:Inv X pins σ H s)(t:Nat):Inv X pins σ H { s with toks:=t }:=I.un (h':=s.heap) (t':=t) Un.refl I.cE
theorem Inv.kept(I:Inv X pins σ H s)(k:∀b u,s.heap.get? b=some u->h'.get? b=some u):Inv X pins σ H { s with heap:=h',toks:=t' }:=I.un (Un.kept k) (I.cE.kept k)
theorem Inv.laid(I:Inv X pins σ H s)(k:∀b u,s.heap.get? b=some u->h'.get? b=some u)(hp:s.heap.objs.size<=a)(new:cM X.prog X.w (upd H a o) h' a o):
  Inv X pins σ (upd H a o) { s with heap:=h',toks:=t' }:=I.un (Un.laid k hp (I.cE.fresh hp)) (I.cE.laid k hp new)
theorem Inv.write(I:Inv X pins σ H s)(mu:Lo (H x))(he:e=x\/H e=some (.own x))(k:∀b u,b≠e->s.heap.get? b=some u->h'.get? b=some u)(heo:∃u,h'.get? e=some u)
  (new:cM X.prog X.w (upd H x o) h' x o):Inv X pins σ (upd H x o) { s with heap:=h',toks:=t' }:=I.un (Un.write mu he k heo) (I.cE.write mu he k heo new)
theorem Inv.xS(I:Inv X pins σ H s)(h:∀p∈pins',s.heap.get? p.1=some p.2/\H p.1=none/\p.1≠X.env.locals/\p.1∉X.fs/\∀v,p.2.data≠.cell v):Inv X pins' σ H s :=
 ⟨I.ok,I.os,I.bare,I.base,I.loc,I.cell,I.free,I.gE,fun p hp=>(List.mem_append.mp hp).elim (fun z=>I.pin p (qDw _ z)) (h p),I.cE,I.len⟩
theorem nM{N:List Str}(hN:N.Nodup){i j:Nat}{x:Str}(a:N[i]?=some x)(b:N[j]?=some x):i=j:=by
 obtain⟨h1,e1⟩:=List.getElem?_eq_some_iff.mp a;obtain⟨h2,e2⟩:=List.getElem?_eq_some_iff.mp b;exact(qMm hN).mp (e1.trans e2.symm)
theorem p9{M:qLo}{A:qCb}{E:qAh->qAj->Prop}{i:Nat}{x:Str}{v:V}{u:qAh}{Q:Unit->qAj->Prop}(I:Inv X pins σ H s)(hN:X.N.Nodup)(hi:X.N[i]?=some x)(hx:Loc X.env.scope x)(r:RelV v u)
  (h:∀s',Inv X pins (σ.set i (some v)) H s'->(∃a,qIb a s.heap s'.heap/\(a=X.env.locals\/X.env.cells.lookup x=some a))->Q () s') (hf:X.fn x=true\/X.env.scope.names.lookup x=some .local:=by first|exact .inl rfl | exact .inr rfl | assumption):qBq M A (storeName X.env x u) Q E s:=by
 obtain⟨m,hn,hl⟩:=id I.loc;have hcls:(X.env.scope.kind == .class||(X.env.scope.kind == .module&&X.env.locals != X.env.globals))=false:=by rw[I.ok.kind];rfl
 have hiσ:i<σ.length:=by rw[I.len];exact(List.getElem?_eq_some_iff.mp hi).1
 have Ei:=I.Ei;have tracked:∀{a:Addr}{h':Heap},(∃o,s.heap.get? a=some o/\H a=none)->qIb a s.heap h'->jX X.prog X.w H h':=fun {a h'} ha hs b ob e=>by
  obtain⟨_,_,hfree⟩:=ha;refine(I.cE b ob e).iY (fun c w' hc q=>(hs.2 c ?_).trans q) (fun _ q=>q) fun _ _ q=>q;rintro rfl;rcases hc with rfl | hc
  .rw[hfree] at e;cases e
  .rw[hfree] at hc;cases hc
 rcases hx with hk | hk
 .refine wpAny_storeName_local hk hn (fun h' hn' hs=>?_) hcls;obtain⟨oL,_,_,hoL,_⟩:=id hn;refine h _ ⟨I.ok,I.os,I.bare,⟨fun b o e n hb hx=>?_,fun b o e n hb hx=>?_,I.base.free,fun b o e hx=>?_,I.base.dU,I.base.gB,I.base.gJ⟩,⟨_,hn',fun j y v' e1 e2 e3=>?_⟩,fun y c e=>?_,I.free,I.gE,fun p hp=>?_,tracked ⟨oL,hoL,I.free⟩ hs,by simpa using I.len⟩ ⟨_,hs,.inl rfl⟩
  .exact(hs.2 b (qBi (qAw (qAt e) I.ok.above))).trans (I.base.keep b o e n hb hx)
  .obtain⟨sl,e1⟩:=I.base.slot b o e n hb hx;exact⟨sl,(hs.2 b (qBi (qAw (qAt e) I.ok.above))).trans e1⟩
  .obtain⟨o',e1⟩:=I.base.there b o e hx;exact⟨o',(hs.2 b (qBi (qAw (qAt e) I.ok.above))).trans e1⟩
  .by_cases hj:j=i
   .subst hj;rw[hi] at e1;cases e1;rw[qFw hiσ] at e2;cases e2;exact⟨u,r,.inl ⟨hk,by simp⟩⟩
   .rw[qGh (Ne.symm hj)] at e2;obtain⟨u',r',q⟩:=hl j y v' e1 e2 e3;exists u',r';rcases q with ⟨k,e⟩ | ⟨k,c,e,z⟩
    .refine .inl ⟨k,?_⟩;have:y≠x:=fun e=>hj (nM hN e1 (e▸hi));simp[this,e]
    .exact .inr ⟨k,c,e,z.sameBut hs (Ei y c e)⟩
  .obtain⟨w',z⟩:=I.cell y c e;exact⟨w',z.sameBut hs (Ei y c e)⟩
  .obtain⟨e,n,ne,nf,d⟩:=I.pin p hp;exact⟨(hs.2 p.1 ne).trans e,n,ne,nf,d⟩
 .have hfn:X.fn x=true:=by
   rcases hf with z | z
   .exact z
   .rw[z] at hk;cases hk
  obtain⟨c,hc⟩:=I.ok.has x (.inl hk);obtain⟨w',z⟩:=I.cell x c hc;refine wpAny_storeName_cell I.ok.kind hk hc z (fun h' hc' hs=>?_);obtain⟨oc,hoc,hocd⟩:=id z;refine h { s with heap:=h' } ⟨I.ok,I.os,I.bare,⟨fun b o e n hb hx=>?_,fun b o e n hb hx=>?_,I.base.free,fun b o e hx=>?_,I.base.dU,I.base.gB,I.base.gJ⟩,⟨m,hn.sameBut hs (Ne.symm (Ei x c hc)),fun j y v' e1 e2 e3=>?_⟩,fun y c' e=>?_,I.free,I.gE,fun p hp=>?_,tracked ⟨oc,hoc,I.gE x c hc⟩ hs,by simpa using I.len⟩ ⟨c,hs,.inr hc⟩
  .exact(hs.2 b (qBi (qAw (qAt e) (I.ok.Lq x c hfn hc)))).trans (I.base.keep b o e n hb hx)
  .obtain⟨sl,e1⟩:=I.base.slot b o e n hb hx;exact⟨sl,(hs.2 b (qBi (qAw (qAt e) (I.ok.Lq x c hfn hc)))).trans e1⟩
  .obtain⟨o',e1⟩:=I.base.there b o e hx;exact⟨o',(hs.2 b (qBi (qAw (qAt e) (I.ok.Lq x c hfn hc)))).trans e1⟩
  .by_cases hj:j=i
   .subst hj;rw[hi] at e1;cases e1;rw[qFw hiσ] at e2;cases e2;exact⟨u,r,.inr ⟨.inl hk,c,hc,hc'⟩⟩
   .rw[qGh (Ne.symm hj)] at e2;obtain⟨u',r',q⟩:=hl j y v' e1 e2 e3;exists u',r';rcases q with q | ⟨k,c',e,z'⟩
    .exact .inl q
    .refine .inr ⟨k,c',e,z'.sameBut hs ?_⟩;rintro rfl;exact hj (nM hN e1 (I.ok.inj _ _ _ e hc▸hi))
  .by_cases hcc:c'=c
   .subst hcc;exact⟨_,hc'⟩
   .obtain⟨w2,z2⟩:=I.cell y c' e;exact⟨w2,z2.sameBut hs hcc⟩
  .obtain⟨e,n,ne,nf,d⟩:=I.pin p hp;refine⟨(hs.2 p.1 ?_).trans e,n,ne,nf,d⟩;intro q;rw[q,hoc] at e;have q':oc=p.2:=Option.some.inj e;exact d w' (by rw[<- q'];exact hocd)
theorem nO(I:Inv X pins σ H s)(hN:X.N.Nodup)(hi:X.N[i]?=some x)(hx:Loc X.env.scope x)(r:RelV v u)
  (h:∀s',Inv X pins (σ.set i (some v)) H s'->Q () s') (hf:X.fn x=true\/X.env.scope.names.lookup x=some .local:=by first|exact .inl rfl | exact .inr rfl | assumption):qBq M A (storeName X.env x u) Q E s :=
 p9 I hN hi hx r (fun s' I' _=>h s' I') hf
theorem Inv.call'(I:Inv X pins σ H s)(ho:s'.os=s.os)(u:Un (gD X.stack) ch H H' s.heap s'.heap)(cE:jX X.prog X.w H' s'.heap)(hg:qIy s'.gens)
  (hch:∀b∈ch,(b∈X.ex\/X.s₀.heap.objs.size<=b)/\b≠X.env.locals/\(∀x c,X.env.cells.lookup x=some c->c≠b)/\∀p∈X.pn++pins,p.1≠b):Inv X pins σ H' s':=by
 obtain⟨h',g',d',t',o'⟩:=s';have e:o'=s.os:=ho;subst e;exact I.call (g':=g') (t':=t') (d':=d') u cE hg hch
end
abbrev XK:=qAh->Option Addr->Hp->Prop
abbrev St:=List (Option V)
abbrev VK:=V->Hp->Prop
abbrev TE:=St->Hp->VK->Prop
abbrev TT:=St->Hp->(Bool->Hp->Prop)->Prop
abbrev TA:=St->Hp->(List V->Hp->Prop)->Prop
structure Ends where
 nx:St->Hp->Prop
 rt:VK
 bk:St->Hp->Prop:=fun _ _=>False
 ct:St->Hp->Prop:=fun _ _=>False
abbrev TS:=Ends->St->Hp->Prop
def EP(X:Cx)(pins:List (Addr×Obj))(σ:St)(Q:VK)(u:qAh)(s':qAj):Prop:=∃v H',Inv X pins σ H' s'/\RelV v u/\Q v H'
def TP(X:Cx)(pins:List (Addr×Obj))(σ:St)(Q:Bool->Hp->Prop)(b:Bool)(s':qAj):Prop:=∃H',Inv X pins σ H' s'/\Q b H'
def AP(X:Cx)(pins:List (Addr×Obj))(σ:St)(Q:List V->Hp->Prop)(us:List qAh)(s':qAj):Prop:=∃vs H',Inv X pins σ H' s'/\Vals vs us/\Q vs H'
def SP(X:Cx)(pins:List (Addr×Obj))(D:Ends)(f:Flow)(s':qAj):Prop :=
 match f with
 | .next=>∃σ' H',Inv X pins σ' H' s'/\D.nx σ' H'
 | .brk=>∃σ' H',Inv X pins σ' H' s'/\D.bk σ' H'
 | .cont=>∃σ' H',Inv X pins σ' H' s'/\D.ct σ' H'
 | .ret u=>∃v σ' H',Inv X pins σ' H' s'/\RelV v u/\D.rt v H'
def PE(X:Cx)(e:Expr)(t:TE):Prop :=
 ∀(pins:List (Addr×Obj)) (s:qAj) (σ:St) (H:Hp) (Q:VK),Inv X pins σ H s->t σ H Q->qBq (qBr X.prog X.w) X.A (eval e X.env) (EP X pins σ Q) X.xe s
def PT(X:Cx)(e:Expr)(t:TT):Prop :=
 ∀(pins:List (Addr×Obj)) (s:qAj) (σ:St) (H:Hp) (Q:Bool->Hp->Prop),Inv X pins σ H s->t σ H Q->qBq (qBr X.prog X.w) X.A (qNj e X.env (eval e X.env)) (TP X pins σ Q) X.xe s
def PW(X:Cx)(e:Expr)(t:TT):Prop :=
 ∀(whole:Sem qAh) (pins:List (Addr×Obj)) (s:qAj) (σ:St) (H:Hp) (Q:Bool->Hp->Prop),Inv X pins σ H s->t σ H Q->qBq (qBr X.prog X.w) X.A (qNj e X.env whole) (TP X pins σ Q) X.xe s
theorem PW.pt(h:PW X e t):PT X e t:=h _
def PA(X:Cx)(es:List Expr)(t:TA):Prop :=
 ∀(pos:Pos) (pins:List (Addr×Obj)) (s:qAj) (σ:St) (H:Hp) (Q:List V->Hp->Prop),Inv X pins σ H s->t σ H Q->qBq (qBr X.prog X.w) X.A (qOd (qFc pos (qBl es X.env))) (AP X pins σ Q) X.xe s
def PS(X:Cx)(st:Stmt)(t:TS):Prop :=
 ∀(pins:List (Addr×Obj)) (s:qAj) (σ:St) (H:Hp) (D:Ends),Inv X pins σ H s->t D σ H->qBq (qBr X.prog X.w) X.A (exec st X.env) (SP X pins D) X.xe s
def lI(X:Cx)(st:List Stmt)(t:TS):Prop :=
 ∀(pins:List (Addr×Obj)) (s:qAj) (σ:St) (H:Hp) (D:Ends),Inv X pins σ H s->t D σ H->qBq (qBr X.prog X.w) X.A (execs st X.env) (SP X pins D) X.xe s
theorem bT(h:qBq M A t Q E s)(hQ:∀a s,Q a s->Q' a s):qBq M A t Q' E s:=qCm h hQ fun _ _ x=>x
section
variable {X:Cx}
def fF(i:Nat):TE:=fun σ H Q=>∃v,σ[i]?=some (some v)/\Q v H
def tC(v:V):TE:=fun _ H Q=>Q v H
theorem Hn(hN:X.N[i]?=some x)(hv:Lp X.env.scope x)(hd:(x == ("__debug__":Str))=false:=by decide)(hcd:(x == ("__classdict__":Str))=false:=by decide):PE X (.Name x pos) (fF i):=by
 intro pins s σ H Q I h;obtain⟨v,e,h⟩:=h;obtain⟨m,hn,hl⟩:=I.loc;obtain⟨u,r,l⟩:=hl i x v hN e hv;have fin:EP X pins σ Q u s:=⟨v,H,I,r,h⟩;rcases l with ⟨hk,hm⟩ | ⟨hk,c,hc,hcell⟩
 .exact qJb (wpAny_loadName_local I.ok.kind hk hn hm fin) hd
 .rcases hk with hk | hk
  .exact qJb (wpAny_loadName_cell I.ok.kind hk hc hcell fin) hd
  .exact qJb (wpAny_loadName_free I.ok.kind hk hc hcell fin hcd) hd
theorem aD{i j pos}:PE X (.Constant (.int i) j pos) (tC (.int i)):=fun _ _ _ H _ I h=>wpAny_Constant_int ⟨.int i,H,I.tok _,⟨_,rfl⟩,h⟩
theorem qA{b j pos}:PE X (.Constant (.bool b) j pos) (tC (.bl b)):=fun _ _ _ H _ I h=>Constant_bool ⟨.bl b,H,I,rfl,h⟩
theorem Bn{j pos}:PE X (.Constant .none j pos) (tC .non):=fun _ _ _ H _ I h=>Constant_none ⟨.non,H,I,rfl,h⟩
theorem aI{x j pos}:PE X (.Constant (.str x) j pos) (tC (.str x)):=fun _ _ _ H _ I h=>qIv ⟨.str x,H,I.tok _,⟨_,rfl⟩,h⟩
def Gl(X:Cx)(x:Str):Prop:=X.env.kindOf x=some .globalImplicit
theorem fK(I:Inv X pins σ H s)(hg:Gl X x)(hm:X.mg x=some u)(h:Q u s)
  (hd:(x == ("__debug__":Str))=false:=by decide):qBq (qBr X.prog X.w) X.A (eval (.Name x pos) X.env) Q E s :=
 qJx I.ok.kind hg (Calls.loadGlobal_global (by rw[I.ok.glob];exact I.mod.glob.keeps I.bk) hm h) hd
theorem lJ(I:Inv X pins σ H s)(hg:Gl X x)(hm:X.mg x=none)(hv:qCn x=some u)(h:Q u s)
  (hn:x≠"__name__":=by decide) (hd:(x == ("__debug__":Str))=false:=by decide):qBq (qBr X.prog X.w) X.A (eval (.Name x pos) X.env) Q E s:=by
 obtain⟨mb,h1,h2⟩:=I.mod.blt;exact qJx I.ok.kind hg (Calls.loadGlobal_builtin (by rw[I.ok.glob];exact I.mod.glob.keeps I.bk) hm (by rw[I.ok.blt];exact h1.keeps I.bk) ((h2 x hn).trans hv) h) hd
theorem bO(hg:Gl X x)(hm:X.mg x=some u)(r:RelV v u)(hd:(x == ("__debug__":Str))=false:=by decide):PE X (.Name x pos) (tC v) :=
 fun _ _ _ H _ I h=>fK I hg hm ⟨v,H,I,r,h⟩ hd
theorem hV(hg:Gl X x)(hm:X.mg x=none)(hv:qCn x=some u)(r:RelV v u)(hn:x≠"__name__":=by decide)(hd:(x == ("__debug__":Str))=false:=by decide):PE X (.Name x pos) (tC v) :=
 fun _ _ _ H _ I h=>lJ I hg hm hv ⟨v,H,I,r,h⟩ hn hd
variable {a b:Expr}{ta tb:TE}{pos:Pos}
def PC(X:Cx)(op:CmpOp)(a b:Expr)(t:TE):Prop :=
 ∀(pins:List (Addr×Obj)) (s:qAj) (σ:St) (H:Hp) (Q:VK),Inv X pins σ H s->t σ H Q ->
  qBq (qBr X.prog X.w) X.A (eval a X.env) (fun v s₁=>qBq (qBr X.prog X.w) X.A (eval b X.env) (fun u s₂=>qBq (qBr X.prog X.w) X.A (qDi op v u) (EP X pins σ Q) X.xe s₂) X.xe s₁) X.xe s
def tB(t:TE):TT:=fun σ H Q=>t σ H fun x H1=>∃c,x = .bl c/\Q c H1
theorem Ho(h:PC X op a b t)(h1:qIg op b=false:=by first|exact nobehind _ #[1] #[1] | rfl):PT X (.Compare a [op] [b] pos) (tB t):=by
 intro pins s σ H Q I hw;refine wpAny_isTrue_Compare1 (bT (h pins s σ H _ I hw) fun v s1 h1=>bT h1 fun u s2 h2=>bT h2 fun c s3 z9=>?_) h1;obtain⟨x,H1,I1,r1,q1⟩:=z9;obtain⟨d,rfl,q⟩:=q1;cases r1;exact qCr ⟨H1,I1,q⟩
theorem eL(h:PE X e t)(he:∀whole,qNj e X.env whole=(do let v <- whole;qIf e.pos;qIx [v] (truthy v)):=by intro _;rfl):PT X e (tB t):=by
 intro pins s σ H Q I hw;refine isTrue_plain (bT (h pins s σ H _ I hw) fun v s1 z9=>?_) (he _);obtain⟨x,H1,I1,r1,q1⟩:=z9;obtain⟨d,rfl,q⟩:=q1;cases r1;exact qCr ⟨H1,I1,q⟩
variable {tA tB':TT}{rest:List Expr}
def OS(t u:TT):TT:=fun σ H Q=>t σ H fun c H1=>if c=true then u σ H1 Q else Q false H1
def QN(t u:TT):TT:=fun σ H Q=>t σ H fun c H1=>if c=true then Q true H1 else u σ H1 Q
def OT(t:TT):TT:=fun σ H Q=>t σ H fun c H1=>Q (!c) H1
theorem pw_and1(ha:PT X a tA):PW X (.BoolOp .And [a] pos) tA:=by
 intro wh pins s σ H Q I h;refine isTrue_and (bT (ha pins s σ H Q I h) fun c s1 e=>?_);cases c with
 | true=>exact isTrue_and_nil e
 | false=>exact e
theorem pw_or1(ha:PT X a tA):PW X (.BoolOp .Or [a] pos) tA:=by
 intro wh pins s σ H Q I h;refine isTrue_or (bT (ha pins s σ H Q I h) fun c s1 e=>?_);cases c with
 | false=>exact isTrue_or_nil e
 | true=>exact e
theorem pw_and(ha:PT X a tA)(hb:PW X (.BoolOp .And (b::rest) pos) tB'):PW X (.BoolOp .And (a::b::rest) pos) (OS tA tB'):=by
 intro wh pins s σ H Q I h;refine isTrue_and (bT (ha pins s σ H _ I h) fun c s1 z9=>?_);obtain⟨H1,I1,q1⟩:=z9;cases c with
 | true=>exact hb wh pins s1 σ H1 Q I1 q1
 | false=>exact⟨H1,I1,q1⟩
theorem pw_or(ha:PT X a tA)(hb:PW X (.BoolOp .Or (b::rest) pos) tB'):PW X (.BoolOp .Or (a::b::rest) pos) (QN tA tB'):=by
 intro wh pins s σ H Q I h;refine isTrue_or (bT (ha pins s σ H _ I h) fun c s1 z9=>?_);obtain⟨H1,I1,q1⟩:=z9;cases c with
 | true=>exact⟨H1,I1,q1⟩
 | false=>exact hb wh pins s1 σ H1 Q I1 q1
theorem fS(ha:PT X a tA):PT X (.UnaryOp .Not a pos) (OT tA):=by
 intro pins s σ H Q I h;exact isTrue_not (ha pins s σ H (fun c H1=>Q (!c) H1) I h)
def Lr(ta tb:TE):TE:=fun σ H Q=>ta σ H fun x H1=>∃c,x = .bl c/\if c=true then tb σ H1 Q else Q (.bl false) H1
def OU(ta tb:TE):TE:=fun σ H Q=>ta σ H fun x H1=>∃c,x = .bl c/\if c=true then Q (.bl true) H1 else tb σ H1 Q
def Ls(ta:TE):TE:=fun σ H Q=>ta σ H fun x H1=>∃c,x = .bl c/\Q (.bl (!c)) H1
theorem lK{op}{t:TE}(h:PE X a t):PE X (.BoolOp op [a] pos) t:=fun pins s σ H Q I hw=>BoolOp_one (h pins s σ H Q I hw)
theorem rR(ha:PE X a ta)(hb:PE X (.BoolOp .And (b::rest) pos) tb):PE X (.BoolOp .And (a::b::rest) pos) (Lr ta tb):=by
 intro pins s σ H Q I h;refine BoolOp_and (bT (ha pins s σ H _ I h) fun v s1 z9=>?_);obtain⟨x,H1,I1,r1,q1⟩:=z9;obtain⟨c,rfl,q1⟩:=q1;cases r1;refine qCr ?_;cases c with
 | true=>exact hb pins s1 σ H1 Q I1 q1
 | false=>exact⟨.bl false,H1,I1,rfl,q1⟩
theorem Bo(ha:PE X a ta)(hb:PE X (.BoolOp .Or (b::rest) pos) tb):PE X (.BoolOp .Or (a::b::rest) pos) (OU ta tb):=by
 intro pins s σ H Q I h;refine BoolOp_or (bT (ha pins s σ H _ I h) fun v s1 z9=>?_);obtain⟨x,H1,I1,r1,q1⟩:=z9;obtain⟨c,rfl,q1⟩:=q1;cases r1;refine qCr ?_;cases c with
 | false=>exact hb pins s1 σ H1 Q I1 q1
 | true=>exact⟨.bl true,H1,I1,rfl,q1⟩
theorem rS(ha:PE X a ta):PE X (.UnaryOp .Not a pos) (Ls ta):=by
 intro pins s σ H Q I h;refine UnaryOp_ (bT (ha pins s σ H _ I h) fun v s1 z9=>?_);obtain⟨x,H1,I1,r1,q1⟩:=z9;obtain⟨c,rfl,q1⟩:=q1;cases r1;exact not_of (qCr ⟨.bl (!c),H1,I1,rfl,q1⟩)
def QO(t:TT)(ta tb:TE):TE:=fun σ H Q=>t σ H fun c H1=>if c=true then ta σ H1 Q else tb σ H1 Q
theorem Bp(hc:PT X c tA)(ha:PE X a ta)(hb:PE X b tb):PE X (.IfExp c a b pos) (QO tA ta tb):=by
 intro pins s σ H Q I h;refine wpAny_IfExp (bT (hc pins s σ H _ I h) fun d s1 z9=>?_);obtain⟨H1,I1,q1⟩:=z9;cases d with
 | true=>exact ha pins s1 σ H1 Q I1 q1
 | false=>exact hb pins s1 σ H1 Q I1 q1
end
def bA(K:qAb)(H:Hp)(a:Addr)(xs:List V):Prop :=
 Rd H a (.lst xs) \/
  ∃(o:Obj) (its:Array qAh) (n:Nat),K.lookup a=some o/\o.cls = .type "list"/\o.dict=none/\o.data = .seq its n/\its.size<=qAg/\Vals xs its.toList
def eQ(K:qAb)(H:Hp)(a:Addr)(xs:List V):Prop :=
 Rd H a (.tup xs) \/
  ∃(o:Obj) (its:Array qAh) (n:Nat),K.lookup a=some o/\o.cls = .type "tuple"/\o.data = .seq its n/\its.size<=qAg/\Vals xs its.toList
def OV:qAh->Option V
 | .none=>some .non
 | .bool b=>some (.bl b)
 | .int i _=>some (.int i)
 | .str x _=>some (.str x)
 | .bytes b _=>some (.byt b)
 | .float b _=>some (.flt b)
 | .ref a=>some (.ref a)
 | .type n=>some (.ty n)
 | _=>none
theorem RelV.abs(r:RelV x u):OV u=some x:=by
 cases x with
 | non=>cases r;rfl
 | bl _=>cases r;rfl
 | int _=>obtain⟨t,rfl⟩:=r;rfl
 | str _=>obtain⟨t,rfl⟩:=r;rfl
 | byt _=>obtain⟨t,rfl⟩:=r;rfl
 | flt _=>obtain⟨t,rfl⟩:=r;rfl
 | ref _=>cases r;rfl
 | ty _=>cases r;rfl
theorem RelV.inj(r:RelV x u)(q:RelV y u):x=y:=Option.some.inj (r.abs.symm.trans q.abs)
theorem Vals.inj:∀{xs ys:List V}{us:List qAh},Vals xs us->Vals ys us->xs=ys
 | _,_,_,.nil,.nil=>rfl
 | _,_,_,.cons r t,.cons r' t'=>by rw[r.inj r',Vals.inj t t']
section
variable {X:Cx}{pins:List (Addr×Obj)}{σ:St}{H:Hp}{s:qAj}{a:Addr}{xs ys:List V}
theorem bA.of{K:qAb}(h:H a=some (.lst xs)):bA K H a xs:=.inl (.inl h)
theorem eQ.of{K:qAb}(h:H a=some (.tup xs)):eQ K H a xs:=.inl (.inl h)
theorem Inv.list(I:Inv X pins σ H s)(h:bA X.K H a xs):∃its:List qAh,Vals xs its/\PlainL s.heap a its.toArray/\xs.length<=qAg:=by
 rcases h with h | ⟨o,its,n,hk,hc,hd,hs,hz,r⟩
 .obtain⟨z,its,n,r,e⟩:=h.ok I.cE;exact⟨its,r,⟨_,n,e,rfl,rfl,rfl⟩,z⟩
 .refine⟨its.toList,r,⟨o,n,I.gL a o hk,hc,hd,by simpa using hs⟩,?_⟩;have e:=r.length;simp only[qCv] at e;lia
theorem Inv.tuple(I:Inv X pins σ H s)(h:eQ X.K H a xs):∃its:List qAh,Vals xs its/\IsTup s.heap a its.toArray/\xs.length<=qAg:=by
 rcases h with h | ⟨o,its,n,hk,hc,hs,hz,r⟩
 .obtain⟨z,its,r,p⟩:=h.ok I.cE;exact⟨its,r,p,z⟩
 .refine⟨its.toList,r,⟨o,I.gL a o hk,hc,n,by simpa using hs⟩,?_⟩;have e:=r.length;simp only[qCv] at e;lia
theorem Inv.tQ(I:Inv X pins σ H s)(h:bA X.K H a xs)(h':bA X.K H a ys):xs=ys:=by
 obtain⟨its,r,⟨o,n,e,_,_,d⟩,_⟩:=I.list h;obtain⟨its',r',⟨o',n',e',_,_,d'⟩,_⟩:=I.list h';rw[e] at e';cases e';rw[d] at d';injection d' with d1 _;have:its=its':=by simpa using congrArg qNi d1
 subst this;exact r.inj r'
theorem Inv.Aa(I:Inv X pins σ H s)(h:eQ X.K H a xs)(h':eQ X.K H a ys):xs=ys:=by
 obtain⟨its,r,⟨o,e,_,n,d⟩,_⟩:=I.tuple h;obtain⟨its',r',⟨o',e',_,n',d'⟩,_⟩:=I.tuple h';rw[e] at e';cases e';rw[d] at d';injection d' with d1 _;have:its=its':=by simpa using congrArg qNi d1
 subst this;exact r.inj r'
end
abbrev Cx.pN(X:Cx)(E:qAh->qAj->Prop):Cx:={ X with xe:=E }
abbrev Cx.Kz(X:Cx):Cx:=X.pN fun _ _=>False
theorem Cx.Ok.pN{X:Cx}(ok:X.Ok)(E:qAh->qAj->Prop):(X.pN E).Ok :=
 ⟨ok.mod,ok.kind,ok.glob,ok.blt,ok.above,ok.inj,ok.has,ok.Lq,ok.hd,ok.frames,ok.OA,ok.Qx,ok.bs,ok.Eg,ok.Bm,ok.Eh,ok.gK,ok.FZ⟩
theorem Cx.Ok.iZ{X:Cx}{E:qAh->qAj->Prop}(ok:(X.pN E).Ok):X.Ok :=
 ⟨ok.mod,ok.kind,ok.glob,ok.blt,ok.above,ok.inj,ok.has,ok.Lq,ok.hd,ok.frames,ok.OA,ok.Qx,ok.bs,ok.Eg,ok.Bm,ok.Eh,ok.gK,ok.FZ⟩
section
variable {X:Cx}{pins:List (Addr×Obj)}{σ:St}{H:Hp}{s:qAj}{E:qAh->qAj->Prop}
theorem Inv.pN(I:Inv X pins σ H s)(E:qAh->qAj->Prop):Inv (X.pN E) pins σ H s:=⟨I.ok.pN E,I.os,I.bare,I.base,I.loc,I.cell,I.free,I.gE,I.pin,I.cE,I.len⟩
theorem Inv.iZ(I:Inv (X.pN E) pins σ H s):Inv X pins σ H s:=⟨I.ok.iZ,I.os,I.bare,I.base,I.loc,I.cell,I.free,I.gE,I.pin,I.cE,I.len⟩
theorem SP.iZ(h:SP (X.pN E) pins D f s'):SP X pins D f s':=by
 cases f with
 | next=>obtain⟨σ',H',I,q⟩:=h;exact⟨σ',H',I.iZ,q⟩
 | brk=>obtain⟨σ',H',I,q⟩:=h;exact⟨σ',H',I.iZ,q⟩
 | cont=>obtain⟨σ',H',I,q⟩:=h;exact⟨σ',H',I.iZ,q⟩
 | ret u=>obtain⟨v,σ',H',I,r,q⟩:=h;exact⟨v,σ',H',I.iZ,r,q⟩
theorem lI.Kz{st:List Stmt}{t:TS}(h:lI X.Kz st t):lI X st t:=fun pins s σ H D I hw =>
 qCm (h pins s σ H D (I.pN _) hw) (fun _ _ q=>q.iZ) fun _ _ z=>False.elim z
end
section
variable {X:Cx}{st:Stmt}{rest:List Stmt}{t u:TS}{e:Expr}{te:TE}{pos:Pos}
def bM:TS:=fun D σ H=>D.nx σ H
def Ab(t u:TS):TS:=fun D σ H=>t { D with nx:=u D } σ H
theorem aY:lI X [] bM:=fun _ _ σ H _ I h=>qGc ⟨σ,H,I,h⟩
theorem aE(h1:PS X st t)(h2:lI X rest u):lI X (st::rest) (Ab t u):=by
 intro pins s σ H D I h;refine wpAny_execs_cons (bT (h1 pins s σ H { D with nx:=u D } I h) fun f s1 q=>?_);cases f with
 | next =>
  obtain⟨σ',H',I',q⟩:=q;exact h2 pins s1 σ' H' D I' q
 | ret v=>exact q
 | brk=>exact q
 | cont=>exact q
theorem aH(h1:PS X st t):lI X [st] t:=by
 intro pins s σ H D I h;refine wpAny_execs_cons (bT (h1 pins s σ H D I h) fun f s1 q=>?_);cases f with
 | next=>exact qGc q
 | ret v=>exact q
 | brk=>exact q
 | cont=>exact q
theorem Inv.quiet(I:Inv X pins σ H s):interactive X.env=false:=by simp[interactive,I.ok.kind]
def Bq(te:TE):TS:=fun D σ H=>te σ H fun _ H1=>D.nx σ H1
theorem cA(he:PE X e te)(hs:qJq e none pos.line X.env=pure false:=by rfl):PS X (.Expr e pos) (Bq te):=by
 intro pins s σ H D I h;exact wpAny_Expr_any (bT (he pins s σ H _ I h) (by rintro v s1 ⟨x,H1,I1,r1,q1⟩;exact ⟨σ,H1,I1,q1⟩)) I.quiet hs
def OX(te:TE):TS:=fun D σ H=>te σ H D.rt
theorem aU(he:PE X e te):PS X (.Return (some e) pos) (OX te):=by
 intro pins s σ H D I h;exact wpAny_Return_some (bT (he pins s σ H _ I h) (by rintro v s1 ⟨x,H1,I1,r1,q1⟩;exact ⟨x,σ,H1,I1,r1,q1⟩))
def Hq(c:TT)(t u:TS):TS:=fun D σ H=>c σ H fun b H1=>if b=true then t D σ H1 else u D σ H1
theorem bI(hc:PT X c tc)(ha:lI X a t)(hb:lI X b u):PS X (.If c a b pos) (Hq tc t u):=by
 intro pins s σ H D I h;refine wpAny_If (bT (hc pins s σ H _ I h) fun d s1 z9=>?_);obtain⟨H1,I1,q1⟩:=z9;cases d with
 | true=>exact ha pins s1 σ H1 D I1 q1
 | false=>exact hb pins s1 σ H1 D I1 q1
end
abbrev TG:=V->St->Hp->(St->Hp->Prop)->Prop
abbrev Lu:=List V->St->Hp->(St->Hp->Prop)->Prop
def PG(X:Cx)(target:Expr)(t:TG):Prop :=
 ∀(pins:List (Addr×Obj)) (s:qAj) (σ:St) (H:Hp) (v:V) (u:qAh) (Q:St->Hp->Prop),Inv X pins σ H s->RelV v u->t v σ H Q ->
  qBq (qBr X.prog X.w) X.A (qLa target X.env u) (fun _ s'=>∃σ' H',Inv X pins σ' H' s'/\Q σ' H') X.xe s
def Lv(X:Cx)(ts:List Expr)(t:Lu):Prop :=
 ∀(pins:List (Addr×Obj)) (s:qAj) (σ:St) (H:Hp) (vs:List V) (us:List qAh) (Q:St->Hp->Prop),Inv X pins σ H s->Vals vs us->t vs σ H Q ->
  qBq (qBr X.prog X.w) X.A (assignInOrder ((qJc ts X.env).map (·.2)) us) (fun _ s'=>∃σ' H',Inv X pins σ' H' s'/\Q σ' H') X.xe s
abbrev Lw:=V->V->V->Hp->(Hp->Prop)->Prop
def Hs(X:Cx)(t:Lw):Prop :=
 ∀(pins:List (Addr×Obj)) (s:qAj) (σ:St) (H:Hp) (o i v:V) (ov iv u:qAh) (Q:Hp->Prop),Inv X pins σ H s->RelV o ov->RelV i iv->RelV v u->t o i v H Q ->
  qBq (qBr X.prog X.w) X.A (setItem ov iv u) (fun _ s'=>∃H',Inv X pins σ H' s'/\Q H') X.xe s
abbrev QP:=V->V->Hp->VK->Prop
def QQ(X:Cx)(op:Operator)(t:QP):Prop :=
 ∀(pins:List (Addr×Obj)) (s:qAj) (σ:St) (H:Hp) (x y:V) (v u:qAh) (Q:VK),Inv X pins σ H s->RelV x v->RelV y u->t x y H Q ->
  qBq (qBr X.prog X.w) X.A (inplaceOp op v u) (EP X pins σ Q) X.xe s
section
variable {X:Cx}{pos:Pos}
def a9(i:Nat):TG:=fun v σ H Q=>Q (σ.set i (some v)) H
theorem bC(hN:X.N.Nodup)(hi:X.N[i]?=some x)(hx:Loc X.env.scope x)(hf:X.fn x=true\/X.env.scope.names.lookup x=some .local:=by first|exact .inl rfl | exact .inr rfl | assumption):PG X (.Name x pos) (a9 i):=by
 intro pins s σ H v u Q I r h;exact wpAny_assign_Name (nO I hN hi hx r (fun s' I'=>⟨_,H,I',h⟩) hf)
def Ej:Lu:=fun vs σ H Q=>vs=[]/\Q σ H
def jY(t:TG)(u:Lu):Lu:=fun vs σ H Q=>∃v r,vs=v::r/\t v σ H fun σ' H'=>u r σ' H' Q
theorem hW:Lv X [] Ej:=by
 intro pins s σ H vs us Q I r h;obtain⟨e,h⟩:=h;subst e;cases r;exact assignInOrder_nil ⟨σ,H,I,h⟩
theorem cC(h1:PG X e t)(h2:Lv X es u)
  (hs:(qJc (e::es) X.env).map (·.2)=qLa e X.env::(qJc es X.env).map (·.2):=by rfl):Lv X (e::es) (jY t u):=by
 intro pins s σ H vs us Q I r h;obtain⟨v,vr,e1,h⟩:=h;subst e1;cases r with
 | cons r rr =>
  rw[hs];refine assignInOrder_cons (bT (h1 pins s σ H _ _ _ I r h) fun _ s1 z9=>?_);obtain⟨σ1,H1,I1,q1⟩:=z9;exact h2 pins s1 σ1 H1 _ _ Q I1 rr q1
def Ek(K:qAb)(n:Nat)(t:Lu):TG:=fun v σ H Q=>∃a xs,v = .ref a/\eQ K H a xs/\xs.length=n/\t xs σ H Q
theorem j5(hc:X.calm=true)(h:Lv X es t)
  (hn:(qJc es X.env).length=n:=by rfl) (hst:(qJc es X.env).findIdx? (·.1)=none:=by rfl):PG X (.Tuple es k pos) (Ek X.K n t):=by
 intro pins s σ H v u Q I r hw;obtain⟨a,xs,e1,hq,hl,hw⟩:=hw;subst e1;cases r;obtain⟨its,rv,ht,hz⟩:=I.tuple hq;refine assign_Tuple_tuple (I.ok.hd hc) ht (by simp[hn,<- hl,rv.length]) hst fun h' hx=>?_;have I1:Inv X pins σ H { s with heap:=h' }:=I.kept (t':=s.toks) fun b o e=>hx b o (qBi (qAt e)) e;exact h pins _ σ H xs _ Q I1 (by simpa using rv) hw
def OY(to ti:TE)(t:Lw):TG:=fun v σ H Q=>to σ H fun o H1=>ti σ H1 fun i H2=>t o i v H2 fun H3=>Q σ H3
theorem nP(ho:PE X o to)(hi:PE X i ti)(hs:Hs X t)
  (ha:∀v,qLa (.Subscript o i pos) X.env v=(do
   let ov <- qIx [v] (eval o X.env)
   let iv <- qIx [v,ov] (eval i X.env)
   qIf pos
   qIx [v,ov,iv] (setItem ov iv v)
   release [v,ov,iv] []):=by intro _;rfl):PG X (.Subscript o i pos) (OY to ti t):=by
 intro pins s σ H v u Q I r h;rw[ha];refine qAc (qCx (bT (ho pins s σ H _ I h) fun ov s1 z9=>?_));obtain⟨x,H1,I1,r1,q1⟩:=z9;refine qAc (qCx (bT (hi pins s1 σ H1 _ I1 q1) fun iv s2 z9=>?_));obtain⟨y,H2,I2,r2,q2⟩:=z9;refine qAc (qEz (qAc (qCx (bT (hs pins s2 σ H2 x y v ov iv u _ I2 r1 r2 r q2) fun _ s3 z9=>?_))));obtain⟨H3,I3,q3⟩:=z9;exact wpAny_release ⟨σ,H3,I3,q3⟩
def El(te:TE)(g:TG):TS:=fun D σ H=>te σ H fun x H1=>g x σ H1 D.nx
theorem j8(he:PE X e te)(hg:PG X tg g)(hs:swapsWithSole [tg] e pos.line X.env=pure false:=by rfl)(hw:swappedStores [tg] e X.env=pure none:=by rfl)
  (h1:(qJc [tg] X.env).map (·.2)=[qLa tg X.env]:=by rfl):PS X (.Assign [tg] e pos) (El te g):=by
 intro pins s σ H D I h;refine wpAny_Assign_stores (bT (he pins s σ H _ I h) fun v s1 z9=>?_) hs hw;obtain⟨x,H1,I1,r1,q1⟩:=z9;rw[h1];exact bT (hg pins s1 σ H1 x v _ I1 r1 q1) fun _ s2 q=>q
theorem aX(hN:X.N.Nodup)(hi:X.N[i]?=some x)(hx:Loc X.env.scope x)(he:PE X e te)(hs:qJq e (some (.Name x pos')) pos.line X.env=pure false:=by rfl)(hf:X.fn x=true\/X.env.scope.names.lookup x=some .local:=by first|exact .inl rfl | exact .inr rfl | assumption):
  PS X (.Assign [.Name x pos'] e pos) (El te (a9 i)):=by
 intro pins s σ H D I h;refine wpAny_Assign_Name (bT (he pins s σ H _ I h) fun v s1 z9=>?_) hs;obtain⟨y,H1,I1,r1,q1⟩:=z9;exact nO I1 hN hi hx r1 (fun s2 I2=>⟨_,H1,I2,q1⟩) hf
def OZ(X:Cx)(t:V->V->Hp->VK->Prop):Prop :=
 ∀(pins:List (Addr×Obj)) (s:qAj) (σ:St) (H:Hp) (o i:V) (ov iv:qAh) (Q:VK),Inv X pins σ H s->RelV o ov->RelV i iv->t o i H Q ->
  qBq (qBr X.prog X.w) X.A (qKc ov iv) (EP X pins σ Q) X.xe s
end
section
variable {X:Cx}{pos:Pos}
def Ht(c:TT)(tb:TS):TS:=fun D σ H=>∃W:Nat->St->Hp->Prop,(∃m,W m σ H)/\∀m σ H,W m σ H ->
 c σ H fun b H1=>if b=true then ∃N:St->Hp->Prop,(∀σ' H',N σ' H'->∃m',m'<m/\W m' σ' H')/\tb { D with nx:=N,ct:=N,bk:=D.nx } σ H1 else D.nx σ H1
theorem Br(hp:qMr (qBr X.prog X.w) X.A X.env X.xe)(hc:PT X c tc)(hb:lI X body tb):PS X (.While c body [] pos) (Ht tc tb):=by
 intro pins s σ H D I h;obtain⟨W,⟨m0,w0⟩,turn⟩:=h;refine wpAny_While (codeAny_whileLoop (fun n s'=>∃σ' H',Inv X pins σ' H' s'/\W n σ' H') ?_ m0 ⟨σ,H,I,w0⟩);rintro n s1 ⟨σ1,H1,I1,w1⟩;refine qFe hp (bT (hc pins s1 σ1 H1 _ I1 (turn n σ1 H1 w1)) fun b s2 z9=>?_);obtain⟨H2,I2,q2⟩:=z9;cases b with
 | true =>
  obtain⟨N,hN,q2⟩:=q2;rw[if_pos rfl];refine qFe hp (bT (hb pins s2 σ1 H2 _ I2 q2) fun f s3 q3=>?_);cases f with
  | next =>
   obtain⟨σ3,H3,I3,n3⟩:=q3;obtain⟨m',hm,w3⟩:=hN σ3 H3 n3;exact⟨m',hm,σ3,H3,I3,w3⟩
  | cont =>
   obtain⟨σ3,H3,I3,n3⟩:=q3;obtain⟨m',hm,w3⟩:=hN σ3 H3 n3;exact⟨m',hm,σ3,H3,I3,w3⟩
  | brk=>exact q3
  | ret v=>exact q3
 | false =>
  rw[if_neg qAm];exact qGc ⟨σ1,H2,I2,q2⟩
end
structure It where
 go:Nat->Hp->Prop
 vF:Nat->Hp->V->Hp->Prop
 stop:Nat->Hp->Prop
def kH(X:Cx)(pins:List (Addr×Obj))(H:Hp)(b:Addr):Prop :=
 H b=none/\b≠X.env.locals/\b∉X.fs/\(b∈X.ex\/X.s₀.heap.objs.size<=b)/\(∀x c,X.env.cells.lookup x=some c->c≠b)/\∀p∈X.pn++pins,p.1≠b
theorem Inv.Ac(I:Inv X pins σ H s)(hb:s.heap.objs.size<=b)(hn:H' b=none):kH X pins H' b:=by
 refine⟨hn,qNx (qAw I.lt hb),I.Hm hb,.inr (qAk I.sz hb),fun x c e z=>?_,fun p hp z=>?_⟩
 .obtain⟨v,q⟩:=I.cell x c e;exact absurd (qAw q.lt (by rw[z];exact hb)) (qDp _)
 .exact absurd (qAw (qAt (I.pin p hp).1) (by rw[z];exact hb)) (qDp _)
structure Turn (P:qBe) (w:qCj) (K:qAb) (tg:Expr) (J:It) (fp:List Addr) (it:Addr) (tn:Nat->Heap->Prop):Prop where
 mem:it∈fp
 obj:∀i h,tn i h->∀b∈fp,∃o,h.get? b=some o/\∀v,o.data≠.cell v
 keep:∀i h h',tn i h->(∀b∈fp,∀o,h.get? b=some o->h'.get? b=some o)->tn i h'
 item:∀(X:Cx),X.prog=P->X.w=w->X.K=K->X.calm=true->∀(i:Nat) (pins:List (Addr×Obj)) (s:qAj) (σ:St) (H:Hp) (E:qAh->qAj->Prop),Inv X pins σ H s->(∀b∈fp,kH X pins H b)->tn i s.heap->J.go i H ->
  qBq (qBr P w) X.A (pyNext (.ref it)) (fun r s1=>∃u,r=some u /\
   qBq (qBr P w) X.A (qHh tg (.ref it) u) (fun _ s2=>∃x H',Inv X pins σ H' s2/\RelV x u/\J.vF i H x H'/\tn (i+1) s2.heap/\∀b∈fp,H' b=none) E s1) E s
 done:∀(X:Cx),X.prog=P->X.w=w->X.K=K->X.calm=true->∀(i:Nat) (pins:List (Addr×Obj)) (s:qAj) (σ:St) (H:Hp) (E:qAh->qAj->Prop),Inv X pins σ H s->(∀b∈fp,kH X pins H b)->tn i s.heap->J.stop i H ->
  qBq (qBr P w) X.A (pyNext (.ref it)) (fun r s1=>r=none/\Inv X pins σ H s1) E s
 self:∀(A:qCb) (i:Nat) (s:qAj) (Q:qAh->qAj->Prop) (E:qAh->qAj->Prop),tn i s.heap->Q (.ref it) s->qBq (qBr P w) A (pyIter (.ref it)) Q E s
abbrev TI:=St->Hp->(It->Hp->Prop)->Prop
def Qy(X:Cx)(pins:List (Addr×Obj))(σ:St)(tg:Expr)(R:It->Hp->Prop)(itv:qAh)(s2:qAj):Prop :=
 ∃(it:Addr) (fp:List Addr) (tn:Nat->Heap->Prop) (J:It) (H':Hp),itv = .ref it/\Inv X pins σ H' s2/\Turn X.prog X.w X.K tg J fp it tn/\tn 0 s2.heap/\(∀b∈fp,kH X pins H' b)/\R J H'
def PI(X:Cx)(tg iter:Expr)(wi:TI):Prop :=
 ∀(pins:List (Addr×Obj)) (s:qAj) (σ:St) (H:Hp) (R:It->Hp->Prop),Inv X pins σ H s->wi σ H R ->
  qBq (qBr X.prog X.w) X.A (eval iter X.env) (fun v s1=>qBq (qBr X.prog X.w) X.A (pyIter v) (Qy X pins σ tg R) X.xe s1) X.xe s
theorem xT(ho:s.heap.get? it=some o)(hc:o.cls = .type n)(hd:o.data = .fields vs)
    (hn:["enumerate","zip","dict_itemiterator","dict_reverseitemiterator","odict_iterator","itertools.zip_longest","itertools.pairwise"].contains n=false) (hQ:Q () s):qBq M A (qHh tg (.ref it) u) Q E s:=by
  delta qHh
  cases tg <;> first
    | exact qAo hQ
    | (cases u <;> first
        | exact qAo hQ
        | (refine qAc (wpAny_load ho ?_)
           rw[hc,hd]
           show qBq M A (if (["enumerate","zip","dict_itemiterator","dict_reverseitemiterator","odict_iterator","itertools.zip_longest","itertools.pairwise"].contains n&&vs[0]? == some (qKw _))=true then _ else _) Q E s
           rw[if_neg (by intro h;rw[hn,qGb] at h;cases h)]
           exact qAo hQ))
def pO(K:qAb)(a:Addr):It :=
 ⟨fun i H=>∃xs x,bA K H a xs/\xs[i]?=some x,fun i H x H'=>H'=H/\∀xs,bA K H a xs->xs[i]?=some x,fun i H=>∃xs,bA K H a xs/\xs.length<=i⟩
def Lx(K:qAb)(a:Addr):It :=
 ⟨fun i H=>∃xs x,eQ K H a xs/\xs[i]?=some x,fun i H x H'=>H'=H/\∀xs,eQ K H a xs->xs[i]?=some x,fun i H=>∃xs,eQ K H a xs/\xs.length<=i⟩
def Ad(lo:Int)(n:Nat):It:=⟨fun i _=>i<n,fun i H x H'=>H'=H/\x = .int (lo+i),fun i _=>n<=i⟩
theorem qB{P:qBe}{w:qCj}{K:qAb}{tg:Expr}(a it:Addr):Turn P w K tg (pO K a) [it] it (fun i h=>h.IsListIter it a i) where
 mem:=by simp
 obj:=fun i h st b hb=>by
  have e:b=it:=by simpa using hb
  subst e;obtain⟨o,e,c,d⟩:=st;exact⟨o,e,fun v z=>by rw[d] at z;cases z⟩
 keep:=fun i h h' st k=>st.at fun o e=>k it (by simp) o e
 item:=by
  intro X hP hw hK hc i pins s σ H E I hf st hg;subst hP hw hK;obtain⟨xs,x,hq,hx⟩:=hg;obtain⟨its,rv,p,hz⟩:=I.list hq;obtain⟨u,hu,ru⟩:=rv.get hx;obtain⟨f0,f1,f2,f3,f4,f5⟩:=hf it (by simp);refine wpAny_pyNext_list_item st p.isList (x:=u) (by simpa using hu) fun h' st' sb=>?_;have I1:Inv X pins σ H { s with heap:=h' }:=I.turned (t':=s.toks) (fun b o hb e=>(sb.2 b hb).trans e) f0 f1 f3 f4 f5;obtain⟨o,e,c,d⟩:=id st';exact⟨u,rfl,xT (s:={ s with heap:=h' }) e c d #[1] ⟨x,H,I1,ru,⟨rfl,fun ys hy=>by rw[I.tQ hy hq];exact hx⟩,st',fun b hb=>(hf b hb).1⟩⟩
 done:=by
  intro X hP hw hK hc i pins s σ H E I hf st hg;subst hP hw hK;obtain⟨xs,hq,hx⟩:=hg;obtain⟨its,rv,p,hz⟩:=I.list hq;obtain⟨f0,f1,f2,f3,f4,f5⟩:=hf it (by simp);have hl:=rv.length;exact wpAny_pyNext_list_end (I.ok.hd hc) st p.isList (by simp;lia) fun h' eb=>⟨rfl,I.turned (t':=s.toks) (fun b o hb e=>eb b o hb e) f0 f1 f3 f4 f5⟩
 self:=fun _ _ _ _ _ st h=>wpAny_pyIter_listiter st h
theorem vG{P:qBe}{w:qCj}{K:qAb}{tg:Expr}(a it:Addr):Turn P w K tg (Lx K a) [it] it (fun i h=>h.IsTupleIter it a i) where
 mem:=by simp
 obj:=fun i h st b hb=>by
  have e:b=it:=by simpa using hb
  subst e;obtain⟨o,e,c,d⟩:=st;exact⟨o,e,fun v z=>by rw[d] at z;cases z⟩
 keep:=fun i h h' st k=>st.at fun o e=>k it (by simp) o e
 item:=by
  intro X hP hw hK hc i pins s σ H E I hf st hg;subst hP hw hK;obtain⟨xs,x,hq,hx⟩:=hg;obtain⟨its,rv,p,hz⟩:=I.tuple hq;obtain⟨u,hu,ru⟩:=rv.get hx;obtain⟨f0,f1,f2,f3,f4,f5⟩:=hf it (by simp);refine wpAny_pyNext_tuple_item st (show s.heap.IsTuple a its.toArray from p) (x:=u) (by simpa using hu) fun h' st' sb=>?_;have I1:Inv X pins σ H { s with heap:=h' }:=I.turned (t':=s.toks) (fun b o hb e=>(sb.2 b hb).trans e) f0 f1 f3 f4 f5;obtain⟨o,e,c,d⟩:=id st';exact⟨u,rfl,xT (s:={ s with heap:=h' }) e c d #[1] ⟨x,H,I1,ru,⟨rfl,fun ys hy=>by rw[I.Aa hy hq];exact hx⟩,st',fun b hb=>(hf b hb).1⟩⟩
 done:=by
  intro X hP hw hK hc i pins s σ H E I hf st hg;subst hP hw hK;obtain⟨xs,hq,hx⟩:=hg;obtain⟨its,rv,p,hz⟩:=I.tuple hq;obtain⟨f0,f1,f2,f3,f4,f5⟩:=hf it (by simp);have hl:=rv.length;exact wpAny_pyNext_tuple_end (I.ok.hd hc) st (show s.heap.IsTuple a its.toArray from p) (by simp;lia) fun h' eb=>⟨rfl,I.turned (t':=s.toks) (fun b o hb e=>eb b o hb e) f0 f1 f3 f4 f5⟩
 self:=fun _ _ _ _ _ st h=>wpAny_pyIter_tupleiter st h
theorem vH{P:qBe}{w:qCj}{K:qAb}{tg:Expr}(it:Addr)(lo:Int)(n:Nat):Turn P w K tg (Ad lo n) [it] it (fun i h=>IsRangeIter h it (lo+(i:Nat)*1) ((n:Int)-(i:Nat)) 1) where
 mem:=by simp
 obj:=fun i h st b hb=>by
  have e:b=it:=by simpa using hb
  subst e;exact⟨_,st,fun v z=>by
   have z':Data.fields _=Data.cell v:=z;cases z'⟩
 keep:=fun i h h' st k=>k it (by simp) _ st
 item:=by
  intro X hP hw hK hc i pins s σ H E I hf st hg;subst hP hw hK;obtain⟨f0,f1,f2,f3,f4,f5⟩:=hf it (by simp);have W:=Walks.range (prog:=X.prog) (w:=X.w) (I.ok.hd hc) it lo 1 n;refine W.item i s _ _ hg st fun v h' tk hv st' kk=>?_;obtain⟨t,rfl⟩:=hv;have I1:Inv X pins σ H { s with heap:=h',toks:=tk }:=I.turned (fun b o hb e=>kk b o (by simpa using hb) e) f0 f1 f3 f4 f5;refine⟨_,rfl,xT (s:={ s with heap:=h',toks:=tk }) (n:="range_iterator") st' rfl rfl #[1] ⟨.int (lo+i),H,I1,⟨t,?_⟩,⟨rfl,rfl⟩,st',fun b hb=>(hf b hb).1⟩⟩;rw[Int.mul_one]
 done:=by
  intro X hP hw hK hc i pins s σ H E I hf st hg;subst hP hw hK;obtain⟨f0,f1,f2,f3,f4,f5⟩:=hf it (by simp);exact wpAny_pyNext_range_end (I.ok.hd hc) st (by have:n<=i:=hg;lia) fun h' eb=>⟨rfl,I.turned (t':=s.toks) (fun b o hb e=>eb b o hb e) f0 f1 f3 f4 f5⟩
 self:=fun _ _ _ _ _ st h=>wpAny_pyIter_rangeiter st h
section
variable {X:Cx}{tg:Expr}
def Ly(K:qAb)(tl:TE):TI:=fun σ H R=>tl σ H fun x H1=>∃a,x = .ref a/\(∃xs,bA K H1 a xs)/\R (pO K a) H1
theorem cU{l:Expr}{tl:TE}(hl:PE X l tl):PI X tg l (Ly X.K tl):=by
 intro pins s σ H R I h;refine bT (hl pins s σ H _ I h) fun v s1 z9=>?_;obtain⟨x,H1,I1,r1,q1⟩:=z9;obtain⟨a,e,⟨xs,hq⟩,q⟩:=q1;subst e;cases r1;obtain⟨its,rv,p,hz⟩:=I1.list hq;refine qEt p.isList ?_;refine⟨s1.heap.objs.size,[s1.heap.objs.size],_,_,H1,rfl,I1.kept (t':=s1.toks) fun b o e=>qAi _ e,qB a _,⟨_,qBh _ rfl,rfl,rfl⟩,fun b hb=>?_,q⟩;have e:b=s1.heap.objs.size:=by simpa using hb
 subst e;exact I1.Ac (qAl _) (I1.cE.fresh (qAl _))
theorem tR{pins:List (Addr×Obj)}{σ:St}{H:Hp}{s:qAj}{R:It->Hp->Prop}{E:qAh->qAj->Prop}{lo hi:Int}{t u v:Tok}{tk:Nat}(I:Inv X pins σ H s)(h1:-(2^62)<=lo)(h2:lo<2^62)(h3:-(2^62)<=hi)(h4:hi<2^62)
  (q:R (Ad lo (hi-lo).toNat) H):qBq (qBr X.prog X.w) X.A (pyIter (.ref s.heap.objs.size)) (Qy X pins σ tg R) E { s with heap:=s.heap.push { cls:=.type "range",data:=.fields #[.int lo t,.int hi u,.int 1 v] },toks:=tk }:=by
 refine wpAny_pyIter_range (IsRange.new ..) (small_one h1 h2 h3 h4) ?_;have I1:Inv X pins σ H { s with heap:=s.heap.push { cls:=.type "range",data:=.fields #[.int lo t,.int hi u,.int 1 v] },toks:=tk }:=I.kept fun b o e=>qAi _ e;refine⟨(s.heap.push { cls:=.type "range",data:=.fields #[.int lo t,.int hi u,.int 1 v] }).objs.size,[(s.heap.push { cls:=.type "range",data:=.fields #[.int lo t,.int hi u,.int 1 v] }).objs.size],_,_,H,rfl,
  I1.kept (t':=tk) fun b o e=>qAi _ e,vH _ lo (hi-lo).toNat,?_,fun b hb=>?_,q⟩
 .have e1:lo+((0:Nat):Int)*1=lo:=by simp
  have e2:(((hi-lo).toNat:Nat):Int)-((0:Nat):Int)=Builtin.Range.rangeSize lo hi 1:=by rw[rangeSize_one];split <;> lia
  show IsRangeIter _ _ (lo+((0:Nat):Int)*1) ((((hi-lo).toNat:Nat):Int)-((0:Nat):Int)) 1;rw[e1,e2];exact qBh _ rfl
 .have e:b=(s.heap.push { cls:=.type "range",data:=.fields #[.int lo t,.int hi u,.int 1 v] }).objs.size:=by simpa using hb
  subst e;exact I1.Ac (qAl _) (I1.cE.fresh (qAl _))
def Lz(ta:TA):TI:=fun σ H R=>ta σ H fun vs H1=>∃j:Int,vs=[.int j]/\-(2^62)<=j/\j<2^62/\R (Ad 0 j.toNat) H1
def LA(ta:TA):TI:=fun σ H R=>ta σ H fun vs H1=>∃i j:Int,vs=[.int i,.int j]/\(-(2^62)<=i/\i<2^62/\-(2^62)<=j/\j<2^62)/\R (Ad i (j-i).toNat) H1
theorem jH{a:Expr}{ta:TA}{p pos:Pos}(hg:Gl X "range")(hm:X.mg "range"=none)(ha:PA X [a] ta)(hs:qBl [a] X.env=[(false,eval a X.env)]:=by rfl):PI X tg (.Call (.Name "range" p) [a] [] pos) (Lz ta):=by
 intro pins s σ H R I h;refine Call_ (lJ I hg hm boot_range (qFx (bT (ha pos pins s σ H _ I h) fun us s1 z9=>?_) hs rfl));obtain⟨vs,H1,I1,r1,q1⟩:=z9;obtain⟨j,e,q1,q2,q⟩:=q1;subst e;cases r1 with
 | cons r rr =>
  cases rr
  obtain⟨t,rfl⟩:=r;exact call_range_1 (tR I1 (by lia) (by lia) q1 q2 (by simpa using q))
theorem lL(hg:Gl X "range")(hm:X.mg "range"=none)(ha:PA X [a,b] ta)(hs:qBl [a,b] X.env=[(false,eval a X.env),(false,eval b X.env)]:=by rfl)(hs2:qBl [b] X.env=[(false,eval b X.env)]:=by rfl):
  PI X tg (.Call (.Name "range" p) [a,b] [] pos) (LA ta):=by
 intro pins s σ H R I h;refine Call_ (lJ I hg hm boot_range (qFx (bT (ha pos pins s σ H _ I h) fun us s1 z9=>?_) (by rw[hs,hs2]) (by rw[hs2];rfl)));obtain⟨vs,H1,I1,r1,q1⟩:=z9;obtain⟨i,j,e,⟨q1,q2,q3,q4⟩,q⟩:=q1;subst e;cases r1 with
 | cons r rr =>
  cases rr with
  | cons r' rr =>
   cases rr
   obtain⟨t,rfl⟩:=r;obtain⟨t',rfl⟩:=r';exact call_range_2 (tR I1 q1 q2 q3 q4 q)
def Pa(wi:TI)(g:TG)(tb:TS):TS:=fun D σ H=>wi σ H fun J H1=>∃W:Nat->Nat->St->Hp->Prop,(∃m,W 0 m σ H1)/\∀i m σ H,W i m σ H ->
 (J.stop i H/\D.nx σ H)\/(J.go i H/\∃N:St->Hp->Prop,(∀σ' H',N σ' H'->∃m',m'<m/\W (i+1) m' σ' H')/\∀x H',J.vF i H x H'->g x σ H' fun σ2 H2=>tb { D with nx:=N,ct:=N,bk:=D.nx } σ2 H2)
def lM(fp:List Addr)(h:Heap):List (Addr×Obj):=fp.filterMap fun b=>(h.get? b).map fun o=>(b,o)
theorem eZ(hb:b∈fp)(e:h.get? b=some o):(b,o)∈lM fp h:=List.mem_filterMap.mpr ⟨b,hb,by rw[e];rfl⟩
theorem Ae(hp:p∈lM fp h):p.1∈fp/\h.get? p.1=some p.2:=by
 obtain⟨b,hb,e⟩:=List.mem_filterMap.mp hp;cases q:h.get? b with
 | none=>rw[q] at e;cases e
 | some o =>
  rw[q] at e;have e':(b,o)=p:=Option.some.inj e;subst e';exact⟨hb,q⟩
theorem Inv.pinned(I:Inv X pins σ H s)(hf:∀b∈fp,kH X pins H b)(ho:∀b∈fp,∃o,s.heap.get? b=some o/\∀v,o.data≠.cell v):Inv X (pins++lM fp s.heap) σ H s :=
 I.xS fun p hp=>(List.mem_append.mp hp).elim (fun z=>I.pin p (qAx _ z)) fun z=>by
  obtain⟨hb,e⟩:=Ae z;obtain⟨f0,f1,f2,_⟩:=hf p.1 hb;obtain⟨o,e',d⟩:=ho p.1 hb;rw[e] at e';cases e';exact⟨e,f0,f1,f2,d⟩
theorem Inv.jA(I:Inv X (pins++pl) σ H s):Inv X pins σ H s:=I.xS fun p hp=>I.pin p (qAx _ (qDw _ hp))
theorem hX(hp:qMr (qBr X.prog X.w) X.A X.env X.xe)(hc:X.calm=true)(hi:PI X tg iter wi)(hg:PG X tg g)(hb:lI X body tb)
  (hs:∀x,qGj iter X.env x=pure x:=by intro _;rfl):PS X (.For tg iter body [] pos) (Pa wi g tb):=by
 intro pins s σ H D I h;refine wpAny_For (bT (hi pins s σ H _ I h) fun v s1 h1=>bT h1 fun itv s2 h2=>?_) hs;obtain⟨it,fp,tn,J,H2,e,I2,T,st2,f2,W,⟨m0,w0⟩,turn⟩:=h2;subst e;have stat:∀{H':Hp},(∀b∈fp,H' b=none)->∀b∈fp,kH X pins H' b:=fun hn b hb=>⟨hn b hb,(f2 b hb).2⟩;refine codeAny_forLoop_any (fun n s'=>∃i σ' H',Inv X pins σ' H' s'/\tn i s'.heap/\(∀b∈fp,H' b=none)/\W i n σ' H') ?_ m0 ⟨0,σ,H2,I2,st2,fun b hb=>(f2 b hb).1,w0⟩;rintro n s3 ⟨i,σ3,H3,I3,st3,fr3,w3⟩;rcases turn i n σ3 H3 w3 with ⟨stop,qn⟩ | ⟨go,N,hN,step⟩
 .refine qFe hp (bT (T.done X rfl rfl rfl hc i pins s3 σ3 H3 X.xe I3 (stat fr3) st3 stop) fun r s4 z9=>?_);obtain⟨hr,I4⟩:=z9;subst hr;exact qGc ⟨σ3,H3,I4,qn⟩
 .refine qFe hp (bT (T.item X rfl rfl rfl hc i pins s3 σ3 H3 X.xe I3 (stat fr3) st3 go) fun r s4 z9=>?_);obtain⟨u,hr,h4⟩:=z9;subst hr;refine qFe hp (bT h4 fun _ s5 z9=>?_);obtain⟨x,H5,I5,r5,y5,st5,fr5⟩:=z9;have I5':=I5.pinned (stat fr5) (T.obj _ _ st5);refine qFe hp (bT (hg _ s5 σ3 H5 x u _ I5' r5 (step x H5 y5)) fun _ s6 z9=>?_);obtain⟨σ6,H6,I6,q6⟩:=z9;refine qFe hp (bT (hb _ s6 σ6 H6 _ I6 q6) fun f s7 q7=>?_);have qNc:∀{σ7:St}{H7:Hp},Inv X (pins++lM fp s5.heap) σ7 H7 s7->N σ7 H7->∃m,m<n/\∃i σ' H',Inv X pins σ' H' s7/\tn i s7.heap/\(∀b∈fp,H' b=none)/\W i m σ' H':=fun {σ7 H7} I7 n7=>by
   obtain⟨m',hm,w7⟩:=hN σ7 H7 n7;refine⟨m',hm,i+1,σ7,H7,I7.jA,T.keep _ _ _ st5 fun b hb o e=>(I7.pin (b,o) (qAx _ (qAx _ (eZ hb e)))).1,fun b hb=>?_,w7⟩;obtain⟨o,e,d⟩:=T.obj _ _ st5 b hb;exact(I7.pin (b,o) (qAx _ (qAx _ (eZ hb e)))).2.1
  cases f with
  | next=>obtain⟨σ7,H7,I7,n7⟩:=q7;exact qNc I7 n7
  | cont=>obtain⟨σ7,H7,I7,n7⟩:=q7;exact qNc I7 n7
  | brk=>obtain⟨σ7,H7,I7,q7⟩:=q7;exact⟨σ7,H7,I7.jA,q7⟩
  | ret v=>obtain⟨x7,σ7,H7,I7,r7,q7⟩:=q7;exact⟨x7,σ7,H7,I7.jA,r7,q7⟩
end
theorem nQ{K:qAb}{a:Addr}{xs:List V}{g:TG}{tb:TS}{D:Ends}{σ:St}{H:Hp}(Pv:Nat->St->Hp->Prop)(h0:Pv 0 σ H)(hl:∀i σ H,i<=xs.length->Pv i σ H->bA K H a xs)
  (hs:∀i x σ H,xs[i]?=some x->Pv i σ H->g x σ H fun σ2 H2=>tb { D with nx:=Pv (i+1),ct:=Pv (i+1),bk:=D.nx } σ2 H2) (hd:∀σ H,Pv xs.length σ H->D.nx σ H) :
  ∃W:Nat->Nat->St->Hp->Prop,(∃m,W 0 m σ H)/\∀i m σ H,W i m σ H ->
   ((pO K a).stop i H/\D.nx σ H)\/((pO K a).go i H/\∃N:St->Hp->Prop,(∀σ' H',N σ' H'->∃m',m'<m/\W (i+1) m' σ' H')/\∀x H',(pO K a).vF i H x H'->g x σ H' fun σ2 H2=>tb { D with nx:=N,ct:=N,bk:=D.nx } σ2 H2):=by
 refine⟨fun i m σ H=>m=xs.length-i/\i<=xs.length/\Pv i σ H,⟨xs.length,by simp,qBn _,h0⟩,?_⟩;rintro i m σ H ⟨rfl,hi,p⟩;have q:=hl i σ H hi p;by_cases hlt:i<xs.length
 .refine .inr ⟨⟨xs,xs[i],q,by simp[hlt]⟩,Pv (i+1),fun σ' H' p'=>⟨xs.length-(i+1),by lia,rfl,hlt,p'⟩,fun x H' y=>?_⟩;obtain⟨e,y⟩:=y;subst e;exact hs i x σ _ (y xs q) p
 .have e:i=xs.length:=by lia
  subst e;exact .inl ⟨⟨xs,q,qAl _⟩,hd σ H p⟩
theorem gQ{lo:Int}{n:Nat}{g:TG}{tb:TS}{D:Ends}{σ:St}{H:Hp}(Pv:Nat->St->Hp->Prop)(h0:Pv 0 σ H)
  (hs:∀i σ H,i<n->Pv i σ H->g (.int (lo+i)) σ H fun σ2 H2=>tb { D with nx:=Pv (i+1),ct:=Pv (i+1),bk:=D.nx } σ2 H2) (hd:∀σ H,Pv n σ H->D.nx σ H) :
  ∃W:Nat->Nat->St->Hp->Prop,(∃m,W 0 m σ H)/\∀i m σ H,W i m σ H ->
   ((Ad lo n).stop i H/\D.nx σ H)\/((Ad lo n).go i H/\∃N:St->Hp->Prop,(∀σ' H',N σ' H'->∃m',m'<m/\W (i+1) m' σ' H')/\∀x H',(Ad lo n).vF i H x H'->g x σ H' fun σ2 H2=>tb { D with nx:=N,ct:=N,bk:=D.nx } σ2 H2):=by
 refine⟨fun i m σ H=>m=n-i/\i<=n/\Pv i σ H,⟨n,by simp,qBn _,h0⟩,?_⟩;rintro i m σ H ⟨rfl,hi,p⟩;by_cases hlt:i<n
 .refine .inr ⟨hlt,Pv (i+1),fun σ' H' p'=>⟨n-(i+1),by lia,rfl,hlt,p'⟩,fun x H' y=>?_⟩;obtain⟨e,y⟩:=y;subst e y;exact hs i σ _ hlt p
 .have e:i=n:=by lia
  subst e;exact .inl ⟨qAl _,hd σ H p⟩
abbrev R2:=V->V->Hp->VK->Prop
def gR(X:Cx)(f:qAh->qAh->Sem qAh)(r:R2):Prop :=
 ∀(pins:List (Addr×Obj)) (s:qAj) (σ:St) (H:Hp) (x y:V) (v u:qAh) (Q:VK),Inv X pins σ H s->RelV x v->RelV y u->r x y H Q ->
  qBq (qBr X.prog X.w) X.A (f v u) (EP X pins σ Q) X.xe s
def OB(X:Cx)(f:qAh->Sem qAh)(r:V->Hp->VK->Prop):Prop :=
 ∀(pins:List (Addr×Obj)) (s:qAj) (σ:St) (H:Hp) (x:V) (v:qAh) (Q:VK),Inv X pins σ H s->RelV x v->r x H Q ->
  qBq (qBr X.prog X.w) X.A (f v) (EP X pins σ Q) X.xe s
def eD(X:Cx)(f:qAh)(r:List V->Hp->VK->Prop):Prop :=
 ∀(pins:List (Addr×Obj)) (s:qAj) (σ:St) (H:Hp) (xs:List V) (us:List qAh) (Q:VK),Inv X pins σ H s->Vals xs us->r xs H Q ->
  qBq (qBr X.prog X.w) X.A (call f us) (EP X pins σ Q) X.xe s
def Be(r:R2)(ta tb:TE):TE:=fun σ H Q=>ta σ H fun x H1=>tb σ H1 fun y H2=>r x y H2 Q
def QR(r:V->Hp->VK->Prop)(ta:TE):TE:=fun σ H Q=>ta σ H fun x H1=>r x H1 Q
def rI(C:Int->Int->Prop)(g:Int->Int->V):R2:=fun x y H Q=>∃i j,x = .int i/\y = .int j/\C i j/\Q (g i j) H
def Bs(g:Int->Int->V):R2:=fun x y H Q=>∃i j,x = .int i/\y = .int j/\Q (g i j) H
def rU(g:Int->V):V->Hp->VK->Prop:=fun x H Q=>∃i,x = .int i/\Q (g i) H
section
variable {X:Cx}{a b c:Expr}{ta tb tc:TE}{pos:Pos}
theorem Em(ha:PE X a ta)(hb:PE X b tb){pins:List (Addr×Obj)}{s:qAj}{σ:St}{H:Hp}{R:V->V->Hp->Prop}(I:Inv X pins σ H s)
  (h:ta σ H fun x H1=>tb σ H1 fun y H2=>R x y H2){Q:qAh->qAj->Prop}{f:qAh->qAh->Sem qAh}
  (hf:∀v u s2 x y H2,Inv X pins σ H2 s2->RelV x v->RelV y u->R x y H2->qBq (qBr X.prog X.w) X.A (f v u) Q X.xe s2) :
  qBq (qBr X.prog X.w) X.A (eval a X.env) (fun v s₁=>qBq (qBr X.prog X.w) X.A (eval b X.env) (fun u s₂=>qBq (qBr X.prog X.w) X.A (f v u) Q X.xe s₂) X.xe s₁) X.xe s:=by
 refine bT (ha pins s σ H _ I h) fun v s1 z9=>?_;obtain⟨x,H1,I1,r1,q1⟩:=z9;refine bT (hb pins s1 σ H1 _ I1 q1) fun u s2 z9=>?_;obtain⟨y,H2,I2,r2,q2⟩:=z9;exact hf v u s2 x y H2 I2 r1 r2 q2
theorem aG(ho:gR X (qEs op) r)(ha:PE X a ta)(hb:PE X b tb):PE X (.BinOp a op b pos) (Be r ta tb):=by
 intro pins s σ H Q I h;exact wpAny_BinOp (Em ha hb I h fun v u s2 x y H2 I2 rx ry q=>ho pins s2 σ H2 x y v u Q I2 rx ry q)
theorem Ga(ho:OB X (unaryOp op) r)(ha:PE X a ta):PE X (.UnaryOp op a pos) (QR r ta):=by
 intro pins s σ H Q I h;exact UnaryOp_ (bT (ha pins s σ H _ I h) (by rintro v s1 ⟨x,H1,I1,r1,q1⟩;exact ho pins s1 σ H1 x v Q I1 r1 q1))
theorem KA{f:qAh->qAh->Sem qAh}{C:Int->Int->Prop}{g:Int->Int->Int}
  (rule:∀(i j:Int) (t u:Tok) (s:qAj) (Q:qAh->qAj->Prop) (E:qAh->qAj->Prop),C i j->Q (.int (g i j) s.toks) { s with toks:=s.toks+1 }->qBq (qBr X.prog X.w) X.A (f (.int i t) (.int j u)) Q E s) :
  gR X f (rI C fun i j=>.int (g i j)):=by
 intro pins s σ H x y v u Q I rx ry h;obtain⟨i,j,rfl,rfl,hc,q⟩:=h;obtain⟨t,rfl⟩:=rx;obtain⟨t',rfl⟩:=ry;exact rule i j t t' s _ _ hc ⟨.int (g i j),H,I.tok _,⟨_,rfl⟩,q⟩
theorem En{f:qAh->qAh->Sem qAh}{g:Int->Int->Int}
  (rule:∀(i j:Int) (t u:Tok) (s:qAj) (Q:qAh->qAj->Prop) (E:qAh->qAj->Prop),Q (.int (g i j) s.toks) { s with toks:=s.toks+1 }->qBq (qBr X.prog X.w) X.A (f (.int i t) (.int j u)) Q E s) :
  gR X f (Bs fun i j=>.int (g i j)):=by
 intro pins s σ H x y v u Q I rx ry h;obtain⟨i,j,rfl,rfl,q⟩:=h;obtain⟨t,rfl⟩:=rx;obtain⟨t',rfl⟩:=ry;exact rule i j t t' s _ _ ⟨.int (g i j),H,I.tok _,⟨_,rfl⟩,q⟩
theorem Eo{f:qAh->qAh->Sem qAh}{g:Int->Int->Bool}
  (rule:∀(i j:Int) (t u:Tok) (s:qAj) (Q:qAh->qAj->Prop) (E:qAh->qAj->Prop),Q (.bool (g i j)) s->qBq (qBr X.prog X.w) X.A (f (.int i t) (.int j u)) Q E s) :
  gR X f (Bs fun i j=>.bl (g i j)):=by
 intro pins s σ H x y v u Q I rx ry h;obtain⟨i,j,rfl,rfl,q⟩:=h;obtain⟨t,rfl⟩:=rx;obtain⟨t',rfl⟩:=ry;exact rule i j t t' s _ _ ⟨.bl (g i j),H,I,rfl,q⟩
def Pb(i j:Int):Prop:=0<j/\j<1073741824
def LB(i j:Int):Prop:=0<=j/\j<=1000000/\i.natAbs<2^64
def Hu(i j:Int):Prop:=(-(2^64)<i/\i<2^64)\/(-(2^64)<j/\j<2^64)
theorem Hu.ok(h:Hu i j):IntMulOk i j:=by
 rcases h with ⟨h1,h2⟩ | ⟨h1,h2⟩
 .exact .of_left (intBits_le_64 h1 h2)
 .exact .of_right (intBits_le_64 h1 h2)
theorem vJ(k:Nat):(0:Int)<=2^k:=by
 rw[two_pow_cast];exact qDu _
theorem bQ:gR X (qEs .Add) (Bs fun i j=>.int (i+j)):=En fun _ _ _ _ _ _ _ q=>add_int q
theorem fA:gR X (qEs .Sub) (Bs fun i j=>.int (i-j)):=En fun _ _ _ _ _ _ _ q=>sub_int q
theorem d8:gR X (qEs .Mult) (rI Hu fun i j=>.int (i*j)):=KA fun _ _ _ _ _ _ _ hc q=>mul_int q hc.ok
theorem cN:gR X (qEs .FloorDiv) (rI Pb fun i j=>.int (i/j)):=KA fun i j _ _ _ _ _ hc q=>by
 have h1:(0:Int)<j:=hc.1;have h2:j<1073741824:=hc.2;exact floordiv_int (by lia) (by rw[qKi i (by lia)];exact q) (.inl (PyProof.noPylong_small (by lia)))
theorem bJ:gR X (qEs .Mod) (rI (fun _ j=>0<j) fun i j=>.int (i%j)):=KA fun i j _ _ _ _ _ hc q=>by
 have h1:(0:Int)<j:=hc;exact mod_int' (by lia) (by rw[Int.fmod_eq_emod_of_nonneg i (by lia)];exact q)
theorem Bt:gR X (qEs .Pow) (rI LB fun i j=>.int (i^j.toNat)):=KA fun _ _ _ _ _ _ _ hc q=>pow_int_small hc.1 hc.2.1 hc.2.2 q
theorem Hv:gR X (qEs .LShift) (rI LB fun i j=>.int (i*2^j.toNat)):=KA fun _ _ _ _ _ _ _ hc q=>lshift_int_small hc.1 hc.2.1 hc.2.2 q
theorem Hw:gR X (qEs .RShift) (rI (fun _ j=>0<=j) fun i j=>.int (i/2^j.toNat)):=KA fun i j _ _ _ _ _ hc q =>
 rshift_int hc (by rw[qKi i (vJ _)];exact q)
theorem vK:gR X (qEs .BitAnd) (Bs fun i j=>.int (qEr i j)):=En fun _ _ _ _ _ _ _ q=>and_int q
theorem LC:gR X (qEs .BitOr) (Bs fun i j=>.int (qFl i j)):=En fun _ _ _ _ _ _ _ q=>or_int q
theorem QS{f:qAh->Sem qAh}{g:Int->Int}
  (rule:∀(i:Int) (t:Tok) (s:qAj) (Q:qAh->qAj->Prop) (E:qAh->qAj->Prop),Q (.int (g i) s.toks) { s with toks:=s.toks+1 }->qBq (qBr X.prog X.w) X.A (f (.int i t)) Q E s) :
  OB X f (rU fun i=>.int (g i)):=by
 intro pins s σ H x v Q I rx h;obtain⟨i,rfl,q⟩:=h;obtain⟨t,rfl⟩:=rx;exact rule i t s _ _ ⟨.int (g i),H,I.tok _,⟨_,rfl⟩,q⟩
theorem Bu:OB X (unaryOp .USub) (rU fun i=>.int (-i)):=QS fun _ _ _ _ _ q=>neg_int q
end
def LD:V->V->Bool
 | .non,.non=>true | .non,.int _=>true | .int _,.non=>true | .non,.bl _=>true | .bl _,.non=>true | .non,.str _=>true | .str _,.non=>true
 | .int _,.int _=>true | .bl _,.bl _=>true | .str _,.str _=>true | .byt _,.byt _=>true
 | .int _,.str _=>true | .str _,.int _=>true | .bl _,.str _=>true | .str _,.bl _=>true
 | _,_=>false
def QT:R2:=fun x y H Q=>LD x y=true/\Q (.bl (decide (x=y))) H
def QU:R2:=fun x y H Q=>LD x y=true/\Q (.bl (!decide (x=y))) H
theorem xU:decide (V.int i=V.int j)=(i == j):=by
 rw[qFr];simp
theorem Bv:decide (V.bl i=V.bl j)=(i == j):=by
 rw[qFr];simp
theorem xV:decide (V.str i=V.str j)=(i == j):=by
 rw[qFr];simp
theorem xW:decide (V.byt i=V.byt j)=(i.toList == j.toList):=by
 rw[qFr];cases i;cases j;simp
section
variable {X:Cx}{a b c:Expr}{ta tb tc:TE}{pos:Pos}
theorem b8(I:Inv X pins σ H s)(q:Q (.bl k) H)(e:k=k'):EP X pins σ Q (.bool k') s:=by
 subst e;exact⟨.bl k,H,I,rfl,q⟩
theorem bU:gR X (qDi .Eq) QT:=by
 intro pins s σ H x y v u Q I rx ry h;obtain⟨hs,q⟩:=h;cases x with
 | non =>
  cases rx
  cases y with
  | non=>cases ry;exact PySem.EqNone.eq_none_none (b8 I q (by simp))
  | bl j=>cases ry;exact PySem.EqNone.eq_none_bool (b8 I q (by simp))
  | int j=>obtain⟨t',rfl⟩:=ry;exact PySem.EqNone.eq_none_int (b8 I q (by simp))
  | str j=>obtain⟨t',rfl⟩:=ry;exact PySem.EqNone.eq_none_str (b8 I q (by simp))
  | _=>exact absurd (show false=true from hs) qAm
 | bl i =>
  cases rx
  cases y with
  | non=>cases ry;exact PySem.EqNone.eq_bool_none (b8 I q (by simp))
  | bl j=>cases ry;exact eq_bool (b8 I q Bv)
  | str j=>obtain⟨t',rfl⟩:=ry;exact PySem.EqMixed.eq_bool_str (b8 I q (by simp))
  | _=>exact absurd (show false=true from hs) qAm
 | int i =>
  obtain⟨t,rfl⟩:=rx;cases y with
  | non=>cases ry;exact PySem.EqNone.eq_int_none (b8 I q (by simp))
  | int j=>obtain⟨t',rfl⟩:=ry;exact eq_int (b8 I q xU)
  | str j=>obtain⟨t',rfl⟩:=ry;exact PySem.EqMixed.eq_int_str (b8 I q (by simp))
  | _=>exact absurd (show false=true from hs) qAm
 | str i =>
  obtain⟨t,rfl⟩:=rx;cases y with
  | non=>cases ry;exact PySem.EqNone.eq_str_none (b8 I q (by simp))
  | bl j=>cases ry;exact PySem.EqMixed.eq_str_bool (b8 I q (by simp))
  | int j=>obtain⟨t',rfl⟩:=ry;exact PySem.EqMixed.eq_str_int (b8 I q (by simp))
  | str j=>obtain⟨t',rfl⟩:=ry;exact eq_str (b8 I q xV)
  | _=>exact absurd (show false=true from hs) qAm
 | byt i =>
  obtain⟨t,rfl⟩:=rx;cases y with
  | byt j=>obtain⟨t',rfl⟩:=ry;exact PySem.W.eq_bytes (b8 I q xW)
  | _=>exact absurd (show false=true from hs) qAm
 | _=>cases y <;> exact absurd (show false=true from hs) qAm
theorem kI:gR X (qDi .NotEq) QU:=by
 intro pins s σ H x y v u Q I rx ry h;obtain⟨hs,q⟩:=h;cases x with
 | non =>
  cases rx
  cases y with
  | non=>cases ry;exact PySem.EqNone.ne_none_none (b8 I q (by simp))
  | bl j=>cases ry;exact PySem.EqNone.ne_none_bool (b8 I q (by simp))
  | int j=>obtain⟨t',rfl⟩:=ry;exact PySem.EqNone.ne_none_int (b8 I q (by simp))
  | str j=>obtain⟨t',rfl⟩:=ry;exact PySem.EqNone.ne_none_str (b8 I q (by simp))
  | _=>exact absurd (show false=true from hs) qAm
 | bl i =>
  cases rx
  cases y with
  | non=>cases ry;exact PySem.EqNone.ne_bool_none (b8 I q (by simp))
  | bl j=>cases ry;exact ne_bool (b8 I q (congrArg not Bv))
  | str j=>obtain⟨t',rfl⟩:=ry;exact PySem.EqMixed.ne_bool_str (b8 I q (by simp))
  | _=>exact absurd (show false=true from hs) qAm
 | int i =>
  obtain⟨t,rfl⟩:=rx;cases y with
  | non=>cases ry;exact PySem.EqNone.ne_int_none (b8 I q (by simp))
  | int j=>obtain⟨t',rfl⟩:=ry;exact ne_int (b8 I q (congrArg not xU))
  | str j=>obtain⟨t',rfl⟩:=ry;exact PySem.EqMixed.ne_int_str (b8 I q (by simp))
  | _=>exact absurd (show false=true from hs) qAm
 | str i =>
  obtain⟨t,rfl⟩:=rx;cases y with
  | non=>cases ry;exact PySem.EqNone.ne_str_none (b8 I q (by simp))
  | bl j=>cases ry;exact PySem.EqMixed.ne_str_bool (b8 I q (by simp))
  | int j=>obtain⟨t',rfl⟩:=ry;exact PySem.EqMixed.ne_str_int (b8 I q (by simp))
  | str j=>obtain⟨t',rfl⟩:=ry;exact ne_str (b8 I q (congrArg not xV))
  | _=>exact absurd (show false=true from hs) qAm
 | byt i =>
  obtain⟨t,rfl⟩:=rx;cases y with
  | byt j=>obtain⟨t',rfl⟩:=ry;exact PySem.W.ne_bytes (b8 I q (congrArg not xW))
  | _=>exact absurd (show false=true from hs) qAm
 | _=>cases y <;> exact absurd (show false=true from hs) qAm
theorem jB:gR X (qDi .Lt) (Bs fun i j=>.bl (decide (i<j))):=Eo fun _ _ _ _ _ _ _ q=>lt_int q
theorem tS:gR X (qDi .LtE) (Bs fun i j=>.bl (decide (i<=j))):=Eo fun _ _ _ _ _ _ _ q=>le_int q
theorem nR:gR X (qDi .Gt) (Bs fun i j=>.bl (decide (j<i))):=Eo fun _ _ _ _ _ _ _ q=>gt_int q
theorem LF:gR X (qDi .GtE) (Bs fun i j=>.bl (decide (j<=i))):=Eo fun _ _ _ _ _ _ _ q=>ge_int q
theorem lN:gR X (qDi .In) (fun x y H Q=>∃i j,x = .str i/\y = .str j/\Q (.bl (!(Builtin.Str.occurrences j i 0 j.length 1).isEmpty)) H):=by
 intro pins s σ H x y v u Q I rx ry h;obtain⟨i,j,rfl,rfl,q⟩:=h;obtain⟨t,rfl⟩:=rx;obtain⟨t',rfl⟩:=ry;exact in_str (b8 I q rfl)
theorem aT(b:Expr){op:CmpOp}(h:op≠.In:=by decide)(h2:op≠.NotIn:=by decide):qIg op b=false:=by
 have e1:(op == CmpOp.In)=false:=by cases op <;> first | rfl | exact absurd rfl h
 have e2:(op == CmpOp.NotIn)=false:=by cases op <;> first | rfl | exact absurd rfl h2
 cases b <;> simp[qIg,e1,e2]
theorem jI(ho:gR X (qDi op) r)(ha:PE X a ta)(hb:PE X b tb)(hm:qIg op b=false):PE X (.Compare a [op] [b] pos) (Be r ta tb):=by
 intro pins s σ H Q I h;exact wpAny_Compare1 (Em ha hb I h fun v u s2 x y H2 I2 rx ry q=>ho pins s2 σ H2 x y v u Q I2 rx ry q) hm
def Gb(t:TE):TT:=fun σ H Q=>t σ H fun x H'=>∃k,x = .bl k/\Q k H'
theorem aL(ho:gR X (qDi op) r)(ha:PE X a ta)(hb:PE X b tb)(hm:qIg op b=false):PT X (.Compare a [op] [b] pos) (Gb (Be r ta tb)):=by
 intro pins s σ H Q I h;refine wpAny_isTrue_Compare1 (bT (ha pins s σ H _ I h) fun v s1 ⟨x,H1,I1,r1,q1⟩=>bT (hb pins s1 σ H1 _ I1 q1) fun u s2 ⟨y,H2,I2,r2,q2⟩ =>
  bT (ho pins s2 σ H2 x y v u _ I2 r1 r2 q2) fun c s3 z9=>?_) hm;obtain⟨z,H3,I3,r3,k,e,q3⟩:=z9
 subst e;cases r3;exact qCr ⟨H3,I3,q3⟩
def Bw(r r':R2)(ta tb tc:TE):TE:=fun σ H Q=>ta σ H fun x H1=>tb σ H1 fun y H2=>r x y H2 fun z H3=>∃k,z = .bl k /\
 (if k=true then tc σ H3 fun w' H4=>r' y w' H4 Q else Q (.bl false) H3)
theorem Bx(ho:gR X (qDi op) r)(ho':gR X (qDi op') r')(ha:PE X a ta)(hb:PE X b tb)(hc:PE X c tc)
  (hm:lastMarks [op,op'] [b,c]=false:=by with_unfolding_all rfl):PE X (.Compare a [op,op'] [b,c] pos) (Bw r r' ta tb tc):=by
 intro pins s σ H Q I h;refine Compare_chain (bT (ha pins s σ H _ I h) fun v s1 ⟨x,H1,I1,r1,q1⟩=>chain_link (bT (hb pins s1 σ H1 _ I1 q1) fun u s2 ⟨y,H2,I2,r2,q2⟩ =>
  bT (ho pins s2 σ H2 x y v u _ I2 r1 r2 q2) fun d s3 z9=>?_)) hm;obtain⟨z,H3,I3,r3,k,e,q3⟩:=z9
 subst e;cases r3;refine qCr ?_;cases k with
 | false=>exact ite_ff ⟨.bl false,H3,I3,rfl,q3⟩
 | true=>exact ite_tt (chain_last (bT (hc pins s3 σ H3 _ I3 q3) (by rintro w' s4 ⟨z',H4,I4,r4,q4⟩;exact ho' pins s4 σ H4 y z' u w' Q I4 r2 r4 q4)))
theorem By(ho:gR X (qDi op) r)(ho':gR X (qDi op') r')(ha:PE X a ta)(hb:PE X b tb)(hc:PE X c tc)
  (hm:lastMarks [op,op'] [b,c]=false:=by with_unfolding_all rfl):PT X (.Compare a [op,op'] [b,c] pos) (Gb (Bw r r' ta tb tc)):=by
 intro pins s σ H Q I h;refine isTrue_chain (bT (ha pins s σ H _ I h) fun v s1 ⟨x,H1,I1,r1,q1⟩=>test_link (bT (hb pins s1 σ H1 _ I1 q1) fun u s2 ⟨y,H2,I2,r2,q2⟩ =>
  bT (ho pins s2 σ H2 x y v u _ I2 r1 r2 q2) fun d s3 z9=>?_)) hm;obtain⟨z,H3,I3,r3,k,e,q3⟩:=z9
 subst e;cases r3;refine qCr ?_;cases k with
 | false =>
  obtain⟨k',e',q'⟩:=q3;cases e';exact ite_ff ⟨H3,I3,q'⟩
 | true =>
  refine ite_tt (test_last (bT (hc pins s3 σ H3 _ I3 q3) fun w' s4 ⟨z',H4,I4,r4,q4⟩=>bT (ho' pins s4 σ H4 y z' u w' _ I4 r2 r4 q4) fun d' s5 z9=>?_));obtain⟨z2,H5,I5,r5,k2,e2,q5⟩:=z9;subst e2;cases r5;exact qCr ⟨H5,I5,q5⟩
theorem lO:(qAg:Nat)<2^63:=by rw[qFf];decide
theorem aP:gR X (qEs .Add) (fun x y H Q=>∃i j,x = .str i/\y = .str j/\i.length+j.length<=qAg/\Q (.str (i++j)) H):=by
 intro pins s σ H x y v u Q I rx ry h;obtain⟨i,j,rfl,rfl,hz,q⟩:=h;obtain⟨t,rfl⟩:=rx;obtain⟨t',rfl⟩:=ry;exact add_str (fun t' tk=>⟨.str (i++j),H,I.tok _,⟨_,rfl⟩,q⟩) hz
theorem vals1(r:Vals [x] us):∃u,us=[u]/\RelV x u:=by
 cases r with
 | cons r1 r2=>cases r2;exact⟨_,rfl,r1⟩
theorem vals2(r:Vals [x,y] us):∃u w',us=[u,w']/\RelV x u/\RelV y w':=by
 cases r with
 | cons r1 r2 =>
  cases r2 with
  | cons r3 r4=>cases r4;exact⟨_,_,rfl,r1,r3⟩
theorem nS:eD X (.builtin "abs") (fun xs H Q=>∃i,xs=[.int i]/\Q (.int (if i<0 then -i else i)) H):=by
 intro pins s σ H xs us Q I r h;obtain⟨i,rfl,q⟩:=h;obtain⟨u,rfl,t,rfl⟩:=vals1 r;exact call_abs_int fun u tk=>⟨.int (if i<0 then -i else i),H,I.tok _,⟨_,rfl⟩,q⟩
theorem Af(hc:X.calm=true):eD X (.builtin "max") (fun xs H Q=>∃i j,xs=[.int i,.int j]/\Q (.int (if j>i then j else i)) H):=by
 intro pins s σ H xs us Q I r h;obtain⟨i,j,rfl,q⟩:=h;obtain⟨u,w',rfl,⟨t,rfl⟩,⟨t',rfl⟩⟩:=vals2 r;refine max_two_ints (I.ok.hd hc) fun h' tk k=>⟨_,H,I.kept k,?_,q⟩;by_cases hj:j>i
 .rw[if_pos hj,if_pos hj];exact⟨_,rfl⟩
 .rw[if_neg hj,if_neg hj];exact⟨_,rfl⟩
theorem Ah(hc:X.calm=true):eD X (.builtin "min") (fun xs H Q=>∃i j,xs=[.int i,.int j]/\Q (.int (if j<i then j else i)) H):=by
 intro pins s σ H xs us Q I r h;obtain⟨i,j,rfl,q⟩:=h;obtain⟨u,w',rfl,⟨t,rfl⟩,⟨t',rfl⟩⟩:=vals2 r;refine min_two_ints (I.ok.hd hc) fun h' tk k=>⟨_,H,I.kept k,?_,q⟩;by_cases hj:j<i
 .rw[if_pos hj,if_pos hj];exact⟨_,rfl⟩
 .rw[if_neg hj,if_neg hj];exact⟨_,rfl⟩
theorem iB:eD X (.type "str") (fun xs H Q=>∃i,xs=[.int i]/\i.natAbs.log2<1920/\Q (.str (toString i)) H):=by
 intro pins s σ H xs us Q I r h;obtain⟨i,rfl,hz,q⟩:=h;obtain⟨u,rfl,t,rfl⟩:=vals1 r;exact PySem.P.str_of_int hz ⟨.str _,H,I.tok _,⟨_,rfl⟩,q⟩
end
structure vL (h:Heap) (x dx C:Addr) (mA:Str->Option qAh):Prop where
 obj:h.get? x=some (qDy C dx)
 ns:h.Ns1 dx mA
 ne:dx≠x
theorem qC{h:Heap}{dx:Addr}{mA:Str->Option qAh}(n:h.Ns1 dx mA):∃od,h.get? dx=some od/\∀name,qGv name od=some (mA name):=by
 obtain⟨o,es,ep,ho,hd,hk,_,hm⟩:=n;refine⟨o,ho,fun name=>?_⟩;have e:=hm name;unfold nsFind findBy at e;rw[<- Array.find?_toList] at e;unfold qGv;rw[hd];dsimp only;split
 .rename_i y q;rw[q] at e;exact congrArg some e
 .rename_i q;rw[q] at e;have a:es.toList.any (·.refKey)=false:=by
   rw[List.any_eq_false];intro y hy;obtain⟨z,t,hkey⟩:=hk y (Array.mem_toList_iff.mp hy);simp[DictEntry.refKey,hkey]
  have a':¬es.toList.any (·.refKey)=true:=by rw[a];exact qAm
  rw[if_neg a'];exact congrArg some e
theorem vL.look(I:vL h x dx C mA):∃od,qJm h x (qDy C dx) C (some od)/\∀name,qGv name od=some (mA name) :=
 let ⟨od,ho,hl⟩:=qC I.ns
 ⟨od,⟨I.obj,rfl,rfl,ho⟩,hl⟩
section
variable {prog:qBe}{w:qCj}{A:qCb}{E:qAh->qAj->Prop}{s:qAj}{K:qAb}{x dx C f:Addr}{mA:Str->Option qAh}{name:Str}{v:qAh}
theorem get_map(X:K.In s.heap)(I:vL s.heap x dx C mA)(hg:qDa K C name=true)(hh:qCd K C=true)
  (ha:qAd K (.ref C) name=some none) (hv:mA name=some v) (hv':qJd v=true) (h:Q v { s with toks:=s.toks+1 }) :
  qBq (qBr prog w) A (qMz (.ref x) name expr) Q E s:=by
 obtain⟨od,J,hl⟩:=I.look;exact PySem.W.get_value X J (qIc hg).1 (qKr hh ha rfl (by rw[hl,hv])) hv' h
theorem Bz(X:K.In s.heap)(I:vL s.heap x dx C mA)(hg:qDa K C name=true)
  (hf:qAd K (.ref C) name=some (some (.ref f))) (ht:qCh K (.ref f)=true) (hv:mA name=none) (h:Q (.ref f,[.ref x]) s) :
  qBq (qBr prog w) A (qJs (.ref x) name pl) Q E s:=by
 obtain⟨od,J,hl⟩:=I.look;exact PySem.W.method_fn X J (qIc hg).1 (qIc hg).2 hf (beq_iff_eq.mp ht) (by show(qGv name od).map (·.isSome)=some false;rw[hl,hv];rfl) h
theorem Ep(X:K.In s.heap)(I:vL s.heap x dx C mA)
  (hs:qAd K (.ref C) "__setattr__"=some (some (.builtin "object.__setattr__"))) (hp:qDe K C=true) (ht:qJf K C name=some none) (hh:qCd K C=true)
  (hw:PySem.Within mA ns) (hsz:ns.length<=qAg)
  (h:∀h',vL h' x dx C (fun y=>if y=name then some v else mA y)->qIb dx s.heap h'->Q () { s with heap:=h',toks:=s.toks+2 }) :
  qBq (qBr prog w) A (setAttr (.ref x) name v) Q E s:=by
 obtain⟨od,J,hl⟩:=I.look;refine qLg X J hs (PySem.W.osa_open (s:={ s with toks:=s.toks+1 }) (r:=none) X J hp ht fun b=>?_);obtain⟨cd,hc,hd'⟩:=qLp hh;have hx:s.heap.get? x=some ⟨.ref C,some dx,.plain,#[]⟩:=I.obj;refine qAc (qAo (qAc (qAc (qHt hx (qAc (PySem.W.Looks.here (s:={ s with toks:=s.toks+1 }) (qKq X hc) ?_))))));rw[hd'];refine qAo (a:=some dx) (qAc (qAo (qAc ?_)));refine wpAny_nsSet1 (s:={ s with toks:=s.toks+1 }) I.ns fun h' hn2 hs2=>?_;obtain⟨oD,esD,epD,hoD,hdD,hcD⟩:=hn2.count (PySem.Within.cons name v hw);refine qAc (wpAny_lookBehind hoD (by rw[hdD];exact pastItsLine_dict (qAk hcD (by rw[qAn];lia))) ?_);exact qAo (h _ ⟨(hs2.2 _ (Ne.symm I.ne)).trans I.obj,hn2,I.ne⟩ hs2)
theorem BA(X:K.In s.heap)(hm:qDn K C=true)
  (hi:qAd K (.ref C) "__init__"=some (some (.ref f))) (hf:qEo K (.ref f)=some (.type "function"))
  (h:qGk (qBr prog w) (A.under (.builtin "type.__call__" ⟨.ref C::vs,kw⟩)) (.call (.ref f) ⟨.ref (s.heap.objs.size+1)::vs,kw⟩) (PySem.W.InitBack (s.heap.objs.size+1) R)
   { s with heap:=(s.heap.push qDf).push (qDy C s.heap.objs.size) }) :
  qGk (qBr prog w) A (.call (.ref C) ⟨vs,kw⟩) R s:=by
 obtain⟨hh,g,d,t,os⟩:=s;exact PySem.W.make_core (PySem.W.makes_of X hm) (qDh X hi) (fun self=>qLt X self hf) (.inl rfl) h
end
def iS(f:Str)(v:V):List (Str×V)->List (Str×V)
 | []=>[(f,v)]
 | (g,x)::r=>if g=f then (g,v)::r else (g,x)::iS f v r
theorem mH(f g:Str)(v:V):∀fs:List (Str×V),(iS f v fs).lookup g=if g=f then some v else fs.lookup g
 | []=>by
  show qEq g [(f,v)]=_;by_cases h:g=f
  .have hb:(g == f)=true:=beq_iff_eq.mpr h;simp only[qEq,hb,if_pos h]
  .have hb:(g == f)=false:=beq_eq_false_iff_ne.mpr h;simp only[qEq,hb,if_neg h]
 | (k,x)::r=>by
  have ih:=mH f g v r;rw[show iS f v ((k,x)::r)=(if k=f then (k,v)::r else (k,x)::iS f v r) from rfl];by_cases hk:k=f
  .rw[if_pos hk];by_cases h:g=k
   .have hb:(g == k)=true:=beq_iff_eq.mpr h;simp only[qEq,hb,if_pos (h.trans hk)]
   .have hb:(g == k)=false:=beq_eq_false_iff_ne.mpr h;simp only[qEq,hb,if_neg (fun e:g=f=>h (e.trans hk.symm))]
  .rw[if_neg hk];by_cases h:g=k
   .have hb:(g == k)=true:=beq_iff_eq.mpr h;simp only[qEq,hb,if_neg (fun e:g=f=>hk (h.symm.trans e))]
   .have hb:(g == k)=false:=beq_eq_false_iff_ne.mpr h;simp only[qEq,hb];exact ih
theorem lP(f:Str)(v:V):∀fs:List (Str×V),f∈(iS f v fs).map (·.1)/\∀g,g∈fs.map (·.1)->g∈(iS f v fs).map (·.1)
 | []=>⟨by simp[iS],fun g h=>by simp at h⟩
 | (k,x)::r=>by
  obtain⟨i1,i2⟩:=lP f v r;rw[show iS f v ((k,x)::r)=(if k=f then (k,v)::r else (k,x)::iS f v r) from rfl];by_cases hk:k=f
  .rw[if_pos hk];subst hk;exact⟨by simp,fun g h=>by simpa using h⟩
  .rw[if_neg hk];refine⟨?_,fun g h=>?_⟩
   .rw[qBo];exact qAq _ i1
   .rw[qBo] at h|-;rcases List.mem_cons.mp h with e | e
    .exact List.mem_cons.mpr (.inl e)
    .exact qAq _ (i2 g e)
theorem mI(f:Str)(v:V):∀fs:List (Str×V),(iS f v fs).length<=fs.length+1
 | []=>by simp[iS]
 | (k,x)::r=>by
  have ih:=mI f v r;rw[show iS f v ((k,x)::r)=(if k=f then (k,v)::r else (k,x)::iS f v r) from rfl];by_cases hk:k=f
  .rw[if_pos hk,qAn,qAn];lia
  .rw[if_neg hk,qAn,qAn];lia
theorem jS.some_of(r:jS (some v) o):∃u,o=some u/\RelV v u:=by
 cases o with
 | none=>exact(show False from r).elim
 | some u=>exact⟨u,rfl,r⟩
theorem jS.none_of(r:jS none o):o=none:=by
 cases o with
 | none=>rfl
 | some u=>exact(show False from r).elim
theorem Ai(r:RelV v u):qJd u=true:=by
 cases v with
 | non=>cases (show u=Value.none from r);rfl
 | bl b=>cases (show u=Value.bool b from r);rfl
 | int i=>obtain⟨t,e⟩:=(show ∃t,u=Value.int i t from r);cases e;rfl
 | str x=>obtain⟨t,e⟩:=(show ∃t,u=Value.str x t from r);cases e;rfl
 | byt b=>obtain⟨t,e⟩:=(show ∃t,u=Value.bytes b t from r);cases e;rfl
 | flt b=>obtain⟨t,e⟩:=(show ∃t,u=Value.float b t from r);cases e;rfl
 | ref a=>cases (show u=Value.ref a from r);rfl
 | ty n=>cases (show u=Value.type n from r);rfl
section
variable {P:qBe}{w:qCj}{H H':Hp}{h h':Heap}{a C dx:Addr}{fs fs':List (Str×V)}
theorem nC(cE:jX P w H h)(e:H a=some (.ins C dx fs)):∃mA,vL h a dx C mA/\(∀f,jS (fs.lookup f) (mA f))/\PySem.Within mA (fs.map (·.1))/\fs.length<=1000/\H dx=some (.own a):=by
 obtain⟨d,z,ne,ob,mA,n,r,q⟩:=(show cM P w H h a (.ins C dx fs) from cE a _ e);exact⟨mA,⟨ob,n,ne⟩,r,q,z,d⟩
end
structure Aj (K:qAb) (C:Addr):Prop where
 pg:qDa K C Str.empty=true
 hd:qCd K C=true
 po:qDe K C=true
 sa:qAd K (.ref C) "__setattr__"=some (some (.builtin "object.__setattr__"))
theorem Aj.get{K:qAb}{C:Addr}(c:Aj K C)(f:Str):qDa K C f=true:=c.pg
def cQ(K:qAb)(C:Addr)(f:Str):Prop:=qAd K (.ref C) f=some none
theorem cQ.LG{K:qAb}{C:Addr}{f:Str}(n:cQ K C f):qJf K C f=some none:=by
 delta qJf;rw[show qAd K (.ref C) f=some none from n];rfl
structure Meth (K:qAb) (C:Addr) (m:Str) (f:Addr):Prop where
 at_:qAd K (.ref C) m=some (some (.ref f))
 fn:qCh K (.ref f)=true
 kp:qAv K (.ref f)=true
section
variable {X:Cx}{pins:List (Addr×Obj)}{σ:St}{H:Hp}{s:qAj}{a C dx:Addr}{fs:List (Str×V)}{f:Str}{v:V}{A:qCb}{E:qAh->qAj->Prop}
theorem vM(I:Inv X pins σ H s)(e:H a=some (.ins C dx fs))(c:Aj X.K C)(n:cQ X.K C f)(l:fs.lookup f=some v)
  (h:∀u s',Inv X pins σ H s'->RelV v u->Q u s'):qBq (qBr X.prog X.w) A (qMz (.ref a) f b) Q E s:=by
 obtain⟨mA,O,r,_,_,_⟩:=nC I.cE e;obtain⟨u,hu,ru⟩:=jS.some_of (v:=v) (o:=mA f) (by rw[<- l];exact r f);exact get_map I.gL O (c.get f) c.hd n hu (Ai ru) (h u _ (I.tok _) ru)
theorem vO(I:Inv X pins σ H s)(e:H a=some (.ins C dx fs))(c:Aj X.K C)(k:Meth X.K C m g)(l:fs.lookup m=none)
  (h:Q (.ref g,[.ref a]) s):qBq (qBr X.prog X.w) A (qJs (.ref a) m pl) Q E s:=by
 obtain⟨mA,O,r,_,_,_⟩:=nC I.cE e;have hn:mA m=none:=jS.none_of (by rw[<- l];exact r m);exact Bz I.gL O (c.get m) k.at_ k.fn hn h
theorem vP(I:Inv X pins σ H s)(e:H a=some (.ins C dx fs))(c:Aj X.K C)(n:cQ X.K C f)(hl:fs.length<1000)(ry:RelV y u)
  (h:∀s',Inv X pins σ (upd H a (.ins C dx (iS f y fs))) s'->Q () s'):qBq (qBr X.prog X.w) A (setAttr (.ref a) f u) Q E s:=by
 obtain⟨mA,O,r,wi,_,ho⟩:=nC I.cE e;have hz:(fs.map (·.1)).length<=qAg:=by rw[qAa,qFf];lia
 refine Ep I.gL O c.sa c.po n.LG c.hd wi hz fun h' O' sb=>h _ ?_;have hd:∃o,h'.get? dx=some o:=let ⟨o,_,_,e',_⟩:=O'.ns;⟨o,e'⟩;refine I.write (x:=a) (e:=dx) (by rw[e];exact True.intro) (.inr ho) (fun b q hb z=>(sb.2 b hb).trans z) hd ?_;refine⟨by rw[aM O.ne];exact ho,?_,O.ne,O'.obj,_,O'.ns,fun g=>?_,fun g hg=>?_⟩
 .have:=mI f y fs;lia
 .show jS ((iS f y fs).lookup g) (if g=f then some u else mA g);rw[mH];by_cases q:g=f
  .rw[if_pos q,if_pos q];exact ry
  .rw[if_neg q,if_neg q];exact r g
 .by_cases q:g=f
  .rw[q];exact(lP f y fs).1
  .refine(lP f y fs).2 g (wi g fun z=>hg ?_);show(if g=f then some u else mA g)=none;rw[if_neg q];exact z
theorem Inv.made(I:Inv X pins σ H s):Inv X pins σ (upd (upd H s.heap.objs.size (.own (s.heap.objs.size+1))) (s.heap.objs.size+1) (.ins C s.heap.objs.size []))
  { s with heap:=(s.heap.push qDf).push (qDy C s.heap.objs.size) }:=by
 have e1:(s.heap.push qDf).get? s.heap.objs.size=some qDf:=qBh s.heap rfl;have e2:((s.heap.push qDf).push (qDy C s.heap.objs.size)).get? (s.heap.objs.size+1)=some (qDy C s.heap.objs.size):=by
  have:=qBh (s.heap.push qDf) (o:=qDy C s.heap.objs.size) rfl;rwa [qHe] at this
 have e3:(s.heap.push qDf).Ns s.heap.objs.size (fun _=>none):=⟨qDf,#[],_,e1,rfl,(fun e he=>absurd he (by simp)),fun _=>rfl⟩;have I1:=I.laid (a:=s.heap.objs.size) (o:=.own (s.heap.objs.size+1)) (h':=s.heap.push qDf) (t':=s.toks) (fun b u q=>qAi _ q) (qAl _) ⟨_,e1⟩;refine I1.laid (a:=s.heap.objs.size+1) (o:=.ins C s.heap.objs.size []) (t':=s.toks) (fun b u q=>qAi _ q) (qLm (qHe _ _)) ?_;have ne:s.heap.objs.size≠s.heap.objs.size+1:=qBi (qJn _);refine⟨by rw[aM ne,aB],qBn _,ne,e2,fun _=>none,(Heap.Ns1.of_empty e3).at fun o q=>qAi _ q,fun _=>True.intro,fun y hy=>absurd rfl hy⟩
theorem xX(hb:qHa e f env (eval e env)=eval e env)
  (h:qBq (qBr prog w) A (eval e env) (fun o s₁=>qBq (qBr prog w) A (qMz o f true) Q E s₁) E s):qBq (qBr prog w) A (eval (.Attribute e f pos) env) Q E s :=
 Attribute_any_ h (by rw[arm_eval_Attribute,hb])
end
def Pc(K:qAb)(ta:TE)(f:Str):TE:=fun σ H Q=>ta σ H fun x H1=>∃a C dx fs v,x = .ref a/\H1 a=some (.ins C dx fs)/\Aj K C/\cQ K C f/\fs.lookup f=some v/\Q v H1
def Pd(K:qAb)(ta tv:TE)(f:Str):TS:=fun D σ H=>tv σ H fun y H1=>ta σ H1 fun x H2=>∃a C dx fs,x = .ref a/\H2 a=some (.ins C dx fs)/\Aj K C/\cQ K C f/\fs.length<1000 /\
 D.nx σ (upd H2 a (.ins C dx (iS f y fs)))
section
variable {X:Cx}{o e value:Expr}{f:Str}{pos pos' tpos:Pos}{ta tv:TE}
theorem eM(he:PE X e ta)(hb:qHa e f X.env (eval e X.env)=eval e X.env):PE X (.Attribute e f pos) (Pc X.K ta f):=by
 intro pins s σ H Q I h;refine xX hb (bT (he pins s σ H _ I h) fun u s1 z9=>?_);obtain⟨x,H1,I1,rx,a,C,dx,fs,v,ex,ea,c,n,l,q⟩:=z9;subst ex;obtain rfl:u=Value.ref a:=rx;exact vM I1 ea c n l fun u' s2 I2 ru=>⟨v,H1,I2,ru,q⟩
theorem fB(ha:PE X o ta)(hv:PE X value tv)(hs:qJq value (some (.Attribute o f pos')) pos.line X.env=pure false):PS X (.Assign [.Attribute o f pos'] value pos) (Pd X.K ta tv f):=by
 intro pins s σ H D I h;refine plainObj_wpAny_Assign_Attribute (bT (hv pins s σ H _ I h) fun u s1 ⟨y,H1,I1,ry,q⟩=>bT (ha pins s1 σ H1 _ I1 q) fun ov s2 z9=>?_) hs;obtain⟨x,H2,I2,rx,a,C,dx,fs,ex,ea,c,n,l,q2⟩:=z9;subst ex;obtain rfl:ov=Value.ref a:=rx;exact vP I2 ea c n l ry fun s3 I3=>⟨σ,_,I3,q2⟩
end
section
variable {X:Cx}{pins:List (Addr×Obj)}{σ:St}{H:Hp}{s:qAj}{A:qCb}{E:qAh->qAj->Prop}{Q:qAh->qAj->Prop}{c:qAh}{b:Bool}
inductive jT (K:qAb) (H:Hp):V->qAh->Prop where
 | non:jT K H .non (.type "NoneType")
 | bl (x:Bool):jT K H (.bl x) (.type "bool")
 | int (i:Int):jT K H (.int i) (.type "int")
 | str (x:Str):jT K H (.str x) (.type "str")
 | flt (x:UInt64):jT K H (.flt x) (.type "float")
 | lst {a:Addr}{xs:List V} (e:H a=some (.lst xs)):jT K H (.ref a) (.type "list")
 | frz {a:Addr}{o:Obj}{xs:List V} (e:H a=some (.frz o (.lst xs))):jT K H (.ref a) (.type "list")
 | tup {a:Addr}{xs:List V} (e:H a=some (.tup xs)):jT K H (.ref a) (.type "tuple")
 | dK {a:Addr}{kvs:List (Key×V)} (e:H a=some (.dK kvs)):jT K H (.ref a) (.type "dict")
 | dT {a:Addr}{kvs:List (List Key×V)} (e:H a=some (.dT kvs)):jT K H (.ref a) (.type "dict")
 | ins {a C dx:Addr}{fs:List (Str×V)} (e:H a=some (.ins C dx fs)) (cl:Aj K C) (ha:qAd K (.ref C) "__class__"=some (some (.builtin "object.__class__")))
   (hn:qDd K (.builtin "object.__class__") "__get__"=some (some (.builtin "getset_descriptor.__get__"))) (htk:qFj K (.builtin "object.__class__")=some true)
   (hm:qBm K C (.type "object")=some true):jT K H (.ref a) (.ref C)
end
structure cY (k:Nat) (A:qCb):Prop where
 hd:A.handled=none
 dp:A.depth+3*k+5<recursionLimit
 un:A.units+16*k+200<qMq
theorem cY.mono(r:cY k A)(h:j<=k):cY j A:=⟨r.hd,by have:=r.dp;lia,by have:=r.un;lia⟩
theorem cY.deeper(r:cY (k+1) A)(env:Env):cY k (A.deeper env) :=
 ⟨r.hd,by have:=r.dp;show A.depth+1+3*k+5<_;lia,by have:=r.un;show A.units+3+16*k+200<_;lia⟩
theorem nT{A:qCb}{C:Addr}{us:List qAh}{kw:List (Str×qAh)}:(A.under (.builtin "type.__call__" ⟨.ref C::us,kw⟩)).depth=A.depth+1:=by
 first | rfl | simp[Around.under,Code.weight,Code.isCreation,Code.isGuard,Code.isCaller,Code.frames,Code.isFrame,guardIds]
theorem nU{A:qCb}{C:Addr}{us:List qAh}{kw:List (Str×qAh)}:(A.under (.builtin "type.__call__" ⟨.ref C::us,kw⟩)).units=A.units+1:=by
 first | rfl | simp[Around.under,Code.cUnits,Code.frames,Code.isFrame]
theorem cY.make(r:cY (k+1) A)(C:Addr)(us:List qAh)(kw:List (Str×qAh)):cY k (A.under (.builtin "type.__call__" ⟨.ref C::us,kw⟩)) :=
 ⟨r.hd,by have:=r.dp;rw[nT];lia,by have:=r.un;rw[nU];lia⟩
theorem cY.depth(r:cY k A):A.depth<recursionLimit:=by have:=r.dp;lia
theorem cY.units(r:cY k A):A.units+64<qMq:=by have:=r.un;lia
def mV:TA:=fun _ H Q=>Q [] H
def fT(ta:TE)(tr:TA):TA:=fun σ H Q=>ta σ H fun x H1=>tr σ H1 fun xs H2=>Q (x::xs) H2
section
variable {X:Cx}{e:Expr}{es:List Expr}{te:TE}{t:TA}{pos:Pos}
theorem aC:PA X [] mV:=fun _ _ _ _ H Q I h=>qMa ⟨[],H,I,.nil,h⟩
theorem aA(ha:PE X e te)(hr:PA X es t)(hs:qBl (e::es) X.env=(false,eval e X.env)::qBl es X.env:=by rfl):PA X (e::es) (fT te t):=by
 intro pos pins s σ H Q I h;rw[hs];show qBq _ _ (qOd ((false,eval e X.env)::qFc pos (qBl es X.env))) _ _ s;refine qFo (bT (ha pins s σ H _ I h) fun u s1 z9=>?_);obtain⟨x,H1,I1,r1,q1⟩:=z9;exact bT (hr pos pins s1 σ H1 _ I1 q1) (by rintro us s2 ⟨xs,H2,I2,r2,q2⟩;exact ⟨x::xs,H2,I2,.cons r1 r2,q2⟩)
def Pe(t:TA):TE:=fun σ H Q=>t σ H fun xs H1=>xs.length<=qAg/\∀p,H1 p=none->Q (.ref p) (upd H1 p (.tup xs))
def kJ(t:TA):TE:=fun σ H Q=>t σ H fun xs H1=>xs.length<=qAg/\∀p,H1 p=none->Q (.ref p) (upd H1 p (.lst xs))
theorem eR{x1}(h:PA X es t):PE X (.Tuple es x1 pos) (Pe t):=by
 intro pins s σ H Q I hq;refine wpAny_Tuple_spliced (bT (h pos pins s σ H _ I hq) fun us s1 ⟨xs,H1,I1,r,z,q⟩=>⟨by rw[<- r.length];exact z,?_⟩);have hf:H1 s1.heap.objs.size=none:=I1.cE.fresh (qAl _);refine⟨.ref s1.heap.objs.size,upd H1 s1.heap.objs.size (.tup xs),I1.laid (t':=s1.toks) (fun b u e=>qAi _ e) (qAl _) ?_,rfl,q _ hf⟩;exact⟨z,us,r,⟨_,qBh _ rfl,rfl,_,rfl⟩⟩
theorem bE(h:PA X es t):PE X (.List es pos) (kJ t):=by
 intro pins s σ H Q I hq;refine wpAny_List_spliced (bT (h pos pins s σ H _ I hq) fun us s1 ⟨xs,H1,I1,r,z,q⟩=>⟨by rw[<- r.length];exact z,?_⟩);have hf:H1 s1.heap.objs.size=none:=I1.cE.fresh (qAl _);refine⟨.ref s1.heap.objs.size,upd H1 s1.heap.objs.size (.lst xs),I1.laid (t':=s1.toks) (fun b u e=>qAi _ e) (qAl _) ?_,rfl,q _ hf⟩;exact⟨z,us,0,r,qBh _ rfl⟩
end
abbrev Sp:=List V->Hp->VK->XK->Prop
abbrev vE:=List Env->Hp->qAj->XK->qAh->qAj->Prop
structure pP (P:qBe) (w:qCj) (K:qAb) (mg:Str->Option qAh) (base:Heap) (A:qCb) (outer:List Env) (s:qAj) (H:Hp):Prop where
 frames:A.frames=some outer
 mod:Mod K mg base
 bs:∀b o,base.get? b=some o->s.heap.get? b=some o/\H b=none
 Eg:base.objs.size<=s.heap.objs.size
 gK:s.heap.FunFrames base outer
 FZ:∀b∈gD outer,H b=none
 cE:jX P w H s.heap
 bare:qIy s.gens
def CE(outer:List Env)(P:qBe)(w:qCj)(H:Hp)(s:qAj)(Q:VK)(u:qAh)(s':qAj):Prop :=
 ∃v H',s'.os=s.os/\qIy s'.gens/\Un (gD outer) [] H H' s.heap s'.heap/\jX P w H' s'.heap/\RelV v u/\Q v H'
def CR(CX:vE)(outer:List Env)(P:qBe)(w:qCj)(H:Hp)(s:qAj)(Q:VK)(E:XK)(r:qNl)(s':qAj):Prop :=
 match r with
 | .ok (.ret u)=>CE outer P w H s Q u s'
 | .ok _=>False
 | .error e=>CX outer H s E e s'
structure gM (P:qBe) (w:qCj) (K:qAb) (mg:Str->Option qAh) (base:Heap) (CX:vE) (k:Nat) (f:Addr) (fd:qBy) (ps:List Str) (sp:Sp):Prop where
 len:∀vs H Q E,sp vs H Q E->vs.length=ps.length
 run:∀(A:qCb) (outer:List Env) (s:qAj) (H:Hp) (args:Args) (us:List qAh) (vs:List V) (Q:VK) (E:XK),cY k A->pP P w K mg base A outer s H->qLb s fd args (ps.zip us)->Vals vs us->sp vs H Q E ->
  qGk (qBr P w) A (.call (.ref f) args) (CR CX outer P w H s Q E) s
theorem gM.imp{P:qBe}{w:qCj}{K:qAb}{mg:Str->Option qAh}{base:Heap}{CX:vE}{k:Nat}{f:Addr}{fd:qBy}{ps:List Str}{sp sp':Sp}(F:gM P w K mg base CX k f fd ps sp)
  (h:∀vs H Q E,sp' vs H Q E->sp vs H Q E):gM P w K mg base CX k f fd ps sp' :=
 ⟨fun vs H Q E q=>F.len vs H Q E (h _ _ _ _ q),fun A outer s H args us vs Q E hr he hb hv hs=>F.run A outer s H args us vs Q E hr he hb hv (h _ _ _ _ hs)⟩
theorem pP.make{P:qBe}{w:qCj}{K:qAb}{mg:Str->Option qAh}{base:Heap}{A:qCb}{outer:List Env}{s:qAj}{H:Hp}(e:pP P w K mg base A outer s H)(C:Addr)(us:List qAh)(kw:List (Str×qAh)):
  pP P w K mg base (A.under (.builtin "type.__call__" ⟨.ref C::us,kw⟩)) outer s H:=⟨by first|exact e.frames | (simpa [Around.under,Code.envs,Code.isFrame,pushEnvs] using e.frames),e.mod,e.bs,e.Eg,e.gK,e.FZ,e.cE,e.bare⟩
section
variable {X:Cx}{pins:List (Addr×Obj)}{σ:St}{H:Hp}{s s':qAj}
theorem Inv.BB(I:Inv X pins σ H s):pP X.prog X.w X.K X.mg X.base X.A X.stack s H :=
 ⟨I.ok.frames,I.ok.mod,I.bs,qAk I.ok.Eg I.sz,I.stack,I.jG,I.cE,I.bare⟩
theorem Inv.after(I:Inv X pins σ H s)(h:CE X.stack X.prog X.w H s Q u s'):EP X pins σ Q u s':=by
 obtain⟨v,H',os,bare,un,cE,r,q⟩:=h;obtain⟨hh,g,d,t,os'⟩:=s';obtain rfl:os'=s.os:=os;exact⟨v,H',I.call (h':=hh) (g':=g) (d':=d) (t':=t) (ch:=[]) un cE bare (fun b z=>absurd z (by simp)),r,q⟩
end
def Ge(sp:Sp)(dvs:List V)(E:XK)(t:TA):TE:=fun σ H Q=>t σ H fun vs H1=>sp (vs++dvs) H1 Q E
def Binds(K:qAb)(fd:qBy)(ps:List Str)(ds:List qAh):Prop :=
 ∀(s:qAj) (us:List qAh),K.In s.heap->(us++ds).length=ps.length->qLb s fd ⟨us,[]⟩ (ps.zip (us++ds))
theorem Binds.all{K:qAb}{fd:qBy}{ps:List Str}(h:∀us:List qAh,us.length=ps.length->qMc fd ⟨us,[]⟩=pure (ps.zip us)):Binds K fd ps []:=fun s us _ hl=>by
 rw[qBx] at hl|-;exact .of_eq (h us hl)
def Passes(CX:vE)(X:Cx)(E:XK):Prop:=∀(pins:List (Addr×Obj)) (σ:St) (H:Hp) (s:qAj) (e:qAh) (s':qAj),Inv X pins σ H s->CX X.stack H s E e s'->X.xe e s'
section
variable {X:Cx}{CX:vE}{k:Nat}{f C:Addr}{fd:qBy}{ps:List Str}{sp:Sp}{dvs:List V}{ds:List qAh}{E:XK}{x m:Str}{p pos apos:Pos}{e o:Expr}{es:List Expr}{ta:TE}{t:TA}
theorem Hx(F:gM X.prog X.w X.K X.mg X.base CX k f fd ps sp)(hr:cY k X.A)(hb:Binds X.K fd ps ds)(hd:Vals dvs ds)(hx:Passes CX X E)
  (I:Inv X pins σ H s) (r:Vals vs us) (h:sp (vs++dvs) H Q E):qBq (qBr X.prog X.w) X.A (call (.ref f) us) (EP X pins σ Q) X.xe s:=by
 have r2:Vals (vs++dvs) (us++ds):=r.append hd;have hl:(us++ds).length=ps.length:=by rw[<- r2.length];exact F.len _ _ _ _ h
 refine qEv (qFg (F.run X.A X.stack s H ⟨us,[]⟩ (us++ds) (vs++dvs) Q E hr I.BB (hb s us I.gL hl) r2 h) fun r s' hq=>?_);cases r with
 | error e=>exact hx pins σ H s e s' I hq
 | ok fl =>
  cases fl with
  | ret u=>exact I.after hq
  | next=>exact False.elim hq
  | brk=>exact False.elim hq
  | cont=>exact False.elim hq
theorem Er(F:gM X.prog X.w X.K X.mg X.base CX k f fd ps sp)(hr:cY k X.A)(hg:Gl X x)(hm:X.mg x=some (.ref f))(hk:qAv X.K (.ref f)=true)(hb:Binds X.K fd ps ds)(hd:Vals dvs ds)(hx:Passes CX X E)
  (ha:PA X (e::es) t) (hdb:(x == ("__debug__":Str))=false:=by decide) (he:qBl (e::es) X.env=(false,eval e X.env)::qBl es X.env:=by rfl) (hpl:(qFc pos (qBl es X.env)).any (·.1)=false:=by rfl) :
  PE X (.Call (.Name x p) (e::es) [] pos) (Ge sp dvs E t):=by
 intro pins s σ H Q I h;refine qDx (fK I hg hm ?_ hdb);refine qEx (h₀:=X.base) I.ok.mod.Ea hk (bT (ha pos pins s σ H _ I h) fun us s1 ⟨vs,H1,I1,r,q⟩=>⟨I1.gL,?_⟩) he hpl;exact Hx F hr hb hd hx I1 r q
structure Mk (K:qAb) (C f:Addr):Prop where
 makes:qDn K C=true
 init:qAd K (.ref C) "__init__"=some (some (.ref f))
 fn:qCh K (.ref f)=true
 kp:qAv K (.ref C)=true
end
def PK(X:Cx)(kws:List qMd)(t:TA):Prop :=
 ∀(pos:Pos) (pins:List (Addr×Obj)) (s:qAj) (σ:St) (H:Hp) (Q:List V->Hp->Prop),Inv X pins σ H s->t σ H Q->qBq (qBr X.prog X.w) X.A (evalAll ((qGz pos (qFb kws X.env)).map (·.2))) (AP X pins σ Q) X.xe s
section
variable {X:Cx}{CX:vE}{k:Nat}{f C:Addr}{fd:qBy}{ps ks:List Str}{sp:Sp}{E:XK}{x m:Str}{p pos apos kpos:Pos}{e o:Expr}{es:List Expr}{kws:List qMd}{te ta:TE}{t tk:TA}{nm:Option Str}
theorem Hy:PK X [] mV:=fun _ _ _ _ H Q I h=>wpAny_evalAll_nil ⟨[],H,I,.nil,h⟩
theorem Es(ha:PE X e te)(hr:PK X kws t):PK X (⟨nm,e,kpos⟩::kws) (fT te t):=by
 intro pos pins s σ H Q I h;show qBq _ _ (evalAll ((do let v <- eval e X.env;qIf pos;pure v)::(qGz pos (qFb kws X.env)).map (·.2))) _ _ s;refine wpAny_evalAll_cons (qAc (bT (ha pins s σ H _ I h) fun u s1 ⟨x,H1,I1,r1,q1⟩=>qAc (qEz (qAo ?_))));exact bT (hr pos pins s1 σ H1 _ I1 q1) (by rintro us s2 ⟨xs,H2,I2,r2,q2⟩;exact ⟨x::xs,H2,I2,.cons r1 r2,q2⟩)
variable {g:List qAh->List qAh->List qAh}{gV:List V->List V->List V}
end
structure aN (N P:List Str) (sc:qHb):Prop where
 kind:sc.kind = .function
 co:sc.isCoroutine=false
 gen:sc.isGenerator=false
 nd:N.Nodup
 pre:N.take P.length=P
 par:∀x∈P,sc.names.lookup x=some .local\/sc.names.lookup x=some .cell
 Hz:∀y∈sc.names,y.2≠.free
theorem qD{qIi:Str->Option qKp}{x:Str}:∀{binds:List (Str×qAh)}{m:Str->Option qAh},(∀v,(x,v)∉binds)->qNa qIi binds m x=m x
 | [],_,_=>rfl
 | (n,v)::r,m,h=>by
  unfold qNa;rw[qD fun w hw=>h w (qAq _ hw)];split
  .have:x≠n:=by rintro rfl;exact h v qAr
   simp[this]
  .rfl
theorem qE{qIi:Str->Option qKp}{x:Str}:∀{binds:List (Str×qAh)}{m:Str->Option qAh},(∀v,(x,v)∉binds)->qNb qIi binds m x=m x
 | [],_,_=>rfl
 | (n,v)::r,m,h=>by
  unfold qNb;rw[qE fun w hw=>h w (qAq _ hw)];split
  .rfl
  .have:x≠n:=by rintro rfl;exact h v qAr
   simp[this]
theorem qF{qIi:Str->Option qKp}{x:Str}{v:qAh}:∀{P:List Str}{vs:List qAh}{i:Nat}{m:Str->Option qAh},P.Nodup->P[i]?=some x->vs[i]?=some v->qIi x=some .local ->
  qNa qIi (P.zip vs) m x=some v
 | [],_,_,_,_,h,_,_=>by simp at h
 | _::_,[],_,_,_,_,h,_=>by simp at h
 | p::P,w::vs,0,m,nd,h1,h2,hk=>by
  simp at h1 h2;subst h1;subst h2;show qNa qIi ((p,w)::P.zip vs) m p=_;unfold qNa;rw[qD fun v hv=>(List.nodup_cons.mp nd).1 (qHy hv).1,if_pos hk];simp
 | p::P,w::vs,i+1,m,nd,h1,h2,hk=>by
  show qNa qIi ((p,w)::P.zip vs) m x=_;unfold qNa;exact qF (i:=i) (List.nodup_cons.mp nd).2 (by simpa using h1) (by simpa using h2) hk
theorem qG{qIi:Str->Option qKp}{x:Str}{v:qAh}:∀{P:List Str}{vs:List qAh}{i:Nat}{m:Str->Option qAh},P.Nodup->P[i]?=some x->vs[i]?=some v->qIi x≠some .local ->
  qNb qIi (P.zip vs) m x=some v
 | [],_,_,_,_,h,_,_=>by simp at h
 | _::_,[],_,_,_,_,h,_=>by simp at h
 | p::P,w::vs,0,m,nd,h1,h2,hk=>by
  simp at h1 h2;subst h1;subst h2;show qNb qIi ((p,w)::P.zip vs) m p=_;unfold qNb;rw[qE fun v hv=>(List.nodup_cons.mp nd).1 (qHy hv).1,if_neg hk];simp
 | p::P,w::vs,i+1,m,nd,h1,h2,hk=>by
  show qNb qIi ((p,w)::P.zip vs) m x=_;unfold qNb;exact qG (i:=i) (List.nodup_cons.mp nd).2 (by simpa using h1) (by simpa using h2) hk
def start(N:List Str)(vs:List V):St:=vs.map some++qBd (N.length-vs.length) none
def iD(CX:vE)(P:qBe)(w:qCj)(K:qAb)(mg:Str->Option qAh)(base:Heap)(N:List Str)(qual:Str)(scope:qHb)(f:Addr)(cd:qAh)(A:qCb)(outer:List Env)(s:qAj)(H:Hp)(E:XK):Cx where
 prog:=P
 w:=w
 K:=K
 mg:=mg
 base:=base
 A:=A.deeper (qGf qual scope s.heap.objs.size f cd)
 N:=N
 s₀:=s
 H₀:=H
 env:=qGf qual scope s.heap.objs.size f cd
 outer:=outer
 stack:=qGf qual scope s.heap.objs.size f cd::outer
 ex:=[]
 calm:=true
 fn:=fun _=>true
 pn:=[]
 xe:=fun e s'=>qBq (qBr P w) (A.deeper (qGf qual scope s.heap.objs.size f cd)) (leaving (qGf qual scope s.heap.objs.size f cd) e) (fun _ s''=>CX outer H s E e s'') (fun e' s''=>CX outer H s E e' s'') s'
theorem tT{sc:qHb}{n:Nat}{x:Str}(h:sc.names.lookup x=some .cell):∃c,(qKy n sc.names []).lookup x=some c:=by
 have q:=qHk sc.names n [] (.inl h);exact Option.isSome_iff_exists.mp q
theorem qH{CX:vE}{P:qBe}{w:qCj}{K:qAb}{mg:Str->Option qAh}{base:Heap}{N ps:List Str}{qual:Str}{scope:qHb}{f:Addr}{cd:qAh}{A:qCb}{outer:List Env}{s s1:qAj}{H:Hp}{E:XK}{us:List qAh}{vs:List V}
  (S:aN N ps scope) (hd:A.handled=none) (e0:pP P w K mg base A outer s H) (hl:vs.length=ps.length) (r:Vals vs us)
  (x:InCallC s s.heap.objs.size (qNa (qGf qual scope s.heap.objs.size f cd).kindOf (ps.zip us) fun _=>none) (qKy (s.heap.objs.size+1) scope.names []) (qNb (qGf qual scope s.heap.objs.size f cd).kindOf (ps.zip us) fun _=>none) s1) :
  Inv (iD CX P w K mg base N qual scope f cd A outer s H E) [] (start N vs) H s1:=by
 have hpl:ps.length<=N.length:=by have:=congrArg qIp S.pre;rw[qCs] at this;lia
 obtain⟨h1,tk,rfl,hk⟩:=x.done;have noA:∀b:Addr,b∉(iD CX P w K mg base N qual scope f cd A outer s H E).ex:=fun b z=>absurd (show b∈([]:List Addr) from z) (by simp);refine⟨⟨e0.mod,S.kind,rfl,rfl,qAl _,fun y z c h1 h2=>?_,fun y hy=>?_,fun y c _ h=>?_,fun _=>hd,Around.frames_deeper e0.frames,.inr ⟨rfl,rfl⟩,fun b z=>absurd z (noA b),e0.bs,e0.Eg,fun b _ _=>noA b,fun b z=>absurd z (noA b),e0.gK,e0.FZ⟩,
  rfl,e0.bare,Un.kept hk,⟨_,x.toInCall.ns,fun i y v h1 h2 h3=>?_⟩,fun y c h=>⟨_,x.cell y c h⟩,e0.cE.fresh (qAl _),fun y c h=>?_,fun p hp=>absurd (show p∈([]:List (Addr×Obj)) from hp) (by simp),e0.cE.kept hk,?_⟩
 .exact name_of_addr x.apart (PySem.mem_of_lookup h1) (PySem.mem_of_lookup h2)
 .have hy:scope.names.lookup y=some .cell\/scope.names.lookup y=some .free:=hy;rcases hy with hy | hy
  .exact tT hy
  .exact absurd rfl (S.Hz _ (PySem.mem_of_lookup hy))
 .exact qCu (x.above y c (PySem.mem_of_lookup h))
 .have hi:i<vs.length:=by
   unfold start at h2;by_cases hi:i<vs.length
   .exact hi
   .rw[qAz (by simpa using hi)] at h2;rw[qKl] at h2;split at h2 <;> cases h2
  have ha:vs[i]?=some v:=by
   unfold start at h2;rw[qAy (by simpa using hi),qAs] at h2;cases e:vs[i]? with
   | none=>rw[e] at h2;cases h2
   | some a=>rw[e] at h2;cases h2;rfl
  obtain⟨u,hu,rv⟩:=r.get ha;have hp:ps[i]?=some y:=by
   rw[<- S.pre,qHi (by lia)];exact h1
  have ndP:ps.Nodup:=by rw[<- S.pre];exact S.nd.sublist (List.take_sublist _ _)
  exists u,rv;rcases S.par y (qAp hp) with k | k
  .exact .inl ⟨k,qF ndP hp hu k⟩
  .obtain⟨c,e⟩:=tT (n:=s.heap.objs.size+1) k;refine .inr ⟨.inl k,c,e,?_⟩;have q:=x.cell y c e;rw[qG ndP hp hu (by show scope.names.lookup y≠_;rw[k];decide)] at q;exact q
 .exact e0.cE.fresh (qCu (x.above y c (PySem.mem_of_lookup h)))
 .unfold start;show _=N.length;rw[qAf,qAa,qGd];lia
theorem BC{CX:vE}{P:qBe}{w:qCj}{K:qAb}{mg:Str->Option qAh}{base:Heap}{k:Nat}{f:Addr}{name qual:Str}{params:Arguments}{body:List Stmt}{scope:qHb}{dV kV doc pm cdv ct oc:qAh}{an od:Option Addr}
  {osl:Array (Option qAh)}{N ps:List Str}{sp:Sp} (lk:K.lookup f=some ⟨oc,od,.func (qBu name qual params body scope dV kV doc pm an cdv ct),osl⟩) (hcd:qBt K cdv qual=true) (S:aN N ps scope)
  (len:∀vs H Q E,sp vs H Q E->vs.length=ps.length)
  (hbody:∀(A:qCb) (outer:List Env) (s:qAj) (H:Hp) (vs:List V) (Q:VK) (E:XK),cY k (A.deeper (qGf qual scope s.heap.objs.size f cdv))->sp vs H Q E ->
   ∃t,lI (iD CX P w K mg base N qual scope f cdv A outer s H E) body t/\t { nx:=fun _ H'=>Q .non H',rt:=Q } (start N vs) H) :
  gM P w K mg base CX (k+1) f (qBu name qual params body scope dV kV doc pm an cdv ct) ps sp:=by
 refine⟨len,fun A outer s H args us vs Q E hr e0 hb r hsp=>?_⟩;have hl:=len _ _ _ _ hsp;have KX:K.In s.heap:=e0.mod.Ea.keeps fun b o e=>(e0.bs b o e).1;have lim:s.heap.NoLimit:=e0.mod.nolimit.keeps fun b o e=>(e0.bs b o e).1;have hkind:∀y∈ps.zip us,scope.names.lookup y.1=some .local\/(scope.names.lookup y.1=some .cell/\((qKy (s.heap.objs.size+1) scope.names []).lookup y.1).isSome=true):=fun⟨n,v⟩ hy=>by
  rcases S.par n (qHy hy).1 with q | q
  .exact .inl q
  .exact .inr ⟨q,qHk _ _ _ (.inl q)⟩
 refine codeAny_call_function hr.depth (KX _ _ lk) rfl S.co S.gen rfl (qLd KX hcd) (hb _ _ _ _ ?_);refine wpAny_newFunctionEnv_cells S.kind hkind fun env he s1 x=>?_;subst he;refine⟨lim.keeps x.toInCall.keep,codeAny_func ?_⟩;obtain⟨t,ht,hq⟩:=hbody A outer s H vs Q E (hr.deeper _) hsp;have I:Inv (iD CX P w K mg base N qual scope f cdv A outer s H E) [] (start N vs) H s1:=qH S hr.hd e0 hl r x;refine qCm (ht [] s1 (start N vs) H _ I hq) (fun fl s' hs=>?_) fun e s' hs=>hs;have fin:∀{σ':St}{H':Hp}{v:V}{u:qAh},Inv (iD CX P w K mg base N qual scope f cdv A outer s H E) [] σ' H' s'->RelV v u->Q v H'->CE outer P w H s Q u s' :=
  fun {σ' H' v u} J rv q=>⟨v,H',J.os,J.bare,J.base,J.cE,rv,q⟩
 cases fl with
 | ret u =>
  obtain⟨v,σ',H',J,rv,q⟩:=hs;exact fin J rv q
 | next =>
  obtain⟨σ',H',J,q⟩:=hs;exact fin (v:=V.non) (u:=Value.none) J rfl q
 | brk =>
  obtain⟨_,_,_,q⟩:=hs;exact False.elim q
 | cont =>
  obtain⟨_,_,_,q⟩:=hs;exact False.elim q
section
variable {X:Cx}{x:Str}{p pos:Pos}{e:Expr}{es:List Expr}{t:TA}{id T:String}{r:List V->Hp->VK->Prop}
def Pf(r:List V->Hp->VK->Prop)(t:TA):TE:=fun σ H Q=>t σ H fun vs H1=>r vs H1 Q
theorem aO(hc:eD X (.builtin id) r)(hg:Gl X x)(hm:X.mg x=none)(hv:qCn x=some (.builtin id))(ha:PA X (e::es) t)(hn:x≠"__name__":=by decide)(hdb:(x == ("__debug__":Str))=false:=by decide)
  (he:qBl (e::es) X.env=(false,eval e X.env)::qBl es X.env:=by rfl) (hpl:(qFc pos (qBl es X.env)).any (·.1)=false:=by rfl):PE X (.Call (.Name x p) (e::es) [] pos) (Pf r t):=by
 intro pins s σ H Q I h;refine qDx (lJ I hg hm hv ?_ hn hdb);exact qId (bT (ha pos pins s σ H _ I h) (by rintro us s1 ⟨vs,H1,I1,r1,q1⟩;exact hc pins s1 σ H1 vs us Q I1 r1 q1)) he hpl
theorem dI(hc:eD X (.type T) r)(hg:Gl X x)(hm:X.mg x=none)(hv:qCn x=some (.type T))(ha:PA X (e::es) t)(hn:x≠"__name__":=by decide)(hdb:(x == ("__debug__":Str))=false:=by decide)
  (he:qBl (e::es) X.env=(false,eval e X.env)::qBl es X.env:=by rfl) (hpl:(qFc pos (qBl es X.env)).any (·.1)=false:=by rfl):PE X (.Call (.Name x p) (e::es) [] pos) (Pf r t):=by
 intro pins s σ H Q I h;refine qDx (lJ I hg hm hv ?_ hn hdb);exact qFx (bT (ha pos pins s σ H _ I h) (by rintro us s1 ⟨vs,H1,I1,r1,q1⟩;exact hc pins s1 σ H1 vs us Q I1 r1 q1)) he hpl
end
end L2
namespace HT
open PySem PyProof.Rows
def lexLt:List Int->List Int->Bool
 | [],[]=>false
 | [],_::_=>true
 | _::_,[]=>false
 | x::xs,y::ys=>if x=y then lexLt xs ys else decide (x<y)
theorem iE(x y:Int)(xs ys:List Int):lexLt (x::xs) (y::ys)=if x=y then lexLt xs ys else decide (x<y):=rfl
section
open PySem.SeqAt
open PySem.AutoSeq1 (wpAny_loadPart')
open PySem.MeetsSeq PySem.MeetsSeq2 PySem.MeetsSeq3
end
section
variable {prog:qBe}{w:qCj}{A:qCb}{E:qAh->qAj->Prop}{s:qAj}
theorem Et(ht:IsTup s.heap t vs.toArray)(hb:IsTup s.heap b ws.toArray)(hv:vs≠[])
  (h1:ws=[]->Q (.ref t) s) (h2:ws≠[]->Q (.ref s.heap.objs.size) { s with heap:=s.heap.push { cls:=.type "tuple",data:=.seq (vs++ws).toArray } })
  (hsz:vs.length+ws.length<=qAg):qBq (qBr prog w) A (qEs .Add (.ref t) (.ref b)) Q E s:=by
 obtain⟨⟨cls,dd,data,sl⟩,ho,hc,n,hd⟩:=id ht;obtain⟨⟨cls2,dd2,data2,sl2⟩,ho2,hc2,n2,hd2⟩:=id hb;simp only at hc hd hc2 hd2;subst hc hd hc2 hd2;have e:vs.toArray++ws.toArray=(vs++ws).toArray:=by simp
 by_cases hw:ws=[]
 .exact concat_meets ⟨_,ho,rfl⟩ ⟨_,ho2,rfl⟩ noFill_tuple_add seq_tuple_add qKe qJz (qJu _ _)
   (tuple_addW1 t b vs.toArray ws.toArray n n2 dd dd2 sl sl2 (by simpa using hv) (by simp[hw])) ⟨ho,ho2,h1 hw⟩
 .refine concat_meets ⟨_,ho,rfl⟩ ⟨_,ho2,rfl⟩ noFill_tuple_add seq_tuple_add qKe qJz (qJu _ _)
   (tuple_addW2 t b vs.toArray ws.toArray n n2 dd dd2 sl sl2 (by simpa using hv) (by simpa using hw) (by rw[qBc,qBc];exact hsz)) ⟨ho,ho2,?_⟩
  rw[e];exact h2 hw
def eN(n d:Nat):Option Int->Nat
 | none=>d
 | some v=>if v<0 then (v+(n:Int)).toNat else min v.toNat n
theorem tU(n d:Nat):eN n d none=d:=rfl
theorem xY(n d k:Nat):eN n d (some (k:Int))=min k n:=by
 show(if (k:Int)<0 then ((k:Int)+(n:Int)).toNat else min (k:Int).toNat n)=min k n;rw[if_neg (by lia),qEn]
theorem HA(n d:Nat)(hd:d<=n)(o:Option Int):eN n d o<=n:=by
 cases o with
 | none=>exact hd
 | some v =>
  show(if v<0 then (v+(n:Int)).toNat else min v.toNat n)<=n;by_cases hv:v<0
  .rw[if_pos hv];lia
  .rw[if_neg hv];exact Nat.min_le_right _ _
theorem xZ(v:Int)(n d:Nat):(if v<0 then max (v+(n:Int)) 0 else min v (n:Int))=((eN n d (some v):Nat):Int):=by
 show(if v<0 then max (v+(n:Int)) 0 else min v (n:Int))=(((if v<0 then (v+(n:Int)).toNat else min v.toNat n):Nat):Int);by_cases hv:v<0
 .simp only[if_pos hv];lia
 .simp only[if_neg hv];lia
theorem vQ(lo hi:Option Int)(n:Nat):Builtin.Slice.sliceAdjust lo hi 1 (n:Int)=(((eN n 0 lo:Nat):Int),((eN n n hi:Nat):Int)):=by
 have h1:¬((1:Int)<0):=by lia
 delta Builtin.Slice.sliceAdjust;simp only[h1,if_false];refine Prod.ext ?_ ?_
 .cases lo with
  | none=>rfl
  | some v=>exact xZ v n 0
 .cases hi with
  | none=>rfl
  | some v=>exact xZ v n n
theorem vR(i j:Nat):Builtin.Slice.slicePlaces (i:Int) (j:Int) 1=j-i:=by
 delta Builtin.Slice.slicePlaces;have h1:(1:Int)>0:=by lia
 simp only[h1,if_true,Int.ediv_one];split <;> lia
theorem nV(p:qJt v o)(h:Q o s):qBq (qBr prog w) A (Builtin.Slice.slicePartIndex v) Q E s:=by
 cases p with
 | none=>exact slicePart_none h
 | int i t=>exact slicePart_int h
theorem gS{sl:Addr}{vl vu:qAh}{lo hi:Option Int}{n:Nat}{Q:Int×Int×Nat->qAj->Prop}(hs:s.heap.IsSliceOf sl vl vu .none)(pl:qJt vl lo)(pu:qJt vu hi)
  (h:Q (((eN n 0 lo:Nat):Int),1,eN n n hi-eN n 0 lo) s):qBq (qBr prog w) A (Builtin.Slice.sliceApplied (.ref sl) (pure (n:Int))) Q E s:=by
 obtain⟨os,hos,hcs,hds⟩:=id hs;delta Builtin.Slice.sliceApplied Builtin.Slice.sliceFields;refine qAc (qAc (qFu hos hds (x:=vl) rfl (qAc (qFu hos hds (x:=vu) rfl (qAc (qFu hos hds (x:=.none) rfl (qAo ?_)))))));refine qAc (slicePart_none ?_);show qBq _ _ (if ((1:Int) == 0)=true then _ else _) _ _ s;rw[if_neg (by decide)];refine qAc (nV pl (qAc (nV pu (qAc (qAo ?_)))));show qBq _ _ (match Builtin.Slice.sliceAdjust lo hi 1 (n:Int) with | (lo,hi)=>pure (lo,(1:Int),Builtin.Slice.slicePlaces lo hi 1)) _ _ s
 rw[vQ lo hi n];show qBq _ _ (pure (((eN n 0 lo:Nat):Int),(1:Int),Builtin.Slice.slicePlaces ((eN n 0 lo:Nat):Int) ((eN n n hi:Nat):Int) 1)) _ _ s;rw[vR];exact qAo h
theorem BD(xs:Array qAh)(i k:Nat):((qBk k).filterMap fun(m:Nat)=>xs[((i:Int)+(m:Int)*1).toNat]?).toArray=((xs.toList.drop i).take k).toArray:=by
 have e:(fun(m:Nat)=>xs[((i:Int)+(m:Int)*1).toNat]?)=fun m=>xs[i+m]?:=by
  funext m
  have:((i:Int)+(m:Int)*1).toNat=i+m:=by lia
  rw[this]
 rw[e];have:=pick_run xs i k;rw[qDt] at this;have e2:((fun x=>xs[x]?)∘fun x=>i+x)=fun m=>xs[i+m]?:=rfl;rw[e2] at this;rw[this]
theorem kK{t sl:Addr}{items:Array qAh}{vl vu:qAh}{lo hi:Option Int}{Q:qAh->qAj->Prop}(ht:IsTup s.heap t items)(hs:s.heap.IsSliceOf sl vl vu .none)(pl:qJt vl lo)(pu:qJt vu hi)
  (hw:¬(eN items.size 0 lo=0/\eN items.size items.size hi=items.size))
  (h:Q (.ref s.heap.objs.size) { s with heap:=s.heap.push { cls:=.type "tuple",data:=.seq ((items.toList.drop (eN items.size 0 lo)).take (eN items.size items.size hi-eN items.size 0 lo)).toArray } })
  (hsz:items.size<=qAg):qBq (qBr prog w) A (qKc (.ref t) (.ref sl)) Q E s:=by
 have htake:sizeOk (.seq ((items.toList.drop (eN items.size 0 lo)).take (eN items.size items.size hi-eN items.size 0 lo)).toArray):=by
  show((items.toList.drop (eN items.size 0 lo)).take (eN items.size items.size hi-eN items.size 0 lo)).toArray.size<=qAg;rw[qBc,qCs,qBw,qCv];lia
 have hj:eN items.size items.size hi<=items.size:=HA _ _ (qAl _) hi;obtain⟨os,hos,hcs,hds⟩:=id hs;have hTs:s.TypeIs (.ref sl) "slice":=⟨os,hos,hcs⟩;delta qKc;try with_reducible refine qCx ?_
 first | refine qAc (qAo ?_) | skip
 refine qAc (wpAny_sequenceKey ht.typeIs #[1] ?_);refine qAc (wpAny_callSpecial?_slot (name:=Str.ofString "__getitem__") ht.typeIs qEc
  (wpAny_call_entry qEc ht.typeIs entry_tuple_getitem ?_ (args_tuple_getitem _ _)))
 show qBq _ _ (Builtin.Tuple.tupleItemsOf (.ref t) >>= _) _ _ s;refine qAc (tupleItemsOf_ ht ?_);refine qAc (wpAny_typeOf hTs ?_);rw[if_pos (by decide)];refine qAc (gS hs pl pu ?_);have hno:¬((((eN items.size 0 lo:Nat):Int) == 0&&(1:Int) == 1&&(eN items.size items.size hi-eN items.size 0 lo) == items.size)=true):=by
  intro q;rw[qBb,qBb] at q;have q1:((eN items.size 0 lo:Nat):Int)=0:=eq_of_beq q.1.1;have q2:eN items.size items.size hi-eN items.size 0 lo=items.size:=eq_of_beq q.2;exact hw ⟨by lia,by lia⟩
 show qBq _ _ (if (((eN items.size 0 lo:Nat):Int) == 0&&(1:Int) == 1&&(eN items.size items.size hi-eN items.size 0 lo) == items.size)=true then _ else _) _ _ s;rw[if_neg hno,BD];first
  | exact qAc (m:=Builtin.Tuple.tupleExact _) (qFi (qAo ⟨_,rfl,qAo h⟩) htake)
  | exact qAc (m:=Builtin.Tuple.tupleExact _) (qFi (qAc (qAo (qAo ⟨_,rfl,qAo h⟩))) htake)
  | exact qAc (qAc (m:=Builtin.Tuple.tupleExact _) (qFi (qAo (qAo ⟨_,rfl,qAo h⟩)) htake))
  | exact qAc (qAc (m:=Builtin.Tuple.tupleExact _) (qFi (qAo ⟨_,rfl,qAo h⟩) htake))
end
end HT
namespace L2
open PySem PySem.Spec PyProof.Rows
abbrev TO:=St->Hp->(Option Int->Hp->Prop)->Prop
def PO(X:Cx)(e:Option Expr)(t:TO):Prop :=
 ∀(pins:List (Addr×Obj)) (s:qAj) (σ:St) (H:Hp) (Q:Option Int->Hp->Prop),Inv X pins σ H s->t σ H Q ->
  qBq (qBr X.prog X.w) X.A (evalPart e X.env) (fun u s'=>∃o H',Inv X pins σ H' s'/\qJt u o/\Q o H') X.xe s
def jJ:TO:=fun _ H Q=>Q none H
def qI(t:TE):TO:=fun σ H Q=>t σ H fun x H1=>∃i,x = .int i/\Q (some i) H1
theorem intsAre_of:∀{us:List qAh},Vals (ns.map V.int) us->qJj us ns:=by
 induction ns with
 | nil=>intro us r;rw[qEe] at r;cases r;exact .nil
 | cons n ns ih =>
  intro us r;rw[qBo] at r;cases r with
  | cons r1 r2 =>
   obtain⟨t,e⟩:=r1;subst e;exact .cons n t (ih r2)
section
variable {X:Cx}{e:Expr}{te:TE}{lo hi:Option Expr}{tl th:TO}{pos p2:Pos}
theorem aV:PO X none jJ:=by
 intro pins s σ H Q I h;rw[evalPart_none];exact qAo ⟨none,H,I,.none,h⟩
theorem aW(h:PE X e te):PO X (some e) (qI te):=by
 intro pins s σ H Q I hw;rw[evalPart_some];refine bT (h pins s σ H _ I hw) fun u s1 z9=>?_;obtain⟨x,H1,I1,r1,q1⟩:=z9;obtain⟨i,rfl,q⟩:=q1;obtain⟨t,rfl⟩:=r1;exact⟨some i,H1,I1,.int i t,q⟩
def KC(X:Cx)(r:V->Option Int->Option Int->Hp->VK->Prop):Prop :=
 ∀(pins:List (Addr×Obj)) (s:qAj) (σ:St) (H:Hp) (x:V) (v vl vu:qAh) (lo hi:Option Int) (sl:Addr) (Q:VK),Inv X pins σ H s->RelV x v->s.heap.IsSliceOf sl vl vu .none->qJt vl lo->qJt vu hi->r x lo hi H Q ->
  ∃T id,typeLookup (.type T) "__getitem__"=pure (some (.builtin id))/\s.TypeIs v T/\qBq (qBr X.prog X.w) X.A (qKc v (.ref sl)) (EP X pins σ Q) X.xe s
def KG(r:V->Option Int->Option Int->Hp->VK->Prop)(te:TE)(tl th:TO):TE:=fun σ H Q=>te σ H fun x H1=>tl σ H1 fun l H2=>th σ H2 fun u H3=>r x l u H3 Q
theorem aR(hr:KC X r)(he:PE X e te)(hl:PO X lo tl)(hu:PO X hi th):PE X (.Subscript e (.Slice lo hi none p2) pos) (KG r te tl th):=by
 intro pins s σ H Q I h;refine Subscript_ (bT (he pins s σ H _ I h) fun v s1 z9=>?_);obtain⟨x,H1,I1,r1,q1⟩:=z9;refine wpAny_Slice (bT (hl pins s1 σ H1 _ I1 q1) fun vl s2 ⟨l,H2,I2,pl,q2⟩=>bT (hu pins s2 σ H2 _ I2 q2) fun vu s3 z9=>?_);obtain⟨u,H3,I3,pu,q3⟩:=z9;rw[evalPart_none];refine qAo ?_;have I4:Inv X pins σ H3 { s3 with heap:=s3.heap.push { cls:=.type "slice",data:=.fields #[vl,vu,.none] } }:=I3.kept (t':=s3.toks) fun b ob q=>qAi _ q;obtain⟨T,id,hT,ht,hg⟩:=hr pins { s3 with heap:=s3.heap.push { cls:=.type "slice",data:=.fields #[vl,vu,.none] } } σ H3 x v vl vu l u s3.heap.objs.size Q I4 r1 (Heap.IsSliceOf.new ..) pl pu q3;show qBq (qBr X.prog X.w) X.A (subscriptTail e (.Slice lo hi none p2) v (.ref s3.heap.objs.size)) (EP X pins σ Q) X.xe { s3 with heap:=s3.heap.push { cls:=.type "slice",data:=.fields #[vl,vu,.none] } };exact tail_any (ops:=[.ref s3.heap.objs.size,v]) ht hT hg #[7]
def eE(xs:List V)(lo hi:Option Int):List V:=(xs.drop (HT.eN xs.length 0 lo)).take (HT.eN xs.length xs.length hi-HT.eN xs.length 0 lo)
theorem mJ(xs:List V)(lo hi:Option Int):(eE xs lo hi).length<=xs.length:=by
 delta eE;rw[qCs,qBw];lia
def Pg(K:qAb):V->Option Int->Option Int->Hp->VK->Prop:=fun x lo hi H Q=>∃a xs,x = .ref a/\eQ K H a xs /\
 ¬(HT.eN xs.length 0 lo=0/\HT.eN xs.length xs.length hi=xs.length)/\∀p,H p=none->Q (.ref p) (upd H p (.tup (eE xs lo hi)))
theorem HB:KC X (Pg X.K):=by
 intro pins s σ H x v vl vu lo hi sl Q I rx hs pl pu h;obtain⟨a,xs,rfl,hx,hw,q⟩:=h;cases rx;obtain⟨its,r,ht,hz⟩:=I.tuple hx;have hlen:its.toArray.size=xs.length:=by rw[qBc];exact r.length.symm
 exists "tuple",_,PyProof.Rows.slot_tuple_getitem.lookup,ht.typeIs;refine HT.kK ht hs pl pu (by rw[hlen];exact hw) ?_ (by rw[hlen];exact hz);rw[hlen];refine⟨.ref s.heap.objs.size,_,I.laid (t':=s.toks) (o:=.tup (eE xs lo hi)) (fun b ob q=>qAi _ q) (qAl _) ?_,rfl,q _ (I.cE.fresh (qAl _))⟩;exact⟨qAk (mJ xs lo hi) hz,_,(r.drop (HT.eN xs.length 0 lo)).take (HT.eN xs.length xs.length hi-HT.eN xs.length 0 lo),IsTup.new _ _⟩
def LH(K:qAb):R2:=fun x y H Q=>∃a b xs ys,x = .ref a/\y = .ref b/\eQ K H a xs/\eQ K H b ys/\xs≠[]/\xs.length+ys.length<=qAg /\
 (ys=[]->Q (.ref a) H)/\(ys≠[]->∀p,H p=none->Q (.ref p) (upd H p (.tup (xs++ys))))
theorem Vals.rT(r:Vals xs us):us=[]↔xs=[]:=by
 cases r with
 | nil=>simp
 | cons _ _=>simp
theorem Eu:gR X (qEs .Add) (LH X.K):=by
 intro pins s σ H x y v u Q I rx ry h;obtain⟨a,b,xs,ys,rfl,rfl,ha,hb,hx,hz,q1,q2⟩:=h;cases rx;cases ry;obtain⟨its,r1,p1,_⟩:=I.tuple ha;obtain⟨its2,r2,p2,_⟩:=I.tuple hb;refine HT.Et p1 p2 (fun z=>hx (r1.rT.mp z)) (fun z=>⟨.ref a,H,I,rfl,q1 (r2.rT.mp z)⟩) (fun z=>?_) (by rw[<- r1.length,<- r2.length];exact hz);refine⟨.ref s.heap.objs.size,_,I.laid (t':=s.toks) (o:=.tup (xs++ys)) (fun b ob q=>qAi _ q) (qAl _) ?_,rfl,q2 (fun w=>z (r2.rT.mpr w)) _ (I.cE.fresh (qAl _))⟩;exact⟨by rw[qAf];exact hz,_,r1.append r2,IsTup.new _ _⟩
end
def Bf(n:Nat)(i:Int):Option Nat:=if 0<=i then (if i<n then some i.toNat else none) else if -(n:Int)<=i then some (i+n).toNat else none
def iT{α:Type}(xs:List α)(i:Int):Option α:=(Bf xs.length i).bind fun j=>xs[j]?
theorem x8(h:Bf n i=some j):seqIndex? i n=some j/\j<n/\-(n:Int)<=i/\i<n:=by
 delta Bf at h;by_cases h0:0<=i
 .rw[if_pos h0] at h;by_cases h1:i<n
  .rw[if_pos h1] at h;have e:i.toNat=j:=Option.some.inj h;exact⟨by rw[seqIndex_of h0 h1,e],by lia,by lia,h1⟩
  .rw[if_neg h1] at h;cases h
 .rw[if_neg h0] at h;by_cases h1:-(n:Int)<=i
  .rw[if_pos h1] at h;have e:(i+n).toNat=j:=Option.some.inj h;exact⟨by rw[seqIndex_neg (by lia) h1,e],by lia,h1,by lia⟩
  .rw[if_neg h1] at h;cases h
theorem rV(h:iT xs i=some v):∃j,seqIndex? i xs.length=some j/\xs[j]?=some v/\j<xs.length/\-(xs.length:Int)<=i/\i<xs.length:=by
 delta iT at h;cases e:Bf xs.length i with
 | none=>rw[e] at h;cases h
 | some j =>
  rw[e] at h;obtain⟨h1,h2,h3,h4⟩:=x8 e;exact⟨j,h1,h,h2,h3,h4⟩
theorem bP{α:Type}{xs:List α}{j:Nat}{v:α}(h:xs[j]?=some v):iT xs (j:Int)=some v:=by
 have hj:j<xs.length:=(List.getElem?_eq_some_iff.mp h).1;have e:Bf xs.length (j:Int)=some j:=by
  delta Bf;rw[if_pos (by lia),if_pos (by lia)];simp
 delta iT;rw[e];exact h
def Ew(b:Expr):Prop:=∀o i,subscripted b false o i=operate [o,i] (qKc o i)
def KH(X:Cx)(r:R2):Prop :=
 ∀(value slice:Expr) (pins:List (Addr×Obj)) (s:qAj) (σ:St) (H:Hp) (x y:V) (v u:qAh) (Q:VK),Inv X pins σ H s->RelV x v->RelV y u->r x y H Q ->
  subscripted slice false v u=operate [v,u] (qKc v u)->qBq (qBr X.prog X.w) X.A (subscriptTail value slice v u) (EP X pins σ Q) X.xe s
def Eb(X:Cx)(id:String)(r:V->List V->Hp->VK->Prop):Prop :=
 ∀(pins:List (Addr×Obj)) (s:qAj) (σ:St) (H:Hp) (x:V) (xs:List V) (v:qAh) (us:List qAh) (Q:VK),Inv X pins σ H s->RelV x v->Vals xs us->r x xs H Q ->
  qBq (qBr X.prog X.w) X.A (call (.builtin id) (v::us)) (EP X pins σ Q) X.xe s
section
variable {X:Cx}{a b:Expr}{ta tb:TE}{pos:Pos}
theorem bH(hr:KH X r)(ha:PE X a ta)(hb:PE X b tb)(hs:Ew b):PE X (.Subscript a b pos) (Be r ta tb):=by
 intro pins s σ H Q I h;exact Subscript_ (Em ha hb I h fun v u s2 x y H2 I2 rx ry q=>hr a b pins s2 σ H2 x y v u Q I2 rx ry q (hs _ _))
def Ph(K:qAb):R2:=fun x y H Q=>∃p xs i v,x = .ref p/\y = .int i/\bA K H p xs/\iT xs i=some v/\Q v H
def LI(K:qAb):R2:=fun x y H Q=>∃p xs i v,x = .ref p/\y = .int i/\eQ K H p xs/\iT xs i=some v/\Q v H
def LJ:R2:=fun x y H Q=>∃z i c,x = .str z/\y = .int i/\z.length<=qAg/\iT z.cps.toList i=some c/\Q (.str ⟨#[c]⟩) H
theorem bY:KH X (Ph X.K):=by
 intro value slice pins s σ H x y v u Q I rx ry h hs;obtain⟨p,xs,i,z,rfl,rfl,hq,he,q⟩:=h;cases rx;obtain⟨t,rfl⟩:=ry;obtain⟨its,r,pl,hz⟩:=I.list hq;obtain⟨j,h1,h2,h3,h4,h5⟩:=rV he;obtain⟨w,ew,rw'⟩:=r.get h2;have hl:=r.length;have hn:=lO;have fin:EP X pins σ Q w s:=⟨z,H,I,rw',q⟩;by_cases h0:0<=i
 .have hj:i.toNat=j:=by
   rw[seqIndex_of h0 h5] at h1;exact Option.some.inj h1
  exact item_listR pl.isList h0 (by lia) (by rw[hj];simpa using ew) fin hs
 .have hj:(i+(its.toArray.size:Int)).toNat=j:=by
   rw[seqIndex_neg (by lia) h4] at h1;rw[qBc,<- hl];exact Option.some.inj h1
  exact subscriptTail_builtinR (x:=w) pl.isList.typeIs slot_list_getitem.lookup
   (wpAny_getItem_list_neg (Q:=fun r s'=>r=w/\EP X pins σ Q r s') pl.isList (by lia) (by rw[qBc] <;> lia) (by lia) (by rw[hj];simpa using ew) ⟨rfl,fin⟩) hs
theorem dB:KH X (LI X.K):=by
 intro value slice pins s σ H x y v u Q I rx ry h hs;obtain⟨p,xs,i,z,rfl,rfl,hq,he,q⟩:=h;cases rx;obtain⟨t,rfl⟩:=ry;obtain⟨its,r,pl,hz⟩:=I.tuple hq;obtain⟨j,h1,h2,h3,h4,h5⟩:=rV he;obtain⟨w,ew,rw'⟩:=r.get h2;have hl:=r.length;have hn:=lO;have fin:EP X pins σ Q w s:=⟨z,H,I,rw',q⟩;exact subscriptTail_builtinR (x:=w) pl.typeIs slot_tuple_getitem.lookup
  (getItem_tuple (j:=j) (Q:=fun r s'=>r=w/\EP X pins σ Q r s') pl (by lia) (by lia) (by rw[qBc,<- hl];exact h1) (by simpa using ew) ⟨rfl,fin⟩) hs
theorem iF:KH X LJ:=by
 intro value slice pins s σ H x y v u Q I rx ry h hs;obtain⟨z,i,c,rfl,rfl,hz,he,q⟩:=h;obtain⟨t,rfl⟩:=rx;obtain⟨t',rfl⟩:=ry;obtain⟨j,h1,h2,h3,h4,h5⟩:=rV he;have hl:z.cps.toList.length=z.length:=by simp[Str.length]
 rw[hl] at h1 h4 h5;have hn:=lO;exact tail_any (typeIs_str s z t) slot_str_getitem.lookup (getItem_str (c:=c) (by
  have e1:decide (i < -(2^63:Int))=false:=decide_eq_false (by lia);have e2:decide (i≥2^63)=false:=decide_eq_false (by lia);rw[e1,e2,Bool.or_false]) (by rw[h1];simpa using h2) ⟨.str ⟨#[c]⟩,H,I.tok _,⟨_,rfl⟩,q⟩) hs
theorem vS(its:List qAh)(n j:Nat)(u:qAh):Obj.mapSeq (·.setIfInBounds j u) { cls:=.type "list",data:=.seq its.toArray n }={ cls:=.type "list",data:=.seq (its.set j u).toArray n }:=by
 simp[Obj.mapSeq]
theorem Inv.lst(I:Inv X pins σ H s)(h:H p=some (.lst xs)):
  ∃(its:List qAh) (n:Nat),Vals xs its/\s.heap.get? p=some { cls:=.type "list",data:=.seq its.toArray n }/\xs.length<=qAg:=by
 obtain⟨z,its,n,r,e⟩:=I.cE p _ h;exact⟨its,n,r,e,z⟩
theorem Inv.HC{pins:List (Addr×Obj)}{σ:St}{H:Hp}{s:qAj}{p:Addr}{xs ys:List V}{its its':List qAh}{n n':Nat}{f:Obj->Obj}(I:Inv X pins σ H s)(h:H p=some (.lst xs))
  (ho:s.heap.get? p=some { cls:=.type "list",data:=.seq its.toArray n }) (hf:f { cls:=.type "list",data:=.seq its.toArray n }={ cls:=.type "list",data:=.seq its'.toArray n' }) (r:Vals ys its') (hz:ys.length<=qAg) (t:Nat) :
  Inv X pins σ (upd H p (.lst ys)) { s with heap:=s.heap.update p f,toks:=t }:=by
 have e:(s.heap.update p f).get? p=some { cls:=.type "list",data:=.seq its'.toArray n' }:=by
  rw[qDg f ho (by rw[hf] <;> rfl),hf]
 refine I.write (x:=p) (e:=p) (by rw[h];trivial) (.inl rfl) (fun b u hb q=>(qCl _ _ (Ne.symm hb)).trans q) ⟨_,e⟩ ?_;exact⟨hz,its',n',r,e⟩
def LK:V->V->V->Hp->(Hp->Prop)->Prop:=fun o i v H Q=>∃p xs k j,o = .ref p/\i = .int k/\H p=some (.lst xs)/\Bf xs.length k=some j/\Q (upd H p (.lst (xs.set j v)))
theorem set_list:Hs X LK:=by
 intro pins s σ H o i v ov iv u Q I ro ri rv h;obtain⟨p,xs,k,j,rfl,rfl,hp,hj,q⟩:=h;cases ro;obtain⟨t,rfl⟩:=ri;obtain⟨its,n,r,ho,hz⟩:=I.lst hp;obtain⟨h1,h2,h3,h4⟩:=x8 hj;have hl:=r.length;have hn:=lO;have I':Inv X pins σ (upd H p (.lst (xs.set j v))) { s with heap:=s.heap.update p (Obj.mapSeq (·.setIfInBounds j u)) } :=
  I.HC hp ho (vS its n j u) (r.set rv j) (by rw[qHz];exact hz) s.toks
 by_cases h0:0<=k
 .have hk:k.toNat=j:=by
   rw[seqIndex_of h0 h4] at h1;exact Option.some.inj h1
  exact PySem.W.ki_setAt ho h0 (by lia) (by rw[qBc,<- hl];exact h4) (by rw[hk];exact⟨_,I',q⟩)
 .have hk:(k+(its.toArray.size:Int)).toNat=j:=by
   rw[seqIndex_neg (by lia) h3] at h1;rw[qBc,<- hl];exact Option.some.inj h1
  exact PySem.W.ki_setBack ho (by lia) (by rw[qBc,<- hl];exact h3) (by lia) (by rw[hk];exact⟨_,I',q⟩)
theorem rW(lo hi:Option Int)(n:Nat):(qHg lo hi none n).1=((HT.eN n 0 lo:Nat):Int)/\(qHg lo hi none n).2.1=((HT.eN n n hi:Nat):Int)/\(qHg lo hi none n).2.2=1:=by
 refine⟨?_,?_,rfl⟩
 .cases lo with
  | none=>simp[qHg,HT.eN]
  | some i =>
   simp only[qHg,HT.eN,qLw,show(1:Int)>0 by decide,if_true];by_cases h:i<0
   .simp only[h,if_true] <;> lia
   .simp only[h,if_false] <;> lia
 .cases hi with
  | none=>simp[qHg,HT.eN]
  | some i =>
   simp only[qHg,HT.eN,qLw,show(1:Int)>0 by decide,if_true];by_cases h:i<0
   .simp only[h,if_true] <;> lia
   .simp only[h,if_false] <;> lia
theorem pQ(its:List qAh)(lo hi:Option Int):slicePick its.toArray lo hi none=((its.drop (HT.eN its.length 0 lo)).take (HT.eN its.length its.length hi-HT.eN its.length 0 lo)).toArray:=by
 obtain⟨h1,h2,h3⟩:=rW lo hi its.toArray.size;delta slicePick;rw[h1,h2,h3];simp only[sliceRange_one,pick_run,qBc] <;> rfl
def HD(K:qAb):V->Option Int->Option Int->Hp->VK->Prop:=fun x lo hi H Q=>∃a xs,x = .ref a/\bA K H a xs/\∀p,H p=none->Q (.ref p) (upd H p (.lst (eE xs lo hi)))
theorem bZ:KC X (HD X.K):=by
 intro pins s σ H x v vl vu lo hi sl Q I rx hs pl pu h;obtain⟨a,xs,rfl,hx,q⟩:=h;cases rx;obtain⟨its,r,ht,hz⟩:=I.list hx;have hlen:=r.length;exists "list",_,slot_list_getitem.lookup,ht.isList.typeIs;refine wpAny_getItem_list_slice ht.isList hs pl pu .none (by simp) ?_ (by rw[qBc] <;> lia);rw[pQ,<- hlen];refine⟨.ref s.heap.objs.size,_,I.laid (t':=s.toks) (o:=.lst (eE xs lo hi)) (fun b ob q=>qAi _ q) (qAl _) ?_,rfl,q _ (I.cE.fresh (qAl _))⟩;exact⟨qAk (mJ xs lo hi) hz,_,0,(r.drop (HT.eN xs.length 0 lo)).take (HT.eN xs.length xs.length hi-HT.eN xs.length 0 lo),qBh _ rfl⟩
def mK:V->Bool
 | .non=>true
 | .bl _=>true
 | .int _=>true
 | .str _=>true
 | _=>false
def Ez:V->V->Bool
 | .non,.non=>true
 | .bl a,.bl b=>a == b
 | .bl a,.int b=>(if a then 1 else 0) == b
 | .int a,.bl b=>a == (if b then 1 else 0)
 | .int a,.int b=>a == b
 | .str a,.str b=>a == b
 | _,_=>false
theorem HE(ry:RelV y u)(rx:RelV x v)(fy:mK y=true)(fx:mK x=true):SeqAt.EqAt A s u v (Ez y x):=by
 cases y with
 | non =>
  cases ry
  cases x with
  | non=>cases rx;exact SeqAt.EqAt.same _
  | bl b=>cases rx;exact SeqAt.EqAt.none_bool b
  | int b=>obtain⟨t,rfl⟩:=rx;exact SeqAt.EqAt.none_int b t
  | str b=>obtain⟨t,rfl⟩:=rx;exact SeqAt.EqAt.none_str b t
  | _=>exact absurd (show false=true from fx) qAm
 | bl a =>
  cases ry
  cases x with
  | non=>cases rx;exact SeqAt.EqAt.bool_none a
  | bl b=>cases rx;exact SeqAt.EqAt.bool_bool a b
  | int b=>obtain⟨t,rfl⟩:=rx;exact SeqAt.EqAt.bool_int a b t
  | str b=>obtain⟨t,rfl⟩:=rx;exact SeqAt.EqAt.bool_str a b t
  | _=>exact absurd (show false=true from fx) qAm
 | int a =>
  obtain⟨t',rfl⟩:=ry;cases x with
  | non=>cases rx;exact SeqAt.EqAt.int_none a t'
  | bl b=>cases rx;exact SeqAt.EqAt.int_bool a t' b
  | int b=>obtain⟨t,rfl⟩:=rx;exact SeqAt.EqAt.int_int a t' b t
  | str b=>obtain⟨t,rfl⟩:=rx;exact SeqAt.EqAt.int_str a t' b t
  | _=>exact absurd (show false=true from fx) qAm
 | str a =>
  obtain⟨t',rfl⟩:=ry;cases x with
  | non=>cases rx;exact SeqAt.EqAt.str_none a t'
  | bl b=>cases rx;exact SeqAt.EqAt.str_bool a t' b
  | int b=>obtain⟨t,rfl⟩:=rx;exact SeqAt.EqAt.str_int a t' b t
  | str b=>obtain⟨t,rfl⟩:=rx;exact SeqAt.EqAt.str_str a t' b t
  | _=>exact absurd (show false=true from fx) qAm
 | _=>exact absurd (show false=true from fy) qAm
def EA(x:V)(u:qAh):Bool:=match u with
 | .none=>Ez .non x
 | .bool b=>Ez (.bl b) x
 | .int i _=>Ez (.int i) x
 | .str z _=>Ez (.str z) x
 | _=>false
theorem BE(r:RelV y u)(f:mK y=true):EA x u=Ez y x:=by
 cases y with
 | non=>cases r;rfl
 | bl b=>cases r;rfl
 | int i=>obtain⟨t,rfl⟩:=r;rfl
 | str z=>obtain⟨t,rfl⟩:=r;rfl
 | _=>exact absurd (show false=true from f) qAm
theorem rX:∀{xs:List V}{us:List qAh},Vals xs us->xs.all mK=true->us.any (EA x)=xs.any fun y=>Ez y x
 | _,_,.nil,_=>rfl
 | y::xs,u::us,.cons r t,f=>by
  rw[qNe,qBb] at f;rw[qHn,qHn,BE r f.1,rX t f.2]
theorem nX(rx:RelV x v)(fx:mK x=true):∀{xs:List V}{us:List qAh},Vals xs us->xs.all mK=true->∀u∈us,SeqAt.EqAt A s u v (EA x u)
 | _,_,.nil,_=>fun u hu=>by cases hu
 | y::xs,u::us,.cons r t,f=>fun u' hu=>by
  rw[qNe,qBb] at f;rcases List.mem_cons.mp hu with rfl | hu
  .rw[BE r f.1];exact HE r rx f.1 fx
  .exact nX rx fx t f.2 u' hu
def LL(x:V)(xs:List V):Bool:=xs.any fun y=>Ez y x
def QW(K:qAb)(neg:Bool):R2:=fun x y H Q=>∃p xs,y = .ref p/\(bA K H p xs\/eQ K H p xs)/\mK x=true/\xs.all mK=true/\Q (.bl (if neg then !LL x xs else LL x xs)) H
theorem rY:gR X (qDi .NotIn) (QW X.K true):=by
 intro pins s σ H x y v u Q I rx ry h;obtain⟨p,xs,rfl,hq,fx,fs,q⟩:=h;cases ry;rcases hq with hq | hq
 .obtain⟨its,r,pl,hz⟩:=I.list hq;refine SeqAt.notIn_listAt (EA x) pl.isList (fun w hw=>nX rx fx r fs w (by simpa using hw)) ⟨.bl _,H,I,rfl,?_⟩;rw[show its.toArray.any (EA x)=its.any (EA x) by simp,rX r fs];exact q
 .obtain⟨its,r,pl,hz⟩:=I.tuple hq;refine SeqAt.notIn_tupleAt (EA x) pl (fun w hw=>nX rx fx r fs w (by simpa using hw)) ⟨.bl _,H,I,rfl,?_⟩;rw[show its.toArray.any (EA x)=its.any (EA x) by simp,rX r fs];exact q
theorem fL:gR X (qDi .NotIn) (fun x y H Q=>∃i j,x = .str i/\y = .str j/\Q (.bl (!(!(Builtin.Str.occurrences j i 0 j.length 1).isEmpty))) H):=by
 intro pins s σ H x y v u Q I rx ry h;obtain⟨i,j,rfl,rfl,q⟩:=h;obtain⟨t,rfl⟩:=rx;obtain⟨t',rfl⟩:=ry;exact notIn_str ⟨.bl _,H,I,rfl,q⟩
theorem aS:eD X (.builtin "len") (fun xs H Q=>∃p ys,xs=[.ref p]/\(bA X.K H p ys\/eQ X.K H p ys)/\Q (.int ys.length) H):=by
 intro pins s σ H xs us Q I r h;obtain⟨p,ys,rfl,hq,q⟩:=h;obtain⟨u,rfl,rx⟩:=vals1 r;cases rx;have hn:=lO;rcases hq with hq | hq
 .obtain⟨its,r',pl,hz⟩:=I.list hq;have hlen:=r'.length;exact Calls.call_len_list pl.isList (by simp only[qBc] <;> lia) ⟨.int ys.length,H,I.tok _,⟨s.toks+1,by rw[qBc,hlen]⟩,q⟩
 .obtain⟨its,r',pl,hz⟩:=I.tuple hq;have hlen:=r'.length;exact len_tuple pl (by simp only[qBc] <;> lia) ⟨.int ys.length,H,I.tok _,⟨s.toks+1,by rw[qBc,hlen]⟩,q⟩
theorem eS:eD X (.builtin "len") (fun xs H Q=>∃z,xs=[.str z]/\z.length<=qAg/\Q (.int z.length) H):=by
 intro pins s σ H xs us Q I r h;obtain⟨z,rfl,hz,q⟩:=h;obtain⟨u,rfl,t,rfl⟩:=vals1 r;have hn:=lO;exact len_str (by lia) ⟨.int z.length,H,I.tok _,⟨_,rfl⟩,q⟩
theorem dW:eD X (.type "list") (fun xs H Q=>∃p ys,xs=[.ref p]/\(bA X.K H p ys\/eQ X.K H p ys)/\∀l,H l=none->Q (.ref l) (upd H l (.lst ys))):=by
 intro pins s σ H xs us Q I r h;obtain⟨p,ys,rfl,hq,q⟩:=h;obtain⟨u,rfl,rx⟩:=vals1 r;cases rx;have fin:∀(its:List qAh),Vals ys its->ys.length<=qAg->∀(h':Heap) (c':Nat),(∀b o',s.heap.get? b=some o'->h'.get? b=some o') ->
   h'.get? s.heap.objs.size=some { cls:=.type "list",dict:=none,data:=.seq its.toArray c',slots:=#[] }->EP X pins σ Q (.ref s.heap.objs.size) { s with heap:=h' }:=fun its r' hz h' c' kp e =>
  ⟨.ref s.heap.objs.size,_,I.laid (t':=s.toks) kp (qAl _) (show cM X.prog X.w _ h' _ (.lst ys) from⟨hz,its,c',r',e⟩),rfl,q _ (I.cE.fresh (qAl _))⟩
 rcases hq with hq | hq
 .obtain⟨its,r',pl,hz⟩:=I.list hq;have hlen:=r'.length;obtain⟨o,ho,hc,n,hd⟩:=pl.isList;exact call_list_seq p (.inl rfl) ho hc hd (fun h' c' kp e=>fin its r' hz h' c' kp e) (by simp only[qBc] <;> lia)
 .obtain⟨its,r',pl,hz⟩:=I.tuple hq;have hlen:=r'.length;obtain⟨o,ho,hc,n,hd⟩:=pl;exact call_list_seq p (.inr rfl) ho hc hd (fun h' c' kp e=>fin its r' hz h' c' kp e) (by simp only[qBc] <;> lia)
def Pj(K:qAb)(T:String)(x:V)(H:Hp):Prop:=match x with
 | .str _=>T="str"
 | .int _=>T="int"
 | .ref p=>(T="list"/\∃xs,bA K H p xs)\/(T="tuple"/\∃o,K.lookup p=some o/\o.cls = .type "tuple"/\o.dict=none) \/
   (T="dict"/\((∃kvs,H p=some (.dK kvs))\/∃kvs,H p=some (.dT kvs)))\/(T="set"/\∃S n,H p=some (.set S n))
 | _=>False
theorem vT(I:Inv X pins σ H s)(r:RelV x v)(ty:Pj X.K T x H):
  s.TypeIs v T/\∀a,v = .ref a->∃ob,s.heap.get? a=some ob/\ob.dict=none:=by
 cases x with
 | str z =>
  obtain⟨t,rfl⟩:=r;cases (show T="str" from ty);exact⟨typeIs_str s z t,fun _ e=>nomatch e⟩
 | int i =>
  obtain⟨t,rfl⟩:=r;cases (show T="int" from ty);exact⟨typeIs_int s i t,fun _ e=>nomatch e⟩
 | ref p =>
  cases r
  rcases ty with ⟨rfl,xs,hq⟩ | ⟨rfl,o,hk,hc,hd⟩ | ⟨rfl,hk⟩ | ⟨rfl,S,n,hk⟩
  .obtain⟨its,_,pl,_⟩:=I.list hq;refine⟨pl.isList.typeIs,fun a e=>?_⟩;cases e;obtain⟨o,n,e,c,hd,_⟩:=pl;exact⟨o,e,hd⟩
  .refine⟨⟨o,I.gL p o hk,hc⟩,fun a e=>?_⟩;cases e;exact⟨o,I.gL _ o hk,hd⟩
  .have z:∃o,s.heap.get? p=some o/\o.ExactDict:=by
    rcases hk with ⟨kvs,hk⟩ | ⟨kvs,hk⟩
    .obtain⟨_,_,_,_,o,_,_,e,ex,_⟩:=I.cE p _ hk;exact⟨o,e,ex⟩
    .obtain⟨_,_,_,_,o,_,_,e,ex,_⟩:=I.cE p _ hk;exact⟨o,e,ex⟩
   obtain⟨o,e,ex⟩:=z;refine⟨⟨o,e,ex.1⟩,fun a e2=>?_⟩;cases e2;exact⟨o,e,ex.2.1⟩
  .obtain⟨o,_,_,_,e,ex,_⟩:=I.cE p _ hk;refine⟨⟨o,e,ex.1⟩,fun a e2=>?_⟩;cases e2;exact⟨o,e,ex.2.1⟩
 | _=>exact False.elim ty
def LM(K:qAb)(T:String)(r:V->List V->Hp->VK->Prop)(to:TE):TE:=fun σ H Q=>to σ H fun x H1=>Pj K T x H1/\r x [] H1 Q
def Pk(K:qAb)(T:String)(r:V->List V->Hp->VK->Prop)(to:TE)(t:TA):TE:=fun σ H Q=>to σ H fun x H1=>Pj K T x H1/\t σ H1 fun xs H2=>r x xs H2 Q
variable {o e:Expr}{es:List Expr}{to:TE}{t:TA}{name:Str}{apos cpos:Pos}{T id:String}{r:V->List V->Hp->VK->Prop}
theorem HF(pa:PlainAttrs T)(slot:Slot T name id)(hty:qMo (.builtin id)=pure (.type "method_descriptor"))(hm:Eb X id r)(ho:PE X o to)
  (hbase:qHa o name X.env (eval o X.env)=eval o X.env:=by rfl) (hline:(apos.endLine == cpos.line)=true:=by rfl):PE X (.Call (.Attribute o name apos) [] [] cpos) (LM X.K T r to):=by
 intro pins s σ H Q I h;refine wpAny_Call_method0_late hbase hline (bT (ho pins s σ H _ I h) fun v s1 z9=>?_);obtain⟨x,H1,I1,r1,ty,q1⟩:=z9;obtain⟨h1,h2⟩:=vT I1 r1 ty;exact⟨T,id,pa,slot,hty,h1,h2,qHs rfl (PySem.evalArgs_none (hm pins s1 σ H1 x [] v [] Q I1 r1 .nil q1))⟩
theorem dP(pa:PlainAttrs T)(slot:Slot T name id)(hty:qMo (.builtin id)=pure (.type "method_descriptor"))(hm:Eb X id r)(ho:PE X o to)(ha:PA X (e::es) t)
  (hbase:qHa o name X.env (eval o X.env)=eval o X.env:=by rfl)
  (hfew:((qFc cpos (qBl (e::es) X.env)).all (fun x=>!x.1)&&(qGz cpos (qFb [] X.env)).all (fun x=>x.1.isSome)
   && decide ((e::es).length+([]:List qMd).length+(if ([]:List qMd).isEmpty then 0 else 1)<30))=true:=by rfl)
  (hline:(apos.endLine == cpos.line)=true:=by rfl) (hs:qBl (e::es) X.env=(false,eval e X.env)::qBl es X.env:=by rfl) (hplain:(qFc cpos (qBl es X.env)).any (·.1)=false:=by rfl) :
  PE X (.Call (.Attribute o name apos) (e::es) [] cpos) (Pk X.K T r to t):=by
 intro pins s σ H Q I h;refine wpAny_Call_method_late hbase hfew hline rfl (bT (ho pins s σ H _ I h) fun v s1 z9=>?_);obtain⟨x,H1,I1,r1,ty,q1⟩:=z9;obtain⟨h1,h2⟩:=vT I1 r1 ty;exists T,id,pa,slot,hty,h1,h2;have hA:=ha cpos pins s1 σ H1 _ I1 q1;rw[hs] at hA|-;refine qHs (by show(false||(qFc cpos (qBl es X.env)).any (·.1))=false;rw[hplain] <;> rfl) (qIe ?_)
 exact bT hA (by rintro us s2 ⟨vs,H2,I2,r2,q2⟩;exact hm pins s2 σ H2 x vs v us Q I2 r1 r2 q2)
end
def Qz(X:Cx)(id:String)(r:V->List V->Hp->VK->Prop):Prop :=
 ∀(pins:List (Addr×Obj)) (s:qAj) (σ:St) (H:Hp) (x:V) (xs:List V) (v:qAh) (us:List qAh) (Q:VK),Inv X pins σ H s->RelV x v->Vals xs us->r x xs H Q ->
  qBq (qBr X.prog X.w) X.A (call (.builtin id) (v::us)) (EP X pins σ Q) X.xe s
theorem Vals.one:∀{x:V}{us:List qAh},Vals [x] us->∃u,us=[u]/\RelV x u
 | _,_,.cons r .nil=>⟨_,rfl,r⟩
theorem Vals.rep(h:Vals xs us):∀k:Nat,Vals (qBd k xs).flatten (qBd k us).flatten
 | 0=>.nil
 | k+1=>by
  rw[qEp,qEp,qFy,qFy];exact Vals.append h (Vals.rep h k)
theorem foldl_rep(its:List qAh):∀(k:Nat) (acc:List qAh),
  qMf (fun x1 x2=>x1++x2) acc.toArray (qBd k its.toArray)=(acc++(qBd k its).flatten).toArray
 | 0,acc=>by simp
 | k+1,acc=>by
  have e:acc.toArray++its.toArray=(acc++its).toArray:=by simp
  have e2:(acc++its)++(qBd k its).flatten=acc++(qBd (k+1) its).flatten:=by
   rw[qEp,qFy,qCc]
  rw[<- e2,<- foldl_rep its k (acc++its),<- e,qEp,List.foldl_cons]
section
variable {X:Cx}{pins:List (Addr×Obj)}{σ:St}{H:Hp}{s:qAj}{l b:Addr}{xs ys zs:List V}
theorem Inv.Pm{its its':List qAh}{n:Nat}{f:Array qAh->Array qAh}{t':Nat}(I:Inv X pins σ H s)(hH:H l=some (.lst xs))
  (e:s.heap.get? l=some { cls:=.type "list",data:=.seq its.toArray n }) (hf:f its.toArray=its'.toArray) (hv:Vals ys its') (hz:ys.length<=qAg) :
  Inv X pins σ (upd H l (.lst ys)) { s with heap:=s.heap.update l (Obj.mapSeq f),toks:=t' }:=by
 have q:=PySem.IsL.update e f;rw[hf] at q;refine I.write (x:=l) (e:=l) (by rw[hH];exact trivial) (.inl rfl) (fun b' u hb hu=>(qCl s.heap (Obj.mapSeq f) (Ne.symm hb)).trans hu) ⟨_,q⟩ ?_;exact⟨hz,its',_,hv,q⟩
theorem Inv.LO(I:Inv X pins σ H s)(hv:Vals ys its)(hz:ys.length<=qAg):
  Inv X pins σ (upd H s.heap.objs.size (.lst ys)) { s with heap:=s.heap.push { cls:=.type "list",data:=.seq its.toArray },toks:=t' } :=
 I.laid (fun _ _ q=>qAi _ q) (qAl _) ⟨hz,its,0,hv,qBh _ rfl⟩
theorem Inv.fresh(I:Inv X pins σ H s):H s.heap.objs.size=none:=I.cE.fresh (qAl _)
theorem Inv.LP(I:Inv X pins σ H s)(hH:H l=some (.lst xs)):xs.length<=qAg/\∃(its:List qAh) (n:Nat),Vals xs its/\xs.length=its.length/\s.heap.get? l=some { cls:=.type "list",data:=.seq its.toArray n }:=by
 obtain⟨z,its,n,r,e⟩:=I.cE l _ hH;exact⟨z,its,n,r,r.length,e⟩
theorem BF(h:n<=qAg):Builtin.List.listTooLong n=false:=by
 delta Builtin.List.listTooLong;exact decide_eq_false (by lia)
end
section
variable {X:Cx}
def rZ:V->List V->Hp->VK->Prop:=fun x vs H Q=>∃l xs y,x = .ref l/\vs=[y]/\H l=some (.lst xs)/\xs.length<qAg/\Q .non (upd H l (.lst (xs++[y])))
theorem lQ:Qz X "list.append" rZ:=by
 intro pins s σ H x vs v us Q I rx rv h;obtain⟨l,xs,y,rfl,rfl,hH,hz,q⟩:=h;cases rx;obtain⟨u,rfl,ru⟩:=rv.one;obtain⟨z,its,n,r,hl,e⟩:=I.LP hH;refine qHv F.slot_list_append ⟨_,e,rfl⟩ F.entry_list_append (F.args_list_append_2 _ _) (PySem.list_append l its.toArray n u (by rw[qBc];lia)) ⟨e,?_⟩;refine⟨.non,_,I.Pm (its':=its++[u]) hH e (by simp) (r.append (.cons ru .nil)) ?_,rfl,q⟩;rw[qAf,List.length_singleton];lia
def Pn:R2:=fun x y H Q=>∃l k xs,x = .ref l/\y = .int k/\H l=some (.lst xs)/\-(2^63)<=k/\k<2^63/\xs.length*k.toNat<=qAg /\
 ∀p,H p=none->Q (.ref p) (upd H p (.lst (qBd k.toNat xs).flatten))
theorem len_rep(xs:List α)(k:Nat):(qBd k xs).flatten.length=k*xs.length:=by
 induction k with
 | zero=>simp
 | succ k ih=>rw[qEp,qFy,qAf,ih,Nat.succ_mul,Nat.add_comm]
theorem BG:gR X (qEs .Mult) Pn:=by
 intro pins s σ H x y v u Q I rx ry h;obtain⟨l,k,xs,rfl,rfl,hH,h1,h2,hz,q⟩:=h;cases rx;obtain⟨t,rfl⟩:=ry;obtain⟨z,its,n,r,hl,e⟩:=I.LP hH;have hlen:its.toArray.size*k.toNat<=qAg:=by rw[qBc,<- hl];exact hz
 have hcap:¬its.toArray.size*k.toNat>(2^63-1)/8:=by
  have:(qAg:Nat)<=(2^63-1)/8:=by decide
  lia
 have hfit:¬(!Builtin.List.listFitsIndex k)=true:=by
  rw[fitsIndex_both h1 h2];exact qAm
 have hlong:¬Builtin.List.listTooLong (its.toArray.size*k.toNat)=true:=by
  rw[BF hlen];exact qAm
 have hnew:qMf (fun x1 x2=>x1++x2) #[] (qBd (if its.toArray.isEmpty=true then 0 else k.toNat) its.toArray)=(qBd k.toNat its).flatten.toArray:=by
  have f0:∀m:Nat,qMf (fun x1 x2=>x1++x2) #[] (qBd m its.toArray)=(qBd m its).flatten.toArray:=fun m=>by
   have:=foldl_rep its m [];rw[qEk] at this;exact this
  rw[f0];cases its with
  | nil=>simp
  | cons a r'=>rw[if_neg (by simp)]
 refine wpAny_binaryOp_repeat_ref (T:="list") (U:="int") #[1] ⟨_,e,rfl⟩ (fun s'=>typeIs_int s' k t) noFill_list_mul F.fills_int_mul F.slot_int_rmul repeat_list F.slot_int_index.lookup
  (qHv F.slot_int_rmul (typeIs_int s k t) F.entry_int_rmul (F.args_int_rmul_2 _ _) (int___rmul___int_list k t l its.toArray n)
   ⟨e,rfl,⟨_,e,rfl⟩,qHv F.slot_list_mul ⟨_,e,rfl⟩ F.entry_list_mul (F.args_list_mul_2 _ _) (AutoListH.list___mul___list_int_3 l its.toArray n k t hfit hcap hlong) ⟨e,?_⟩⟩)
 rw[hnew];exact⟨.ref _,_,I.LO (t':=s.toks) (r.rep k.toNat) (by rw[len_rep,Nat.mul_comm];exact hz),rfl,q _ I.fresh⟩
end
section
variable {prog:qBe}{w:qCj}{A:qCb}{E:qAh->qAj->Prop}{s:qAj}
set_option maxRecDepth 100000 in
end
section
variable {X:Cx}
end
end L2
namespace Att
open PySem PySem.W PySem.Calls PyProof.Rows
theorem mW:∀(ns:List Int) (vs:List qAh),WellAll P h vs (ns.map WData.int)->qJj vs ns:=by
 intro ns;induction ns with
 | nil =>
  intro vs w;rw[qEe] at w;cases w;exact .nil
 | cons n ns ih =>
  intro vs w;rw[qBo] at w;cases w with
  | cons a b =>
   cases a
   exact .cons _ _ (ih _ b)
theorem Ak{l:OpenLaw}{n:Nat}(hn:l.most=some n){P:Params}{h:Heap}{args:List WData}{vals:List qAh}
  (hpre:l.row.toRowW.claim.pre args=true) (hwl:WellAll P h vals args) :
  ∃a vs ns,vals=[Value.ref a]/\args=[WData.list (ns.map WData.int)]/\h.get? a=some { cls:=.type "list",data:=.seq vs.toArray }/\qJj vs ns/\ns.length<=n:=by
 have hsh:WShape.hasAll [] args [.list .int]=true:=(pre_splitW hpre).1;have hc:l.pre.holds [] { args:=args }=true:=(pre_splitW hpre).2;obtain⟨d,r,rfl,h1,h2⟩:=hasAllW_cons hsh;obtain rfl:=hasAllW_nil h2;obtain⟨xs,rfl,h3⟩:=hasW_list h1;obtain⟨ns,rfl⟩:=items_int h3;have hlen:ns.length<=n:=by
  delta OpenLaw.pre at hc;have h4:(WTm.not (.lt (.lit (.int (n:Int))) (.len (.arg 0)))).holds [] { args:=[.list (ns.map .int)] }=true:=by
   have h4:=(holds_andW hc).1;rw[hn] at h4;exact h4
  have h5:=condW_of h4 (w_not (w_lt w_lit (w_len_list (w_arg rfl))));rw[qAa] at h5;refine qMu fun q=>?_;have q':(n:Int)<((ns.length:Nat):Int):=by lia
  first
   | (rw[decide_eq_true q'] at h5;exact absurd h5 #[1])
   | (simp at h5;lia)
 cases hwl with
 | cons w1 w2 =>
  cases w2
  cases w1 with
  | list ho hall=>exact⟨_,_,ns,rfl,rfl,ho,mW ns _ hall,hlen⟩
theorem Al(l:OpenLaw)(args:List WData):l.row.toRowW.claim.post args (.bool true) args=true :=
 postW_of (r:=l.row.toRowW) (X:=(true == true))
  (show WShape.has [] (.bool true) .bool=true by first | rfl | decide | simp[WShape.has,WShape.arms,WShape.armsAll])
  (show(WTm.eq .res (.lit (.bool true))).value [] { args:=args,res:=some (.bool true),after:=args }=some (.bool (true == true)) from w_eq_bool (w_res rfl) w_lit) rfl
section
variable {prog:qBe}{w:qCj}{A:qCb}{E:qAh->qAj->Prop}{s:qAj}{K:Frag}
end
end Att
namespace L2
open PySem PySem.Spec PyProof.Rows
theorem qJ:∀{vs:List qAh}{ns:List Int},qJj vs ns->Vals (ns.map V.int) vs
 | _,_,.nil=>.nil
 | _,_,.cons n t h=>.cons ⟨t,rfl⟩ (qJ h)
def HG(H:Hp):Prop:=∀b,H b=none\/∃o xs,H b=some (.frz o (.lst xs))
theorem BH{P:qBe}{w:qCj}{K:qAb}{mg mb:Str->Option qAh}{CX:vE}{k:Nat}{fa a:Addr}{fd:qBy}{x:Str}{sp:Sp}{s₁:qAj}{vs:List qAh}{ns:List Int}
  (KX:K.In s₁.heap) (hns:s₁.heap.Ns qAu mg) (hb:s₁.heap.Ns builtinsNs mb) (hbb:∀x:Str,x≠"__name__"->mb x=qCn x) (hlim:s₁.heap.NoLimit) (hg:s₁.gens=#[])
  (ha:s₁.heap.get? a=some { cls:=.type "list",data:=.seq vs.toArray }) (hi:qJj vs ns) (hl:ns.length<=qAg) (hr:cY k qKz)
  (F:∀base:Heap,K.In base->base.Ns qAu mg->gM P w K mg base CX k fa fd [x] sp) (hbind:∀(s:qAj) (u:qAh),qLb s fd ⟨[u],[]⟩ [(x,u)])
  (hsp:∀H:Hp,HG H->bA K H a (ns.map V.int)->sp [.ref a] H (fun v _=>v = .bl true) fun _ _ _=>False)
  (hCX:∀H e s',CX [] H s₁ (fun _ _ _=>False) e s'->False) :
  qGk (qBr P w) qKz (.call (.ref fa) ⟨[.ref a],[]⟩) (fun r s'=>r = .ok (.ret (.bool true))/\OldK s₁.heap s'.heap/\s'.os=s₁.os/\qIy s'.gens) s₁:=by
 have rv:=qJ hi;have lenV:=hi.length;have core:∀H:Hp,HG H->bA K H a (ns.map V.int)->jX P w H s₁.heap->(∀b,H b≠none->b=a)->(H a≠none->K.lookup a=none) ->
   qGk (qBr P w) qKz (.call (.ref fa) ⟨[.ref a],[]⟩) (fun r s'=>r = .ok (.ret (.bool true))/\OldK s₁.heap s'.heap/\s'.os=s₁.os/\qIy s'.gens) s₁:=by
  intro H hO hS cE hA hK;have base_of:∀{b:Addr}{o:Obj},s₁.heap.get? b=some o->H b=none->(rQ s₁.heap H).get? b=some o:=fun e n=>Bl e n;have noA:∀{b:Addr}{o:Obj}{es:Array DictEntry}{ep:Nat},s₁.heap.get? b=some o->o.data = .dict es ep->H b=none:=fun {b o es ep} e d=>by
   cases q:H b with
   | none=>rfl
   | some u =>
    have e':b=a:=hA b (by rw[q];simp);subst e';rw[ha] at e;cases e;have d':Data.seq vs.toArray _=Data.dict es ep:=d;cases d'
  have nsK:∀{b:Addr}{m:Str->Option qAh},s₁.heap.Ns b m->(rQ s₁.heap H).Ns b m:=fun {b m} ⟨o,es,ep,e,d,r⟩=>⟨o,es,ep,base_of e (noA e d),d,r⟩;have hKb:K.In (rQ s₁.heap H):=fun b o e=>base_of (KX b o e) (by
   cases q:H b with
   | none=>rfl
   | some u =>
    have e':b=a:=hA b (by rw[q];simp);subst e';rw[hK (by rw[q];simp)] at e;cases e)
  have hM:Mod K mg (rQ s₁.heap H):=⟨hKb,nsK hns,⟨mb,nsK hb,hbb⟩,let ⟨mc,h1,h2⟩:=hlim;⟨mc,nsK h1,h2⟩⟩;have e0:pP P w K mg (rQ s₁.heap H) qKz [] s₁ H:=⟨rfl,hM,fun b o e=>Ee e,qLm (z9 _ _),trivial,fun b hb=>absurd (show b∈([]:List Addr) from hb) (by simp),cE,.of_eq hg⟩;refine qFg ((F _ hKb (nsK hns)).run qKz [] s₁ H ⟨[.ref a],[]⟩ [.ref a] [.ref a] _ _ hr e0 (hbind s₁ (.ref a)) (.cons rfl .nil) (hsp H hO hS)) fun r s' h=>?_;cases r with
  | error e=>exact(hCX H e s' h).elim
  | ok fl =>
   cases fl with
   | next=>exact False.elim h
   | brk=>exact False.elim h
   | cont=>exact False.elim h
   | ret u =>
    obtain⟨v,H',os,bare,un,hok',r',q⟩:=h;have q':v = .bl true:=q;subst q';obtain rfl:u=Value.bool true:=r';refine⟨rfl,OldK.of_keep fun b o e=>?_,os,bare⟩;cases q:H b with
    | none=>exact un.keep b o e q (by intro z;exact absurd (show b∈([]:List Addr) from z) (by simp)) (by simp)
    | some u =>
     rcases hO b with z | ⟨ob,xs,z⟩
     .rw[q] at z;cases z
     .have z2:=un.gB b ob _ z;obtain⟨e1,_⟩:=cE b _ z;obtain⟨e2,_⟩:=hok' b _ z2;rw[e] at e1;cases e1;exact e2
 cases hk:K.lookup a with
 | some o =>
  have e:=KX a o hk;rw[ha] at e;cases e;refine core (fun _=>none) (fun _=>.inl rfl) (.inr ⟨_,vs.toArray,_,hk,rfl,rfl,rfl,by rw[qBc,lenV];exact hl,by simpa using rv⟩) (fun b u z=>by have z':(none:Option HO)=some u:=z;cases z') (fun b z=>absurd rfl z) fun z=>absurd rfl z
 | none =>
  refine core (fun b=>if b=a then some (.frz { cls:=.type "list",data:=.seq vs.toArray } (.lst (ns.map V.int))) else none) (fun b=>?_) (.inl (.inr ⟨{ cls:=.type "list",data:=.seq vs.toArray },if_pos rfl⟩)) (fun b u z=>?_) (fun b z=>?_) fun _=>hk
  .by_cases hb:b=a
   .exact .inr ⟨_,_,if_pos hb⟩
   .exact .inl (if_neg hb)
  .by_cases hb:b=a
   .have z':=(if_pos hb).symm.trans z;cases z';subst hb;exact⟨ha,by rw[qAa];exact hl,vs,_,rv,ha⟩
   .have z':=(if_neg hb).symm.trans z;cases z'
  .by_cases hb:b=a
   .exact hb
   .exact absurd (if_neg hb) z
def inClass(s:Stmt)(j:Nat):Stmt:=match s with
 | .ClassDef _ _ _ body _ _ _ _ _ _ _=>body.getD j (.Pass ⟨0,0,0,0⟩)
 | _=>.Pass ⟨0,0,0,0⟩
def bW(s:Stmt):Arguments:=match s with
 | .FunctionDef _ a _ _ _ _ _ _ _ _=>a
 | _=>{ posonlyargs:=[],args:=[],vararg:=none,kwonlyargs:=[],kw_defaults:=[],kwarg:=none,defaults:=[] }
def bG(s:Stmt):List Stmt:=match s with
 | .FunctionDef _ _ b _ _ _ _ _ _ _=>b
 | _=>[]
def aF(s:Stmt):qHb:=match s with
 | .FunctionDef _ _ _ _ _ _ sc _ _ _=>sc
 | _=>{ kind:=.function,names:=[],isGenerator:=false,isCoroutine:=false }
abbrev dO:vE:=fun _ _ _ _ _ _=>False
abbrev E0:XK:=fun _ _ _=>False
theorem LQ:Passes dO X E0:=fun _ _ _ _ _ _ _ h=>h.elim
structure BI (K:qAb) (x qual:Str) (st:Stmt) (f:Addr) (fd:qBy):Prop where
 ex:∃(oc:qAh) (od:Option Addr) (kV doc pm:qAh) (an:Option Addr) (cdv ct:qAh) (osl:Array (Option qAh)),
  fd=qBu x qual (bW st) (bG st) (aF st) .none kV doc pm an cdv ct/\K.lookup f=some ⟨oc,od,.func fd,osl⟩/\qBt K cdv qual=true
 kp:qAv K (.ref f)=true
section
variable {P:qBe}{w:qCj}{K:qAb}{mg:Str->Option qAh}{base:Heap}
theorem BI.ok{x qual:Str}{st:Stmt}{f:Addr}{fd:qBy}{N ps:List Str}{k:Nat}{sp:Sp}(F:BI K x qual st f fd)(S:aN N ps (aF st))(len:∀vs H Q E,sp vs H Q E->vs.length=ps.length)
  (hbody:∀(cdv:qAh) (A:qCb) (outer:List Env) (s:qAj) (H:Hp) (vs:List V) (Q:VK) (E:XK),cY k (A.deeper (qGf qual (aF st) s.heap.objs.size f cdv))->sp vs H Q E ->
   ∃t,lI (iD dO P w K mg base N qual (aF st) f cdv A outer s H E).Kz (bG st) t/\t { nx:=fun _ H'=>Q .non H',rt:=Q } (start N vs) H):gM P w K mg base dO (k+1) f fd ps sp:=by
 obtain⟨oc,od,kV,doc,pm,an,cdv,ct,osl,rfl,lk,hcd⟩:=F.ex;refine BC lk hcd S len fun A outer s H vs Q E hr hsp=>?_;obtain⟨t,h,q⟩:=hbody cdv A outer s H vs Q E hr hsp;exact⟨t,h.Kz,q⟩
theorem BJ{x qual:Str}{st:Stmt}{f:Addr}{oc:qAh}{od an:Option Addr}{osl:Array (Option qAh)}{kV doc pm cdv ct:qAh}(l:K.lookup f=some ⟨oc,od,.func (qBu x qual (bW st) (bG st) (aF st) .none kV doc pm an cdv ct),osl⟩)
  (c:qBt K cdv qual=true) (k:qAv K (.ref f)=true):BI K x qual st f (qBu x qual (bW st) (bG st) (aF st) .none kV doc pm an cdv ct):=⟨⟨oc,od,kV,doc,pm,an,cdv,ct,osl,rfl,l,c⟩,k⟩
end
theorem Gf(hr:cY k A):A.units+1<qMq:=qBp (qIu (by decide:1<=64) _) hr.units
theorem bL(h:n<=1000):n<qAg:=qBp h #[1]
section
variable {X:Cx}
theorem pv(i:Nat){x:Str}{pos:Pos}(hN:X.N[i]?=some x:=by rfl)(hv:Lp X.env.scope x:=by first|exact Or.inl rfl | exact Or.inr cO | exact Or.inr (Or.inr rfl))(hd:(x == ("__debug__":Str))=false:=by decide)
  (hcd:(x == ("__classdict__":Str))=false:=by decide):PE X (.Name x pos) (fF i):=Hn hN hv hd hcd
end
theorem bF{A B:Prop}(h:B):if false=true then A else B:=by
 rw[if_neg qAm];exact h
theorem dC{A B:Prop}(h:A):if true=true then A else B:=by
 rw[if_pos rfl];exact h
theorem b7{c A B:Prop} [Decidable c] (h1:c->A)(h2:¬c->B):if c then A else B:=by
 by_cases h:c
 .rw[if_pos h];exact h1 h
 .rw[if_neg h];exact h2 h
theorem BK{c A B:Prop} [Decidable c] (hc:c)(h:B):if (!decide c)=true then A else B:=by
 rw[decide_eq_true hc];exact bF h
def aK(H H':Hp):Prop:=∀b o,H b=some o->H' b=some o
theorem aK.refl(H:Hp):aK H H:=fun _ _ h=>h
theorem aK.trans(a:aK H H1)(b:aK H1 H2):aK H H2:=fun c o h=>b c o (a c o h)
theorem aK.free(e:aK H H'){l:Addr}(h:H' l=qNd):H l=qNd:=by
 cases q:H l with
 | none=>rfl
 | some o =>
  rw[e l o q] at h;cases h
theorem aK.seq{K:qAb}{H H':Hp}{a:Addr}{xs:List V}(e:aK H H')(h:bA K H a xs):bA K H' a xs:=by
 rcases h with (h | ⟨o,h⟩) | h
 .exact .inl (.inl (e _ _ h))
 .exact .inl (.inr ⟨o,e _ _ h⟩)
 .exact .inr h
def qK(cells:List (Str×Addr)):List (Str×Addr)->Prop
 | []=>True
 | p::r=>cells.lookup p.1=some p.2/\qK cells r
theorem qK.of:∀{cl:List (Str×Addr)},qK cells cl->∀x c,cl.lookup x=some c->cells.lookup x=some c
 | [],_,x,c,h=>by cases h
 | (y,d)::r,hl,x,c,h=>by
  rw[List.lookup_cons] at h;cases hx:x == y with
  | true =>
   rw[hx] at h;have e:x=y:=by simpa using hx
   subst e;cases h;exact hl.1
  | false =>
   rw[hx] at h;exact qK.of hl.2 x c h
def lF(X:Cx)(NB:List Str)(sc:qHb)(cl:List (Str×Addr))(s₃:qAj)(H₃:Hp)(fp:List Addr):Cx :=
 { X with N:=NB,s₀:=s₃,H₀:=H₃,env:=compEnvC sc cl s₃.heap.objs.size X.env,outer:=X.stack,stack:=X.stack,ex:=fp,fn:=fun _=>false,pn:=[],xe:=fun _ _=>False }
structure HH (X:Cx) (NB:List Str) (pick:List (Option Nat)) (sc:qHb) (cl:List (Str×Addr)):Prop where
 EB:closureFor sc X.env=pure cl
 kind:sc.kind = .function
 r8:∀y∈sc.names,y.2≠.cell
 names:∀y∈sc.names,y.2 = .local->sc.names.lookup y.1=some .local
 sub:qK X.env.cells cl
 has:∀x,((qMy sc X.env).names.lookup x=some .cell\/(qMy sc X.env).names.lookup x=some .free)->∃c,cl.lookup x=some c
 len:pick.length=NB.length
 got:∀(j i:Nat) (x:Str),pick[j]?=some (some i)->NB[j]?=some x->X.N[i]?=some x/\(X.env.kindOf x=some .cell\/X.env.kindOf x=some .free)/\(qMy sc X.env).names.lookup x=some .cell
def hasB(cl:List (Str×Addr))(L:List (Str×qKp)):Bool:=L.all fun p=>!(p.2 == .cell||p.2 == .free)||(cl.lookup p.1).isSome
theorem EC(h:hasB cl L=true)(x:Str)(hx:L.lookup x=some .cell\/L.lookup x=some .free):∃c,cl.lookup x=some c:=by
 have get:∀k,L.lookup x=some k->(k == NameKind.cell||k == NameKind.free)=true->∃c,cl.lookup x=some c:=fun k hk hb=>by
  have z:=List.all_eq_true.mp h (x,k) (PySem.mem_of_lookup hk);dsimp only at z;rw[hb] at z;exact Option.isSome_iff_exists.mp z
 rcases hx with hx | hx
 .exact get _ hx rfl
 .exact get _ hx rfl
def vU(N:List Str)(k1 k2:List (Str×qKp)):List (Option Nat)->List Str->Bool
 | some i::p,x::r=>decide (N[i]?=some x)&&(decide (k1.lookup x=some .cell)||decide (k1.lookup x=some .free))&&decide (k2.lookup x=some .cell)&&vU N k1 k2 p r
 | none::p,_::r=>vU N k1 k2 p r
 | [],[]=>true
 | _,_=>false
theorem nY:∀{p:List (Option Nat)}{r:List Str},vU N k1 k2 p r=true->p.length=r.length
 | [],[],_=>rfl
 | [],_::_,h=>by cases h
 | none::_,[],h=>by cases h
 | some _::_,[],h=>by cases h
 | none::p,_::r,h=>congrArg Nat.succ (nY (p:=p) (r:=r) h)
 | some i::p,x::r,h=>by
  have h':(decide (N[i]?=some x)&&(decide (k1.lookup x=some .cell)||decide (k1.lookup x=some .free))&&decide (k2.lookup x=some .cell)&&vU N k1 k2 p r)=true:=h
  rw[qBb] at h';exact congrArg Nat.succ (nY h'.2)
theorem r9:∀{p:List (Option Nat)}{r:List Str},vU N k1 k2 p r=true->∀(j i:Nat) (x:Str),p[j]?=some (some i)->r[j]?=some x ->
  N[i]?=some x/\(k1.lookup x=some .cell\/k1.lookup x=some .free)/\k2.lookup x=some .cell
 | [],_,_,j,i,x,h1,_=>by simp at h1
 | none::_,[],h,_,_,_,_,_=>by cases h
 | some _::_,[],h,_,_,_,_,_=>by cases h
 | none::p,_::r,h,j,i,x,h1,h2=>by
  cases j with
  | zero=>simp at h1
  | succ j=>exact r9 (p:=p) (r:=r) h j i x (by simpa using h1) (by simpa using h2)
 | some i'::p,x'::r,h,j,i,x,h1,h2=>by
  have h':(decide (N[i']?=some x')&&(decide (k1.lookup x'=some .cell)||decide (k1.lookup x'=some .free))&&decide (k2.lookup x'=some .cell)&&vU N k1 k2 p r)=true:=h
  rw[qBb,qBb,qBb,qJy] at h';obtain⟨⟨⟨a,b⟩,c⟩,d⟩:=h';cases j with
  | zero =>
   simp at h1 h2;subst h1 h2;exact⟨of_decide_eq_true a,b.elim (fun z=>.inl (of_decide_eq_true z)) fun z=>.inr (of_decide_eq_true z),of_decide_eq_true c⟩
  | succ j=>exact r9 d j i x (by simpa using h1) (by simpa using h2)
theorem dJ(EB:closureFor sc X.env=pure cl)(sub:qK X.env.cells cl)(kind:sc.kind = .function)(r8:∀y∈sc.names,y.2≠.cell)
  (names:∀y∈sc.names,y.2 = .local->sc.names.lookup y.1=some .local) (has:hasB cl (qMy sc X.env).names=true) (got:vU X.N X.env.scope.names (qMy sc X.env).names pick NB=true):HH X NB pick sc cl :=
 ⟨EB,kind,r8,names,sub,EC has,nY got,fun j i x h1 h2=>r9 got j i x h1 h2⟩
def yA(pick:List (Option Nat))(σ:St):St:=pick.map fun o=>o.bind fun i=>(σ[i]?).join
section
variable {X:Cx}{NB:List Str}{pick:List (Option Nat)}{sc:qHb}{cl:List (Str×Addr)}{pins:List (Addr×Obj)}{σ:St}{H:Hp}{s:qAj}{fp:List Addr}
theorem HI(I:Inv X pins σ H s)(B:HH X NB pick sc cl)(hf:∀b∈fp,kH X pins H b)(hex:∀b∈fp,∃o,s.heap.get? b=some o):(lF X NB sc cl s H fp).Ok:=by
 have nfs:∀b∈fp,b∉gD X.stack:=fun b hb z=>by
  rcases List.mem_cons.mp (I.j4 b z) with e | e
  .exact(hf b hb).2.1 e
  .exact(hf b hb).2.2.1 e
 refine⟨I.ok.mod,B.kind,I.ok.glob,I.ok.blt,qAl _,fun x y c h1 h2=>?_,fun x hx=>B.has x hx,fun x c h _=>(qAm h).elim,I.ok.hd,I.ok.frames,.inl rfl,fun b hb=>⟨?_,fun x c h e=>?_⟩,I.bs,qAk I.ok.Eg I.sz,fun b o e hb=>?_,nfs,I.stack,I.jG⟩
 .exact I.ok.inj x y c (B.sub.of x c h1) (B.sub.of y c h2)
 .obtain⟨o,ho⟩:=hex b hb;exact qBi (qAt ho)
 .exact(hf b hb).2.2.2.2.1 x c (B.sub.of x c h) e
 .rcases(hf b hb).2.2.2.1 with z | z
  .exact I.ok.Bm b o e z
  .exact absurd (qAw (qAt (I.ok.bs b o e).1) z) (qDp _)
theorem qL(I:Inv X pins σ H s)(B:HH X NB pick sc cl)(hf:∀b∈fp,kH X pins H b)(hex:∀b∈fp,∃o,s.heap.get? b=some o)
  (hn:h'.Ns s.heap.objs.size (fun _=>none)) (hs:∀b o,s.heap.get? b=some o->h'.get? b=some o) (t:Nat):Inv (lF X NB sc cl s H fp) [] (yA pick σ) H { s with heap:=h',toks:=t }:=by
 exists HI I B hf hex,rfl,I.bare,Un.kept hs,⟨_,hn,fun j x v h1 h2 h3=>?_⟩,fun x c e=>?_,I.cE.fresh (qAl _),fun x c e=>I.gE x c (B.sub.of x c e),fun p hp=>absurd (show p∈([]:List (Addr×Obj)) from hp) (by simp),I.cE.kept hs
 .have h2':(pick.map fun o=>o.bind fun i=>(σ[i]?).join)[j]?=some (some v):=h2;rw[qAs] at h2';cases hp:pick[j]? with
  | none=>rw[hp] at h2';cases h2'
  | some o =>
   rw[hp] at h2';cases o with
   | none=>cases h2'
   | some i =>
    have h2'':(σ[i]?).join=some v:=Option.some.inj h2';obtain⟨g1,g2,g3⟩:=B.got j i x hp h1;have hσ:σ[i]?=some (some v):=by
     cases hq:σ[i]? with
     | none=>rw[hq] at h2'';cases h2''
     | some z=>rw[hq] at h2'';have e:z=some v:=h2'';rw[e]
    obtain⟨m,_,hl⟩:=I.loc;obtain⟨u,r,L⟩:=hl i x v g1 hσ (.inr g2);exists u,r;rcases L with ⟨k,_⟩ | ⟨_,c,hc,⟨o,ho,hd⟩⟩
    .rcases g2 with g2 | g2 <;> rw[k] at g2 <;> cases g2
    .obtain⟨c',hc'⟩:=B.has x (.inl g3);have e:c'=c:=Option.some.inj ((B.sub.of x c' hc').symm.trans hc);subst e;exact .inr ⟨.inl g3,c',hc',o,hs _ _ ho,hd⟩
 .obtain⟨v,o,ho,hd⟩:=I.cell x c (B.sub.of x c e);exact⟨v,o,hs _ _ ho,hd⟩
 .show(yA pick σ).length=NB.length;delta yA;rw[qAa];exact B.len
theorem sA(I:Inv X pins σ H s)(hf:∀b∈fp,kH X pins H b)(J:Inv (lF X NB sc cl s H fp) [] σ' H' s'):Inv X pins σ H' s':=by
 refine I.call' (ch:=fp) J.os J.base J.cE J.bare fun b hb=>?_;obtain⟨_,f1,_,f3,f4,f5⟩:=hf b hb;exact⟨f3,f1,f4,f5⟩
end
def yB(wi:TI)(pick:List (Option Nat))(g:TG)(c:TT)(te:TE):St->Hp->(Addr->Hp->Prop)->Prop:=fun σ H Q =>
 wi σ H fun J H1=>∀D,H1 D=none->∃W:Nat->Nat->St->Hp->Prop,(∃m,W 0 m (yA pick σ) (upd H1 D (.lst [])))/\∀i m σ1 H2,W i m σ1 H2 ->
  (J.stop i H2/\Q D H2)\/(J.go i H2/\∃N:St->Hp->Prop,(∀σ' H',N σ' H'->∃m',m'<m/\W (i+1) m' σ' H') /\
   ∀x H',J.vF i H2 x H'->g x σ1 H' fun σ2 H3=>c σ2 H3 fun b H4=>if b=true then te σ2 H4 fun y H5=>∃xs,H5 D=some (.lst xs)/\xs.length<qAg/\N σ2 (upd H5 D (.lst (xs++[y]))) else N σ2 H4)
section
variable {prog:qBe}{w:qCj}{A:qCb}{R:qNl->qAj->Prop}{s:qAj}
theorem sC(W:Nat->qAj->Prop)
  (turn:∀n s,W n s->qBq (qBr prog w) A (pyNext it) (fun r s₁=>match r with
   | none=>R (.ok .next) s₁
   | some v=>qBq (qBr prog w) A (qHh target it v) (fun _ s₀=>qBq (qBr prog w) A (qLa target env v) (fun _ s₂ =>
     qBq (qBr prog w) A (forIn ifs true fun c r=>if r=true then do let ok <- qNj c env (eval c env);pure (ForInStep.yield ok) else pure (ForInStep.yield r)) (fun ok s₃ =>
      if ok=true then qBq (qBr prog w) A (eval elt env) (fun x s₄ =>
       qBq (qBr prog w) A (call (.builtin "list.append") [acc,x]) (fun _ s₅=>∃m,m<n/\W m s₅) (fun _ _=>False) s₄) (fun _ _=>False) s₃
      else ∃m,m<n/\W m s₃) (fun _ _=>False) s₂) (fun _ _=>False) s₀) (fun _ _=>False) s₁) (fun _ _=>False) s)
  (n:Nat) (h:W n s) :
  qGk (qBr prog w) A (.compLoop (.ListComp elt [⟨target,iter,ifs,0⟩] scope pos) 0 it acc env) R s:=by
 refine codeAny_loop rfl W (fun n s hI=>?_) n h;show qBq _ A ((compTurn (.ListComp elt [⟨target,iter,ifs,0⟩] scope pos) 0 it acc env).onRaise (fun x=>do qGq x env;theTreesLotGoes x)) _ _ s;refine wpAny_noted (wpAny_noRaise ?_);rw[compTurn_list];refine qAc (qEz (qAc (bT (turn n s hI) fun r s₁ h₁=>?_)));cases r with
 | none=>exact qAo h₁
 | some v =>
  refine qAc (bT h₁ fun _ s₀ h₀=>qAc (bT h₀ fun _ s₂ h₂=>qAc (bT h₂ fun ok s₃ h₃=>?_)));cases ok with
  | false=>exact qAo ⟨rfl,h₃⟩
  | true=>exact qAc (qAc (bT h₃ fun x s₄ h₄=>qAc (bT h₄ fun _ s₅ h₅=>qAo (qAo ⟨rfl,h₅⟩))))
end
def vV(X:Cx)(ifs:List Expr)(c:TT):Prop :=
 ∀(pins:List (Addr×Obj)) (s:qAj) (σ:St) (H:Hp) (Q:Bool->Hp->Prop),Inv X pins σ H s->c σ H Q ->
  qBq (qBr X.prog X.w) X.A (forIn ifs true fun c r=>if r=true then do let ok <- qNj c X.env (eval c X.env);pure (ForInStep.yield ok) else pure (ForInStep.yield r)) (TP X pins σ Q) X.xe s
def LR:TT:=fun _ H Q=>Q true H
theorem cV:vV X [] LR:=fun pins s σ H Q I h=>qAo ⟨H,I,h⟩
theorem ED(hc:PT X e c):vV X [e] c:=fun pins s σ H Q I h=>wpAny_tests_one (hc pins s σ H Q I h)
section
variable {X:Cx}{NB:List Str}{pick:List (Option Nat)}{sc:qHb}{cl:List (Str×Addr)}{elt target iter:Expr}{ifs:List Expr}{pos:Pos}{wi:TI}{g:TG}{c:TT}{te:TE}
theorem tV(B:HH X NB pick sc cl)(hc:X.calm=true)(hi:PI X target iter wi)
  (hg:∀s₃ H₃ fp,PG (lF X NB sc cl s₃ H₃ fp) target g) (ht:∀s₃ H₃ fp,vV (lF X NB sc cl s₃ H₃ fp) ifs c) (he:∀s₃ H₃ fp,PE (lF X NB sc cl s₃ H₃ fp) elt te)
  (hs:∀x,qGj iter X.env x=pure x) (I:Inv X pins σ H s) (h:yB wi pick g c te σ H Q)
  (fin:∀(D C:Addr) (s':qAj) (H':Hp),Inv X pins σ H' s'->Q D H'->H' C=none->C≠X.env.locals->X.s₀.heap.objs.size<=C->(∀x a,X.env.cells.lookup x=some a->a≠C)->(∀p∈X.pn++pins,p.1≠C)->(∃m,s'.heap.Ns C m) ->
   compPost (qBr X.prog X.w) X.A X.xe use QV (.ref D) C (.ok .next) s') :
  qBq (qBr X.prog X.w) X.A (comprehension (.ListComp elt [⟨target,iter,ifs,0⟩] sc pos) sc X.env (firstIterPos [⟨target,iter,ifs,0⟩] pos) (newList []) false (eval iter X.env) use) QV X.xe s:=by
 refine wpAny_comprehension_free rfl hs B.EB B.kind B.names (bT (hi pins s σ H _ I h) fun v s1 h1=>bT h1 fun itv s2 h2=>?_);obtain⟨it,fp,tn,J,H2,e,I2,T,st2,f2,h2⟩:=h2;subst e;refine qFi ?_;have I3:Inv X pins σ (upd H2 s2.heap.objs.size (.lst [])) { s2 with heap:=s2.heap.push { cls:=.type "list",dict:=none,data:=.seq ([]:List qAh).toArray } } :=
  I2.laid (t':=s2.toks) (fun b u e=>qAi _ e) (qAl _) ⟨qBn _,[],0,.nil,qBh _ rfl⟩
 have hf:H2 s2.heap.objs.size=none:=I2.cE.fresh (qAl _);have lt:∀b∈fp,b≠s2.heap.objs.size:=fun b hb=>by
  obtain⟨o,ho,_⟩:=T.obj _ _ st2 b hb;exact qBi (qAt ho)
 have f3:∀b∈fp,kH X pins (upd H2 s2.heap.objs.size (.lst [])) b:=fun b hb=>⟨by rw[aM (lt b hb)];exact(f2 b hb).1,(f2 b hb).2⟩;generalize hs3:({ s2 with heap:=s2.heap.push { cls:=.type "list",dict:=none,data:=.seq ([]:List qAh).toArray } }:qAj)=s3 at I3|-;have kp3:∀b o,s2.heap.get? b=some o->s3.heap.get? b=some o:=fun b o e=>by
  rw[<- hs3];exact qAi _ e
 have hex:∀b∈fp,∃o,s3.heap.get? b=some o:=fun b hb=>by
  obtain⟨o,ho,_⟩:=T.obj _ _ st2 b hb;exact⟨o,kp3 b o ho⟩
 have st3:tn 0 s3.heap:=T.keep _ _ _ st2 fun b _ o e=>kp3 b o e;obtain⟨W,⟨m0,w0⟩,turn⟩:=h2 _ hf;refine wpAny_newFunctionEnv B.r8 (by intro y hy;simp at hy) (fun h₁ hns₁ hsb₁=>?_) B.kind;have kp4:∀b o,s3.heap.get? b=some o->h₁.get? b=some o:=fun b o e=>(hsb₁.2 b (qBi (qAt e))).trans (qAi _ e);have J4:=qL I3 B f3 hex hns₁ kp4 (s3.toks+([]:List (Str×qAh)).length);have st4:tn 0 h₁:=T.keep _ _ _ st3 fun b _ o e=>kp4 b o e;have stat:∀{H':Hp},(∀b∈fp,H' b=none)->∀b∈fp,kH (lF X NB sc cl s3 (upd H2 s2.heap.objs.size (.lst [])) fp) [] H' b:=fun {H'} hn b hb=>by
  obtain⟨o,ho⟩:=hex b hb;refine⟨hn b hb,qBi (qAt ho),fun z=>?_,.inl hb,fun x a e=>(f2 b hb).2.2.2.2.1 x a (B.sub.of x a e),fun p hp=>absurd (show p∈([]:List (Addr×Obj)) from hp) (by simp)⟩;rcases List.mem_cons.mp (I2.j4 b z) with e | e
  .exact(f2 b hb).2.1 e
  .exact(f2 b hb).2.2.1 e
 have loop:qGk (qBr X.prog X.w) X.A (.compLoop (.ListComp elt [⟨target,iter,ifs,0⟩] sc pos) 0 (.ref it) (.ref s2.heap.objs.size) (lF X NB sc cl s3 (upd H2 s2.heap.objs.size (.lst [])) fp).env)
   (compPost (qBr X.prog X.w) X.A X.xe use QV (.ref s2.heap.objs.size) s3.heap.objs.size) { s3 with heap:=h₁,toks:=s3.toks+([]:List (Str×qAh)).length }:=by
  refine sC (fun n s'=>∃i σ' H',Inv (lF X NB sc cl s3 (upd H2 s2.heap.objs.size (.lst [])) fp) [] σ' H' s'/\tn i s'.heap/\(∀b∈fp,H' b=none)/\W i n σ' H') ?_ m0 ⟨0,_,_,J4,st4,fun b hb=>(f3 b hb).1,w0⟩;rintro n s5 ⟨i,σ5,H5,I5,st5,fr5,w5⟩;rcases turn i n σ5 H5 w5 with ⟨stop,qn⟩ | ⟨go,N,hN,step⟩
  .refine bT (T.done (lF X NB sc cl s3 (upd H2 s2.heap.objs.size (.lst [])) fp) rfl rfl rfl hc i [] s5 σ5 H5 _ I5 (stat fr5) st5 stop) fun r s6 z9=>?_;obtain⟨hr,I6⟩:=z9;subst hr;refine fin s2.heap.objs.size s3.heap.objs.size s6 H5 (sA I3 f3 I6) qn I6.free (qBi I3.lt).symm I3.sz (fun x a e=>?_) (fun p hp=>?_) ?_
   .obtain⟨v,o,ho,_⟩:=I3.cell x a e;exact qBi (qAt ho)
   .exact qBi (qAt (I3.pin p hp).1)
   .obtain⟨m,hn,_⟩:=I6.loc;exact⟨m,hn⟩
  .refine bT (T.item (lF X NB sc cl s3 (upd H2 s2.heap.objs.size (.lst [])) fp) rfl rfl rfl hc i [] s5 σ5 H5 _ I5 (stat fr5) st5 go) fun r s6 z9=>?_;obtain⟨u,hr,h6⟩:=z9;subst hr;refine bT h6 fun _ s7 z9=>?_;obtain⟨x,H7,I7,r7,y7,st7,fr7⟩:=z9;have I7':=I7.pinned (stat fr7) (T.obj _ _ st7);have qNc:∀{s9:qAj}{σ9:St}{H9:Hp},Inv (lF X NB sc cl s3 (upd H2 s2.heap.objs.size (.lst [])) fp) ([]++lM fp s7.heap) σ9 H9 s9->N σ9 H9 ->
     ∃m,m<n/\∃i σ' H',Inv (lF X NB sc cl s3 (upd H2 s2.heap.objs.size (.lst [])) fp) [] σ' H' s9/\tn i s9.heap/\(∀b∈fp,H' b=none)/\W i m σ' H':=fun {s9 σ9 H9} I9 n9=>by
    obtain⟨m',hm,w9⟩:=hN σ9 H9 n9;refine⟨m',hm,i+1,σ9,H9,I9.jA,T.keep _ _ _ st7 fun b hb o e=>(I9.pin (b,o) (qAx _ (qAx _ (eZ hb e)))).1,fun b hb=>?_,w9⟩;obtain⟨o,e,d⟩:=T.obj _ _ st7 b hb;exact(I9.pin (b,o) (qAx _ (qAx _ (eZ hb e)))).2.1
   refine bT (hg _ _ _ _ s7 σ5 H7 x u _ I7' r7 (step x H7 y7)) fun _ s8 z9=>?_;obtain⟨σ8,H8,I8,q8⟩:=z9;refine bT (ht _ _ _ _ s8 σ8 H8 _ I8 q8) fun b s9 z9=>?_;obtain⟨H9,I9,q9⟩:=z9;cases b with
   | false =>
    rw[if_neg qAm];exact qNc I9 (by rw[if_neg qAm] at q9;exact q9)
   | true =>
    rw[if_pos rfl] at q9|-;refine bT (he _ _ _ _ s9 σ8 H9 _ I9 q9) fun y s10 z9=>?_;obtain⟨vy,H10,I10,r10,xs,hD,hl,q10⟩:=z9;refine bT (lQ _ s10 σ8 H10 (.ref s2.heap.objs.size) [vy] (.ref s2.heap.objs.size) [y] (fun _ H'=>N σ8 H') I10 rfl (.cons r10 .nil) ⟨_,xs,vy,rfl,rfl,hD,hl,q10⟩) fun _ s11 z9=>?_;obtain⟨_,H11,I11,_,q11⟩:=z9;exact qNc I11 q11
 refine codeAny_compStart_list loop (T.self _ 0 _ _ _ st4 loop)
theorem dX(B:HH X NB pick sc cl)(hc:X.calm=true)(hi:PI X target iter wi)
  (hg:∀s₃ H₃ fp,PG (lF X NB sc cl s₃ H₃ fp) target g) (ht:∀s₃ H₃ fp,vV (lF X NB sc cl s₃ H₃ fp) ifs c) (he:∀s₃ H₃ fp,PE (lF X NB sc cl s₃ H₃ fp) elt te)
  (hs:∀x,qGj iter X.env x=pure x:=by intro _;rfl):PE X (.ListComp elt [⟨target,iter,ifs,0⟩] sc pos) (fun σ H Q=>yB wi pick g c te σ H fun D H'=>Q (.ref D) H'):=by
 intro pins s σ H Q I h;rw[eval_ListComp];refine tV (use:=none) (QV:=EP X pins σ Q) B hc hi hg ht he hs I h fun D C s' H' I' q c0 c1 c2 c3 c4 hn=>?_;obtain⟨m,hm⟩:=hn;exact⟨m,hm,fun hh hsb=>⟨.ref D,H',I'.turned (t':=s'.toks) (fun b o hb e=>(hsb.2 b hb).trans e) c0 c1 (.inr c2) c3 c4,rfl,q⟩⟩
theorem sD(hN:X.N.Nodup)(hx1:X.N[i]?=some x)(hx2:Loc X.env.scope x)
  (hsw:qJq (.ListComp elt [⟨target,iter,ifs,0⟩] sc pos) (some (.Name x pos')) spos.line X.env=pure true) (B:HH X NB pick sc cl) (hc:X.calm=true) (hi:PI X target iter wi)
  (hg:∀s₃ H₃ fp,PG (lF X NB sc cl s₃ H₃ fp) target g) (ht:∀s₃ H₃ fp,vV (lF X NB sc cl s₃ H₃ fp) ifs c) (he:∀s₃ H₃ fp,PE (lF X NB sc cl s₃ H₃ fp) elt te)
  (hs:∀x,qGj iter X.env x=pure x:=by intro _;rfl) (hfn:X.fn x=true\/X.env.scope.names.lookup x=some .local:=by first|exact .inl rfl | exact .inr rfl | assumption) :
  PS X (.Assign [.Name x pos'] (.ListComp elt [⟨target,iter,ifs,0⟩] sc pos) spos) (fun D σ H=>yB wi pick g c te σ H fun l H'=>D.nx (σ.set i (some (.ref l))) H'):=by
 intro pins s σ H D I h;rw[exec_Assign_Name_used _ _ _ _ hsw];refine qAc (qEz (qAc ?_));show qBq _ _ (do let _ <- comprehension (.ListComp elt [⟨target,iter,ifs,0⟩] sc pos) sc X.env _ (newList []) false (eval iter X.env) (some (qLa (.Name x pos') X.env))) _ _ s;refine qAc (bT (tV (use:=some (qLa (.Name x pos') X.env)) (QV:=fun _ s'=>SP X pins D .next s') B hc hi hg ht he hs I h fun l C s' H' I' q c0 c1 c2 c3 c4 hn=>?_) fun _ s' hq=>qAo (qAo hq));obtain⟨m,hm⟩:=hn;show qBq _ _ (qLa (.Name x pos') X.env (.ref l)) _ _ _;refine wpAny_assign_Name (p9 (v:=.ref l) I' hN hx1 hx2 rfl (fun s'' I'' z9=>?_) hfn);obtain⟨a,hsb,ha⟩:=z9;have ne:C≠a:=by
  rcases ha with e | e
  .rw[e];exact c1
  .exact(c3 x a e).symm
 refine⟨m,hm.sameBut hsb ne,fun hh hsb2=>?_⟩;exact⟨_,H',I''.turned (t':=s''.toks) (fun b o hb e=>(hsb2.2 b hb).trans e) c0 c1 (.inr c2) c3 c4,q⟩
end
def pR(o:Obj):Option qAh:=match o.data with
 | .fields vs=>vs[2]?
 | _=>none
def DK(h h':Heap):Prop:=∀b o,h.get? b=some o->∃o',h'.get? b=some o'/\o'.dict=o.dict/\pR o'=pR o
theorem DK.refl(h:Heap):DK h h:=fun b o e=>⟨o,e,rfl,rfl⟩
theorem DK.trans{a b c:Heap}(x:DK a b)(y:DK b c):DK a c:=fun p o e=>by
 obtain⟨o1,e1,d1,c1⟩:=x p o e;obtain⟨o2,e2,d2,c2⟩:=y p o1 e1;exact⟨o2,e2,d2.trans d1,c2.trans c1⟩
theorem DK.keeps{h h':Heap}(k:∀b o,h.get? b=some o->h'.get? b=some o):DK h h':=fun b o e=>⟨o,k b o e,rfl,rfl⟩
theorem DK.upd{h:Heap}{a:Addr}{f:Obj->Obj}(k:∀o,(f o).dict=o.dict/\pR (f o)=pR o/\(f o).isFreed=o.isFreed):DK h (h.update a f):=fun b o e=>by
 by_cases hb:a=b
 .subst hb;exact⟨f o,qDg f e ((k o).2.2.trans (Heap.get?_some_iff.mp e).2),(k o).1,(k o).2.1⟩
 .exact⟨o,(qCl h f hb).trans e,rfl,rfl⟩
def KD{α:Type}(t:Sem α):Prop:=∀(M:qLo) (Γ:PySem.Ctx) (Q:α->Pos->qAj->Prop) (E:qAh->Pos->qAj->Prop) (p:Pos) (s:qAj),Sem.wp M Γ t Q E p s ->
 Sem.wp M Γ t (fun a p' s'=>Q a p' s'/\DK s.heap s'.heap) (fun e p' s'=>E e p' s'/\DK s.heap s'.heap) p s
theorem KD.pure{α:Type}(a:α):KD (Pure.pure a:Sem α):=fun M Γ Q E p s h=>by
 rw[Sem.wp_pure'] at h|-;exact⟨h,.refl _⟩
theorem KD.bind{α β:Type}{m:Sem α}{f:α->Sem β}(x:KD m)(y:∀a,KD (f a)):KD (m >>= f):=fun M Γ Q E p s h=>by
 rw[Sem.wp_bind'] at h|-;refine Sem.wp_mono M Γ m (fun a p1 s1 z9=>?_) (fun e p1 s1 z=>z) p s (x M Γ _ _ p s h);obtain⟨q,d⟩:=z9;exact Sem.wp_mono M Γ (f a) (by rintro b p2 s2 ⟨q2,d2⟩;exact ⟨q2,d.trans d2⟩) (by rintro e p2 s2 ⟨q2,d2⟩;exact ⟨q2,d.trans d2⟩) p1 s1 (y a M Γ _ _ p1 s1 q)
theorem KD.un{α:Type}(w:String):KD (unsupported w:Sem α):=fun M Γ Q E p s h=>False.elim h
theorem KD.ite{α:Type}{c:Prop} [Decidable c] {a b:Sem α}(x:KD a)(y:KD b):KD (if c then a else b):=by
 split
 .exact x
 .exact y
theorem KD.stack:KD PySem.stack:=fun M Γ Q E p s h=>⟨h,.refl _⟩
theorem KD.load(a:Addr):KD (PySem.load a):=fun M Γ Q E p s h=>by
 obtain⟨o,ho,h⟩:=h;exact⟨o,ho,h,.refl _⟩
theorem KD.update(a:Addr){f:Obj->Obj}(k:∀o,(f o).dict=o.dict/\pR (f o)=pR o/\(f o).isFreed=o.isFreed):KD (PySem.update a f):=fun M Γ Q E p s h=>by
 obtain⟨ho,h⟩:=h;exact⟨ho,h,.upd k⟩
theorem KD.fieldsOf(v:qAh):KD (PySem.fieldsOf v):=by
 delta PySem.fieldsOf;split
 .refine(KD.load _).bind fun o=>?_;split
  .exact .pure _
  .exact .un _
 .exact .un _
theorem KD.field(v:qAh)(i:Nat):KD (PySem.field v i):=by
 delta PySem.field;refine(KD.fieldsOf v).bind fun o=>?_;split
 .exact .pure _
 .exact .un _
theorem BL(i:Nat)(hi:i≠2)(x:qAh)(o:Obj):(Obj.mapFields (·.setIfInBounds i x) o).dict=o.dict/\pR (Obj.mapFields (·.setIfInBounds i x) o)=pR o/\(Obj.mapFields (·.setIfInBounds i x) o).isFreed=o.isFreed:=by
 obtain⟨c,d,dt,sl⟩:=o;cases dt <;> first | exact⟨rfl,rfl,rfl⟩ | skip
 rename_i vs;refine⟨rfl,?_,rfl⟩;show(vs.setIfInBounds i x)[2]?=vs[2]?;exact Array.getElem?_setIfInBounds_ne hi
theorem KD.setField(v:qAh)(i:Nat)(hi:i≠2)(x:qAh):KD (PySem.setField v i x):=by
 delta PySem.setField;split
 .delta updateField;refine(KD.load _).bind fun o=>?_;split
  .refine .ite (.update _ (BL i hi x)) (.un _)
  .exact .un _
 .exact .un _
theorem KD.alloc(o:Obj):KD (PySem.alloc o):=fun M Γ Q E p s h=>⟨h,.keeps fun b u e=>qAi _ e⟩
theorem KD.setFlight(v:qAh)(f:Option Addr):KD (PySem.setFlight v f):=by
 delta PySem.setFlight;refine(KD.field _ _).bind fun tb=>.ite (.setField _ _ #[1] _) (.pure _)
theorem KD.ready:∀l:List Env,KD (readyFrames l)
 | []=>.pure _
 | env::outer=>by
  unfold readyFrames;split
  .rename_i f _;refine(KD.load f).bind fun o=>.ite (.pure _) ?_;refine KD.bind ?_ fun i=>KD.bind ?_ fun b=>(KD.update f ?_).bind fun _=>KD.ready outer
   .unfold behindIsImport;refine .ite (.pure _) (.ite (.pure _) ((KD.field _ _).bind fun _=>.pure _))
   .unfold keptBack;split
    .refine .ite (.pure _) (KD.bind ?_ fun _=>.pure _);unfold underTheClaimsCaller;exact KD.stack.bind fun _=>.pure _
    .exact .pure _
   .intro o;obtain⟨c,d,dt,sl⟩:=o;cases dt <;> exact⟨rfl,rfl,rfl⟩
  .exact .un _
theorem KD.frameOf(env:Env):KD (PySem.frameOf env):=by
 delta PySem.frameOf;refine KD.bind ?_ fun l=>KD.bind ?_ fun r=>?_
 .delta frameEnvs;exact KD.stack.bind fun _=>.pure _
 .delta frameObject;split
  .exact .pure _
  .exact(KD.ready _).bind fun _=>.pure _
 .split
  .exact .pure _
  .exact .un _
theorem KD.place(f:Addr)(b:Bool):KD (entryPlaceOf f b):=by
 delta entryPlaceOf;refine KD.stack.bind fun _=>?_;split
 .exact .pure _
 .exact .pure _
theorem KD.entry(a b c d e:qAh)(l:List qAh):KD (EntryCells.newEntry a b c d e l):=by
 delta EntryCells.newEntry newFields newObj;dsimp only;have k:∀o:Data,KD (newObjAsIs (.type "traceback") o):=fun o=>by
  delta newObjAsIs;exact(KD.alloc _).bind fun _=>.pure _
 generalize ([a,b,c,d,e]++if l.isEmpty=true then qBd 6 Value.none else l)=r;split
 .exact(KD.un _).bind fun _=>k _
 .exact k _
theorem KD.put(e hd:qAh)(env:Env)(f:Addr)(b:Bool):KD (do PySem.setField e 1 (<- EntryCells.newEntry hd (<- PySem.frameOf env) .none (qKw f) .none (<- entryPlaceOf f b))) :=
 (KD.frameOf _).bind fun _=>(KD.place _ _).bind fun _=>(KD.entry _ _ _ _ _ _).bind fun _=>.setField _ _ #[1] _
theorem KD.note(e:qAh)(env:Env):KD (qGq e env):=by
 delta qGq;cases env.frame with
 | none=>exact .un _
 | some f =>
  refine(KD.field _ _).bind fun hd=>?_;split
  .refine(KD.field _ _).bind fun _=>?_;split
   .exact .pure _
   .exact(KD.setField _ _ #[1] _).bind fun _=>KD.put e hd env f _
  .exact KD.put e hd env f _
theorem KD.leaving(e:qAh)(env:Env):KD (PySem.leaving env e):=by
 delta PySem.leaving;exact(KD.note _ _).bind fun _=>.setFlight _ _
section
variable {α:Type}{M:qLo}{A:qCb}{E:qAh->qAj->Prop}{s:qAj}{t:Sem α}{Q:α->qAj->Prop}
theorem KD.any(k:KD t)(h:qBq M A t Q E s):qBq M A t (fun a s'=>Q a s'/\DK s.heap s'.heap) (fun e s'=>E e s'/\DK s.heap s'.heap) s :=
 fun Γ p hΓ=>k M Γ _ _ p s (h Γ p hΓ)
end
theorem cM.there(x:cM P w H h a o):∃ob,h.get? a=some ob:=by
 induction o with
 | lst xs=>obtain⟨_,_,_,_,e⟩:=x;exact⟨_,e⟩
 | tup xs=>obtain⟨_,_,_,ob,e,_⟩:=x;exact⟨ob,e⟩
 | dK kvs=>obtain⟨_,_,_,_,ob,_,_,e,_⟩:=x;exact⟨ob,e⟩
 | dT kvs=>obtain⟨_,_,_,_,ob,_,_,e,_⟩:=x;exact⟨ob,e⟩
 | set S n=>obtain⟨ob,_,_,_,e,_⟩:=x;exact⟨ob,e⟩
 | ins C dx fs=>obtain⟨_,_,_,e,_⟩:=x;exact⟨_,e⟩
 | own y=>exact x
 | xd fs=>obtain⟨_,⟨ob,_,_,e,_⟩,_⟩:=x;exact⟨ob,e⟩
 | rng lo hi=>obtain⟨_,_,_,e⟩:=x;exact⟨_,e⟩
 | frz ob u ih=>exact⟨ob,x.1⟩
 | tbl ps=>exact⟨_,x⟩
 | met f y=>exact⟨_,x⟩
 | ext φ=>exact x.2.1
structure gT (P:qBe) (w:qCj) (outer:List Env) (H:Hp) (s:qAj) (e C:Addr) (H':Hp) (s':qAj):Prop where
 os:s'.os=s.os
 bare:qIy s'.gens
 ex:∃(a0:qAh) (B:Heap),qDk B outer e (.ref C) a0 s'.heap/\jX P w H' B/\(∀b o,s.heap.get? b=some o->b∉gD outer->∃o',B.get? b=some o') /\
  ∀b o,s.heap.get? b=some o->H b=none->b∉gD outer->B.get? b=some o
 slot:∀b o,s.heap.get? b=some o->H b=none->b∈gD outer->∃sl,s'.heap.get? b=some { o with slots:=sl }
 free:∀b o,s.heap.get? b=some o->H b=none->H' b=none
 dU:∀b xs,H b=some (.tup xs)->H' b=some (.tup xs)
 gB:∀b o u,H b=some (.frz o u)->H' b=some (.frz o u)
 gJ:∀b ps,H b=some (.tbl ps)->∃more,H' b=some (.tbl (ps++more))
def CN(h:Heap)(e:Addr):Prop:=∃oe,h.get? e=some oe/\pR oe=some .none
theorem CN.dk{h h':Heap}{e:Addr}(x:CN h e)(d:DK h h'):CN h' e:=by
 obtain⟨oe,he,hc⟩:=x;obtain⟨o',h1,_,h2⟩:=d e oe he;exact⟨o',h1,h2.trans hc⟩
def gA(P:qBe)(w:qCj):vE:=fun outer H s E ev s'=>∃(e C:Addr) (H':Hp),ev = .ref e/\gT P w outer H s e C H' s'/\CN s'.heap e/\E (.ref C) none H'
section
variable {X:Cx}{pins:List (Addr×Obj)}{σ:St}{H H':Hp}{s s':qAj}{e C:Addr}
theorem gT.un(F:gT X.prog X.w X.stack H s e C H' s')(I:Inv X pins σ H s):Un (gD X.stack) [] H H' s.heap s'.heap:=by
 obtain⟨a0,B,fl,cE,th,kp⟩:=F.ex;refine⟨fun b o q n h1 _=>fl.1 b o (kp b o q n h1),fun b o q n h1 _=>F.slot b o q n h1,fun b o q n _=>F.free b o q n,fun b o q _=>?_,F.dU,F.gB,F.gJ⟩;by_cases hb:b∈gD X.stack
 .obtain⟨sl,z⟩:=F.slot b o q (I.jG b hb) hb;exact⟨_,z⟩
 .obtain⟨o',z⟩:=th b o q hb;exact⟨o',fl.1 b o' z⟩
theorem gT.cE(F:gT P w outer H s e C H' s'):jX P w H' s'.heap:=by
 obtain⟨a0,B,fl,cE,_⟩:=F.ex;exact cE.kept fl.1
theorem gT.inv(F:gT X.prog X.w X.stack H s e C H' s')(I:Inv X pins σ H s):Inv X pins σ H' s' :=
 I.call' (ch:=[]) F.os (F.un I) F.cE F.bare fun b hb=>absurd hb (by simp)
theorem gT.new(F:gT P w outer H s e C H' s'):s.heap.get? e=none:=by
 obtain⟨a0,B,⟨f1,f2,f3,oe,vs,T,oT,ts,he,hc,hd,_⟩,cE,th,_⟩:=F.ex;cases q:s.heap.get? e with
 | none=>rfl
 | some o =>
  by_cases hb:e∈gD outer
  .obtain⟨_,o',ho',hnf⟩:=f3.mem hb;rw[he] at ho';cases ho';exact absurd hd (hnf vs)
  .obtain⟨o',z⟩:=th e o q hb;rw[f2] at z;cases z
theorem gT.qM(F:gT P w outer H s e C H' s'):H' e=none:=by
 obtain⟨a0,B,⟨f1,f2,_⟩,cE,_⟩:=F.ex;cases q:H' e with
 | none=>rfl
 | some o =>
  obtain⟨ob,z⟩:=(cE e o q).there;rw[f2] at z;cases z
theorem gT.obj(F:gT P w outer H s e C H' s'):∃oe vs,s'.heap.get? e=some oe/\oe.cls = .ref C/\oe.data = .fields vs:=by
 obtain⟨a0,B,⟨f1,f2,f3,oe,vs,T,oT,ts,he,hc,hd,_⟩,_⟩:=F.ex;exact⟨oe,vs,he,hc.1,hd⟩
theorem gT.go(F:gT P w outer H s e C H' s')(k:∀a0 B,qDk B outer e (.ref C) a0 s'.heap->(∀h'',qDk B outer e (.ref C) a0 h''->s'.heap.UpToSlots h''->gT P w outer H s e C H' { s' with heap:=h'' })->Prop)
  (hk:∀a0 B fl g,k a0 B fl g):∃a0 B fl g,k a0 B fl g:=by
 obtain⟨a0,B,fl,cE,th,kp⟩:=F.ex;refine⟨a0,B,fl,fun h'' fl2 up=>⟨F.os,F.bare,⟨a0,B,fl2,cE,th,kp⟩,fun b o q n hb=>?_,F.free,F.dU,F.gB,F.gJ⟩,hk _ _ _ _⟩;obtain⟨sl,z⟩:=F.slot b o q n hb;obtain⟨_,o',ho',hnf⟩:=fl.2.2.1.mem hb;rw[z] at ho';cases ho';obtain⟨sl',z'⟩:=up b _ z hnf;exact⟨sl',z'⟩
theorem gT.more(F:gT P w outer H s e C H' s'):∃a0 B,qDk B outer e (.ref C) a0 s'.heap /\
  ∀h'',qDk B outer e (.ref C) a0 h''->s'.heap.UpToSlots h''->gT P w outer H s e C H' { s' with heap:=h'' }:=by
 obtain⟨a0,B,fl,g,_⟩:=F.go (fun _ _ _ _=>True) fun _ _ _ _=>trivial;exact⟨a0,B,fl,g⟩
end
structure Own (X:Cx):Prop where
 st:X.stack=X.env::X.outer
 fr:X.env.frame=some X.env.locals
 ex:X.ex=[]
section
variable {X:Cx}{pins:List (Addr×Obj)}{σ:St}{H H':Hp}{s s':qAj}{e C:Addr}{Q:Unit->qAj->Prop}{E:qAh->qAj->Prop}{M:qLo}
theorem Own.sub(O:Own X){b:Addr}(h:b∈X.fs):b∈gD X.stack:=by
 rw[O.st];delta gD;rw[qCw,O.fr];exact qAq _ h
theorem Own.not(O:Own X)(I:Inv X pins σ H s){b:Addr}{o:Obj}(q:X.s₀.heap.get? b=some o)(h:b∉X.fs):b∉gD X.stack:=fun z=>by
 rcases List.mem_cons.mp (I.j4 b z) with r | r
 .exact absurd (qAw (qAt q) I.ok.above) (by rw[r];exact qDp _)
 .exact h r
theorem Own.lG(O:Own X)(b:Addr):b∉X.ex:=by
 rw[O.ex];simp
theorem tW(O:Own X)(I:Inv X pins σ H s)(hx:qKj s.heap h' e (.ref C) vs)
  (k:∀h'',gT X.prog X.w X.outer X.H₀ X.s₀ e C H { s with heap:=h'' }->Q () { s with heap:=h'' }):qBq M X.A (leaving X.env (.ref e)) Q E { s with heap:=h' }:=by
 have hst:=I.stack;have hfr:=I.ok.frames;rw[O.st] at hst hfr;have hin:∀env∈(X.env::X.outer),∀b,env.frame=some b->b∈gD X.stack:=fun env he b hb=>by
  rw[O.st];exact List.mem_filterMap.mpr ⟨env,he,hb⟩
 have get:∀{b:Addr}{o:Obj},s.heap.get? b=some o->b∉gD X.stack->(qCf s.heap (gD X.stack)).get? b=some o:=fun q hb=>qDz _ q hb;refine wpAny_leaves_madeW (base:=qCf s.heap (gD X.stack)) (h:=s.heap) (s:={ s with heap:=h' }) hfr O.fr (fun b o q=>qEw _ q) (qHj hst hin) hx fun h'' t x1 _ _ x4=>k h'' ⟨I.os,I.bare,⟨_,_,x1,fun a o q=>?_,fun b o q hb=>?_,fun b o q n hb=>?_⟩,fun b o q n hb=>?_,fun b o q n=>I.base.free b o q n (O.lG b),I.base.dU,I.base.gB,I.base.gJ⟩
 .refine(I.cE a o q).iY (fun b u hb z=>get z fun hm=>?_) (fun _ z=>z) fun _ _ z=>z;have hn:=I.jG b hm;rcases hb with rfl | hb
  .rw[hn] at q;cases q
  .rw[hn] at hb;cases hb
 .obtain⟨o',z⟩:=I.base.there b o q (O.lG b);exact⟨o',get z (O.not I q hb)⟩
 .exact get (I.base.keep b o q n hb (O.lG b)) (O.not I q hb)
 .obtain⟨sl,z⟩:=I.base.slot b o q n hb (O.lG b);obtain⟨_,o',ho',hnf⟩:=I.ok.gK.mem hb;rw[q] at ho';cases ho';obtain⟨sl',z'⟩:=x4 b _ (hx.keeps b _ z) hnf;exact⟨sl',z'⟩
theorem qN(O:Own X)(I:Inv X pins σ H s)(F:gT X.prog X.w X.stack H s e C H' s')
  (k:∀h'',gT X.prog X.w X.outer X.H₀ X.s₀ e C H' { s' with heap:=h'' }->Q () { s' with heap:=h'' }):qBq M X.A (leaving X.env (.ref e)) Q E s':=by
 obtain⟨a0,B,fl,cE,th,kp⟩:=F.ex;have hfr:=I.ok.frames;rw[O.st] at fl hfr;refine wpAny_leaves_onW hfr O.fr fl fun h'' x1 x2=>k h'' ⟨F.os.trans I.os,F.bare,⟨a0,B,x1,cE,fun b o q hb=>?_,fun b o q n hb=>?_⟩,fun b o q n hb=>?_,fun b o q n=>?_,fun b xs q=>F.dU b xs (I.base.dU b xs q),fun b o u q=>F.gB b o u (I.base.gB b o u q),fun b ps q=>?_⟩
 .obtain⟨o',z⟩:=I.base.there b o q (O.lG b);exact th b o' z (O.not I q hb)
 .exact kp b o (I.base.keep b o q n hb (O.lG b)) (I.base.free b o q n (O.lG b)) (O.not I q hb)
 .obtain⟨sl,z⟩:=I.base.slot b o q n hb (O.lG b);obtain⟨sl',z'⟩:=F.slot b _ z (I.base.free b o q n (O.lG b)) (O.sub hb);obtain⟨_,o',ho',hnf⟩:=I.ok.gK.mem hb;rw[q] at ho';cases ho';obtain⟨sl2,z2⟩:=x2 b _ z' hnf;exact⟨sl2,z2⟩
 .obtain⟨o',z⟩:=I.base.there b o q (O.lG b);exact F.free b o' z (I.base.free b o q n (O.lG b))
 .obtain⟨m1,e1⟩:=I.base.gJ b ps q;obtain⟨m2,e2⟩:=F.gJ b _ e1;exact⟨m1++m2,by rw[e2,qIw]⟩
end
abbrev XS:=qAh->St->Hp->Prop
structure Pass (X:Cx) (Ex:XS):Prop where
 on:∀(pins:List (Addr×Obj)) (σ:St) (H:Hp) (s:qAj) (e C:Addr) (H':Hp) (s':qAj),Inv X pins σ H s->gT X.prog X.w X.stack H s e C H' s'->CN s'.heap e->Ex (.ref C) σ H'->X.xe (.ref e) s'
structure LS (X:Cx) (Ex:XS):Prop extends Pass X Ex where
 nw:∀(pins:List (Addr×Obj)) (σ:St) (H:Hp) (s:qAj) (e C:Addr) (h':Heap) (vs:List qAh),Inv X pins σ H s->qKj s.heap h' e (.ref C) vs->Ex (.ref C) σ H->X.xe (.ref e) { s with heap:=h' }
 own:qMr (qBr X.prog X.w) X.A X.env X.xe
theorem EE{h h':Heap}{e:Addr}{c:qAh}{vs:List qAh}(hx:qKj h h' e c vs):CN h' e:=by
 obtain⟨t,he,_⟩:=hx.there;exact⟨_,he,rfl⟩
theorem aQ{P:qBe}{w:qCj}{K:qAb}{mg:Str->Option qAh}{base:Heap}{N:List Str}{qual:Str}{scope:qHb}{f:Addr}{cd:qAh}{A:qCb}{outer:List Env}{s:qAj}{H:Hp}{E:XK}:
  LS (iD (gA P w) P w K mg base N qual scope f cd A outer s H E) (fun c _ H'=>E c none H') where
 on:=fun pins σ H1 s1 e C H' s' I F cn q=>qCm ((KD.leaving (.ref e) _).any (qN (Q:=fun _ s2=>gT P w outer H s e C H' s2) (E:=fun _ _=>False) ⟨rfl,rfl,rfl⟩ I F fun h'' F'=>F')) (by rintro _ s2 ⟨F',d⟩;exact ⟨e,C,H',rfl,F',cn.dk d,q⟩) fun _ _ z=>z.1.elim
 nw:=fun pins σ H1 s1 e C h' vs I hx q=>qCm ((KD.leaving (.ref e) _).any (tW (Q:=fun _ s2=>gT P w outer H s e C H1 s2) (E:=fun _ _=>False) ⟨rfl,rfl,rfl⟩ I hx fun h'' F'=>F')) (by rintro _ s2 ⟨F',d⟩;exact ⟨e,C,H1,rfl,F',(EE hx).dk d,q⟩) fun _ _ z=>z.1.elim
 own:=PassesOwn.leaving
section
variable {P:qBe}{w:qCj}{K:qAb}{mg:Str->Option qAh}{base:Heap}
theorem BI.LU{x qual:Str}{st:Stmt}{f:Addr}{fd:qBy}{N ps:List Str}{k:Nat}{sp:Sp}(F:BI K x qual st f fd)(S:aN N ps (aF st))(len:∀vs H Q E,sp vs H Q E->vs.length=ps.length)
  (hbody:∀(cdv:qAh) (A:qCb) (outer:List Env) (s:qAj) (H:Hp) (vs:List V) (Q:VK) (E:XK),cY k (A.deeper (qGf qual (aF st) s.heap.objs.size f cdv))->sp vs H Q E ->
   ∃t,lI (iD (gA P w) P w K mg base N qual (aF st) f cdv A outer s H E) (bG st) t/\t { nx:=fun _ H'=>Q .non H',rt:=Q } (start N vs) H):gM P w K mg base (gA P w) (k+1) f fd ps sp:=by
 obtain⟨oc,od,kV,doc,pm,an,cdv,ct,osl,rfl,lk,hcd⟩:=F.ex;exact BC lk hcd S len fun A outer s H vs Q E hr hsp=>hbody cdv A outer s H vs Q E hr hsp
end
def sE(sp:Sp)(dvs:List V)(Ex:XS)(t:TA):TE:=fun σ H Q=>t σ H fun vs H1=>sp (vs++dvs) H1 Q fun c _ H'=>Ex c σ H'
section
variable {X:Cx}{Ex:XS}{k:Nat}{f C:Addr}{fd:qBy}{ps:List Str}{sp:Sp}{dvs:List V}{ds:List qAh}{x m:Str}{p pos apos:Pos}{e o:Expr}{es:List Expr}{ta:TE}{t:TA}
theorem sF(R:Pass X Ex)(F:gM X.prog X.w X.K X.mg X.base (gA X.prog X.w) k f fd ps sp)(hr:cY k X.A)(hb:Binds X.K fd ps ds)(hd:Vals dvs ds)
  (I:Inv X pins σ H s) (r:Vals vs us) (h:sp (vs++dvs) H Q fun c _ H'=>Ex c σ H'):qBq (qBr X.prog X.w) X.A (call (.ref f) us) (EP X pins σ Q) X.xe s:=by
 have r2:Vals (vs++dvs) (us++ds):=r.append hd;have hl:(us++ds).length=ps.length:=by rw[<- r2.length];exact F.len _ _ _ _ h
 refine qEv (qFg (F.run X.A X.stack s H ⟨us,[]⟩ (us++ds) (vs++dvs) Q _ hr I.BB (hb s us I.gL hl) r2 h) fun r s' hq=>?_);cases r with
 | error ev =>
  obtain⟨e,C,H',rfl,Fl,cn,q⟩:=hq;exact R.on pins σ H s e C H' s' I Fl cn q
 | ok fl =>
  cases fl with
  | ret u=>exact I.after hq
  | next=>exact False.elim hq
  | brk=>exact False.elim hq
  | cont=>exact False.elim hq
theorem BM(R:Pass X Ex)(F:gM X.prog X.w X.K X.mg X.base (gA X.prog X.w) k f fd ps sp)(hr:cY k X.A)(hg:Gl X x)(hm:X.mg x=some (.ref f))(hk:qAv X.K (.ref f)=true)(hb:Binds X.K fd ps ds)(hd:Vals dvs ds)
  (ha:PA X (e::es) t) (hdb:(x == ("__debug__":Str))=false:=by decide) (he:qBl (e::es) X.env=(false,eval e X.env)::qBl es X.env:=by rfl) (hpl:(qFc pos (qBl es X.env)).any (·.1)=false:=by rfl) :
  PE X (.Call (.Name x p) (e::es) [] pos) (sE sp dvs Ex t):=by
 intro pins s σ H Q I h;refine qDx (fK I hg hm ?_ hdb);refine qEx (h₀:=X.base) I.ok.mod.Ea hk (bT (ha pos pins s σ H _ I h) fun us s1 ⟨vs,H1,I1,r,q⟩=>⟨I1.gL,?_⟩) he hpl;exact sF R F hr hb hd I1 r q
end
abbrev sG:List qAh:=[.type "ValueError",.type "Exception",.type "BaseException",.type "object"]
structure dM (K:qAb) (C:Addr):Prop where
 cls:(qIj K C).isSome=true
 ty:qEo K (.ref C)=some (.type "type")
 ga:qAd K (.ref C) "__getattribute__"=some (some (.builtin "BaseException.__getattribute__"))
 gx:qAd K (.ref C) "__getattr__"=some none
 ca:qAd K (.ref C) "__class__"=some (some (.builtin "object.__class__"))
 cg:qDd K (.builtin "object.__class__") "__get__"=some (some (.builtin "getset_descriptor.__get__"))
 ct:qFj K (.builtin "object.__class__")=some true
 mo:qBm K C (.type "object")=some true
 mb:qBm K C (.type "BaseException")=some true
theorem yC{K:qAb}{h:Heap}{C:Addr}{bmB:List qAh}{newId:String}(X:K.In h)(q:qDm K C bmB newId=true):
  ∃bm N nm q bs hdct sn sub ab col dd k0 k1 k2 k3 k5 mN,h.get? C=some (qKx nm q C N bs bm hdct sn sub ab col dd k0 k1 k2 k3 k5 newId)/\h.Ns N mN/\mN "__init__"=none/\OwnTail h bmB bm:=by
 delta qDm at q;split at q
 .rename_i dd cd sl ho;split at q
  .rename_i C' bm k0 k1 k2 k3 n k5 hm hs;rw[qBb,qBb,qBb,qBb,qBb] at q;obtain⟨⟨⟨⟨⟨q1,q2⟩,q3⟩,ht⟩,cE⟩,hni⟩:=q;obtain rfl:=beq_iff_eq.mp q1;obtain rfl:=beq_iff_eq.mp q2;have hdel:cd.hasDel=false:=by
    cases z:cd.hasDel with
    | false=>rfl
    | true=>rw[z] at q3;cases q3
   have hni':=beq_iff_eq.mp hni;obtain⟨nm,bs,mro,ns,qn,hd,sn,sub,ab,col,del⟩:=cd;dsimp only at hm hdel cE hni';subst hm hdel;obtain⟨l⟩:=sl;dsimp only at hs;subst hs;exact⟨bm,ns,nm,qn,bs,hd,sn,sub,ab,col,dd,k0,k1,k2,k3,k5,_,X _ _ ho,.of_isNs (PySem.W.isNs_of_in X cE),PySem.W.nsMap_none_of_in X cE hni',PySem.W.tail_of_in X ht⟩
  .cases q
 .cases q
def HJ(C:Addr)(Ex:XS)(t:TA):TS:=fun _ σ H=>t σ H fun vs H1=>vs.length<=qAg/\Ex (.ref C) σ H1
section
variable {X:Cx}{Ex:XS}{x:Str}{C:Addr}{e₀:Expr}{rest:List Expr}{np cpos pos:Pos}{t:TA}
theorem cP(R:LS X Ex)(hc:X.calm=true)(hg:Gl X x)(hm:X.mg x=some (.ref C))(q:qDm X.K C sG "ValueError.__new__"=true)(ha:PA X (e₀::rest) t)
  (he:qBl (e₀::rest) X.env=(false,eval e₀ X.env)::qBl rest X.env:=by rfl) (hplain:(qFc cpos (qBl rest X.env)).any (·.1)=false:=by rfl) (hd:(x == ("__debug__":Str))=false:=by decide) :
  PS X (.Raise (some (.Call (.Name x np) (e₀::rest) [] cpos)) none pos) (HJ C Ex t):=by
 intro pins s σ H D I h;obtain⟨tl,N,nm,qn,bs,hdct,sn,sub,ab,col,dd,k0,k1,k2,k3,k5,mN,hC,hN,hni,T⟩:=yC I.mod.Ea q;have FB:=qGo;refine wpAny_Raise_call_subT (C:=C) (nm:=nm) (q:=qn) (N:=N) (bs:=bs) (bm:=tl) (hdct:=hdct) (sn:=sn) (sub:=sub) (ab:=ab) (col:=col) (dd:=dd) (k0:=k0) (k1:=k1) (k2:=k2) (k3:=k3) (k5:=k5)
  FB (mN:=mN) (T.hasType FB.hasBase) (I.ok.hd hc) (by rw[he];show(false||(qFc cpos (qBl rest X.env)).any (·.1))=false;rw[hplain];rfl) hni (fK I hg hm ⟨rfl,?_⟩ hd)
 have hs:=ha cpos pins s σ H _ I h;rw[he] at hs|-;refine qIe (bT hs fun us s2 z9=>?_);obtain⟨vs,H2,I2,r,z,q2⟩:=z9;have kb:∀b o,X.base.get? b=some o->s2.heap.get? b=some o:=I2.bk;exact⟨rfl,by show us.length<=qAg;rw[<- r.length];exact z,kb _ _ hC,hN.keeps kb,T.keeps kb,fun h' e hx=>R.nw pins σ H2 s2 e C h' us I2 hx q2⟩
end
def Po(e C:Addr):HO:=.ext fun h=>∃oe,h.get? e=some oe/\oe.cls = .ref C
section
variable {X:Cx}{pins:List (Addr×Obj)}{σ:St}{H H':Hp}{s s':qAj}{e C:Addr}
theorem Inv.yD(I:Inv X pins σ H s)(hn:H e=none)(h0:X.s₀.heap.get? e=none)(hL:e≠X.env.locals)(hc:∀x c,X.env.cells.lookup x=some c->c≠e)(hp:∀p∈X.pn++pins,p.1≠e)(hfs:e∉X.fs)
  (new:cM X.prog X.w (upd H e o) s.heap e o):Inv X pins σ (upd H e o) s:=by
 have ne:∀b u,H b=some u->b≠e:=fun b u q=>bD q hn;refine⟨I.ok,I.os,I.bare,⟨I.base.keep,I.base.slot,fun b ob q n hx=>?_,I.base.there,fun b xs q=>?_,fun b ob u q=>?_,fun b ps q=>?_⟩,I.loc,I.cell,?_,fun x c q=>?_,fun p q=>?_,fun b u q=>?_,I.len⟩
 .rw[aM (fun z=>by rw[z,h0] at q;cases q)];exact I.base.free b ob q n hx
 .have z:=I.base.dU b xs q;rw[aM (ne _ _ z)];exact z
 .have z:=I.base.gB b ob u q;rw[aM (ne _ _ z)];exact z
 .obtain⟨m,z⟩:=I.base.gJ b ps q;exact⟨m,by rw[aM (ne _ _ z)];exact z⟩
 .rw[aM hL.symm];exact I.free
 .rw[aM (hc x c q)];exact I.gE x c q
 .obtain⟨z1,z2,z3⟩:=I.pin p q;exact⟨z1,by rw[aM (hp p q)];exact z2,z3⟩
 .by_cases hb:b=e
  .subst hb;rw[aB] at q;cases q;exact new
  .rw[aM hb] at q;exact(I.cE b u q).iY (fun c v _ z=>z) (fun c z=>by rw[aM (ne _ _ z)];exact z) fun c xs z=>by rw[aM (ne _ _ z)];exact z
end
def vW(X:Cx)(e:Addr):Cx:={ X with A:=X.A.mark (some (.ref e)),calm:=false,xe:=fun _ _=>False }
def BN(X:Cx)(pins:List (Addr×Obj))(Ex:XS):Cx :=
 { X with pn:=X.pn++pins,xe:=fun ev s'=>∃e C σ H s H',ev=Value.ref e/\Inv X pins σ H s/\gT X.prog X.w X.stack H s e C H' s'/\CN s'.heap e/\Ex (.ref C) σ H' }
section
variable {X:Cx}{pins:List (Addr×Obj)}{σ:St}{H H':Hp}{s s':qAj}{e C:Addr}{Ex:XS}
theorem Inv.Pp(I:Inv X pins σ H s)(e:Addr):Inv (vW X e) pins σ H s:=by
 obtain⟨⟨o1,o2,o3,o4,o5,o6,o7,o8,o9,o10,o11,o12,o13,o14,o15,o16,o17,o18⟩,i2,i3,i4,i5,i6,i7,i8,i9,i10,i11⟩:=I;exact⟨⟨o1,o2,o3,o4,o5,o6,o7,o8,fun z=>(qAm z).elim,o10,o11,o12,o13,o14,o15,o16,o17,o18⟩,i2,i3,i4,i5,i6,i7,i8,i9,i10,i11⟩
theorem Inv.yE(hd:X.calm=true->X.A.handled=none)(I:Inv (vW X e) pins σ H s):Inv X pins σ H s:=by
 obtain⟨⟨o1,o2,o3,o4,o5,o6,o7,o8,o9,o10,o11,o12,o13,o14,o15,o16,o17,o18⟩,i2,i3,i4,i5,i6,i7,i8,i9,i10,i11⟩:=I;exact⟨⟨o1,o2,o3,o4,o5,o6,o7,o8,hd,o10,o11,o12,o13,o14,o15,o16,o17,o18⟩,i2,i3,i4,i5,i6,i7,i8,i9,i10,i11⟩
theorem Inv.LV(I:Inv X pins σ H s)(Ex:XS):Inv (BN X pins Ex) [] σ H s:=by
 obtain⟨⟨o1,o2,o3,o4,o5,o6,o7,o8,o9,o10,o11,o12,o13,o14,o15,o16,o17,o18⟩,i2,i3,i4,i5,i6,i7,i8,i9,i10,i11⟩:=I;exact⟨⟨o1,o2,o3,o4,o5,o6,o7,o8,o9,o10,o11,o12,o13,o14,o15,o16,o17,o18⟩,i2,i3,i4,i5,i6,i7,i8,fun p hp=>i9 p (by simpa [BN] using hp),i10,i11⟩
theorem Inv.nZ(I:Inv (BN X pins Ex) pins2 σ H s):Inv X pins σ H s:=by
 obtain⟨⟨o1,o2,o3,o4,o5,o6,o7,o8,o9,o10,o11,o12,o13,o14,o15,o16,o17,o18⟩,i2,i3,i4,i5,i6,i7,i8,i9,i10,i11⟩:=I;exact⟨⟨o1,o2,o3,o4,o5,o6,o7,o8,o9,o10,o11,o12,o13,o14,o15,o16,o17,o18⟩,i2,i3,i4,i5,i6,i7,i8,fun p hp=>i9 p (qDw _ hp),i10,i11⟩
theorem BO:Pass (BN X pins Ex) Ex where
 on:=fun pins2 σ H s e C H' s' I F cn q=>⟨e,C,σ,H,s,H',rfl,I.nZ,F,cn,q⟩
theorem name_goes(I:Inv X pins σ H s)(hN:X.N.Nodup)(hi:X.N[i]?=some x)(hk:X.env.scope.names.lookup x=some .local)
  (h:∀s',Inv X pins (σ.set i none) H s'->Q () s'):qBq M A (do bindName X.env x .none;unbindBehindTheSuite X.env x pos) Q E s:=by
 obtain⟨m,hn,hl⟩:=id I.loc;have hcls:(X.env.scope.kind == .class||(X.env.scope.kind == .module&&X.env.locals != X.env.globals))=false:=by rw[I.ok.kind];rfl
 refine wpAny_nameGoes_keeps hk hn hcls fun h' v hn' hs=>?_;have below:∀b o,X.s₀.heap.get? b=some o->b≠X.env.locals:=fun b o e=>qBi (qAw (qAt e) I.ok.above);refine h _ ⟨I.ok,I.os,I.bare,⟨fun b o e n hb hx=>?_,fun b o e n hb hx=>?_,I.base.free,fun b o e hx=>?_,I.base.dU,I.base.gB,I.base.gJ⟩,⟨_,hn',fun j y v' e1 e2 e3=>?_⟩,fun y c e=>?_,I.free,I.gE,fun p hp=>?_,fun b ob e=>?_,by simpa using I.len⟩
 .exact(hs.2 b (below b o e)).trans (I.base.keep b o e n hb hx)
 .obtain⟨sl,e1⟩:=I.base.slot b o e n hb hx;exact⟨sl,(hs.2 b (below b o e)).trans e1⟩
 .obtain⟨o',e1⟩:=I.base.there b o e hx;exact⟨o',(hs.2 b (below b o e)).trans e1⟩
 .by_cases hj:j=i
  .subst hj;rw[List.getElem?_set] at e2;split at e2
   .split at e2 <;> cases e2
   .rename_i z;exact absurd rfl z
  .rw[qGh (Ne.symm hj)] at e2;obtain⟨u',r',q⟩:=hl j y v' e1 e2 e3;exists u',r';have hy:y≠x:=fun e=>hj (nM hN e1 (e▸hi));rcases q with ⟨k,e⟩ | ⟨k,c,e,z⟩
   .exact .inl ⟨k,by show(if y=x then v else m y)=some u';rw[if_neg hy];exact e⟩
   .exact .inr ⟨k,c,e,z.sameBut hs (I.Ei y c e)⟩
 .obtain⟨w',z⟩:=I.cell y c e;exact⟨w',z.sameBut hs (I.Ei y c e)⟩
 .obtain⟨e,n,ne,nf,d⟩:=I.pin p hp;exact⟨(hs.2 p.1 ne).trans e,n,ne,nf,d⟩
 .refine(I.cE b ob e).iY (fun c w' hc q=>(hs.2 c ?_).trans q) (fun _ q=>q) fun _ _ q=>q;rintro rfl;rcases hc with rfl | hc
  .rw[I.free] at e;cases e
  .rw[I.free] at hc;cases hc
end
theorem mL{K:qAb}{M:qLo}{A:qCb}{E:qAh->qAj->Prop}{s:qAj}{e C S:Addr}{oe:Obj}{Q:Bool->qAj->Prop}(X:K.In s.heap)(c:dM K S)(he:s.heap.get? e=some oe)(hc:oe.cls = .ref C)
  (hs:qBm K C (.ref S)=some true) (h:Q true s):qBq M A (excMatches (.ref e) (.ref S)) Q E s:=by
 have L0:qCy M s.heap (qMo (.ref S)) (.type "type"):=PySem.W.looks_typeIn X c.ty;have L1:qCy M s.heap (qMp (.type "type") (.type "tuple")) false:=PySem.W.Looks.of_pure tc_notTuple;have L2:qCy M s.heap (qKb (.ref S) (.type "tuple")) false:=L0.andThen L1;have L3:qCy M s.heap (qMp (.ref S) (.type "BaseException")) true:=qGg X c.mb;have L4:qCy M s.heap (qMp (.ref C) (.ref S)) true:=qGg X hs;have L5:qCy M s.heap (qMo (.ref e)) (.ref C):=hc▸(PySem.W.Looks.ld he).andThen .now;have L6:qCy M s.heap (isType (.ref S)) true:=by
  have z:=c.cls;unfold qIj at z;split at z
  .rename_i c' d' cd' sl' ho;intro A' Q' E' s' k q;unfold isType loadHead;exact qAc (qHt (k _ _ (X _ _ ho)) (qAo q))
  .cases z
 obtain⟨hh,g,d,t,os⟩:=s;unfold excMatches;refine qAc (L2.at ?_);simp only[qGx,if_false];refine qAc (qAo ?_);simp only[List.forIn_cons,List.forIn_nil];refine qAc (qAc ?_);unfold isExcClass;refine qAc (qAc (L6.at ?_));simp only[if_true];refine L3.at ?_;simp only[qKo,qGx,if_false];refine qAo (qAo ?_);refine qAc (L5.at ?_);refine qAc (qAc (qAc (L4.at ?_)));simp only[if_true];exact qAo (qAo (qAo h))
section
open Builtin Builtin.ObjectAttr Builtin.Getset_descriptor
theorem BP{K:qAb}{M:qLo}{h:Heap}{e C:Addr}{name:Str}{a g:qAh}(X:K.In h)(h1:qAd K (.ref C) name=some (some a))(h2:qDd K a "__get__"=some (some g))(h3:qFj K a=some true):
  qCy M h (find (.ref e) (.ref C) name) (.bind g a):=by
 have L1:=qDh (M:=M) X h1;have L2:qCy M h (getOf (some a)) (some g):=PySem.W.looks_specialIn X h2;have L3:=PySem.W.looks_takesIn (M:=M) X h3;exact L1.andThen (L2.andThen ((show qCy M h (dataDescriptor? (some a) (some g)) (some (g,a)) from L3.andThen .now).andThen (PySem.W.Looks.tag .now)))
theorem pS{prog:qBe}{w:qCj}{A:qCb}{s:qAj}{K:qAb}{x C:Addr}{R:qNl->qAj->Prop}{tp:qAh}(X:K.In s.heap)(I:∀M,qCy M s.heap (qMo (.ref x)) (.ref C))
  (hm:qBm K C (.type "object")=some true) (h:R (.ok (.ret (.ref C))) s):qGk (qBr prog w) A (.call (.builtin "getset_descriptor.__get__") ⟨[.builtin "object.__class__",.ref x,tp],[]⟩) R s:=by
 obtain⟨hh,g,dr,t,os⟩:=s;have L0:=I (qBr prog w);have L1:=qGg (M:=qBr prog w) X hm;refine qEa PySem.W.KF.slot_gs.plain PySem.W.KF.entry_gs (PySem.W.KF.slot_gs.check _ _ _ _ _ _ _ _ PySem.W.KF.type_class (PySem.W.KF.args_gs _ _ _) ?_);delta Builtin.«getset_descriptor.__get__» descrGet;rw[PySem.W.dga_obj];refine qAc (qAo ?_);delta descrGetter descrCheckInstance descrNameAndClass qKb;simp only[PySem.W.KF.owner_class];repeat lk
 refine⟨Code.quiet_builtin _ #[2],codeAny_builtin PySem.W.KF.entry_class ?_⟩;delta Builtin.«object.__class__» shownTypeOf;repeat lk
 exact h
end
theorem kL{M:qLo}{A:qCb}{E:qAh->qAj->Prop}{s:qAj}{K:qAb}{x C:Addr}{nameV:qAh}{Q:Unit->qAj->Prop}(X:K.In s.heap)(I:qCy M s.heap (qMo (.ref x)) (.ref C))
  (hm:qBm K C (.type "BaseException")=some true) (hq:Q () s):qBq M A (checkBuiltinCall "BaseException.__getattribute__" ⟨[.ref x,nameV],[]⟩) Q E s:=by
 have hk:builtinKind "BaseException.__getattribute__"=some .slot:=by decide +kernel
 have hsplit:splitId "BaseException.__getattribute__"=some ("BaseException","__getattribute__"):=by decide +kernel
 have L1:=qGg (M:=M) X hm;have L2:qCy M s.heap (qKb (.ref x) (.type "BaseException")) true:=I.andThen L1;have ha:=F.args_bexc_ga (.ref x) nameV;obtain⟨hh,g,dr,t,os⟩:=s;simp only[checkBuiltinCall,hk,hsplit];refine qAc (L2.at ?_);repeat (first | assumption | wp_step)
section
open Builtin Builtin.ObjectAttr Builtin.Getset_descriptor
theorem HK{prog:qBe}{w:qCj}{A:qCb}{E:qAh->qAj->Prop}{s:qAj}{K:qAb}{x C:Addr}{Q:Option qAh->qAj->Prop}(X:K.In s.heap)(c:dM K C)(I:∀M,qCy M s.heap (qMo (.ref x)) (.ref C))
  (h:Q (some (.ref C)) { s with toks:=s.toks+1 }):qBq (qBr prog w) A (getAttr? (.ref x) "__class__") Q E s:=by
 obtain⟨hh,g,d,t,os⟩:=s;have L0:=I (qBr prog w);have L1:=qDh (M:=qBr prog w) X c.ga;have L2:=qDh (M:=qBr prog w) X c.gx;have L3:=BP (M:=qBr prog w) (e:=x) X c.ca c.cg c.ct;have hx2:(Value.builtin "BaseException.__getattribute__" == Value.builtin "object.__getattribute__")=false:=by decide +kernel
 have f3:=F.excAttr_ValueError.ga.bind (.ref x);delta getAttr? getAttrBy? getAttrBy;refine qAc (wpAny_mkText (qAc (wpAny_attempt (qCx (qAc (L0.at (qAc (L1.at ?_))))))));dsimp only;rw[if_neg (by rw[hx2,qDo];exact qAm)];delta getAttrByItsOwn hookBefore;rw[if_pos (show onTheHeap (Value.ref C)=true from rfl)];refine qAc (L2.at ?_);refine qAc (wpAny_attempt (qCx ?_));delta callGetattribute;rw[if_neg (by decide)];delta boundAndCalled;refine qAc (qFa f3 ?_);refine qEv (qEa F.excAttr_ValueError.ga.plain F.entry_bexc_ga (kL X L0 c.mb ?_));show qBq _ _ (Builtin.«object.__getattribute__» ⟨[.ref x,.str "__class__" t],[]⟩) _ _ _;delta Builtin.«object.__getattribute__»;refine qAc (qFa (a:=(Value.ref x,[Value.str "__class__" t])) rfl ?_);refine qAc (qFa (a:=("__class__":Str)) rfl ?_);refine qAc (L0.at (qAc (L3.at ?_)));show qBq _ _ (qIx [Value.builtin "object.__class__"] (call (.builtin "getset_descriptor.__get__") [.builtin "object.__class__",.ref x,.ref C]) >>= ret) _ _ _;refine qAc (qCx (qEv (pS (s:=⟨hh,g,d,t+1,os⟩) X I c.mo ?_)));show qBq _ _ (ret (Value.ref C)) _ _ _;refine qAo ?_;show qBq _ _ (handedOut (Value.ref C)) _ _ _;exact qLj rfl (qAo h)
end
inductive LW (K:qAb) (H:Hp):V->qAh->Prop where
 | of {v:V}{t:qAh} (h:jT K H v t):LW K H v t
 | exc {e C:Addr} (h:H e=some (Po e C)) (c:dM K C):LW K H (.ref e) (.ref C)
theorem tX{K:qAb}{e C:Addr}(c:dM K C):qKk K (.ref e) (.ref C) (fun h=>∃oe,h.get? e=some oe/\oe.cls = .ref C) where
 ty:=(by rintro M h _ ⟨oe,h1,h2⟩;exact h2▸(PySem.W.Looks.ld h1).andThen .now)
 it:=fun _ _ X _=>by
  have z:=c.cls;unfold qIj at z;split at z
  .rename_i c' d' cd' sl' ho;intro A' Q' E' s' k q;unfold isType loadHead;exact qAc (qHt (k _ _ (X _ _ ho)) (qAo q))
  .cases z
 ne:=fun h tp dd its n sl X htp=>by
  refine Bool.eq_false_iff.mpr fun q=>?_;have e:C=tp:=Value.ref.inj (beq_iff_eq.mp q);subst e;have z:=c.cls;unfold qIj at z;split at z
  .rename_i c' d' cd' sl' ho;have z:=(X _ _ ho).symm.trans htp;cases z
  .cases z
 ca:=fun X ⟨oe,h1,h2⟩ k=>HK X c (fun M=>h2▸(PySem.W.Looks.ld h1).andThen .now) k
section
variable {X:Cx}{pins:List (Addr×Obj)}{σ:St}{H:Hp}{s:qAj}
theorem LW.QX{x:V}{u t:qAh}(I:Inv X pins σ H s)(rx:RelV x u)(ty:LW X.K H x t):∃φ:Heap->Prop,qKk X.K u t φ/\φ s.heap/\u≠.builtin "__main__.__loader__#opaque":=by
 cases ty with
 | exc h c =>
  rename_i e C;cases (show u=Value.ref e from rx);obtain⟨z,_⟩:=I.cE e _ h;exact⟨_,tX c,z,fun z=>nomatch z⟩
 | of ty =>
  cases ty with
  | non=>cases (show u=Value.none from rx);exact⟨_,PySem.W.kitx_none,True.intro,fun z=>nomatch z⟩
  | bl y=>cases (show u=Value.bool y from rx);exact⟨_,PySem.W.kitx_bool,True.intro,fun z=>nomatch z⟩
  | int i=>obtain⟨t,q⟩:=(show ∃t,u=Value.int i t from rx);cases q;exact⟨_,PySem.W.kitx_int,True.intro,fun z=>nomatch z⟩
  | str y=>obtain⟨t,q⟩:=(show ∃t,u=Value.str y t from rx);cases q;exact⟨_,PySem.W.kitx_str,True.intro,fun z=>nomatch z⟩
  | flt y=>obtain⟨t,q⟩:=(show ∃t,u=Value.float y t from rx);cases q;exact⟨_,PySem.W.kitx_float,True.intro,fun z=>nomatch z⟩
  | @lst a xs ea =>
   cases (show u=Value.ref a from rx)
   obtain⟨_,_,n,_,h1⟩:=(show cM X.prog X.w H s.heap a (.lst xs) from I.cE a _ ea);exact⟨_,qLh,⟨_,h1,rfl⟩,fun z=>nomatch z⟩
  | @frz a ob xs ea =>
   cases (show u=Value.ref a from rx)
   obtain⟨_,_,_,n,_,h1⟩:=(show cM X.prog X.w H s.heap a (.frz ob (.lst xs)) from I.cE a _ ea);exact⟨_,qLh,⟨_,h1,rfl⟩,fun z=>nomatch z⟩
  | @tup a xs ea =>
   cases (show u=Value.ref a from rx)
   obtain⟨_,_,_,p⟩:=(show cM X.prog X.w H s.heap a (.tup xs) from I.cE a _ ea);obtain⟨o,h1,h2,_⟩:=p;exact⟨_,PySem.W.kitx_tuple,⟨o,h1,h2⟩,fun z=>nomatch z⟩
  | @dK a kvs ea =>
   cases (show u=Value.ref a from rx)
   obtain⟨_,_,vs,_,p⟩:=(show cM X.prog X.w H s.heap a (.dK kvs) from I.cE a _ ea);obtain⟨o,es,ep,h1,h2,_⟩:=p;exact⟨_,qLi,⟨o,h1,h2.1⟩,fun z=>nomatch z⟩
  | @dT a kvs ea =>
   cases (show u=Value.ref a from rx)
   obtain⟨_,_,xs,_,o,es,ep,h1,h2,_⟩:=(show cM X.prog X.w H s.heap a (.dT kvs) from I.cE a _ ea);exact⟨_,qLi,⟨o,h1,h2.1⟩,fun z=>nomatch z⟩
  | @ins a C dx fs ea cl ha hn htk hm =>
   cases (show u=Value.ref a from rx)
   obtain⟨mA,O,_⟩:=nC I.cE ea;obtain⟨od,J,_⟩:=O.look;exact⟨_,PySem.W.kitx_own (cl.get _) cl.hd ha hn htk hm,J,fun z=>nomatch z⟩
def sH:V->Option qAh
 | .ty n=>some (.type n)
 | .ref a=>some (.ref a)
 | _=>none
theorem n8(h:sH c=some cv)(r:RelV c u):u=cv:=by
 cases c <;> first | (cases h;exact r) | cases h
theorem qO:∀{cs:List V}{cvs us:List qAh},cs.map sH=cvs.map some->Vals cs us->us=cvs
 | [],[],_,_,.nil=>rfl
 | [],_::_,_,h,_=>by cases h
 | _::_,[],_,h,_=>by cases h
 | c::cs,cv::cvs,_,h,.cons r t=>by
  have h':=List.cons.inj (show sH c::cs.map sH=some cv::cvs.map some from h);rw[n8 h'.1 r,qO h'.2 t]
theorem gU:eD X (.builtin "isinstance") (fun xs H Q=>∃v c t cv b,xs=[v,c]/\sH c=some cv/\LW X.K H v t/\qDl X.K t cv=some b/\Q (.bl b) H):=by
 intro pins s σ H xs us Q I r h;obtain⟨v,c,t,cv,b,rfl,hc,ty,hk,q⟩:=h;obtain⟨u,cu,rfl,ru,rc⟩:=vals2 r;obtain rfl:=n8 hc rc;obtain⟨φ,Z,p,ne⟩:=ty.QX I ru;exact qLs Z I.gL p hk ne fun tk=>⟨.bl b,H,I.tok tk,rfl,q⟩
end
section
variable {X:Cx}
theorem nD(K:qAb)(h:X.K=K:=by rfl):KH X (LI K):=h▸dB
end
section
variable {X:Cx}
def yF(K:qAb):R2:=fun x y H Q=>∃l b xs zs,x = .ref l/\y = .ref b/\bA K H l xs/\bA K H b zs/\xs.length+zs.length<=qAg/\∀p,H p=none->Q (.ref p) (upd H p (.lst (xs++zs)))
theorem bB:gR X (qEs .Add) (yF X.K):=by
 intro pins s σ H x y v u Q I rx ry h;obtain⟨l,b,xs,zs,rfl,rfl,hH,hB,hz,q⟩:=h;cases rx;cases ry;obtain⟨its,r,pl,hl⟩:=I.list hH;obtain⟨its2,r2,pl2,hl2⟩:=I.list hB;obtain⟨⟨cls,dd,data,sl⟩,n,ho,hc,_,hd⟩:=pl;obtain⟨⟨cls2,dd2,data2,sl2⟩,n2,ho2,hc2,_,hd2⟩:=pl2;dsimp only at hc hd hc2 hd2;subst hc hd hc2 hd2;have ea:its.toArray++its2.toArray=(its++its2).toArray:=by simp
 refine concat_meets ⟨_,ho,rfl⟩ ⟨_,ho2,rfl⟩ noFill_list_add seq_list_add PySem.F.slot_list_add PySem.F.entry_list_add (PySem.F.args_list_add_2 _ _) (list_addW l b its.toArray its2.toArray n n2 dd dd2 sl sl2 (by rw[qBc,qBc,<- r.length,<- r2.length];exact hz)) ⟨ho,ho2,?_⟩;rw[ea];exact⟨.ref _,_,I.LO (t':=s.toks) (r.append r2) (by rw[qAf];exact hz),rfl,q _ I.fresh⟩
def Pq(K:qAb)(f:Bool->Bool):R2:=fun x y H Q=>∃(l b:Addr) (ns ms:List Int),x = .ref l/\y = .ref b/\bA K H l (ns.map V.int)/\bA K H b (ms.map V.int)/\Q (.bl (f (decide (ns=ms)))) H
theorem HL(hu:X.A.units+64<qMq):gR X (qDi .Eq) (Pq X.K id):=by
 intro pins s σ H x y v u Q I rx ry h;obtain⟨l,b,ns,ms,rfl,rfl,hH,hB,q⟩:=h;cases rx;cases ry;obtain⟨its,r,pl,hl⟩:=I.list hH;obtain⟨its2,r2,pl2,hl2⟩:=I.list hB;exact PySem.W.eq_intsK pl.isList (intsAre_of r) pl2.isList (intsAre_of r2) hu ⟨.bl (decide (ns=ms)),H,I,rfl,q⟩
theorem Inv.big(I:Inv X pins σ H s):qGi<s.heap.objs.size:=by
 have h:qAu<s.heap.objs.size:=(I.mod.glob.keeps I.bk).lt;exact qFn #[1] h
end
structure Tx (K:qAb) (mg:Str->Option qAh) (x:Str) (st:Stmt) (ps:List Str) (f:Addr) (fd:qBy):Prop where
 fn:BI K x x st f fd
 at_:mg x=some (.ref f)
 bd:∀us:List qAh,us.length=ps.length->qMc fd ⟨us,[]⟩=pure (ps.zip us)
theorem cB{K:qAb}{mg:Str->Option qAh}{h:Heap}{x:Str}{st:Stmt}{ps:List Str}{f:Addr}{oc:qAh}{od an:Option Addr}{osl:Array (Option qAh)}{kV doc pm cdv ct:qAh}(X:K.In h)(G:h.Ns qAu mg)
  (a:qBa K qAu x=some (some (.ref f))) (l:K.lookup f=some ⟨oc,od,.func (qBu x x (bW st) (bG st) (aF st) .none kV doc pm an cdv ct),osl⟩)
  (c:qBt K cdv x=true) (k:qAv K (.ref f)=true)
  (hb:∀(kV doc pm:qAh) (an:Option Addr) (cdv ct:qAh) (us:List qAh),us.length=ps.length->qMc (qBu x x (bW st) (bG st) (aF st) .none kV doc pm an cdv ct) ⟨us,[]⟩=pure (ps.zip us)) :
  ∃f fd,Tx K mg x st ps f fd:=⟨f,_,BJ l c k,qBv X G a,hb kV doc pm an cdv ct⟩
structure Df (P:qBe) (w:qCj) (K:qAb) (mg:Str->Option qAh) (base:Heap) (CX:vE) (k:Nat) (x:Str) (ps:List Str) (sp:Sp) (f:Addr) (fd:qBy):Prop where
 at_:mg x=some (.ref f)
 kp:qAv K (.ref f)=true
 ok:gM P w K mg base CX k f fd ps sp
 bd:Binds K fd ps []
section
variable {P:qBe}{w:qCj}{K:qAb}{mg:Str->Option qAh}{base:Heap}{x:Str}{st:Stmt}{ps N:List Str}{f:Addr}{fd:qBy}{k:Nat}{sp:Sp}
theorem Tx.mX(t:Tx K mg x st ps f fd)(S:aN N ps (aF st))(len:∀vs H Q E,sp vs H Q E->vs.length=ps.length)
  (hbody:∀(cdv:qAh) (A:qCb) (outer:List Env) (s:qAj) (H:Hp) (vs:List V) (Q:VK) (E:XK),cY k (A.deeper (qGf x (aF st) s.heap.objs.size f cdv))->sp vs H Q E ->
   ∃t,lI (iD dO P w K mg base N x (aF st) f cdv A outer s H E).Kz (bG st) t/\t { nx:=fun _ H'=>Q .non H',rt:=Q } (start N vs) H):Df P w K mg base dO (k+1) x ps sp f fd :=
 ⟨t.at_,t.fn.kp,t.fn.ok S len hbody,.all t.bd⟩
theorem Tx.Am(t:Tx K mg x st ps f fd)(S:aN N ps (aF st))(len:∀vs H Q E,sp vs H Q E->vs.length=ps.length)
  (hbody:∀(cdv:qAh) (A:qCb) (outer:List Env) (s:qAj) (H:Hp) (vs:List V) (Q:VK) (E:XK),cY k (A.deeper (qGf x (aF st) s.heap.objs.size f cdv))->sp vs H Q E ->
   ∃t,lI (iD (gA P w) P w K mg base N x (aF st) f cdv A outer s H E) (bG st) t/\t { nx:=fun _ H'=>Q .non H',rt:=Q } (start N vs) H):Df P w K mg base (gA P w) (k+1) x ps sp f fd :=
 ⟨t.at_,t.fn.kp,t.fn.LU S len hbody,.all t.bd⟩
end
section
variable {X:Cx}{Ex:XS}{k j:Nat}{f:Addr}{fd:qBy}{ps:List Str}{sp:Sp}{x:Str}{p pos:Pos}{e:Expr}{es:List Expr}{t:TA}
theorem bN(D:Df X.prog X.w X.K X.mg X.base dO k x ps sp f fd)(hr:cY j X.A)(hj:k<=j)(hg:Gl X x)(ha:PA X (e::es) t)(hdb:(x == ("__debug__":Str))=false:=by decide)(he:qBl (e::es) X.env=(false,eval e X.env)::qBl es X.env:=by rfl)(hpl:(qFc pos (qBl es X.env)).any (·.1)=false:=by rfl):
  PE X (.Call (.Name x p) (e::es) [] pos) (Ge sp [] E0 t):=Er D.ok (hr.mono hj) hg D.at_ D.kp D.bd .nil LQ ha hdb he hpl
theorem cX(R:Pass X Ex)(D:Df X.prog X.w X.K X.mg X.base (gA X.prog X.w) k x ps sp f fd)(hr:cY j X.A)(hj:k<=j)(hg:Gl X x)(ha:PA X (e::es) t)(hdb:(x == ("__debug__":Str))=false:=by decide)(he:qBl (e::es) X.env=(false,eval e X.env)::qBl es X.env:=by rfl)(hpl:(qFc pos (qBl es X.env)).any (·.1)=false:=by rfl):
  PE X (.Call (.Name x p) (e::es) [] pos) (sE sp [] Ex t):=BM R D.ok (hr.mono hj) hg D.at_ D.kp D.bd .nil ha hdb he hpl
end
theorem kM:Pass X (fun _ _ _=>False):=⟨fun _ _ _ _ _ _ _ _ _ _ _ q=>q.elim⟩
theorem BQ{n:Nat}{σ0:St}{H1:Hp}{i0:Nat}{c:TT}{te:TE}{Q:Addr->Hp->Prop}(f:Nat->Option V)(hn:n<=qAg)
  (step:∀(i:Nat) (H2:Hp) (k:VK) (k0:Hp->Prop),i<n->(∀y,f i=some y->k y H2)->(f i=none->k0 H2) ->
   c (σ0.set i0 (some (.int (0+(i:Int))))) H2 fun b H4=>if b=true then te (σ0.set i0 (some (.int (0+(i:Int))))) H4 k else k0 H4)
  (h:∀D,H1 D=none->Q D (upd H1 D (.lst ((qBk n).filterMap f)))) :
  ∀D,H1 D=none->∃W:Nat->Nat->St->Hp->Prop,(∃m,W 0 m σ0 (upd H1 D (.lst [])))/\∀i m σ1 H2,W i m σ1 H2 ->
   ((Ad 0 n).stop i H2/\Q D H2)\/((Ad 0 n).go i H2/\∃N:St->Hp->Prop,(∀σ' H',N σ' H'->∃m',m'<m/\W (i+1) m' σ' H') /\
    ∀x H',(Ad 0 n).vF i H2 x H'->a9 i0 x σ1 H' fun σ2 H3=>c σ2 H3 fun b H4=>if b=true then te σ2 H4 fun y H5=>∃xs,H5 D=some (.lst xs)/\xs.length<qAg/\N σ2 (upd H5 D (.lst (xs++[y]))) else N σ2 H4):=by
 intro D hD;exists fun i m σ1 H2=>σ1.set i0 none=σ0.set i0 none/\H2=upd H1 D (.lst ((qBk i).filterMap f))/\i<=n/\m=n-i,⟨n,rfl,rfl,qBn _,rfl⟩;rintro i m σ1 H2 ⟨hσ,rfl,hi,rfl⟩;have hset:∀v:Option V,σ1.set i0 v=σ0.set i0 v:=fun v=>by
  have z:=congrArg (fun l=>qIz l i0 v) hσ;simpa using z
 rcases qBj i n with hlt | hge
 .right
  refine⟨hlt,fun σ' H'=>σ'.set i0 none=σ0.set i0 none/\H'=upd H1 D (.lst ((qBk (i+1)).filterMap f)),(by rintro σ' H' ⟨a,b⟩;exact ⟨n-(i+1),by lia,a,b,hlt,rfl⟩),?_⟩;rintro x H' ⟨rfl,rfl⟩;show c (σ1.set i0 (some (.int (0+(i:Int))))) _ _;rw[hset];refine step i _ _ _ hlt (fun y hy=>⟨_,aB,?_,?_,?_⟩) fun hno=>⟨?_,?_⟩
  .refine qBp (qDs _ _) ?_;rw[qEl];lia
  .simp
  .rw[rP,qEb,qCq];simp[hy]
  .simp
  .rw[qEb,qCq];simp[hno]
 .left
  obtain rfl:i=n:=qDr hi hge;exact⟨qAl _,h D hD⟩
theorem lR(h0:0<=i)(h1:i<xs.length):∃v,iT xs i=some v/\v∈xs:=by
 have hn:i.toNat<xs.length:=by lia
 refine⟨xs[i.toNat],?_,qDc hn⟩;have z:=bP (xs:=xs) (j:=i.toNat) (qAe hn);rw[qFk h0] at z;exact z
theorem aK.aJ(h:H p=none):aK H (upd H p o):=fun b u e=>by
 rw[aM (bD e h)];exact e
theorem aK.ty{K:qAb}{H H':Hp}{v:V}{t:qAh}(s:aK H H')(h:jT K H v t):jT K H' v t:=by
 cases h with
 | non=>exact .non
 | bl x=>exact .bl x
 | int i=>exact .int i
 | str x=>exact .str x
 | flt x=>exact .flt x
 | lst e=>exact .lst (s _ _ e)
 | frz e=>exact .frz (s _ _ e)
 | tup e=>exact .tup (s _ _ e)
 | dK e=>exact .dK (s _ _ e)
 | dT e=>exact .dT (s _ _ e)
 | ins e cl ha hn htk hm=>exact .ins (s _ _ e) cl ha hn htk hm
theorem gN:qCn "isinstance"=some (.builtin "isinstance"):=by decide +kernel
theorem vX:qCn "int"=some (.type "int"):=by decide +kernel
theorem yG:qCn "bool"=some (.type "bool"):=by decide +kernel
theorem iG:qCn "list"=some (.type "list"):=by decide +kernel
theorem BR:qCn "tuple"=some (.type "tuple"):=by decide +kernel
theorem bS:qCn "len"=some (.builtin "len"):=by decide +kernel
theorem vY:qCn "abs"=some (.builtin "abs"):=by decide +kernel
theorem LX:qCn "ValueError"=some (.type "ValueError"):=by decide +kernel
theorem sI{K:qAb}{C:Addr}(h2:qEo K (.ref C)=some (.type "type"))(h3:qAd K (.ref C) "__getattribute__"=some (some (.builtin "BaseException.__getattribute__")))(h4:qAd K (.ref C) "__getattr__"=some none)
  (h5:qAd K (.ref C) "__class__"=some (some (.builtin "object.__class__"))) (h6:qDd K (.builtin "object.__class__") "__get__"=some (some (.builtin "getset_descriptor.__get__"))) (h7:qFj K (.builtin "object.__class__")=some true)
  (h8:qBm K C (.type "object")=some true) (h9:qBm K C (.type "BaseException")=some true):dM K C:=by
 refine⟨?_,h2,h3,h4,h5,h6,h7,h8,h9⟩;delta qBm at h8;obtain⟨cd,a,_⟩:=Option.bind_eq_some_iff.mp h8;rw[a];rfl
inductive Kd:String->Prop where
 | non:Kd "NoneType"
 | bl:Kd "bool"
 | int:Kd "int"
 | str:Kd "str"
 | tup:Kd "tuple"
 | lst:Kd "list"
 | dic:Kd "dict"
theorem Kd.LY(K:qAb){T:String}(h:Kd T):qDl K (.type T) (.type "int")=some (T == "int" || T == "bool"):=by
 cases h <;> rfl
theorem Kd.Gg(K:qAb){T:String}(h:Kd T):qDl K (.type T) (.type "bool")=some (T == "bool"):=by
 cases h <;> rfl
theorem Kd.LZ(K:qAb){T:String}(h:Kd T):qDl K (.type T) (.type "list")=some (T == "list"):=by
 cases h <;> rfl
theorem Kd.HM(K:qAb){T:String}(h:Kd T):qDl K (.type T) (.type "tuple")=some (T == "tuple"):=by
 cases h <;> rfl
def iL:V->Bool
 | .int _=>true
 | _=>false
structure Pl (K:qAb) (H:Hp) (v:V):Prop where
 ex:∃T,jT K H v (.type T)/\Kd T
theorem Pl.int{K:qAb}{H:Hp}(i:Int):Pl K H (.int i):=⟨_,.int i,.int⟩
theorem Pl.iL{K:qAb}{H:Hp}{v:V}{T:String}(h:jT K H v (.type T)):iL v=(T == "int"):=by
 cases h <;> rfl
theorem Pl.same{K:qAb}{H H':Hp}{v:V}(h:Pl K H v)(s:aK H H'):Pl K H' v:=let ⟨T,a,b⟩:=h.ex;⟨T,s.ty a,b⟩
def mM(lo hi:Int):V->Bool
 | .int i=>decide (lo<=i)&&decide (i<=hi)
 | _=>false
section
variable {X:Cx}{pins:List (Addr×Obj)}{σ:St}{H H':Hp}{s:qAj}{h':Heap}
theorem Inv.yH{t':Nat}{fp:List Addr}(I:Inv X pins σ H s)(k:∀b o,b∉fp->s.heap.get? b=some o->h'.get? b=some o)(hf:∀b∈fp,kH X pins H b):Inv X pins σ H { s with heap:=h',toks:=t' }:=by
 have nit:∀b u,H b=some u->b∉fp:=fun b u e z=>by rw[(hf b z).1] at e;cases e
 refine I.step (g':=s.gens) (d':=s.drawn) (ch:=fp) (fun b hb=>?_) (fun b o _ _ hc e _=>k b o hc e) (fun b o _ _ hc e _=>⟨o.slots,k b o hc e⟩) (fun _ _ _ _ n=>n)
  (fun b o hc e=>⟨o,k b o hc e⟩) (fun _ _ e=>e) (fun _ _ _ e=>e) (fun b ps e=>⟨#[],by rw[e];simp⟩) (fun m hm=>?_) (fun b u e=>?_) I.bare
 .obtain⟨_,f1,_,f3,f4,f5⟩:=hf b hb;exact⟨f3,f1,f4,f5⟩
 .obtain⟨o,es,ep,ho,r⟩:=hm;exact⟨o,es,ep,k _ o (fun z=>(hf _ z).2.1 rfl) ho,r⟩
 .refine(I.cE b u e).iY (fun c v hc q=>k c v ?_ q) (fun _ q=>q) fun _ _ q=>q;rcases hc with z | z
  .rw[z];exact nit b u e
  .exact nit c _ z
end
@[reducible] def QA (A:qCb):qCb:={ A with handled:=none }
section
variable {X:Cx}{k j:Nat}{f:Addr}{fd:qBy}{ps:List Str}{sp:Sp}{x:Str}{p pos:Pos}{e:Expr}{es:List Expr}{t:TA}
end
end L2
namespace L2
open PySem PySem.Spec PyProof.Rows PySem.W PySem.Calls
def Sm(n:Nat)(i:Int):Prop:=i.natAbs<2^n
theorem w_all:∀{ns:List Int}{m:Nat},WData.weightAll (ns.map WData.int)<=m->∀n∈ns,n.natAbs<2^(m+1)
 | [],_,_,n,h=>by cases h
 | x::r,m,h,n,hn=>by
  have h':WData.weight (WData.int x)+1+WData.weightAll (r.map WData.int)<=m:=by
   simpa [WData.weightAll] using h
  rcases List.mem_cons.mp hn with rfl | hn
  .have hx:WData.weight (WData.int n)<=m:=by lia
   have hw:(if n == 0 then 0 else n.natAbs.log2+1)<=m:=by simpa [WData.weight] using hx
   by_cases h0:n=0
   .subst h0;exact Nat.two_pow_pos _
   .have hb:(n == 0)=false:=by simpa using h0
    rw[hb] at hw;have hw2:n.natAbs.log2+1<=m:=by simpa using hw
    have hn0:n.natAbs≠0:=by lia
    exact(qOa hn0).mp (by lia)
  .exact w_all (m:=m) (by lia) n hn
theorem Pr{ns:List Int}(h:WData.layableAll [WData.list (ns.map WData.int)]=true):∀n∈ns,Sm 1048577 n:=by
 have h1:WData.layable (WData.list (ns.map WData.int))=true:=by
  have:=List.all_eq_true.mp h _ (List.mem_singleton.mpr rfl);exact this
 have h2:=(layableW_iff.mp h1).2.2;have h3:WData.weightAll (ns.map WData.int)<=1048576:=by simpa [WData.weight] using h2
 exact w_all h3
theorem sJ{l:OpenLaw}{n:Nat}{q:qBe}{loose:List Str}{XP:(Str->Option qAh)->Heap->Prop}{YP:qCj->Heap->Prop}{d:DefRec}
  (hn:l.most=some n) (hdf:d.params.defaults=[])
  (call:∀(w:qCj) (s₀ s₁:qAj) (mg mb:Str->Option qAh) (fa:Addr) (o:Obj) (pm cd doc:qAh) (a:Addr) (vs:List qAh) (ns:List Int),
   Ground q loose [] XP w s₀ mg mb s₁.heap->YP w s₁.heap ->
   s₁.heap.get? fa=some o->o.data = .func (docDef d.name d.params d.body d.scope pm cd doc)->s₁.heap.CodeRec cd d.name->mg d.name=some (.ref fa) ->
   s₁.heap.get? a=some { cls:=.type "list",data:=.seq vs.toArray }->qJj vs ns->ns.length<=n->(∀i∈ns,Sm 1048577 i)->s₁.gens=#[] ->
   qGk (qBr l.prog w) qKz (.call (.ref fa) ⟨[.ref a],[]⟩) (fun r s'=>r = .ok (.ret (.bool true))/\OldK s₁.heap s'.heap/\s'.os=s₁.os/\qIy s'.gens) s₁) :
  WalkO q loose XP YP l.row.toRowW d [] (fun f vs=>PySem.call f vs):=by
 intro w s₀ s₁ mg mb G Y fa o pm cd doc dV kV ho hd hcd hD hmg hg args vals as hpre hlay hrd hwl hlo;obtain rfl:dV = .none:=Dflts.none hD hdf;obtain rfl:kV = .none:=Dflts.noKw hD;obtain⟨a,vs,ns,rfl,rfl,hobj,hints,hlen⟩:=Att.Ak hn hpre hwl;refine enter_call (qFg (call w s₀ s₁ mg mb fa o pm cd doc a vs ns G Y ho (fd_plain hd) hcd hmg hobj hints hlen (Pr hlay) hg) fun r s' hq=>?_);obtain⟨rfl,h2,h3,h4⟩:=hq;exact⟨.inl ⟨.bool true,.bool true,[],rfl,fun _=>rfl,.bool true,Att.Al l _,fun _=>⟨List.Pairwise.nil,fun _ hm=>(nomatch hm)⟩⟩,h2,h3,h4⟩
theorem BS{l:qLu}{n k:Nat}{q:qBe}{loose:List Str}{XP:(Str->Option qAh)->Heap->Prop}{YP:qCj->Heap->Prop}{d:DefRec}{K:Params->qAb}{CX:qCj->vE}{sp:qCj->Sp}{x:Str}
  (hn:l.most=some n) (hn2:n<=qAg) (hdf:d.params.defaults=[]) (hr:cY k qKz)
  (hY:∀(w:qCj) (h:Heap),YP w h->(K w.params).In h)
  (F:∀(w:qCj) (mg:Str->Option qAh) (fa:Addr) (h:Heap),(K w.params).In h->h.Ns qAu mg->mg d.name=some (.ref fa) ->
   ∃fd:qBy,(∀(s:qAj) (u:qAh),qLb s fd ⟨[u],[]⟩ [(x,u)]) /\
    ∀base:Heap,(K w.params).In base->base.Ns qAu mg->gM l.prog w (K w.params) mg base (CX w) k fa fd [x] (sp w))
  (hsp:∀(w:qCj) (H:Hp) (a:Addr) (ns:List Int),ns.length<=n->(∀i∈ns,Sm 1048577 i)->HG H->bA (K w.params) H a (ns.map V.int)->sp w [.ref a] H (fun v _=>v = .bl true) fun _ _ _=>False)
  (hCX:∀(w:qCj) (H:Hp) (s:qAj) (e:qAh) (s':qAj),CX w [] H s (fun _ _ _=>False) e s'->False) :
  qMj q loose XP YP l.row.toRowW d [] (fun f vs=>PySem.call f vs):=by
 refine sJ hn hdf fun w s₀ s₁ mg mb fa o pm cd doc a vs ns G Y ho hd hcd hmg hobj hints hlen hw hg=>?_;have KX:=hY w _ Y;obtain⟨fd,hb,hF⟩:=F w mg fa _ KX G.T.g hmg;exact BH KX G.T.g G.T.b G.T.builtins G.T.nolimit hg hobj hints (qAk hlen hn2) hr hF hb (fun H hO hS=>hsp w H a ns hlen hw hO hS) fun H e s'=>hCX w H s₁ e s'
theorem BU(P:St->Hp->Prop)(hk:∀σ H,P σ H->u D σ H)(h:(∀σ H,P σ H->u D σ H)->Hq c t e { D with nx:=u D } (σ.set i (some v)) H):a9 i v σ H (Ab (Hq c t e) u D):=h hk
theorem Sm.mono(h:Sm a i)(hab:a<=b):Sm b i:=qAw h (qEj #[1] hab)
theorem Sm.of(a:Nat){b:Nat}(h:i.natAbs<2^a)(hab:a<=b):Sm b i:=Sm.mono (a:=a) h hab
end L2
namespace PySem.SeqAt
open AutoSeq1 (wpAny_loadPart')
open MeetsSeq MeetsSeq2 MeetsSeq3 SeqRoads2
theorem mY(f:Nat->β->Sem (ForInStep β))(I:Nat->β->qAj->Prop)(Q:β->qAj->Prop)(n:Nat)
  (turn:∀i b s,i<n->I i b s->qBq M A (f i b) (fun r s'=>match r with | .yield b'=>I (i+1) b' s' | .done b'=>Q b' s') E s)
  (fin:∀b s,I n b s->Q b s) (b:β) (h:I 0 b s):qBq M A (forIn [0:n] b f) Q E s:=by
 rw[Std.Legacy.Range.forIn_eq_forIn_range'];refine wpAny_forIn_list f (fun rest b s=>∃i,i<=n/\rest=List.range' i (n-i)/\I i b s) Q ?_ ?_ _ b ⟨0,qBn _,?_,h⟩
 .rintro x rest b s ⟨i,hi,hr,hI⟩;have hlt:i<n:=by
   rcases qBj i n with z | z
   .exact z
   .rw[show n-i=0 by lia] at hr;cases hr
  obtain⟨k,hk⟩:∃k,n-i=k+1:=⟨n-i-1,by lia⟩;rw[hk,qMl] at hr;obtain⟨rfl,rfl⟩:=List.cons.inj hr;refine qCm (turn x b s hlt hI) (fun r s' hr=>?_) fun _ _ z=>z;cases r with
  | done b'=>exact hr
  | yield b'=>exact⟨x+1,hlt,by rw[show n-(x+1)=k by lia],hr⟩
 .rintro b s ⟨i,hi,hr,hI⟩;have:i=n:=by
   rcases qBj i n with z | z
   .obtain⟨k,hk⟩:∃k,n-i=k+1:=⟨n-i-1,by lia⟩;rw[hk,qMl] at hr;cases hr
   .lia
  subst this;exact fin _ _ hI
 .simp[Std.Legacy.Range.size]
theorem pT(l:Addr)(items:Array qAh)(n:Nat)(dd:Option Addr)(sl:Array (Option qAh))(x:qAh)(e:qAh->Bool)(j:Nat)(hj:j<items.size)
  (hit:e items[j]=true) (hno:∀m (hm:m<items.size),m<j->e items[m]=false) :
  Meets (Builtin.«tuple.index» ⟨[.ref l,x],[]⟩)
   (fun A R s=>s.heap.get? l=some { cls:=.type "tuple",dict:=dd,data:=.seq items n,slots:=sl }/\(∀y,y∈items->EqAt A.in1 s y x (e y))/\R (.ok (.ret (.int (j:Nat) s.toks))) { s with toks:=s.toks+1 }) :=
 .of_wp fun prog w A R s h=>by
  obtain⟨hp,g,d,tk,os⟩:=s;obtain⟨hl,he,h⟩:=h;wp_walk using wpAny_loadPart' hl,mY _ (fun i b s'=>b.1=none/\s'=⟨hp,g,d,tk,os⟩/\i<=j) _ _
  case turn =>
   rintro i b s' hi ⟨hb,rfl,hij⟩;have hi':i<items.size:=by lia
   rw[qGy hi'];refine qAc (he _ (Array.getElem_mem hi') prog w _ _ ?_);rcases qBj i j with z | z
   .rw[hno i hi' z];wp_walk;exact⟨rfl,rfl,z⟩
   .obtain rfl:i=j:=by lia
    rw[hit];wp_walk;exact⟨_,rfl,h⟩
  case fin =>
   rintro⟨b1,b2⟩ s' ⟨hb,rfl,hij⟩;lia
  case h =>
   exact⟨rfl,rfl,qBn _⟩
end PySem.SeqAt
namespace L2
open PySem PySem.Spec PyProof.Rows
theorem aK.OC{K:qAb}{H H':Hp}{a:Addr}{xs:List V}(e:aK H H')(h:eQ K H a xs):eQ K H' a xs:=by
 rcases h with (h | ⟨o,h⟩) | h
 .exact .inl (.inl (e _ _ h))
 .exact .inl (.inr ⟨o,e _ _ h⟩)
 .exact .inr h
theorem aK.upd_ne'(s:aK H H')(h:H D=none):aK H (upd H' D o):=fun b u e=>by
 rw[aM (bD e h)];exact s b u e
theorem sL(F:α->β):∀xs:List α,((qBk xs.length).filterMap fun i=>(xs[i]?).bind fun x=>some (F x))=xs.map F
 | []=>rfl
 | x::r=>by
  rw[qAn,qKs,qCw,qDt];show F x::_=F x::r.map F;rw[<- sL F r];rfl
theorem eJ(f:α->Option β):∀xs:List α,((qBk xs.length).filterMap fun i=>(xs[i]?).bind f)=xs.filterMap f
 | []=>rfl
 | x::r=>by
  rw[qAn,qKs,qCw,qDt,qCw,<- eJ f r];rfl
theorem Pl.fM{K:qAb}{H:Hp}{x C dx C' dx':Addr}{fs fs':List (Str×V)}{v:V}(h:Pl K H v)(hx:H x=some (.ins C dx fs)):Pl K (upd H x (.ins C' dx' fs')) v:=by
 obtain⟨T,ty,kd⟩:=h.ex;refine⟨T,?_,kd⟩;have at_:∀b o,H b=some o->(∀C dx fs,o≠.ins C dx fs)->upd H x (.ins C' dx' fs') b=some o:=fun b o e n=>by
  rw[aM]
  .exact e
  .rintro rfl;rw[hx] at e;exact n _ _ _ (Option.some.inj e).symm
 cases ty with
 | non=>exact .non
 | bl x=>exact .bl x
 | int i=>exact .int i
 | str x=>exact .str x
 | flt x=>exact .flt x
 | lst e=>exact .lst (at_ _ _ e (by intro _ _ _ z;cases z))
 | frz e=>exact .frz (at_ _ _ e (by intro _ _ _ z;cases z))
 | tup e=>exact .tup (at_ _ _ e (by intro _ _ _ z;cases z))
 | dK e=>exact .dK (at_ _ _ e (by intro _ _ _ z;cases z))
 | dT e=>exact .dT (at_ _ _ e (by intro _ _ _ z;cases z))
def SameBut(x:Addr)(H H':Hp):Prop:=∀b o,b≠x->H b=some o->H' b=some o
theorem aK.but(s:aK H H')(x:Addr):SameBut x H H':=fun b o _ e=>s b o e
theorem SameBut.then(a:SameBut x H H1)(b:aK H1 H2):SameBut x H H2:=fun c o n e=>b c o (a c o n e)
theorem SameBut.iH(a:SameBut x H H1)(u:HO):SameBut x H (upd H1 x u):=fun c o n e=>by rw[aM n];exact a c o n e
theorem SameBut.made(hx:H x=none)(hd:H dx=none)(ne:dx≠x)(s:SameBut x (upd (upd H dx (.own x)) x (.ins C dx [])) H'):aK H H':=fun b o e=>by
 have n1:b≠x:=bD e hx;have n2:b≠dx:=bD e hd;exact s b o n1 (by rw[aM n1,aM n2];exact e)
theorem gM.up{P:qBe}{w:qCj}{K:qAb}{mg:Str->Option qAh}{base:Heap}{k:Nat}{f:Addr}{fd:qBy}{ps:List Str}{sp:Sp}(F:gM P w K mg base dO k f fd ps sp):gM P w K mg base (gA P w) k f fd ps sp :=
 ⟨F.len,fun A outer s H args us vs Q E hr he hb hv hs=>qFg (F.run A outer s H args us vs Q E hr he hb hv hs) fun r s' h=>by
  cases r with
  | error e=>exact False.elim h
  | ok fl=>cases fl <;> exact h⟩
structure Mx (K:qAb) (x qual:Str) (st:Stmt) (ps:List Str) (f:Addr) (fd:qBy):Prop where
 fn:BI K x qual st f fd
 bd:∀us:List qAh,us.length=ps.length->qMc fd ⟨us,[]⟩=pure (ps.zip us)
theorem eT{K:qAb}{x qual:Str}{st:Stmt}{ps:List Str}{f:Addr}{oc:qAh}{od an:Option Addr}{osl:Array (Option qAh)}{kV doc pm cdv ct:qAh}
  (l:K.lookup f=some ⟨oc,od,.func (qBu x qual (bW st) (bG st) (aF st) .none kV doc pm an cdv ct),osl⟩)
  (c:qBt K cdv qual=true) (k:qAv K (.ref f)=true)
  (hb:∀(kV doc pm:qAh) (an:Option Addr) (cdv ct:qAh) (us:List qAh),us.length=ps.length->qMc (qBu x qual (bW st) (bG st) (aF st) .none kV doc pm an cdv ct) ⟨us,[]⟩=pure (ps.zip us)) :
  ∃fd,Mx K x qual st ps f fd:=⟨_,BJ l c k,hb kV doc pm an cdv ct⟩
structure Md (P:qBe) (w:qCj) (K:qAb) (mg:Str->Option qAh) (base:Heap) (k:Nat) (ps:List Str) (sp:Sp) (f:Addr):Prop where
 ex:∃fd,gM P w K mg base (gA P w) k f fd ps sp/\Binds K fd ps []
section
variable {P:qBe}{w:qCj}{K:qAb}{mg:Str->Option qAh}{base:Heap}{x qual:Str}{st:Stmt}{ps N:List Str}{f:Addr}{fd:qBy}{k j:Nat}{sp sp':Sp}
theorem Mx.EF(t:Mx K x qual st ps f fd)(S:aN N ps (aF st))(len:∀vs H Q E,sp vs H Q E->vs.length=ps.length)
  (hbody:∀(cdv:qAh) (A:qCb) (outer:List Env) (s:qAj) (H:Hp) (vs:List V) (Q:VK) (E:XK),cY k (A.deeper (qGf qual (aF st) s.heap.objs.size f cdv))->sp vs H Q E ->
   ∃t,lI (iD dO P w K mg base N qual (aF st) f cdv A outer s H E).Kz (bG st) t/\t { nx:=fun _ H'=>Q .non H',rt:=Q } (start N vs) H):Md P w K mg base (k+1) ps sp f :=
 ⟨fd,(t.fn.ok S len hbody).up,.all t.bd⟩
theorem Mx.Gh(t:Mx K x qual st ps f fd)(S:aN N ps (aF st))(len:∀vs H Q E,sp vs H Q E->vs.length=ps.length)
  (hbody:∀(cdv:qAh) (A:qCb) (outer:List Env) (s:qAj) (H:Hp) (vs:List V) (Q:VK) (E:XK),cY k (A.deeper (qGf qual (aF st) s.heap.objs.size f cdv))->sp vs H Q E ->
   ∃t,lI (iD (gA P w) P w K mg base N qual (aF st) f cdv A outer s H E) (bG st) t/\t { nx:=fun _ H'=>Q .non H',rt:=Q } (start N vs) H):Md P w K mg base (k+1) ps sp f :=
 ⟨fd,t.fn.LU S len hbody,.all t.bd⟩
theorem Md.up(M:Md P w K mg base k ps sp f)(h:k<=j):Md P w K mg base j ps sp f:=let ⟨fd,F,b⟩:=M.ex;⟨fd,⟨F.len,fun A outer s H args us vs Q E hr he hb hv hs=>F.run A outer s H args us vs Q E (hr.mono h) he hb hv hs⟩,b⟩
theorem Md.imp(M:Md P w K mg base k ps sp f)(h:∀vs H Q E,sp' vs H Q E->sp vs H Q E):Md P w K mg base k ps sp' f:=let ⟨fd,F,b⟩:=M.ex;⟨fd,F.imp h,b⟩
end
structure Gi (K:qAb) (C:Addr) (m:Str) (f:Addr):Prop where
 ga:qDd K (.ref C) "__getattribute__"=some (some (.builtin "type.__getattribute__"))
 rd:qHo K C (.type "type")=true
 at_:qHq K (.ref C) (.type "type") m=some (.val (.ref f))
 kp:qAv K (.ref f)=true
section
variable {X:Cx}{Ex:XS}{k j:Nat}{f C:Addr}{ps:List Str}{sp:Sp}{x m:Str}{p pos apos:Pos}{e o:Expr}{es:List Expr}{ta:TE}{t:TA}
theorem qP(R:Pass X Ex)(hg:Gl X x)(hm:X.mg x=some (.ref C))(M:Gi X.K C m f)(F:Md X.prog X.w X.K X.mg X.base k ps sp f)(hr:cY j X.A)(hj:k<=j)(ha:PA X (e::es) t)
  (hdb:(x == ("__debug__":Str))=false:=by decide)
  (hst:qBl (e::es) X.env=(false,eval e X.env)::qBl es X.env:=by rfl) (hpl:(qFc pos (qBl es X.env)).any (·.1)=false:=by rfl)
  (ht:eval (.Call (.Attribute (.Name x p) m apos) (e::es) [] pos) X.env=(do
   let ov <- eval (.Name x p) X.env
   qIf apos.atName
   let (f,first) <- qIx [ov] (qJs ov m pl)
   qNk pos f first (qFc pos (qBl (e::es) X.env)) (qGz pos (qFb [] X.env))):=by rfl) :
  PE X (.Call (.Attribute (.Name x p) m apos) (e::es) [] pos) (sE sp [] Ex t):=by
 intro pins s σ H Q I h;obtain⟨fd,F,hb⟩:=F.ex;refine qHp (pl:=pl) (bT (bO (v:=.ref C) hg hm rfl hdb pins s σ H (fun v H'=>v = .ref C/\H'=H) I ⟨rfl,rfl⟩) fun u s1 z9=>?_) ht;obtain⟨x,H1,I1,rx,ex,eH⟩:=z9;subst ex eH;obtain rfl:u=Value.ref C:=rx;refine qLc I1.gL M.ga (qLk I1.gL M.rd M.at_ rfl ?_);refine qEx (first:=[]) (h₀:=X.base) I.ok.mod.Ea M.kp (bT (ha pos pins _ σ _ _ (I1.tok _) h) fun us s2 ⟨vs,H2,I2,r,q2⟩=>⟨I2.gL,?_⟩) hst hpl;exact sF R F (hr.mono hj) hb .nil I2 r q2
def BV(K:qAb)(MO:Addr->Sp->Prop)(m:Str)(Ex:XS)(ta:TE)(t:TA):TE:=fun σ H Q=>ta σ H fun x H1=>∃a C dx fs g sp,x = .ref a/\H1 a=some (.ins C dx fs)/\fs.lookup m=none/\Aj K C/\Meth K C m g/\MO g sp /\
 t σ H1 fun vs H2=>sp (x::vs) H2 Q fun c _ H'=>Ex c σ H'
theorem qQ(R:Pass X Ex)(he:PE X o ta)(hr:cY j X.A)(hj:k<=j)
  (ht:eval (.Call (.Attribute o m apos) [] [] pos) X.env=(do
   let ov <- eval o X.env
   qIf apos.atName
   let (f,first) <- qIx [ov] (qJs ov m pl)
   qNk pos f first (qFc pos (qBl [] X.env)) (qGz pos (qFb [] X.env))):=by rfl) :
  PE X (.Call (.Attribute o m apos) [] [] pos) (BV X.K (fun g sp=>∃ps,Md X.prog X.w X.K X.mg X.base k ps sp g) m Ex ta mV):=by
 intro pins s σ H Q I h;refine qHp (pl:=pl) (bT (he pins s σ H _ I h) fun u s1 z9=>?_) ht;obtain⟨x,H1,I1,rx,a,C,dx,fs,g,sp,ex,ea,l,c,hm,⟨ps,F⟩,q⟩:=z9;subst ex;obtain rfl:u=Value.ref a:=rx;obtain⟨fd,F,hb⟩:=F.ex;refine vO I1 ea c hm l ?_;exact PySem.W.callWith_K0 (first:=[.ref a]) I1.gL hm.kp (sF (us:=[.ref a]) (vs:=[.ref a]) R F (hr.mono hj) hb .nil I1 (.cons rfl .nil) q)
def HN(C:Addr)(sp:Sp)(Ex:XS)(t:TA):TE:=fun σ H Q=>t σ H fun vs H1=>∀x dx,H1 x=none->H1 dx=none->dx≠x ->
 sp (.ref x::vs) (upd (upd H1 dx (.own x)) x (.ins C dx [])) (fun v H2=>v = .non/\Q (.ref x) H2) fun c _ H'=>Ex c σ H'
theorem An(R:Pass X Ex)(M:Mk X.K C f)(F:gM X.prog X.w X.K X.mg X.base (gA X.prog X.w) k f fd ps sp)(hr:cY (k+1) X.A)(hb:Binds X.K fd ps [])
  (I:Inv X pins σ H s) (r:Vals vs us)
  (h:∀x dx,H x=none->H dx=none->dx≠x->sp (.ref x::vs) (upd (upd H dx (.own x)) x (.ins C dx [])) (fun v H2=>v = .non/\Q (.ref x) H2) fun c _ H'=>Ex c σ H') :
  qBq (qBr X.prog X.w) X.A (call (.ref C) us) (EP X pins σ Q) X.xe s:=by
 have hq:=h (s.heap.objs.size+1) s.heap.objs.size (I.cE.fresh (qIt _)) (I.cE.fresh (qAl _)) (qBi (qJn _));have I2:=Inv.made (C:=C) I;have r2:Vals (V.ref (s.heap.objs.size+1)::vs) (Value.ref (s.heap.objs.size+1)::us):=.cons rfl r;have hl:(Value.ref (s.heap.objs.size+1)::us).length=ps.length:=by
  have e:=r2.length;rw[F.len _ _ _ _ hq] at e;exact e.symm
 have hb2:=hb { s with heap:=(s.heap.push qDf).push (qDy C s.heap.objs.size) } (Value.ref (s.heap.objs.size+1)::us) I2.gL (by rw[qBx];exact hl);rw[qBx] at hb2;refine qEv (BA (f:=f) I.gL M.makes M.init (beq_iff_eq.mp M.fn) (qFg (F.run _ X.stack _ _ ⟨Value.ref (s.heap.objs.size+1)::us,[]⟩ (Value.ref (s.heap.objs.size+1)::us) _ _ _ (hr.make C us [])
  (I2.BB.make C us []) hb2 r2 hq) fun r s' hq'=>?_))
 cases r with
 | error ev =>
  obtain⟨e,C',H',rfl,Fl,cn,q⟩:=hq';exact R.on pins σ _ _ e C' H' s' I2 Fl cn q
 | ok fl =>
  cases fl with
  | ret u =>
   obtain⟨v,H',I3,rv,ev,q3⟩:=I2.after hq';subst ev;exact⟨rv,⟨V.ref (s.heap.objs.size+1),H',I3,rfl,q3⟩⟩
  | next=>exact False.elim hq'
  | brk=>exact False.elim hq'
  | cont=>exact False.elim hq'
theorem fG(R:Pass X Ex)(M:Mk X.K C f)(F:Md X.prog X.w X.K X.mg X.base k ps sp f)(hr:cY j X.A)(hj:k+1<=j)(hg:Gl X x)(hm:X.mg x=some (.ref C))
  (ha:PA X (e::es) t) (hdb:(x == ("__debug__":Str))=false:=by decide) (he:qBl (e::es) X.env=(false,eval e X.env)::qBl es X.env:=by rfl) (hpl:(qFc pos (qBl es X.env)).any (·.1)=false:=by rfl) :
  PE X (.Call (.Name x p) (e::es) [] pos) (HN C sp Ex t):=by
 intro pins s σ H Q I h;obtain⟨fd,F,hb⟩:=F.ex;refine qDx (fK I hg hm ?_ hdb);refine qEx (h₀:=X.base) I.ok.mod.Ea M.kp (bT (ha pos pins s σ H _ I h) fun us s1 ⟨vs,H1,I1,r,q⟩=>⟨I1.gL,?_⟩) he hpl;exact An R M F (hr.mono hj) hb I1 r q
end
structure HP (K:qAb) (C:Addr):Prop where
 cl:Aj K C
 ca:qAd K (.ref C) "__class__"=some (some (.builtin "object.__class__"))
 cg:qDd K (.builtin "object.__class__") "__get__"=some (some (.builtin "getset_descriptor.__get__"))
 ct:qFj K (.builtin "object.__class__")=some true
 mo:qBm K C (.type "object")=some true
section
variable {X:Cx}
theorem BW(hh:X.calm=true):eD X (.builtin "sum") (fun xs H Q=>∃(p:Addr) (ns:List Int),xs=[.ref p]/\(bA X.K H p (ns.map V.int)\/eQ X.K H p (ns.map V.int))/\Q (.int ns.sum) H):=by
 intro pins s σ H xs us Q I r h;obtain⟨p,ns,rfl,hq,q⟩:=h;obtain⟨u,rfl,rx⟩:=vals1 r;cases rx;rcases hq with hq | hq
 .obtain⟨its,r',pl,hz⟩:=I.list hq;have hi:=intsAre_of r';obtain⟨xs,hx⟩:=hi.allInts.items;have hl':s.heap.IsList p (intItems xs):=hx▸pl.isList;refine sum_intListG (I.ok.hd hh) hl' fun h' tk t' hk=>?_;have e1:ns=xs.toList.map (·.1):=by
   rw[<- nums_intItems,<- hx];exact(show numsOf its.toArray.toList=ns from hi.numsOf).symm
  have e2:preSum (numAt xs) xs.size=ns.sum:=by
   rw[preSum_eq,qDb (by simp),e1]
  rw[e2];exact⟨.int ns.sum,H,I.kept (t':=tk) hk,⟨_,rfl⟩,q⟩
 .obtain⟨its,r',pl,hz⟩:=I.tuple hq;have hi:=intsAre_of r';obtain⟨xs,hx⟩:=hi.allInts.items;have hl':s.heap.IsTuple p (intItems xs):=hx▸pl;refine PySem.W.ktm_sumG (I.ok.hd hh) hl' fun h' tk t' hk=>?_;have e1:ns=xs.toList.map (·.1):=by
   rw[<- nums_intItems,<- hx];exact(show numsOf its.toArray.toList=ns from hi.numsOf).symm
  have e2:preSum (numAt xs) xs.size=ns.sum:=by
   rw[preSum_eq,qDb (by simp),e1]
  rw[e2];exact⟨.int ns.sum,H,I.kept (t':=tk) hk,⟨_,rfl⟩,q⟩
theorem mO:∀{us:List qAh},Vals (bs.map V.bl) us->LSm.BoolsAre us bs:=by
 induction bs with
 | nil=>intro us h;cases h;exact .nil
 | cons b bs ih =>
  intro us h;cases h with
  | cons r t=>cases r;exact .cons b (ih t)
theorem oA(hh:X.calm=true):eD X (.builtin "all") (fun xs H Q=>∃(p:Addr) (bs:List Bool),xs=[.ref p]/\bA X.K H p (bs.map V.bl)/\Q (.bl (bs.all id)) H):=by
 intro pins s σ H xs us Q I r h;obtain⟨p,bs,rfl,hq,q⟩:=h;obtain⟨u,rfl,rx⟩:=vals1 r;cases rx;obtain⟨its,r',pl,hz⟩:=I.list hq;have hb:=mO r';have hl:=pl.isList;have hlt:p<s.heap.objs.size:=by obtain⟨_,e,_⟩:=hl;exact qAt e
 refine call_all_walk (qEt hl ?_);refine⟨s.heap.objs.size,[s.heap.objs.size,p],[s.heap.objs.size],its.toArray.size,_,_,fun i=>(bs[i]?).getD true,rfl,Walks.list (A:=X.A.in1) (I.ok.hd hh) _ p (qBi hlt) its.toArray,
  ⟨⟨_,qBh _ rfl,rfl,rfl⟩,hl.push _⟩,fun i v s' Q' E' hP hQ=>?_,fun h' tk hk=>?_⟩
 .obtain⟨b,e,rfl⟩:=hb.get i v (by simpa using hP);simp only[e,qLv] at hQ;exact qCr hQ
 .have e:((qBk its.toArray.size).all fun i=>(bs[i]?).getD true)=bs.all id:=by
   rw[qBc,hb.length];exact LSm.range_all bs
  rw[e];exact⟨.bl _,H,I.kept (t':=tk) (LSm.kept_iter hk),rfl,q⟩
theorem tY(hh:X.calm=true):eD X (.builtin "any") (fun xs H Q=>∃(p:Addr) (bs:List Bool),xs=[.ref p]/\bA X.K H p (bs.map V.bl)/\Q (.bl (bs.any id)) H):=by
 intro pins s σ H xs us Q I r h;obtain⟨p,bs,rfl,hq,q⟩:=h;obtain⟨u,rfl,rx⟩:=vals1 r;cases rx;obtain⟨its,r',pl,hz⟩:=I.list hq;have hb:=mO r';have hl:=pl.isList;have hlt:p<s.heap.objs.size:=by obtain⟨_,e,_⟩:=hl;exact qAt e
 refine call_any_walk (qEt hl ?_);refine⟨s.heap.objs.size,[s.heap.objs.size,p],[s.heap.objs.size],its.toArray.size,_,_,fun i=>(bs[i]?).getD false,rfl,Walks.list (A:=X.A.in1) (I.ok.hd hh) _ p (qBi hlt) its.toArray,
  ⟨⟨_,qBh _ rfl,rfl,rfl⟩,hl.push _⟩,fun i v s' Q' E' hP hQ=>?_,fun h' tk hk=>?_⟩
 .obtain⟨b,e,rfl⟩:=hb.get i v (by simpa using hP);simp only[e,qLv] at hQ;exact qCr hQ
 .have e:((qBk its.toArray.size).any fun i=>(bs[i]?).getD false)=bs.any id:=by
   rw[qBc,hb.length];exact LSm.range_any bs
  rw[e];exact⟨.bl _,H,I.kept (t':=tk) (LSm.kept_iter hk),rfl,q⟩
theorem HQ:qCn "sum"=some (.builtin "sum"):=by decide +kernel
theorem vZ:qCn "all"=some (.builtin "all"):=by decide +kernel
theorem BX:qCn "any"=some (.builtin "any"):=by decide +kernel
def EG(K:qAb):V->List V->Hp->VK->Prop:=fun x vs H Q=>∃(p:Addr) (ns:List Int) (i:Int) (j:Nat),x = .ref p/\vs=[.int i]/\eQ K H p (ns.map V.int)/\ns[j]?=some i/\(∀m,m<j->ns[m]?≠some i)/\Q (.int (j:Nat)) H
def QY(i:Int)(u:qAh):Bool:=match u with
 | .int k _=>k == i
 | _=>false
theorem fU:Eb X "list.append" rZ:=lQ
theorem BY:Eb X "tuple.index" (EG X.K):=by
 intro pins s σ H x vs v us Q I rx rv h;obtain⟨p,ns,i,j,rfl,rfl,hq,hj,hno,q⟩:=h;cases rx;obtain⟨u,rfl,ru⟩:=rv.one;obtain⟨t,rfl⟩:=(show ∃t,u=Value.int i t from ru);obtain⟨its,r',pl,hz⟩:=I.tuple hq;have hi:=intsAre_of r';obtain⟨⟨oc,od,odt,osl⟩,h1,h2,n,h3⟩:=id pl;dsimp only at h2 h3;subst h2 h3;have at_:∀(m:Nat) (k:Int),ns[m]?=some k->∃t,its[m]?=some (.int k t):=fun m k hm=>by
  obtain⟨u,hu,ru⟩:=r'.get (i:=m) (x:=.int k) (by rw[qAs,hm];rfl);obtain⟨t,rfl⟩:=(show ∃t,u=Value.int k t from ru);exact⟨t,hu⟩
 have hl:=r'.length;rw[qAa] at hl;obtain⟨t1,ht1⟩:=at_ j i hj;have hjl:j<its.length:=by
  rcases qBj j its.length with z | z
  .exact z
  .rw[qDq z] at ht1;cases ht1
 refine qHv F.slot_tuple_index ⟨_,h1,rfl⟩ F.entry_tuple_index (F.args_tuple_index_2 _ _) (SeqAt.pT p its.toArray n od osl (.int i t) (QY i) j (by simpa using hjl) ?_ fun m hm hmj=>?_) ⟨h1,fun y hy=>?_,?_⟩
 .have e:its.toArray[j]'(by simpa using hjl) = .int i t1:=by
   have:=qAe hjl;rw[ht1] at this;simpa using (Option.some.inj this).symm
  rw[e];show(i == i)=true;simp
 .have hml:m<its.length:=by simpa using hm
  have hmn:m<ns.length:=by lia
  obtain⟨t2,ht2⟩:=at_ m _ (qAe hmn);have e:its.toArray[m]'hm = .int ns[m] t2:=by
   have:=qAe hml;rw[ht2] at this;simpa using (Option.some.inj this).symm
  rw[e];show(ns[m] == i)=false;rw[beq_eq_false_iff_ne];intro z;exact hno m hmj (by rw[qAe hmn,z])
 .have hy':y∈its:=by simpa using hy
  obtain⟨m,hm,e⟩:=qIq hy';have hmn:m<ns.length:=by lia
  obtain⟨t2,ht2⟩:=at_ m _ (qAe hmn);rw[qAe hm,e] at ht2;obtain rfl:y = .int ns[m] t2:=Option.some.inj ht2;exact SeqAt.EqAt.int_int _ _ _ _
 .exact⟨.int (j:Nat),H,I.tok _,⟨_,rfl⟩,q⟩
mutual
inductive Dat (K:qAb) (H:Hp):V->qGr->Prop
 | int (i:Int):Dat K H (.int i) (.int i)
 | lst {p:Addr}{xs:List V}{ds:List qGr}:bA K H p xs->DatAll K H xs ds->Dat K H (.ref p) (.list ds)
 | tup {p:Addr}{xs:List V}{ds:List qGr}:eQ K H p xs->DatAll K H xs ds->Dat K H (.ref p) (.tuple ds)
inductive DatAll (K:qAb) (H:Hp):List V->List qGr->Prop
 | nil:DatAll K H [] []
 | cons {x:V}{d:qGr}{xs:List V}{ds:List qGr}:Dat K H x d->DatAll K H xs ds->DatAll K H (x::xs) (d::ds)
end
end
def Pt(K:qAb)(tl:TE):TI:=fun σ H R=>tl σ H fun x H1=>∃a,x = .ref a/\(((∃xs,bA K H1 a xs)/\R (pO K a) H1)\/((∃xs,eQ K H1 a xs)/\R (Lx K a) H1))
theorem HR(hl:PE X l tl):PI X tg l (Pt X.K tl):=by
 intro pins s σ H R I h;refine bT (hl pins s σ H _ I h) fun v s1 z9=>?_;obtain⟨x,H1,I1,r1,q1⟩:=z9;obtain⟨a,e,q⟩:=q1;subst e;cases r1;rcases q with ⟨⟨xs,hq⟩,q⟩ | ⟨⟨xs,hq⟩,q⟩
 .obtain⟨its,rv,p,hz⟩:=I1.list hq;refine qEt p.isList ?_;refine⟨s1.heap.objs.size,[s1.heap.objs.size],_,_,H1,rfl,I1.kept (t':=s1.toks) fun b o e=>qAi _ e,qB a _,⟨_,qBh _ rfl,rfl,rfl⟩,fun b hb=>?_,q⟩;have e:b=s1.heap.objs.size:=by simpa using hb
  subst e;exact I1.Ac (qAl _) (I1.cE.fresh (qAl _))
 .obtain⟨its,rv,p,hz⟩:=I1.tuple hq;refine wpAny_pyIter_tuple (show s1.heap.IsTuple a its.toArray from p) ?_;refine⟨s1.heap.objs.size,[s1.heap.objs.size],_,_,H1,rfl,I1.kept (t':=s1.toks) fun b o e=>qAi _ e,vG a _,⟨_,qBh _ rfl,rfl,rfl⟩,fun b hb=>?_,q⟩;have e:b=s1.heap.objs.size:=by simpa using hb
  subst e;exact I1.Ac (qAl _) (I1.cE.fresh (qAl _))
theorem kN{prog:qBe}{w:qCj}{A:qCb}{E:qAh->qAj->Prop}{s:qAj}{t sl:Addr}{items:Array qAh}{vl vu:qAh}{lo hi:Option Int}{Q:qAh->qAj->Prop}(ht:IsTup s.heap t items)(hs:s.heap.IsSliceOf sl vl vu .none)(pl:qJt vl lo)(pu:qJt vu hi)
  (h0:HT.eN items.size 0 lo=0) (h1:HT.eN items.size items.size hi=items.size)
  (h:Q (.ref t) s):qBq (qBr prog w) A (qKc (.ref t) (.ref sl)) Q E s:=by
 obtain⟨os,hos,hcs,hds⟩:=id hs;have hTs:s.TypeIs (.ref sl) "slice":=⟨os,hos,hcs⟩;delta qKc;try with_reducible refine qCx ?_
 first | refine qAc (qAo ?_) | skip
 refine qAc (wpAny_sequenceKey ht.typeIs #[1] ?_);refine qAc (wpAny_callSpecial?_slot (name:=Str.ofString "__getitem__") ht.typeIs qEc
  (wpAny_call_entry qEc ht.typeIs entry_tuple_getitem ?_ (args_tuple_getitem _ _)))
 show qBq _ _ (Builtin.Tuple.tupleItemsOf (.ref t) >>= _) _ _ s;refine qAc (tupleItemsOf_ ht ?_);refine qAc (wpAny_typeOf hTs ?_);rw[if_pos (by decide)];refine qAc (HT.gS hs pl pu ?_);have hy:(((HT.eN items.size 0 lo:Nat):Int) == 0&&(1:Int) == 1&&(HT.eN items.size items.size hi-HT.eN items.size 0 lo) == items.size)=true:=by
  rw[h0,h1];simp
 show qBq _ _ (if (((HT.eN items.size 0 lo:Nat):Int) == 0&&(1:Int) == 1&&(HT.eN items.size items.size hi-HT.eN items.size 0 lo) == items.size)=true then _ else _) _ _ s;rw[if_pos hy];refine qAc (m:=Builtin.Tuple.tupleIsExact (.ref t)) ?_;delta Builtin.Tuple.tupleIsExact;refine qAc (wpAny_typeOf ht.typeIs (qAo ?_));rw[if_pos (by decide)];first
  | exact qAc (wpAny_rule (qAo ⟨_,rfl,qAo h⟩))
  | exact qAc (wpAny_rule (qAc (qAo (qAo ⟨_,rfl,qAo h⟩))))
def Pu(K:qAb):V->Option Int->Option Int->Hp->VK->Prop:=fun x lo hi H Q=>∃a xs,x = .ref a/\eQ K H a xs/\∀p H',aK H H'->eQ K H' p (eE xs lo hi)->Q (.ref p) H'
theorem yI:KC X (Pu X.K):=by
 intro pins s σ H x v vl vu lo hi sl Q I rx hs pl pu h;obtain⟨a,xs,rfl,hx,q⟩:=h;by_cases hw:HT.eN xs.length 0 lo=0/\HT.eN xs.length xs.length hi=xs.length
 .cases rx
  obtain⟨its,r,ht,hz⟩:=I.tuple hx;have hlen:its.toArray.size=xs.length:=by rw[qBc];exact r.length.symm
  exists "tuple",_,PyProof.Rows.slot_tuple_getitem.lookup,ht.typeIs;refine kN ht hs pl pu (by rw[hlen];exact hw.1) (by rw[hlen];exact hw.2) ⟨.ref a,H,I,rfl,q a H (.refl H) ?_⟩;delta eE;rw[hw.1,hw.2,qKh,qNw,qJk];exact hx
 .exact HB pins s σ H (.ref a) v vl vu lo hi sl Q I rx hs pl pu ⟨a,xs,rfl,hx,hw,fun p hp=>q p _ (.aJ hp) (eQ.of aB)⟩
section
variable {K:qAb}{a:Addr}{xs:List V}{σ0:St}{H1:Hp}{i0:Nat}{c:TT}{te:TE}{Q:Addr->Hp->Prop}
theorem eG(f:Nat->V->Option V)(hq:bA K H1 a xs)(hn:xs.length<=qAg)
  (step:∀(i:Nat) (x:V) (H2:Hp) (k:VK) (k0:Hp->Prop),aK H1 H2->xs[i]?=some x->(∀y,f i x=some y->∀H3,aK H2 H3->k y H3)->(f i x=none->∀H3,aK H2 H3->k0 H3) ->
   c (σ0.set i0 (some x)) H2 fun b H4=>if b=true then te (σ0.set i0 (some x)) H4 k else k0 H4)
  (h:∀D H2,H1 D=none->aK H1 H2->H2 D=some (.lst ((qBk xs.length).filterMap fun i=>(xs[i]?).bind (f i)))->Q D H2) :
  ∀D,H1 D=none->∃W:Nat->Nat->St->Hp->Prop,(∃m,W 0 m σ0 (upd H1 D (.lst [])))/\∀i m σ1 H2,W i m σ1 H2 ->
   ((pO K a).stop i H2/\Q D H2)\/((pO K a).go i H2/\∃N:St->Hp->Prop,(∀σ' H',N σ' H'->∃m',m'<m/\W (i+1) m' σ' H') /\
    ∀x H',(pO K a).vF i H2 x H'->a9 i0 x σ1 H' fun σ2 H3=>c σ2 H3 fun b H4=>if b=true then te σ2 H4 fun y H5=>∃xs,H5 D=some (.lst xs)/\xs.length<qAg/\N σ2 (upd H5 D (.lst (xs++[y]))) else N σ2 H4):=by
 intro D hD;exists fun i m σ1 H2=>σ1.set i0 none=σ0.set i0 none/\aK H1 H2/\H2 D=some (.lst ((qBk i).filterMap fun i=>(xs[i]?).bind (f i)))/\i<=xs.length/\m=xs.length-i,⟨xs.length,rfl,.aJ hD,aB,qBn _,rfl⟩;rintro i m σ1 H2 ⟨hσ,hs,hd,hi,rfl⟩;have hset:∀v:Option V,σ1.set i0 v=σ0.set i0 v:=fun v=>by
  have z:=congrArg (fun l=>qIz l i0 v) hσ;simpa using z
 rcases qBj i xs.length with hlt | hge
 .right
  refine⟨⟨xs,xs[i],hs.seq hq,by simp[hlt]⟩,fun σ' H'=>σ'.set i0 none=σ0.set i0 none/\aK H1 H'/\H' D=some (.lst ((qBk (i+1)).filterMap fun i=>(xs[i]?).bind (f i))),(by rintro σ' H' ⟨a,b,c⟩;exact ⟨xs.length-(i+1),by lia,a,b,c,hlt,rfl⟩),?_⟩;rintro x H' ⟨rfl,hx⟩;have hx:=hx xs (hs.seq hq);show c (σ1.set i0 (some x)) _ _;rw[hset];refine step i x _ _ _ hs hx (fun y hy H3 hs3=>⟨_,hs3 _ _ hd,?_,?_,?_,?_⟩) fun hno H3 hs3=>⟨?_,hs.trans hs3,?_⟩
  .refine qBp (qDs _ _) ?_;rw[qEl];lia
  .simp
  .refine(hs.trans hs3).upd_ne' hD
  .rw[aB,qEb,qCq];simp[hx,hy]
  .simp
  .rw[hs3 _ _ hd,qEb,qCq];simp[hx,hno]
 .left
  obtain rfl:i=xs.length:=qDr hi hge;exact⟨⟨xs,hs.seq hq,qAl _⟩,h D _ hD hs hd⟩
theorem BZ(f:Nat->V->Option V)(hq:eQ K H1 a xs)(hn:xs.length<=qAg)
  (step:∀(i:Nat) (x:V) (H2:Hp) (k:VK) (k0:Hp->Prop),aK H1 H2->xs[i]?=some x->(∀y,f i x=some y->∀H3,aK H2 H3->k y H3)->(f i x=none->∀H3,aK H2 H3->k0 H3) ->
   c (σ0.set i0 (some x)) H2 fun b H4=>if b=true then te (σ0.set i0 (some x)) H4 k else k0 H4)
  (h:∀D H2,H1 D=none->aK H1 H2->H2 D=some (.lst ((qBk xs.length).filterMap fun i=>(xs[i]?).bind (f i)))->Q D H2) :
  ∀D,H1 D=none->∃W:Nat->Nat->St->Hp->Prop,(∃m,W 0 m σ0 (upd H1 D (.lst [])))/\∀i m σ1 H2,W i m σ1 H2 ->
   ((Lx K a).stop i H2/\Q D H2)\/((Lx K a).go i H2/\∃N:St->Hp->Prop,(∀σ' H',N σ' H'->∃m',m'<m/\W (i+1) m' σ' H') /\
    ∀x H',(Lx K a).vF i H2 x H'->a9 i0 x σ1 H' fun σ2 H3=>c σ2 H3 fun b H4=>if b=true then te σ2 H4 fun y H5=>∃xs,H5 D=some (.lst xs)/\xs.length<qAg/\N σ2 (upd H5 D (.lst (xs++[y]))) else N σ2 H4):=by
 intro D hD;exists fun i m σ1 H2=>σ1.set i0 none=σ0.set i0 none/\aK H1 H2/\H2 D=some (.lst ((qBk i).filterMap fun i=>(xs[i]?).bind (f i)))/\i<=xs.length/\m=xs.length-i,⟨xs.length,rfl,.aJ hD,aB,qBn _,rfl⟩;rintro i m σ1 H2 ⟨hσ,hs,hd,hi,rfl⟩;have hset:∀v:Option V,σ1.set i0 v=σ0.set i0 v:=fun v=>by
  have z:=congrArg (fun l=>qIz l i0 v) hσ;simpa using z
 rcases qBj i xs.length with hlt | hge
 .right
  refine⟨⟨xs,xs[i],hs.OC hq,by simp[hlt]⟩,fun σ' H'=>σ'.set i0 none=σ0.set i0 none/\aK H1 H'/\H' D=some (.lst ((qBk (i+1)).filterMap fun i=>(xs[i]?).bind (f i))),(by rintro σ' H' ⟨a,b,c⟩;exact ⟨xs.length-(i+1),by lia,a,b,c,hlt,rfl⟩),?_⟩;rintro x H' ⟨rfl,hx⟩;have hx:=hx xs (hs.OC hq);show c (σ1.set i0 (some x)) _ _;rw[hset];refine step i x _ _ _ hs hx (fun y hy H3 hs3=>⟨_,hs3 _ _ hd,?_,?_,?_,?_⟩) fun hno H3 hs3=>⟨?_,hs.trans hs3,?_⟩
  .refine qBp (qDs _ _) ?_;rw[qEl];lia
  .simp
  .refine(hs.trans hs3).upd_ne' hD
  .rw[aB,qEb,qCq];simp[hx,hy]
  .simp
  .rw[hs3 _ _ hd,qEb,qCq];simp[hx,hno]
 .left
  obtain rfl:i=xs.length:=qDr hi hge;exact⟨⟨xs,hs.OC hq,qAl _⟩,h D _ hD hs hd⟩
end
section
variable {X:Cx}
theorem HS:qCn "min"=some (.builtin "min"):=by decide +kernel
end
section
variable {K:qAb}{lo:Int}{n:Nat}{σ0:St}{H1:Hp}{i0:Nat}{c:TT}{te:TE}{Q:Addr->Hp->Prop}
end
section
variable {X:Cx}
theorem v7:qCn "str"=some (.type "str"):=by decide +kernel
theorem HU:qCn "max"=some (.builtin "max"):=by decide +kernel
end
theorem EH:qCn "enumerate"=some (.type "enumerate"):=by decide +kernel
section
variable {K:qAb}{a a':Addr}{xs ys:List V}{σ0:St}{H1:Hp}{g:TG}{c:TT}{te:TE}{Q:Addr->Hp->Prop}
end
section
variable {X:Cx}
end
section
variable {K:qAb}{a:Addr}{xs:List V}{lo:Int}{n:Nat}{σ0:St}{H1:Hp}{i0:Nat}{c:TT}{te:TE}{Q:Addr->Hp->Prop}
def fI(H H':Hp):Prop:=∀b xs,H b=some (.tup xs)->H' b=some (.tup xs)
theorem aK.t(s:aK H H'):fI H H':=fun _ _ e=>s _ _ e
theorem fI.lst(h:H D=some (.lst ys)):fI H (upd H D o):=fun b xs e=>by
 rw[aM fun q=>by subst q;rw[h] at e;cases e];exact e
theorem Ao(R:Nat->V->Hp->Prop)(mono:∀i y H H',fI H H'->R i y H->R i y H')(hn:n<=qAg)
  (step:∀(i:Nat) (H2:Hp) (k:VK) (k0:Hp->Prop),aK H1 H2->i<n->(∀y H3,aK H2 H3->R i y H3->k y H3) ->
   c (σ0.set i0 (some (.int (lo+(i:Int))))) H2 fun b H4=>if b=true then te (σ0.set i0 (some (.int (lo+(i:Int))))) H4 k else k0 H4)
  (h:∀D ys H2,H1 D=none->aK H1 H2->ys.length=n->(∀i y,ys[i]?=some y->R i y H2)->H2 D=some (.lst ys)->Q D H2) :
  ∀D,H1 D=none->∃W:Nat->Nat->St->Hp->Prop,(∃m,W 0 m σ0 (upd H1 D (.lst [])))/\∀i m σ1 H2,W i m σ1 H2 ->
   ((Ad lo n).stop i H2/\Q D H2)\/((Ad lo n).go i H2/\∃N:St->Hp->Prop,(∀σ' H',N σ' H'->∃m',m'<m/\W (i+1) m' σ' H') /\
    ∀x H',(Ad lo n).vF i H2 x H'->a9 i0 x σ1 H' fun σ2 H3=>c σ2 H3 fun b H4=>if b=true then te σ2 H4 fun y H5=>∃xs,H5 D=some (.lst xs)/\xs.length<qAg/\N σ2 (upd H5 D (.lst (xs++[y]))) else N σ2 H4):=by
 intro D hD;refine⟨fun i m σ1 H2=>σ1.set i0 none=σ0.set i0 none/\aK H1 H2/\(∃ys,ys.length=i/\(∀j y,ys[j]?=some y->R j y H2)/\H2 D=some (.lst ys))/\i<=n/\m=n-i,⟨n,rfl,.aJ hD,⟨[],rfl,fun j y e=>(by cases e),aB⟩,qBn _,rfl⟩,?_⟩;rintro i m σ1 H2 ⟨hσ,hs,⟨ys,hy,hR,hd⟩,hi,rfl⟩;have hset:∀v:Option V,σ1.set i0 v=σ0.set i0 v:=fun v=>by
  have z:=congrArg (fun l=>qIz l i0 v) hσ;simpa using z
 rcases qBj i n with hlt | hge
 .right
  refine⟨hlt,fun σ' H'=>σ'.set i0 none=σ0.set i0 none/\aK H1 H'/\∃ys,ys.length=i+1/\(∀j y,ys[j]?=some y->R j y H')/\H' D=some (.lst ys),(by rintro σ' H' ⟨a,b,c⟩;exact ⟨n-(i+1),by lia,a,b,c,hlt,rfl⟩),?_⟩;rintro x H' ⟨rfl,rfl⟩;show c (σ1.set i0 (some (.int (lo+(i:Int))))) _ _;rw[hset];refine step i _ _ _ hs hlt fun y H3 hs3 hR3=>⟨_,hs3 _ _ hd,by lia,?_,(hs.trans hs3).upd_ne' hD,ys++[y],by rw[qAf];show _+1=_;lia,fun j z e=>?_,aB⟩
  .simp
  .have keep:∀{j z},R j z H3->R j z (upd H3 D (.lst (ys++[y]))):=fun {j z} q=>mono _ _ _ _ (.lst (hs3 _ _ hd)) q;rcases qBj j ys.length with z1 | z1
   .rw[qAy z1] at e;exact keep (mono _ _ _ _ hs3.t (hR j z e))
   .rw[qAz z1] at e;obtain⟨rfl,rfl⟩:j=i/\y=z:=by
     rcases qFs (j-ys.length) with q | q
     .rw[q] at e;exact⟨by lia,Option.some.inj e⟩
     .rw[qDq (by show 1<=_;lia)] at e;cases e
    exact keep hR3
 .left
  obtain rfl:i=n:=qDr hi hge;exact⟨qAl _,h D ys _ hD hs hy hR hd⟩
theorem Ap(R:Nat->V->Hp->Prop)(mono:∀i y H H',fI H H'->R i y H->R i y H')(hq:bA K H1 a xs)(hn:xs.length<=qAg)
  (step:∀(i:Nat) (x:V) (H2:Hp) (k:VK) (k0:Hp->Prop),aK H1 H2->xs[i]?=some x->(∀y H3,aK H2 H3->R i y H3->k y H3) ->
   c (σ0.set i0 (some x)) H2 fun b H4=>if b=true then te (σ0.set i0 (some x)) H4 k else k0 H4)
  (h:∀D ys H2,H1 D=none->aK H1 H2->ys.length=xs.length->(∀i y,ys[i]?=some y->R i y H2)->H2 D=some (.lst ys)->Q D H2) :
  ∀D,H1 D=none->∃W:Nat->Nat->St->Hp->Prop,(∃m,W 0 m σ0 (upd H1 D (.lst [])))/\∀i m σ1 H2,W i m σ1 H2 ->
   ((pO K a).stop i H2/\Q D H2)\/((pO K a).go i H2/\∃N:St->Hp->Prop,(∀σ' H',N σ' H'->∃m',m'<m/\W (i+1) m' σ' H') /\
    ∀x H',(pO K a).vF i H2 x H'->a9 i0 x σ1 H' fun σ2 H3=>c σ2 H3 fun b H4=>if b=true then te σ2 H4 fun y H5=>∃xs,H5 D=some (.lst xs)/\xs.length<qAg/\N σ2 (upd H5 D (.lst (xs++[y]))) else N σ2 H4):=by
 intro D hD;refine⟨fun i m σ1 H2=>σ1.set i0 none=σ0.set i0 none/\aK H1 H2/\(∃ys,ys.length=i/\(∀j y,ys[j]?=some y->R j y H2)/\H2 D=some (.lst ys))/\i<=xs.length/\m=xs.length-i,⟨xs.length,rfl,.aJ hD,⟨[],rfl,fun j y e=>(by cases e),aB⟩,qBn _,rfl⟩,?_⟩;rintro i m σ1 H2 ⟨hσ,hs,⟨ys,hy,hR,hd⟩,hi,rfl⟩;have hset:∀v:Option V,σ1.set i0 v=σ0.set i0 v:=fun v=>by
  have z:=congrArg (fun l=>qIz l i0 v) hσ;simpa using z
 rcases qBj i xs.length with hlt | hge
 .right
  refine⟨⟨xs,xs[i],hs.seq hq,by simp[hlt]⟩,fun σ' H'=>σ'.set i0 none=σ0.set i0 none/\aK H1 H'/\∃ys,ys.length=i+1/\(∀j y,ys[j]?=some y->R j y H')/\H' D=some (.lst ys),(by rintro σ' H' ⟨a,b,c⟩;exact ⟨xs.length-(i+1),by lia,a,b,c,hlt,rfl⟩),?_⟩;rintro x H' ⟨rfl,hx⟩;have hx:=hx xs (hs.seq hq);show c (σ1.set i0 (some x)) _ _;rw[hset];refine step i x _ _ _ hs hx fun y H3 hs3 hR3=>⟨_,hs3 _ _ hd,by lia,?_,(hs.trans hs3).upd_ne' hD,ys++[y],by rw[qAf];show _+1=_;lia,fun j z e=>?_,aB⟩
  .simp
  .have keep:∀{j z},R j z H3->R j z (upd H3 D (.lst (ys++[y]))):=fun {j z} q=>mono _ _ _ _ (.lst (hs3 _ _ hd)) q;rcases qBj j ys.length with z1 | z1
   .rw[qAy z1] at e;exact keep (mono _ _ _ _ hs3.t (hR j z e))
   .rw[qAz z1] at e;obtain⟨rfl,rfl⟩:j=i/\y=z:=by
     rcases qFs (j-ys.length) with q | q
     .rw[q] at e;exact⟨by lia,Option.some.inj e⟩
     .rw[qDq (by show 1<=_;lia)] at e;cases e
    exact keep hR3
 .left
  obtain rfl:i=xs.length:=qDr hi hge;exact⟨⟨xs,hs.seq hq,qAl _⟩,h D ys _ hD hs hy hR hd⟩
end
section
variable {X:Cx}{tg:Expr}
end
section
variable {X:Cx}{e c:Expr}{te:TE}{ts:TO}{pos p2:Pos}
end
def HV(h:Heap)(vs:List qAh):Heap:=((h.push (qEy "list" #[] 0)).update h.objs.size (Obj.mapSeq (· ++ vs.toArray))).push (qEy "list" vs.toArray 0)
section
variable {X:Cx}
end
section
variable {X:Cx}
mutual
inductive iI (K:qAb) (H:Hp):V->qGr->Prop
 | int (i:Int):iI K H (.int i) (.int i)
 | non:iI K H .non .none
 | bl (b:Bool):iI K H (.bl b) (.bool b)
 | str (x:Str):PyData.strOk x=true->iI K H (.str x) (.str x)
 | lst {p:Addr}{xs:List V}{ds:List qGr}:bA K H p xs->cF K H xs ds->iI K H (.ref p) (.list ds)
 | tup {p:Addr}{xs:List V}{ds:List qGr}:eQ K H p xs->cF K H xs ds->iI K H (.ref p) (.tuple ds)
inductive cF (K:qAb) (H:Hp):List V->List qGr->Prop
 | nil:cF K H [] []
 | cons {x:V}{d:qGr}{xs:List V}{ds:List qGr}:iI K H x d->cF K H xs ds->cF K H (x::xs) (d::ds)
end
mutual
theorem iI.reads(I:Inv X pins σ H s):∀{v:V}{d:qGr}{u:qAh},iI X.K H v d->RelV v u->∃as,Reads s.heap u d as
 | _,_,u,.int i,r=>by obtain⟨t,rfl⟩:=(show ∃t,u=Value.int i t from r);exact⟨_,.int i t⟩
 | _,_,u,.non,r=>by obtain rfl:u=Value.none:=r;exact⟨_,.none⟩
 | _,_,u,.bl b,r=>by obtain rfl:u=Value.bool b:=r;exact⟨_,.bool b⟩
 | _,_,u,.str x _,r=>by obtain⟨t,rfl⟩:=(show ∃t,u=Value.str x t from r);exact⟨_,.str x t⟩
 | _,_,u,.lst (p:=p) hq ha,r=>by
  obtain rfl:u = .ref p:=r;obtain⟨its,r',pl,hz⟩:=I.list hq;obtain⟨o,ho,hc,n,hd⟩:=pl.isList;obtain⟨as,z⟩:=cF.reads I ha r';exact⟨_,.list ho hc hd (by simpa using z)⟩
 | _,_,u,.tup (p:=p) hq ha,r=>by
  obtain rfl:u = .ref p:=r;obtain⟨its,r',pl,hz⟩:=I.tuple hq;obtain⟨o,ho,hc,n,hd⟩:=pl;obtain⟨as,z⟩:=cF.reads I ha r';exact⟨_,.tuple ho hc hd (by simpa using z)⟩
theorem cF.reads(I:Inv X pins σ H s):∀{vs:List V}{ds:List qGr}{us:List qAh},cF X.K H vs ds->Vals vs us->∃as,ReadsAll s.heap us ds as
 | _,_,_,.nil,.nil=>⟨_,.nil⟩
 | _,_,_,.cons h t,.cons r rs=>by
  obtain⟨a1,z1⟩:=iI.reads I h r;obtain⟨a2,z2⟩:=cF.reads I t rs;exact⟨_,.cons z1 z2⟩
end
mutual
theorem iI.lay{K:qAb}{H:Hp}:∀{v:V}{d:qGr},iI K H v d->d.canLay0=true/\PyData.eqv d d=true
 | _,_,.int i=>⟨rfl,by simp[PyData.eqv]⟩
 | _,_,.non=>⟨rfl,by simp[PyData.eqv]⟩
 | _,_,.bl b=>⟨rfl,by simp[PyData.eqv]⟩
 | _,_,.str x h=>⟨h,by simp[PyData.eqv]⟩
 | _,_,.lst _ h=>by
  obtain⟨a,b⟩:=cF.lay h;exact⟨by simpa [PyData.canLay0] using a,by simpa [PyData.eqv] using b⟩
 | _,_,.tup _ h=>by
  obtain⟨a,b⟩:=cF.lay h;exact⟨by simpa [PyData.canLay0] using a,by simpa [PyData.eqv] using b⟩
theorem cF.lay{K:qAb}{H:Hp}:∀{vs:List V}{ds:List qGr},cF K H vs ds->PyData.canLayAll0 ds=true/\PyData.eqvAll ds ds=true
 | _,_,.nil=>⟨rfl,rfl⟩
 | _,_,.cons h t=>by
  obtain⟨a,b⟩:=iI.lay h;obtain⟨c,d⟩:=cF.lay t;exact⟨by simp[PyData.canLayAll0,a,c],by simp[PyData.eqvAll,b,d]⟩
end
mutual
theorem iI.same{K:qAb}{H H':Hp}(s:aK H H'):∀{v:V}{d:qGr},iI K H v d->iI K H' v d
 | _,_,.int i=>.int i
 | _,_,.non=>.non
 | _,_,.bl b=>.bl b
 | _,_,.str x h=>.str x h
 | _,_,.lst q h=>.lst (s.seq q) (cF.same s h)
 | _,_,.tup q h=>.tup (s.OC q) (cF.same s h)
theorem cF.same{K:qAb}{H H':Hp}(s:aK H H'):∀{vs:List V}{ds:List qGr},cF K H vs ds->cF K H' vs ds
 | _,_,.nil=>.nil
 | _,_,.cons h t=>.cons (iI.same s h) (cF.same s t)
end
end
section
variable {X:Cx}
end
section
variable {X:Cx}
variable {o e:Expr}{es:List Expr}{to:TE}{t:TA}{name:Str}{apos cpos:Pos}{T id:String}{r:V->List V->Hp->VK->Prop}
end
section
variable {A:qCb}{prog:qBe}{w:qCj}{E:qAh->qAj->Prop}
end
section
variable {X:Cx}{pos:Pos}
end
section
variable {κ:Type} [DecidableEq κ]
def j9(kvs:List (κ×V))(k:κ):Option V:=(kvs.find? fun kv=>decide (kv.1=k)).map (·.2)
def putK(kvs:List (κ×V))(k:κ)(v:V):List (κ×V) :=
 if (kvs.any fun kv=>decide (kv.1=k))=true then kvs.map (fun kv=>if kv.1=k then (kv.1,v) else kv) else kvs++[(k,v)]
theorem kO{p:κ×V}{r:List (κ×V)}{k:κ}(e:p.1=k):j9 (p::r) k=some p.2:=by simp[j9,qFq,e]
theorem kP{p:κ×V}{r:List (κ×V)}{k:κ}(e:¬p.1=k):j9 (p::r) k=j9 r k:=by simp[j9,qFq,e]
theorem oB(k:κ):∀kvs:List (κ×V),(kvs.any fun kv=>decide (kv.1=k))=(j9 kvs k).isSome
 | []=>rfl
 | p::r=>by
  rw[qHn];by_cases e:p.1=k
  .simp only[kO e,decide_eq_true e,Bool.true_or,Option.isSome_some]
  .rw[kP e,decide_eq_false e,qNg];exact oB k r
theorem mP(kvs:List (κ×V))(k:κ)(v:V):(putK kvs k v).length<=kvs.length+1:=by
 delta putK;split
 .rw[qAa];lia
 .rw[qAf,qAn,qGt];lia
theorem Ca{kvs:List (κ×V)}{k:κ}(v:V)(h:j9 kvs k=none):putK kvs k v=kvs++[(k,v)]:=by
 delta putK;rw[oB,h];exact if_neg #[1]
theorem jS.lT(r:jS o u):o.isSome=u.isSome:=by
 cases o with
 | none=>cases u with
  | none=>rfl
  | some _=>exact(show False from r).elim
 | some _=>cases u with
  | none=>exact(show False from r).elim
  | some _=>rfl
theorem KV.val{kvs:List (κ×V)}{vs:List (κ×qAh)}(r:KV kvs vs)(k:κ):jS (j9 kvs k) (qMb vs k):=by
 delta KV at r;induction r with
 | nil=>exact True.intro
 | @cons p q ps qs h t ih =>
  obtain⟨h1,h2⟩:=h;by_cases e:p.1=k
  .have e':q.1=k:=h1.symm.trans e;have b:qMb (q::qs) k=some q.2:=by simp[qMb,qFq,e']
   rw[kO e,b];exact h2
  .have e':¬q.1=k:=fun z=>e (h1.trans z);have b:qMb (q::qs) k=qMb qs k:=by simp[qMb,qFq,e']
   rw[kP e,b];exact ih
theorem KV.any(r:KV kvs vs)(k:κ):(kvs.any fun kv=>decide (kv.1=k))=vs.any fun kv=>decide (kv.1=k):=by
 delta KV at r;induction r with
 | nil=>rfl
 | cons h t ih=>rw[qHn,qHn,ih,h.1]
theorem KV.HW(r:KV kvs vs)(k:κ){y:V}{u:qAh}(ry:RelV y u):
  KV (kvs.map fun kv=>if kv.1=k then (kv.1,y) else kv) (vs.map fun kv=>if kv.1=k then (kv.1,u) else kv):=by
 delta KV at r|-;induction r with
 | nil=>exact .nil
 | @cons p q ps qs h t ih =>
  rw[qBo,qBo];refine .cons ?_ ih;obtain⟨h1,h2⟩:=h;by_cases e:p.1=k
  .rw[if_pos e,if_pos (h1.symm.trans e)];exact⟨h1,ry⟩
  .rw[if_neg e,if_neg (fun z=>e (h1.trans z))];exact⟨h1,h2⟩
theorem KV.put(r:KV kvs vs)(k:κ){y:V}{u:qAh}(ry:RelV y u):KV (putK kvs k y) (stored vs k u):=by
 delta putK stored;rw[r.any k];by_cases e:(vs.any fun kv=>decide (kv.1=k))=true
 .rw[if_pos e,if_pos e];exact r.HW k ry
 .rw[if_neg e,if_neg e];exact Paired.snoc r ⟨rfl,ry⟩
theorem KV.length(r:KV kvs vs):kvs.length=vs.length:=Paired.length r
end
theorem Cb(r:RelV (kV k) u):(dS P w).is k u=true:=by
 cases k with
 | inl i=>obtain⟨t,e⟩:=(show ∃t,u=Value.int i t from r);subst e;exact tO P w i t
 | inr x=>obtain⟨t,e⟩:=(show ∃t,u=Value.str x t from r);subst e;exact tP P w x t
theorem qR:∀{ks:List Key}{us:List qAh},Vals (ks.map kV) us->ItemsAre (dS P w) ks us
 | [],_,r=>by rw[qEe] at r;cases r;exact .nil
 | k::ks,_,r=>by
  rw[qBo] at r;cases r with
  | cons h t=>exact .cons (Cb h) (qR t)
abbrev KT(H:Hp):List (List Key×V)->List (List Key×Addr×qAh)->Prop:=Paired fun p q=>p.1=q.1/\H q.2.1=some (.tup (p.1.map kV))/\RelV p.2 q.2.2
theorem KT.val{H:Hp}{kvs:List (List Key×V)}{xs:List (List Key×Addr×qAh)}(r:KT H kvs xs)(k:List Key):jS (j9 kvs k) ((qNo xs k).map (·.2)):=by
 induction r with
 | nil=>exact True.intro
 | @cons p q ps qs h t ih =>
  obtain⟨h1,_,h2⟩:=h;by_cases e:p.1=k
  .have e':q.1=k:=h1.symm.trans e;have b:qNo (q::qs) k=some q.2:=by simp[qNo,qFq,e']
   rw[kO e,b];exact h2
  .have e':¬q.1=k:=fun z=>e (h1.trans z);have b:qNo (q::qs) k=qNo qs k:=by simp[qNo,qFq,e']
   rw[kP e,b];exact ih
theorem KT.HW(r:KT H kvs xs)(k:List Key){y:V}{u:qAh}(ry:RelV y u):
  KT H (kvs.map fun kv=>if kv.1=k then (kv.1,y) else kv) (xs.map (putAt k u)):=by
 induction r with
 | nil=>exact .nil
 | @cons p q ps qs h t ih =>
  rw[qBo,qBo];refine .cons ?_ ih;obtain⟨h1,h2,h3⟩:=h;delta putAt;by_cases e:p.1=k
  .rw[if_pos e,if_pos (h1.symm.trans e)];exact⟨h1,h2,ry⟩
  .rw[if_neg e,if_neg (fun z=>e (h1.trans z))];exact⟨h1,h2,h3⟩
theorem KT.put(r:KT H kvs xs)(k:List Key){b:Addr}{y:V}{u:qAh}(hb:H b=some (.tup (k.map kV)))(ry:RelV y u):
  KT H (putK kvs k y) (storedH xs k b u):=by
 have e:(kvs.any fun kv=>decide (kv.1=k))=(qNo xs k).isSome:=by
  rw[oB,(r.val k).lT,qLq]
 delta putK storedH;rw[e];by_cases q:(qNo xs k).isSome=true
 .rw[if_pos q,if_pos q];exact r.HW k ry
 .rw[if_neg q,if_neg q];exact Paired.snoc r ⟨rfl,hb,ry⟩
theorem KT.keeps(r:KT H kvs xs)(ht:∀b ys,H b=some (.tup ys)->H' b=some (.tup ys)):KT H' kvs xs :=
 Paired.Hl r fun _ _ z=>⟨z.1,ht _ _ z.2.1,z.2.2⟩
section
variable {P:qBe}{w:qCj}{H:Hp}{h:Heap}{a:Addr}
theorem Gj(ok:jX P w H h)(e:Rd H a u):cM P w H h a u:=e.ok ok
theorem Gk(ok:jX P w H h)(e:Rd H a (.dK kvs)):kvs.length<=qAg/\(a == qGi)=false/\∃vs,KV kvs vs/\h.DictOf (dS P w) a vs :=
 show cM P w H h a (.dK kvs) from Gj ok e
theorem Ma(ok:jX P w H h)(e:H a=some (.dK kvs)):kvs.length<=qAg/\(a == qGi)=false/\∃vs,KV kvs vs/\h.DictOf (dS P w) a vs:=Gk ok (.inl e)
theorem v9(ok:jX P w H h)(e:H a=some (.tup (ks.map kV))):(qKv (dS P w)).is h ks a:=by
 obtain⟨_,its,r,o,h1,h2,n,h3⟩:=(show cM P w H h a (.tup (ks.map kV)) from ok a _ e);exact⟨o,its.toArray,n,h1,h2,h3,by simpa using qR r⟩
theorem Gm(ok:jX P w H h)(e:Rd H a (.dT kvs)):kvs.length<=qAg/\(a == qGi)=false /\
  ∃xs,KT H kvs xs/\h.DictOfH (qKv (dS P w)) a xs:=by
 obtain⟨z,y,xs,r,o,es,ep,h1,h2,h3,h4,h5⟩:=(show cM P w H h a (.dT kvs) from Gj ok e);refine⟨z,y,xs,r,o,es,ep,h1,h2,h3,h4,fun x hx=>?_,h5⟩;have all:∀{l:List (List Key×V)}{m:List (List Key×Addr×qAh)},KT H l m->∀x∈m,(qKv (dS P w)).is h x.1 x.2.1:=by
  intro l m q;induction q with
  | nil=>intro x hx;exact nomatch hx
  | @cons p q ps qs hq t ih =>
   intro x hx;rcases List.mem_cons.mp hx with e | hx
   .subst e;exact v9 ok (by rw[<- hq.1];exact hq.2.1)
   .exact ih x hx
 exact all r x hx
theorem Mb(ok:jX P w H h)(e:H a=some (.dT kvs)):kvs.length<=qAg/\(a == qGi)=false /\
  ∃xs,KT H kvs xs/\h.DictOfH (qKv (dS P w)) a xs:=Gm ok (.inl e)
end
def Cc(H:Hp)(a:Addr)(y:V)(r:Option V):Prop :=
 (∃kvs k,Rd H a (.dK kvs)/\y=kV k/\r=j9 kvs k)\/∃kvs k b,Rd H a (.dT kvs)/\y = .ref b/\H b=some (.tup (k.map kV))/\r=j9 kvs k
def Cd(H:Hp)(a:Addr)(y v:V)(H':Hp):Prop :=
 (∃kvs k,H a=some (.dK kvs)/\y=kV k/\kvs.length<qAg/\H'=upd H a (.dK (putK kvs k v))) \/
 ∃kvs k b,H a=some (.dT kvs)/\y = .ref b/\H b=some (.tup (k.map kV))/\kvs.length<qAg/\H'=upd H a (.dT (putK kvs k v))
theorem Cc.t{H:Hp}{a b:Addr}{kvs:List (List Key×V)}{k:List Key}(e:H a=some (.dT kvs))(eb:H b=some (.tup (k.map kV))):Cc H a (.ref b) (j9 kvs k):=.inr ⟨kvs,k,b,.inl e,rfl,eb,rfl⟩
theorem Cd.t{H:Hp}{a b:Addr}{kvs:List (List Key×V)}{k:List Key}{v:V}(e:H a=some (.dT kvs))(eb:H b=some (.tup (k.map kV)))(hl:kvs.length<qAg):
  Cd H a (.ref b) v (upd H a (.dT (putK kvs k v))):=.inr ⟨kvs,k,b,e,rfl,eb,hl,rfl⟩
section
variable {X:Cx}{pins:List (Addr×Obj)}{σ:St}{H:Hp}{s:qAj}{a:Addr}{y v:V}{u r:qAh}{o:Option V}{A:qCb}{E:qAh->qAj->Prop}
theorem Px(hu:A.units+1<qMq)(I:Inv X pins σ H s)(g:Cc H a y o)(ry:RelV y u)(h:∀s',Inv X pins σ H s'->Q (.bool o.isSome) s'):
  qBq (qBr X.prog X.w) A (qDi .In u (.ref a)) Q E s:=by
 rcases g with ⟨kvs,k,e,ey,l⟩ | ⟨kvs,k,b,e,ey,eb,l⟩
 .subst ey;obtain⟨z,hd,vs,rel,dd⟩:=Gk I.cE e;refine wpAny_in_of (Cb ry) hd dd.mapOf ?_;rw[<- (rel.val k).lT,<- l];exact h _ (I.tok _)
 .subst ey;cases (show u=Value.ref b from ry);obtain⟨z,hd,xs,rel,dd⟩:=Gm I.cE e;refine wpAny_in_heap (tupleKind_room_in1 hu) (v9 I.cE eb) hd dd ?_;have q:=(rel.val k).lT;rw[qLq] at q;rw[<- q,<- l];exact h _ (I.tok _)
theorem yJ(I:Inv X pins σ H s)(mu:Lo (H a))(hs:qIb a s.heap h')(he:∃q,h'.get? a=some q)(new:cM X.prog X.w (upd H a ob) h' a ob):
  Inv X pins σ (upd H a ob) { s with heap:=h',toks:=t' } :=
 I.write (x:=a) (e:=a) mu (.inl rfl) (fun b q hb z=>(hs.2 b hb).trans z) he new
theorem HX(z:kvs.length<=qAg)(hd:(a == qGi)=false)(rel:KV kvs vs)(dd:h'.DictOf (dS P w) a vs):
  cM P w H' h' a (.dK kvs):=⟨z,hd,vs,rel,dd⟩
theorem Aq(hu:A.units+1<qMq)(I:Inv X pins σ H s)(g:Cd H a y v H')(ry:RelV y u)(rv:RelV v r)(h:∀s',Inv X pins σ H' s'->Q () s'):
  qBq (qBr X.prog X.w) A (setItem (.ref a) u r) Q E s:=by
 rcases g with ⟨kvs,k,e,ey,l,eH⟩ | ⟨kvs,k,b,e,ey,eb,l,eH⟩
 .subst ey eH;obtain⟨z,hd,vs,rel,dd⟩:=Ma I.cE e;have hz:vs.length<=qAg:=by rw[<- rel.length];exact z
  have hl:(putK kvs k v).length<=qAg:=by have:=mP kvs k v;lia
  refine wpAny_setItem_pairs (hsz:=hz) (Cb ry) dd fun h' dd' hs=>h _ ?_;have he:∃q,h'.get? a=some q:=let ⟨q,_,_,hq,_⟩:=dd';⟨q,hq⟩;exact yJ I (by rw[e];exact True.intro) hs he (HX hl hd (rel.put k rv) dd')
 .subst ey eH;cases (show u=Value.ref b from ry);obtain⟨z,hd,xs,rel,dd⟩:=Mb I.cE e;have hz:xs.length<=qAg:=by rw[<- Paired.length rel];exact z
  have hl:(putK kvs k v).length<=qAg:=by have:=mP kvs k v;lia
  refine wpAny_setItem_heap (hsz:=hz) (tupleKind_room_in1 hu) (v9 I.cE eb) dd fun h' dd' hs=>h _ ?_;obtain⟨q,es,ep,hq,h2,h3,h4,_,h5⟩:=dd';refine yJ I (by rw[e];exact True.intro) hs ⟨q,hq⟩ ⟨hl,hd,_,(rel.put k eb rv).keeps fun c ys ec=>?_,q,es,ep,hq,h2,h3,h4,h5⟩;rw[aM (fE ec e (fun z=>nomatch z))];exact ec
end
section
variable {X:Cx}{pins:List (Addr×Obj)}{σ:St}{H:Hp}{s:qAj}{a:Addr}{kvs:List (Key×V)}{k:Key}{u:qAh}{A:qCb}{E:qAh->qAj->Prop}
end
def Py(ty td:TE):TE:=fun σ H Q=>ty σ H fun y H1=>td σ H1 fun x H2=>∃a o,x = .ref a/\Cc H2 a y o/\Q (.bl o.isSome) H2
def Mc(td ty tv:TE):TS:=fun D σ H=>tv σ H fun v H1=>td σ H1 fun x H2=>ty σ H2 fun y H3=>∃a H4,x = .ref a/\Cd H3 a y v H4/\D.nx σ H4
section
variable {X:Cx}{o i e value:Expr}{pos pos' tpos:Pos}{td ty tv:TE}
theorem HY(hu:X.A.units+1<qMq)(hi:PE X i ty)(ho:PE X o td):PC X .In i o (Py ty td):=by
 intro pins s σ H Q I h;refine bT (hi pins s σ H _ I h) fun iv s1 ⟨y,H1,I1,ry,q1⟩=>bT (ho pins s1 σ H1 _ I1 q1) fun u s2 z9=>?_;obtain⟨x,H2,I2,rx,a,ov,ex,g,q2⟩:=z9;subst ex;obtain rfl:u=Value.ref a:=rx;exact Px hu I2 g ry fun s3 I3=>⟨.bl ov.isSome,H2,I3,rfl,q2⟩
theorem EI(hu:X.A.units+1<qMq)(ho:PE X o td)(hi:PE X i ty)(hv:PE X value tv)(hs:qJq value (some (.Subscript o i pos')) pos.line X.env=pure false):
  PS X (.Assign [.Subscript o i pos'] value pos) (Mc td ty tv):=by
 intro pins s σ H D I h;refine wpAny_Assign_Subscript (bT (hv pins s σ H _ I h) fun r s1 ⟨v,H1,I1,rv,q1⟩=>bT (ho pins s1 σ H1 _ I1 q1) fun u s2 ⟨x,H2,I2,rx,q2⟩=>bT (hi pins s2 σ H2 _ I2 q2) fun iv s3 z9=>?_) hs;obtain⟨y,H3,I3,ry,a,H4,ex,g,q3⟩:=z9;subst ex;obtain rfl:u=Value.ref a:=rx;exact Aq hu I3 g ry rv fun s4 I4=>⟨σ,H4,I4,q3⟩
end
section
variable {κ:Type} [DecidableEq κ]
end
theorem Ce(h:Heap)(hb:qGi<h.objs.size):cM P w H (h.push { cls:=.type "dict",data:=.dict #[] }) h.objs.size (.dT []) :=
 ⟨qBn _,beq_eq_false_iff_ne.mpr (Ne.symm (qBi hb)),[],.nil,_,#[],0,qBh _ rfl,⟨rfl,rfl,rfl⟩,rfl,rfl,qKf⟩
def HZ:TE:=fun _ H Q=>∀p,H p=none->Q (.ref p) (upd H p (.dT []))
section
variable {X:Cx}{pos:Pos}
theorem Cf:PE X (.Dict [] [] pos) HZ:=fun pins s σ H Q I h =>
 wpAny_Dict_empty ⟨.ref s.heap.objs.size,_,I.laid (a:=s.heap.objs.size) (o:=.dT []) (t':=s.toks) (fun _ _ q=>qAi _ q) (qAl _) (Ce s.heap I.big),rfl,h _ (I.cE.fresh (qAl _))⟩
end
end L2
namespace PySem.W
open PySem PySem.Calls PyProof.Rows
def KasT.Ok{α:Type}(n:Nat)(P:α->Prop):KasT α->Prop
 | .ret a=>P a
 | .ask i j k=>i<n/\j<n/\∀b,(k b).Ok n P
theorem KasT.Ok.bind{α β:Type}{n:Nat}{P:α->Prop}{P':β->Prop}{f:α->KasT β}:∀{t:KasT α},t.Ok n P->(∀a,P a->(f a).Ok n P')->(t.bind f).Ok n P'
 | .ret a,h,hf=>hf a h
 | .ask i j k,h,hf=>⟨h.1,h.2.1,fun b=>KasT.Ok.bind (h.2.2 b) hf⟩
def KasT.run{α:Type}(lt:Nat->Nat->Bool):KasT α->α
 | .ret a=>a
 | .ask i j k=>(k (lt i j)).run lt
theorem KasT.Ok.wp(lt:Nat->Nat->Bool)(hc:∀i j C,i<n->j<n->C (lt i j) s->cmp i j C s):
  ∀{t:KasT α},t.Ok n P->(∀a,P a->a=t.run lt->Q a s)->t.kasWp cmp Q s
 | .ret a,h,hQ=>hQ a h rfl
 | .ask i j k,h,hQ=>hc i j _ h.1 h.2.1 (KasT.Ok.wp lt hc (h.2.2 (lt i j)) hQ)
def gW(n:Nat)(p:Array Nat):Prop:=p.toList.Perm (qBk n)
theorem gW.lt(h:gW n p)(hn:0<n)(i:Nat):p.getD i 0<n:=by
 by_cases hi:i<p.size
 .have e:p.getD i 0=p[i]:=by simp[qGn,hi]
  rw[e];exact List.mem_range.mp (h.mem_iff.mp (by simp))
 .have e:p.getD i 0=0:=by simp[qGn,hi]
  rw[e];exact hn
theorem gW.rev(h:gW n p)(i j:Nat):gW n (kas_rev p i j):=(Array.perm_iff_toList_perm.mp (mirror_perm p i j ((j-i)/2))).trans h
theorem gW.QB(h:gW n p)(i j:Nat):gW n (bubble p i j):=(Array.perm_iff_toList_perm.mp (bubble_perm p i j)).trans h
theorem wB(h:gW n p)(hn:0<n):∀f m,(kas_asc p f m).Ok n (fun _=>True)
 | 0,m=>trivial
 | f+1,m=>⟨h.lt hn _,h.lt hn _,fun b=>by
  cases b with
  | true=>exact trivial
  | false=>exact wB h hn f (m+1)⟩
theorem nE(hn:0<n):∀f p m q,gW n p->(kas_desc f p m q).Ok n (fun r=>gW n r.1)
 | 0,p,m,q,h=>h
 | f+1,p,m,q,h=>⟨h.lt hn _,h.lt hn _,fun b=>by
  cases b with
  | true =>
   show KasT.Ok n _ (if q>0 then _ else _);split
   .exact nE hn f _ _ _ (h.rev _ _)
   .exact nE hn f _ _ _ h
  | false=>exact⟨h.lt hn _,h.lt hn _,fun d=>by
    cases d with
    | true=>exact h
    | false=>exact nE hn f _ _ _ h⟩⟩
theorem tZ{n:Nat}(hn:0<n)(a m:Nat){p:Array Nat}(h:gW n p):(kas_tail3 a m p).Ok n (fun r=>gW n r.2) :=
 KasT.Ok.bind (wB (h.rev 0 a) hn _ _) fun _ _=>h.rev 0 a
theorem mQ{n:Nat}(hn:0<n)(a m:Nat){p:Array Nat}(h:gW n p):(kas_descPart a m p).Ok n (fun r=>gW n r.2) :=
 KasT.Ok.bind (nE hn _ _ _ _ h) fun r hr=>by
  show KasT.Ok n _ (if r.2.2>0 then _ else _);split
  .exact tZ hn _ _ (hr.rev _ _)
  .exact tZ hn _ _ hr
theorem Cg{n:Nat}(hn:0<n)(m:Nat){p:Array Nat}(h:gW n p):(kas_count m p).Ok n (fun r=>gW n r.2) :=
 KasT.Ok.bind (wB h hn _ _) fun a _=>by
  show KasT.Ok n _ (if (a == m)=true then _ else if a>1 then _ else _);split
  .exact h
  .split
   .exact⟨h.lt hn _,h.lt hn _,fun b=>by
     cases b with
     | true=>exact h
     | false=>exact mQ hn _ _ (h.rev _ _)⟩
   .exact mQ hn _ _ h
theorem oC(h:gW n p)(hn:0<n)(k:Nat):∀f l r,(kas_place p k f l r).Ok n (fun _=>True)
 | 0,l,r=>trivial
 | f+1,l,r=>by
  show KasT.Ok n _ (if l≥r then _ else _);split
  .exact trivial
  .exact⟨h.lt hn _,h.lt hn _,fun b=>by
    cases b with
    | true=>exact oC h hn k f _ _
    | false=>exact oC h hn k f _ _⟩
theorem Ci{n:Nat}(hn:0<n):∀f p k,gW n p->(kas_bin f p k).Ok n (gW n)
 | 0,p,k,h=>h
 | f+1,p,k,h=>KasT.Ok.bind (oC h hn k _ _ _) fun l _=>Ci hn f _ _ (h.QB _ _)
theorem sM{n:Nat}(hn:0<n):(kas_sort n).Ok n (gW n) :=
 KasT.Ok.bind (Cg hn n (show gW n (qEd (qBk n)) from List.Perm.refl _)) fun r hr=>by
  show KasT.Ok n _ (if r.1<n then _ else _);split
  .exact Ci hn _ _ _ hr
  .exact hr
section
variable {prog:qBe}{w:qCj}{A:qCb}{E:qAh->qAj->Prop}{s:qAj}
theorem Ar(h:n<2)(lt:Nat->Nat->Bool):(kas_sort n).run lt=qEd (qBk n):=by
 have c:n=0\/n=1:=by lia
 rcases c with rfl | rfl
 .rfl
 .rfl
theorem pU(ho:s.heap.get? a=some (qEy "list" vs.toArray n))(h64:vs.length<64)(lt:Nat->Nat->Bool)
  (ht:∀h',(∀b o,b≠a->s.heap.get? b=some o->h'.get? b=some o)->KatTups h' vs fs) (hT:∀v∈fs,∃i t,v=Value.int i t)
  (ask:∀h',(∀b o,b≠a->s.heap.get? b=some o->h'.get? b=some o)->∀i j C,i<vs.length->j<vs.length->C (lt i j) { s with heap:=h' }->kas_ask prog w A (tuples' true) vs i j C { s with heap:=h' })
  (h:∀p:Array Nat,gW vs.length p->p=(kas_sort vs.length).run lt->P (.done (.ret .none)) { s with heap:=qKd s.heap a vs (qEd (p.toList.map fun i=>vs.getD i Value.none)) }) :
  qBq (qBr prog w) A (Builtin.«list.sort» ⟨[.ref a],[]⟩) P E s:=by
 have ha:a<s.heap.objs.size:=qAt ho;have hsz:vs.toArray.size=vs.length:=by simp
 rw[list_sort_plain];refine qAc (listItems_at ho rfl ?_);refine qAc (listUpdate_at ho rfl ?_ (by rw[qBc,qFf];lia) (qBn _));obtain⟨e1,ho1⟩:∃e1,(s.heap.update a (Obj.mapSeq fun _=>(#[]:Array qAh))).get? a=some (qEy "list" #[] e1):=⟨_,get?_update_seq ho fun _=>#[]⟩;refine qAc (seqEpoch_at ho1 rfl ?_);refine qAc (wpAny_newTuple ?_ (by show vs.length<=_;rw[qFf];lia));refine qAc (wpAny_newList ?_ (qBn _));refine qCx ?_;have ho6:(((s.heap.update a (Obj.mapSeq fun _=>(#[]:Array qAh))).push (qEy "tuple" vs.toArray 0)).push (qEy "list" #[] 0)).get? a=some (qEy "list" #[] e1):=by
  rw[qMg _ _ _ (by rw[size_push',qHr];exact qBi (qJi ha)),qMg _ _ _ (by rw[qHr];exact qBi ha)];exact ho1
 have keep:∀b o,b≠a->s.heap.get? b=some o->(((s.heap.update a (Obj.mapSeq fun _=>(#[]:Array qAh))).push (qEy "tuple" vs.toArray 0)).push (qEy "list" #[] 0)).get? b=some o:=fun b o hb q=>by
  refine qAi _ (qAi _ ?_);rw[qGu _ _ _ _ hb];exact q
 show qBq (qBr prog w) A _ P E { s with heap:=((s.heap.update a (Obj.mapSeq fun _=>(#[]:Array qAh))).push (qEy "tuple" vs.toArray 0)).push (qEy "list" #[] 0) };dsimp only;by_cases h2:vs.toArray.size<2
 .rw[if_pos h2,if_pos h2];refine qAc (qAo ?_);rw[StateT.run_pure];refine qAc (qAo ?_);dsimp only;refine qAc (seqEpoch_at ho6 rfl ?_);refine qAc (listUpdate_at ho6 rfl ?_ (qBn _) (by rw[Array.size_map];show(pairsOf vs).size<=_;rw[pairsOf_size,qFf];lia));simp only[bne_self_eq_false,qGx,if_false];have e:(arrOf (SortSt.mk' general' (vs.toArray.zip vs.toArray) #[] 7 none)).map (·.2)=qEd ((qEd (qBk vs.length)).toList.map fun i=>vs.getD i Value.none):=by
   have hr:=kas_range (vs.toArray.zip vs.toArray);rw[show(vs.toArray.zip vs.toArray).size=vs.length by simp] at hr;exact kat_snds (ks:=vs) (vs:=vs) rfl (st:=SortSt.mk' general' (vs.toArray.zip vs.toArray) #[] 7 none) (p:=qEd (qBk vs.length)) hr.symm
  have z:=h (qEd (qBk vs.length)) (List.Perm.refl _) (Ar (by lia) lt).symm;rw[<- e] at z;exact qAo z
 .rw[if_neg h2,if_neg h2];have h2':2<=vs.length:=by lia
  refine qAc (kat_kind (T:=.type "int") (ht _ keep) ?_ (fun v hv=>?_) #[1] ?_)
  .have t:=ht _ keep;cases vs with
   | nil=>simp at h2'
   | cons v r =>
    cases fs with
    | nil=>exact t.elim
    | cons f fr=>exact qLl _
  .obtain⟨i,t,rfl⟩:=hT v hv;exact .now
  show qBq (qBr prog w) A _ P E _;refine qAc (qCm (kat_run (ks:=vs) (κ:=tuples' true) (G:=fun p s'=>(gW vs.length p/\p=(kas_sort vs.length).run lt)/\s'={ s with heap:=((s.heap.update a (Obj.mapSeq fun _=>(#[]:Array qAh))).push (qEy "tuple" vs.toArray 0)).push (qEy "list" #[] 0) })
   (Q:=fun st' s'=>∃p:Array Nat,p.size=vs.length/\arrOf st'=p.map (kas_item (vs.toArray.zip vs.toArray))/\failedOf st'=none/\(gW vs.length p/\p=(kas_sort vs.length).run lt)/\s'={ s with heap:=((s.heap.update a (Obj.mapSeq fun _=>(#[]:Array qAh))).push (qEy "tuple" vs.toArray 0)).push (qEy "list" #[] 0) })
   rfl h2' h64 (fun p' st' s' a1 a2 a3 a4=>⟨p',a1,a2,a3,a4.1,a4.2⟩) ((sM (by lia)).wp lt (ask _ keep) fun p hp hrun=>⟨⟨hp,hrun⟩,rfl⟩)) ?_ fun _ _ e=>e)
  rintro⟨⟨⟩,st'⟩ s' ⟨p,hp,har,hf,hpm,rfl⟩;dsimp only;have hout:=kat_snds (ks:=vs) (vs:=vs) rfl har;rw[hout];refine qAc (seqEpoch_at ho6 rfl ?_);refine qAc (listUpdate_at ho6 rfl ?_ (qBn _) (by rw[qBc,qAa,qCv,hp,qFf];lia));rw[hf];simp only[bne_self_eq_false,qGx,if_false];exact qAo (h p hpm.1 hpm.2)
def jK(h:Heap)(vs:List qAh):Heap:=((h.push (qEy "list" #[] 0)).update h.objs.size (Obj.mapSeq (· ++ vs.toArray))).push (qEy "list" vs.toArray 0)
theorem kQ(q:h.get? b=some o):(jK h vs).get? b=some o:=by
 have hlt:b<h.objs.size:=qAt q;refine qAi _ ?_;rw[qGu _ _ _ _ (qBi hlt)];exact qAi _ q
theorem wC(hl:s.heap.IsList l vs.toArray)(h64:vs.length<64)(lt:Nat->Nat->Bool)
  (ht:∀h':Heap,(∀b o,s.heap.get? b=some o->h'.get? b=some o)->KatTups h' vs fs) (hT:∀v∈fs,∃i t,v=Value.int i t)
  (ask:∀h':Heap,(∀b o,s.heap.get? b=some o->h'.get? b=some o)->∀i j C,i<vs.length->j<vs.length->C (lt i j) { s with heap:=h' }->kas_ask prog w A.in1.in1 (tuples' true) vs i j C { s with heap:=h' })
  (h:∀p:Array Nat,gW vs.length p->p=(kas_sort vs.length).run lt->Q (.ref (s.heap.objs.size+1)) { s with heap:=sortedAll s.heap vs (qEd (p.toList.map fun i=>vs.getD i Value.none)) }) :
  qBq (qBr prog w) A (call (.builtin "sorted") [.ref l]) Q E s:=by
 refine Calls.call_function_entry kind_sorted plain_sorted entry_sorted (args_sorted1 _) ?_;delta Builtin.«sorted»;refine qAc (m:=checkCount "sorted" 1 1 _) (qAo ?_);refine qAc (collect_list hl ?_ (by rw[qFf];lia));refine qAc (wpAny_newList ?_ (by rw[qFf];lia));have hsz:((s.heap.push (qEy "list" #[] 0)).update s.heap.objs.size (Obj.mapSeq (· ++ vs.toArray))).objs.size=s.heap.objs.size+1:=by
  rw[qHr,size_push']
 have hoL:(((s.heap.push (qEy "list" #[] 0)).update s.heap.objs.size (Obj.mapSeq (· ++ vs.toArray))).push (qEy "list" vs.toArray 0)).get? (s.heap.objs.size+1)=some (qEy "list" vs.toArray 0):=by
  rw[<- hsz];exact qBh _ rfl
 show qBq _ _ _ _ _ { s with heap:=((s.heap.push (qEy "list" #[] 0)).update s.heap.objs.size (Obj.mapSeq (· ++ vs.toArray))).push (qEy "list" vs.toArray 0) };rw[hsz];have kp:∀h':Heap,(∀b o,b≠s.heap.objs.size+1->(jK s.heap vs).get? b=some o->h'.get? b=some o)->∀b o,s.heap.get? b=some o->h'.get? b=some o:=fun h' hk b o q =>
  hk b o (qBi (qJi (qAt q))) (kQ q)
 refine qAc (qCx (wpAny_call_entry slot_list_sort ⟨_,hoL,rfl⟩ entry_list_sort (pU (s:={ s with heap:=jK s.heap vs }) (fs:=fs) hoL h64 lt (fun h' hk=>ht h' (kp h' hk)) hT (fun h' hk i j C hi hj hC=>ask h' (kp h' hk) i j C hi hj hC) fun p hp hrun=>⟨_,rfl,?_⟩) (args_list_sort _)));exact qAo ⟨_,rfl,h p hp hrun⟩
end
end PySem.W
namespace L2
open PySem PySem.Spec PyProof.Rows PySem.W
theorem yK:∀(vs us:List qAh) (ns ms:List Int) (i:Nat),qJj vs ns->qJj us ms->Q (HT.lexLt ns ms) s->KatLex prog w A true (decide (vs.length<us.length)) Q (vs.zip us) i s
 | [],[],_,_,i,.nil,.nil,h=>h
 | [],_::_,_,_,i,.nil,.cons ..,h=>by
  show Q (decide _) s;rw[decide_eq_true (by simp)];exact h
 | _::_,[],_,_,i,.cons ..,.nil,h=>by
  show Q (decide _) s;rw[decide_eq_false (by simp)];exact h
 | _,_,_,_,i,.cons n t (vs:=vs) (ns:=ns) hv,.cons m u (vs:=us) (ns:=ms) hu,h=>by
  show KatLex prog w A true (decide (vs.length+1<us.length+1)) Q ((Value.int n t,Value.int m u)::vs.zip us) i s;refine kat_cons ((SeqAt.EqAt.int_int n t m u) prog w _ _ ?_);rw[show decide (vs.length+1<us.length+1)=decide (vs.length<us.length) from decide_eq_decide.mpr (by lia)];rw[HT.iE] at h;by_cases e:n=m
  .rw[if_pos e] at h;rw[show(n == m)=true from by simpa using e];exact kat_yes (yK vs us ns ms (i+1) hv hu h)
  .rw[if_neg e] at h;rw[show(n == m)=false from by simpa using e];refine kat_no ?_;cases hb:(true&&i == 0) with
   | true=>exact oneLt_int h
   | false=>exact kat_one _ _ (qNs h)
def intOf:V->Int
 | .int i=>i
 | _=>0
def kR(H:Hp)(a:Addr):List Int:=match H a with
 | some (.tup xs)=>xs.map intOf
 | _=>[]
theorem oE(h:H a=some (.tup (ns.map V.int))):kR H a=ns:=by
 delta kR;rw[h];show(ns.map V.int).map intOf=ns;rw[qCe];exact List.map_id'' (fun _=>rfl) ns
theorem qS:∀{as:List Addr}{us:List qAh},Vals (as.map V.ref) us->us=as.map Value.ref
 | [],_,.nil=>rfl
 | a::as,_,.cons r t=>by
  cases r
  rw[qS t];rfl
theorem qT:∀(as:List Addr),Vals (as.map V.ref) (as.map Value.ref)
 | []=>.nil
 | a::as=>.cons rfl (qT as)
section
variable {X:Cx}{pins:List (Addr×Obj)}{σ:St}{H:Hp}{s:qAj}
def Cj(H:Hp)(a:Addr):Prop:=∃(i:Int) (ns:List Int),H a=some (.tup ((i::ns).map V.int))
theorem Cj.there(I:Inv X pins σ H s){a:Addr}(h:Cj H a):∃(o:Obj) (xs:List qAh) (n:Nat) (i:Int) (t:Tok),s.heap.get? a=some o/\o.cls = .type "tuple"/\o.data = .seq xs.toArray n/\qJj xs (kR H a)/\xs[0]?=some (.int i t):=by
 obtain⟨i,ns,h⟩:=h;obtain⟨its,r,⟨o,h1,h2,n,h3⟩,_⟩:=I.tuple (eQ.of h);have hi:=intsAre_of r;rw[<- oE h] at hi;exists o,its,n,i;obtain⟨u,hu,⟨t,rfl⟩⟩:=r.get (i:=0) (x:=.int i) rfl;exact⟨t,h1,h2,h3,hi,hu⟩
theorem oF(I:Inv X pins σ H s):∀(as:List Addr),(∀a∈as,Cj H a)->∃fs,(∀v∈fs,∃i t,v=Value.int i t)/\∀h':Heap,(∀b o,s.heap.get? b=some o->h'.get? b=some o)->KatTups h' (as.map Value.ref) fs
 | [],_=>⟨[],fun v hv=>(by cases hv),fun _ _=>KatTups.nil⟩
 | a::as,h=>by
  obtain⟨fs,h1,h2⟩:=oF I as fun b hb=>h b (by simp[hb]);obtain⟨o,xs,n,i,t,g1,g2,g3,g4,g5⟩:=(h a (by simp)).there I;refine⟨.int i t::fs,fun v hv=>?_,fun h' k=>KatTups.cons (k _ _ g1) g2 g3 (by simpa using g5) (h2 h' k)⟩;rcases List.mem_cons.mp hv with rfl | hv
  .exact⟨i,t,rfl⟩
  .exact h1 v hv
theorem mZ(hb:b≠a)(q:h.get? b=some o):(qKd h a vs out).get? b=some o:=by
 delta qKd;rw[qGu _ _ _ _ hb];refine qAi _ (qAi _ ?_);rw[qGu _ _ _ _ hb];exact q
theorem sortedHeap_at(ho:h.get? a=some (qEy "list" vs.toArray n)):∃c,(qKd h a vs out).get? a=some (qEy "list" out c):=by
 obtain⟨e1,ho1⟩:∃e1,(h.update a (Obj.mapSeq fun _=>(#[]:Array qAh))).get? a=some (qEy "list" #[] e1):=⟨_,get?_update_seq ho fun _=>#[]⟩;delta qKd;exact⟨_,get?_update_seq (qAi _ (qAi _ ho1)) fun _=>out⟩
theorem range_getD(as:List Addr):(qBk as.length).map (fun i=>as.getD i 0)=as:=by
 refine List.ext_getElem (by simp) fun i h1 h2=>?_;simp[h2]
theorem pV:eD X (.builtin "sorted") (fun xs H Q=>∃(p:Addr) (as:List Addr),xs=[.ref p]/\bA X.K H p (as.map V.ref)/\(∀a∈as,Cj H a)/\as.length<64/\∀(l:Addr) (bs:List Addr),H l=none->bs.Perm as->bs=((kas_sort as.length).run fun i j=>HT.lexLt (kR H (as.getD i 0)) (kR H (as.getD j 0))).toList.map (fun i=>as.getD i 0)->Q (.ref l) (upd H l (.lst (bs.map V.ref)))):=by
 intro pins s σ H xs us Q I r h;obtain⟨p,as,rfl,hq,ht,h64,q⟩:=h;obtain⟨u,rfl,rx⟩:=vals1 r;cases rx;obtain⟨its,r',pl,hz⟩:=I.list hq;obtain rfl:=qS r';obtain⟨fs,f1,f2⟩:=oF I as ht;have hlen:(as.map Value.ref).length=as.length:=qAa _;refine wC pl.isList (by rw[hlen];exact h64) (fun i j=>HT.lexLt (kR H (as.getD i 0)) (kR H (as.getD j 0))) f2 f1 (fun h' k i j C hi hj hC=>?_) fun pm hp hrun=>?_
 .rw[hlen] at hi hj;obtain⟨o1,x1,n1,_,_,a1,a2,a3,a4,_⟩:=(ht (as.getD i 0) (by rw[qBg,qAe hi];exact qDc hi)).there I;obtain⟨o2,x2,n2,_,_,b1,b2,b3,b4,_⟩:=(ht (as.getD j 0) (by rw[qBg,qAe hj];exact qDc hj)).there I;have e:∀i,i<as.length->(as.map Value.ref).getD i Value.none = .ref (as.getD i 0):=fun i hi=>by
   rw[qBg,qAs,qAe hi,qBg,qAe hi];rfl
  delta kas_ask;rw[e i hi,e j hj];refine kat_lt (k _ _ a1) a3 (k _ _ b1) b3 ?_;simpa using yK x1 x2 _ _ 0 a4 b4 hC
 .rw[hlen] at hp;have kp:∀b o,s.heap.get? b=some o->(sortedAll s.heap (as.map Value.ref) (qEd (pm.toList.map fun i=>(as.map Value.ref).getD i Value.none))).get? b=some o:=fun b o e =>
   mZ (h:=jK s.heap (as.map Value.ref)) (qBi (qJi (qAt e))) (kQ e)
  have hsz:((s.heap.push (qEy "list" #[] 0)).update s.heap.objs.size (Obj.mapSeq (· ++ (as.map Value.ref).toArray))).objs.size=s.heap.objs.size+1:=by
   rw[qHr,size_push']
  have hoL:(jK s.heap (as.map Value.ref)).get? (s.heap.objs.size+1)=some (qEy "list" (as.map Value.ref).toArray 0):=by
   delta jK;rw[<- hsz];exact qBh _ rfl
  obtain⟨c,hc⟩:=sortedHeap_at (out:=qEd (pm.toList.map fun i=>(as.map Value.ref).getD i Value.none)) hoL;have eo:(pm.toList.map fun i=>(as.map Value.ref).getD i Value.none)=(pm.toList.map fun i=>as.getD i 0).map Value.ref:=by
   rw[qCe];refine qIo fun i hi=>?_;have hi:i<as.length:=List.mem_range.mp (hp.mem_iff.mp hi);show _=Value.ref (as.getD i 0);rw[qBg,qAs,qAe hi,qBg,qAe hi];rfl
  have hpm:(pm.toList.map fun i=>as.getD i 0).Perm as:=by
   have z:=hp.map (fun i=>as.getD i 0);rw[range_getD] at z;exact z
  refine⟨.ref (s.heap.objs.size+1),_,I.laid (a:=s.heap.objs.size+1) (o:=.lst ((pm.toList.map fun i=>as.getD i 0).map V.ref)) (t':=s.toks) kp (qIt _) ?_,rfl,q _ _ (I.cE.fresh (qIt _)) hpm (by rw[hrun,hlen])⟩;exists ?_,(pm.toList.map fun i=>as.getD i 0).map Value.ref,c,qT _
  .rw[qAa,hpm.length_eq,qFf];lia
  .rw[<- eo];exact hc
theorem As:qCn "sorted"=some (.builtin "sorted"):=by decide +kernel
end
section
variable {X:Cx}{a b c d:Expr}{ta tb tc td:TE}{pos:Pos}
def EJ(r r' r'':R2)(ta tb tc td:TE):TT:=fun σ H Q=>ta σ H fun x H1=>tb σ H1 fun y H2=>r x y H2 fun z H3=>∃k,z = .bl k /\
 (if k=true then tc σ H3 fun w' H4=>r' y w' H4 fun z2 H5=>∃k2,z2 = .bl k2/\(if k2=true then td σ H5 fun v' H6=>r'' w' v' H6 fun z3 H7=>∃k3,z3 = .bl k3/\Q k3 H7 else Q false H5) else Q false H3)
theorem Au(ho:gR X (qDi op) r)(ho':gR X (qDi op') r')(ho'':gR X (qDi op'') r'')(ha:PE X a ta)(hb:PE X b tb)(hc:PE X c tc)(hd:PE X d td)
  (hm:lastMarks [op,op',op''] [b,c,d]=false:=by with_unfolding_all rfl):PT X (.Compare a [op,op',op''] [b,c,d] pos) (EJ r r' r'' ta tb tc td):=by
 intro pins s σ H Q I h;refine isTrue_chain (bT (ha pins s σ H _ I h) fun v s1 ⟨x,H1,I1,r1,q1⟩=>test_link (bT (hb pins s1 σ H1 _ I1 q1) fun u s2 ⟨y,H2,I2,r2,q2⟩ =>
  bT (ho pins s2 σ H2 x y v u _ I2 r1 r2 q2) fun e1 s3 z9=>?_)) hm;obtain⟨z,H3,I3,r3,k,e,q3⟩:=z9
 subst e;cases r3;refine qCr ?_;cases k with
 | false=>exact ite_ff ⟨H3,I3,q3⟩
 | true =>
  refine ite_tt (test_link (bT (hc pins s3 σ H3 _ I3 q3) fun w' s4 ⟨z',H4,I4,r4,q4⟩=>bT (ho' pins s4 σ H4 y z' u w' _ I4 r2 r4 q4) fun d' s5 z9=>?_));obtain⟨z2,H5,I5,r5,k2,e2,q5⟩:=z9;subst e2;cases r5;refine qCr ?_;cases k2 with
  | false=>exact ite_ff ⟨H5,I5,q5⟩
  | true =>
   refine ite_tt (test_last (bT (hd pins s5 σ H5 _ I5 q5) fun v' s6 ⟨z4,H6,I6,r6,q6⟩=>bT (ho'' pins s6 σ H6 z' z4 w' v' _ I6 r4 r6 q6) fun d2 s7 z9=>?_));obtain⟨z3,H7,I7,r7,k3,e3,q7⟩:=z9;subst e3;cases r7;exact qCr ⟨H7,I7,q7⟩
end
section
variable {K:qAb}{a:Addr}{xs:List V}{σ0:St}{H1:Hp}{g:TG}{c:TT}{te:TE}{Q:Addr->Hp->Prop}
theorem jL(Ag:St->Prop)(f:Nat->V->Option V)(h0:Ag σ0)(hq:bA K H1 a xs)(hn:xs.length<=qAg)
  (step:∀(i:Nat) (x:V) (σ1:St) (H2:Hp) (k:St->VK) (k0:St->Hp->Prop),Ag σ1->aK H1 H2->xs[i]?=some x->(∀σ2 y,Ag σ2->f i x=some y->∀H3,aK H2 H3->k σ2 y H3)->(∀σ2,Ag σ2->f i x=none->∀H3,aK H2 H3->k0 σ2 H3) ->
   g x σ1 H2 fun σ2 H3=>c σ2 H3 fun b H4=>if b=true then te σ2 H4 (k σ2) else k0 σ2 H4)
  (h:∀D H2,H1 D=none->aK H1 H2->H2 D=some (.lst ((qBk xs.length).filterMap fun i=>(xs[i]?).bind (f i)))->Q D H2) :
  ∀D,H1 D=none->∃W:Nat->Nat->St->Hp->Prop,(∃m,W 0 m σ0 (upd H1 D (.lst [])))/\∀i m σ1 H2,W i m σ1 H2 ->
   ((pO K a).stop i H2/\Q D H2)\/((pO K a).go i H2/\∃N:St->Hp->Prop,(∀σ' H',N σ' H'->∃m',m'<m/\W (i+1) m' σ' H') /\
    ∀x H',(pO K a).vF i H2 x H'->g x σ1 H' fun σ2 H3=>c σ2 H3 fun b H4=>if b=true then te σ2 H4 fun y H5=>∃xs,H5 D=some (.lst xs)/\xs.length<qAg/\N σ2 (upd H5 D (.lst (xs++[y]))) else N σ2 H4):=by
 intro D hD;exists fun i m σ1 H2=>Ag σ1/\aK H1 H2/\H2 D=some (.lst ((qBk i).filterMap fun i=>(xs[i]?).bind (f i)))/\i<=xs.length/\m=xs.length-i,⟨xs.length,h0,.aJ hD,aB,qBn _,rfl⟩;rintro i m σ1 H2 ⟨hσ,hs,hd,hi,rfl⟩;rcases qBj i xs.length with hlt | hge
 .right
  refine⟨⟨xs,xs[i],hs.seq hq,by simp[hlt]⟩,fun σ' H'=>Ag σ'/\aK H1 H'/\H' D=some (.lst ((qBk (i+1)).filterMap fun i=>(xs[i]?).bind (f i))),(by rintro σ' H' ⟨a,b,c⟩;exact ⟨xs.length-(i+1),by lia,a,b,c,hlt,rfl⟩),?_⟩;rintro x H' ⟨rfl,hx⟩;have hx:=hx xs (hs.seq hq);refine step i x σ1 _ (fun σ2 y H5=>∃xs,H5 D=some (.lst xs)/\xs.length<qAg/\_) _ hσ hs hx (fun σ2 y a2 hy H3 hs3=>⟨_,hs3 _ _ hd,?_,a2,?_,?_⟩) fun σ2 a2 hno H3 hs3=>⟨a2,hs.trans hs3,?_⟩
  .refine qBp (qDs _ _) ?_;rw[qEl];lia
  .exact(hs.trans hs3).upd_ne' hD
  .rw[aB,qEb,qCq];simp[hx,hy]
  .rw[hs3 _ _ hd,qEb,qCq];simp[hx,hno]
 .left
  obtain rfl:i=xs.length:=qDr hi hge;exact⟨⟨xs,hs.seq hq,qAl _⟩,h D _ hD hs hd⟩
end
section
variable {X:Cx}{Ex:XS}{o e:Expr}{es:List Expr}{ta:TE}{t:TA}{m:Str}{apos pos:Pos}{j k:Nat}
theorem oG(P:qBe)(w:qCj)(K:qAb)(mg:Str->Option qAh)(base:Heap)(h1:X.prog=P)(h2:X.w=w)(h3:X.K=K)(h4:X.mg=mg)(h5:X.base=base){pl:Sem Bool}(R:Pass X Ex)(he:PE X o ta)(hr:cY j X.A)(hj:k<=j)
  (ht:eval (.Call (.Attribute o m apos) [] [] pos) X.env=(do
   let v <- eval o X.env
   qIf apos.atName
   let (f,first) <- qIx [v] (qJs v m pl)
   qNk pos f first (qFc pos (qBl [] X.env)) (qGz pos (qFb [] X.env))):=by rfl) :
  PE X (.Call (.Attribute o m apos) [] [] pos) (BV K (fun g sp=>∃ps,Md P w K mg base k ps sp g) m Ex ta mV):=by
 subst h1 h2 h3 h4 h5;exact qQ R he hr hj ht
end
section
variable {X:Cx}
end
section
variable {K:qAb}{a:Addr}{xs:List V}{σ0:St}{H1:Hp}{i0:Nat}{c:TT}{te:TE}{Q:Addr->Hp->Prop}
end
section
variable {M:qLo}{A:qCb}{E:qAh->qAj->Prop}{s:qAj}
end
section
variable {X:Cx}{NB:List Str}{pick:List (Option Nat)}{sc:qHb}{cl:List (Str×Addr)}{y0:Str}{pins:List (Addr×Obj)}{σ:St}{H:Hp}{s:qAj}{fp:List Addr}
end
section
variable {X:Cx}{NB:List Str}{pick:List (Option Nat)}{sc:qHb}{cl:List (Str×Addr)}{y0:Str}{elt target iter:Expr}{ifs:List Expr}{pos:Pos}{wi:TI}{g:TG}{c:TT}{te:TE}
end
end L2
namespace HT
open PySem PyProof.Rows
section
open PySem.SeqAt
open PySem.AutoSeq1 (wpAny_loadPart')
open PySem.MeetsSeq PySem.MeetsSeq2 PySem.MeetsSeq3
end
section
variable {prog:qBe}{w:qCj}{A:qCb}{E:qAh->qAj->Prop}{s:qAj}
end
end HT
namespace L2
open PySem PySem.Spec PyProof.Rows
section
variable {X:Cx}
end
section
variable {X:Cx}
end
end L2
namespace PySem
section
variable {prog:qBe}{w:qCj}{K:Type} [DecidableEq K] {knd:HeapKind prog w K}{A:qCb}{E:qAh->qAj->Prop}{s:qAj}
end
section
variable {prog:qBe}{w:qCj}{K:Type} [DecidableEq K] {knd:KeyKind prog w K}{A:qCb}{E:qAh->qAj->Prop}{s:qAj}
end
end PySem
namespace L2
open PySem PySem.Spec PyProof.Rows
section
variable {X:Cx}
end
section
variable {X:Cx}
end
section
variable {X:Cx}
end
end L2
set_option maxHeartbeats 4000000
namespace L2
open PySem PySem.Spec PyProof.Rows
section
variable {X:Cx}{pins:List (Addr×Obj)}{σ:St}{H:Hp}{s:qAj}
end
end L2
set_option maxHeartbeats 4000000
namespace PySem.W
open PySem PySem.Calls PyProof.Rows
theorem KasT.qU{α:Type}{n:Nat}{P:α->Prop}{lt lt':Nat->Nat->Bool}(h:∀i j,i<n->j<n->lt i j=lt' i j):∀{t:KasT α},t.Ok n P->t.run lt=t.run lt'
 | .ret a,_=>rfl
 | .ask i j k,o=>by
  show(k (lt i j)).run lt=(k (lt' i j)).run lt';rw[h i j o.1 o.2.1];exact KasT.qU h (o.2.2 _)
theorem KasT.Ck:∀{t:KasT α},t.Ok n P->P (t.run lt)
 | .ret a,h=>h
 | .ask i j k,o=>show P ((k (lt i j)).run lt) from KasT.Ck (t:=k (lt i j)) (o.2.2 (lt i j))
namespace S6
def rk(n:Nat)(code:Nat->Nat)(i:Nat):Nat:=((qBk n).filter fun k=>decide (code k<code i)).length
end S6
end PySem.W
namespace L2
open PySem PySem.Spec PyProof.Rows PySem.W
section
variable {X:Cx}
end
end L2
set_option maxHeartbeats 4000000
namespace L2
open PySem PySem.Spec PyProof.Rows
section
variable {prog:qBe}{w:qCj}{A:qCb}{E:qAh->qAj->Prop}{s:qAj}{d it:Addr}{o:Obj}{es:Array DictEntry}{ep:Nat}
end
section
variable {X:Cx}{tg:Expr}
end
section
variable {K:qAb}{a:Addr}{xs:List V}{σ0:St}{H1:Hp}{g:TG}{c:TT}{te:TE}{Q:Addr->Hp->Prop}
end
section
variable {X:Cx}
end
section
variable {K:qAb}{a:Addr}{xs:List V}{lo:Int}{n:Nat}{σ0:St}{H1:Hp}{i0:Nat}{c:TT}{te:TE}{Q:Addr->Hp->Prop}
end
section
variable {X:Cx}
def Me(K:qAb):R2:=fun x y H Q=>∃d d',iI K H x d/\iI K H y d'/\d.depth<=64/\d'.depth<=64/\Q (.bl (PyData.eqv d d')) H
theorem EK(hu:X.A.units+64<qMq):gR X (qDi .Eq) (Me X.K):=by
 intro pins s σ H x y v u Q I rx ry h;obtain⟨d,d',h1,h2,hd,hd',q⟩:=h;obtain⟨as,r1⟩:=h1.reads I rx;obtain⟨bs,r2⟩:=h2.reads I ry;have sh:SeqAt.shaped d=true:=by
  show(d.canLay0&&decide (d.depth<=64))=true;rw[h1.lay.1,decide_eq_true hd];rfl
 have sh':SeqAt.shaped d'=true:=by
  show(d'.canLay0&&decide (d'.depth<=64))=true;rw[h2.lay.1,decide_eq_true hd'];rfl
 exact eq_dataH r1 r2 sh sh' hu ⟨.bl (PyData.eqv d d'),H,I,rfl,q⟩
end
section
variable {K:qAb}{a a':Addr}{xs xs':List V}{lo:Int}{n:Nat}{σ0:St}{H1:Hp}{i0:Nat}{c:TT}{te:TE}{g:TG}{Q:Addr->Hp->Prop}
end
section
variable {X:Cx}
end
section
variable {K:qAb}{lo:Int}{n:Nat}{σ0:St}{H1:Hp}{i0:Nat}{c:TT}{te:TE}{Q:Addr->Hp->Prop}
end
section
variable {prog:qBe}{w:qCj}{A:qCb}{E:qAh->qAj->Prop}{s:qAj}
end
section
variable {X:Cx}
end
section
variable {X:Cx}
end
end L2
namespace L2
namespace ST
open PySem
end ST
end L2
namespace L2
namespace ST
open PySem PySem.Spec PyProof.Rows
def iv:qAh->Int
 | .int n _=>n
 | _=>0
section
variable {prog:qBe}{w:qCj}{A:qCb}{E:qAh->qAj->Prop}{s:qAj}
end
section
variable {prog:qBe}{w:qCj}{A:qCb}{R:qNl->qAj->Prop}{I:Addr}{fp wr:List Addr}{G:Array qNm->Array qNm->Prop}{n:Nat}{P:Nat->qAh->Prop}{St:Nat->qAj->Prop}
end
end ST
end L2
namespace PySem
namespace ST
open L2.ST
section
variable {prog:qBe}{w:qCj}{A:qCb}{E:qAh->qAj->Prop}{s:qAj}
set_option maxHeartbeats 3200000 in
end
end ST
end PySem
namespace PySem
namespace ST
open L2.ST
section
variable {prog:qBe}{w:qCj}{A:qCb}{E:qAh->qAj->Prop}{s:qAj}{I S:Addr}{o:Obj}{es:Array (Int×qAh)}{ep:Nat}{t:SetTable}
end
end ST
end PySem
namespace PySem
namespace ST
open L2.ST PyProof.Rows
section
variable {prog:qBe}{w:qCj}{A:qCb}{E:qAh->qAj->Prop}{s:qAj}{I S:Addr}{o:Obj}{es:Array (Int×qAh)}{ep:Nat}{t:SetTable}
end
end ST
end PySem
namespace PySem
namespace ST
open L2.ST PyProof.Rows
section
variable {prog:qBe}{w:qCj}{A:qCb}{E:qAh->qAj->Prop}{s:qAj}{S:Addr}{σ:List Int}
end
end ST
end PySem
namespace L2
open PySem PySem.Spec PyProof.Rows
section
variable {X:Cx}
end
end L2
set_option maxHeartbeats 4000000
namespace L2
open PySem PySem.Spec PyProof.Rows
section
variable {X:Cx}{tg:Expr}
end
section
variable {K:qAb}{a a':Addr}{xs xs':List V}{lo:Int}{n:Nat}{σ0:St}{H1:Hp}{i0:Nat}{c:TT}{te:TE}{g:TG}{Q:Addr->Hp->Prop}
end
end L2
set_option maxHeartbeats 4000000
namespace L2
open PySem PySem.Spec PyProof.Rows
end L2
set_option maxHeartbeats 4000000
namespace L2
open PySem PySem.Spec PyProof.Rows
section
variable {X:Cx}
end
section
variable {X:Cx}
def Mf(t:TE):TE:=fun σ H Q=>t σ H fun x H1=>∃i:Int,x = .int i/\i.natAbs.log2<1920/\Q (.str (toString i)) H1
theorem dN(h:PE X e t):PE X (.FormattedValue e (-1) none pos) (Mf t):=by
 intro pins s σ H Q I hq;refine wpAny_FormattedValue_plain (bT (h pins s σ H _ I hq) fun v s1 z9=>?_);obtain⟨x,H1,I1,r1,q1⟩:=z9;obtain⟨i,rfl,hi,q⟩:=q1;obtain⟨t,rfl⟩:=(show ∃t,v=Value.int i t from r1);exact wpAny_formatField_int hi ⟨.str _,H1,I1.tok _,⟨_,rfl⟩,q⟩
abbrev TJ:=St->Hp->Str->(Str->Hp->Prop)->Prop
def PJ(X:Cx)(es:List Expr)(t:TJ):Prop :=
 ∀(pins:List (Addr×Obj)) (s:qAj) (σ:St) (H:Hp) (acc:Str) (R:Str->Hp->Prop) (Q:Str->qAj->Prop),Inv X pins σ H s->t σ H acc R->(∀out H' s',Inv X pins σ H' s'->R out H'->Q out s')->Joins (qBr X.prog X.w) X.A X.xe (evalEach es X.env) acc Q s
def yL:TJ:=fun _ H acc R=>R acc H
def jC(t:TE)(r:TJ):TJ:=fun σ H acc R=>t σ H fun x H1=>∃y:Str,x = .str y/\(acc++y).length<=qAg/\r σ H1 (acc++y) R
theorem dD:PJ X [] yL:=fun _ _ _ _ _ _ _ I h k=>k _ _ _ I h
theorem aZ(h:PE X e t)(hr:PJ X es r):PJ X (e::es) (jC t r):=by
 intro pins s σ H acc R Q I hq k;show qBq _ _ (eval e X.env) _ _ s;refine bT (h pins s σ H _ I hq) fun v s1 z9=>?_;obtain⟨x,H1,I1,r1,q1⟩:=z9;obtain⟨y,rfl,hy,q⟩:=q1;obtain⟨t,rfl⟩:=(show ∃t,v=Value.str y t from r1);exact⟨y,t,rfl,hy,hr pins s1 σ H1 _ R Q I1 q k⟩
def OD(t:TJ):TE:=fun σ H Q=>t σ H Str.empty fun out H1=>out.length<=qAg/\Q (.str out) H1
theorem eU(h:PJ X (e1::e2::es) t):PE X (.JoinedStr (e1::e2::es) pos) (OD t):=by
 intro pins s σ H Q I hq;exact wpAny_JoinedStr (h pins s σ H _ _ _ I hq fun out H' s' I' q=>⟨q.1,.str _,H',I'.tok _,⟨_,rfl⟩,q.2⟩)
def rJoin(K:qAb):V->List V->Hp->VK->Prop:=fun x vs H Q=>∃(sep:Str) (p:Addr) (ss:List Str),x = .str sep/\vs=[.ref p]/\bA K H p (ss.map V.str)/\(ss.map (·.length)).sum+ss.length*sep.length<=16777216/\Q (.str (Txt.join sep ss)) H
theorem yM:∀{ss:List Str}{us:List qAh},Vals (ss.map V.str) us->StrsAre us ss
 | [],_,.nil=>.nil
 | s::ss,_,.cons r rs=>by
  obtain⟨t,rfl⟩:=(show ∃t,_=Value.str s t from r);exact .cons s t (yM rs)
theorem dQ:Eb X "str.join" (rJoin X.K):=by
 intro pins s σ H x vs v us Q I rx rv h;obtain⟨sep,p,ss,rfl,rfl,hq,hl,q⟩:=h;obtain⟨t,rfl⟩:=(show ∃t,v=Value.str sep t from rx);obtain⟨u,rfl,ru⟩:=rv.one;cases ru;obtain⟨its,r',pl,hz⟩:=I.list hq;exact join_list pl.isList (yM r') hl fun t' k=>⟨.str _,H,I.tok _,⟨_,rfl⟩,q⟩
end
end L2
set_option maxHeartbeats 4000000
namespace PySem.W
open PySem PySem.Calls PyProof.Rows
theorem KasT.run_bind:∀{t:KasT α},(t.bind f).run lt=(f (t.run lt)).run lt
 | .ret a=>rfl
 | .ask i j k=>KasT.run_bind (t:=k (lt i j))
namespace SG
section
variable {n:Nat}{code:Nat->Nat}
abbrev ck(code:Nat->Nat)(p:Array Nat)(i:Nat):Nat:=code (p.getD i 0)
abbrev lc(code:Nat->Nat):Nat->Nat->Bool:=fun i j=>decide (code i<code j)
def Cm(code:Nat->Nat)(p:Array Nat)(m:Nat):Prop:=∀i j,i<j->j<m->ck code p i<ck code p j
def Dec(code:Nat->Nat)(p:Array Nat)(m:Nat):Prop:=∀i j,i<j->j<m->ck code p j<ck code p i
def Inj(n:Nat)(code:Nat->Nat)(p:Array Nat):Prop:=∀i j,i<n->j<n->ck code p i=ck code p j->i=j
theorem getD_at(p:Array Nat)(i:Nat):p.getD i 0=(p[i]?).getD 0:=by
 by_cases h:i<p.size
 .simp[qGn,h]
 .simp[qGn,h]
theorem gW.size(h:gW n p):p.size=n:=by
 have:=h.length_eq;rw[qEl,qCv] at this;exact this
theorem Ia(hn:0<n)(h:gW n p)(inj:∀i j,i<n->j<n->code i=code j->i=j):Inj n code p:=fun i j hi hj e=>by
 have e:=inj _ _ (h.lt hn i) (h.lt hn j) e;have nd:p.toList.Nodup:=h.nodup_iff.mpr List.nodup_range;have sz:=gW.size h;have gi:p.getD i 0=p.toList[i]'(by rw[qCv];lia):=by simp[qGn,show i<p.size by lia]
 have gj:p.getD j 0=p.toList[j]'(by rw[qCv];lia):=by simp[qGn,show j<p.size by lia]
 rw[gi,gj] at e;exact(qMm nd).mp e
theorem sN(ij:Inj n code p):∀f m,1<=m->m+f<=n->Cm code p m->∃m',(kas_asc p f m).run (lc code)=m'/\m<=m'/\m'<=m+f/\Cm code p m'/\(m'=m+f\/ck code p m'<ck code p (m'-1))
 | 0,m,_,_,s=>⟨m,rfl,qAl _,qAl _,s,.inl rfl⟩
 | f+1,m,m1,mf,s=>by
  by_cases h:ck code p m<ck code p (m-1)
  .refine⟨m,?_,qAl _,by lia,s,.inr h⟩;show KasT.run _ (if lc code (p.getD m 0) (p.getD (m-1) 0)=true then _ else _)=m;rw[if_pos (decide_eq_true h)];rfl
  .have s':Cm code p (m+1):=fun i j hij hj=>by
    rcases qBj j m with q | q
    .exact s i j hij q
    .obtain rfl:j=m:=by lia
     have ne:ck code p j≠ck code p (j-1):=fun e=>by have:=ij j (j-1) (by lia) (by lia) e;lia
     rcases qBj i (j-1) with z | z
     .have:=s i (j-1) z (by lia);lia
     .obtain rfl:i=j-1:=by lia
      lia
   obtain⟨m',e,a,b,c,d⟩:=sN ij f (m+1) (by lia) (by lia) s';refine⟨m',?_,by lia,by lia,c,by lia⟩;show KasT.run _ (if lc code (p.getD m 0) (p.getD (m-1) 0)=true then _ else _)=m';rw[if_neg (by rw[show lc code (p.getD m 0) (p.getD (m-1) 0)=false from decide_eq_false h];decide)];exact e
theorem t5(ij:Inj n code p):∀f m,1<=m->m+f<=n->Dec code p m->∃m',(kas_desc f p m 0).run (lc code)=(p,m',0)/\m<=m'/\m'<=m+f/\Dec code p m'
 | 0,m,_,_,s=>⟨m,rfl,qAl _,qAl _,s⟩
 | f+1,m,m1,mf,s=>by
  by_cases h:ck code p m<ck code p (m-1)
  .have s':Dec code p (m+1):=fun i j hij hj=>by
    rcases qBj j m with q | q
    .exact s i j hij q
    .obtain rfl:j=m:=by lia
     rcases qBj i (j-1) with z | z
     .have:=s i (j-1) z (by lia);lia
     .obtain rfl:i=j-1:=by lia
      lia
   obtain⟨m',e,a,b,c⟩:=t5 ij f (m+1) (by lia) (by lia) s';refine⟨m',?_,by lia,by lia,c⟩;show KasT.run _ (if lc code (p.getD m 0) (p.getD (m-1) 0)=true then (if 0>0 then _ else _) else _)=_;rw[if_pos (decide_eq_true h),if_neg (by lia)];exact e
  .have ne:ck code p m≠ck code p (m-1):=fun e=>by have:=ij m (m-1) (by lia) (by lia) e;lia
   refine⟨m,?_,qAl _,by lia,s⟩;show KasT.run _ (if lc code (p.getD m 0) (p.getD (m-1) 0)=true then _ else KasT.ask _ _ _)=_;rw[if_neg (by rw[show lc code (p.getD m 0) (p.getD (m-1) 0)=false from decide_eq_false h];decide)];show KasT.run _ (if lc code (p.getD (m-1) 0) (p.getD m 0)=true then _ else _)=_;rw[if_pos (decide_eq_true (by show ck code p (m-1)<ck code p m;lia))];rfl
theorem Cn(hm:m<=p.size)(i:Nat)(hi:i<m):(kas_rev p 0 m).getD i 0=p.getD (m-1-i) 0:=by
 rw[getD_at,getD_at];delta kas_rev;rw[getElem?_mirror_all hm,if_pos ⟨qBn _,hi⟩,Nat.zero_add]
theorem Av(hn:0<n)(inj:∀i j,i<n->j<n->code i=code j->i=j){p:Array Nat}(h:gW n p):∃m p',(kas_count n p).run (lc code)=(m,p')/\gW n p'/\1<=m/\m<=n/\Cm code p' m:=by
 have ij:=Ia hn h inj;have sz:=gW.size h;obtain⟨m1,e1,a1,b1,c1,d1⟩:=sN ij (n-1) 1 (qAl _) (by lia) fun i j hij hj=>by lia
 delta kas_count;rw[KasT.run_bind,e1];by_cases h1:(m1 == n)=true
 .rw[if_pos h1];exact⟨m1,p,rfl,h,by lia,by lia,c1⟩
 rw[if_neg h1];have ne:m1≠n:=fun e=>h1 (by rw[e];exact beq_self_eq_true _);by_cases h2:m1>1
 .rw[if_pos h2];refine⟨m1,p,?_,h,by lia,by lia,c1⟩;show KasT.run _ (if lc code (p.getD 0 0) (p.getD (m1-1) 0)=true then _ else _)=_;rw[if_pos (decide_eq_true (c1 0 (m1-1) (by lia) (by lia)))];rfl
 rw[if_neg h2];obtain rfl:m1=1:=by lia
 have lt1:ck code p 1<ck code p 0:=by rcases d1 with z | z;lia;exact z
 obtain⟨m2,e2,a2,b2,c2⟩:=t5 ij (n-(1+1)) (1+1) (by lia) (by lia) fun i j hij hj=>by
  obtain rfl:i=0:=by lia
  obtain rfl:j=1:=by lia
  exact lt1
 delta kas_descPart;rw[KasT.run_bind,e2];show ∃m p',KasT.run _ (if (0:Nat)>0 then _ else kas_tail3 m2 n p)=(m,p')/\_;rw[if_neg (by lia)];have h2:=h.rev 0 m2;have s2:Cm code (kas_rev p 0 m2) m2:=fun i j hij hj=>by
  show code _<code _;rw[Cn (by lia) i (by lia),Cn (by lia) j hj];exact c2 (m2-1-j) (m2-1-i) (by lia) (by lia)
 obtain⟨m3,e3,a3,b3,c3,_⟩:=sN (Ia hn h2 inj) (n-m2) m2 (by lia) (by lia) s2;refine⟨m3,kas_rev p 0 m2,?_,h2,by lia,by lia,c3⟩;delta kas_tail3;rw[KasT.run_bind,e3];rfl
theorem lU(hk:k<n)(ij:Inj n code p)(s:Cm code p k):∀f l r,l<=r->r<=k->r-l<=f->(∀i,i<l->ck code p i<ck code p k)->(∀i,r<=i->i<k->ck code p k<ck code p i) ->
  ∃l',(kas_place p k f l r).run (lc code)=l'/\l'<=k/\(∀i,i<l'->ck code p i<ck code p k)/\(∀i,l'<=i->i<k->ck code p k<ck code p i)
 | 0,l,r,lr,rk,f0,a,b=>⟨l,rfl,by lia,a,fun i hi=>b i (by lia)⟩
 | f+1,l,r,lr,rk,fl,a,b=>by
  by_cases h:l≥r
  .refine⟨l,?_,by lia,a,fun i hi=>b i (by lia)⟩;show KasT.run _ (if l≥r then _ else _)=l;rw[if_pos h];rfl
  .have q:(kas_place p k (f+1) l r).run (lc code)=(if lc code (p.getD k 0) (p.getD ((l+r)/2) 0)=true then kas_place p k f l ((l+r)/2) else kas_place p k f ((l+r)/2+1) r).run (lc code):=by
    show KasT.run _ (if l≥r then _ else _)=_;rw[if_neg h];rfl
   rw[q];by_cases c:ck code p k<ck code p ((l+r)/2)
   .rw[if_pos (decide_eq_true c)];refine lU hk ij s f l ((l+r)/2) (by lia) (by lia) (by lia) a fun i hi hik=>?_;rcases qBj ((l+r)/2) i with z | z
    .have:=s _ i z hik;lia
    .obtain rfl:i=(l+r)/2:=by lia
     exact c
   .rw[if_neg (by rw[show lc code (p.getD k 0) (p.getD ((l+r)/2) 0)=false from decide_eq_false c];decide)];have ne:ck code p k≠ck code p ((l+r)/2):=fun e=>by have:=ij k _ hk (by lia) e;lia
    refine lU hk ij s f ((l+r)/2+1) r (by lia) rk (by lia) (fun i hi=>?_) b;rcases qBj i ((l+r)/2) with z | z
    .have:=s i _ z (by lia);lia
    .obtain rfl:i=(l+r)/2:=by lia
     lia
theorem Co(hk:k<p.size)(hl:l<=k)(i:Nat):(bubble p k (k-l)).getD i 0=if i=l then p.getD k 0 else if l<i/\i<=k then p.getD (i-1) 0 else p.getD i 0:=by
 rw[getD_at (bubble p k (k-l)),getD_at p k,getD_at p (i-1),getD_at p i,getElem?_bubble hk _ (by lia),show k-(k-l)=l by lia];split
 .rfl
 .split <;> rfl
theorem yN(hn:0<n)(inj:∀i j,i<n->j<n->code i=code j->i=j):∀f p k,gW n p->Cm code p k->k+f=n->gW n ((kas_bin f p k).run (lc code))/\Cm code ((kas_bin f p k).run (lc code)) n
 | 0,p,k,h,s,e=>by
  obtain rfl:k=n:=by lia
  exact⟨h,s⟩
 | f+1,p,k,h,s,e=>by
  have ij:=Ia hn h inj;have sz:=gW.size h;obtain⟨l,el,lk,a,b⟩:=lU (by lia) ij s k 0 k (qBn _) (qAl _) (by lia) (fun i hi=>by lia) (fun i hi hk=>by lia);show gW n ((KasT.bind _ _).run _)/\Cm code ((KasT.bind _ _).run _) n;rw[KasT.run_bind,el];refine yN hn inj f _ (k+1) (h.QB _ _) (fun i j hij hj=>?_) (by lia);show code _<code _;rw[Co (by lia) lk,Co (by lia) lk];by_cases j1:j=l
  .rw[if_pos j1,if_neg (by lia),if_neg (by lia)];exact a i (by lia)
  rw[if_neg j1];by_cases j2:l<j/\j<=k
  .rw[if_pos j2];by_cases i1:i=l
   .rw[if_pos i1];exact b (j-1) (by lia) (by lia)
   rw[if_neg i1];by_cases i2:l<i/\i<=k
   .rw[if_pos i2];exact s (i-1) (j-1) (by lia) (by lia)
   .rw[if_neg i2];exact s i (j-1) (by lia) (by lia)
  .rw[if_neg j2,if_neg (by lia),if_neg (by lia)];exact s i j hij (by lia)
theorem Cp(hn:0<n)(inj:∀i j,i<n->j<n->code i=code j->i=j):Cm code ((kas_sort n).run (lc code)) n:=by
 obtain⟨m,p',e,h,m1,mn,s⟩:=Av hn inj (show gW n (qEd (qBk n)) from List.Perm.refl _);delta kas_sort;rw[KasT.run_bind,e];show Cm code (KasT.run _ (if m<n then kas_bin (n-max m 1) p' (max m 1) else _)) n;rw[show max m 1=m by lia];by_cases z:m<n
 .rw[if_pos z];exact(yN hn inj _ p' m h s (by lia)).2
 .rw[if_neg z];obtain rfl:m=n:=by lia
  exact s
theorem wD(hn:0<n){lt:Nat->Nat->Bool}(hlt:∀i j,i<n->j<n->lt i j=decide (code i<code j))(inj:∀i j,i<n->j<n->code i=code j->i=j):(((kas_sort n).run lt).toList.map code).Pairwise (· < ·):=by
 have e:(kas_sort n).run lt=(kas_sort n).run (lc code):=KasT.qU (n:=n) (P:=gW n) (fun i j hi hj=>hlt i j hi hj) (sM hn);have pm:gW n ((kas_sort n).run lt):=KasT.Ck (sM hn);have s:=Cp hn inj;rw[<- e] at s;have sz:=gW.size pm;rw[List.pairwise_map,List.pairwise_iff_getElem];intro i j hi hj hij;rw[qCv] at hi hj;have z:=s i j hij (by lia);have gi:((kas_sort n).run lt).getD i 0=((kas_sort n).run lt).toList[i]'(by rw[qCv];exact hi):=by simp[qGn,hi]
 have gj:((kas_sort n).run lt).getD j 0=((kas_sort n).run lt).toList[j]'(by rw[qCv];exact hj):=by simp[qGn,hj]
 have z:code _<code _:=z;rw[gi,gj] at z;exact z
end
end SG
end PySem.W
namespace L2
open PySem PySem.Spec PyProof.Rows PySem.W
section
variable {X:Cx}
theorem pX:eD X (.builtin "sorted") (fun xs H Q=>∃(p:Addr) (as:List Addr) (c:Addr->Nat),xs=[.ref p]/\bA X.K H p (as.map V.ref)/\(∀a∈as,Cj H a)/\as.length<64/\(∀a∈as,∀b∈as,HT.lexLt (kR H a) (kR H b)=decide (c a<c b))/\(as.map c).Nodup /\
  ∀(l:Addr) (bs:List Addr),H l=none->bs.Perm as->(bs.map c).Pairwise (· < ·)->Q (.ref l) (upd H l (.lst (bs.map V.ref)))):=fun pins s σ H xs us Q I r h=>by
 obtain⟨p,as,c,e1,e2,e3,e4,e5,e6,q⟩:=h;refine pV pins s σ H xs us Q I r ⟨p,as,e1,e2,e3,e4,fun l bs hl hp hb=>q l bs hl hp ?_⟩;rcases qFs as.length with z | h0
 .have:as=[]:=List.eq_nil_of_length_eq_zero z;subst this;rw[List.perm_nil.mp hp];exact List.Pairwise.nil
 have at_:∀i,i<as.length->as.getD i 0∈as:=fun i hi=>by
  rw[qBg,qAe hi];exact qDc hi
 have z:=SG.wD h0 (code:=fun i=>c (as.getD i 0)) (fun i j hi hj=>e5 _ (at_ i hi) _ (at_ j hj)) fun i j hi hj e=>by
  refine(List.getElem?_inj (i:=i) (j:=j) (by rw[qAa];exact hi) e6).mp ?_;rw[qAs,qAs,qAe hi,qAe hj];have e':c (as.getD i 0)=c (as.getD j 0):=e;rw[qBg,qBg,qAe hi,qAe hj] at e';exact congrArg some e'
 rw[hb,qCe];exact z
end
section
variable {K:qAb}{a:Addr}{xs:List V}{σ0:St}{H1:Hp}{g:TG}{c:TT}{te:TE}{Q:Addr->Hp->Prop}
theorem wF(Ag:St->Prop)(R:Nat->V->Hp->Prop)(mono:∀i y H H',fI H H'->R i y H->R i y H')(h0:Ag σ0)(hq:bA K H1 a xs)(hn:xs.length<=qAg)
  (step:∀(i:Nat) (x:V) (σ1:St) (H2:Hp) (k:St->VK) (k0:St->Hp->Prop),Ag σ1->aK H1 H2->xs[i]?=some x->(∀σ2 y H3,Ag σ2->aK H2 H3->R i y H3->k σ2 y H3) ->
   g x σ1 H2 fun σ2 H3=>c σ2 H3 fun b H4=>if b=true then te σ2 H4 (k σ2) else k0 σ2 H4)
  (h:∀D ys H2,H1 D=none->aK H1 H2->ys.length=xs.length->(∀i y,ys[i]?=some y->R i y H2)->H2 D=some (.lst ys)->Q D H2) :
  ∀D,H1 D=none->∃W:Nat->Nat->St->Hp->Prop,(∃m,W 0 m σ0 (upd H1 D (.lst [])))/\∀i m σ1 H2,W i m σ1 H2 ->
   ((pO K a).stop i H2/\Q D H2)\/((pO K a).go i H2/\∃N:St->Hp->Prop,(∀σ' H',N σ' H'->∃m',m'<m/\W (i+1) m' σ' H') /\
    ∀x H',(pO K a).vF i H2 x H'->g x σ1 H' fun σ2 H3=>c σ2 H3 fun b H4=>if b=true then te σ2 H4 fun y H5=>∃xs,H5 D=some (.lst xs)/\xs.length<qAg/\N σ2 (upd H5 D (.lst (xs++[y]))) else N σ2 H4):=by
 intro D hD;refine⟨fun i m σ1 H2=>Ag σ1/\aK H1 H2/\(∃ys,ys.length=i/\(∀j y,ys[j]?=some y->R j y H2)/\H2 D=some (.lst ys))/\i<=xs.length/\m=xs.length-i,⟨xs.length,h0,.aJ hD,⟨[],rfl,fun j y e=>(by cases e),aB⟩,qBn _,rfl⟩,?_⟩;rintro i m σ1 H2 ⟨hσ,hs,⟨ys,hy,hR,hd⟩,hi,rfl⟩;rcases qBj i xs.length with hlt | hge
 .right
  refine⟨⟨xs,xs[i],hs.seq hq,by simp[hlt]⟩,fun σ' H'=>Ag σ'/\aK H1 H'/\∃ys,ys.length=i+1/\(∀j y,ys[j]?=some y->R j y H')/\H' D=some (.lst ys),(by rintro σ' H' ⟨a,b,c⟩;exact ⟨xs.length-(i+1),by lia,a,b,c,hlt,rfl⟩),?_⟩;rintro x H' ⟨rfl,hx⟩;have hx:=hx xs (hs.seq hq);refine step i x σ1 _ (fun σ2 y H5=>∃xs,H5 D=some (.lst xs)/\xs.length<qAg/\_) _ hσ hs hx (fun σ2 y H3 a2 hs3 hR3=>⟨_,hs3 _ _ hd,by lia,a2,(hs.trans hs3).upd_ne' hD,ys++[y],by rw[qAf];show _+1=_;lia,fun j z e=>?_,aB⟩);have keep:∀{j z},R j z H3->R j z (upd H3 D (.lst (ys++[y]))):=fun {j z} q=>mono _ _ _ _ (.lst (hs3 _ _ hd)) q;rcases qBj j ys.length with z1 | z1
  .rw[qAy z1] at e;exact keep (mono _ _ _ _ hs3.t (hR j z e))
  .rw[qAz z1] at e;obtain⟨rfl,rfl⟩:j=i/\y=z:=by
    rcases qFs (j-ys.length) with q | q
    .rw[q] at e;exact⟨by lia,Option.some.inj e⟩
    .rw[qDq (by show 1<=_;lia)] at e;cases e
   exact keep hR3
 .left
  obtain rfl:i=xs.length:=qDr hi hge;exact⟨⟨xs,hs.seq hq,qAl _⟩,h D ys _ hD hs hy hR hd⟩
end
section
variable {X:Cx}
end
section
variable {X:Cx}
def Cq:V->List V->Hp->VK->Prop:=fun x xs H Q=>∃t sep:Str,x = .str t/\xs=[.str sep]/\(sep.length == 0)=false/\t.length+2<=qAg/\∀l,H l=none->Q (.ref l) (upd H l (.lst ((Txt.split t sep).map V.str)))
theorem qV:∀(ss:List Str) (n:Nat),Vals (ss.map V.str) (strsFrom n ss)
 | [],_=>.nil
 | s::ss,n=>.cons ⟨_,rfl⟩ (qV ss (n+1))
theorem lV:Eb X "str.split" Cq:=by
 intro pins s σ H x xs v us Q I rx rv h;obtain⟨t,sep,rfl,rfl,h0,hz,q⟩:=h;obtain⟨tk,rfl⟩:=(show ∃tk,v=Value.str t tk from rx);obtain⟨u,rfl,ru⟩:=rv.one;obtain⟨tu,rfl⟩:=(show ∃tu,u=Value.str sep tu from ru);have fin:∀(its:List qAh) (k:Nat),Vals ((Txt.split t sep).map V.str) its->(Txt.split t sep).length<=qAg->EP X pins σ Q (.ref s.heap.objs.size) { s with heap:=s.heap.push { cls:=.type "list",data:=.seq its.toArray },toks:=k }:=fun its k r hl =>
  ⟨.ref s.heap.objs.size,_,I.laid (t':=k) (fun b o e=>qAi _ e) (qAl _) (show cM X.prog X.w _ _ _ (.lst _) from⟨by rw[qAa];exact hl,its,_,r,qBh _ rfl⟩),rfl,q _ (I.cE.fresh (qAl _))⟩
 have kind:s.TypeIs (Value.str t tk) "str":=rfl;by_cases c1:(decide (t.length<sep.length)||decide (Builtin.Str.strKind t<Builtin.Str.strKind sep))=true
 .have e:Txt.split t sep=[t]:=by delta Txt.split;rw[if_pos c1]
  refine qHv F.slot_str_split kind F.entry_str_split (F.args_str_split_2 _ _) (meets_str_split_cannot_occur t sep tk tu c1) ?_;have z:=fin [Value.str t tk] s.toks (by rw[e];exact .cons ⟨_,rfl⟩ .nil) (by rw[e];show 1<=qAg;decide);exact z
 .have c1':(decide (t.length<sep.length)||decide (Builtin.Str.strKind t<Builtin.Str.strKind sep))=false:=Bool.eq_false_iff.mpr c1
  by_cases c2:(Builtin.Str.occurrences t sep 0 t.length (t.length+1)).isEmpty=true
  .have e:Txt.split t sep=[t]:=by delta Txt.split;rw[if_neg c1,if_pos c2]
   refine qHv F.slot_str_split kind F.entry_str_split (F.args_str_split_2 _ _) (meets_str_split_not_found t sep tk tu c1' h0 c2) ?_;have z:=fin [Value.str t tk] s.toks (by rw[e];exact .cons ⟨_,rfl⟩ .nil) (by rw[e];show 1<=qAg;decide);exact z
  .have e:Txt.split t sep=Builtin.Str.partsBetween t (Builtin.Str.occurrences t sep 0 t.length (t.length+1)) sep.length:=by delta Txt.split;rw[if_neg c1,if_neg c2]
   have hl:(Txt.split t sep).length<=qAg:=by
    have z:=qNt (l:=(Txt.split t sep).map fun s=>(s,tk)) (x:=t) (y:=sep) (by rw[qCe];exact List.map_id _);rw[qAa] at z;lia
   refine qHv F.slot_str_split kind F.entry_str_split (F.args_str_split_2 _ _) (meets_str_split_sep t sep tk tu c1' h0 (Bool.eq_false_iff.mpr c2) (by lia) (by rw[<- e];exact hl)) ?_;have z:=fin (strsFrom s.toks (Txt.split t sep)) (s.toks+(Txt.split t sep).length) (qV _ _) hl;rw[e] at z;exact z
def EL:V->List V->Hp->VK->Prop:=fun x xs H Q=>∃t p:Str,x = .str t/\xs=[.str p]/\Q (.bl (Txt.startswith t p)) H
theorem oH:Eb X "str.startswith" EL:=by
 intro pins s σ H x xs v us Q I rx rv h;obtain⟨t,p,rfl,rfl,q⟩:=h;obtain⟨tk,rfl⟩:=(show ∃tk,v=Value.str t tk from rx);obtain⟨u,rfl,ru⟩:=rv.one;obtain⟨tu,rfl⟩:=(show ∃tu,u=Value.str p tu from ru);refine call_gives F.slot_str_startswith rfl F.entry_str_startswith (F.args_str_startswith_2 _ _) (gives_str_startswith t p tk tu) ?_;exact⟨.bl _,H,I,rfl,q⟩
theorem pY:eD X (.type "int") (fun xs H Q=>∃(x:Str) (n:Int),xs=[.str x]/\PySem.intText? x=some n/\x.length<=640/\Q (.int n) H):=by
 intro pins s σ H xs us Q I r h;obtain⟨x,n,rfl,hn,hl,q⟩:=h;obtain⟨u,rfl,t,rfl⟩:=vals1 r;exact PySem.W.KIN.call_text hn hl ⟨.int n,H,I.tok _,⟨_,rfl⟩,q⟩
def EM:V->Option Int->Option Int->Hp->VK->Prop:=fun x lo hi H Q=>∃t:Str,x = .str t/\(Txt.slice t lo hi).length<=qAg/\Q (.str (Txt.slice t lo hi)) H
theorem cJ:KC X EM:=by
 intro pins s σ H x v vl vu lo hi sl Q I rx hs pl pu h;obtain⟨t,rfl,hz,q⟩:=h;obtain⟨tk,rfl⟩:=(show ∃tk,v=Value.str t tk from rx);exists "str",_,F.slot_str_getitem.lookup,rfl;have part:∀{v:qAh}{o:Option Int},qJt v o->∃p:Option (Int×Tok),partValue p=v/\p.map (·.1)=o:=fun {v o} h=>by
  cases h with
  | none=>exact⟨none,rfl,rfl⟩
  | int i t=>exact⟨some (i,t),rfl,rfl⟩
 obtain⟨p1,e1,e1'⟩:=part pl;obtain⟨p2,e2,e2'⟩:=part pu;have hs':s.heap.IsSlice sl p1 p2 none:=by
  obtain⟨o,h1,h2,h3⟩:=hs;exact⟨o,h1,h2,by rw[h3,e1,e2];rfl⟩
 refine wpAny_getItem_str_slice hs' rfl ?_;have pick:slicePicked t p1 p2 none=Builtin.Str.strSliceIndices lo hi 1 t.length:=by
  subst e1' e2';rfl
 have eA:sliceMade t tk p1 p2 none=if ((Builtin.Str.strSliceIndices lo hi 1 t.length).length == t.length)=true then Made.val (Value.str t tk) else Made.str { cps:=(qIm (fun i=>t.cps[i]?) (Builtin.Str.strSliceIndices lo hi 1 t.length)).toArray }:=by
  delta sliceMade;rw[pick];rfl
 have eB:Txt.slice t lo hi=if ((Builtin.Str.strSliceIndices lo hi 1 t.length).length == t.length)=true then t else { cps:=(qIm (fun i=>t.cps[i]?) (Builtin.Str.strSliceIndices lo hi 1 t.length)).toArray }:=rfl;rw[eA];rw[eB] at q hz;by_cases c:((Builtin.Str.strSliceIndices lo hi 1 t.length).length == t.length)=true
 .rw[if_pos c] at q|-;exact⟨.str t,H,I,⟨_,rfl⟩,q⟩
 .rw[if_neg c] at q hz|-;exact⟨hz,.str _,H,I.tok _,⟨_,rfl⟩,q⟩
def Mg(t:Str):It:=⟨fun i H=>i<t.cps.size,fun i H x H'=>H'=H/\∃c,t.cps[i]?=some c/\x = .str ⟨#[c]⟩,fun i H=>i=t.cps.size⟩
def ascii(t:Str):Prop:=(t.cps.all fun x=>decide (x<128))=true
theorem Cr{P:qBe}{w:qCj}{K:qAb}{tg:Expr}(t:Str)(tk:Tok)(it:Addr):Turn P w K tg (Mg t) [it] it (fun i h=>h.IsStrIter it "str_ascii_iterator" t tk i) where
 mem:=by simp
 obj:=fun i h st b hb=>by
  have e:b=it:=by simpa using hb
  subst e;obtain⟨o,e,c,d⟩:=st;exact⟨o,e,fun v z=>by rw[d] at z;cases z⟩
 keep:=fun i h h' st k=>by
  obtain⟨o,e,c,d⟩:=st;exact⟨o,k it (by simp) o e,c,d⟩
 item:=by
  intro X hP hw hK hc i pins s σ H E I hf st hg;subst hP hw hK;have hi:i<t.cps.size:=hg;obtain⟨f0,f1,f2,f3,f4,f5⟩:=hf it (by simp);refine wpAny_pyNext_ascii_item st (c:=t.cps[i]) (qGy hi) fun h' st' sb=>?_;have I1:Inv X pins σ H { s with heap:=h',toks:=s.toks+1 }:=I.turned (t':=s.toks+1) (fun b o hb e=>(sb.2 b hb).trans e) f0 f1 f3 f4 f5;obtain⟨o,e,c,d⟩:=id st';exact⟨_,rfl,xT (s:={ s with heap:=h',toks:=s.toks+1 }) e c d #[1] ⟨.str ⟨#[t.cps[i]]⟩,H,I1,⟨_,rfl⟩,⟨rfl,_,qGy hi,rfl⟩,st',fun b hb=>(hf b hb).1⟩⟩
 done:=by
  intro X hP hw hK hc i pins s σ H E I hf st hg;subst hP hw hK;obtain rfl:i=t.cps.size:=hg;obtain⟨f0,f1,f2,f3,f4,f5⟩:=hf it (by simp);exact wpAny_pyNext_ascii_end (I.ok.hd hc) st (Array.getElem?_eq_none (qAl _)) fun h' eb=>⟨rfl,I.turned (t':=s.toks) (fun b o hb e=>eb b o hb e) f0 f1 f3 f4 f5⟩
 self:=fun _ _ _ _ _ st h=>wpAny_pyIter_striter_ascii st h
def Pz(te:TE):TI:=fun σ H R=>te σ H fun x H1=>∃t:Str,x = .str t/\ascii t/\R (Mg t) H1
theorem Ic{tg l:Expr}{tl:TE}(hl:PE X l tl):PI X tg l (Pz tl):=by
 intro pins s σ H R I h;refine bT (hl pins s σ H _ I h) fun v s1 z9=>?_;obtain⟨x,H1,I1,r1,q1⟩:=z9;obtain⟨t,rfl,ha,q⟩:=q1;obtain⟨tk,rfl⟩:=(show ∃tk,v=Value.str t tk from r1);refine wpAny_pyIter_strU ?_;have ety:strIterType t="str_ascii_iterator":=by
  exact if_pos ha
 rw[ety];have hit:(s1.heap.push { cls:=.type "str_ascii_iterator",data:=.fields #[.str t tk,.int 0 0] }).IsStrIter s1.heap.objs.size "str_ascii_iterator" t tk 0:=⟨_,qBh _ rfl,rfl,rfl⟩;have I2:Inv X pins σ H1 { s1 with heap:=s1.heap.push { cls:=.type "str_ascii_iterator",data:=.fields #[.str t tk,.int 0 0] } }:=I1.kept (t':=s1.toks) fun b o e=>qAi _ e;refine⟨s1.heap.objs.size,[s1.heap.objs.size],_,_,H1,rfl,I2,Cr t tk _,hit,fun b hb=>?_,q⟩;have e:b=s1.heap.objs.size:=by simpa using hb
 subst e;exact I1.Ac (qAl _) (I1.cE.fresh (qAl _))
end
section
variable {X:Cx}
end
section
variable {K:qAb}{t:Str}{σ0:St}{H1:Hp}{i0:Nat}{c:TT}{te:TE}{Q:Addr->Hp->Prop}
theorem Cs(f:Nat->Option V)(hn:t.cps.size<=qAg)
  (step:∀(i:Nat) (x:Nat) (H2:Hp) (k:VK) (k0:Hp->Prop),aK H1 H2->t.cps[i]?=some x->(∀y,f x=some y->∀H3,aK H2 H3->k y H3)->(f x=none->∀H3,aK H2 H3->k0 H3) ->
   c (σ0.set i0 (some (.str ⟨#[x]⟩))) H2 fun b H4=>if b=true then te (σ0.set i0 (some (.str ⟨#[x]⟩))) H4 k else k0 H4)
  (h:∀D H2,H1 D=none->aK H1 H2->H2 D=some (.lst (t.cps.toList.filterMap f))->Q D H2) :
  ∀D,H1 D=none->∃W:Nat->Nat->St->Hp->Prop,(∃m,W 0 m σ0 (upd H1 D (.lst [])))/\∀i m σ1 H2,W i m σ1 H2 ->
   ((Mg t).stop i H2/\Q D H2)\/((Mg t).go i H2/\∃N:St->Hp->Prop,(∀σ' H',N σ' H'->∃m',m'<m/\W (i+1) m' σ' H') /\
    ∀x H',(Mg t).vF i H2 x H'->a9 i0 x σ1 H' fun σ2 H3=>c σ2 H3 fun b H4=>if b=true then te σ2 H4 fun y H5=>∃xs,H5 D=some (.lst xs)/\xs.length<qAg/\N σ2 (upd H5 D (.lst (xs++[y]))) else N σ2 H4):=by
 intro D hD;exists fun i m σ1 H2=>σ1.set i0 none=σ0.set i0 none/\aK H1 H2/\H2 D=some (.lst ((t.cps.toList.take i).filterMap f))/\i<=t.cps.size/\m=t.cps.size-i,⟨t.cps.size,rfl,.aJ hD,aB,qBn _,rfl⟩;rintro i m σ1 H2 ⟨hσ,hs,hd,hi,rfl⟩;have hset:∀v:Option V,σ1.set i0 v=σ0.set i0 v:=fun v=>by
  have z:=congrArg (fun l=>qIz l i0 v) hσ;simpa using z
 rcases qBj i t.cps.size with hlt | hge
 .right
  refine⟨hlt,fun σ' H'=>σ'.set i0 none=σ0.set i0 none/\aK H1 H'/\H' D=some (.lst ((t.cps.toList.take (i+1)).filterMap f)),(by rintro σ' H' ⟨a,b,c⟩;exact ⟨t.cps.size-(i+1),by lia,a,b,c,hlt,rfl⟩),?_⟩;rintro v H' ⟨rfl,x,hx,rfl⟩;have et:t.cps.toList.take (i+1)=t.cps.toList.take i++[x]:=by
   rw[List.take_add_one,Array.getElem?_toList,hx];rfl
  show c (σ1.set i0 (some (.str ⟨#[x]⟩))) _ _;rw[hset];refine step i x _ _ _ hs hx (fun y hy H3 hs3=>⟨_,hs3 _ _ hd,?_,?_,?_,?_⟩) fun hno H3 hs3=>⟨?_,hs.trans hs3,?_⟩
  .refine qBp (qDs _ _) ?_;rw[qCs];lia
  .simp
  .exact(hs.trans hs3).upd_ne' hD
  .rw[aB,et,qCq];simp[hy]
  .simp
  .rw[hs3 _ _ hd,et,qCq];simp[hno]
 .left
  obtain rfl:i=t.cps.size:=qDr hi hge;refine⟨rfl,h D _ hD hs ?_⟩;rw[hd,qDb (by rw[qCv];exact qAl _)]
end
section
open AutoSeq1 (wpAny_loadPart')
set_option maxHeartbeats 2000000 in
theorem lW(l:Addr)(items:Array qAh)(n:Nat)(dct:Option Addr)(sl:Array (Option qAh))(i:Int)(tk:Tok)(hi:Builtin.SmallTypes.fitsIndex i=true):
  Meets (Builtin.«enumerate.__new__» ⟨[.type "enumerate",.ref l],[("start",.int i tk)]⟩) (fun _ R s=>s.heap.get? l=some { cls:=.type "list",dict:=dct,data:=.seq items n,slots:=sl } /\
   R (.ok (.ret (.ref (s.heap.push { cls:=.type "list_iterator",data:=.fields #[.ref l,.int 0 0] }).objs.size)))
    { s with heap:=(s.heap.push { cls:=.type "list_iterator",data:=.fields #[.ref l,.int 0 0] }).push { cls:=.type "enumerate",data:=.fields #[.none,.bool false,.ref s.heap.objs.size,qKw i,.none,.none] } }) :=
 .of_wp fun prog w A R s h=>by
  obtain⟨hp,g,d,tk,os⟩:=s;obtain⟨hl,h⟩:=h;have hsub:=sub_enumerate;have hL:Heap.IsList (Shared.heap ⟨hp,g,d,tk,os⟩) l items:=⟨_,hl,rfl,n,rfl⟩;wp_walk using wpAny_loadPart' hl;refine wpAny_stack_any fun st=>qAo ?_;split
  .rename_i c _ _ _ _ _;cases (c == Value.type "enumerate")
   .wp_walk using wpAny_loadPart' hl,qEt hL
    exact⟨_,rfl,h⟩
   .wp_walk using wpAny_loadPart' hl,qEt hL
    exact⟨_,rfl,h⟩
  .wp_walk using wpAny_loadPart' hl,qEt hL
   exact⟨_,rfl,h⟩
end
theorem m4(a b:qAh):checkTypeCall "enumerate" ⟨[a],[("start",b)]⟩=pure ():=by kernel_rfl
theorem oI(a b:qAh):checkBuiltinCall "enumerate.__new__" ⟨[.type "enumerate",a],[("start",b)]⟩=pure ():=by kernel_rfl
theorem pZ(obj a b:qAh):argsOk "object.__init__" ⟨[obj,a],[("start",b)]⟩:=by
 kernel_rfl
theorem t7
  (tc:TypeCalled T newId initId) (hck:checkTypeCall T { pos:=args,kw:=kw }=pure ()) (hi:entryFor table initId=some Bi)
  (hn:qGk (qBr prog w) A.in1 (Code.call (Value.builtin newId) { pos:=Value.type T::args,kw:=kw }) (wants Q₁ E) s)
  (hin:∀obj s₁,Q₁ obj s₁->s₁.TypeIs obj T/\argsOk initId { pos:=obj::args,kw:=kw } /\
   qBq (qBr prog w) A.in1.in1 (Bi { pos:=obj::args,kw:=kw }) (fun fin s'=>fin=Fin.done (Flow.ret Value.none)/\Q obj s') E s₁) :
  qBq (qBr prog w) A (call (Value.type T) args kw) Q E s:=by
 refine qEv (codeAny_of_tree ?_);refine qAo (a:=Fin.again (Code.builtin "type.__call__" { pos:=Value.type T::args,kw:=kw })) ?_;refine⟨Code.quiet_builtin _ #[2],codeAny_builtin F.entry_type_call ?_⟩;rw[Around.under_plain (weight_type_call_type T args kw) (units_type_call_type T args kw)];refine qHf (decide_eq_false (by rw[tc.notType];decide)) ?_;refine qHf (decide_eq_false (by rw[tc.canCreate];decide)) ?_;refine qAc (qFa hck ?_);obtain⟨c,tl,hm⟩:=tc.mro;refine qAc (qFa hm ?_);refine qHf rfl ?_;refine qAc (qFa tc.made ?_);refine qAc (qAo ?_);refine qAc (qCx (qEv (qFg hn fun r s1 h=>?_)));match r,h with
 | .error e,h=>exact h
 | .ok (.ret obj),h =>
  obtain⟨ty,ao,run⟩:=hin obj s1 h;refine qAc (wpAny_isInstance ty tc.sub ?_);refine qHf rfl ?_;refine qAc (qCx ?_);refine qAc (wpAny_specialOf ty tc.init.lookup ?_);refine qCx ?_;refine qAc (qFa (tc.init.bind obj) ?_);refine qAc (qEv (qEa tc.init.plain hi ?_));refine tc.init.check _ _ _ _ _ _ _ _ ty ao ?_;refine qCm run (fun f s2 z=>?_) fun e s2 z=>z;obtain⟨rfl,q⟩:=z;refine qAo ?_;refine qHf #[1] ?_;exact qAo q
theorem sO
  (hl:typeLookup (.type T) "__init__"=pure (some (.builtin "object.__init__"))) (hm:Bind.madeBy (.type T)=pure (some newId)) (hne:(some newId != some "object.__new__")=true)
  (hT:s.TypeIs obj T) (q:Q (Fin.done (Flow.ret Value.none)) s):qBq (qBr prog w) A (Builtin.«object.__init__» { pos:=[obj,a],kw:=kw }) Q E s:=by
 repeat (any_goals (first | assumption | wp_step))
theorem m8(hi:Builtin.SmallTypes.fitsIndex i=true){Q:qAh->qAj->Prop}(hL:s.heap.IsList l items)
  (h:∀h',IsEnum h' (s.heap.objs.size+1) s.heap.objs.size i .none->h'.IsListIter s.heap.objs.size l 0 ->
   (∀b o,s.heap.get? b=some o->h'.get? b=some o)->Q (.ref (s.heap.objs.size+1)) { s with heap:=h' }) :
  qBq (qBr prog w) A (call (.type "enumerate") [.ref l] [("start",.int i tk)]) Q E s:=by
 obtain⟨⟨c,dct,dt,sl⟩,hl,hc,n,hd⟩:=hL;replace hc:c = .type "list":=hc;replace hd:dt = .seq items n:=hd;subst hc hd;have hz:(s.heap.push { cls:=.type "list_iterator",data:=.fields #[.ref l,.int 0 0] }).objs.size=s.heap.objs.size+1:=qHe ..;have he:IsEnum ((s.heap.push { cls:=.type "list_iterator",data:=.fields #[.ref l,.int 0 0] }).push
   { cls:=.type "enumerate",data:=.fields #[.none,.bool false,.ref s.heap.objs.size,qKw i,.none,.none] }) (s.heap.objs.size+1) s.heap.objs.size i .none:=by
  have:=qBh (s.heap.push { cls:=.type "list_iterator",data:=.fields #[.ref l,.int 0 0] })
   (o:={ cls:=.type "enumerate",data:=.fields #[.none,.bool false,.ref s.heap.objs.size,qKw i,.none,.none] }) rfl
  rw[hz] at this;exact this
 refine t7 F.called_enumerate (m4 _ _) F.entry_object_init
  (qEa F.called_enumerate.plain F.entry_enumerate_new (qFa (oI _ _) (lW l items n dct sl i tk hi prog w A.in1 (wants (fun obj s₁=>s₁.TypeIs obj "enumerate"/\Q obj s₁) E) s ⟨hl,?_⟩)))
  (fun obj s₁ z=>⟨z.1,pZ _ _ _,sO F.called_enumerate.init.lookup F.called_enumerate.made #[1] z.1 ⟨rfl,z.2⟩⟩)
 show _/\_;rw[hz];exact⟨⟨_,he,rfl⟩,h _ he ⟨_,qAi _ (qBh _ rfl),rfl,rfl⟩ fun b o x=>qAi _ (qAi _ x)⟩
theorem t8{prog:qBe}{w:qCj}{A:qCb}{it:Addr}{fp:List Addr}{n:Nat}{P:Nat->qAh->Prop}{St:Nat->Heap->Prop}(D:Draws prog w A it fp n P St):Draws prog w A it fp (n+1) (fun i x=>P (i-1) x) (fun i h=>1<=i/\St (i-1) h) where
 live:=fun _ _ st=>D.live _ _ st.2
 frame:=fun _ _ _ st hk=>⟨st.1,D.frame _ _ _ st.2 hk⟩
 item:=fun i s Q E hi st hQ=>D.item (i-1) s Q E (by have:=st.1;lia) st.2 fun x h' tk p st' sb=>hQ x h' tk p ⟨by lia,by rw[show i+1-1=i-1+1 by have:=st.1;lia];exact st'⟩ sb
 done:=fun s Q E st hE=>D.done s Q E st.2 hE
def Ct(K:qAb)(l:Addr):It :=
  ⟨fun i H=>∃xs x,bA K H l xs/\xs[i]?=some x,
   fun i H v H'=>∃t x,v = .ref t/\H t=none/\H'=upd H t (.tup [.int ((i:Int)+1),x])/\∀xs,bA K H l xs->xs[i]?=some x,
   fun i H=>∃xs,bA K H l xs/\xs.length<=i⟩
def EN(e it l:Addr)(i:Nat)(h:Heap):Prop:=(∃old,IsEnum h e it ((i+1:Nat):Int) old)/\h.IsListIter it l i
theorem wG{P:qBe}{w:qCj}{K:qAb}{elts:List Expr}{x1}{pos:Pos}{e it l:Addr}(hne:e≠it):
  Turn P w K (.Tuple elts x1 pos) (Ct K l) [e,it] e (EN e it l) where
 mem:=by simp
 obj:=fun i h ⟨⟨old,he⟩,⟨o,ho,_,d⟩⟩ b hb=>by
  simp only[qCk,qBs,or_false] at hb;rcases hb with rfl | rfl
  .exact⟨_,he,fun v q=>nomatch q⟩
  .exact⟨_,ho,fun v q=>by rw[d] at q;cases q⟩
 keep:=fun i h h' ⟨⟨old,he⟩,h1⟩ k=>⟨⟨old,k e (by simp) _ he⟩,h1.at fun o q=>k it (by simp) o q⟩
 item:=by
  intro X hP hw hK hc i pins s σ H E I hf st hg;subst hP hw hK;obtain⟨⟨old,he⟩,h1⟩:=st;obtain⟨xs,x,q1,hx⟩:=hg;obtain⟨its1,r1,p1,z1⟩:=I.list q1;obtain⟨u,hu,ru⟩:=r1.get hx;have hil:=p1.isList;have nli:l≠it:=fun z=>by
   subst z;obtain⟨o,ho,c,_⟩:=hil;obtain⟨o',ho',c',_⟩:=h1;rw[ho] at ho';cases ho';rw[c] at c';exact absurd c' #[1]
  have nle:e≠l:=fun z=>by
   subst z;obtain⟨o,ho,c,_⟩:=hil;rw[show s.heap.get? e=_ from he] at ho;cases ho;exact absurd (show Value.type "enumerate"=Value.type "list" from c) #[1]
  have hlt:i<its1.toArray.size:=by
   have:=List.getElem?_eq_some_iff.mp hu;obtain⟨z,_⟩:=this;simpa using z
  have D:Draws X.prog X.w X.A.in1 it [it,l] (its1.toArray.size+1) (fun i v=>its1.toArray[i-1]?=some v) (fun i h=>1<=i/\h.IsListIter it l (i-1)/\h.IsList l its1.toArray):=t8 (Draws.list (A:=X.A.in1) (I.ok.hd hc) it l nli its1.toArray);refine wpAny_pyNext_enum_itemD (i:=i+1) D he ⟨qHu (qBn i),h1,hil⟩ (Nat.succ_lt_succ hlt) hne (fun z=>by rcases List.mem_cons.mp z with z | z;exact hne z;exact nle (List.mem_singleton.mp z)) fun u' h' tk pu a1 a2 a3 a4 a5=>⟨_,rfl,?_⟩
  have eu:u'=u:=by
   have z:its1.toArray[i]?=some u':=pu;rw[show its1.toArray[i]?=its1[i]? by simp,hu] at z;exact(Option.some.inj z).symm
  subst eu;refine wpAny_letOwnedTupleGo_enum a1 fun h'' b1 hs=>?_;have lt:∀c o,s.heap.get? c=some o->c≠s.heap.objs.size:=fun c o e=>qBi (qAt e);have lte:s.heap.objs.size≠e:=(lt e _ he).symm;have I1:Inv X pins σ H { s with heap:=h'',toks:=tk+1 }:=I.yH (t':=tk+1) (fun c o hb e=>(hs.2 c (fun q=>hb (by simp[q]))).trans (a5 c o (fun q=>hb (by simp[q])) (fun q=>hb (by simp[q])) e)) hf;have ht:h''.get? s.heap.objs.size=some { cls:=.type "tuple",data:=.seq #[.int ((i+1:Nat):Int) tk,u'] }:=(hs.2 _ lte).trans a3;have hn:H s.heap.objs.size=none:=I.cE.fresh (qAl _);have I2:Inv X pins σ (upd H s.heap.objs.size (.tup [.int ((i:Int)+1),x])) { s with heap:=h'',toks:=tk+1 }:=by
   refine I1.yD hn (qFd I.sz) (qBi I.lt).symm (fun y c q=>?_) (fun p hp=>?_) (I.Hm (qAl _)) ⟨Bk,[.int ((i+1:Nat):Int) tk,u'],.cons ⟨_,rfl⟩ (.cons ru .nil),_,ht,rfl,_,rfl⟩
   .obtain⟨_,o,ho,_⟩:=I.cell y c q;exact lt c o ho
   .exact lt _ _ (I.pin p hp).1
  refine⟨.ref s.heap.objs.size,_,I2,rfl,⟨_,x,rfl,hn,rfl,fun xs' q=>?_⟩,⟨⟨u',?_⟩,a2.2.1.at fun o e=>(hs.2 _ hne.symm).trans e⟩,fun c hb=>?_⟩
  .rw[I.tQ q q1];exact hx
  .rw[show((i+1+1:Nat):Int)=((i+1:Nat):Int)+1 by push_cast;rfl];exact b1
  .obtain⟨o,ho,_⟩:∃o,s.heap.get? c=some o/\True:=by
    simp only[qCk,qBs,or_false] at hb;rcases hb with rfl | rfl
    .exact⟨_,he,trivial⟩
    .obtain⟨o,ho,_⟩:=h1;exact⟨o,ho,trivial⟩
   rw[aM (lt c o ho)];exact(hf c hb).1
 done:=by
  intro X hP hw hK hc i pins s σ H E I hf st hg;subst hP hw hK;obtain⟨⟨old,he⟩,h1⟩:=st;obtain⟨xs,q1,hend⟩:=hg;obtain⟨its1,r1,p1,z1⟩:=I.list q1;have e1:=r1.length;have hil:=p1.isList;have hno:its1.toArray[i]?=none:=by simp;lia
  have D:Draws X.prog X.w X.A.in1 it [it,l] 0 (fun _ _=>True) (fun _ h=>h.IsListIter it l i/\h.IsList l its1.toArray):=⟨fun _ _ st=>let ⟨o,ho,_⟩:=st.1;⟨o,ho⟩,fun _ _ _ st hk=>⟨st.1.at fun o e=>hk it (by simp) o e,st.2.at fun o e=>hk l (by simp) o e⟩,fun _ _ _ _ hi=>absurd hi (qMw _),fun s Q E st hE=>wpAny_nextOf_list_end (I.ok.hd hc) st.1 st.2 hno hE⟩;exact wpAny_pyNext_enum_endD D he ⟨h1,hil⟩ fun h' k=>⟨rfl,I.yH (t':=s.toks) (fun c o hb e=>k c o (fun q=>hb (by simp[q])) e) hf⟩
 self:=fun _ _ _ _ _ ⟨⟨_,he⟩,_⟩ h=>wpAny_pyIter_enum he h
def Ie(K:qAb)(ta:TA):TI:=fun σ H R=>ta σ H fun vs H1=>∃l,vs=[.ref l]/\(∃xs,bA K H1 l xs)/\R (Ct K l) H1
theorem Cu{X:Cx}{elts:List Expr}{x1}{tpos:Pos}{a e:Expr}{ta:TA}{p pos kp:Pos}(hg:Gl X "enumerate")(hm:X.mg "enumerate"=none)(ha:PA X [a] ta)(hk:PE X e (tC (.int 1)))
  (he:qBl [a] X.env=[(false,eval a X.env)]:=by rfl) (hpl:((qFc pos (qBl [a] X.env)).any (·.1)||(qGz pos (qFb [⟨some "start",e,kp⟩] X.env)).any (·.1.isNone))=false:=by rfl)
  (hall:(qGz pos (qFb [⟨some "start",e,kp⟩] X.env)).all (·.1.isSome)=true:=by rfl) (hks:(qGz pos (qFb [⟨some "start",e,kp⟩] X.env)).filterMap (·.1)=[("start":Str)]:=by rfl) :
  PI X (.Tuple elts x1 tpos) (.Call (.Name "enumerate" p) [a] [⟨some "start",e,kp⟩] pos) (Ie X.K ta):=by
 intro pins s σ H R I h;refine qDx (lJ I hg hm EH ?_ #[1] #[1]);refine PySem.W.callWith_of (P:=fun _=>True) hpl (fun _ _=>⟨.machine,.inr (.inl rfl),PySem.W.Looks.of_pure rfl⟩) (qNv hall (bT (ha pos pins s σ H _ I h) fun us s1 z9=>?_) he);obtain⟨vs,H1,I1,r1,q1⟩:=z9;obtain⟨l,e1,⟨xs,q1⟩,q⟩:=q1;subst e1;refine bT (Es hk Hy pos pins s1 σ H1 (fun zs H2=>zs=[.int 1]/\H2=H1) I1 ⟨rfl,rfl⟩) fun ws s2 ⟨zs,H2,I2,rz,ez,eh⟩=>⟨trivial,?_⟩;subst ez eh;obtain⟨u,rfl,ru⟩:=vals1 r1;cases (show u=Value.ref l from ru);obtain⟨k1,rfl,rk⟩:=vals1 rz;obtain⟨tk,rfl⟩:=(show ∃tk,k1=Value.int 1 tk from rk);rw[hks];obtain⟨its1,r1,p1,z1⟩:=I2.list q1;refine m8 #[1] p1.isList fun h' hE hI hk=>?_;refine wpAny_pyIter_enum hE ?_;have I3:Inv X pins σ H2 { s2 with heap:=h' }:=I2.kept (t':=s2.toks) hk;refine⟨_,[s2.heap.objs.size+1,s2.heap.objs.size],_,_,H2,rfl,I3,wG (qMs _),⟨⟨_,hE⟩,hI⟩,fun c hc=>?_,q⟩;have hge:s2.heap.objs.size<=c:=by
  simp only[qCk,qBs,or_false] at hc;rcases hc with h | h
  all_goals first | (rw[h];exact qJp _ _) | exact qLm h.symm
 have:=I2.Ac (H':=H2) hge (I2.cE.fresh hge);exact this
theorem Aw{K:qAb}{l:Addr}{xs:List V}{g:TG}{tb:TS}{D:Ends}{σ:St}{H:Hp}(Pv:Nat->St->Hp->Prop)(h0:Pv 0 σ H)(hl:∀i σ H,i<=xs.length->Pv i σ H->bA K H l xs)
  (hs:∀i x t σ H,xs[i]?=some x->H t=none->Pv i σ H->g (.ref t) σ (upd H t (.tup [.int ((i:Int)+1),x])) fun σ2 H2=>tb { D with nx:=Pv (i+1),ct:=Pv (i+1),bk:=D.nx } σ2 H2) (hd:∀σ H,Pv xs.length σ H->D.nx σ H) :
  ∃W:Nat->Nat->St->Hp->Prop,(∃m,W 0 m σ H)/\∀i m σ H,W i m σ H ->
   ((Ct K l).stop i H/\D.nx σ H)\/((Ct K l).go i H/\∃N:St->Hp->Prop,(∀σ' H',N σ' H'->∃m',m'<m/\W (i+1) m' σ' H')/\∀x H',(Ct K l).vF i H x H'->g x σ H' fun σ2 H2=>tb { D with nx:=N,ct:=N,bk:=D.nx } σ2 H2):=by
 exists fun i m σ H=>Pv i σ H/\i<=xs.length/\m=xs.length-i,⟨_,h0,qBn _,rfl⟩;rintro i m σ H ⟨hp,hi,rfl⟩;have q1:=hl i σ H hi hp;rcases qBj i xs.length with hlt | hge
 .right
  obtain⟨x,hx⟩:∃x,xs[i]?=some x:=⟨_,qAe hlt⟩;refine⟨⟨xs,x,q1,hx⟩,Pv (i+1),fun σ' H' h=>⟨_,Nat.sub_lt_sub_left hlt (qJn _),h,hlt,rfl⟩,?_⟩;rintro v H' ⟨t,x',rfl,hn,rfl,e1⟩;have e1':=e1 xs q1;rw[hx] at e1';cases e1';exact hs i x t σ H hx hn hp
 .left
  obtain rfl:i=xs.length:=qDr hi hge;exact⟨⟨xs,q1,qAl _⟩,hd σ H hp⟩
open PySem.StrLaws PySem.Builtin PySem.Builtin.Str
section
theorem Ig(hy:y.cps.toList=c::r){k:Nat}(h:At x y x.length k):x.cps.toList[k]?=some c:=by
 have z:=h.2;rw[subAt_eq] at z;have z:=eq_of_beq z;have ly:y.length=r.length+1:=by
  have:y.length=y.cps.toList.length:=by simp[Str.length]
  rw[this,hy];rfl
 rw[hy,ly] at z;have e:=congrArg (fun l=>l[0]?) z;rw[qHi (by lia),qEf] at e;exact e
theorem wH(hy:y.cps.toList=c::r):∀(ps:List Str) (a f:Nat) (cuts:List Nat),ps≠[]->a<=x.length->x.cps.toList.drop a=(Str.join y ps).cps.toList->(∀p∈ps,c∉p.cps.toList) ->
  ChainG x y x.length a cuts f->(∀k,f<=k->¬At x y x.length k)->partsFrom x y.length a cuts=ps:=by
 have hn:x.cps.toList.length=x.length:=by simp[Str.length]
 have ly:y.length=r.length+1:=by
  have:y.length=y.cps.toList.length:=by simp[Str.length]
  rw[this,hy];rfl
 have mem_at:∀{a k:Nat}{L:List Nat},x.cps.toList.drop a=L->a<=k->x.cps.toList[k]?=some c->L[k-a]?=some c:=fun {a k L} e h1 h2=>by
  rw[<- e,qEf,show a+(k-a)=k by lia];exact h2
 intro ps;induction ps with
 | nil=>intro a f cuts h;exact absurd rfl h
 | cons p t ih =>
  intro a f cuts _ ha hx hp hG hN;cases t with
  | nil =>
   have hx:x.cps.toList.drop a=p.cps.toList:=hx;cases cuts with
   | cons d q =>
    have z:=mem_at hx hG.1 (Ig hy hG.2.1);exact absurd (qAp z) (hp p qAr)
   | nil =>
    show [strSub x a x.length]=[p];refine congrArg (fun z=>[z]) ?_;apply Str.ext';apply Array.toList_inj.mp;rw[strSub_toList,qDb (by rw[qBw,hn];exact qAl _),hx]
  | cons q t =>
   have hx:x.cps.toList.drop a=(p++y++Str.join y (q::t)).cps.toList:=hx;rw[Str.cps_append,Str.cps_append,qCg,qCg] at hx;have lp:p.cps.toList.length=p.length:=by simp[Str.length]
   have lyl:y.cps.toList.length=y.length:=by simp[Str.length]
   have tot:x.length-a=p.length+y.length+(Str.join y (q::t)).cps.toList.length:=by
    have z:=congrArg qIp hx;rw[qBw,qAf,qAf,hn,lp,lyl] at z;exact z
   have hat:At x y x.length (a+p.length):=by
    refine⟨by lia,?_⟩;rw[subAt_eq,<- qFz,hx,qCc,<- lp,qFh,<- lyl,qIl];exact beq_self_eq_true _
   have hd:∃rest,cuts=(a+p.length)::rest/\ChainG x y x.length (a+p.length+y.length) rest f:=by
    cases cuts with
    | nil =>
     have e:f=a:=hG;exact absurd hat (hN _ (by lia))
    | cons d rest =>
     obtain⟨h1,h2,h3,h4⟩:=hG;rcases qMk d (a+p.length) with h | h | h
     .have z:=mem_at hx h1 (Ig hy h2);rw[qCc,qAy (by rw[lp];lia)] at z;exact absurd (qAp z) (hp p qAr)
     .subst h;exact⟨rest,rfl,h4⟩
     .exact absurd hat (h3 _ (by lia) h)
   obtain⟨rest,rfl,hG'⟩:=hd;show strSub x a (a+p.length)::partsFrom x y.length (a+p.length+y.length) rest=p::q::t;have e1:strSub x a (a+p.length)=p:=by
    apply Str.ext';apply Array.toList_inj.mp;rw[strSub_toList,hx,show a+p.length-a=p.cps.toList.length by rw[lp];lia,qCc,qIl]
   rw[e1,ih (a+p.length+y.length) f rest (fun z=>nomatch z) (by lia) ?_ (fun s hs=>hp s (qAq _ hs)) hG' hN];rw[qNn,<- qFz,hx,<- qFz,<- lp,qCc,qFh,<- lyl,qFh]
theorem yO(x:Str):1<=Builtin.Str.strKind x:=by
 delta Builtin.Str.strKind;split
 .exact qAl _
 .split <;> decide
theorem oJ(hy:y.cps.toList=c::r)(hk:Builtin.Str.strKind y=1){ps:List Str}(h0:ps≠[])(hp:∀p∈ps,c∉p.cps.toList):Txt.split (Txt.join y ps) y=ps:=by
 have ej:Txt.join y ps=Str.join y ps:=glued_eq_join y ps;rw[ej];have ly:y.length=r.length+1:=by
  have:y.length=y.cps.toList.length:=by simp[Str.length]
  rw[this,hy];rfl
 obtain⟨f,hG,hn⟩:=occ_tight (Str.join y ps) y (by lia);have key:=wH (x:=Str.join y ps) hy ps 0 f _ h0 (qBn _) rfl hp hG hn;delta Txt.split;split
 .rename_i hc;rw[qJy,decide_eq_true_eq,decide_eq_true_eq,hk] at hc;have:=yO (Str.join y ps);have hlt:(Str.join y ps).length<y.length:=by lia
  generalize occurrences (Str.join y ps) y 0 (Str.join y ps).length ((Str.join y ps).length+1)=cuts at key hG;cases cuts with
  | nil =>
   have key:[strSub (Str.join y ps) 0 (Str.join y ps).length]=ps:=key;rw[sub_whole] at key;exact key
  | cons d q =>
   have:=hG.2.1.1;lia
 .split
  .rename_i he;have e0:=List.isEmpty_iff.mp he;rw[e0] at key;have key:[strSub (Str.join y ps) 0 (Str.join y ps).length]=ps:=key;rw[sub_whole] at key;exact key
  .rw[partsBetween_eq];exact key
def dg(m:Nat):List Nat:=(qFm 10 m).map Char.toNat
def nW(i:Int):Str:=Str.ofString (toString i)
theorem eO(m:Nat):(nW (m:Int)).cps.toList=dg m:=PySem.W.KIN.signs_num m
theorem fV(k:Nat):(nW (qGa k)).cps.toList=45::dg (k+1):=by
 delta nW;rw[signs_ofString];show(("-":String)++Nat.repr (k+1)).toList.map Char.toNat=_;rw[String.toList_append,qCt,Nat.toList_repr];rfl
theorem lX(m:Nat):PySem.NumText.AllDigits (dg m):=by
 intro c hc;obtain⟨ch,hch,e⟩:=List.mem_map.mp hc;have r:=digit_range (Nat.isDigit_of_mem_toDigits #[1] #[1] hch);rw[<- e];exact r
theorem oK(m:Nat):dg m≠[]:=by
 intro e;have h:=PySem.W.KIN.val_back m;have h0:qFm 10 m=[]:=List.map_eq_nil_iff.mp e;have:=toDigits_len_ge 10 m;rw[h0] at this;exact absurd this #[1]
theorem nF:∀(m:Nat),(dg m)[0]?=some 48->m=0:=by
 intro m;induction m using qMv with
 | _ m ih =>
  intro h;by_cases hm:m<10
  .delta dg at h;rw[Nat.toDigits_of_lt_base hm] at h;have h:(Nat.digitChar m).toNat=48:=Option.some.inj h;have z:=PySem.W.KIN.digit_back m hm;lia
  .exfalso;have hr:m%10<10:=Nat.mod_lt m #[1];have t:qFm 10 (m/10)++qFm 10 (m%10)=qFm 10 (10*(m/10)+m%10):=qJv #[1] (by lia) hr;rw[Nat.div_add_mod] at t;have e:dg m=dg (m/10)++dg (m%10):=by
    delta dg;rw[<- t,qCt]
   rw[e] at h;have ne:=oK (m/10);have pos:0<(dg (m/10)).length:=List.length_pos_iff.mpr ne;rw[qAy pos] at h;have:=ih (m/10) (by lia) h;lia
theorem wI(hk:0<k)(h:m<10^k):(dg m).length<=k:=by
 have z:=toString_length_le (v:=(m:Int)) (qDu m) hk (by exact_mod_cast h);have e:(Str.ofString (toString (m:Int))).length=(Str.ofString (toString (m:Int))).cps.toList.length:=by simp[Str.length]
 rw[e,PySem.W.KIN.signs_num] at z;exact z
theorem str_len(x:Str):x.length=x.cps.toList.length:=by simp[Str.length]
theorem sP(h:i.natAbs<10^60):PySem.intText? (nW i)=some i/\(nW i).length<=640:=by
 cases i with
 | ofNat m =>
  have e:=eO m;have hl:(nW (m:Int)).length<=60:=by rw[str_len,e];exact wI #[1] h
  refine⟨?_,qAk hl #[1]⟩;have z:=PySem.intText_digits (x:=nW (m:Int)) (by rw[e];exact lX m) (by rw[e];exact oK m) (qAk hl #[1]);rw[e] at z;rw[show PySem.NumText.digitsVal (dg m)=m from PySem.W.KIN.val_back m] at z;exact z
 | negSucc k =>
  have e:=fV k;have hl:(nW (qGa k)).length<=61:=by rw[str_len,e];exact qHu (wI #[1] h)
  refine⟨?_,qAk hl #[1]⟩;have z:=PySem.intText_neg e (lX _) (oK _) (qAk hl #[1]);rw[show PySem.NumText.digitsVal (dg (k+1))=k+1 from PySem.W.KIN.val_back (k+1)] at z;exact z
theorem Cv{x:Str}(h:∀c∈x.cps.toList,c<128):(x.cps.all fun x=>decide (x<128))=true:=by
 rw[<- Array.all_toList,qMn];intro c hc;exact decide_eq_true (h c hc)
theorem dY{x y:Str}(h:x.cps.toList=y.cps.toList):x=y:=Str.ext' (Array.toList_inj.mp h)
theorem fW(x:Str){k:Nat}(hk:k<=x.length):(Txt.slice x (some (k:Int)) none).cps.toList=x.cps.toList.drop k:=by
 have hn:x.cps.toList.length=x.length:=by simp[Str.length]
 have e:Txt.slice x (some (k:Int)) none=if ((strSliceIndices (some (k:Int)) none 1 x.length).length == x.length)=true then x else ⟨(qIm (fun i=>x.cps[i]?) (strSliceIndices (some (k:Int)) none 1 x.length)).toArray⟩:=rfl;rw[e,sliceIdx_none_hi];split
 .rename_i h;rw[strSliceIndices_plain hk (qAl _),qAa,qEl] at h;have h:=eq_of_beq h;have:k=0:=by lia
  subst this;rfl
 .show qIm _ _=_;rw[sliced_plain x hk (qAl _),qDb (by rw[qBw,hn];exact qAl _)]
theorem iJ(x:Str)(c:Nat):Txt.startswith x ⟨#[c]⟩=decide (x.cps.toList[0]?=some c):=by
 have z:=subAt_one x c 0;delta Txt.startswith
 by_cases h:x.cps.toList[0]?=some c
 .obtain⟨h1,h2⟩:=z.mpr h;rw[decide_eq_true h,h2,decide_eq_true h1];rfl
 .rw[decide_eq_false h];refine Bool.eq_false_iff.mpr fun y=>h (z.mp ?_);rw[qBb,decide_eq_true_eq] at y;exact y
def kT(n:Int):Str:=nW (n.natAbs:Int)
theorem qW(n:Int):Txt.startswith (nW n) ("-":Str)=decide (n<0):=by
 rw[show("-":Str)=⟨#[45]⟩ from rfl,iJ];cases n with
 | ofNat m =>
  rw[show nW (qGw m)=nW (m:Int) from rfl,eO,decide_eq_false (show ¬qGw m<0 from Int.not_lt.mpr (qDu m))];refine decide_eq_false fun h=>?_;have:=lX m 45 (qAp h);lia
 | negSucc k =>
  rw[fV,decide_eq_true (show qGa k<0 by lia)];rfl
theorem Ih{n:Int}(h:n<0):Txt.slice (nW n) (some 1) none=kT n:=by
 refine dY ?_;cases n with
 | ofNat m=>exact absurd h (Int.not_lt.mpr (qDu m))
 | negSucc k =>
  have hl:1<=(nW (qGa k)).length:=by rw[str_len,fV];exact qHu (qBn _)
  have z:=fW (nW (qGa k)) (k:=1) hl;rw[fV] at z;refine Eq.trans z ?_;delta kT;rw[show((qGa k).natAbs:Int)=((k+1:Nat):Int) from rfl,eO];rfl
theorem Cw(h:¬n<0):nW n=kT n:=by
 delta kT;rw[show(n.natAbs:Int)=n by lia]
theorem t9(hk:0<k)(h:n.natAbs<10^k):1<=(kT n).length/\(kT n).length<=k:=by
 delta kT;rw[str_len,eO];exact⟨List.length_pos_iff.mpr (oK _),wI hk h⟩
theorem qX:Txt.startswith (kT n) ("0":Str)=true->nW n=("0":Str):=by
 rw[show("0":Str)=⟨#[48]⟩ from rfl,iJ];intro h;have h:=of_decide_eq_true h;unfold kT at h;rw[eO] at h;have z:=nF _ h;have:n=0:=by lia
 subst this;rfl
theorem uA(h:c∈(kT n).cps.toList):48<=c/\c<=57:=by
 delta kT at h;rw[eO] at h;exact lX _ c h
theorem EO(h:48<=c/\c<=57):(!(Builtin.Str.occurrences ("0123456789":Str) ⟨#[c]⟩ 0 ("0123456789":Str).length 1).isEmpty)=true:=by
 rw[found_one];have e:("0123456789":Str).cps.toList=[48,49,50,51,52,53,54,55,56,57]:=by decide +kernel
 rw[e];refine decide_eq_true ?_;have:c=48\/c=49\/c=50\/c=51\/c=52\/c=53\/c=54\/c=55\/c=56\/c=57:=by lia
 rcases this with h | h | h | h | h | h | h | h | h | h <;> subst h <;> decide
theorem fD(hc:c≠45/\(c<48\/57<c))(n:Int):c∉(nW n).cps.toList:=int_text_free' c hc n
end
section
variable {M:qLo}{A:qCb}{E:qAh->qAj->Prop}{s:qAj}
theorem Ax{e:qAh}{v w:Env}(h:v.frame=w.frame):qGq e v=qGq e w:=by
 delta qGq PySem.frameOf;rw[h]
theorem yP{h B B1:Heap}(k:∀b,B.get? b=none->B1.get? b=none):∀{l:List Env},h.FunFrames B l->h.FunFrames B1 l
 | [],_=>trivial
 | _::_,⟨a,⟨L,o,f,n,g,d⟩,r⟩=>⟨a,⟨L,o,f,k L n,g,d⟩,yP k r⟩
theorem yQ{h h1 B:Heap}:∀{l:List Env},h.FunFrames B l->(∀b∈gD l,∀o,h.get? b=some o->∃sl,h1.get? b=some { o with slots:=sl })->h1.FunFrames B l
 | [],_,_=>trivial
 | v::l,⟨a,⟨L,o,f,n,g,d⟩,r⟩,k=>by
  obtain⟨sl,z⟩:=k L (by delta gD;rw[qCw,f];exact qAr) o g;exact⟨a,⟨L,_,f,n,z,d⟩,yQ r fun b hb=>k b (by delta gD;rw[qCw,f];exact qAq _ hb)⟩
theorem wJ{B:Heap}{env:Env}{outer:List Env}{L e:Addr}{c a0 fl:qAh}{Q:Unit->qAj->Prop}(hfr:A.frames=some (env::outer))(hf:env.frame=some L)
  (k1:B.StaysIn s.heap) (k2:B.get? e=none) (k3:s.heap.FunFrames B (env::outer)) (k4:s.heap.TracedAtW B e c a0 fl)
  (hQ:∀h',qDk B outer e c a0 h'->s.heap.UpToSlots h'->Q () { s with heap:=h' }):qBq M A (leaving env (.ref e)) Q E s:=by
 obtain⟨oe,vs,T,oT,ts,he,⟨hc,h0⟩,hd,h1,hnT,hTe,hT,hdT,h3⟩:=k4;have other:∀b,b≠T->∀x,(s.heap.update T (Obj.mapFields (·.setIfInBounds 3 x))).get? b=s.heap.get? b:=fun b hb x=>qCl _ _ (Ne.symm hb);have noT:∀b o,s.heap.get? b=some o->(∀vs,o.data≠.fields vs)->b≠T:=fun b o hb hn q=>by
  rw[q,hT] at hb;cases hb;exact hn ts hdT
 have hsz:3<ts.size:=(Array.getElem?_eq_some_iff.mp h3).1;by_cases hl:fl=qKw L
 .subst hl;delta leaving;refine qAc (wpAny_noteFrame_againW hf ⟨oe,vs,T,oT,ts,he,⟨hc,h0⟩,hd,h1,hnT,hTe,hT,hdT,h3⟩ ?_);refine wpAny_setFlight_noneW k1 k3 ⟨oe,vs,T,oT,ts,he,⟨hc,h0⟩,hd,h1,hnT,hTe,hT,hdT,h3⟩ fun h' x1 x2 x3 x4=>hQ h' ⟨x1,k2,x2.2.2,x3⟩ fun b o hb hn=>⟨o.slots,x4 b o hb hn⟩
 .delta leaving qGq;simp only[hf];refine qAc (qAc (qFu he hd h1 ?_));rw[if_pos (show(Value.ref T != Value.none)=true from by simp)];refine qAc (qFu hT hdT h3 ?_);rw[if_neg (show ¬((fl == qKw L)=true) from fun q=>hl (beq_iff_eq.mp q))];refine qAc (wpAny_setField hT hdT hsz ?_);subst hc;refine wpAny_newEntryW hfr (k3.of_keeps fun b o hb hn=>⟨o,(other b (noT b o hb hn) _).trans hb,rfl⟩) hf ((other e (Ne.symm hTe) _).trans he)
   (fun b o q=>(other b (fun z=>by rw[z,hnT] at q;cases q) _).trans (k1 b o q)) k2 hd (Array.getElem?_eq_some_iff.mp h1).1 h0 (by rintro h' ⟨x1,x2,x3,x4⟩;exact hQ h' ⟨x1,k2,x2.2.2,x3⟩ fun b o hb hn=>x4 b o ((other b (noT b o hb hn) _).trans hb) hn)
theorem Cy{B:Heap}{env:Env}{l:List Env}{e:Addr}{c a0 fl:qAh}{what:String}{Q:qAh->qAj->Prop}
  (k1:B.StaysIn s.heap) (k3:s.heap.FunFrames B l) (k4:s.heap.TracedAtW B e c a0 fl)
  (hQ:∀h' fl',B.StaysIn h'->h'.FunFrames B l->h'.TracedAtW B e c a0 fl'->s.heap.UpToSlots h'->DK s.heap h'->E (.ref e) { s with heap:=h' }):qBq M A (PySem.passOn what (.ref e) env:Sem qAh) Q E s:=by
 obtain⟨oe,vs,T,oT,ts,he,hc,hd,h1,hnT,hTe,hT,hdT,h3⟩:=k4;have other:∀b,b≠T->∀x,(s.heap.update T (Obj.mapFields (·.setIfInBounds 3 x))).get? b=s.heap.get? b:=fun b hb x=>qCl _ _ (Ne.symm hb);have noT:∀b o,s.heap.get? b=some o->(∀vs,o.data≠.fields vs)->b≠T:=fun b o hb hn q=>by
  rw[q,hT] at hb;cases hb;exact hn ts hdT
 have hsz:3<ts.size:=(Array.getElem?_eq_some_iff.mp h3).1;delta PySem.passOn;refine qAc (qFu he hd h1 ?_);rw[if_neg (show ¬((Value.ref T == Value.none)=true) from by simp)];delta setFlight;refine qAc (qAc (qFu he hd h1 ?_));rw[if_pos (show(Value.ref T != Value.none)=true from by simp)];refine wpAny_setField hT hdT hsz (wpAny_throw (hQ _ (env.frame.elim Value.none fun f=>qKw f) (fun b o q=>(other b (fun z=>by rw[z,hnT] at q;cases q) _).trans (k1 b o q)) (k3.of_keeps fun b o hb hn=>⟨o,(other b (noT b o hb hn) _).trans hb,rfl⟩) ?_ (fun b o hb hn=>⟨o.slots,(other b (noT b o hb hn) _).trans hb⟩) (.upd (BL 3 #[1] _))));exact⟨oe,vs,T,_,_,(other e (Ne.symm hTe) _).trans he,hc,hd,h1,hnT,hTe,qDg _ hT (Obj.isFreed_of_fields (Obj.data_mapFields hdT _)),Obj.data_mapFields hdT _,by simp[hsz]⟩
end
def ER(X:Cx)(e N:Addr)(s':qAj):Prop :=
 qBq (qBr X.prog X.w) X.A (qGq (.ref e) X.env) (fun _ s1=>(∃m,s1.heap.Ns N m)/\∀h',qIb N s1.heap h'->∀(v:Env) (what:String),
  qBq (qBr X.prog X.w) X.A (PySem.passOn what (.ref e) v:Sem qAh) (fun _ _=>False) X.xe { s1 with heap:=h' }) (fun _ _=>False) s'
structure Gn (X:Cx) (Ex:XS):Prop where
 Mh:∀(pins:List (Addr×Obj)) (σ:St) (H:Hp) (s:qAj) (e C N:Addr) (H':Hp) (s':qAj),Inv X pins σ H s->gT X.prog X.w X.stack H s e C H' s'->CN s'.heap e->X.s₀.heap.get? N=none->N≠X.env.locals->(∃m,s'.heap.Ns N m)->H' N=none ->
  Ex (.ref C) σ H'->ER X e N s'
section
variable {X:Cx}{pins:List (Addr×Obj)}{σ:St}{H H':Hp}{s s':qAj}{e C N:Addr}
theorem uB(O:Own X)(I:Inv X pins σ H s)(F:gT X.prog X.w X.stack H s e C H' s')(cn:CN s'.heap e)(h0:X.s₀.heap.get? N=none)(hl:N≠X.env.locals)(hns:∃m,s'.heap.Ns N m)(hN:H' N=none)
  (k:∀s2,(∀{M:qLo}{E:qAh->qAj->Prop}{Q:Unit->qAj->Prop},(∀h'',gT X.prog X.w X.outer X.H₀ X.s₀ e C H' { s' with heap:=h'' }->CN h'' e->Q () { s' with heap:=h'' })->qBq M X.A (leaving X.env (.ref e)) Q E s2)->X.xe (.ref e) s2):ER X e N s':=by
 obtain⟨a0,B,fl,cE,th,kp⟩:=F.ex;have hfr:=I.ok.frames;have hst:=O.st;have nfs:N∉X.fs:=fun z=>by
  obtain⟨_,o,ho,_⟩:=I.ok.gK.mem z;rw[h0] at ho;cases ho
 have nst:N∉gD X.stack:=fun z=>by
  rcases List.mem_cons.mp (I.j4 N z) with r | r
  .exact hl r
  .exact nfs r
 obtain⟨mN,oN,es,ep,hoN,hdN,hrN⟩:=hns;have nN:∀b vs o,s'.heap.get? b=some o->o.data = .fields vs->b≠N:=fun b vs o q d z=>by
  rw[z,hoN] at q;cases q;rw[hdN] at d;cases d
 have less:∀b,B.get? b=none->(qCf B [N]).get? b=none:=fun b q=>by
  cases z:(qCf B [N]).get? b with
  | none=>rfl
  | some o=>rw[qEw _ z] at q;cases q
 obtain⟨f1,f2,f3,oe,vs,T,oT,ts,he,hc,hd,h1,hnT,hTe,hT,hdT,h3⟩:=fl;have fl1:qDk (qCf B [N]) X.stack e (.ref C) a0 s'.heap:=⟨fun b o q=>f1 b o (qEw _ q),less e f2,yP less f3,oe,vs,T,oT,ts,he,hc,hd,h1,less T hnT,hTe,hT,hdT,h3⟩;delta ER;rw[hst] at fl1 hfr;refine qCm ((KD.note (.ref e) _).any (wpAny_looks_onW (Q:=fun _ s2=>∃g,s2={ s' with heap:=g }/\qMi (qCf B [N]) (X.env::X.outer) e (.ref C) a0 X.env.locals g/\s'.heap.UpToSlots g) (E:=fun _ _=>False) hfr O.fr fl1 fun g hh up=>⟨g,rfl,hh,up⟩)) (fun _ s2 z9=>?_) fun _ _ z=>z.1;obtain⟨⟨g,e2,hh,up⟩,dk⟩:=z9;subst e2;have cg:CN g e:=cn.dk dk;refine⟨⟨mN,up.ns ⟨oN,es,ep,hoN,hdN,hrN⟩⟩,fun g' sb v what=>?_⟩;obtain⟨g1,g2,g3,oe',vs',T',oT',ts',he',hc',hd',h1',hnT',hTe',hT',hdT',h3'⟩:=hh;obtain⟨sl,hoN'⟩:=up N oN hoN fun vs q=>by rw[hdN] at q;cases q
 have nN':∀b vs o,g.get? b=some o->o.data = .fields vs->b≠N:=fun b vs o q d z=>by
  rw[z,hoN'] at q;cases q;rw[hdN] at d;cases d
 have stf:N∉gD (X.env::X.outer):=by rw[<- hst];exact nst
 refine Cy (B:=qCf B [N]) (l:=X.env::X.outer) (e:=e) (c:=.ref C) (a0:=a0) (fl:=qKw X.env.locals) (fun b o q=>?_) (yQ g3 fun b hb o q=>⟨o.slots,?_⟩)
  ⟨oe',vs',T',oT',ts',?_,hc',hd',h1',hnT',hTe',?_,hdT',h3'⟩ fun g2' fl' y1 y2 y3 y4 y5=>k _ fun {M E Q} hq=>?_
 .have:b≠N:=fun z=>by rw[z,qEg [N] qAr] at q;cases q
  exact(sb.2 b this).trans (g1 b o q)
 .exact(sb.2 b fun z=>stf (z▸hb)).trans q
 .exact(sb.2 e (nN' e vs' oe' he' hd')).trans he'
 .exact(sb.2 T' (nN' T' ts' oT' hT' hdT')).trans hT'
 .have cg':CN g' e:=by
   obtain⟨oc,h1c,h2c⟩:=cg;exact⟨oc,(sb.2 e (nN' e vs' oe' he' hd')).trans h1c,h2c⟩
  refine qCm ((KD.leaving (.ref e) _).any (wJ (M:=M) (E:=fun _ _=>False) (Q:=fun _ s2=>∃g3',s2={ s' with heap:=g3' }/\qDk (qCf B [N]) X.outer e (.ref C) a0 g3'/\g2'.UpToSlots g3') (s:={ s' with heap:=g2' }) hfr O.fr y1 g2 y2 y3 fun g3' z1 z2=>⟨g3',rfl,z1,z2⟩)) (fun _ s2 z9=>?_) fun _ _ z=>z.1.elim;obtain⟨⟨g3',e2,z1,z2⟩,dk2⟩:=z9;subst e2;refine hq g3' ⟨F.os.trans I.os,F.bare,⟨a0,_,z1,fun a o q=>?_,fun b o q hb=>?_,fun b o q n hb=>?_⟩,fun b o q n hb=>?_,fun b o q n=>?_,fun b xs q=>F.dU b xs (I.base.dU b xs q),fun b o u q=>F.gB b o u (I.base.gB b o u q),fun b ps q=>?_⟩ ((cg'.dk y5).dk dk2)
  .refine(cE a o q).iY (fun b u hb z=>qDz _ z fun hm=>?_) (fun _ z=>z) fun _ _ z=>z;have hbN:b=N:=by simpa using hm
   rcases hb with rfl | hb
   .rw[hbN,hN] at q;cases q
   .rw[hbN,hN] at hb;cases hb
  .obtain⟨o',z⟩:=I.base.there b o q (O.lG b);obtain⟨o2,z'⟩:=th b o' z (O.not I q hb);refine⟨o2,qDz _ z' fun hm=>?_⟩;have:b=N:=by simpa using hm
   rw[this,h0] at q;cases q
  .refine qDz _ (kp b o (I.base.keep b o q n hb (O.lG b)) (I.base.free b o q n (O.lG b)) (O.not I q hb)) fun hm=>?_;have:b=N:=by simpa using hm
   rw[this,h0] at q;cases q
  .obtain⟨sl,z⟩:=I.base.slot b o q n hb (O.lG b);obtain⟨sl',z'⟩:=F.slot b _ z (I.base.free b o q n (O.lG b)) (O.sub hb);obtain⟨_,o',ho',hnf⟩:=I.ok.gK.mem hb;rw[q] at ho';cases ho';obtain⟨s2,w2⟩:=up b _ z' hnf;have w3:=(sb.2 b fun x=>nfs (x▸hb)).trans w2;obtain⟨s4,w4⟩:=y4 b _ w3 hnf;obtain⟨s5,w5⟩:=z2 b _ w4 hnf;exact⟨s5,w5⟩
  .obtain⟨o',z⟩:=I.base.there b o q (O.lG b);exact F.free b o' z (I.base.free b o q n (O.lG b))
  .obtain⟨m1,e1⟩:=I.base.gJ b ps q;obtain⟨m2,e2⟩:=F.gJ b _ e1;exact⟨m1++m2,by rw[e2,qIw]⟩
end
theorem qY{P:qBe}{w:qCj}{K:qAb}{mg:Str->Option qAh}{base:Heap}{N:List Str}{qual:Str}{scope:qHb}{f:Addr}{cd:qAh}{A:qCb}{outer:List Env}{s:qAj}{H:Hp}{E:XK}:
  Gn (iD (gA P w) P w K mg base N qual scope f cd A outer s H E) (fun c _ H'=>E c none H') where
 Mh:=fun pins σ H1 s1 e C Nn H' s' I F cn h0 hl hns hN q=>uB ⟨rfl,rfl,rfl⟩ I F cn h0 hl hns hN fun s2 k=>k fun h'' F' c'=>⟨e,C,H',rfl,F',c',q⟩
def lY(X:Cx)(NB:List Str)(sc:qHb)(cl:List (Str×Addr))(s₃:qAj)(H₃:Hp)(fp:List Addr)(Ex:XS):Cx :=
 { lF X NB sc cl s₃ H₃ fp with xe:=fun ev s'=>∃e C pins σ H s H',ev=Value.ref e/\Inv (lF X NB sc cl s₃ H₃ fp) pins σ H s/\gT X.prog X.w X.stack H s e C H' s'/\CN s'.heap e/\Ex (.ref C) σ H' }
section
variable {X:Cx}{NB:List Str}{sc:qHb}{cl:List (Str×Addr)}{s₃:qAj}{H₃:Hp}{fp:List Addr}{Ex:XS}{pins:List (Addr×Obj)}{σ:St}{H:Hp}{s:qAj}
theorem Inv.bx(I:Inv (lF X NB sc cl s₃ H₃ fp) pins σ H s):Inv (lY X NB sc cl s₃ H₃ fp Ex) pins σ H s:=by
 obtain⟨⟨o1,o2,o3,o4,o5,o6,o7,o8,o9,o10,o11,o12,o13,o14,o15,o16,o17,o18⟩,i2,i3,i4,i5,i6,i7,i8,i9,i10,i11⟩:=I;exact⟨⟨o1,o2,o3,o4,o5,o6,o7,o8,o9,o10,o11,o12,o13,o14,o15,o16,o17,o18⟩,i2,i3,i4,i5,i6,i7,i8,i9,i10,i11⟩
theorem Inv.xb(I:Inv (lY X NB sc cl s₃ H₃ fp Ex) pins σ H s):Inv (lF X NB sc cl s₃ H₃ fp) pins σ H s:=by
 obtain⟨⟨o1,o2,o3,o4,o5,o6,o7,o8,o9,o10,o11,o12,o13,o14,o15,o16,o17,o18⟩,i2,i3,i4,i5,i6,i7,i8,i9,i10,i11⟩:=I;exact⟨⟨o1,o2,o3,o4,o5,o6,o7,o8,o9,o10,o11,o12,o13,o14,o15,o16,o17,o18⟩,i2,i3,i4,i5,i6,i7,i8,i9,i10,i11⟩
theorem uC:Pass (lY X NB sc cl s₃ H₃ fp Ex) Ex where
 on:=fun pins σ H s e C H' s' I F cn q=>⟨e,C,pins,σ,H,s,H',rfl,I.xb,F,cn,q⟩
end
section
variable {prog:qBe}{w:qCj}{A:qCb}{R:qNl->qAj->Prop}{s:qAj}
theorem wK{elt target iter:Expr}{ifs:List Expr}{scope:qHb}{pos:Pos}{it acc:qAh}{env:Env}(W:Nat->qAj->Prop)(Z:qAh->qAj->Prop)(hZ:∀e s,Z e s->notedBy (qBr prog w) A env (fun x s'=>R (.error x) s') e s)
  (turn:∀n s,W n s->qBq (qBr prog w) A (pyNext it) (fun r s₁=>match r with
   | none=>R (.ok .next) s₁
   | some v=>qBq (qBr prog w) A (qHh target it v) (fun _ s₀=>qBq (qBr prog w) A (qLa target env v) (fun _ s₂ =>
     qBq (qBr prog w) A (forIn ifs true fun c r=>if r=true then do let ok <- qNj c env (eval c env);pure (ForInStep.yield ok) else pure (ForInStep.yield r)) (fun ok s₃ =>
      if ok=true then qBq (qBr prog w) A (eval elt env) (fun x s₄ =>
       qBq (qBr prog w) A (call (.builtin "list.append") [acc,x]) (fun _ s₅=>∃m,m<n/\W m s₅) Z s₄) Z s₃
      else ∃m,m<n/\W m s₃) Z s₂) Z s₀) Z s₁) Z s)
  (n:Nat) (h:W n s) :
  qGk (qBr prog w) A (.compLoop (.ListComp elt [⟨target,iter,ifs,0⟩] scope pos) 0 it acc env) R s:=by
 refine codeAny_loop rfl W (fun n s hI=>?_) n h;show qBq _ A ((compTurn (.ListComp elt [⟨target,iter,ifs,0⟩] scope pos) 0 it acc env).onRaise (fun x=>do qGq x env;theTreesLotGoes x)) _ _ s;refine wpAny_noted (qCm (Q:=_) (E:=Z) ?_ (fun _ _ q=>q) hZ);rw[compTurn_list];refine qAc (qEz (qAc (bT (turn n s hI) fun r s₁ h₁=>?_)));cases r with
 | none=>exact qAo h₁
 | some v =>
  refine qAc (bT h₁ fun _ s₀ h₀=>qAc (bT h₀ fun _ s₂ h₂=>qAc (bT h₂ fun ok s₃ h₃=>?_)));cases ok with
  | false=>exact qAo ⟨rfl,h₃⟩
  | true=>exact qAc (qAc (bT h₃ fun x s₄ h₄=>qAc (bT h₄ fun _ s₅ h₅=>qAo (qAo ⟨rfl,h₅⟩))))
end
section
variable {X:Cx}{NB:List Str}{pick:List (Option Nat)}{sc:qHb}{cl:List (Str×Addr)}{elt target iter:Expr}{ifs:List Expr}{pos:Pos}{wi:TI}{g:TG}{c:TT}{te:TE}{Ex:XS}
theorem Inv.Mi{NB:List Str}{pins:List (Addr×Obj)}{σ:St}{H:Hp}{s s₃:qAj}{H₃:Hp}{fp:List Addr}(I:Inv (lF X NB sc cl s₃ H₃ fp) pins σ H s):Inv (lF X NB sc cl s₃ H₃ fp) [] σ H s :=
 ⟨I.ok,I.os,I.bare,I.base,I.loc,I.cell,I.free,I.gE,fun p hp=>absurd (show p∈([]:List (Addr×Obj)) from hp) (by simp),I.cE,I.len⟩
theorem uD(B:HH X NB pick sc cl)(hc:X.calm=true)(O:Own X)(RB:Gn X Ex)(hi:PI X target iter wi)(Ey:XS)(hEy:∀c σ σ' H,Ey c σ' H->Ex c σ H)
  (hg:∀s₃ H₃ fp,PG (lY X NB sc cl s₃ H₃ fp Ey) target g) (ht:∀s₃ H₃ fp,vV (lY X NB sc cl s₃ H₃ fp Ey) ifs c) (he:∀s₃ H₃ fp,PE (lY X NB sc cl s₃ H₃ fp Ey) elt te)
  (hs:∀x,qGj iter X.env x=pure x:=by intro _;rfl):PE X (.ListComp elt [⟨target,iter,ifs,0⟩] sc pos) (fun σ H Q=>yB wi pick g c te σ H fun D H'=>Q (.ref D) H'):=by
 intro pins s σ H Q I h;rw[eval_ListComp];refine wpAny_comprehension_free (use:=none) rfl hs B.EB B.kind B.names (bT (hi pins s σ H _ I h) fun v s1 h1=>bT h1 fun itv s2 h2=>?_);obtain⟨it,fp,tn,J,H2,e,I2,T,st2,f2,h2⟩:=h2;subst e;refine qFi ?_;have I3:Inv X pins σ (upd H2 s2.heap.objs.size (.lst [])) { s2 with heap:=s2.heap.push { cls:=.type "list",dict:=none,data:=.seq ([]:List qAh).toArray } } :=
  I2.laid (t':=s2.toks) (fun b u e=>qAi _ e) (qAl _) ⟨qBn _,[],0,.nil,qBh _ rfl⟩
 have hf:H2 s2.heap.objs.size=none:=I2.cE.fresh (qAl _);have lt:∀b∈fp,b≠s2.heap.objs.size:=fun b hb=>by
  obtain⟨o,ho,_⟩:=T.obj _ _ st2 b hb;exact qBi (qAt ho)
 have f3:∀b∈fp,kH X pins (upd H2 s2.heap.objs.size (.lst [])) b:=fun b hb=>⟨by rw[aM (lt b hb)];exact(f2 b hb).1,(f2 b hb).2⟩;generalize hs3:({ s2 with heap:=s2.heap.push { cls:=.type "list",dict:=none,data:=.seq ([]:List qAh).toArray } }:qAj)=s3 at I3|-;have kp3:∀b o,s2.heap.get? b=some o->s3.heap.get? b=some o:=fun b o e=>by
  rw[<- hs3];exact qAi _ e
 have hex:∀b∈fp,∃o,s3.heap.get? b=some o:=fun b hb=>by
  obtain⟨o,ho,_⟩:=T.obj _ _ st2 b hb;exact⟨o,kp3 b o ho⟩
 have st3:tn 0 s3.heap:=T.keep _ _ _ st2 fun b _ o e=>kp3 b o e;obtain⟨W,⟨m0,w0⟩,turn⟩:=h2 _ hf;refine wpAny_newFunctionEnv B.r8 (by intro y hy;simp at hy) (fun h₁ hns₁ hsb₁=>?_) B.kind;have kp4:∀b o,s3.heap.get? b=some o->h₁.get? b=some o:=fun b o e=>(hsb₁.2 b (qBi (qAt e))).trans (qAi _ e);have J4:=qL I3 B f3 hex hns₁ kp4 (s3.toks+([]:List (Str×qAh)).length);have st4:tn 0 h₁:=T.keep _ _ _ st3 fun b _ o e=>kp4 b o e;have stat:∀{H':Hp},(∀b∈fp,H' b=none)->∀b∈fp,kH (lY X NB sc cl s3 (upd H2 s2.heap.objs.size (.lst [])) fp Ey) [] H' b:=fun {H'} hn b hb=>by
  obtain⟨o,ho⟩:=hex b hb;refine⟨hn b hb,qBi (qAt ho),fun z=>?_,.inl hb,fun x a e=>(f2 b hb).2.2.2.2.1 x a (B.sub.of x a e),fun p hp=>absurd (show p∈([]:List (Addr×Obj)) from hp) (by simp)⟩;rcases List.mem_cons.mp (I2.j4 b z) with e | e
  .exact(f2 b hb).2.1 e
  .exact(f2 b hb).2.2.1 e
 have fresh:X.s₀.heap.get? s3.heap.objs.size=none:=qFd I3.sz;have loop:qGk (qBr X.prog X.w) X.A (.compLoop (.ListComp elt [⟨target,iter,ifs,0⟩] sc pos) 0 (.ref it) (.ref s2.heap.objs.size) (lF X NB sc cl s3 (upd H2 s2.heap.objs.size (.lst [])) fp).env)
   (compPost (qBr X.prog X.w) X.A X.xe none (EP X pins σ Q) (.ref s2.heap.objs.size) s3.heap.objs.size) { s3 with heap:=h₁,toks:=s3.toks+([]:List (Str×qAh)).length }:=by
  refine wK (fun n s'=>∃i σ' H',Inv (lY X NB sc cl s3 (upd H2 s2.heap.objs.size (.lst [])) fp Ey) [] σ' H' s'/\tn i s'.heap/\(∀b∈fp,H' b=none)/\W i n σ' H') (lY X NB sc cl s3 (upd H2 s2.heap.objs.size (.lst [])) fp Ey).xe ?_ ?_ m0 ⟨0,_,_,J4.bx,st4,fun b hb=>(f3 b hb).1,w0⟩
  .rintro ev sr ⟨e,C,pb,σb,Hb,sb,Hr,rfl,Ib,Fb,cb,qb⟩;have IX:Inv X pins σ Hb sb:=sA I3 f3 Ib.Mi;have IF:=gT.inv (X:=lF X NB sc cl s3 (upd H2 s2.heap.objs.size (.lst [])) fp) Fb Ib;obtain⟨m,hm,_⟩:=IF.loc;have:=RB.Mh pins σ Hb sb e C s3.heap.objs.size Hr sr IX Fb cb fresh (qBi I3.lt).symm ⟨m,hm⟩ IF.free (hEy _ _ _ _ qb);unfold ER at this;show qBq _ _ (qGq (.ref e) _) _ _ _;rw[Ax (e:=.ref e) (v:=(lF X NB sc cl s3 (upd H2 s2.heap.objs.size (.lst [])) fp).env) (w:=X.env) rfl];exact qCm this (fun _ s1 ⟨n1,n2⟩=>by
    obtain⟨m1,n1⟩:=n1;exact⟨m1,n1,fun h' sb' cenv _=>n2 h' sb' cenv _⟩) fun _ _ z=>z.elim
  rintro n s5 ⟨i,σ5,H5,I5,st5,fr5,w5⟩;rcases turn i n σ5 H5 w5 with ⟨stop,qn⟩ | ⟨go,N,hN,step⟩
  .refine bT (T.done (lY X NB sc cl s3 (upd H2 s2.heap.objs.size (.lst [])) fp Ey) rfl rfl rfl hc i [] s5 σ5 H5 _ I5 (stat fr5) st5 stop) fun r s6 z9=>?_;obtain⟨hr,I6⟩:=z9;subst hr;have I6:=I6.xb;have I':=sA I3 f3 I6;obtain⟨m,hn,_⟩:=I6.loc;refine⟨m,hn,fun hh hsb=>⟨.ref s2.heap.objs.size,H5,I'.turned (t':=s6.toks) (fun b o hb e=>(hsb.2 b hb).trans e) I6.free (qBi I3.lt).symm (.inr I3.sz) (fun x a e=>?_) (fun p hp=>?_),rfl,qn⟩⟩
   .obtain⟨v,o,ho,_⟩:=I3.cell x a e;exact qBi (qAt ho)
   .exact qBi (qAt (I3.pin p hp).1)
  .refine bT (T.item (lY X NB sc cl s3 (upd H2 s2.heap.objs.size (.lst [])) fp Ey) rfl rfl rfl hc i [] s5 σ5 H5 _ I5 (stat fr5) st5 go) fun r s6 z9=>?_;obtain⟨u,hr,h6⟩:=z9;subst hr;refine bT h6 fun _ s7 z9=>?_;obtain⟨x,H7,I7,r7,y7,st7,fr7⟩:=z9;have I7':=I7.pinned (stat fr7) (T.obj _ _ st7);have qNc:∀{s9:qAj}{σ9:St}{H9:Hp},Inv (lY X NB sc cl s3 (upd H2 s2.heap.objs.size (.lst [])) fp Ey) ([]++lM fp s7.heap) σ9 H9 s9->N σ9 H9 ->
     ∃m,m<n/\∃i σ' H',Inv (lY X NB sc cl s3 (upd H2 s2.heap.objs.size (.lst [])) fp Ey) [] σ' H' s9/\tn i s9.heap/\(∀b∈fp,H' b=none)/\W i m σ' H':=fun {s9 σ9 H9} I9 n9=>by
    obtain⟨m',hm,w9⟩:=hN σ9 H9 n9;refine⟨m',hm,i+1,σ9,H9,I9.jA,T.keep _ _ _ st7 fun b hb o e=>(I9.pin (b,o) (qAx _ (qAx _ (eZ hb e)))).1,fun b hb=>?_,w9⟩;obtain⟨o,e,d⟩:=T.obj _ _ st7 b hb;exact(I9.pin (b,o) (qAx _ (qAx _ (eZ hb e)))).2.1
   have hg':=hg s3 (upd H2 s2.heap.objs.size (.lst [])) fp;have ht':=ht s3 (upd H2 s2.heap.objs.size (.lst [])) fp;have he':=he s3 (upd H2 s2.heap.objs.size (.lst [])) fp;refine bT (hg' _ s7 σ5 H7 x u _ I7' r7 (step x H7 y7)) fun _ s8 z9=>?_;obtain⟨σ8,H8,I8,q8⟩:=z9;refine bT (ht' _ s8 σ8 H8 _ I8 q8) fun b s9 z9=>?_;obtain⟨H9,I9,q9⟩:=z9;cases b with
   | false =>
    rw[if_neg qAm];exact qNc I9 (by rw[if_neg qAm] at q9;exact q9)
   | true =>
    rw[if_pos rfl] at q9|-;refine bT (he' _ s9 σ8 H9 _ I9 q9) fun y s10 z9=>?_;obtain⟨vy,H10,I10,r10,xs,hD,hl,q10⟩:=z9;refine bT (lQ _ s10 σ8 H10 (.ref s2.heap.objs.size) [vy] (.ref s2.heap.objs.size) [y] (fun _ H'=>N σ8 H') I10 rfl (.cons r10 .nil) ⟨_,xs,vy,rfl,rfl,hD,hl,q10⟩) fun _ s11 z9=>?_;obtain⟨_,H11,I11,_,q11⟩:=z9;exact qNc I11 q11
 refine codeAny_compStart_list loop (T.self _ 0 _ _ _ st4 loop)
end
structure gF (k:Nat) (A:qCb):Prop where
 dp:A.depth+3*k+5<recursionLimit
 un:A.units+16*k+200<qMq
theorem cY.h{k:Nat}{A:qCb}(r:cY k A):gF k A:=⟨r.dp,r.un⟩
theorem gF.mark{k:Nat}{A:qCb}(r:gF k A)(v:Option qAh):gF k (A.mark v):=⟨r.dp,r.un⟩
def QC:vE:=fun _ _ _ _ _ _=>False
def OE(P:qBe)(w:qCj)(K:qAb)(mg:Str->Option qAh)(base:Heap)(N:List Str)(qual:Str)(scope:qHb)(f:Addr)(cd:qAh)(A:qCb)(outer:List Env)(s:qAj)(H:Hp):Cx :=
 { iD QC P w K mg base N qual scope f cd A outer s H (fun _ _ _=>False) with calm:=false,xe:=fun _ _=>False }
structure ES (P:qBe) (w:qCj) (K:qAb) (mg:Str->Option qAh) (base:Heap) (k:Nat) (f:Addr) (fd:qBy) (ps:List Str) (sp:List V->Hp->VK->Prop):Prop where
 len:∀vs H Q,sp vs H Q->vs.length=ps.length
 run:∀(A:qCb) (outer:List Env) (s:qAj) (H:Hp) (args:Args) (us:List qAh) (vs:List V) (Q:VK),gF k A->pP P w K mg base A outer s H->qLb s fd args (ps.zip us)->Vals vs us->sp vs H Q ->
  qGk (qBr P w) A (.call (.ref f) args) (fun r s'=>match r with | .ok (.ret u)=>CE outer P w H s Q u s' | _=>False) s
section
variable {P:qBe}{w:qCj}{K:qAb}{mg:Str->Option qAh}{base:Heap}
theorem wL{N ps:List Str}{qual:Str}{scope:qHb}{f:Addr}{cd:qAh}{A:qCb}{outer:List Env}{s s1:qAj}{H:Hp}{us:List qAh}{vs:List V}
  (S:aN N ps scope) (e0:pP P w K mg base A outer s H) (hl:vs.length=ps.length) (r:Vals vs us)
  (x:InCallC s s.heap.objs.size (qNa (qGf qual scope s.heap.objs.size f cd).kindOf (ps.zip us) fun _=>none) (qKy (s.heap.objs.size+1) scope.names []) (qNb (qGf qual scope s.heap.objs.size f cd).kindOf (ps.zip us) fun _=>none) s1) :
  Inv (OE P w K mg base N qual scope f cd A outer s H) [] (start N vs) H s1:=by
 have e1:pP P w K mg base { A with handled:=none } outer s H:=⟨e0.frames,e0.mod,e0.bs,e0.Eg,e0.gK,e0.FZ,e0.cE,e0.bare⟩;have I:=qH (CX:=QC) (E:=fun _ _ _=>False) S rfl e1 hl r x;obtain⟨⟨o1,o2,o3,o4,o5,o6,o7,o8,o9,o10,o11,o12,o13,o14,o15,o16,o17,o18⟩,i2,i3,i4,i5,i6,i7,i8,i9,i10,i11⟩:=I;exact⟨⟨o1,o2,o3,o4,o5,o6,o7,o8,fun z=>(qAm z).elim,Around.frames_deeper e0.frames,o11,o12,o13,o14,o15,o16,o17,o18⟩,i2,i3,i4,i5,i6,i7,i8,i9,i10,i11⟩
theorem Ii{k:Nat}{f:Addr}{name qual:Str}{params:Arguments}{body:List Stmt}{scope:qHb}{dV kV doc pm cdv ct oc:qAh}{an od:Option Addr}{osl:Array (Option qAh)}{N ps:List Str}{sp:List V->Hp->VK->Prop}
  (lk:K.lookup f=some ⟨oc,od,.func (qBu name qual params body scope dV kV doc pm an cdv ct),osl⟩) (hcd:qBt K cdv qual=true) (S:aN N ps scope) (len:∀vs H Q,sp vs H Q->vs.length=ps.length)
  (hbody:∀(A:qCb) (outer:List Env) (s:qAj) (H:Hp) (vs:List V) (Q:VK),gF k (A.deeper (qGf qual scope s.heap.objs.size f cdv))->sp vs H Q ->
   ∃t,lI (OE P w K mg base N qual scope f cdv A outer s H) body t/\t { nx:=fun _ H'=>Q .non H',rt:=Q } (start N vs) H):ES P w K mg base (k+1) f (qBu name qual params body scope dV kV doc pm an cdv ct) ps sp:=by
 refine⟨len,fun A outer s H args us vs Q hr e0 hb r hsp=>?_⟩;have KX:K.In s.heap:=e0.mod.Ea.keeps fun b o e=>(e0.bs b o e).1;have lim:s.heap.NoLimit:=e0.mod.nolimit.keeps fun b o e=>(e0.bs b o e).1;have hkind:∀y∈ps.zip us,scope.names.lookup y.1=some .local\/(scope.names.lookup y.1=some .cell/\((qKy (s.heap.objs.size+1) scope.names []).lookup y.1).isSome=true):=fun⟨n,v⟩ hy=>by
  rcases S.par n (qHy hy).1 with q | q
  .exact .inl q
  .exact .inr ⟨q,qHk _ _ _ (.inl q)⟩
 refine codeAny_call_function (by have:=hr.dp;lia) (KX _ _ lk) rfl S.co S.gen rfl (qLd KX hcd) (hb _ _ _ _ ?_);refine wpAny_newFunctionEnv_cells S.kind hkind fun env he s1 x=>?_;subst he;refine⟨lim.keeps x.toInCall.keep,codeAny_func ?_⟩;obtain⟨t,ht,hq⟩:=hbody A outer s H vs Q ⟨by have:=hr.dp;show A.depth+1+3*k+5<_;lia,by have:=hr.un;show A.units+3+16*k+200<_;lia⟩ hsp;have I:=wL (qual:=qual) (f:=f) (cd:=cdv) S e0 (len _ _ _ hsp) r x;refine qCm (ht [] s1 (start N vs) H _ I hq) (fun fl s' hs=>?_) fun e s' hs=>hs.elim;have fin:∀{σ':St}{H':Hp}{v:V}{u:qAh},Inv (OE P w K mg base N qual scope f cdv A outer s H) [] σ' H' s'->RelV v u->Q v H'->CE outer P w H s Q u s' :=
  fun {σ' H' v u} J rv q=>⟨v,H',J.os,J.bare,J.base,J.cE,rv,q⟩
 cases fl with
 | ret u=>obtain⟨v,σ',H',J,rv,q⟩:=hs;exact fin J rv q
 | next=>obtain⟨σ',H',J,q⟩:=hs;exact fin (v:=V.non) (u:=Value.none) J rfl q
 | brk=>obtain⟨_,_,_,q⟩:=hs;exact False.elim q
 | cont=>obtain⟨_,_,_,q⟩:=hs;exact False.elim q
theorem BI.QZ{x qual:Str}{st:Stmt}{f:Addr}{fd:qBy}{N ps:List Str}{k:Nat}{sp:List V->Hp->VK->Prop}(F:BI K x qual st f fd)(S:aN N ps (aF st))(len:∀vs H Q,sp vs H Q->vs.length=ps.length)
  (hbody:∀(cdv:qAh) (A:qCb) (outer:List Env) (s:qAj) (H:Hp) (vs:List V) (Q:VK),gF k (A.deeper (qGf qual (aF st) s.heap.objs.size f cdv))->sp vs H Q ->
   ∃t,lI (OE P w K mg base N qual (aF st) f cdv A outer s H) (bG st) t/\t { nx:=fun _ H'=>Q .non H',rt:=Q } (start N vs) H):ES P w K mg base (k+1) f fd ps sp:=by
 obtain⟨oc,od,kV,doc,pm,an,cdv,ct,osl,rfl,lk,hcd⟩:=F.ex;exact Ii lk hcd S len fun A outer s H vs Q hr hsp=>hbody cdv A outer s H vs Q hr hsp
end
theorem Ij{H:Hp}{a:Addr}{o:HO}(h:H a=some o):upd H a o=H:=by
 funext b
 delta upd;split
 .rename_i q;rw[q,h]
 .rfl
theorem gX{H:Hp}{a b:Addr}{o u:HO}(h:a≠b):upd (upd H a o) b u=upd (upd H b u) a o:=by
 funext c
 delta upd;by_cases h1:c=a
 .rw[if_pos h1,if_neg (fun z=>h (h1.symm.trans z)),if_pos h1]
 .rw[if_neg h1,if_neg h1]
abbrev fC(C t:Addr)(dd:Option Addr):Obj:={ cls:=.ref C,dict:=dd,data:=.fields #[.ref t,.none,.none,.none,.bool false,.none] }
def Bg(e C:Addr):HO:=.ext fun h=>∃t,h.get? e=some (fC C t none)
def ET(e C d:Addr):HO:=.ext fun h=>∃t,h.get? e=some (fC C t (some d))
structure jU (K:qAb) (C Sh f:Addr):Prop where
 ob:∃nm qn ns bs hd sn sub ab col dd k0 k1 k2 k3 k5,K.lookup C=some (qKx nm qn C ns bs (.ref Sh::sG) hd sn sub ab col dd k0 k1 k2 k3 k5 "ValueError.__new__")
 sh:qDm K Sh sG "ValueError.__new__"=true
 it:qAd K (.ref C) "__init__"=some (some (.ref f))
 fn:qEo K (.ref f)=some (.type "function")
 kp:qAv K (.ref C)=true
 sa:qAd K (.ref C) "__setattr__"=some (some (.builtin "object.__setattr__"))
 hd:qCd K C=true
theorem jU.tail{K:qAb}{C Sh f:Addr}{h:Heap}(c:jU K C Sh f)(X:K.In h):OwnTail h sG (.ref Sh::sG):=by
 obtain⟨bm,N,nm,q,bs,hdct,sn,sub,ab,col,dd,k0,k1,k2,k3,k5,mN,hC,hN,hi,_⟩:=yC X c.sh;exact .own hC hN hi .base
theorem jU.at{K:qAb}{C Sh f:Addr}{h:Heap}(c:jU K C Sh f)(X:K.In h):∃nm qn ns bs hd sn sub ab col dd k0 k1 k2 k3 k5,h.get? C=some (qKx nm qn C ns bs (.ref Sh::sG) hd sn sub ab col dd k0 k1 k2 k3 k5 "ValueError.__new__"):=by
 obtain⟨nm,qn,ns,bs,hd,sn,sub,ab,col,dd,k0,k1,k2,k3,k5,e⟩:=c.ob;exact⟨nm,qn,ns,bs,hd,sn,sub,ab,col,dd,k0,k1,k2,k3,k5,X _ _ e⟩
structure Gp (K:qAb) (Sh:Addr):Prop where
 ga:qDd K (.ref Sh) "__getattribute__"=some (some (.builtin "type.__getattribute__"))
 rd:qHo K Sh (.type "type")=true
 at_:qHq K (.ref Sh) (.type "type") "__init__"=some (.val (.builtin "ValueError.__init__"))
def EU(K:qAb)(t:TA):TE:=fun σ H Q=>t σ H fun vs H1=>∃e C Sh f r,vs = .ref e::r/\r.length<=qAg/\jU K C Sh f/\H1 e=some (Bg e C)/\Q .non H1
section
variable {X:Cx}{pins:List (Addr×Obj)}{σ:St}{H:Hp}{s:qAj}
theorem Cz{P:qBe}{w:qCj}{h:Heap}{e C t:Addr}(he:h.get? e=some (fC C t none)):cM P w H h e (Bg e C) :=
 ⟨⟨t,he⟩,⟨_,he⟩,fun h1 h2 ⟨t',z⟩ k=>⟨t',k _ z⟩⟩
theorem Ik{P:qBe}{w:qCj}{h:Heap}{e C t d:Addr}(he:h.get? e=some (fC C t (some d))):cM P w H h e (ET e C d) :=
 ⟨⟨t,he⟩,⟨_,he⟩,fun h1 h2 ⟨t',z⟩ k=>⟨t',k _ z⟩⟩
theorem Ay{x:Str}{p pos apos:Pos}{e:Expr}{es:List Expr}{t:TA}{C0:Addr}{pl:Sem Bool}(hg:Gl X x)(hm:X.mg x=some (.ref C0))(M:Gp X.K C0)(ha:PA X (e::es) t)(hdb:(x == ("__debug__":Str))=false:=by decide)
  (hst:qBl (e::es) X.env=(false,eval e X.env)::qBl es X.env:=by rfl) (hpl:(qFc pos (qBl es X.env)).any (·.1)=false:=by rfl)
  (ht:eval (.Call (.Attribute (.Name x p) "__init__" apos) (e::es) [] pos) X.env=(do
   let ov <- eval (.Name x p) X.env
   qIf apos.atName
   let (f,first) <- qIx [ov] (qJs ov "__init__" pl)
   qNk pos f first (qFc pos (qBl (e::es) X.env)) (qGz pos (qFb [] X.env))):=by rfl) :
  PE X (.Call (.Attribute (.Name x p) "__init__" apos) (e::es) [] pos) (EU X.K t):=by
 intro pins s σ H Q I h;refine qHp (pl:=pl) (bT (bO (v:=.ref C0) hg hm rfl hdb pins s σ H (fun v H'=>v = .ref C0/\H'=H) I ⟨rfl,rfl⟩) fun u s1 z9=>?_) ht;obtain⟨x,H1,I1,rx,ex,eH⟩:=z9;subst ex eH;obtain rfl:u=Value.ref C0:=rx;refine qLc I1.gL M.ga (qLk I1.gL M.rd M.at_ rfl ?_);refine qId (bT (ha pos pins _ σ _ _ (I1.tok _) h) fun us s2 z9=>?_) hst hpl;obtain⟨vs,H2,I2,r,a,C,Sh,f,r0,ev,hz,c,hH,q2⟩:=z9;subst ev;obtain⟨u0,ur,rfl,ru,rr⟩:∃u0 ur,us=u0::ur/\RelV (.ref a) u0/\Vals r0 ur:=by
  cases r with
  | cons a b=>exact⟨_,_,rfl,a,b⟩
 obtain rfl:u0=Value.ref a:=ru;obtain⟨t0,he⟩:=(show ∃t,s2.heap.get? a=some (fC C t none) from(I2.cE a _ hH).1);have FB:=qGo;obtain⟨nm,qn,ns,bs,hd,sn,sub,ab,col,dd,k0,k1,k2,k3,k5,hC⟩:=c.at I2.gL;have T:=c.tail I2.gL;have hz':ur.length<=qAg:=by rw[<- rr.length];exact hz
 obtain⟨hh,g,d,tk,os⟩:=s2;refine qEv (qEa FB.init.plain FB.initEntry (wpAny_check_init_subT FB T hC he rfl ?_));wp_walk;refine⟨.non,H2,?_,rfl,q2⟩;have hp:=qAi (h:=hh) { cls:=.type "tuple",data:=.seq ur.toArray } he;have hs:=qDg (Obj.mapFields fun x=>x.setIfInBounds 0 (Value.ref hh.objs.size)) hp rfl;have W:=I2.write (x:=a) (e:=a) (o:=Bg a C) (t':=tk) (h':=(hh.push { cls:=.type "tuple",data:=.seq ur.toArray }).update a (Obj.mapFields fun x=>x.setIfInBounds 0 (Value.ref hh.objs.size)))
  (by rw[hH];exact True.intro) (.inl rfl) (fun b u hb q=>(qCl _ _ (Ne.symm hb)).trans (qAi _ q)) ⟨_,hs⟩ (Cz (t:=hh.objs.size) hs)
 rw[Ij hH] at W;exact W
theorem EV{prog:qBe}{w:qCj}{A:qCb}{K:qAb}{s:qAj}{x C Sh f:Addr}{ox:Obj}{od:Option Obj}{name:Str}{tk:Tok}{v:qAh}{R:qNl->qAj->Prop}(X:K.In s.heap)(I:qJm s.heap x ox C od)(c:jU K C Sh f)(ht:qAd K (.ref C) name=some none)
  (h:qBq (qBr prog w) A.in1 (Builtin.ObjectAttr.storeInOwnDict (.ref x) (.ref C) (.str name tk) name v false)
   (fun fin s'=>match fin with | .done f=>R (.ok f) s' | .again c'=>c'.quiet=true/\qGk (qBr prog w) A c' R s') (fun e s'=>R (.error e) s') s) :
  qGk (qBr prog w) A (.call (.builtin "object.__setattr__") ⟨[.ref x,.str name tk,v],[]⟩) R s:=by
 have SF:=PySem.F.store_object;obtain⟨nm,qn,ns,bs,hd,sn,sub,ab,col,dd,k0,k1,k2,k3,k5,hC⟩:=c.at X;have hm:qCy (qBr prog w) s.heap (mroOf (.ref C)) (.ref C :: .ref Sh::sG):=fun A' Q' E' s' k q=>by
  refine wpAny_mroOf_exc (h:=s'.heap) (g:=s'.gens) (d:=s'.drawn) (t:=s'.toks) (os:=s'.os) (k _ _ hC) q
 have sub:qCy (qBr prog w) s.heap (qKb (.ref x) (.type "object")) true:=I.type.andThen fun A' Q' E' s' k q=>by
  refine qFt (h:=s'.heap) (g:=s'.gens) (d:=s'.drawn) (t:=s'.toks) (os:=s'.os) (k _ _ hC) ?_;exact q
 refine qEa SF.slot.plain SF.entry (@PySem.W.check_slot (qBr prog w) _ _ s "object.__setattr__" "object" "__setattr__" (.ref x) [.str name tk,v] [] _ SF.kind SF.split sub (SF.args (.ref x) (.str name tk) v) ?_);rw[PySem.W.osa_eq,refuse_eq];refine qAc (qAc (I.type.here (qAc (hm.here ?_))));rw[refuseLoop_ref,refuseLoop_ref,PySem.F.store_ValueError.passes];refine qAo (qAc (I.type.here (qAc ((qDh X ht).here (qAc (qAo ?_))))));exact h
theorem CA{A:qCb}{E:qAh->qAj->Prop}{e C Sh f:Addr}{name:Str}{y:V}{u:qAh}{Q:Unit->qAj->Prop}(I:Inv X pins σ H s)(hH:H e=some (Bg e C))(c:jU X.K C Sh f)(ht:qAd X.K (.ref C) name=some none)(ry:RelV y u)
  (h:∀d s',H d=none->d≠e->Inv X pins σ (upd (upd H d (.xd [(name,y)])) e (ET e C d)) s'->Q () s'):qBq (qBr X.prog X.w) A (setAttr (.ref e) name u) Q E s:=by
 obtain⟨t0,he⟩:=(show ∃t,s.heap.get? e=some (fC C t none) from(I.cE e _ hH).1);refine qLg I.gL (x:=e) (C:=C) (ox:=fC C t0 none) (od:=none) ⟨he,rfl,rfl,True.intro⟩ c.sa ?_;refine EV (s:={ s with toks:=s.toks+1 }) I.gL (ox:=fC C t0 none) (od:=none) ⟨he,rfl,rfl,True.intro⟩ c ht ?_;obtain⟨cd,hc,hd'⟩:=qLp c.hd;refine qAc (qAo (qAc (qAc (qHt he (qAc (PySem.W.Looks.here (s:={ s with toks:=s.toks+1 }) (qKq I.gL hc) ?_))))));rw[hd'];have hp:=qAi (h:=s.heap) { cls:=.type "dict",data:=.dict #[] } he;have ne:e≠s.heap.objs.size:=qBi (qAt he);show qBq _ _ (PySem.alloc { cls:=.type "dict",data:=.dict #[] } >>= fun d=>PySem.update e (fun o=>{ cls:=o.cls,dict:=some d,data:=o.data,slots:=o.slots }) >>= fun _=>dictMade (.ref C) e d) _ _ _;refine qAc (wpAny_alloc' (qAc (wpAny_update' hp (qAo ?_))));generalize hg:((s.heap.push { cls:=.type "dict",data:=.dict #[] }).update e fun o=>{ cls:=o.cls,dict:=some s.heap.objs.size,data:=o.data,slots:=o.slots })=h1;have d1:h1.get? s.heap.objs.size=some { cls:=.type "dict",data:=.dict #[] }:=by rw[<- hg];exact(qCl _ _ ne).trans (qBh _ rfl)
 have e1:h1.get? e=some (fC C t0 (some s.heap.objs.size)):=by rw[<- hg];exact qDg _ hp rfl
 have k1:∀b o,b≠e->s.heap.get? b=some o->h1.get? b=some o:=fun b o hb q=>by rw[<- hg];exact(qCl _ _ (Ne.symm hb)).trans (qAi _ q)
 have n1:h1.Ns s.heap.objs.size (fun _=>none):=⟨_,#[],_,d1,rfl,fun e he=>absurd he (by simp),fun _=>rfl⟩;show qBq _ _ (Builtin.ObjectAttr.storeInDict s.heap.objs.size (.str name _) name u) _ _ _;delta Builtin.ObjectAttr.storeInDict Builtin.ObjectAttr.newKeyGuard;refine qAc (qAo (qAc (wpAny_nsSet1 (Heap.Ns1.of_empty n1) fun h2 hn' hs=>?_)));obtain⟨oD,esD,epD,hoD,hdD,hcD⟩:=hn'.count (PySem.Within.cons name u PySem.Within.nil);refine qAc (wpAny_lookBehind hoD (by rw[hdD];exact pastItsLine_dict (qAk hcD (by rw[qAn,qGt,qFf];lia))) ?_);refine qAo (h s.heap.objs.size _ I.fresh ne.symm ?_);have e2:h2.get? e=some (fC C t0 (some s.heap.objs.size)):=(hs.2 e ne).trans e1;have W:=I.write (x:=e) (e:=e) (o:=ET e C s.heap.objs.size) (t':=s.toks+1+1) (h':=h2) (by rw[hH];exact True.intro) (.inl rfl) (fun b o hb q=>(hs.2 b (qBi (qAt q))).trans (k1 b o hb q)) ⟨_,e2⟩ (Ik e2);rw[gX ne.symm];refine W.yD (e:=s.heap.objs.size) (by rw[aM ne.symm];exact I.fresh) (qFd I.sz) (qNx I.lt) (fun x c q z=>?_) (fun p hp z=>?_) (I.Hm (qAl _)) ⟨_,hn',fun g=>?_⟩
 .obtain⟨v,o,ho,_⟩:=I.cell x c q;exact absurd (qAt ho) (by rw[z];exact qDp _)
 .exact absurd (qAt (I.pin p hp).1) (by rw[z];exact qDp _)
 .show jS (qEq g [(name,y)]) (if g=name then some u else none);by_cases q:g=name
  .subst q;simp only[qEq,beq_self_eq_true,if_true];exact ry
  .have hb:(g == name)=false:=beq_eq_false_iff_ne.mpr q;simp only[qEq,hb,if_neg q];exact True.intro
end
section
variable {X:Cx}{pins:List (Addr×Obj)}{σ:St}{H:Hp}{s:qAj}{k:Nat}{C Sh f:Addr}{fd:qBy}{ps:List Str}{sp:List V->Hp->VK->Prop}
theorem gF.make{k:Nat}{A:qCb}(r:gF (k+1) A)(C:Addr)(us:List qAh)(kw:List (Str×qAh)):gF k (A.under (.builtin "type.__call__" ⟨.ref C::us,kw⟩)) :=
 ⟨by have:=r.dp;rw[nT];lia,by have:=r.un;rw[nU];lia⟩
theorem Az{Q:VK}{us:List qAh}{vs:List V}(c:jU X.K C Sh f)(F:ES X.prog X.w X.K X.mg X.base k f fd ps sp)(hr:gF (k+1) X.A)(hb:Binds X.K fd ps [])(I:Inv X pins σ H s)(r:Vals vs us)(hz:vs.length<=qAg)
  (h:∀e,H e=none->X.s₀.heap.get? e=none->sp (.ref e::vs) (upd H e (Bg e C)) fun v H2=>v = .non/\Q (.ref e) H2):qBq (qBr X.prog X.w) X.A (call (.ref C) us) (EP X pins σ Q) X.xe s:=by
 have hrest:us.length<=qAg:=by rw[<- r.length];exact hz
 obtain⟨nm,qn,ns,bs,hd,sn,sub,ab,col,dd,k0,k1,k2,k3,k5,hC⟩:=c.at I.gL;have T:=c.tail I.gL;have hK:=I.gL;have FB:=qGo;have f1:=tc_lookup;have f2:=tc_bind (.ref C);have hT:s.TypeIs (.ref C) "type":=⟨_,hC,rfl⟩;have J:Inv X pins σ (upd H (s.heap.objs.size+1) (Bg (s.heap.objs.size+1) C)) { s with heap:=(s.heap.push { cls:=.type "tuple",data:=.seq us.toArray }).push (fC C s.heap.objs.size none) } :=
  I.laid (a:=s.heap.objs.size+1) (t':=s.toks) (fun b u q=>qAi _ (qAi _ q)) (qIt _) (Cz (t:=s.heap.objs.size) (qMh (by rw[qHe]) rfl))
 have hq:=h (s.heap.objs.size+1) (I.cE.fresh (qIt _)) (qFd (Nat.le_succ_of_le I.sz));have r2:Vals (V.ref (s.heap.objs.size+1)::vs) (Value.ref (s.heap.objs.size+1)::us):=.cons rfl r;have hl:(Value.ref (s.heap.objs.size+1)::us).length=ps.length:=by
  have e:=r2.length;rw[F.len _ _ _ hq] at e;exact e.symm
 have hb2:=hb { s with heap:=(s.heap.push { cls:=.type "tuple",data:=.seq us.toArray }).push (fC C s.heap.objs.size none) } (Value.ref (s.heap.objs.size+1)::us) J.gL (by rw[qBx];exact hl);rw[qBx] at hb2;have R:=F.run (X.A.under (.builtin "type.__call__" ⟨.ref C::us,[]⟩)) X.stack _ _ ⟨Value.ref (s.heap.objs.size+1)::us,[]⟩ (Value.ref (s.heap.objs.size+1)::us) _ _ (hr.make C us []) (J.BB.make C us []) hb2 r2 hq;have Lk:=qDh (M:=qBr X.prog X.w) J.gL c.it;have Lb:=qLt (M:=qBr X.prog X.w) J.gL (.ref (s.heap.objs.size+1)) c.fn;have fin:∀{u:qAh}{s':qAj},CE X.stack X.prog X.w (upd H (s.heap.objs.size+1) (Bg (s.heap.objs.size+1) C)) { s with heap:=(s.heap.push { cls:=.type "tuple",data:=.seq us.toArray }).push (fC C s.heap.objs.size none) } (fun v H2=>v = .non/\Q (.ref (s.heap.objs.size+1)) H2) u s'->u = .none/\EP X pins σ Q (.ref (s.heap.objs.size+1)) s':=fun {u s'} z=>by
  obtain⟨v,H',I3,rv,ev,q3⟩:=J.after z;subst ev;exact⟨rv,.ref (s.heap.objs.size+1),H',I3,rfl,q3⟩
 clear h hq hb hb2 r2
 obtain⟨hh,g,d,t,os⟩:=s;refine qEv (codeAny_of_tree ?_);show qBq _ _ (callAny (.ref C) _) _ _ _;repeat (any_goals (first | assumption | with_reducible refine qEu hC ?_ | wp_step))
 exists rfl;refine codeAny_call_builtin_at (Code.quiet_builtin _ #[2]) entry_typeCall (wpAny_check_type_call_sub hC ?_);repeat (first | with_reducible refine qEu hC ?_ | with_reducible refine wpAny_madeBy_exc hC ?_ | wp_step)
 refine codeAny_call_builtin_code (Code.quiet_builtin _ FB.quiet) (wpAny_check_new_subT FB T hC ?_);refine codeAny_exc_new_subT FB T hC ?_ hrest;show qBq _ _ _ _ _ _;have hC₁:=qAi (fC C hh.objs.size none) (qAi { cls:=.type "tuple",data:=.seq us.toArray } hC);have hget:((hh.push { cls:=.type "tuple",data:=.seq us.toArray }).push (fC C hh.objs.size none)).get? (hh.objs.size+1)=some (fC C hh.objs.size none):=qMh (by rw[qHe]) rfl;have hcC:(Value.ref C :: .ref Sh::sG).contains (.ref C)=true:=by simp
 delta qKb;repeat (first | with_reducible refine qEu hget ?_ | (with_reducible refine qFt hC₁ ?_;rw[hcC]) | wp_step)
 show qBq _ _ (qMp (.ref C) (.ref C)) _ _ _;refine qFt hC₁ ?_;rw[hcC];show qBq _ _ (qIx [Value.ref (hh.objs.size+1)] (callSpecial? (Value.ref (hh.objs.size+1)) (Str.ofString "__init__") us []) >>= _) _ _ _;refine qAc (qCx (PySem.W.special_fn (C:=C) (x:=hh.objs.size+1) (ox:=fC C hh.objs.size none) (od:=none) (s:=⟨(hh.push { cls:=.type "tuple",data:=.seq us.toArray }).push (fC C hh.objs.size none),g,d,t,os⟩) J.gL ⟨hget,rfl,rfl,True.intro⟩ c.it c.fn (qEv (qFg R fun r s' z=>?_))));cases r with
 | error ev=>exact False.elim z
 | ok fl =>
  cases fl with
  | ret u =>
   obtain⟨rfl,ep⟩:=fin z;exact qAo ep
  | next=>exact False.elim z
  | brk=>exact False.elim z
  | cont=>exact False.elim z
def wQ(C:Addr)(sp:List V->Hp->VK->Prop)(h0:Heap)(t:TA):TE:=fun σ H Q=>t σ H fun vs H1=>vs.length<=qAg/\∀e,H1 e=none->h0.get? e=none->sp (.ref e::vs) (upd H1 e (Bg e C)) fun v H2=>v = .non/\Q (.ref e) H2
theorem uE{x:Str}{p pos:Pos}{e:Expr}{es:List Expr}{t:TA}(c:jU X.K C Sh f)(F:ES X.prog X.w X.K X.mg X.base k f fd ps sp)(hr:gF (k+1) X.A)(hb:Binds X.K fd ps [])(hg:Gl X x)(hm:X.mg x=some (.ref C))
  (ha:PA X (e::es) t) (hdb:(x == ("__debug__":Str))=false:=by decide) (he:qBl (e::es) X.env=(false,eval e X.env)::qBl es X.env:=by rfl) (hpl:(qFc pos (qBl es X.env)).any (·.1)=false:=by rfl) :
  PE X (.Call (.Name x p) (e::es) [] pos) (wQ C sp X.s₀.heap t):=by
 intro pins s σ H Q I h;refine qDx (fK I hg hm ?_ hdb);refine qEx (h₀:=X.base) I.ok.mod.Ea c.kp (bT (ha pos pins s σ H _ I h) fun us s1 ⟨vs,H1,I1,r,z,q⟩=>⟨I1.gL,?_⟩) he hpl;exact Az c F hr hb I1 r z q
end
theorem p4:entryFor table "proto.unchain"=some Builtin.«proto.unchain»:=entryFor_of_tree (by kernel_rfl)
abbrev EW(C t d e0:Addr):Obj:={ cls:=.ref C,dict:=some d,data:=.fields #[.ref t,.none,.ref e0,.none,.bool true,.none] }
section
variable {prog:qBe}{w:qCj}{A:qCb}{E:qAh->qAj->Prop}{s:qAj}{env:Env}{K:qAb}{C Sh f e0:Addr}
theorem wU{x:Sem qAh}{Q:Flow->qAj->Prop}{pos:Pos}(hh:A.handled=some (.ref e0))(c:jU K C Sh f)
  (h:qBq (qBr prog w) A x (fun v s₁=>∃e t d,v = .ref e/\K.In s₁.heap/\s₁.heap.get? e=some (fC C t (some d))/\e≠e0/\CN s₁.heap e0 /\
   ∀h',h'.get? e=some (EW C t d e0)->(∀b,b≠e->h'.get? b=s₁.heap.get? b)->E (.ref e) { s₁ with heap:=h' }) E s) :
  qBq (qBr prog w) A (qJr env (some x) (some (do let v <- (pure Value.none:Sem qAh);qIf pos;pure v))) Q E s:=by
 have hcB:(Value.ref C :: .ref Sh::sG).contains (.type "BaseException")=true:=by simp
 delta qJr;refine qAc (qCm h (fun v s₁ h₁=>?_) fun _ _ x=>x);obtain⟨e,t,d,rfl,X,he,ne,cn,hE⟩:=h₁;obtain⟨nm,qn,ns,bs,hd,sn,sub,ab,col,dd,k0,k1,k2,k3,k5,hC⟩:=c.at X;obtain⟨hp,g,dr,tk,os⟩:=s₁;repeat (first | with_reducible refine qEu he ?_ | with_reducible refine qEu hC ?_ | (with_reducible refine qFt hC ?_;rw[hcB]) | wp_step)
 generalize hg:((hp.update e (Obj.mapFields fun x=>x.setIfInBounds 3 Value.none)).update e (Obj.mapFields fun x=>x.setIfInBounds 4 (Value.bool true)))=h1;have eC:C≠e:=fun z=>by
  rw[z] at hC;have:=(show hp.get? e=some _ from he).symm.trans hC;cases this
 have o1:∀b,b≠e->h1.get? b=hp.get? b:=fun b hb=>by rw[<- hg,qCl _ _ (Ne.symm hb),qCl _ _ (Ne.symm hb)]
 have e1:h1.get? e=some { cls:=.ref C,dict:=some d,data:=.fields #[.ref t,.none,.none,.none,.bool true,.none] }:=by
  rw[<- hg];exact qDg _ (qDg _ he rfl) rfl
 clear hg
 refine qHt ((o1 C eC).trans hC) (qAo ?_);refine qAo ?_;delta setFlight;refine qAc (qAc (qFu e1 rfl rfl (qAo ?_)));obtain⟨oe,ho,hx⟩:=cn;have o0:h1.get? e0=some oe:=(o1 e0 ne.symm).trans ho;obtain⟨vs,hv,h2⟩:∃vs,oe.data = .fields vs/\vs[2]?=some Value.none:=by
  delta pR at hx;split at hx
  .rename_i vs hv;exact⟨vs,hv,hx⟩
  .cases hx
 have nb:((Value.ref e0 != Value.ref e)=true):=by
  simp only[bne_iff_ne,ne_eq,Value.ref.injEq];exact fun z=>ne z.symm
 delta raiseNew;refine qAc (wpAny_handled ?_);rw[hh];dsimp only;rw[if_pos nb];refine qAc (qCx (wpAny_runValue (codeAny_builtin p4 ?_)));delta Builtin.«proto.unchain»;refine qAc (qFu o0 hv h2 ?_);rw[if_pos (by rfl)];refine qAo ?_;have e2:=qDg (Obj.mapFields fun x=>x.setIfInBounds 2 (Value.ref e0)) e1 rfl;refine qAc (wpAny_setField (x:=.ref e0) e1 rfl (by simp) (wpAny_throw (hE _ e2 fun b hb=>?_)));exact(qCl _ _ (Ne.symm hb)).trans (o1 b hb)
end
def gO(h:Heap)(e d:Addr):Prop:=∃oe,h.get? e=some oe/\oe.dict=some d
theorem gO.dk{h h':Heap}{e d:Addr}(x:gO h e d)(k:DK h h'):gO h' e d:=by
 obtain⟨oe,he,hc⟩:=x;obtain⟨o',h1,h2,_⟩:=k e oe he;exact⟨o',h1,h2.trans hc⟩
def AA(P:qBe)(w:qCj):vE:=fun outer H s E ev s'=>∃(e C d:Addr) (H':Hp),ev = .ref e/\gT P w outer H s e C H' s'/\gO s'.heap e d/\E (.ref C) (some d) H'
section
variable {X:Cx}{pins:List (Addr×Obj)}{σ:St}{H:Hp}{s:qAj}{e C t d e0:Addr}{Q:Unit->qAj->Prop}{E:qAh->qAj->Prop}{M:qLo}
theorem sQ{h':Heap}(O:Own X)(I:Inv X pins σ H s)(hn:H e=none)(h0:X.s₀.heap.get? e=none)(hs:s.heap.get? e=some (fC C t (some d)))(he:h'.get? e=some (EW C t d e0))(ho:∀b,b≠e->h'.get? b=s.heap.get? b)
  (k:∀h'',gT X.prog X.w X.outer X.H₀ X.s₀ e C H { s with heap:=h'' }->gO h'' e d->Q () { s with heap:=h'' }):qBq M X.A (leaving X.env (.ref e)) Q E { s with heap:=h' }:=by
 have hst:=I.stack;have hfr:=I.ok.frames;have nst:e∉gD X.stack:=fun z=>by
  obtain⟨_,o,h1,h2⟩:=I.stack.mem z;rw[hs] at h1;cases h1;exact h2 _ rfl
 have hin:∀env∈X.stack,∀b,env.frame=some b->b∈e::gD X.stack:=fun env he b hb=>qAq _ (List.mem_filterMap.mpr ⟨env,he,hb⟩);have get:∀{b:Addr}{o:Obj},s.heap.get? b=some o->b≠e->b∉gD X.stack->(qCf s.heap (e::gD X.stack)).get? b=some o:=fun q h1 h2=>qDz _ q fun z=>(List.mem_cons.mp z).elim h1 h2;have ff:=yQ (qHj hst hin) fun b hb o q=>⟨o.slots,(ho b fun z=>nst (z▸hb)).trans q⟩;have hkb:(qCf s.heap (e::gD X.stack)).StaysIn h':=fun b o q=>by
  have hb:b≠e:=fun z=>by rw[z,qEg _ qAr] at q;cases q
  exact(ho b hb).trans (qEw _ q)
 have hen:(qCf s.heap (e::gD X.stack)).get? e=none:=qEg _ qAr;rw[O.st] at hfr;generalize hB:qCf s.heap (e::gD X.stack)=B at get ff hkb hen;rw[O.st] at ff;refine qCm ((KD.leaving (.ref e) _).any (wpAny_leaving_firstW (M:=M) (E:=fun _ _=>False) (Q:=fun _ s2=>∃g,s2={ s with heap:=g }/\qOc B (X.env::X.outer) e (.ref C) (.ref t) h' g) (s:={ s with heap:=h' }) (a0:=.ref t) hfr ff O.fr he hkb hen rfl rfl rfl fun g hL=>⟨g,rfl,hL⟩)) (fun _ s2 z9=>?_) fun _ _ z=>z.1.elim;obtain⟨⟨g,e2,hL⟩,dk⟩:=z9;subst e2;obtain⟨k1,⟨_,_,k2⟩,k3,k4⟩:=hL;refine k g ⟨I.os,I.bare,⟨_,_,⟨k1,hen,k2,k3⟩,fun a o q=>?_,fun b o q hb=>?_,fun b o q n hb=>?_⟩,fun b o q n hb=>?_,fun b o q n=>I.base.free b o q n (O.lG b),I.base.dU,I.base.gB,I.base.gJ⟩ (gO.dk ⟨_,he,rfl⟩ dk)
 .refine(I.cE a o q).iY (fun b u hb z=>get z (fun hm=>?_) fun hm=>?_) (fun _ z=>z) fun _ _ z=>z
  .rcases hb with rfl | hb
   .rw[hm,hn] at q;cases q
   .rw[hm,hn] at hb;cases hb
  .have hx:=I.jG b hm;rcases hb with rfl | hb
   .rw[hx] at q;cases q
   .rw[hx] at hb;cases hb
 .obtain⟨o',z⟩:=I.base.there b o q (O.lG b);exact⟨o',get z (fun y=>by rw[y,h0] at q;cases q) (O.not I q hb)⟩
 .exact get (I.base.keep b o q n hb (O.lG b)) (fun y=>by rw[y,h0] at q;cases q) (O.not I q hb)
 .obtain⟨sl,z⟩:=I.base.slot b o q n hb (O.lG b);obtain⟨_,o',ho',hnf⟩:=I.ok.gK.mem hb;rw[q] at ho';cases ho';have hbe:b≠e:=fun y=>by rw[y,h0] at q;cases q
  obtain⟨sl',z'⟩:=k4 b _ ((ho b hbe).trans z) hnf;exact⟨sl',z'⟩
end
structure Mj (X:Cx) (Ex:qAh->Addr->St->Hp->Prop):Prop where
 nw:∀(pins:List (Addr×Obj)) (σ:St) (H:Hp) (s:qAj) (e C t d e0:Addr) (h':Heap),Inv X pins σ H s->H e=none->X.s₀.heap.get? e=none->s.heap.get? e=some (fC C t (some d))->h'.get? e=some (EW C t d e0) ->
  (∀b,b≠e->h'.get? b=s.heap.get? b)->Ex (.ref C) d σ H->X.xe (.ref e) { s with heap:=h' }
 own:qMr (qBr X.prog X.w) X.A X.env X.xe
 QD:∀hd,PassesOwnAt (qBr X.prog X.w) (X.A.mark hd) X.A X.env X.xe
theorem jM{P:qBe}{w:qCj}{K:qAb}{mg:Str->Option qAh}{base:Heap}{N:List Str}{qual:Str}{scope:qHb}{f:Addr}{cd:qAh}{A:qCb}{outer:List Env}{s:qAj}{H:Hp}{E:XK}:
  Mj (iD (AA P w) P w K mg base N qual scope f cd A outer s H E) (fun c d _ H'=>E c (some d) H') where
 nw:=fun pins σ H1 s1 e C t d e0 h' I hn h0 hs he ho q=>sQ ⟨rfl,rfl,rfl⟩ I hn h0 hs he ho fun h'' F dc=>⟨e,C,d,H1,rfl,F,dc,q⟩
 own:=PassesOwn.leaving
 QD:=fun hd=>PassesOwnAt.leaving
def wW(e:Addr):HO:=.ext fun h=>CN h e
theorem EX{P:qBe}{w:qCj}{H:Hp}{h:Heap}{e:Addr}(cn:CN h e):cM P w H h e (wW e) :=
 ⟨cn,let ⟨o,ho,_⟩:=cn;⟨o,ho⟩,fun h1 h2 ⟨o,z,c⟩ k=>⟨o,k o z,c⟩⟩
def sR(X:Cx)(e:Addr)(Z:qAh->qAj->Prop):Cx:={ vW X e with xe:=Z }
section
variable {X:Cx}{pins:List (Addr×Obj)}{σ:St}{H:Hp}{s:qAj}{e e0 C d:Addr}{Z:qAh->qAj->Prop}
theorem Inv.sR(I:Inv X pins σ H s)(e:Addr)(Z:qAh->qAj->Prop):Inv (L2.sR X e Z) pins σ H s:=by
 obtain⟨⟨o1,o2,o3,o4,o5,o6,o7,o8,o9,o10,o11,o12,o13,o14,o15,o16,o17,o18⟩,i2,i3,i4,i5,i6,i7,i8,i9,i10,i11⟩:=I;exact⟨⟨o1,o2,o3,o4,o5,o6,o7,o8,fun z=>(qAm z).elim,o10,o11,o12,o13,o14,o15,o16,o17,o18⟩,i2,i3,i4,i5,i6,i7,i8,i9,i10,i11⟩
theorem Inv.oM(hd:X.calm=true->X.A.handled=none)(I:Inv (L2.sR X e Z) pins σ H s):Inv X pins σ H s:=by
 obtain⟨⟨o1,o2,o3,o4,o5,o6,o7,o8,o9,o10,o11,o12,o13,o14,o15,o16,o17,o18⟩,i2,i3,i4,i5,i6,i7,i8,i9,i10,i11⟩:=I;exact⟨⟨o1,o2,o3,o4,o5,o6,o7,o8,hd,o10,o11,o12,o13,o14,o15,o16,o17,o18⟩,i2,i3,i4,i5,i6,i7,i8,i9,i10,i11⟩
theorem Inv.forget{φ:Heap->Prop}(I:Inv X pins σ (upd H e (.ext φ)) s)(hn:H e=none):Inv X pins σ H s:=by
 have up:∀b,b≠e->upd H e (.ext φ) b=H b:=fun b hb=>aM hb;have no:∀b,upd H e (.ext φ) b=none->H b=none:=fun b q=>by
  by_cases hb:b=e
  .rw[hb];exact hn
  .rw[<- up b hb];exact q
 have so:∀b u,upd H e (.ext φ) b=some u->(∀ψ,u≠.ext ψ)->H b=some u:=fun b u q n=>by
  by_cases hb:b=e
  .rw[hb,aB] at q;exact absurd (Option.some.inj q).symm (n φ)
  .rw[<- up b hb];exact q
 refine⟨I.ok,I.os,I.bare,⟨I.base.keep,I.base.slot,fun b o q n hx=>no b (I.base.free b o q n hx),I.base.there,fun b xs q=>so b _ (I.base.dU b xs q) (fun ψ z=>by cases z),fun b o u q=>so b _ (I.base.gB b o u q) (fun ψ z=>by cases z),fun b ps q=>?_⟩,I.loc,I.cell,no _ I.free,fun x c q=>no c (I.gE x c q),fun p hp=>?_,fun b u q=>?_,I.len⟩
 .obtain⟨m,z⟩:=I.base.gJ b ps q;exact⟨m,so b _ z fun ψ z=>by cases z⟩
 .obtain⟨z1,z2,z3⟩:=I.pin p hp;exact⟨z1,no _ z2,z3⟩
 .have hb:b≠e:=fun z=>by rw[z,hn] at q;cases q
  exact(I.cE b u ((up b hb).trans q)).iY (fun c v _ z=>z) (fun c z=>so c _ z fun ψ y=>by cases y) fun c xs z=>so c _ z fun ψ y=>by cases y
end
def yR(C e0:Addr)(sp:List V->Hp->VK->Prop)(h0:Heap)(t:TA)(Ey:qAh->Addr->St->Hp->Prop):TS:=fun _ σ H=>wQ C sp h0 t σ H fun x H2=>∃e d H3,x = .ref e/\h0.get? e=none/\H2=upd H3 e (ET e C d)/\H3 e=none/\H3 e0=some (wW e0)/\Ey (.ref C) d σ H3
section
variable {X:Cx}{k:Nat}{C Sh f e0:Addr}{fd:qBy}{ps:List Str}{sp:List V->Hp->VK->Prop}{Z:qAh->qAj->Prop}{Ey:qAh->Addr->St->Hp->Prop}
theorem AB{x:Str}{p cpos pos:Pos}{e ce:Expr}{es:List Expr}{t:TA}(c:jU X.K C Sh f)(F:ES X.prog X.w X.K X.mg X.base k f fd ps sp)(hr:gF (k+1) X.A)(hb:Binds X.K fd ps [])(hg:Gl X x)(hm:X.mg x=some (.ref C))
  (ha:PA (sR X e0 Z) (e::es) t) (hd:X.calm=true->X.A.handled=none)
  (hZ:∀(pins:List (Addr×Obj)) (σ:St) (H:Hp) (s:qAj) (e t d:Addr) (h':Heap),Inv X pins σ H s->H e=none->X.s₀.heap.get? e=none->s.heap.get? e=some (fC C t (some d))->h'.get? e=some (EW C t d e0) ->
   (∀b,b≠e->h'.get? b=s.heap.get? b)->Ey (.ref C) d σ H->Z (.ref e) { s with heap:=h' })
  (hce:eval ce X.env=pure Value.none:=by rfl) (hdb:(x == ("__debug__":Str))=false:=by decide) (he:qBl (e::es) X.env=(false,eval e X.env)::qBl es X.env:=by rfl) (hpl:(qFc cpos (qBl es X.env)).any (·.1)=false:=by rfl) :
  PS (sR X e0 Z) (.Raise (some (.Call (.Name x p) (e::es) [] cpos)) (some ce) pos) (yR C e0 sp X.s₀.heap t Ey):=by
 intro pins s σ H D I h;have P:=uE (X:=sR X e0 Z) (x:=x) (p:=p) (pos:=cpos) c F (hr.mark _) hb hg hm ha hdb he hpl pins s σ H _ I h;rw[arm_exec_Raise];refine qAc (qEz ?_);show qBq _ _ (qJr _ (some (do let v <- eval (.Call (.Name x p) (e::es) [] cpos) X.env;qIf pos;pure v)) (some (do let v <- eval ce X.env;qIf pos;pure v))) _ _ _;rw[hce];refine wU (A:=(sR X e0 Z).A) (e0:=e0) rfl c (qAc (bT P fun u s1 ⟨v,H2,I2,ru,a,d,H3,ev,h0,e2,hn,h3,q⟩=>qAc (qEz (qAo ?_))));subst ev e2;obtain rfl:u=Value.ref a:=ru;have ne:a≠e0:=fun z=>by rw[z,h3] at hn;cases hn
 obtain⟨t1,h1⟩:=(show ∃t,s1.heap.get? a=some (fC C t (some d)) from(I2.cE a _ aB).1);have cn:CN s1.heap e0:=(I2.cE e0 (wW e0) (by rw[aM ne.symm];exact h3)).1;exact⟨a,t1,d,rfl,I2.gL,h1,ne,cn,fun h' x1 x2=>hZ pins σ H3 s1 a t1 d h' ((I2.oM hd).forget hn) hn h0 h1 x1 x2 q⟩
end
def Ml(tb:XS->TS)(K:qAb)(S:Addr)(th:Addr->TS):TS:=fun D σ H =>
 tb (fun c σ' H'=>∃C,c = .ref C/\qBm K C (.ref S)=some true/\∀e0,H' e0=none->th e0 D σ' (upd H' e0 (wW e0))) D σ H
theorem EY{X:Cx}{body suite:List Stmt}{b₀:Stmt}{x:Str}{S:Addr}{np hpos pos:Pos}{tb:XS->TS}{th:Addr->TS}(O:Own X)(hc:X.calm=true)(hb:∀pins Ex,lI (BN X pins Ex) body (tb Ex))(hg:Gl X x)(hm:X.mg x=some (.ref S))(cS:dM X.K S)
  (hmk:∀hd,PassesOwnAt (qBr X.prog X.w) (X.A.mark hd) X.A X.env X.xe)
  (hh:∀e,lI (sR X e X.xe) (b₀::suite) (th e)) (hd:(x == ("__debug__":Str))=false:=by decide) :
  PS X (.Try body [.ExceptHandler (some (.Name x np)) none (b₀::suite) hpos] [] [] pos) (Ml tb X.K S th):=by
 intro pins s σ H D I h;refine wpAny_Try_except (qCm (hb pins _ [] s σ H D (I.LV _) h) (fun f s1 q=>?_) fun ev s1 q=>?_)
 .cases f with
  | next=>obtain⟨σ1,H1,I1,q1⟩:=q;exact qGc ⟨σ1,H1,I1.nZ,q1⟩
  | brk=>obtain⟨σ1,H1,I1,q1⟩:=q;exact⟨σ1,H1,I1.nZ,q1⟩
  | cont=>obtain⟨σ1,H1,I1,q1⟩:=q;exact⟨σ1,H1,I1.nZ,q1⟩
  | ret u=>obtain⟨v1,σ1,H1,I1,r1,q1⟩:=q;exact⟨v1,σ1,H1,I1.nZ,r1,q1⟩
 .obtain⟨e,C,σ1,H1,s2,H2,rfl,I2,F,cn,C',ec,hs,k⟩:=q;cases ec;have hfr:=I2.ok.frames;obtain⟨a0,B,fl,go⟩:=F.more;have st:=O.st;rw[st] at hfr;have fl':qDk B (X.env::X.outer) e (.ref C) a0 s1.heap:=st▸fl;have G:=fun g=>go g;rw[st] at G;refine qCm ((KD.note (.ref e) _).any (wpAny_looks_onW (M:=qBr X.prog X.w) (E:=fun _ _=>False) (Q:=fun _ t=>∃g,t={ s1 with heap:=g }/\qMi B (X.env::X.outer) e (.ref C) a0 X.env.locals g/\s1.heap.UpToSlots g) hfr O.fr fl' fun g a b=>⟨g,rfl,a,b⟩)) (fun _ t1 z9=>?_) fun _ _ z=>z.1.elim;obtain⟨⟨h1,et,held1,up1⟩,dk1⟩:=z9;subst et;refine qCm ((KD.setFlight (.ref e) none).any (wpAny_landsW (s:={ s1 with heap:=h1 }) (M:=qBr X.prog X.w) (E:=fun _ _=>False) (Q:=fun _ t=>∃g,t={ s1 with heap:=g }/\qDk B (X.env::X.outer) e (.ref C) a0 g/\h1.UpToSlots g) held1 fun g a b=>⟨g,rfl,a,b⟩)) (fun _ t2 z9=>?_) fun _ _ z=>z.1.elim;obtain⟨⟨h2,et,fl2,up2⟩,dk2⟩:=z9;subst et;have F2:gT X.prog X.w X.stack H1 s2 e C H2 { s1 with heap:=h2 }:=go h2 (st.symm▸fl2) (up1.trans up2);have I3:=F2.inv I2;have I3h:=I3.Pp e;obtain⟨oe,vs,he,hec,_⟩:=F2.obj;refine wpAny_handleBy_cons (codeAny_handlers_test (fK (X:=vW X e) I3h hg hm ?_ hd)) (by intro q;cases q);refine mL (K:=X.K) I3.gL cS he hec hs ?_;refine codeAny_handlers_suite ?_;refine qCm ((KD.setFlight (.ref e) none).any (lands_againW (s:={ s1 with heap:=h2 }) (M:=qBr X.prog X.w) (E:=fun _ _=>False) (Q:=fun _ t=>∃g,t={ s1 with heap:=g }/\qDk B (X.env::X.outer) e (.ref C) a0 g/\h2.UpToSlots g) fl2 fun g a b=>⟨g,rfl,a,b⟩)) (fun _ t3 z9=>?_) fun _ _ z=>z.1.elim;obtain⟨⟨h3,et,fl3,up3⟩,dk3⟩:=z9;subst et;have F3:gT X.prog X.w X.stack H1 s2 e C H2 { s1 with heap:=h3 }:=go h3 (st.symm▸fl3) ((up1.trans up2).trans up3);have I4:=F3.inv I2;have nw:=F3.new;have hn:=F3.qM;have cn3:CN h3 e:=((cn.dk dk1).dk dk2).dk dk3;have I5:Inv X pins σ1 (upd H2 e (wW e)) { s1 with heap:=h3 }:=by
   refine I4.yD hn ?_ ?_ (fun y c q z=>?_) (fun p hp z=>?_) (fun z=>?_) (EX cn3)
   .cases q:X.s₀.heap.get? e with
    | none=>rfl
    | some o =>
     obtain⟨o',z⟩:=I2.base.there e o q (O.lG e);rw[nw] at z;cases z
   .rintro rfl;obtain⟨m,⟨o,_,_,ho,_⟩,_⟩:=I2.loc;rw[nw] at ho;cases ho
   .subst z;obtain⟨v,o,ho,_⟩:=I2.cell y c q;rw[nw] at ho;cases ho
   .have ho:=(I2.pin p hp).1;rw[z,nw] at ho;cases ho
   .obtain⟨_,o,ho,_⟩:=I2.gK.mem z;rw[nw] at ho;cases ho
  refine qCm (hh e pins { s1 with heap:=h3 } _ _ _ (I5.sR e X.xe) (k e hn)) (fun f s5 q5=>?_) fun ev s5 q5=>hmk _ ev s5 q5;have hdl:X.calm=true->X.A.handled=none:=I2.ok.hd;cases f with
  | next=>obtain⟨σ5,H5,I7,q7⟩:=q5;exact⟨_,H5,I7.oM hdl,q7⟩
  | brk=>obtain⟨σ5,H5,I7,q7⟩:=q5;exact⟨_,H5,I7.oM hdl,q7⟩
  | cont=>obtain⟨σ5,H5,I7,q7⟩:=q5;exact⟨_,H5,I7.oM hdl,q7⟩
  | ret u=>obtain⟨v5,σ5,H5,I7,r7,q7⟩:=q5;exact⟨v5,_,H5,I7.oM hdl,r7,q7⟩
def nA(e C d:Addr):HO:=.ext fun h=>∃oe,h.get? e=some oe/\oe.cls = .ref C/\oe.dict=some d/\qHw oe=true
section
variable {P:qBe}{w:qCj}{K:qAb}{mg:Str->Option qAh}{base:Heap}
theorem BI.PB{x qual:Str}{st:Stmt}{f:Addr}{fd:qBy}{N ps:List Str}{k:Nat}{sp:Sp}(F:BI K x qual st f fd)(S:aN N ps (aF st))(len:∀vs H Q E,sp vs H Q E->vs.length=ps.length)
  (hbody:∀(cdv:qAh) (A:qCb) (outer:List Env) (s:qAj) (H:Hp) (vs:List V) (Q:VK) (E:XK),cY k (A.deeper (qGf qual (aF st) s.heap.objs.size f cdv))->sp vs H Q E ->
   ∃t,lI (iD (AA P w) P w K mg base N qual (aF st) f cdv A outer s H E) (bG st) t/\t { nx:=fun _ H'=>Q .non H',rt:=Q } (start N vs) H):gM P w K mg base (AA P w) (k+1) f fd ps sp:=by
 obtain⟨oc,od,kV,doc,pm,an,cdv,ct,osl,rfl,lk,hcd⟩:=F.ex;exact BC lk hcd S len fun A outer s H vs Q E hr hsp=>hbody cdv A outer s H vs Q E hr hsp
theorem Tx.QE{x:Str}{st:Stmt}{ps N:List Str}{f:Addr}{fd:qBy}{k:Nat}{sp:Sp}(t:Tx K mg x st ps f fd)(S:aN N ps (aF st))(len:∀vs H Q E,sp vs H Q E->vs.length=ps.length)
  (hbody:∀(cdv:qAh) (A:qCb) (outer:List Env) (s:qAj) (H:Hp) (vs:List V) (Q:VK) (E:XK),cY k (A.deeper (qGf x (aF st) s.heap.objs.size f cdv))->sp vs H Q E ->
   ∃t,lI (iD (AA P w) P w K mg base N x (aF st) f cdv A outer s H E) (bG st) t/\t { nx:=fun _ H'=>Q .non H',rt:=Q } (start N vs) H):Df P w K mg base (AA P w) (k+1) x ps sp f fd :=
 ⟨t.at_,t.fn.kp,t.fn.PB S len hbody,.all t.bd⟩
end
abbrev XD:=qAh->Addr->St->Hp->Prop
structure yS (X:Cx) (Ex:XD):Prop where
 on:∀(pins:List (Addr×Obj)) (σ:St) (H:Hp) (s:qAj) (e C d:Addr) (H':Hp) (s':qAj),Inv X pins σ H s->gT X.prog X.w X.stack H s e C H' s'->gO s'.heap e d->Ex (.ref C) d σ H'->X.xe (.ref e) s'
def tryD(X:Cx)(pins:List (Addr×Obj))(Ex:XD):Cx :=
 { X with pn:=X.pn++pins,xe:=fun ev s'=>∃e C d σ H s H',ev=Value.ref e/\Inv X pins σ H s/\gT X.prog X.w X.stack H s e C H' s'/\gO s'.heap e d/\Ex (.ref C) d σ H' }
def CB(sp:Sp)(Ex:XD)(t:TA):TE:=fun σ H Q=>t σ H fun vs H1=>sp vs H1 Q fun c o H'=>∃d,o=some d/\Ex c d σ H'
section
variable {X:Cx}{pins:List (Addr×Obj)}{σ:St}{H H':Hp}{s s':qAj}{e C d:Addr}{Ex:XD}
theorem Inv.Il(I:Inv X pins σ H s)(Ex:XD):Inv (tryD X pins Ex) [] σ H s:=by
 obtain⟨⟨o1,o2,o3,o4,o5,o6,o7,o8,o9,o10,o11,o12,o13,o14,o15,o16,o17,o18⟩,i2,i3,i4,i5,i6,i7,i8,i9,i10,i11⟩:=I;exact⟨⟨o1,o2,o3,o4,o5,o6,o7,o8,o9,o10,o11,o12,o13,o14,o15,o16,o17,o18⟩,i2,i3,i4,i5,i6,i7,i8,fun p hp=>i9 p (by simpa [tryD] using hp),i10,i11⟩
theorem Inv.kU{pins2:List (Addr×Obj)}(I:Inv (tryD X pins Ex) pins2 σ H s):Inv X pins σ H s:=by
 obtain⟨⟨o1,o2,o3,o4,o5,o6,o7,o8,o9,o10,o11,o12,o13,o14,o15,o16,o17,o18⟩,i2,i3,i4,i5,i6,i7,i8,i9,i10,i11⟩:=I;exact⟨⟨o1,o2,o3,o4,o5,o6,o7,o8,o9,o10,o11,o12,o13,o14,o15,o16,o17,o18⟩,i2,i3,i4,i5,i6,i7,i8,fun p hp=>i9 p (qDw _ hp),i10,i11⟩
theorem AD:yS (tryD X pins Ex) Ex where
 on:=fun pins2 σ H s e C d H' s' I F dc q=>⟨e,C,d,σ,H,s,H',rfl,I.kU,F,dc,q⟩
theorem CD{k j:Nat}{f:Addr}{fd:qBy}{ps:List Str}{sp:Sp}{x:Str}{p pos:Pos}{e:Expr}{es:List Expr}{t:TA}(R:yS X Ex)(D:Df X.prog X.w X.K X.mg X.base (AA X.prog X.w) k x ps sp f fd)(hr:cY j X.A)(hj:k<=j)(hg:Gl X x)(ha:PA X (e::es) t)(hdb:(x == ("__debug__":Str))=false:=by decide)(he:qBl (e::es) X.env=(false,eval e X.env)::qBl es X.env:=by rfl)(hpl:(qFc pos (qBl es X.env)).any (·.1)=false:=by rfl):
  PE X (.Call (.Name x p) (e::es) [] pos) (CB sp Ex t):=by
 intro pins s σ H Q I h;refine qDx (fK I hg D.at_ ?_ hdb);refine qEx (h₀:=X.base) I.ok.mod.Ea D.kp (bT (ha pos pins s σ H _ I h) fun us s1 ⟨vs,H1,I1,r,q⟩=>⟨I1.gL,?_⟩) he hpl;have hl:us.length=ps.length:=by rw[<- r.length];exact D.ok.len _ _ _ _ q
 have hb:=D.bd s1 us I1.gL (by rw[qBx];exact hl);rw[qBx] at hb;refine qEv (qFg (D.ok.run X.A X.stack s1 H1 ⟨us,[]⟩ us vs Q _ (hr.mono hj) I1.BB hb r q) fun r s' hq=>?_);cases r with
 | error ev =>
  obtain⟨e,C,d,H',rfl,Fl,dc,d2,ed,q⟩:=hq;cases ed;exact R.on pins σ H1 s1 e C d H' s' I1 Fl dc q
 | ok fl =>
  cases fl with
  | ret u=>exact I1.after hq
  | next=>exact False.elim hq
  | brk=>exact False.elim hq
  | cont=>exact False.elim hq
end
def Mm(tb:XD->TS)(K:qAb)(S:Addr)(i:Nat)(th:TS):TS:=fun D σ H =>
 tb (fun c d σ' H'=>∃C,c = .ref C/\qBm K C (.ref S)=some true/\∀e,H' e=none ->
  th { nx:=fun σ2 H2=>D.nx (σ2.set i none) H2,rt:=D.rt,bk:=fun σ2 H2=>D.bk (σ2.set i none) H2,ct:=fun σ2 H2=>D.ct (σ2.set i none) H2 } (σ'.set i (some (.ref e))) (upd H' e (nA e C d))) D σ H
theorem EZ{X:Cx}{body suite:List Stmt}{b₀:Stmt}{x n:Str}{S:Addr}{i:Nat}{np hpos pos:Pos}{tb:XD->TS}{th:TS}(O:Own X)(hc:X.calm=true)(hb:∀pins Ex,lI (tryD X pins Ex) body (tb Ex))(hg:Gl X x)(hm:X.mg x=some (.ref S))(cS:dM X.K S)
  (hN:X.N.Nodup) (hi:X.N[i]?=some n) (hl:X.env.scope.names.lookup n=some .local) (hh:∀e,lI (vW X e) (b₀::suite) th) (hd:(x == ("__debug__":Str))=false:=by decide) :
  PS X (.Try body [.ExceptHandler (some (.Name x np)) (some n) (b₀::suite) hpos] [] [] pos) (Mm tb X.K S i th):=by
 intro pins s σ H D I h;refine wpAny_Try_except (qCm (hb pins _ [] s σ H D (I.Il _) h) (fun f s1 q=>?_) fun ev s1 q=>?_)
 .cases f with
  | next=>obtain⟨σ1,H1,I1,q1⟩:=q;exact qGc ⟨σ1,H1,I1.kU,q1⟩
  | brk=>obtain⟨σ1,H1,I1,q1⟩:=q;exact⟨σ1,H1,I1.kU,q1⟩
  | cont=>obtain⟨σ1,H1,I1,q1⟩:=q;exact⟨σ1,H1,I1.kU,q1⟩
  | ret u=>obtain⟨v1,σ1,H1,I1,r1,q1⟩:=q;exact⟨v1,σ1,H1,I1.kU,r1,q1⟩
 .obtain⟨e,C,dx,σ1,H1,s2,H2,rfl,I2,F,cn,C',ec,hs,k⟩:=q;cases ec;have hfr:=I2.ok.frames;obtain⟨a0,B,fl,go⟩:=F.more;have st:=O.st;rw[st] at hfr;have fl':qDk B (X.env::X.outer) e (.ref C) a0 s1.heap:=st▸fl;refine qCm ((KD.note (.ref e) _).any (wpAny_looks_onW (M:=qBr X.prog X.w) (E:=fun _ _=>False) (Q:=fun _ t=>∃g,t={ s1 with heap:=g }/\qMi B (X.env::X.outer) e (.ref C) a0 X.env.locals g/\s1.heap.UpToSlots g) hfr O.fr fl' fun g a b=>⟨g,rfl,a,b⟩)) (fun _ t1 z9=>?_) fun _ _ z=>z.1.elim;obtain⟨⟨h1,et,held1,up1⟩,dk1⟩:=z9;subst et;refine qCm ((KD.setFlight (.ref e) none).any (wpAny_landsW (s:={ s1 with heap:=h1 }) (M:=qBr X.prog X.w) (E:=fun _ _=>False) (Q:=fun _ t=>∃g,t={ s1 with heap:=g }/\qDk B (X.env::X.outer) e (.ref C) a0 g/\h1.UpToSlots g) held1 fun g a b=>⟨g,rfl,a,b⟩)) (fun _ t2 z9=>?_) fun _ _ z=>z.1.elim;obtain⟨⟨h2,et,fl2,up2⟩,dk2⟩:=z9;subst et;have F2:gT X.prog X.w X.stack H1 s2 e C H2 { s1 with heap:=h2 }:=go h2 (st.symm▸fl2) (up1.trans up2);have I3:=F2.inv I2;have I3h:=I3.Pp e;obtain⟨oe,vs,he,hec,_⟩:=F2.obj;refine wpAny_handleBy_cons (codeAny_handlers_test (fK (X:=vW X e) I3h hg hm ?_ hd)) (by intro q;cases q);refine mL (K:=X.K) I3.gL cS he hec hs ?_;refine codeAny_handlers_suite_as ?_;refine qCm ((KD.setFlight (.ref e) none).any (lands_againW (s:={ s1 with heap:=h2 }) (M:=qBr X.prog X.w) (E:=fun _ _=>False) (Q:=fun _ t=>∃g,t={ s1 with heap:=g }/\qDk B (X.env::X.outer) e (.ref C) a0 g/\h2.UpToSlots g) fl2 fun g a b=>⟨g,rfl,a,b⟩)) (fun _ t3 z9=>?_) fun _ _ z=>z.1.elim;obtain⟨⟨h3,et,fl3,up3⟩,dk3⟩:=z9;subst et;have F3:gT X.prog X.w X.stack H1 s2 e C H2 { s1 with heap:=h3 }:=go h3 (st.symm▸fl3) ((up1.trans up2).trans up3);have I4:=F3.inv I2;have nw:=F3.new;have hn:=F3.qM;obtain⟨oe3,vs3,he3,hec3,hda3⟩:=F3.obj;obtain⟨od,hod,hdd⟩:=((cn.dk dk1).dk dk2).dk dk3;obtain rfl:od=oe3:=Option.some.inj (hod.symm.trans he3);have nc:qHw od=true:=by
   delta qHw;rw[hda3]
  have I5:Inv X pins σ1 (upd H2 e (nA e C dx)) { s1 with heap:=h3 }:=by
   refine I4.yD hn ?_ ?_ (fun y c q z=>?_) (fun p hp z=>?_) (fun z=>?_) ⟨⟨od,he3,hec3,hdd,nc⟩,⟨od,he3⟩,fun g1 g2 q1 q2=>?_⟩
   .cases q:X.s₀.heap.get? e with
    | none=>rfl
    | some o =>
     obtain⟨o',z⟩:=I2.base.there e o q (O.lG e);rw[nw] at z;cases z
   .rintro rfl;obtain⟨m,⟨o,_,_,ho,_⟩,_⟩:=I2.loc;rw[nw] at ho;cases ho
   .subst z;obtain⟨v,o,ho,_⟩:=I2.cell y c q;rw[nw] at ho;cases ho
   .have ho:=(I2.pin p hp).1;rw[z,nw] at ho;cases ho
   .obtain⟨_,o,ho,_⟩:=I2.gK.mem z;rw[nw] at ho;cases ho
   .obtain⟨o,z1,z2⟩:=q1;exact⟨o,q2 o z1,z2⟩
  refine nO (X:=vW X e) (v:=.ref e) (I5.Pp e) hN hi (.inl hl) rfl (fun s4 I6=>?_) (.inr hl);refine qCm (hh e pins s4 _ _ _ I6 (k e hn)) (fun f s5 q5=>?_) fun _ _ z=>z.elim;have hdl:X.calm=true->X.A.handled=none:=I2.ok.hd;cases f with
  | next=>obtain⟨σ5,H5,I7,q7⟩:=q5;exact name_goes (I7.yE hdl) hN hi hl fun s6 I8=>⟨_,H5,I8,q7⟩
  | brk=>obtain⟨σ5,H5,I7,q7⟩:=q5;exact name_goes (I7.yE hdl) hN hi hl fun s6 I8=>⟨_,H5,I8,q7⟩
  | cont=>obtain⟨σ5,H5,I7,q7⟩:=q5;exact name_goes (I7.yE hdl) hN hi hl fun s6 I8=>⟨_,H5,I8,q7⟩
  | ret u=>obtain⟨v5,σ5,H5,I7,r7,q7⟩:=q5;exact name_goes (I7.yE hdl) hN hi hl fun s6 I8=>⟨v5,_,H5,I8,r7,q7⟩
section
open Builtin Builtin.ObjectAttr
theorem CF{prog:qBe}{w:qCj}{A:qCb}{E:qAh->qAj->Prop}{s:qAj}{K:qAb}{x C:Addr}{ox od:Obj}{name:Str}{v:qAh}{Q:qAh->qAj->Prop}(X:K.In s.heap)(c:dM K C)(I:qJm s.heap x ox C (some od))
  (hh:qCd K C=true) (ha:qAd K (.ref C) name=some none) (hl:qGv name od=some (some v)) (hv:qJd v=true)
  (h:Q v { s with toks:=s.toks+1 }):qBq (qBr prog w) A (qMz (.ref x) name true) Q E s:=by
 have L0:=I.type (M:=qBr prog w);have L1:=qDh (M:=qBr prog w) X c.ga;have L2:=qDh (M:=qBr prog w) X c.gx;have L3:=PySem.W.looks_find (M:=qBr prog w) X I (qKr hh ha rfl hl);obtain⟨hp,g,d,t,os⟩:=s;have hx2:(Value.builtin "BaseException.__getattribute__" == Value.builtin "object.__getattribute__")=false:=by decide +kernel
 have f3:=F.excAttr_ValueError.ga.bind (.ref x);delta qMz getAttrBy;refine qAc (wpAny_mkText (qCx (qAc (L0.at (qAc (L1.at ?_))))));dsimp only;rw[if_neg (by rw[hx2,qDo];exact qAm)];delta getAttrByItsOwn hookBefore;rw[if_pos (show onTheHeap (Value.ref C)=true from rfl)];refine qAc (L2.at ?_);refine qAc (wpAny_attempt (qCx ?_));delta callGetattribute;rw[if_neg (by decide)];delta boundAndCalled;refine qAc (qFa f3 ?_);refine qEv (qEa F.excAttr_ValueError.ga.plain F.entry_bexc_ga (kL X L0 c.mb ?_));show qBq _ _ (Builtin.«object.__getattribute__» ⟨[.ref x,.str name t],[]⟩) _ _ _;delta Builtin.«object.__getattribute__»;refine qAc (qFa (a:=(Value.ref x,[Value.str name t])) rfl ?_);refine qAc (qFa (a:=name) rfl ?_);refine qAc (L0.at (qAc (L3.at ?_)));refine qAo ?_;show qBq _ _ (handedOut v) _ _ _;exact qLj hv h
end
def PD(K:qAb)(f:Str)(ta:TE):TE:=fun σ H Q=>ta σ H fun x H1=>∃e C d fs i,x = .ref e/\H1 e=some (nA e C d)/\H1 d=some (.xd fs)/\dM K C/\qCd K C=true/\qAd K (.ref C) f=some none/\fs.lookup f=some (.int i)/\Q (.int i) H1
theorem Im{X:Cx}{e:Expr}{f:Str}{pos:Pos}{ta:TE}(K:qAb)(he:PE X e ta)(hb:qHa e f X.env (eval e X.env)=eval e X.env:=by rfl)(hK:X.K=K:=by rfl):PE X (.Attribute e f pos) (PD K f ta):=by
 subst hK;intro pins s σ H Q I h;refine xX hb (bT (he pins s σ H _ I h) fun u s1 z9=>?_);obtain⟨x,H1,I1,rx,a,C,d,fs,i,ex,h1,h2,c,hh,ha,hl,q⟩:=z9;subst ex;obtain rfl:u=Value.ref a:=rx;obtain⟨oe,o1,o2,o3,o4⟩:=(show ∃oe,s1.heap.get? a=some oe/\oe.cls = .ref C/\oe.dict=some d/\qHw oe=true from(I1.cE a _ h1).1);obtain⟨mA,n1,r1⟩:=(show ∃mA,s1.heap.Ns1 d mA/\∀f,jS (fs.lookup f) (mA f) from I1.cE d _ h2);obtain⟨od,p1,p2⟩:=qC n1;have r:=r1 f;rw[hl] at r;cases em:mA f with
 | none=>rw[em] at r;exact False.elim r
 | some v =>
  rw[em] at r;obtain⟨t,rfl⟩:=(show ∃t,v=Value.int i t from r);refine CF I1.gL c (ox:=oe) (od:=od) ⟨o1,o2,o4,by rw[o3];exact p1⟩ hh ha (by rw[p2,em]) rfl ?_;exact⟨.int i,H1,I1.tok _,⟨t,rfl⟩,q⟩
open PySem.StrLaws PySem.Builtin PySem.Builtin.Str
def KI(x:Str):Prop:=∀c∈x.cps.toList,c<128
def cZ(w:Str):Str:=if Txt.startswith w ("-":Str)=true then Txt.slice w (some 1) none else w
def lZ(c:Nat):Bool:=decide (48<=c/\c<=57)
theorem in_figs'(c:Nat):(!(Builtin.Str.occurrences ("0123456789":Str) ⟨#[c]⟩ 0 ("0123456789":Str).length 1).isEmpty)=lZ c:=by
 by_cases h:48<=c/\c<=57
 .rw[EO h];exact(decide_eq_true h).symm
 .rw[found_one];have e:("0123456789":Str).cps.toList=[48,49,50,51,52,53,54,55,56,57]:=by decide +kernel
  rw[e,show lZ c=false from decide_eq_false h];refine decide_eq_false fun hm=>h ?_;simp only[qCk,qBs,or_false] at hm;lia (splits:=20)
theorem Io{m d:Nat}(hm:0<m)(hd:d<10):dg (10*m+d)=dg m++[48+d]:=by
 have t:qFm 10 m++qFm 10 d=qFm 10 (10*m+d):=qJv #[1] hm hd;have e1:dg d=[48+d]:=by
  have:∀d:_root_.Fin 10,dg d.1=[48+d.1]:=by decide +kernel
  exact this ⟨d,hd⟩
 rw[<- e1];delta dg;rw[<- t,qCt]
theorem Mn:∀(k:Nat) (l:List Nat),l.length=k->(∀c∈l,lZ c=true)->l≠[]->(l[0]?=some 48->l=[48])->∃m,dg m=l:=by
 intro k;induction k with
 | zero=>intro l hl _ ne _;exact absurd (List.length_eq_zero_iff.mp hl) ne
 | succ k ih =>
  intro l hl hd ne h0;have el:=List.dropLast_concat_getLast ne;have lc:=of_decide_eq_true (hd _ (List.getLast_mem ne));generalize hc:l.getLast ne=c at el lc;by_cases n1:l.dropLast=[]
  .rw[n1] at el;exists c-48;have:∀d:_root_.Fin 10,dg d.1=[48+d.1]:=by decide +kernel
   refine(this ⟨c-48,by lia⟩).trans (Eq.trans ?_ el);show [48+(c-48)]=[c];rw[show 48+(c-48)=c by lia]
  .have h48:l.dropLast[0]?≠some 48:=by
    intro z;have hp:0<l.dropLast.length:=List.length_pos_iff.mpr n1;have e0:l[0]?=some 48:=by rw[<- el,qAy hp];exact z
    have:=congrArg qIp (h0 e0);rw[qLn] at hp;simp only[qAn,qGt] at this;lia
   obtain⟨m,hm⟩:=ih l.dropLast (by rw[qLn];lia) (fun c hc=>hd c (List.dropLast_subset l hc)) n1 (fun z=>absurd z h48);have m0:0<m:=by
    refine qMe fun z=>h48 ?_;rw[<- hm,z];decide +kernel
   exists 10*m+(c-48);rw[Io m0 (by lia),hm,show 48+(c-48)=c by lia];exact el
theorem Gq{m k:Nat}(hk:0<k)(h:(dg m).length<=k):m<10^k:=by
 delta dg at h;rw[qAa] at h;exact(Nat.length_toDigits_le_iff (b:=10) (n:=m) #[1] hk).mp h
theorem jN{w:Str}(h:Txt.startswith w ("-":Str)=false):cZ w=w:=by
 delta cZ;rw[h];exact if_neg qAm
theorem oO{w:Str}(h:Txt.startswith w ("-":Str)=true):w.cps.toList=45::(cZ w).cps.toList:=by
 have h':=h;rw[show("-":Str)=⟨#[45]⟩ from rfl,iJ] at h';have h':=of_decide_eq_true h';delta cZ;rw[if_pos h];cases hw:w.cps.toList with
 | nil=>rw[hw] at h';cases h'
 | cons c r =>
  rw[hw] at h';cases h';have hl:1<=w.length:=by rw[str_len,hw];exact qHu (qBn _)
  have z:=fW w (k:=1) hl;rw[hw] at z;rw[show((1:Nat):Int)=1 from rfl] at z;rw[z];rfl
theorem Ip{w:Str}(h1:1<=(cZ w).length)(h30:(cZ w).length<=30)(ha:∀c∈(cZ w).cps.toList,lZ c=true)(h0:Txt.startswith (cZ w) ("0":Str)=true->w=("0":Str)):∃n:Int,w=nW n/\n.natAbs<10^30:=by
 have ne:(cZ w).cps.toList≠[]:=by
  rw[str_len] at h1;exact List.length_pos_iff.mp h1
 have z0:(cZ w).cps.toList[0]?=some 48->w=("0":Str):=fun e=>h0 (by rw[show("0":Str)=⟨#[48]⟩ from rfl,iJ];exact decide_eq_true e);have e0:(cZ w).cps.toList[0]?=some 48->(cZ w).cps.toList=[48]:=by
  intro e;have:=z0 e;rw[this];decide +kernel
 obtain⟨m,hm⟩:=Mn _ _ rfl ha ne e0;have m30:m<10^30:=Gq #[1] (by rw[hm,<- str_len];exact h30);cases hs:Txt.startswith w ("-":Str) with
 | false =>
  rw[jN hs] at hm;exact⟨(m:Int),dY (by rw[eO,hm]),m30⟩
 | true =>
  have e:=oO hs;cases m with
  | zero =>
   have z:=z0 (by rw[<- hm];decide +kernel);rw[z] at hs;exact absurd hs #[2]
  | succ k=>exact⟨qGa k,dY (by rw[fV,e,hm]),m30⟩
theorem yT(n:Int):cZ (nW n)=kT n:=by
 by_cases z:n<0
 .delta cZ;rw[qW,decide_eq_true z];exact(if_pos rfl).trans (Ih z)
 .rw[jN (by rw[qW,decide_eq_false z]),Cw z]
theorem CG{a b:Int}(h:nW a=nW b)(ha:a.natAbs<10^60)(hb:b.natAbs<10^60):a=b:=by
 have x:=(sP ha).1;rw[h,(sP hb).1] at x;exact(Option.some.inj x).symm
section
variable {prog:qBe}{w:qCj}{A:qCb}{E:qAh->qAj->Prop}{s:qAj}{env:Env}{K:qAb}{C Sh f:Addr}
theorem wX{x:Sem qAh}{Q:Flow->qAj->Prop}(hh:A.handled=none)(c:jU K C Sh f)
  (h:qBq (qBr prog w) A x (fun v s₁=>∃e t d,v = .ref e/\K.In s₁.heap/\s₁.heap.get? e=some (fC C t (some d))/\E (.ref e) s₁) E s) :
  qBq (qBr prog w) A (qJr env (some x) none) Q E s:=by
 have hcB:(Value.ref C :: .ref Sh::sG).contains (.type "BaseException")=true:=by simp
 delta qJr;refine qAc (qCm h (fun v s₁ h₁=>?_) fun _ _ x=>x);obtain⟨e,t,d,rfl,X,he,hE⟩:=h₁;obtain⟨nm,qn,ns,bs,hd,sn,sub,ab,col,dd,k0,k1,k2,k3,k5,hC⟩:=c.at X;obtain⟨hp,g,dr,tk,os⟩:=s₁;repeat (first | with_reducible refine qEu he ?_ | with_reducible refine qEu hC ?_ | (with_reducible refine qFt hC ?_;rw[hcB]) | wp_step)
 delta raiseNew;refine qAc (wpAny_handled ?_);rw[hh];exact qAc (qAo (wpAny_throw hE))
end
section
variable {X:Cx}{pins:List (Addr×Obj)}{σ:St}{H:Hp}{s:qAj}{e C t d:Addr}{Q:Unit->qAj->Prop}{E:qAh->qAj->Prop}{M:qLo}
theorem sS(O:Own X)(I:Inv X pins σ H s)(hn:H e=none)(h0:X.s₀.heap.get? e=none)(hs:s.heap.get? e=some (fC C t (some d)))
  (k:∀h'',gT X.prog X.w X.outer X.H₀ X.s₀ e C H { s with heap:=h'' }->gO h'' e d->Q () { s with heap:=h'' }):qBq M X.A (leaving X.env (.ref e)) Q E s:=by
 obtain⟨h',gg,dr,tk,os⟩:=s;have he:=hs;have ho:∀b,b≠e->h'.get? b=h'.get? b:=fun _ _=>rfl;have hst:=I.stack;have hfr:=I.ok.frames;have nst:e∉gD X.stack:=fun z=>by
  obtain⟨_,o,h1,h2⟩:=I.stack.mem z;rw[hs] at h1;cases h1;exact h2 _ rfl
 have hin:∀env∈X.stack,∀b,env.frame=some b->b∈e::gD X.stack:=fun env he b hb=>qAq _ (List.mem_filterMap.mpr ⟨env,he,hb⟩);have get:∀{b:Addr}{o:Obj},h'.get? b=some o->b≠e->b∉gD X.stack->(qCf h' (e::gD X.stack)).get? b=some o:=fun q h1 h2=>qDz _ q fun z=>(List.mem_cons.mp z).elim h1 h2;have ff:=yQ (qHj hst hin) fun b hb o q=>⟨o.slots,(ho b fun z=>nst (z▸hb)).trans q⟩;have hkb:(qCf h' (e::gD X.stack)).StaysIn h':=fun b o q=>by
  have hb:b≠e:=fun z=>by rw[z,qEg _ qAr] at q;cases q
  exact(ho b hb).trans (qEw _ q)
 have hen:(qCf h' (e::gD X.stack)).get? e=none:=qEg _ qAr;rw[O.st] at hfr;generalize hB:qCf h' (e::gD X.stack)=B at get ff hkb hen;rw[O.st] at ff;refine qCm ((KD.leaving (.ref e) _).any (wpAny_leaving_firstW (M:=M) (E:=fun _ _=>False) (Q:=fun _ s2=>∃g,s2={ heap:=g,gens:=gg,drawn:=dr,toks:=tk,os:=os }/\qOc B (X.env::X.outer) e (.ref C) (.ref t) h' g) (a0:=.ref t) hfr ff O.fr he hkb hen rfl rfl rfl fun g hL=>⟨g,rfl,hL⟩)) (fun _ s2 z9=>?_) fun _ _ z=>z.1.elim;obtain⟨⟨g,e2,hL⟩,dk⟩:=z9;subst e2;obtain⟨k1,⟨_,_,k2⟩,k3,k4⟩:=hL;refine k g ⟨I.os,I.bare,⟨_,_,⟨k1,hen,k2,k3⟩,fun a o q=>?_,fun b o q hb=>?_,fun b o q n hb=>?_⟩,fun b o q n hb=>?_,fun b o q n=>I.base.free b o q n (O.lG b),I.base.dU,I.base.gB,I.base.gJ⟩ (gO.dk ⟨_,he,rfl⟩ dk)
 .refine(I.cE a o q).iY (fun b u hb z=>get z (fun hm=>?_) fun hm=>?_) (fun _ z=>z) fun _ _ z=>z
  .rcases hb with rfl | hb
   .rw[hm,hn] at q;cases q
   .rw[hm,hn] at hb;cases hb
  .have hx:=I.jG b hm;rcases hb with rfl | hb
   .rw[hx] at q;cases q
   .rw[hx] at hb;cases hb
 .obtain⟨o',z⟩:=I.base.there b o q (O.lG b);exact⟨o',get z (fun y=>by rw[y,h0] at q;cases q) (O.not I q hb)⟩
 .exact get (I.base.keep b o q n hb (O.lG b)) (fun y=>by rw[y,h0] at q;cases q) (O.not I q hb)
 .obtain⟨sl,z⟩:=I.base.slot b o q n hb (O.lG b);obtain⟨_,o',ho',hnf⟩:=I.ok.gK.mem hb;rw[q] at ho';cases ho';have hbe:b≠e:=fun y=>by rw[y,h0] at q;cases q
  obtain⟨sl',z'⟩:=k4 b _ ((ho b hbe).trans z) hnf;exact⟨sl',z'⟩
end
def Gr(X:Cx)(Ex:qAh->Addr->St->Hp->Prop):Prop :=
 ∀(pins:List (Addr×Obj)) (σ:St) (H:Hp) (s:qAj) (e C t d:Addr),Inv X pins σ H s->H e=none->X.s₀.heap.get? e=none->s.heap.get? e=some (fC C t (some d))->Ex (.ref C) d σ H->X.xe (.ref e) s
theorem qZ{P:qBe}{w:qCj}{K:qAb}{mg:Str->Option qAh}{base:Heap}{N:List Str}{qual:Str}{scope:qHb}{f:Addr}{cd:qAh}{A:qCb}{outer:List Env}{s:qAj}{H:Hp}{E:XK}:
  Gr (iD (AA P w) P w K mg base N qual scope f cd A outer s H E) (fun c d _ H'=>E c (some d) H') :=
 fun pins σ H1 s1 e C t d I hn h0 hs q=>sS ⟨rfl,rfl,rfl⟩ I hn h0 hs fun h'' F dc=>⟨e,C,d,H1,rfl,F,dc,q⟩
theorem AE{P:qBe}{w:qCj}{K:qAb}{mg:Str->Option qAh}{base:Heap}{N:List Str}{qual:Str}{scope:qHb}{f:Addr}{cd:qAh}{A:qCb}{outer:List Env}{s:qAj}{H:Hp}{E:XK}:
  yS (iD (AA P w) P w K mg base N qual scope f cd A outer s H E) (fun c d _ H'=>E c (some d) H') where
 on:=fun pins σ H1 s1 e C d H' s' I F dc q=>qCm ((KD.leaving (.ref e) _).any (qN (Q:=fun _ s2=>gT P w outer H s e C H' s2) (E:=fun _ _=>False) ⟨rfl,rfl,rfl⟩ I F fun h'' F'=>F')) (by rintro _ s2 ⟨F',dk⟩;exact ⟨e,C,d,H',rfl,F',dc.dk dk,q⟩) fun _ _ z=>z.1.elim
def Fc(C:Addr)(sp:List V->Hp->VK->Prop)(h0:Heap)(t:TA)(Ey:qAh->Addr->St->Hp->Prop):TS:=fun _ σ H=>wQ C sp h0 t σ H fun x H2=>∃e d H3,x = .ref e/\h0.get? e=none/\H2=upd H3 e (ET e C d)/\H3 e=none/\Ey (.ref C) d σ H3
section
variable {X:Cx}{k:Nat}{C Sh f:Addr}{fd:qBy}{ps:List Str}{sp:List V->Hp->VK->Prop}{Ey:qAh->Addr->St->Hp->Prop}
theorem rA{x:Str}{p cpos pos:Pos}{e:Expr}{es:List Expr}{t:TA}(R:Gr X Ey)(hc:X.calm=true)(c:jU X.K C Sh f)(F:ES X.prog X.w X.K X.mg X.base k f fd ps sp)(hr:gF (k+1) X.A)(hb:Binds X.K fd ps [])(hg:Gl X x)(hm:X.mg x=some (.ref C))
  (ha:PA X (e::es) t) (hdb:(x == ("__debug__":Str))=false:=by decide) (he:qBl (e::es) X.env=(false,eval e X.env)::qBl es X.env:=by rfl) (hpl:(qFc cpos (qBl es X.env)).any (·.1)=false:=by rfl) :
  PS X (.Raise (some (.Call (.Name x p) (e::es) [] cpos)) none pos) (Fc C sp X.s₀.heap t Ey):=by
 intro pins s σ H D I h;have P:=uE (X:=X) (x:=x) (p:=p) (pos:=cpos) c F hr hb hg hm ha hdb he hpl pins s σ H _ I h;rw[arm_exec_Raise];refine qAc (qEz ?_);show qBq _ _ (qJr _ (some (do let v <- eval (.Call (.Name x p) (e::es) [] cpos) X.env;qIf pos;pure v)) none) _ _ _;refine wX (A:=X.A) (I.ok.hd hc) c (qAc (bT P fun u s1 ⟨v,H2,I2,ru,a,d,H3,ev,h0,e2,hn,q⟩=>qAc (qEz (qAo ?_))));subst ev e2;obtain rfl:u=Value.ref a:=ru;obtain⟨t1,h1⟩:=(show ∃t,s1.heap.get? a=some (fC C t (some d)) from(I2.cE a _ aB).1);exact⟨a,t1,d,rfl,I2.gL,h1,R pins σ H3 s1 a C t1 d (I2.forget hn) hn h0 h1 q⟩
end
end L2
namespace L2
open PySem PySem.Spec PyProof.Rows PySem.Builtin PySem.Builtin.Str
section
variable {X:Cx}
def Fd:V->List V->Hp->VK->Prop:=fun x xs H Q=>∃t p:Str,x = .str t/\xs=[.str p]/\t.length<=qAg/\Q (.str (Txt.lstripChars t p)) H
theorem wY:Eb X "str.lstrip" Fd:=by
 intro pins s σ H x xs v us Q I rx rv h;obtain⟨t,p,rfl,rfl,hz,q⟩:=h;obtain⟨tk,rfl⟩:=(show ∃tk,v=Value.str t tk from rx);obtain⟨u,rfl,ru⟩:=rv.one;obtain⟨tu,rfl⟩:=(show ∃tu,u=Value.str p tu from ru);refine call_gives F.slot_str_lstrip rfl F.entry_str_lstrip (F.args_str_lstrip_2 _ _) (gives_str_lstrip_chars t p tk tu) (post_val_or_made (fun _=>fits_stripped _ _ _ hz) fun t' k=>?_);exact⟨.str (Txt.lstripChars t p),H,I.tok _,⟨_,rfl⟩,q⟩
def CH:V->List V->Hp->VK->Prop:=fun x xs H Q=>∃t:Str,x = .str t/\xs=[]/\tooLong (Txt.upper t).length=false/\(Txt.upper t).length<=qAg/\Q (.str (Txt.upper t)) H
theorem AF:Eb X "str.upper" CH:=by
 intro pins s σ H x xs v us Q I rx rv h;obtain⟨t,rfl,rfl,hl,hz,q⟩:=h;obtain⟨tk,rfl⟩:=(show ∃tk,v=Value.str t tk from rx);cases rv;refine call_gives F.slot_str_upper rfl F.entry_str_upper (F.args_str_upper_1 _) (gives_str_upper t tk hl) ⟨hz,?_⟩;exact⟨.str (Txt.upper t),H,I.tok _,⟨_,rfl⟩,q⟩
theorem Iq{e:Expr}{t:TE}{pos:Pos}(h:PE X e t):PE X (.JoinedStr [e] pos) t:=fun pins s σ H Q I hq=>wpAny_JoinedStr_one (h pins s σ H Q I hq)
def gC(x:Str)(n:Nat):Str:=⟨(qBd n x.cps).foldl (· ++ ·) #[]⟩
theorem oP:gR X (qEs .Mult) (fun x y H Q=>∃(i:Str) (n:Nat),x = .str i/\y = .int (n:Int)/\2<=n/\n<=1000/\1<=i.length/\i.length<=10/\(gC i n).length<=qAg/\Q (.str (gC i n)) H):=by
 intro pins s σ H x y v u Q I rx ry h;obtain⟨i,n,rfl,rfl,n2,nk,i1,i10,hz,q⟩:=h;obtain⟨t,rfl⟩:=(show ∃tk,v=Value.str i tk from rx);obtain⟨t',rfl⟩:=(show ∃tk,u=Value.int (n:Int) tk from ry);have c1:((n:Int) == 1||i.length == 0)=false:=by
  rw[Bool.or_eq_false_iff];exact⟨beq_false_of_ne (by lia),beq_false_of_ne (by lia)⟩
 refine PySem.P.mul_str ?_ (fun _ _=>?_) (fun _ _=>?_) ?_
 .rw[decide_eq_false (by lia),decide_eq_false (by lia)];rfl
 .have:(10:Int)<=(2^63-1)/(n:Int):=by
   rw[Int.le_ediv_iff_mul_le (by lia)];lia
  lia
 .rw[qEn];refine decide_eq_false ?_;have:i.length*n<=10*1000:=Nat.mul_le_mul i10 nk;have e:10000<=qAg:=by decide
  lia
 .rw[if_neg (by lia),if_neg (by rw[c1];decide),qEn];exact⟨hz,.str (gC i n),H,I.tok _,⟨_,rfl⟩,q⟩
end
open PySem.StrLaws PySem.Builtin PySem.Builtin.Str
section
def uF(c d:Nat)(p:Str):Prop:=∀k:Nat,p.cps.toList[k]?=some c->p.cps.toList[k+1]?≠some d
theorem PF{x y:Str}{c d:Nat}(hy:y.cps.toList=[c,d]){k:Nat}(h:At x y x.length k):x.cps.toList[k+1]?=some d:=by
 have z:=h.2;rw[subAt_eq] at z;have z:=eq_of_beq z;have ly:y.length=2:=by
  have:y.length=y.cps.toList.length:=by simp[Str.length]
  rw[this,hy];rfl
 rw[hy,ly] at z;have e:=congrArg (fun l=>l[1]?) z;rw[qHi (by lia),qEf] at e;exact e
theorem uG{x y:Str}{c d0:Nat}(hy:y.cps.toList=[c,d0])(cd:c≠d0):∀(ps:List Str) (a f:Nat) (cuts:List Nat),ps≠[]->a<=x.length->x.cps.toList.drop a=(Str.join y ps).cps.toList->(∀p∈ps,uF c d0 p) ->
  ChainG x y x.length a cuts f->(∀k,f<=k->¬At x y x.length k)->partsFrom x y.length a cuts=ps:=by
 have hn:x.cps.toList.length=x.length:=by simp[Str.length]
 have ly:y.length=2:=by
  have:y.length=y.cps.toList.length:=by simp[Str.length]
  rw[this,hy];rfl
 have mem_at:∀{a k:Nat}{L:List Nat},x.cps.toList.drop a=L->a<=k->At x y x.length k->L[k-a]?=some c/\L[k-a+1]?=some d0:=fun {a k L} e h1 h2=>by
  rw[<- e,qEf,qEf,show a+(k-a)=k by lia,show a+(k-a+1)=k+1 by lia];exact⟨Ig hy h2,PF hy h2⟩
 intro ps;induction ps with
 | nil=>intro a f cuts h;exact absurd rfl h
 | cons p t ih =>
  intro a f cuts _ ha hx hp hG hN;cases t with
  | nil =>
   have hx:x.cps.toList.drop a=p.cps.toList:=hx;cases cuts with
   | cons d q =>
    have z:=mem_at hx hG.1 hG.2.1;exact absurd z.2 (hp p qAr _ z.1)
   | nil =>
    show [strSub x a x.length]=[p];refine congrArg (fun z=>[z]) ?_;apply Str.ext';apply Array.toList_inj.mp;rw[strSub_toList,qDb (by rw[qBw,hn];exact qAl _),hx]
  | cons q t =>
   have hx:x.cps.toList.drop a=(p++y++Str.join y (q::t)).cps.toList:=hx;rw[Str.cps_append,Str.cps_append,qCg,qCg] at hx;have lp:p.cps.toList.length=p.length:=by simp[Str.length]
   have lyl:y.cps.toList.length=y.length:=by simp[Str.length]
   have tot:x.length-a=p.length+y.length+(Str.join y (q::t)).cps.toList.length:=by
    have z:=congrArg qIp hx;rw[qBw,qAf,qAf,hn,lp,lyl] at z;exact z
   have hat:At x y x.length (a+p.length):=by
    refine⟨by lia,?_⟩;rw[subAt_eq,<- qFz,hx,qCc,<- lp,qFh,<- lyl,qIl];exact beq_self_eq_true _
   have hd:∃rest,cuts=(a+p.length)::rest/\ChainG x y x.length (a+p.length+y.length) rest f:=by
    cases cuts with
    | nil =>
     have e:f=a:=hG;exact absurd hat (hN _ (by lia))
    | cons d rest =>
     obtain⟨h1,h2,h3,h4⟩:=hG;rcases qMk d (a+p.length) with h | h | h
     .obtain⟨z1,z2⟩:=mem_at hx h1 h2;rw[qCc] at z1 z2;rw[qAy (by rw[lp];lia)] at z1;rcases qBj (d-a+1) p.cps.toList.length with w | w
      .rw[qAy w] at z2;exact absurd z2 (hp p qAr _ z1)
      .rw[qAz w,show d-a+1-p.cps.toList.length=0 by rw[lp];lia,hy] at z2;exact absurd (Option.some.inj z2) cd
     .subst h;exact⟨rest,rfl,h4⟩
     .exact absurd hat (h3 _ (by lia) h)
   obtain⟨rest,rfl,hG'⟩:=hd;show strSub x a (a+p.length)::partsFrom x y.length (a+p.length+y.length) rest=p::q::t;have e1:strSub x a (a+p.length)=p:=by
    apply Str.ext';apply Array.toList_inj.mp;rw[strSub_toList,hx,show a+p.length-a=p.cps.toList.length by rw[lp];lia,qCc,qIl]
   rw[e1,ih (a+p.length+y.length) f rest (fun z=>nomatch z) (by lia) ?_ (fun s hs=>hp s (qAq _ hs)) hG' hN];rw[qNn,<- qFz,hx,<- qFz,<- lp,qCc,qFh,<- lyl,qFh]
theorem mR{y:Str}{c d0:Nat}(hy:y.cps.toList=[c,d0])(cd:c≠d0)(hk:Builtin.Str.strKind y=1){ps:List Str}(h0:ps≠[])(hp:∀p∈ps,uF c d0 p):Txt.split (Txt.join y ps) y=ps:=by
 have ej:Txt.join y ps=Str.join y ps:=glued_eq_join y ps;rw[ej];have ly:y.length=2:=by
  have:y.length=y.cps.toList.length:=by simp[Str.length]
  rw[this,hy];rfl
 obtain⟨f,hG,hn⟩:=occ_tight (Str.join y ps) y (by lia);have key:=uG (x:=Str.join y ps) hy cd ps 0 f _ h0 (qBn _) rfl hp hG hn;delta Txt.split;split
 .rename_i hc;rw[qJy,decide_eq_true_eq,decide_eq_true_eq,hk] at hc;have:=yO (Str.join y ps);have hlt:(Str.join y ps).length<y.length:=by lia
  generalize occurrences (Str.join y ps) y 0 (Str.join y ps).length ((Str.join y ps).length+1)=cuts at key hG;cases cuts with
  | nil =>
   have key:[strSub (Str.join y ps) 0 (Str.join y ps).length]=ps:=key;rw[sub_whole] at key;exact key
  | cons d q =>
   have:=hG.2.1.1;lia
 .split
  .rename_i he;have e0:=List.isEmpty_iff.mp he;rw[e0] at key;have key:[strSub (Str.join y ps) 0 (Str.join y ps).length]=ps:=key;rw[sub_whole] at key;exact key
  .rw[partsBetween_eq];exact key
theorem uF.free{c d:Nat}{p:Str}(h:c∉p.cps.toList):uF c d p:=fun _ e=>absurd (qAp e) h
end
section
variable {X:Cx}
theorem Mo{pins:List (Addr×Obj)}{σ:St}{H:Hp}{s:qAj}{e C d:Addr}(I:Inv X pins σ H s)(h:H e=some (nA e C d))(c:dM X.K C):∃φ:Heap->Prop,qKk X.K (.ref e) (.ref C) φ/\φ s.heap/\Value.ref e≠.builtin "__main__.__loader__#opaque":=by
 obtain⟨⟨oe,h1,h2,_⟩,_⟩:=I.cE e _ h;exact⟨_,tX c,⟨oe,h1,h2⟩,fun z=>nomatch z⟩
theorem AG:eD X (.builtin "isinstance") (fun xs H Q=>∃e C d c cv b,xs=[.ref e,c]/\sH c=some cv/\H e=some (nA e C d)/\dM X.K C/\qDl X.K (.ref C) cv=some b/\Q (.bl b) H):=by
 intro pins s σ H xs us Q I r h;obtain⟨e,C,d,c,cv,b,rfl,hc,he,ec,hk,q⟩:=h;obtain⟨u,cu,rfl,ru,rc⟩:=vals2 r;obtain rfl:=n8 hc rc;cases (show u=Value.ref e from ru);obtain⟨φ,Z,p,ne⟩:=Mo I he ec;exact qLs Z I.gL p hk ne fun tk=>⟨.bl b,H,I.tok tk,rfl,q⟩
theorem wZ:eD X (.builtin "isinstance") (fun xs H Q=>∃e C d tp cs cvs b,xs=[.ref e,.ref tp]/\H tp=some (.tup cs)/\cs.map sH=cvs.map some/\H e=some (nA e C d)/\dM X.K C/\qFv X.K (.ref C) cvs=some b/\Q (.bl b) H):=by
 intro pins s σ H xs us Q I r h;obtain⟨e,C,d,tp,cs,cvs,b,rfl,ht,hc,he,ec,hk,q⟩:=h;obtain⟨u,cu,rfl,ru,rc⟩:=vals2 r;cases (show cu=Value.ref tp from rc);cases (show u=Value.ref e from ru);obtain⟨φ,Z,p,ne⟩:=Mo I he ec;obtain⟨_,its,rv,o,h1,h2,n,h3⟩:=(show cM X.prog X.w H s.heap tp (.tup cs) from I.cE tp _ ht);obtain rfl:=qO hc rv;obtain⟨oc,od,odt,osl⟩:=o;dsimp only at h2 h3;subst h2 h3;exact PySem.W.kia_tup Z I.gL p h1 hk ne fun tk=>⟨.bl b,H,I.tok tk,rfl,q⟩
theorem oQ(K:qAb)(hK:X.K=K:=by rfl):eD X (.builtin "isinstance") (fun xs H Q=>∃e C d c cv b,xs=[.ref e,c]/\sH c=some cv/\H e=some (nA e C d)/\dM K C/\qDl K (.ref C) cv=some b/\Q (.bl b) H):=by
 subst hK;exact AG
theorem mS(K:qAb)(hK:X.K=K:=by rfl):eD X (.builtin "isinstance") (fun xs H Q=>∃e C d tp cs cvs b,xs=[.ref e,.ref tp]/\H tp=some (.tup cs)/\cs.map sH=cvs.map some/\H e=some (nA e C d)/\dM K C/\qFv K (.ref C) cvs=some b/\Q (.bl b) H):=by
 subst hK;exact wZ
end
section
variable {X:Cx}
theorem CI{X:Cx}:yS X (fun _ _ _ _=>False):=⟨fun _ _ _ _ _ _ _ _ _ _ _ _ q=>q.elim⟩
def QF(X:Cx)(e:Expr)(t:TE):Prop:=∀(pins:List (Addr×Obj)) (s:qAj) (σ:St) (H:Hp) (Q:VK),Inv X pins σ H s->t σ H Q->qBq (qBr X.prog X.w) X.A (eval e X.env) (fun v s'=>0<s'.toks/\EP X pins σ Q v s') X.xe s
def OF(X:Cx)(e:Expr)(t:TE):Prop:=∀(pins:List (Addr×Obj)) (s:qAj) (σ:St) (H:Hp) (Q:VK),0<s.toks->Inv X pins σ H s->t σ H Q->qBq (qBr X.prog X.w) X.A (eval e X.env) (EP X pins σ Q) X.xe s
def PH(X:Cx)(e:Expr)(t:TE):Prop:=∀(pins:List (Addr×Obj)) (s:qAj) (σ:St) (H:Hp) (Q:VK),0<s.toks->Inv X pins σ H s->t σ H Q->qBq (qBr X.prog X.w) X.A (eval e X.env) (fun v s'=>0<s'.toks/\EP X pins σ Q v s') X.xe s
theorem Fe{i:Nat}{x:Str}{pos:Pos}(hN:X.N[i]?=some x)(hv:Lp X.env.scope x)(hd:(x == ("__debug__":Str))=false:=by decide)(hcd:(x == ("__classdict__":Str))=false:=by decide):PH X (.Name x pos) (fF i):=by
 intro pins s σ H Q h0 I h;obtain⟨v,e,h⟩:=h;obtain⟨m,hn,hl⟩:=I.loc;obtain⟨u,r,l⟩:=hl i x v hN e hv;have fin:0<s.toks/\EP X pins σ Q u s:=⟨h0,v,H,I,r,h⟩;rcases l with ⟨hk,hm⟩ | ⟨hk,c,hc,hcell⟩
 .exact qJb (wpAny_loadName_local I.ok.kind hk hn hm fin) hd
 .rcases hk with hk | hk
  .exact qJb (wpAny_loadName_cell I.ok.kind hk hc hcell fin) hd
  .exact qJb (wpAny_loadName_free I.ok.kind hk hc hcell fin hcd) hd
theorem QG(i:Nat){x:Str}{pos:Pos}(hN:X.N[i]?=some x:=by rfl)(hv:Lp X.env.scope x:=by first|exact Or.inl rfl | exact Or.inr cO | exact Or.inr (Or.inr rfl))(hd:(x == ("__debug__":Str))=false:=by decide)
  (hcd:(x == ("__classdict__":Str))=false:=by decide):PH X (.Name x pos) (fF i):=Fe hN hv hd hcd
def Gs:R2:=fun x y H Q=>∃i j:Str,x = .str i/\y = .str j/\1<=i.length/\1<=j.length/\i.length+j.length<=qAg/\Q (.str (i++j)) H
theorem yU{a b:Expr}{ta tb:TE}{pos:Pos}(ha:PE X a ta)(hb:PE X b tb):QF X (.BinOp a .Add b pos) (Be Gs ta tb):=by
 intro pins s σ H Q I h;refine wpAny_BinOp (Em ha hb I h fun v u s2 x y H2 I2 rx ry q=>?_);obtain⟨i,j,rfl,rfl,i1,j1,hz,q⟩:=q;obtain⟨t,rfl⟩:=(show ∃tk,v=Value.str i tk from rx);obtain⟨t',rfl⟩:=(show ∃tk,u=Value.str j tk from ry);refine PySem.P.add_str ?_;rw[if_neg (by rw[beq_iff_eq];lia),if_neg (by rw[beq_iff_eq];lia)];exact⟨by rw[Str.length_append];exact hz,qLl _,.str (i++j),H2,I2.tok _,⟨_,rfl⟩,q⟩
def CJ(c1 c2:Str)(to:TE):TE:=fun σ H Q=>to σ H fun x H1=>∃t:Str,x = .str t/\t.length<=1048576/\Q (.str (Txt.replace t c1 c2)) H1
theorem mT{o:Expr}{to:TE}{c1 c2:Str}{k1 k2:Nat}{p1 p2 apos cpos:Pos}(ho:PH X o to)(h12:(c1 == c2)=false)(h14:c2.length<=14)
  (hbase:qHa o "replace" X.env (eval o X.env)=eval o X.env:=by rfl)
  (hfew:((qFc cpos (qBl [.Constant (.str c1) k1 p1,.Constant (.str c2) k2 p2] X.env)).all (fun x=>!x.1)&&(qGz cpos (qFb [] X.env)).all (fun x=>x.1.isSome)
   && decide ([Expr.Constant (.str c1) k1 p1,.Constant (.str c2) k2 p2].length+([]:List qMd).length+(if ([]:List qMd).isEmpty then 0 else 1)<30))=true:=by rfl)
  (hline:(apos.endLine == cpos.line)=true:=by rfl):OF X (.Call (.Attribute o "replace" apos) [.Constant (.str c1) k1 p1,.Constant (.str c2) k2 p2] [] cpos) (CJ c1 c2 to):=by
 intro pins s σ H Q h0 I h;refine wpAny_Call_method_late hbase hfew hline rfl (bT (ho pins s σ H _ h0 I h) fun v s1 z9=>?_);obtain⟨z1,x,H1,I1,r1,q1⟩:=z9;obtain⟨t,rfl,tl,q⟩:=q1;obtain⟨tk,rfl⟩:=(show ∃tk,v=Value.str t tk from r1);obtain⟨h1,h2⟩:=vT I1 r1 (T:="str") rfl;exists "str","str.replace",qBf,PySem.F.slot_str_replace,PySem.F.type_str_replace,h1,h2;refine qHs rfl (qIe ?_);show qBq _ _ (qOd [(false,eval (.Constant (.str c1) k1 p1) X.env),(false,eval (.Constant (.str c2) k2 p2) X.env)]) _ _ s1;refine qFo (qIv (qFo (qIv (qMa ?_))));refine SC.replaceW (by exact Nat.pos_iff_ne_zero.mp z1) (by exact Nat.succ_ne_zero _) (by exact(qMs _).symm) h12 tl h14 fun t' k=>?_;exact⟨.str (Txt.replace t c1 c2),H1,(I1.tok _).tok _ |>.tok _,⟨_,rfl⟩,q⟩
theorem Ir{a b:Expr}{ta tb:TE}{pos:Pos}{op:Operator}{r:R2}(ho:gR X (qEs op) r)(ha:OF X a ta)(hb:PE X b tb):OF X (.BinOp a op b pos) (Be r ta tb):=by
 intro pins s σ H Q h0 I h;refine wpAny_BinOp (bT (ha pins s σ H _ h0 I h) fun v s1 z9=>?_);obtain⟨x,H1,I1,r1,q1⟩:=z9;refine bT (hb pins s1 σ H1 _ I1 q1) fun u s2 z9=>?_;obtain⟨y,H2,I2,r2,q2⟩:=z9;exact ho pins s2 σ H2 x y v u Q I2 r1 r2 q2
theorem uH{e1 e2:Expr}{es:List Expr}{t1 t2:TE}{t:TA}(h1:QF X e1 t1)(h2:OF X e2 t2)(hr:PA X es t)(hs:qBl (e1::e2::es) X.env=(false,eval e1 X.env)::(false,eval e2 X.env)::qBl es X.env:=by rfl):PA X (e1::e2::es) (fT t1 (fT t2 t)):=by
 intro pos pins s σ H Q I h;rw[hs];show qBq _ _ (qOd ((false,eval e1 X.env)::(false,eval e2 X.env)::qFc pos (qBl es X.env))) _ _ s;refine qFo (bT (h1 pins s σ H _ I h) fun u s1 z9=>?_);obtain⟨z1,x,H1,I1,r1,q1⟩:=z9;refine qFo (bT (h2 pins s1 σ H1 _ z1 I1 q1) fun u s2 z9=>?_);obtain⟨y,H2,I2,r2,q2⟩:=z9;exact bT (hr pos pins s2 σ H2 _ I2 q2) (by rintro us s3 ⟨xs,H3,I3,r3,q3⟩;exact ⟨x::y::xs,H3,I3,.cons r1 (.cons r2 r3),q3⟩)
end
end L2
set_option maxHeartbeats 8000000
theorem L2.uu1{α}{P:List α->Prop}(h:∀ a,P [a]):∀us,us.length=1->P us
|[a],_=>h a
theorem L2.uu2{α}{P:List α->Prop}(h:∀ a b,P [a,b]):∀us,us.length=2->P us
|[a,b],_=>h a b
theorem L2.uu3{α}{P:List α->Prop}(h:∀ a b c,P [a,b,c]):∀us,us.length=3->P us
|[a,b,c],_=>h a b c
theorem L2.uu4{α}{P:List α->Prop}(h:∀ a b c d,P [a,b,c,d]):∀us,us.length=4->P us
|[a,b,c,d],_=>h a b c d
namespace K14
open PySem L2
seal PE PT PW PA PS lI PG Lv PI gR OB eD PO KC KH Eb Qz vV Hs QQ OZ
def top(i:Nat):Stmt:=PySem.Challenge.pw_shareparley_k14_no_text.main.body.getD i (.Pass ⟨0,0,0,0⟩)
abbrev Iu:Stmt:=top 14
abbrev CK:Stmt:=top 15
abbrev Iw:Stmt:=top 16
abbrev PM:Stmt:=top 19
abbrev Iy:Stmt:=top 20
abbrev Iz:Stmt:=top 21
abbrev IA:Stmt:=top 24
abbrev IB:Stmt:=top 25
abbrev IC:Stmt:=top 27
abbrev ID:Stmt:=top 28
abbrev IE:Stmt:=top 29
abbrev PN:Stmt:=top 30
abbrev IG:Stmt:=top 32
abbrev IH:Stmt:=top 33
abbrev PQ:Stmt:=top 41
abbrev PR:Stmt:=top 42
abbrev II:Stmt:=top 44
abbrev IJ:Stmt:=top 45
abbrev IK:Stmt:=top 56
abbrev IL:Stmt:=top 57
abbrev IM:Stmt:=top 58
abbrev IP:Stmt:=top 59
abbrev IQ:Stmt:=top 60
abbrev IS:Stmt:=top 61
abbrev IT:Stmt:=top 62
abbrev IU:Stmt:=top 65
abbrev PU:Stmt:=top 66
abbrev IV:Stmt:=top 67
abbrev IW:Stmt:=top 68
abbrev IY:Stmt:=top 69
abbrev IZ:Stmt:=top 75
abbrev Ja:Stmt:=top 70
abbrev Jb:Stmt:=top 76
abbrev Jc:Stmt:=top 72
abbrev Jd:Stmt:=top 64
abbrev Je:Stmt:=top 71
abbrev Jf:Stmt:=top 73
abbrev Jg:Stmt:=top 74
abbrev Jh:Stmt:=top 77
abbrev Ji:Stmt:=top 78
abbrev KJ:Stmt:=inClass (top 34) 0
abbrev KL:Stmt:=inClass (top 34) 1
abbrev KN:Stmt:=inClass (top 34) 4
abbrev KO:Stmt:=inClass (top 35) 0
abbrev AH:Stmt:=inClass (top 35) 2
abbrev KP:Stmt:=inClass (top 38) 0
abbrev AI:Stmt:=inClass (top 38) 2
abbrev AJ:Stmt:=inClass (top 36) 0
abbrev AK:Stmt:=inClass (top 36) 2
abbrev KQ:Stmt:=inClass (top 37) 0
abbrev KR:Stmt:=inClass (top 37) 2
abbrev KS:Stmt:=inClass (top 43) 0
abbrev KU:Stmt:=inClass (top 43) 3
abbrev KW:Stmt:=inClass (top 49) 0
abbrev KY:Stmt:=inClass (top 49) 4
abbrev KZ:Stmt:=inClass (top 52) 0
abbrev OG:Stmt:=inClass (top 52) 1
abbrev La:Stmt:=inClass (top 52) 4
abbrev Lc:Stmt:=inClass (top 5) 0
theorem CL(h1:mM 0 (2^m-1) v=true):∃g:Nat,v = .int (g:Int)/\g<2^m:=by
 cases v with
 | int i =>
  have z:(decide (0<=i)&&decide (i<=2^m-1))=true:=h1;rw[qBb] at z;have z1:=of_decide_eq_true z.1;have z2:=of_decide_eq_true z.2;have e:((2^m:Nat):Int)=2^m:=by push_cast;rfl
  exact⟨i.toNat,by rw[qFk z1],by lia⟩
 | _=>exact(qAm h1).elim
theorem Ff{g m:Nat}(hg:g<2^m):mM 0 (2^m-1) (.int (g:Int))=true:=by
 show(decide (0<=(g:Int))&&decide ((g:Int)<=2^m-1))=true;have e:((2^m:Nat):Int)=2^m:=by push_cast;rfl
 rw[decide_eq_true (by lia),decide_eq_true (by lia)];rfl
def jD:List Int:=[1,2,4,8,16,32]
def alone(i:Nat):Int:=jD.getD i 0
def rB(g:Nat)(i:Nat):Option V:=if qEr (g:Int) (alone i)=0 then none else some (.int (i:Int))
def hN(g:Nat):Nat->List Int
 | 0=>[]
 | i+1=>if g/2^i%2=1 then hN g i++[(i:Int)] else hN g i
def jZ(g:Nat):List Int:=hN g 6
theorem w6:∀g:_root_.Fin 64,(qBk 6).filterMap (rB g.1)=(jZ g.1).map V.int:=by decide +kernel
def HV(ns:List Int)(g:Nat):Nat->Int
 | 0=>0
 | i+1=>if g/2^i%2=1 then HV ns g i+ns.getD i 0 else HV ns g i
theorem gP(xs:List V)(n:Nat):eE xs (some (n:Int)) none=xs.drop n:=by
 delta eE;rw[HT.xY,HT.tU];rcases qNy n xs.length with h | h
 .rw[qMx h];exact qDb (by rw[qBw];lia)
 .rw[qMt h,List.drop_length,qKt h];simp
theorem kA(xs:List V)(n:Nat):eE xs none (some (n:Int))=xs.take n:=by
 delta eE;rw[HT.xY,HT.tU,qKh,qNw];rcases qNy n xs.length with h | h
 .rw[qMx h]
 .rw[qMt h,qJk,qDb h]
theorem PV(h:m<=6):2^m<=64:=qEj (n:=2) #[1] h
theorem fN{K:qAb}{H:Hp}{ns:List Int}:∀u∈ns.map V.int,Pl K H u:=fun u hu=>by
 obtain⟨x,_,rfl⟩:=List.mem_map.mp hu;exact .int x
theorem all_ints(ns:List Int):(ns.map V.int).all iL=true:=by
 induction ns with
 | nil=>rfl
 | cons n r ih=>exact ih
theorem fX:∀{l:List α},(∀x∈l,f x=g x)->l.filterMap f=l.filterMap g
 | [],_=>rfl
 | x::r,h=>by
  rw[qCw,qCw,h x (by simp),fX fun y hy=>h y (by simp[hy])]
def kW:List Int:=[1,2,4,8,16,32,64]
structure RC (K:qAb) (fH C:Addr):Prop where
 oc:HP K C
 nm:cQ K C "many"
 mh:Meth K C "hands" fH
def CM(K:qAb)(fH:Addr)(H:Hp)(a:Addr)(m:Nat):Prop :=
 ∃(C dx:Addr) (fs:List (Str×V)),H a=some (.ins C dx fs)/\RC K fH C/\fs.lookup ("many":Str)=some (.int (m:Int))/\1<=m/\m<=6/\fs.lookup ("hands":Str)=none
theorem CM.same(r:CM K fH H a m)(s:aK H H'):CM K fH H' a m:=by
 obtain⟨C,dx,fs,h1,h2⟩:=r;exact⟨C,dx,fs,s _ _ h1,h2⟩
def okN(xs:List V):Bool:=decide (1<=xs.length)&&decide (xs.length<=6)&&xs.all iL
theorem fY(n:Nat):mM 1 6 (.int (n:Int))=(decide (1<=n)&&decide (n<=6)):=by
 show(decide (1<=(n:Int))&&decide ((n:Int)<=6))=_;rw[qFr,qBb,qBb,decide_eq_true_iff,decide_eq_true_iff,decide_eq_true_iff,decide_eq_true_iff];lia
structure CC (K:qAb) (C fh fw:Addr):Prop where
 oc:HP K C
 nm:cQ K C "many"
 nr:cQ K C "rules"
 mh:Meth K C "hands" fh
 mw:Meth K C "words" fw
structure T (K:qAb) (mg:Str->Option qAh) (AL LN RU OW PL PA VO MA NE fH iR iO iP iA iV iM iN wR wO wP wA wV wM wN CO iC cH cW iX SE NG NN NO NR NL NS NT NX NV TM UL:Addr):Prop where
 gG:mg "isinstance"=none
 oR:mg "int"=none
 l7:mg "bool"=none
 eV:mg "range"=none
 cD:mg "len"=none
 fZ:mg "list"=none
 uI:mg "sum"=none
 oS:mg "all"=none
 rC:mg "any"=none
 jE:mg "sorted"=none
 kX:mg "tuple"=none
 uJ:mg "min"=none
 oU:mg "abs"=none
 oV:mg "enumerate"=none
 oW:mg "str"=none
 uK:mg "max"=none
 CP:mg "ValueError"=none
 AM:mg "ALONE"=some (.ref AL)
 al:∀H:Hp,eQ K H AL (jD.map V.int)
 Gu:mg "LENGTHS"=some (.ref LN)
 ln:∀H:Hp,eQ K H LN (kW.map V.int)
 Ra:∃o,K.lookup LN=some o/\o.cls = .type "tuple"/\o.dict=none
 we:∃tk,mg "WELL"=some (.int 64 tk)
 mr:∃tk,mg "MOST_RULES"=some (.int 12 tk)
 mf:∃tk,mg "MOST_FIGURES"=some (.int 30 tk)
 fg:∃tk,mg "FIGURES"=some (.str ("0123456789":Str) tk)
 CQ:mg "Rule"=some (.ref RU)
 OH:RC K fH RU
 Rb:Mk K RU iR
 Mp:mg "Own"=some (.ref OW)
 Ld:RC K fH OW
 Rc:Mk K OW iO
 QH:cQ K OW "numbers"
 Mq:mg "Plain"=some (.ref PL)
 Le:RC K fH PL
 Rf:Mk K PL iP
 QI:cQ K PL "earnings"
 Mr:mg "Pairs"=some (.ref PA)
 Lf:RC K fH PA
 Rg:Mk K PA iA
 QJ:cQ K PA "pairs"
 Ms:mg "Votes"=some (.ref VO)
 Ec:RC K fH VO
 Rh:Mk K VO iV
 QK:cQ K VO "quota"
 Mt:cQ K VO "prize"
 Mu:cQ K VO "weights"
 Mv:mg "Match"=some (.ref MA)
 Gv:RC K fH MA
 Ri:Mk K MA iM
 PX:cQ K MA "pairs"
 PY:cQ K MA "best"
 Mw:mg "Net"=some (.ref NE)
 CS:RC K fH NE
 Rj:Mk K NE iN
 QL:cQ K NE "costs"
 Jj:cQ K NE "ropes"
 Rk:Meth K RU "words" wR
 Rl:Meth K OW "words" wO
 Rm:Meth K PL "words" wP
 Rn:Meth K PA "words" wA
 Ro:Meth K VO "words" wV
 Rp:Meth K MA "words" wM
 Rq:Meth K NE "words" wN
 My:mg "Company"=some (.ref CO)
 Ed:CC K CO cH cW
 Rr:Mk K CO iC
 Rt:∃fd,Mx K "__init__" "Rule.__init__" KJ ["self","many"] iR fd
 xH:∃fd,Mx K "hands" "Rule.hands" KL ["self"] fH fd
 Rv:∃fd,Mx K "words" "Rule.words" KN ["self"] wR fd
 Rw:∃fd,Mx K "__init__" "Own.__init__" KO ["self","numbers"] iO fd
 PZ:∃fd,Mx K "words" "Own.words" AH ["self"] wO fd
 Rx:∃fd,Mx K "__init__" "Plain.__init__" KP ["self","table"] iP fd
 Qa:∃fd,Mx K "words" "Plain.words" AI ["self"] wP fd
 Qb:∃fd,Mx K "__init__" "Pairs.__init__" AJ ["self","many","pairs"] iA fd
 Qc:∃fd,Mx K "words" "Pairs.words" AK ["self"] wA fd
 Ry:∃fd,Mx K "__init__" "Votes.__init__" KQ ["self","quota","prize","weights"] iV fd
 Rz:∃fd,Mx K "words" "Votes.words" KR ["self"] wV fd
 RA:∃fd,Mx K "__init__" "Match.__init__" KS ["self","many","pairs"] iM fd
 RD:∃fd,Mx K "words" "Match.words" KU ["self"] wM fd
 RE:∃fd,Mx K "__init__" "Net.__init__" KW ["self","costs","ropes"] iN fd
 RF:∃fd,Mx K "words" "Net.words" KY ["self"] wN fd
 RG:∃fd,Mx K "__init__" "Company.__init__" KZ ["self","many","rules"] iC fd
 RH:∃fd,Mx K "hands" "Company.hands" OG ["self"] cH fd
 Qd:∃fd,Mx K "words" "Company.words" La ["self"] cW fd
 RJ:∃fd,Mx K "__init__" "NoText.__init__" Lc ["self","part"] iX fd
 Lg:Gi K RU "__init__" iR
 Jk:jU K NX SE iX
 OJ:qAd K (.ref NX) "part"=some none
 Mz:qBm K NL (.ref NL)=some true
 MB:qBm K NX (.ref NX)=some true
 RK:Gp K SE
 Lh:mg "ShareError"=some (.ref SE)
 Li:mg "NoGroup"=some (.ref NG)
 MC:mg "NoNumber"=some (.ref NN)
 MD:mg "NoOrder"=some (.ref NO)
 ME:mg "NoRows"=some (.ref NR)
 sT:mg "NoRule"=some (.ref NL)
 MF:mg "NoShares"=some (.ref NS)
 Lj:mg "NoTable"=some (.ref NT)
 Gw:mg "NoText"=some (.ref NX)
 MG:mg "NoVotes"=some (.ref NV)
 MH:mg "TooMany"=some (.ref TM)
 MJ:mg "Unlike"=some (.ref UL)
 RV:dM K SE
 RL:dM K NL
 Lm:dM K NX
 RX:dM K NT
 uL:qDm K NL sG "ValueError.__new__"=true
 MK:qDm K NT sG "ValueError.__new__"=true
 ML:qDm K NG sG "ValueError.__new__"=true
 MM:qDm K SE sG "ValueError.__new__"=true
 k3:qFv K (.ref NX) [.ref NG,.ref NN,.ref NO,.ref NR,.ref NL]=some false
 k4:qFv K (.ref NX) [.ref NS,.ref NT,.ref NV,.ref TM,.ref UL]=some false
 kS:qDl K (.ref NX) (.ref SE)=some true
 kV:qDl K (.ref NX) (.type "ValueError")=some true
section
variable {P:qBe}{w:qCj}{K:qAb}{mg:Str->Option qAh}{base:Heap}{AL LN RU OW PL PA VO MA NE fH iR iO iP iA iV iM iN wR wO wP wA wV wM wN CO iC cH cW iX SE NG NN NO NR NL NS NT NX NV TM UL:Addr}{f:Addr}{fd:qBy}
local macro_rules
| `(#[4])=>`(T K mg AL LN RU OW PL PA VO MA NE fH iR iO iP iA iV iM iN wR wO wP wA wV wM wN CO iC cH cW iX SE NG NN NO NR NL NS NT NX NV TM UL)
| `(#[5])=>`(Df P w K mg base dO)
| `(#[1,0])=>`(Md P w K mg base)
| `(#[1,1])=>`(Df P w K mg base (gA P w))
| `(#[1,2])=>`(by constructor<;>first|rfl|decide +kernel)
def rD(K:qAb):Sp:=fun vs H Q _=>∃v,vs=[v]/\Pl K H v/\Q (.bl (iL v)) H
theorem MN:aN ["thing"] ["thing"] (aF Iu):=#[1,2]
theorem Jl(t:Tx K mg "is_number" Iu ["thing"] f fd)(T:#[4]):#[5] 1 "is_number" ["thing"] (rD K) f fd:=by
 refine t.mX MN (by rintro _ _ _ _⟨v,rfl,_⟩;rfl) fun _ _ _ _ H vs Q E hr h=>?_;obtain⟨v,rfl,pl,k⟩:=h;obtain⟨Ty,ty,kd⟩:=pl.ex;refine⟨_,aH (aU (rR (aO gU #[0] T.gG gN (aA (pv 0) (aA (hV (v:=.ty "int") #[0] T.oR vX rfl) aC)))
  (lK (rS (aO gU #[0] T.gG gN (aA (pv 0) (aA (hV (v:=.ty "bool") #[0] T.l7 yG rfl) aC))))))),?_⟩
 exists _,rfl,v,.ty "int",_,_,_,rfl,rfl,.of ty,kd.LY K,_,rfl;refine b7 (fun h1=>?_) (fun h1=>?_)
 .exists _,rfl,v,.ty "bool",_,_,_,rfl,rfl,.of ty,kd.Gg K,_,rfl;have e:(!(Ty == "bool"))=iL v:=by
   rw[Pl.iL ty];cases kd <;> first | rfl | (exact absurd h1 #[1])
  rw[e];exact k
 .have e:false=iL v:=by
   rw[Pl.iL ty];cases kd <;> first | rfl | (exact absurd rfl h1)
  rw[e];exact k
def w8(K:qAb):Sp:=fun vs H Q _=>∃(v:V) (lo hi:Int),vs=[v,.int lo,.int hi]/\Pl K H v/\Q (.bl (mM lo hi v)) H
theorem Jm:aN ["thing","least","most"] ["thing","least","most"] (aF CK):=#[1,2]
theorem Fg(t:Tx K mg "is_number_within" CK ["thing","least","most"] f fd)(D:#[5] 1 "is_number" ["thing"] (rD K) f1 fd1):
  #[5] 2 "is_number_within" ["thing","least","most"] (w8 K) f fd:=by
 refine t.mX Jm (by rintro _ _ _ _⟨v,lo,hi,rfl,_⟩;rfl) fun _ _ _ _ H vs Q E hr h=>?_;obtain⟨v,lo,hi,rfl,pl,k⟩:=h;refine⟨_,aH (aU (rR (bN D hr (qAl _) #[0] (aA (pv 0) aC)) (lK (Bx tS tS (pv 1) (pv 0) (pv 2))))),?_⟩;exists _,rfl,v,rfl,pl,_,rfl;cases v with
 | int i =>
  refine dC ⟨_,rfl,_,rfl,lo,i,rfl,rfl,_,rfl,?_⟩;refine b7 (fun h1=>⟨_,rfl,i,hi,rfl,rfl,?_⟩) (fun h1=>?_)
  .have e:decide (i<=hi)=mM lo hi (.int i):=by
    show _=(decide (lo<=i)&&decide (i<=hi));rw[h1,Bool.true_and]
   show Q (.bl (decide (i<=hi))) H;rw[e];exact k
  .have e:false=mM lo hi (.int i):=by
    show _=(decide (lo<=i)&&decide (i<=hi));rw[Bool.eq_false_iff.mpr h1,qGb]
   rw[e];exact k
 | _=>exact bF k
def CT(K:qAb)(NL:Addr):Sp:=fun vs H Q E=>∃v,vs=[v]/\Pl K H v/\if mM 1 6 v=true then Q .non H else E (.ref NL) none H
theorem MP:aN ["many"] ["many"] (aF Iw):=#[1,2]
theorem Jn(t:Tx K mg "check_many" Iw ["many"] f fd)(T:#[4])(D_is_number_within:#[5] 2 "is_number_within" ["thing","least","most"] (w8 K) f1 fd1):
  #[1,1] 3 "check_many" ["many"] (CT K NL) f fd:=by
 refine t.Am MP (by rintro _ _ _ _⟨v,rfl,_⟩;rfl) fun _ _ _ _ H vs Q E hr h=>?_;obtain⟨v,rfl,pl,k⟩:=h;refine⟨_,(aH (bI (fS (eL (bN D_is_number_within hr #[1] #[0] (aA (pv 0) (aA aD (aA aD aC)))))) (aH (cP aQ rfl #[0] T.sT T.uL (aA aI aC))) aY)),?_⟩;exists _,rfl,v,1,6,rfl,pl,_,rfl;cases e:mM 1 6 v with
 | true =>
  rw[e,if_pos rfl] at k;exact bF k
 | false =>
  rw[e,if_neg qAm] at k;exact dC ⟨kG,k⟩
def Jo:Sp:=fun vs H Q _=>∃m:Nat,vs=[.int (m:Int)]/\m<=6/\∀H',aK H H'->Q (.int (2^m-1)) H'
theorem AN:∀m:_root_.Fin 7,(jD.take m.1).sum=2^m.1-1:=by decide
theorem Qe:aN ["many"] ["many"] (aF PM):=#[1,2]
theorem MQ(t:Tx K mg "whole_company" PM ["many"] f fd)(T:#[4]):#[5] 1 "whole_company" ["many"] Jo f fd:=by
 refine t.mX Qe (by rintro _ _ _ _⟨m,rfl,_⟩;rfl) fun _ _ _ s H vs Q E hr h=>?_;obtain⟨m,rfl,hm,k⟩:=h;refine⟨_,(aH (aU (aO (BW rfl) #[0] T.uI HQ (aA (aR yI (bO (v:=.ref AL) #[0] T.AM rfl) aV (aW (pv 0))) aC)))),?_⟩;refine⟨_,rfl,_,rfl,AL,_,rfl,T.al _,fun p H' s hq=>⟨p,jD.take m,rfl,.inr ?_,?_⟩⟩
 .rw[kA,<- qFp] at hq;exact hq
 .rw[AN ⟨m,by lia⟩];exact k H' s
def Gx(K:qAb)(NG:Addr):Sp:=fun vs H Q E=>∃(v:V) (m:Nat),vs=[v,.int (m:Int)]/\m<=6/\Pl K H v/\(mM 0 (2^m-1) v=false->∀H',aK H H'->E (.ref NG) none H')/\(mM 0 (2^m-1) v=true->∀H',aK H H'->Q .non H')
theorem MR:aN ["group","many"] ["group","many"] (aF Iy):=#[1,2]
theorem Jp(t:Tx K mg "check_group" Iy ["group","many"] f fd)(T:#[4])(D_is_number_within:#[5] 2 "is_number_within" ["thing","least","most"] (w8 K) f1 fd1)
  (D_whole_company:#[5] 1 "whole_company" ["many"] Jo f2 fd2):#[1,1] 3 "check_group" ["group","many"] (Gx K NG) f fd:=by
 refine t.Am MR (by rintro _ _ _ _⟨v,m,rfl,_⟩;rfl) fun _ _ _ s H vs Q E hr h=>?_;obtain⟨v,m,rfl,hm,pl,k0,k⟩:=h;refine⟨_,(aH (bI (fS (eL (bN D_is_number_within hr #[1] #[0] (aA (pv 0) (aA aD (aA (bN D_whole_company hr #[1] #[0] (aA (pv 1) aC)) aC)))))) (aH (cP aQ rfl #[0] T.Li T.ML (aA aI aC))) aY)),?_⟩;refine⟨_,rfl,_,rfl,m,rfl,hm,fun H' s=>⟨v,0,_,rfl,pl.same s,_,rfl,?_⟩⟩;cases e:mM 0 (2^m-1) v with
 | true=>exact bF (k e H' s)
 | false=>exact dC ⟨kG,k0 e H' s⟩
theorem kY(h0:0<=i)(h5:i<=5):iT (jD.map V.int) i=some (.int (alone i.toNat)):=by
 have h:i.toNat<6:=by lia
 have all:∀j:_root_.Fin 6,(jD.map V.int)[j.1]?=some (.int (alone j.1)):=by decide
 have z:=bP (all ⟨i.toNat,h⟩);rw[show(((⟨i.toNat,h⟩:_root_.Fin 6).1:Nat):Int)=i from qFk h0] at z;exact z
def Gy(K:qAb)(NG:Addr):Sp:=fun vs H Q E=>∃v,vs=[v]/\Pl K H v/\(mM 0 (2^6-1) v=false->∀H',aK H H'->E (.ref NG) none H') /\
 ∀(g:Nat) (l:Addr) (H':Hp),v = .int (g:Int)->g<64->H l=none->aK H H'->H' l=some (.lst ((jZ g).map V.int))->Q (.ref l) H'
theorem MS:aN ["group"] ["group"] (aF Iz):=#[1,2]
theorem Jq(t:Tx K mg "hands_of" Iz ["group"] f fd)(T:#[4])(D_check_group:#[1,1] 3 "check_group" ["group","many"] (Gx K NG) f1 fd1):
  #[1,1] 4 "hands_of" ["group"] (Gy K NG) f fd:=by
 refine t.Am MS (by rintro _ _ _ _⟨v,rfl,_⟩;rfl) fun _ _ _ _ H vs Q E hr h=>?_;obtain⟨v,rfl,pl,k0,k⟩:=h;refine⟨_,(aE (cA (cX aQ.toPass D_check_group hr #[1] #[0] (aA (pv 0) (aA (aO aS #[0] T.cD bS (aA (bO (v:=.ref AL) #[0] T.AM rfl) aC)) aC))))
  (aH (aU (dX (NB:=["hand","group"]) (pick:=[none,some 0]) (dJ #[7] (by exact(And.intro rfl trivial)) rfl #[2] #[2] #[0] #[0]) rfl
    (jH #[0] T.eV (aA (aO aS #[0] T.cD bS (aA (bO (v:=.ref AL) #[0] T.AM rfl) aC)) aC)) (fun _ _ _=>bC (i:=0) #[8,["hand","group"]] rfl cO)
    (fun _ _ _=>ED (aL kI (aG vK (pv 1) (bH (nD K) (bO (v:=.ref AL) #[0] T.AM rfl) (pv 0) #[6])) aD (aT _))) (fun _ _ _=>(pv 0)))))),?_⟩
 refine⟨_,rfl,AL,_,rfl,.inr (T.al _),v,6,rfl,by decide,pl,k0,fun h1 H' s1=>?_⟩;obtain⟨g,rfl,hg⟩:=CL h1;have hg:g<64:=hg;refine⟨AL,_,rfl,.inr (T.al _),_,rfl,by decide,by decide,?_⟩;refine BQ (rB g) #[1] (fun i H2 kk kk0 hi h1 h2=>?_) fun D hD=>?_
 .obtain⟨j,rfl⟩:∃j:Nat,j=i:=⟨i,rfl⟩;have e0:(0:Int)+(j:Int)=(j:Int):=qJl _;have hat:iT (jD.map V.int) ((0:Int)+(j:Int))=some (.int (alone j)):=by
   rw[e0];have z:=kY (i:=(j:Int)) (by lia) (by have:j<6:=hi;lia);simpa using z
  exists _,rfl,_,rfl,AL,_,_,_,rfl,rfl,T.al _,hat,_,_,rfl,rfl,rfl,_,rfl;refine b7 (fun h3=>⟨_,rfl,h1 _ ?_⟩) (fun h3=>h2 ?_)
  .have z:¬V.int (qEr (g:Int) (alone j))=V.int 0:=of_decide_eq_false (by
    have z:(!decide (V.int (qEr (g:Int) (alone j))=V.int 0))=true:=h3;simpa using z)
   rw[e0];delta rB;rw[if_neg fun q=>z (congrArg V.int q)]
  .delta rB;refine if_pos (qGp fun q=>h3 ?_);show(!decide (V.int (qEr (g:Int) (alone j))=V.int 0))=true;rw[decide_eq_false fun z=>q (V.int.inj z)];rfl
 .have e':(qBk 6).filterMap (rB g)=(jZ g).map V.int:=w6 ⟨g,hg⟩;show Q _ (upd H' D (.lst ((qBk 6).filterMap (rB g))));rw[e'];exact k g D _ rfl hg (s1.free hD) (s1.trans (.aJ hD)) aB
def jV(xs:List V):Bool:=[2,4,8,16,32,64].contains xs.length&&xs.all iL&&decide (xs[0]?=some (.int 0))
def Gz(K:qAb):Sp:=fun vs H Q _=>∃(p:Addr) (xs:List V),vs=[.ref p]/\H p=some (.lst xs)/\(∀v∈xs,Pl K H v)/\xs.length<=1000/\∀H',aK H H'->Q (.bl (jV xs)) H'
theorem MT:aN ["thing"] ["thing"] (aF IA):=#[1,2]
theorem Fh(n:Nat):(!LL (.int (n:Int)) (eE (kW.map V.int) (some 1) none)) = !([2,4,8,16,32,64].contains n):=by
 have e:eE (kW.map V.int) (some 1) none=[V.int 2,.int 4,.int 8,.int 16,.int 32,.int 64]:=by decide
 rw[e];have q:∀k:Nat,Ez (.int (k:Int)) (.int (n:Int))=(n == k):=fun k=>by
  show((k:Int) == (n:Int))=(n == k);rw[qFr,beq_iff_eq,beq_iff_eq];lia
 have:=q 2;have:=q 4;have:=q 8;have:=q 16;have:=q 32;have:=q 64;simp_all [LL];rfl
theorem Jr(t:Tx K mg "is_table" IA ["thing"] f fd)(T:#[4])(D_is_number:#[5] 1 "is_number" ["thing"] (rD K) f1 fd1):
  #[5] 2 "is_table" ["thing"] (Gz K) f fd:=by
 refine t.mX MT (by rintro _ _ _ _⟨p,xs,rfl,_⟩;rfl) fun _ _ _ _ H vs Q E hr h=>?_;obtain⟨p,xs,rfl,hp,pl,hlen,k⟩:=h;refine⟨_,(aE (bI (PW.pt (pw_or (fS (eL (aO gU #[0] T.gG gN (aA (pv 0) (aA (hV (v:=.ty "list") #[0] T.fZ iG rfl) aC))))) (pw_or1 (aL rY (aO aS #[0] T.cD bS (aA (pv 0) aC)) (aR yI (bO (v:=.ref LN) #[0] T.Gu rfl) (aW aD) aV) #[0])))) (aH (aU qA)) aY)
  (aH (aU (rR (aO (oA rfl) #[0] T.oS vZ (aA (dX (NB:=["number"]) (pick:=[none]) (dJ #[7] (by exact trivial) rfl #[2] #[2] #[0] #[0]) rfl
    (cU (pv 0)) (fun _ _ _=>bC (i:=0) #[8,["number"]] rfl cO)
    (fun _ _ _=>cV) (fun _ _ _=>(bN D_is_number hr #[1] #[0] (aA (pv 0) aC)))) aC)) (lK (jI bU (bH bY (pv 0) aD #[6]) aD (aT _))))))),?_⟩
 refine⟨_,rfl,.ref p,.ty "list",_,_,_,rfl,rfl,.of (.lst hp),Kd.lst.LZ K,_,rfl,bF ?_⟩;refine⟨_,rfl,p,_,rfl,.inl (bA.of hp),_,rfl,LN,_,rfl,T.ln _,fun q H1 s1 hq=>⟨q,_,rfl,.inr hq,rfl,by decide,_,rfl,?_⟩⟩;show if (!LL (.int (xs.length:Int)) (eE (kW.map V.int) (some 1) none))=true then _ else _;rw[Fh];cases ec:[2,4,8,16,32,64].contains xs.length with
 | false =>
  have e:false=jV xs:=by delta jV;rw[ec];rfl
  refine dC ?_;have z:=k H1 s1;rw[<- e] at z;exact z
 | true =>
  refine bF ⟨_,rfl,p,rfl,⟨xs,bA.of (s1 _ _ hp)⟩,?_⟩;refine eG (xs:=xs) (fun _ x=>some (.bl (iL x))) (bA.of (s1 _ _ hp)) (qCu (bL hlen)) (fun i x H2 kk kk0 s2 hx h1 h2=>?_) fun D H2 hD s2 hd=>?_
  .exact⟨_,rfl,x,rfl,(pl x (qAp hx)).same (s1.trans s2),h1 _ rfl _ (.refl _)⟩
  .have ed:((qBk xs.length).filterMap fun i=>(xs[i]?).bind fun x=>some (V.bl (iL x)))=(xs.map iL).map V.bl:=by
    rw[qCe,<- sL];rfl
   rw[ed] at hd;exists D,_,rfl,bA.of hd,_,rfl;have ea:(xs.map iL).all id=xs.all iL:=by rw[qLf];rfl
   rw[ea];cases eb:xs.all iL with
   | false =>
    have e:false=jV xs:=by delta jV;rw[ec,eb];rfl
    refine bF ?_;have z:=k H2 (s1.trans s2);rw[<- e] at z;exact z
   | true =>
    have hpos:0<xs.length:=by
     cases xs with
     | nil=>exact absurd ec #[1]
     | cons _ _=>exact qLl _
    obtain⟨i,hi⟩:∃i,xs[0]?=some (.int i):=by
     have hm:=List.all_eq_true.mp eb xs[0] (qDc hpos);cases e0:xs[0] with
     | int i=>exact⟨i,by rw[qAe hpos,e0]⟩
     | _=>rw[e0] at hm;exact(qAm hm).elim
    refine dC ⟨_,rfl,p,_,_,_,rfl,rfl,bA.of (s2 _ _ (s1 _ _ hp)),bP hi,rfl,?_⟩;have e:decide (V.int i=V.int 0)=jV xs:=by delta jV;rw[ec,eb,hi];simp
    show Q (.bl (decide (V.int i=V.int 0))) H2;rw[e];exact k H2 (s1.trans s2)
def GA(K:qAb)(NT:Addr):Sp:=fun vs H Q E=>∃(p:Addr) (xs:List V),vs=[.ref p]/\H p=some (.lst xs)/\(∀v∈xs,Pl K H v)/\xs.length<=1000/\(jV xs=false->∀H',aK H H'->E (.ref NT) none H') /\
 ∀m:Nat,1<=m->m<=6->xs.length=2^m->jV xs=true->∀H',aK H H'->Q (.int (m:Int)) H'
theorem MU:aN ["table"] ["table"] (aF IB):=#[1,2]
theorem Fi(h:jV xs=true):∃m:Nat,1<=m/\m<=6/\xs.length=2^m:=by
 have z:[2,4,8,16,32,64].contains xs.length=true:=by
  delta jV at h;rw[qBb,qBb] at h;exact h.1.1
 have z:xs.length∈[2,4,8,16,32,64]:=by simpa using z
 simp only[qCk,qBs,or_false] at z;rcases z with z | z | z | z | z | z
 .exact⟨1,by decide,by decide,z⟩
 .exact⟨2,by decide,by decide,z⟩
 .exact⟨3,by decide,by decide,z⟩
 .exact⟨4,by decide,by decide,z⟩
 .exact⟨5,by decide,by decide,z⟩
 .exact⟨6,by decide,by decide,z⟩
theorem Fj:∀m:_root_.Fin 7,kW[m.1]?=some ((2:Int)^m.1)/\∀j:_root_.Fin 7,j.1<m.1->kW[j.1]?≠some ((2:Int)^m.1):=by decide
theorem Js(t:Tx K mg "hands_in" IB ["table"] f fd)(T:#[4])(D_is_table:#[5] 2 "is_table" ["thing"] (Gz K) f1 fd1):
  #[1,1] 3 "hands_in" ["table"] (GA K NT) f fd:=by
 refine t.Am MU (by rintro _ _ _ _⟨p,xs,rfl,_⟩;rfl) fun _ _ _ _ H vs Q E hr h=>?_;obtain⟨p,xs,rfl,hp,pl,hlen,k0,k⟩:=h;refine⟨_,(aE (bI (fS (eL (bN D_is_table hr #[1] #[0] (aA (pv 0) aC)))) (aH (cP aQ rfl #[0] T.Lj T.MK (aA aI aC))) aY)
  (aH (aU (dP PySem.F.plainAttrs_tuple PySem.F.slot_tuple_index PySem.F.type_tuple_index BY (bO (v:=.ref LN) #[0] T.Gu rfl) (aA (aO aS #[0] T.cD bS (aA (pv 0) aC)) aC))))),?_⟩
 refine⟨_,rfl,p,xs,rfl,hp,pl,hlen,fun H1 s1=>⟨_,rfl,?_⟩⟩;cases e:jV xs with
 | false=>exact dC ⟨kG,k0 e H1 s1⟩
 | true =>
  obtain⟨m,h1,h6,hm⟩:=Fi e;obtain⟨l1,l2⟩:=Fj ⟨m,by lia⟩;refine bF ⟨.inr (.inl ⟨rfl,T.Ra⟩),_,rfl,p,_,rfl,.inl (bA.of (s1 _ _ hp)),LN,kW,_,m,rfl,rfl,T.ln _,?_,?_,k m h1 h6 hm e H1 s1⟩
  .rw[hm,l1];push_cast;rfl
  .intro j hj;have z:=l2 ⟨j,by lia⟩ hj;rw[hm];intro q;refine z (q.trans ?_);push_cast;rfl
def uM(K:qAb)(NL:Addr):Sp:=fun vs H Q E=>∃(p:Addr) (xs:List V),vs=[.ref p]/\(H p=some (.lst xs)\/H p=some (.tup xs))/\(∀v∈xs,Pl K H v)/\xs.length<=1000/\(xs.all iL=false->∀H',aK H H'->E (.ref NL) none H')/\(xs.all iL=true->∀H',aK H H'->Q .non H')
theorem MV:aN ["things"] ["things"] (aF IC):=#[1,2]
theorem Jt(t:Tx K mg "check_numbers" IC ["things"] f fd)(T:#[4])(D_is_number:#[5] 1 "is_number" ["thing"] (rD K) f1 fd1):
  #[1,1] 2 "check_numbers" ["things"] (uM K NL) f fd:=by
 refine t.Am MV (by rintro _ _ _ _⟨p,xs,rfl,_⟩;rfl) fun _ _ _ _ H vs Q E hr h=>?_;obtain⟨p,xs,rfl,hp,pl,hlen,k0,k⟩:=h;refine⟨_,(aH (bI (fS (eL (aO (oA rfl) #[0] T.oS vZ (aA (dX (NB:=["thing"]) (pick:=[none]) (dJ #[7] (by exact trivial) rfl #[2] #[2] #[0] #[0]) rfl
    (HR (pv 0)) (fun _ _ _=>bC (i:=0) #[8,["thing"]] rfl cO)
    (fun _ _ _=>cV) (fun _ _ _=>(bN D_is_number hr #[1] #[0] (aA (pv 0) aC)))) aC)))) (aH (cP aQ rfl #[0] T.sT T.uL (aA aI aC))) aY)),?_⟩
 have fin:∀(D:Addr) (H2:Hp),aK H H2->H2 D=some (.lst ((qBk xs.length).filterMap fun i=>(xs[i]?).bind fun x=>some (V.bl (iL x)))) ->
   ∃bs:List Bool,bA K H2 D (bs.map V.bl)/\bs.all id=xs.all iL:=fun D H2 s2 hd=>by
  refine⟨xs.map iL,?_,by rw[qLf];rfl⟩;rw[qCe,<- sL] at *;exact bA.of hd
 have step:∀(i:Nat) (x:V) (H2:Hp),aK H H2->xs[i]?=some x->Pl K H2 x:=fun i x H2 s2 hx=>(pl x (qAp hx)).same s2;have endk:∀(D:Addr) (H2:Hp) (bs:List Bool),aK H H2->bs.all id=xs.all iL->if (!(bs.all id))=true then (1<=qAg/\E (.ref NL) none H2) else Q .non H2:=fun D H2 bs s2 e=>by
  rw[e];cases eb:xs.all iL with
  | false=>exact dC ⟨by decide,k0 eb H2 s2⟩
  | true=>exact bF (k eb H2 s2)
 rcases hp with hp | hp
 .refine⟨_,rfl,p,rfl,.inl ⟨⟨xs,bA.of hp⟩,?_⟩⟩;refine eG (xs:=xs) (fun _ x=>some (.bl (iL x))) (bA.of hp) (qCu (bL hlen)) (fun i x H2 kk kk0 s2 hx h1 h2=>?_) fun D H2 hD s2 hd=>?_
  .exact⟨_,rfl,x,rfl,step i x H2 s2 hx,h1 _ rfl _ (.refl _)⟩
  .obtain⟨bs,q1,q2⟩:=fin D H2 s2 hd;exact⟨D,bs,rfl,q1,_,rfl,endk D H2 bs s2 q2⟩
 .refine⟨_,rfl,p,rfl,.inr ⟨⟨xs,eQ.of hp⟩,?_⟩⟩;refine BZ (xs:=xs) (fun _ x=>some (.bl (iL x))) (eQ.of hp) (qCu (bL hlen)) (fun i x H2 kk kk0 s2 hx h1 h2=>?_) fun D H2 hD s2 hd=>?_
  .exact⟨_,rfl,x,rfl,step i x H2 s2 hx,h1 _ rfl _ (.refl _)⟩
  .obtain⟨bs,q1,q2⟩:=fin D H2 s2 hd;exact⟨D,bs,rfl,q1,_,rfl,endk D H2 bs s2 q2⟩
def AO(m:Int):List V->Bool
 | [.int i,.int j,.int _]=>decide (0<=i)&&decide (i<j)&&decide (j<m)
 | _=>false
theorem sU(h:AO m xs=true):∃i j n:Int,xs=[.int i,.int j,.int n]/\0<=i/\i<j/\j<m:=by
 delta AO at h;split at h
 .rename_i i j n;rw[qBb,qBb] at h;exact⟨i,j,n,rfl,of_decide_eq_true h.1.1,of_decide_eq_true h.1.2,of_decide_eq_true h.2⟩
 .cases h
theorem xA(h:¬∃i j n:Int,xs=[.int i,.int j,.int n]/\0<=i/\i<j/\j<m):AO m xs=false:=by
 cases e:AO m xs with
 | false=>rfl
 | true=>exact absurd (sU e) h
def GB(K:qAb)(NL:Addr):Sp:=fun vs H Q E=>∃(m:Int) (a:Addr) (xs:List V),vs=[.int m,.ref a]/\H a=some (.tup xs)/\(∀v∈xs,Pl K H v)/\xs.length<=1000/\(AO m xs=false->∀H',aK H H'->E (.ref NL) none H')/\(AO m xs=true->∀H',aK H H'->Q .non H')
theorem MX:aN ["many","pair"] ["many","pair"] (aF ID):=#[1,2]
theorem Ju(t:Tx K mg "check_pair" ID ["many","pair"] f fd)(T:#[4])(D_check_numbers:#[1,1] 2 "check_numbers" ["things"] (uM K NL) f1 fd1):
  #[1,1] 3 "check_pair" ["many","pair"] (GB K NL) f fd:=by
 refine t.Am MX (by rintro _ _ _ _⟨m,a,xs,rfl,_⟩;rfl) fun _ _ _ _ H vs Q E hr h=>?_;obtain⟨m,a,xs,rfl,ha,pl,hlen,k0,k⟩:=h;refine⟨_,(aE (bI (PW.pt (pw_or (fS (eL (aO gU #[0] T.gG gN (aA (pv 1) (aA (hV (v:=.ty "tuple") #[0] T.kX BR rfl) aC))))) (pw_or1 (aL kI (aO aS #[0] T.cD bS (aA (pv 1) aC)) aD (aT _))))) (aH (cP aQ rfl #[0] T.sT T.uL (aA aI aC))) aY)
  (aE (cA (cX aQ.toPass D_check_numbers hr #[1] #[0] (aA (pv 1) aC)))
  (aH (bI (fS (Au tS jB jB aD (bH dB (pv 1) aD #[6]) (bH dB (pv 1) aD #[6]) (pv 0))) (aH (cP aQ rfl #[0] T.sT T.uL (aA aI aC))) aY)))),?_⟩
 refine⟨_,rfl,.ref a,.ty "tuple",_,_,_,rfl,rfl,.of (.tup ha),Kd.tup.HM K,_,rfl,bF ?_⟩;exists _,rfl,a,_,rfl,.inr (eQ.of ha),rfl,_,rfl;refine b7 (fun h3=>?_) (fun h3=>?_)
 .refine⟨kG,k0 (xA ?_) H (.refl H)⟩;rintro⟨i,j,n,rfl,_⟩;have e:decide (V.int (([V.int i,V.int j,V.int n].length:Nat):Int)=V.int 3)=true:=decide_eq_true rfl;rw[e] at h3;cases h3
 have e3:xs.length=3:=by
  refine qGp fun z=>h3 ?_;rw[decide_eq_false]
  .rfl
  .intro q;have:=V.int.inj q;lia
 refine⟨_,rfl,a,_,rfl,.inr ha,pl,hlen,fun no H1 s1=>k0 (xA ?_) H1 s1,fun yes H1 s1=>?_⟩
 .rintro⟨i,j,n,rfl,_⟩;exact absurd no (by show ¬true=false;decide)
 obtain⟨i,j,n,rfl⟩:∃i j n:Int,xs=[.int i,.int j,.int n]:=by
  match xs,e3,yes with
  | [u,v,w'],_,yes =>
   rw[qMn] at yes;have y1:=yes u (by simp);have y2:=yes v (by simp);have y3:=yes w' (by simp);cases u <;> first | (exact absurd y1 qAm) | skip
   cases v <;> first | (exact absurd y2 qAm) | skip
   cases w' <;> first | (exact absurd y3 qAm) | skip
   exact⟨_,_,_,rfl⟩
 have fail:¬(0<=i/\i<j/\j<m)->1<=qAg/\E (.ref NL) none H1:=fun z=>⟨by decide,k0 (xA (by
  rintro⟨i',j',n',e,z'⟩;cases e;exact z z')) H1 s1⟩
 exists _,rfl,a,_,_,_,rfl,rfl,eQ.of (s1 _ _ ha),rfl,_,_,rfl,rfl,_,rfl;refine b7 (fun h1=>?_) (fun h1=>dC (fail fun z=>h1 (decide_eq_true z.1)));exists _,rfl,a,_,_,_,rfl,rfl,eQ.of (s1 _ _ ha),rfl,_,_,rfl,rfl,_,rfl;refine b7 (fun h2=>?_) (fun h2=>dC (fail fun z=>h2 (decide_eq_true z.2.1)));exists _,rfl,_,_,rfl,rfl,_,rfl;cases h3':decide (j<m) with
 | false=>exact dC (fail fun z=>(of_decide_eq_false h3') z.2.2)
 | true =>
  refine bF (k ?_ H1 s1);show(decide (0<=i)&&decide (i<j)&&decide (j<m))=true;rw[h1,h2,h3'];rfl
def fJ:List V->Int×Int
 | [.int i,.int j,.int _]=>(i,j)
 | _=>(0,0)
def f9(m:Int):List (Int×Int)->List (List V)->Bool
 | _,[]=>true
 | seen,xs::r=>AO m xs && !(seen.contains (fJ xs))&&f9 m (seen++[fJ xs]) r
def gY(m:Int)(xss:List (List V)):Bool:=f9 m [] xss
theorem kB:∀{xss:List (List V)}{seen:List (Int×Int)},f9 m seen xss=true->∀xs∈xss,AO m xs=true
 | [],_,_,xs,h=>by cases h
 | x::r,seen,h,xs,hx=>by
  have h':(AO m x && !(seen.contains (fJ x))&&f9 m (seen++[fJ x]) r)=true:=h;rw[qBb,qBb] at h';rcases List.mem_cons.mp hx with rfl | hx
  .exact h'.1.1
  .exact kB h'.2 xs hx
def oX(ks:List (Int×Int)):List (List Key×V):=ks.map fun k=>([Sum.inl k.1,Sum.inl k.2],V.bl true)
theorem l8(i j:Int):∀ks:List (Int×Int),j9 (oX ks) [Sum.inl i,Sum.inl j]=if ks.contains (i,j)=true then some (.bl true) else none
 | []=>rfl
 | k::r=>by
  have ih:=l8 i j r;by_cases e:k=(i,j)
  .subst e;rw[if_pos (by simp)];exact kO (p:=([Sum.inl i,Sum.inl j],V.bl true)) rfl
  .have z:j9 (oX (k::r)) [Sum.inl i,Sum.inl j]=j9 (oX r) [Sum.inl i,Sum.inl j]:=kP (p:=([Sum.inl k.1,Sum.inl k.2],V.bl true)) (r:=oX r) (fun q=>e (by
    have q1:=List.cons.inj q;have q2:=List.cons.inj q1.2;exact Prod.ext (Sum.inl.inj q1.1) (Sum.inl.inj q2.1)))
   rw[z,ih];have e2:((k::r).contains (i,j))=r.contains (i,j):=by
    rw[List.contains_cons];have:((i,j) == k)=false:=by
     rw[beq_eq_false_iff_ne];exact fun q=>e q.symm
    rw[this,qNg]
   rw[e2]
def c5(H:Hp)(a:Addr):List V:=match H a with
 | some (.tup xs)=>xs
 | _=>[]
theorem dE(h:H a=some (.tup xs)):c5 H a=xs:=by
 delta c5;rw[h]
def iU(K:qAb)(H:Hp)(as:List Addr):Prop:=∀a∈as,∃xs,H a=some (.tup xs)/\(∀v∈xs,Pl K H v)/\xs.length<=1000
theorem iU.eq(t:iU K H as)(s:∀a xs,H a=some (.tup xs)->H' a=some (.tup xs)):as.map (c5 H')=as.map (c5 H):=by
 refine qIo fun a ha=>?_;obtain⟨xs,h,_⟩:=t a ha;rw[dE h,dE (s a xs h)]
def xB(p q:Int×Int):Prop:=p.1<q.1\/p.1=q.1/\p.2<q.2
def Fm(m:Int)(k:Int×Int):Nat:=k.1.toNat*m.toNat+k.2.toNat
theorem sV(a0:0<=i)(a1:i<j)(a2:j<m)(b0:0<=i')(b1:i'<j')(b2:j'<m):Fm m (i,j)<Fm m (i',j')↔xB (i,j) (i',j'):=by
 show i.toNat*m.toNat+j.toNat<i'.toNat*m.toNat+j'.toNat↔i<i'\/i=i'/\j<j';rcases Int.lt_trichotomy i i' with h | h | h
 .have z:=qLr m.toNat (show i.toNat+1<=i'.toNat by lia);rw[qOb,qNz] at z;exact⟨fun _=>.inl h,fun _=>by lia⟩
 .subst h;exact⟨fun _=>.inr ⟨rfl,by lia⟩,fun _=>by lia⟩
 .have z:=qLr m.toNat (show i'.toNat+1<=i.toNat by lia);rw[qOb,qNz] at z;exact⟨fun _=>by lia,fun _=>by lia⟩
theorem Qf(a0:0<=i)(a1:i<j)(a2:j<m)(b0:0<=i')(b1:i'<j')(b2:j'<m)(hn:(i,j)=(i',j')->n=n'):HT.lexLt [i,j,n] [i',j',n']=decide (Fm m (i,j)<Fm m (i',j')):=by
 rw[decide_eq_decide.mpr (sV a0 a1 a2 b0 b1 b2),HT.iE];show _=decide (i<i'\/i=i'/\j<j');by_cases e:i=i'
 .rw[if_pos e,HT.iE];by_cases e2:j=j'
  .rw[if_pos e2,HT.iE,if_pos (hn (by rw[e,e2]))];exact(decide_eq_false (by lia)).symm
  .rw[if_neg e2];exact decide_eq_decide.mpr (by lia)
 .rw[if_neg e];exact decide_eq_decide.mpr (by lia)
theorem mB:∀{xss:List (List V)}{seen:List (Int×Int)},f9 m seen xss=true->seen.Nodup->(seen++xss.map fJ).Nodup
 | [],seen,_,h=>by rw[qEe,qBx];exact h
 | x::r,seen,h,hs=>by
  have h':(AO m x && !(seen.contains (fJ x))&&f9 m (seen++[fJ x]) r)=true:=h;rw[qBb,qBb] at h';have z:=mB h'.2 (by
   rw[List.nodup_append];refine⟨hs,by simp,fun a ha b hb=>?_⟩;rw[qLy] at hb;subst hb;intro e;subst e;have:=h'.1.2;simp[ha] at this)
  rw[qCc] at z;exact z
theorem pw_mem:∀{l:List α},l.Pairwise R->∀{a b:α},a∈l->b∈l->a≠b->R a b\/R b a
 | [],_,a,b,ha,_,_=>by cases ha
 | x::l,h,a,b,ha,hb,ne=>by
  rw[qJa] at h;rcases List.mem_cons.mp ha with rfl | ha'
  .rcases List.mem_cons.mp hb with rfl | hb'
   .exact absurd rfl ne
   .exact .inl (h.1 _ hb')
  .rcases List.mem_cons.mp hb with rfl | hb'
   .exact .inr (h.1 _ ha')
   .exact pw_mem h.2 ha' hb' ne
def kZ(H:Hp)(a:Addr):Int×Int:=fJ (c5 H a)
theorem CU{m:Int}{H:Hp}{as:List Addr}(h:gY m (as.map (c5 H))=true):as.Pairwise fun a b=>kZ H a≠kZ H b:=by
 have z:=mB h qKf;rw[qEk,qCe] at z;exact List.pairwise_map.mp z
def yV(K:qAb)(NL:Addr):Sp:=fun vs H Q E=>∃(m:Int) (p:Addr) (as:List Addr),vs=[.int m,.ref p]/\H p=some (.lst (as.map V.ref))/\iU K H as/\as.length<64/\(gY m (as.map (c5 H))=false->∀H',aK H H'->E (.ref NL) none H') /\
 (gY m (as.map (c5 H))=true->∀(l:Addr) (bs:List Addr) (H':Hp),H l=none->bs.Perm as->bs.Pairwise (fun a b=>xB (kZ H a) (kZ H b))->aK H H'->H' l=some (.lst (bs.map V.ref))->Q (.ref l) H')
theorem yW:aN ["many","pairs","seen","pair","hands"] ["many","pairs"] (aF IE):=#[1,2]
theorem Jv{f1:Addr}{fd1:qBy}(t:Tx K mg "sorted_pairs" IE ["many","pairs"] f fd)(T:#[4])(D_check_pair:#[1,1] 3 "check_pair" ["many","pair"] (GB K NL) f1 fd1):
  #[1,1] 4 "sorted_pairs" ["many","pairs"] (yV K NL) f fd:=by
 refine t.Am yW (by rintro _ _ _ _⟨m,p,as,rfl,_⟩;rfl) fun _ _ _ _ H vs Q E hr h=>?_;obtain⟨m,p,as,rfl,hp,ht,h64,k0,k⟩:=h;refine⟨_,(aE (aX (i:=2) yW.nd rfl cO Cf)
  (aE (hX aQ.own rfl (cU (pv 1)) (bC (i:=3) yW.nd rfl cO)
   (aE (cA (cX aQ.toPass D_check_pair hr #[1] #[0] (aA (pv 0) (aA (pv 3) aC))))
   (aE (aX (i:=4) yW.nd rfl cO (eR (aA (bH dB (pv 3) aD #[6]) (aA (bH dB (pv 3) aD #[6]) aC))))
   (aE (bI (Ho (HY (Gf hr) (pv 4) (pv 2))) (aH (cP aQ rfl #[0] T.sT T.uL (aA aI aC))) aY)
   (aH (EI (Gf hr) (pv 2) (pv 4) qA rfl))))))
  (aH (aU (aO pX #[0] T.jE As (aA (pv 1) aC)))))),?_⟩
 refine fun d hd=>⟨_,rfl,p,rfl,⟨_,bA.of (aK.aJ hd _ _ hp)⟩,?_⟩;refine nQ (xs:=as.map V.ref) (fun i σ' H'=>aK H H'/\(∃o3 o4:Option V,σ'=[some (.int m),some (.ref p),some (.ref d),o3,o4])/\∃ks:List (Int×Int),ks.length<=i/\H' d=some (.dT (oX ks))/\gY m (as.map (c5 H))=f9 m ks ((as.map (c5 H)).drop i)) ?_ ?_ ?_ ?_
 .exact⟨.aJ hd,⟨_,_,rfl⟩,[],qBn _,aB,rfl⟩
 .rintro i σ' H' _ ⟨s1,_⟩;exact bA.of (s1 _ _ hp)
 .rintro i x σ' H' hx ⟨s1,⟨o3,o4,rfl⟩,ks,hks,hd1,he⟩;obtain⟨a,ha,rfl⟩:∃a,as[i]?=some a/\x = .ref a:=by
   rw[qAs] at hx;cases e:as[i]? with
   | none=>rw[e] at hx;cases hx
   | some y=>rw[e] at hx;exact⟨y,rfl,(Option.some.inj hx).symm⟩
  have hi:i<as.length:=by
   rcases qBj i as.length with z | z
   .exact z
   .rw[qDq z] at ha;cases ha
  obtain⟨xs,hxs,pl,hlen⟩:=ht a (qAp ha);have hdrop:(as.map (c5 H)).drop i=xs::(as.map (c5 H)).drop (i+1):=by
   rw[List.drop_eq_getElem_cons (by rw[qAa];exact hi),List.getElem_map];have:as[i]=a:=Option.some.inj ((qAe hi).symm.trans ha);rw[this,dE hxs]
  rw[hdrop] at he;have he':gY m (as.map (c5 H))=(AO m xs && !(ks.contains (fJ xs))&&f9 m (ks++[fJ xs]) ((as.map (c5 H)).drop (i+1))):=he;refine⟨_,rfl,_,rfl,m,a,xs,rfl,s1 _ _ hxs,fun v hv=>(pl v hv).same s1,hlen,fun no H2 s2=>?_,fun yes H2 s2=>?_⟩
  .exact k0 (by rw[he',no];rfl) H2 (s1.trans s2)
  obtain⟨u,v,n,rfl,_⟩:=sU yes;have ha2:=s2 _ _ (s1 _ _ hxs);refine⟨_,rfl,a,_,_,_,rfl,rfl,eQ.of ha2,rfl,_,rfl,a,_,_,_,rfl,rfl,eQ.of ha2,rfl,Bk,fun tt htt=>?_⟩;have u3:=aK.aJ (o:=.tup [V.int u,V.int v]) htt;have hd3:=u3 _ _ (s2 _ _ hd1);exists _,rfl,_,rfl,d,_,rfl,Cc.t (k:=[Sum.inl u,Sum.inl v]) hd3 aB,_,rfl;rw[l8];cases hc:ks.contains (u,v) with
  | true =>
   rw[if_pos rfl];refine dC ⟨kG,k0 ?_ _ ((s1.trans s2).trans u3)⟩;rw[he',show fJ [V.int u,V.int v,V.int n]=(u,v) from rfl,hc,yes];rfl
  | false =>
   rw[if_neg qAm];refine bF ⟨_,rfl,_,rfl,d,_,rfl,Cd.t (k:=[Sum.inl u,Sum.inl v]) hd3 aB (by delta oX;rw[qAa];exact bL (by lia)),?_⟩;exists ((s1.trans s2).trans u3).upd_ne' hd,⟨_,_,rfl⟩,ks++[(u,v)],by rw[qAf];show _+1<=_;lia,?_
   .rw[aB,Ca _ (by rw[l8,hc];rfl)];delta oX;rw[qCt];rfl
   .rw[he',show fJ [V.int u,V.int v,V.int n]=(u,v) from rfl,hc,yes];rfl
 .rintro σ' H' ⟨s1,⟨o3,o4,rfl⟩,ks,hks,hd1,he⟩;rw[qAa,qKt (by rw[qAa];exact qAl _)] at he;have he:gY m (as.map (c5 H))=true:=he;have at_:∀a∈as,∃u v n:Int,H a=some (.tup [.int u,.int v,.int n])/\kZ H a=(u,v)/\0<=u/\u<v/\v<m:=fun a ha=>by
   obtain⟨xs,hxs,_⟩:=ht a ha;obtain⟨u,v,n,e,e1⟩:=sU (kB he xs (by rw[<- dE hxs];exact List.mem_map.mpr ⟨a,ha,rfl⟩));subst e;exact⟨u,v,n,hxs,by delta kZ;rw[dE hxs];rfl,e1⟩
  have pk:=CU he;have nk:∀a∈as,∀b∈as,kZ H a=kZ H b->a=b:=fun a ha b hb e=>qGp fun ne=>by
   rcases pw_mem pk ha hb ne with z | z
   .exact z e
   .exact z e.symm
  refine⟨_,rfl,p,as,fun a=>Fm m (kZ H a),rfl,bA.of (s1 _ _ hp),fun a ha=>?_,h64,fun a ha b hb=>?_,?_,fun l bs hl hp_ hpw=>k he l bs _ (s1.free hl) hp_ ?_ (s1.trans (.aJ hl)) aB⟩
  .obtain⟨u,v,n,hu,_⟩:=at_ a ha;exact⟨u,[v,n],s1 _ _ hu⟩
  .obtain⟨u,v,n,hu,ku,u0,u1,u2⟩:=at_ a ha;obtain⟨u',v',n',hu',ku',v0,v1,v2⟩:=at_ b hb;rw[oE (ns:=[u,v,n]) (s1 _ _ hu),oE (ns:=[u',v',n']) (s1 _ _ hu')];show _=decide (Fm m (kZ H a)<Fm m (kZ H b));rw[ku,ku'];refine Qf u0 u1 u2 v0 v1 v2 fun e=>?_;have:=nk a ha b hb (by rw[ku,ku',e]);subst this;rw[hu] at hu';injection hu' with e1;injection e1 with e1;injection e1 with _ e1;injection e1 with _ e1;injection e1 with e1;injection e1
  .refine List.pairwise_map.mpr (pk.imp_of_mem fun {a b} ha hb ne=>?_);obtain⟨u,v,n,hu,ku,u0,u1,u2⟩:=at_ a ha;obtain⟨u',v',n',hu',ku',v0,v1,v2⟩:=at_ b hb;rw[ku,ku'] at ne;show Fm m (kZ H a)≠Fm m (kZ H b);rw[ku,ku'];intro e;have x1:=mt (sV u0 u1 u2 v0 v1 v2).mpr (by lia);have x2:=mt (sV v0 v1 v2 u0 u1 u2).mpr (by lia);refine ne (Prod.ext ?_ ?_)
   .show u=u';have x1:¬(u<u'\/u=u'/\v<v'):=x1;have x2:¬(u'<u\/u'=u/\v'<v):=x2;lia
   .show v=v';have x1:¬(u<u'\/u=u'/\v<v'):=x1;have x2:¬(u'<u\/u'=u/\v'<v):=x2;lia
  .refine(List.pairwise_map.mp hpw).imp_of_mem fun {a b} ha hb lt=>?_;obtain⟨u,v,n,hu,ku,u0,u1,u2⟩:=at_ a (hp_.mem_iff.mp ha);obtain⟨u',v',n',hu',ku',v0,v1,v2⟩:=at_ b (hp_.mem_iff.mp hb);rw[ku,ku'] at lt|-;exact(sV u0 u1 u2 v0 v1 v2).mp lt
def both(g i j:Nat):Bool:=decide (g/2^i%2=1)&&decide (g/2^j%2=1)
theorem Fn:∀(g:_root_.Fin 64) (i j:_root_.Fin 6),decide (qEr (g.1:Int) (qFl (alone i.1) (alone j.1))=qFl (alone i.1) (alone j.1))=both g.1 i.1 j.1:=by decide +kernel
def MY:Sp:=fun vs H Q _=>∃g i j:Nat,vs=[.int (g:Int),.int (i:Int),.int (j:Int)]/\g<64/\i<6/\j<6/\Q (.bl (both g i j)) H
theorem MZ:aN ["group","one","other","both"] ["group","one","other"] (aF PN):=#[1,2]
theorem Na(t:Tx K mg "has_both" PN ["group","one","other"] f fd)(T:#[4]):#[5] 1 "has_both" ["group","one","other"] MY f fd:=by
 refine t.mX MZ (by rintro _ _ _ _⟨g,i,j,rfl,_⟩;rfl) fun _ _ _ _ H vs Q E hr h=>?_;obtain⟨g,i,j,rfl,hg,hi,hj,k⟩:=h;refine⟨_,(aE (aX (i:=3) MZ.nd rfl cO (aG LC (bH dB (bO (v:=.ref AL) #[0] T.AM rfl) (pv 1) #[6]) (bH dB (bO (v:=.ref AL) #[0] T.AM rfl) (pv 2) #[6])))
  (aH (aU (jI bU (aG vK (pv 0) (pv 3)) (pv 3) (aT _))))),?_⟩
 have a1:=kY (i:=(i:Int)) (by lia) (by lia);have a2:=kY (i:=(j:Int)) (by lia) (by lia);exists _,rfl,AL,_,_,_,rfl,rfl,T.al _,a1,_,rfl,AL,_,_,_,rfl,rfl,T.al _,a2,_,_,rfl,rfl;exists _,rfl,_,rfl,_,_,rfl,rfl,_,rfl,rfl;have e:=Fn ⟨g,hg⟩ ⟨i,hi⟩ ⟨j,hj⟩;have e':decide (V.int (qEr (g:Int) (qFl (alone i) (alone j)))=V.int (qFl (alone i) (alone j)))=both g i j:=by
  rw[<- e];exact decide_eq_decide.mpr ⟨V.int.inj,congrArg V.int⟩
 show Q (.bl (decide (V.int (qEr (g:Int) (qFl (alone i) (alone j)))=V.int (qFl (alone i) (alone j))))) H;rw[e'];exact k
def sW(K:qAb)(NL:Addr):Sp:=fun vs H Q E=>∃(x C dx:Addr) (v:V),vs=[.ref x,v]/\H x=some (.ins C dx [])/\Aj K C/\cQ K C "many"/\Pl K H v/\(mM 1 6 v=false->E (.ref NL) none H)/\(mM 1 6 v=true->Q .non (upd H x (.ins C dx [("many",v)])))
theorem Qg:aN ["self","many"] ["self","many"] (aF KJ):=#[1,2]
theorem Nb(t:Mx K "__init__" "Rule.__init__" KJ ["self","many"] f fd)(T:#[4])(D_check_many:#[1,1] 3 "check_many" ["many"] (CT K NL) f1 fd1):
  #[1,0] 4 ["self","many"] (sW K NL) f:=by
 refine t.Gh Qg (by rintro _ _ _ _⟨x,C,dx,v,rfl,_⟩;rfl) fun _ _ _ _ H vs Q E hr h=>?_;obtain⟨x,C,dx,v,rfl,hx,c,n,pl,k0,k⟩:=h;refine⟨_,(aE (cA (cX aQ.toPass D_check_many hr #[1] #[0] (aA (pv 1) aC)))
  (aH (fB (pv 0) (pv 1) rfl))),?_⟩
 exists _,rfl,v,rfl,pl;cases e:mM 1 6 v with
 | false=>rw[if_neg qAm];exact k0 e
 | true =>
  rw[if_pos rfl];exact⟨_,rfl,_,rfl,x,C,dx,[],rfl,hx,c,n,by decide,k e⟩
def Jw(K:qAb):Sp:=fun vs H Q _=>∃(a C dx:Addr) (fs:List (Str×V)) (v:V),vs=[.ref a]/\H a=some (.ins C dx fs)/\Aj K C/\cQ K C "many"/\fs.lookup ("many":Str)=some v/\Q v H
theorem Qh:aN ["self"] ["self"] (aF KL):=#[1,2]
theorem Nc(t:Mx K "hands" "Rule.hands" KL ["self"] f fd):#[1,0] 1 ["self"] (Jw K) f:=by
 refine t.EF Qh (by rintro _ _ _ _⟨a,C,dx,fs,v,rfl,_⟩;rfl) fun _ _ _ _ H vs Q E hr h=>?_;obtain⟨a,C,dx,fs,v,rfl,ha,c,n,hl,k⟩:=h;exists _,(aH (aU (eM (pv 0) rfl)));exact⟨_,rfl,a,C,dx,fs,v,rfl,ha,c,n,hl,k⟩
def Jx(K:qAb)(NL OW:Addr):Sp:=fun vs H Q E=>∃(x dx p:Addr) (xs:List V),vs=[.ref x,.ref p]/\H x=some (.ins OW dx [])/\H p=some (.lst xs)/\(∀v∈xs,Pl K H v)/\xs.length<=1000 /\
 (okN xs=false->∀H',SameBut x H H'->E (.ref NL) none H') /\
 (okN xs=true->∀l H',H l=none->SameBut x H H'->H' x=some (.ins OW dx [("many",.int (xs.length:Int)),("numbers",.ref l)])->H' l=some (.lst xs)->Q .non H')
theorem Qi:aN ["self","numbers"] ["self","numbers"] (aF KO):=#[1,2]
theorem Nd(t:Mx K "__init__" "Own.__init__" KO ["self","numbers"] f fd)(T:#[4])(D_RI:#[1,0] 4 ["self","many"] (sW K NL) iR)(D_check_numbers:#[1,1] 2 "check_numbers" ["things"] (uM K NL) f1 fd1):
  #[1,0] 5 ["self","numbers"] (Jx K NL OW) f:=by
 refine t.Gh Qi (by rintro _ _ _ _⟨x,dx,p,xs,rfl,_⟩;rfl) fun _ _ _ _ H vs Q E hr h=>?_;obtain⟨x,dx,p,xs,rfl,hx,hp,pl,hlen,k0,k⟩:=h;refine⟨_,(aE (cA (qP aQ.toPass #[0] T.CQ T.Lg D_RI hr #[1] (aA (pv 0) (aA (aO aS #[0] T.cD bS (aA (pv 1) aC)) aC))))
  (aE (cA (cX aQ.toPass D_check_numbers hr #[1] #[0] (aA (pv 1) aC)))
  (aH (fB (pv 0) (dI dW #[0] T.fZ iG (aA (pv 1) aC)) rfl)))),?_⟩
 refine⟨_,rfl,_,rfl,p,_,rfl,.inl (bA.of hp),x,OW,dx,_,rfl,hx,T.Ld.oc.cl,T.Ld.nm,.int _,fun no=>?_,fun yes=>?_⟩
 .refine k0 ?_ H ((aK.refl H).but x);delta okN;rw[fY] at no;rw[no];rfl
 have ne:p≠x:=fE hp hx (by intro z;cases z);have hp1:upd H x (.ins OW dx [("many",V.int (xs.length:Int))]) p=some (.lst xs):=by rw[aM ne];exact hp
 have sb:SameBut x H (upd H x (.ins OW dx [("many",V.int (xs.length:Int))])):=((aK.refl H).but x).iH _;have pl1:∀v∈xs,Pl K (upd H x (.ins OW dx [("many",V.int (xs.length:Int))])) v:=fun v hv=>(pl v hv).fM hx;refine⟨_,rfl,p,xs,rfl,.inl hp1,pl1,hlen,fun no H1 s1=>?_,fun yes2 H1 s1=>?_⟩
 .refine k0 ?_ H1 (sb.then s1);delta okN;rw[no,qDo]
 refine⟨_,rfl,p,_,rfl,.inl (bA.of (s1 _ _ hp1)),fun l hl=>?_⟩;have u2:=aK.aJ (o:=.lst xs) hl;have hx2:=u2 _ _ (s1 _ _ (aB (H:=H) (a:=x) (o:=.ins OW dx [("many",V.int (xs.length:Int))])));refine⟨_,rfl,x,OW,dx,_,rfl,hx2,T.Ld.oc.cl,T.QH,(by show 1<1000;decide),?_⟩;have nl:l≠x:=(bD (s1 _ _ (aB (H:=H) (a:=x) (o:=.ins OW dx [("many",V.int (xs.length:Int))]))) hl).symm;refine k ?_ l _ ?_ ((sb.then (s1.trans u2)).iH _) aB (by rw[aM nl];exact aB)
 .delta okN;rw[fY] at yes;rw[yes,yes2];rfl
 .cases e:H l with
  | none=>rfl
  | some o =>
   have z:=s1 l o (by rw[aM nl];exact e);rw[hl] at z;cases z
def Jy(K:qAb)(NT PL:Addr):Sp:=fun vs H Q E=>∃(x dx p:Addr) (xs:List V),vs=[.ref x,.ref p]/\H x=some (.ins PL dx [])/\H p=some (.lst xs)/\(∀v∈xs,Pl K H v)/\xs.length<=1000 /\
 (jV xs=false->∀H',SameBut x H H'->E (.ref NT) none H') /\
 (jV xs=true->∀(m:Nat) l H',1<=m->m<=6->xs.length=2^m->H l=none->SameBut x H H'->H' x=some (.ins PL dx [("many",.int (m:Int)),("earnings",.ref l)])->H' l=some (.lst xs)->Q .non H')
theorem Qj:aN ["self","table"] ["self","table"] (aF KP):=#[1,2]
theorem Ng(t:Mx K "__init__" "Plain.__init__" KP ["self","table"] f fd)(T:#[4])(D_RI:#[1,0] 4 ["self","many"] (sW K NL) iR)(D_hands_in:#[1,1] 3 "hands_in" ["table"] (GA K NT) f1 fd1):
  #[1,0] 5 ["self","table"] (Jy K NT PL) f:=by
 refine t.Gh Qj (by rintro _ _ _ _⟨x,dx,p,xs,rfl,_⟩;rfl) fun _ _ _ _ H vs Q E hr h=>?_;obtain⟨x,dx,p,xs,rfl,hx,hp,pl,hlen,k0,k⟩:=h;refine⟨_,(aE (cA (qP aQ.toPass #[0] T.CQ T.Lg D_RI hr #[1] (aA (pv 0) (aA (cX aQ.toPass D_hands_in hr #[1] #[0] (aA (pv 1) aC)) aC))))
  (aH (fB (pv 0) (dI dW #[0] T.fZ iG (aA (pv 1) aC)) rfl))),?_⟩
 refine⟨_,rfl,_,rfl,p,xs,rfl,hp,pl,hlen,fun no H1 s1=>k0 no H1 (s1.but x),fun m h1 h6 hm yes H1 s1=>?_⟩;have i16:mM 1 6 (.int (m:Int))=true:=by rw[fY,decide_eq_true h1,decide_eq_true h6];rfl
 refine⟨x,PL,dx,_,rfl,s1 _ _ hx,T.Le.oc.cl,T.Le.nm,.int _,fun no=>?_,fun _=>?_⟩
 .rw[i16] at no;cases no
 have ne:p≠x:=fE hp hx (by intro z;cases z);have hp1:upd H1 x (.ins PL dx [("many",V.int (m:Int))]) p=some (.lst xs):=by rw[aM ne];exact s1 _ _ hp
 refine⟨_,rfl,p,_,rfl,.inl (bA.of hp1),fun l hl=>?_⟩;have u2:=aK.aJ (o:=.lst xs) hl;have hx2:=u2 _ _ (aB (H:=H1) (a:=x) (o:=.ins PL dx [("many",V.int (m:Int))]));refine⟨_,rfl,x,PL,dx,_,rfl,hx2,T.Le.oc.cl,T.QI,(by show 1<1000;decide),?_⟩;have nl:l≠x:=(bD (aB (H:=H1) (a:=x) (o:=.ins PL dx [("many",V.int (m:Int))])) hl).symm;refine k yes m l _ h1 h6 hm ?_ ((((s1.but x).iH _).then u2).iH _) aB (by rw[aM nl];exact aB);rw[aM nl] at hl;exact s1.free hl
def yX(K:qAb)(NL PA:Addr):Sp:=fun vs H Q E=>∃(x dx p:Addr) (v:V) (as:List Addr),vs=[.ref x,v,.ref p]/\H x=some (.ins PA dx [])/\Pl K H v/\H p=some (.lst (as.map V.ref))/\iU K H as/\as.length<64 /\
 (mM 1 6 v=false->∀H',SameBut x H H'->E (.ref NL) none H')/\∀m:Int,v = .int m->mM 1 6 v=true ->
  (gY m (as.map (c5 H))=false->∀H',SameBut x H H'->E (.ref NL) none H') /\
  (gY m (as.map (c5 H))=true->∀(l:Addr) (bs:List Addr) (H':Hp),H l=none->bs.Perm as->bs.Pairwise (fun a b=>xB (kZ H a) (kZ H b))->SameBut x H H'->H' x=some (.ins PA dx [("many",v),("pairs",.ref l)])->H' l=some (.lst (bs.map V.ref))->Q .non H')
theorem Nh:aN ["self","many","pairs"] ["self","many","pairs"] (aF AJ):=#[1,2]
theorem Jz(t:Mx K "__init__" "Pairs.__init__" AJ ["self","many","pairs"] f fd)(T:#[4])(D_RI:#[1,0] 4 ["self","many"] (sW K NL) iR)(D_sorted_pairs:#[1,1] 4 "sorted_pairs" ["many","pairs"] (yV K NL) f1 fd1):
  #[1,0] 5 ["self","many","pairs"] (yX K NL PA) f:=by
 refine t.Gh Nh (by rintro _ _ _ _⟨x,dx,p,v,as,rfl,_⟩;rfl) fun _ _ _ _ H vs Q E hr h=>?_;obtain⟨x,dx,p,v,as,rfl,hx,pl,hp,ht,h64,k0,k⟩:=h;refine⟨_,(aE (cA (qP aQ.toPass #[0] T.CQ T.Lg D_RI hr #[1] (aA (pv 0) (aA (pv 1) aC))))
  (aH (fB (pv 0) (cX aQ.toPass D_sorted_pairs hr #[1] #[0] (aA (pv 1) (aA (pv 2) aC))) rfl))),?_⟩
 refine⟨_,rfl,_,rfl,x,PA,dx,v,rfl,hx,T.Lf.oc.cl,T.Lf.nm,pl,fun no=>k0 no H ((aK.refl H).but x),fun yes=>?_⟩;obtain⟨m,rfl⟩:∃m,v = .int m:=by
  cases v <;> first | (exact⟨_,rfl⟩) | (exact absurd yes qAm)
 obtain⟨k1,k2⟩:=k m rfl yes;have at_:∀b o,(∀C dx fs,o≠HO.ins C dx fs)->H b=some o->upd H x (.ins PA dx [("many",V.int m)]) b=some o:=fun b o n e=>by
  rw[aM]
  .exact e
  .rintro rfl;rw[hx] at e;exact n _ _ _ (Option.some.inj e).symm
 have hp1:=at_ _ _ (by intro _ _ _ z;cases z) hp;have ht1:iU K (upd H x (.ins PA dx [("many",V.int m)])) as:=fun a ha=>by
  obtain⟨xs,h1,h2,h3⟩:=ht a ha;exact⟨xs,at_ _ _ (by intro _ _ _ z;cases z) h1,fun v hv=>(h2 v hv).fM hx,h3⟩
 have eqm:as.map (c5 (upd H x (.ins PA dx [("many",V.int m)])))=as.map (c5 H):=ht.eq fun a xs e=>at_ _ _ (by intro _ _ _ z;cases z) e;have sb:SameBut x H (upd H x (.ins PA dx [("many",V.int m)])):=((aK.refl H).but x).iH _;refine⟨_,rfl,_,rfl,m,p,as,rfl,hp1,ht1,h64,fun no H1 s1=>?_,fun ok l bs H1 hl hb hpw s1 h1=>?_⟩
 .rw[eqm] at no;exact k1 no H1 (sb.then s1)
 rw[eqm] at ok;have hx1:=s1 _ _ (aB (H:=H) (a:=x) (o:=.ins PA dx [("many",V.int m)]));have nl:l≠x:=(bD (aB (H:=H) (a:=x) (o:=.ins PA dx [("many",V.int m)])) hl).symm;refine⟨_,rfl,x,PA,dx,_,rfl,hx1,T.Lf.oc.cl,T.QJ,(by show 1<1000;decide),?_⟩;have kyU:∀a∈as,kZ (upd H x (.ins PA dx [("many",V.int m)])) a=kZ H a:=fun a ha=>by
  obtain⟨xs,h1,_⟩:=ht a ha;delta kZ;rw[dE h1,dE (at_ _ _ (by intro _ _ _ z;cases z) h1)]
 refine k2 ok l bs _ ?_ hb (hpw.imp_of_mem fun {a b} ha hc z=>by rw[<- kyU a (hb.mem_iff.mp ha),<- kyU b (hb.mem_iff.mp hc)];exact z) ((sb.then s1).iH _) aB (by rw[aM nl];exact h1);rw[aM nl] at hl;exact hl
def CV(vq vp:V)(xs:List V):Bool:=okN xs&&iL vq&&iL vp&&(match vq with | .int q=>decide (1<=q) | _=>false)
def Fo(K:qAb)(NL VO:Addr):Sp:=fun vs H Q E=>∃(x dx p:Addr) (vq vp:V) (xs:List V),vs=[.ref x,vq,vp,.ref p]/\H x=some (.ins VO dx [])/\Pl K H vq/\Pl K H vp/\H p=some (.lst xs)/\(∀v∈xs,Pl K H v)/\xs.length<=1000 /\
 (CV vq vp xs=false->∀H',SameBut x H H'->E (.ref NL) none H') /\
 (CV vq vp xs=true->∀l H',H l=none->SameBut x H H'->H' x=some (.ins VO dx [("many",.int (xs.length:Int)),("quota",vq),("prize",vp),("weights",.ref l)])->H' l=some (.lst xs)->Q .non H')
theorem Qk:aN ["self","quota","prize","weights"] ["self","quota","prize","weights"] (aF KQ):=#[1,2]
theorem Ni(t:Mx K "__init__" "Votes.__init__" KQ ["self","quota","prize","weights"] f fd)(T:#[4])(D_RI:#[1,0] 4 ["self","many"] (sW K NL) iR)(D_check_numbers:#[1,1] 2 "check_numbers" ["things"] (uM K NL) f1 fd1):
  #[1,0] 5 ["self","quota","prize","weights"] (Fo K NL VO) f:=by
 refine t.Gh Qk (by rintro _ _ _ _⟨x,dx,p,vq,vp,xs,rfl,_⟩;rfl) fun _ _ _ _ H vs Q E hr h=>?_;obtain⟨x,dx,p,vq,vp,xs,rfl,hx,plq,plp,hp,pl,hlen,k0,k⟩:=h;refine⟨_,(aE (cA (qP aQ.toPass #[0] T.CQ T.Lg D_RI hr #[1] (aA (pv 0) (aA (aO aS #[0] T.cD bS (aA (pv 3) aC)) aC))))
  (aE (cA (cX aQ.toPass D_check_numbers hr #[1] #[0] (aA (bE (aA (pv 1) (aA (pv 2) aC))) aC)))
  (aE (cA (cX aQ.toPass D_check_numbers hr #[1] #[0] (aA (pv 3) aC)))
  (aE (bI (aL jB (pv 1) aD (aT _)) (aH (cP aQ rfl #[0] T.sT T.uL (aA aI aC))) aY)
  (aE (fB (pv 0) (pv 1) rfl)
  (aE (fB (pv 0) (pv 2) rfl)
  (aH (fB (pv 0) (dI dW #[0] T.fZ iG (aA (pv 3) aC)) rfl)))))))),?_⟩
 refine⟨_,rfl,_,rfl,p,_,rfl,.inl (bA.of hp),x,VO,dx,_,rfl,hx,T.Ec.oc.cl,T.Ec.nm,.int _,fun no=>?_,fun yes=>?_⟩
 .refine k0 ?_ H ((aK.refl H).but x);delta CV okN;rw[fY] at no;rw[no];rfl
 rw[fY] at yes;have ne:p≠x:=fE hp hx (by intro z;cases z);have hp1:upd H x (.ins VO dx [("many",V.int (xs.length:Int))]) p=some (.lst xs):=by rw[aM ne];exact hp
 have hx1:upd H x (.ins VO dx [("many",V.int (xs.length:Int))]) x=some (.ins VO dx [("many",V.int (xs.length:Int))]):=aB;have sb:SameBut x H (upd H x (.ins VO dx [("many",V.int (xs.length:Int))])):=((aK.refl H).but x).iH _;have pl1:∀v∈xs,Pl K (upd H x (.ins VO dx [("many",V.int (xs.length:Int))])) v:=fun v hv=>(pl v hv).fM hx;have plq1:Pl K (upd H x (.ins VO dx [("many",V.int (xs.length:Int))])) vq:=plq.fM hx;have plp1:Pl K (upd H x (.ins VO dx [("many",V.int (xs.length:Int))])) vp:=plp.fM hx;generalize upd H x (.ins VO dx [("many",V.int (xs.length:Int))])=H0 at hp1 hx1 sb pl1 plq1 plp1|-;refine⟨_,rfl,_,rfl,Bk,fun c hc=>?_⟩;have u1:=aK.aJ (o:=.lst [vq,vp]) hc;refine⟨c,_,rfl,.inl aB,fun v hv=>?_,by show 2<=1000;decide,fun no H1 s1=>?_,fun yes2 H1 s1=>?_⟩
 .simp only[qCk,qBs,or_false] at hv;rcases hv with rfl | rfl
  .exact plq1.same u1
  .exact plp1.same u1
 .refine k0 ?_ H1 (sb.then (u1.trans s1));have z:(iL vq&&(iL vp&&true))=false:=no;delta CV;rw[qNh] at z;rw[Bool.and_assoc (okN xs),z,qDo,qGb]
 have z:(iL vq&&(iL vp&&true))=true:=yes2;rw[qNh,qBb] at z;have t1:=u1.trans s1;refine⟨_,rfl,p,xs,rfl,.inl (t1 _ _ hp1),fun v hv=>(pl1 v hv).same t1,hlen,fun no H2 s2=>?_,fun yes3 H2 s2=>?_⟩
 .refine k0 ?_ H2 (sb.then (t1.trans s2));delta CV okN;rw[no,qDo,qGb,qGb,qGb]
 have t2:=t1.trans s2;obtain⟨q,rfl⟩:∃q,vq = .int q:=by
  cases vq <;> first | (exact⟨_,rfl⟩) | (exact absurd z.1 qAm)
 exists _,rfl,_,_,rfl,rfl,_,rfl;cases hq:decide (q<1) with
 | true =>
  refine dC ⟨kG,k0 ?_ H2 (sb.then t2)⟩;have:¬1<=q:=by have:=of_decide_eq_true hq;lia
  delta CV;show(_&&decide (1<=q))=false;rw[decide_eq_false this,qDo]
 | false =>
  have hq1:1<=q:=by have:=of_decide_eq_false hq;lia
  refine bF ?_;have hx2:=t2 _ _ hx1;refine⟨_,rfl,_,rfl,x,VO,dx,_,rfl,hx2,T.Ec.oc.cl,T.QK,(by show 1<1000;decide),?_⟩;refine⟨_,rfl,_,rfl,x,VO,dx,_,rfl,aB,T.Ec.oc.cl,T.Mt,(by show 2<1000;decide),?_⟩;have ne2:p≠x:=ne;have hp3:upd (upd H2 x (.ins VO dx [("many",V.int (xs.length:Int)),("quota",.int q)])) x (.ins VO dx [("many",V.int (xs.length:Int)),("quota",.int q),("prize",vp)]) p=some (.lst xs):=by rw[aM ne2,aM ne2];exact t2 _ _ hp1
  refine⟨_,rfl,p,_,rfl,.inl (bA.of hp3),fun l hl=>?_⟩;have hx3:upd (upd H2 x (.ins VO dx [("many",V.int (xs.length:Int)),("quota",.int q)])) x (.ins VO dx [("many",V.int (xs.length:Int)),("quota",.int q),("prize",vp)]) x=some (.ins VO dx [("many",V.int (xs.length:Int)),("quota",.int q),("prize",vp)]):=aB;have u4:=aK.aJ (o:=.lst xs) hl;have nl:l≠x:=(bD hx3 hl).symm;refine⟨_,rfl,x,VO,dx,_,rfl,u4 _ _ hx3,T.Ec.oc.cl,T.Mu,(by show 3<1000;decide),?_⟩;refine k ?_ l _ ?_ (((((sb.then t2).iH _).iH _).then u4).iH _) aB (by rw[aM nl];exact aB)
  .delta CV okN;show(_&&_&&decide (1<=q))=true;rw[yes,yes3,z.2,decide_eq_true hq1];rfl
  .rw[aM nl,aM nl] at hl;cases e:H l with
   | none=>rfl
   | some o =>
    have z:=(sb.then t2) l o nl e;rw[hl] at z;cases z
def dF(m:Nat)(H:Hp)(bs:List Addr):Prop:=(∀b∈bs,∃(u v:Nat) (n:Int),H b=some (.tup [.int (u:Int),.int (v:Int),.int n])/\u<v/\v<m)/\(bs.map fun b=>fJ (c5 H b)).Nodup/\bs.length<=15
theorem dF.same(h:dF m H bs)(s:∀b∈bs,∀o,H b=some o->H' b=some o):dF m H' bs:=by
 refine⟨fun b hb=>?_,?_,h.2.2⟩
 .obtain⟨u,v,n,e,z⟩:=h.1 b hb;exact⟨u,v,n,s b hb _ e,z⟩
 .have e:(bs.map fun b=>fJ (c5 H' b))=bs.map fun b=>fJ (c5 H b):=qIo fun b hb=>by
   obtain⟨u,v,n,e,_⟩:=h.1 b hb;rw[dE e,dE (s b hb _ e)]
  rw[e];exact h.2.1
theorem dF.yY(h:dF m H bs)(p:cs.Perm bs):dF m H cs :=
 ⟨fun b hb=>h.1 b (p.mem_iff.mp hb),((p.map _).nodup_iff).mpr h.2.1,by rw[p.length_eq];exact h.2.2⟩
theorem rE:∀{xss:List (List V)}{seen:List (Int×Int)},(∀xs∈xss,AO m xs=true)->(xss.map fJ).Nodup->(∀k∈xss.map fJ,seen.contains k=false)->f9 m seen xss=true
 | [],_,_,_,_=>rfl
 | xs::r,seen,h,hn,hs=>by
  show(AO m xs && !(seen.contains (fJ xs))&&f9 m (seen++[fJ xs]) r)=true;rw[qBo,List.nodup_cons] at hn;have ih:f9 m (seen++[fJ xs]) r=true:=rE (fun x hx=>h x (qAq _ hx)) hn.2 fun k hk=>by
   have a:=hs k (by rw[qBo];exact qAq _ hk);have ne:k≠fJ xs:=fun z=>hn.1 (z▸hk);rw[Bool.eq_false_iff] at a|-;intro z;rw[List.contains_iff_mem,qJw] at z;rcases z with z | z
   .exact a (List.contains_iff_mem.mpr z)
   .exact ne (by simpa using z)
  rw[h xs (by simp),hs (fJ xs) (by simp),ih];rfl
theorem dF.ok(h:dF m H bs):gY (m:Int) (bs.map (c5 H))=true:=by
 refine rE (fun xs hx=>?_) (by rw[qCe];exact h.2.1) (fun k _=>rfl);obtain⟨b,hb,rfl⟩:=List.mem_map.mp hx;obtain⟨u,v,n,e,z1,z2⟩:=h.1 b hb;rw[dE e];show(decide ((0:Int)<=u)&&decide ((u:Int)<v)&&decide ((v:Int)<m))=true;rw[decide_eq_true (by lia),decide_eq_true (by lia),decide_eq_true (by lia)];rfl
theorem dF.dU(h:dF m H bs):iU K H bs:=fun b hb=>by
 obtain⟨u,v,n,e,_⟩:=h.1 b hb;refine⟨_,e,fun x hx=>?_,by show 3<=1000;decide⟩;simp only[qCk,qBs,or_false] at hx;rcases hx with rfl | rfl | rfl
 .exact .int _
 .exact .int _
 .exact .int _
abbrev P3:=Nat×Nat×Int
abbrev E2:=Int×List (Nat×Nat)
def lo(g:Nat):Nat:=((jZ g).headD 0).toNat
def eW(g i:Nat):Bool:=decide (g/2^i%2=1)
def Pw(m:Nat)(ps:List P3):Prop:=(∀p∈ps,p.1<p.2.1/\p.2.1<m)/\(ps.map fun p=>(p.1,p.2.1)).Nodup
theorem lo_facts:∀g:_root_.Fin 64,g.1≠0->lo g.1<6/\eW g.1 (lo g.1)=true/\(∀k:_root_.Fin 6,k.1<lo g.1->eW g.1 k.1=false)/\jZ g.1=(lo g.1:Int)::(jZ g.1).tail/\(jZ g.1).length<=6:=by decide +kernel
theorem yZ:∀(g:_root_.Fin 64) (i k:_root_.Fin 6),eW g.1 i.1=true->2^i.1<=g.1/\eW (g.1-2^i.1) k.1=(eW g.1 k.1&&decide (k.1≠i.1)):=by decide +kernel
theorem AQ(hg:g<64)(hi:i<6)(hk:k<6)(h:eW g i=true):eW (g-2^i) k=(eW g k&&decide (k≠i)):=(yZ ⟨g,hg⟩ ⟨i,hi⟩ ⟨k,hk⟩ h).2
theorem xC(hg:g<64)(hi:i<6)(h:eW g i=true):2^i<=g:=(yZ ⟨g,hg⟩ ⟨i,hi⟩ ⟨i,hi⟩ h).1
theorem Nj(hg:g<64)(hi:i<6)(hj:j<6)(hk:k<6)(h:eW g i=true)(h2:eW g j=true)(ne:j≠i):eW (g-2^i-2^j) k=(eW g k&&decide (k≠i)&&decide (k≠j)):=by
 have z:eW (g-2^i) j=true:=by rw[AQ hg hi hj h,h2,decide_eq_true ne];rfl
 rw[AQ (qBp (qIh _ _) hg) hj hk z,AQ hg hi hk h]
def eX(B:Nat->E2)(g:Nat)(f:E2)(p:P3):E2:=if p.1=lo g/\both g p.1 p.2.1=true then (if p.2.2+(B (g-2^p.1-2^p.2.1)).1>f.1 then (p.2.2+(B (g-2^p.1-2^p.2.1)).1,(p.1,p.2.1)::(B (g-2^p.1-2^p.2.1)).2) else f) else f
def oY(B:Nat->E2)(ps:List P3)(g:Nat):E2:=ps.foldl (eX B g) (B (g-2^lo g))
def eY(ps:List P3):Nat->List E2
 | 0=>[(0,[])]
 | n+1=>eY ps n++[oY (fun i=>(eY ps n).getD i (0,[])) ps (n+1)]
def cK(ps:List P3)(g:Nat):E2:=(eY ps g).getD g (0,[])
theorem fP(ps:List P3):∀n,(eY ps n).length=n+1
 | 0=>rfl
 | n+1=>by rw[eY,qAf,fP ps n];rfl
theorem uN(ps:List P3)(n:Nat):(eY ps n)[n]?=some (cK ps n):=by
 have h:n<(eY ps n).length:=by rw[fP];lia
 delta cK;rw[qBg,qAe h];rfl
theorem mC(ps:List P3):∀{i n:Nat},i<=n->(eY ps n)[i]?=some (cK ps i)
 | i,0,h=>by
  have:i=0:=by lia
  subst this;rfl
 | i,n+1,h=>by
  rcases qBj n i with z | z
  .have:i=n+1:=by lia
   subst this;exact uN ps _
  .rw[eY,qAy (by rw[fP];lia)];exact mC ps z
theorem uO(h:∀i,i<=n->B i=B' i):oY B ps (n+1)=oY B' ps (n+1):=by
 have p1:∀k,1<=2^k:=fun k=>qHd;have e:eX B (n+1)=eX B' (n+1):=by
  funext f p
  delta eX;rw[h (n+1-2^p.1-2^p.2.1) (by have:=p1 p.1;generalize 2^p.1=x at *;generalize 2^p.2.1=y at *;lia)]
 delta oY;rw[e,h (n+1-2^lo (n+1)) (by have:=p1 (lo (n+1));generalize 2^lo (n+1)=x at *;lia)]
theorem oZ(ps:List P3)(n:Nat):cK ps (n+1)=oY (fun i=>(eY ps n).getD i (0,[])) ps (n+1):=by
 have z:=uN ps (n+1);rw[eY,qAz (by rw[fP];exact qAl _),fP,qHc] at z;exact(Option.some.inj z).symm
theorem rF(ps:List P3){g:Nat}(h:g≠0):cK ps g=oY (cK ps) ps g:=by
 obtain⟨n,rfl⟩:∃n,g=n+1:=⟨g-1,by lia⟩;rw[oZ];refine uO fun i hi=>?_;rw[qBg,mC ps hi];rfl
theorem rG{α β:Type}{f:β->α->β}{Q:β->Prop}:∀{xs:List α}{b:β},Q b->(∀b x,x∈xs->Q b->Q (f b x))->Q (xs.foldl f b)
 | [],_,h,_=>h
 | x::xs,b,h,st=>rG (xs:=xs) (st b x (by simp) h) fun b y hy=>st b y (qAq _ hy)
inductive Good (ps:List P3):Nat->Nat->Int->List (Nat×Nat)->Prop
 | nil (b g:Nat):Good ps b g 0 []
 | cons {b g i j:Nat}{n s:Int}{r:List (Nat×Nat)}:b<=i->i<j->j<6->eW g i=true->eW g j=true->(i,j,n)∈ps->Good ps (i+1) (g-2^i-2^j) s r->Good ps b g (n+s) ((i,j)::r)
theorem Good.raise(h:Good ps b g0 s r):∀(g l:Nat),g<64->l<6->eW g l=true->g0=g-2^l->Good ps b g s r:=by
 induction h with
 | nil b g0=>exact fun g l _ _ _ _=>.nil b g
 | @cons b g0 i j n s r h1 h2 h3 h4 h5 h6 _ ih =>
  intro g l hg hl hb e;subst e;rw[AQ hg hl (by lia) hb,qBb,decide_eq_true_iff] at h4;rw[AQ hg hl (by lia) hb,qBb,decide_eq_true_iff] at h5;refine .cons h1 h2 h3 h4.1 h5.1 h6 (ih _ l (qBp (qAk (qIh _ _) (qIh _ _)) hg) hl ?_ ?_)
  .have n1:l≠i:=fun z=>h4.2 z.symm;have n2:l≠j:=fun z=>h5.2 z.symm;rw[Nj hg (by lia) h3 hl h4.1 h5.1 (by lia),hb,decide_eq_true n1,decide_eq_true n2];rfl
  .generalize 2^i=x;generalize 2^j=y;generalize 2^l=z;lia
theorem Good.lift(h:Good ps b g s r)(z:∀k,k<b'->k<6->eW g k=false):Good ps b' g s r:=by
 cases h with
 | nil=>exact .nil _ _
 | @cons _ _ i j n s r h1 h2 h3 h4 h5 h6 h7 =>
  refine .cons (qMu fun q=>?_) h2 h3 h4 h5 h6 h7;rw[z i q (by lia)] at h4;exact qAm h4
theorem AR{ps:List P3}(hp:∀p∈ps,p.1<p.2.1/\p.2.1<6):∀g,g<64->Good ps 0 g (cK ps g).1 (cK ps g).2:=by
 intro g;induction g using qMv with
 | ind g ih =>
  intro hg;rcases qFs g with rfl | pos
  .exact .nil _ _
  have ne:g≠0:=by lia
  obtain⟨l6,lb,lmin,_⟩:=lo_facts ⟨g,hg⟩ ne;have l6:lo g<6:=l6;have lb:eW g (lo g)=true:=lb;have p1:∀k,1<=2^k:=fun k=>qHd;rw[rF ps ne];delta oY;refine rG (Q:=fun f:E2=>Good ps 0 g f.1 f.2) ?_ fun f p hm hf=>?_
  .have q1:=p1 (lo g);exact(ih (g-2^lo g) (by generalize 2^lo g=x at *;lia) (by generalize 2^lo g=x at *;lia)).raise g (lo g) hg l6 lb rfl
  .delta eX;split
   .rename_i c;split
    .obtain⟨i,j,n⟩:=p;obtain⟨c1,c2⟩:=c;have c1:i=lo g:=c1;obtain⟨h1,h2⟩:=hp _ hm;have h1:i<j:=h1;have h2:j<6:=h2;have c2:(eW g i&&eW g j)=true:=c2;rw[qBb] at c2;have q1:=p1 i;refine .cons (qBn _) h1 h2 c2.1 c2.2 hm ((ih (g-2^i-2^j) ?_ ?_).lift fun k hk k6=>?_)
     .show g-2^i-2^j<g;generalize 2^i=x at *;generalize 2^j=y at *;lia
     .show g-2^i-2^j<64;generalize 2^i=x at *;generalize 2^j=y at *;lia
     .rw[Nj hg (by lia) h2 k6 c2.1 c2.2 (by lia)];rcases qBj k (lo g) with z | z
      .have y:eW g k=false:=lmin ⟨k,k6⟩ z;rw[y];rfl
      .have:k=i:=by lia
       rw[decide_eq_false (fun q=>q this),qDo];rfl
    .exact hf
   .exact hf
inductive A2 {α:Type} (R:Addr->α->Prop):List Addr->List α->Prop
 | nil:A2 R [] []
 | cons {a:Addr}{x:α}{as:List Addr}{xs:List α}:R a x->A2 R as xs->A2 R (a::as) (x::xs)
theorem A2.len(h:A2 R as xs):as.length=xs.length:=by
 induction h with
 | nil=>rfl
 | cons _ _ ih=>rw[qAn,qAn,ih]
theorem A2.imp(h:A2 R as xs)(f:∀a x,R a x->S a x):A2 S as xs:=by
 induction h with
 | nil=>exact .nil
 | cons r _ ih=>exact .cons (f _ _ r) ih
theorem A2.at(h:A2 R as xs):∀{i:Nat}{a:Addr},as[i]?=some a->∃x,xs[i]?=some x/\R a x:=by
 induction h with
 | nil=>intro i a e;simp at e
 | cons r _ ih =>
  intro i b e;cases i with
  | zero=>simp only[qKm,Option.some.injEq] at e;subst e;exact⟨_,rfl,r⟩
  | succ i=>rw[qKn] at e;exact ih e
theorem A2.get{α:Type}{R:Addr->α->Prop}{as:List Addr}{xs:List α}(h:A2 R as xs):∀{i:Nat}{x:α},xs[i]?=some x->∃a,as[i]?=some a/\R a x:=by
 induction h with
 | nil=>intro i a e;simp at e
 | cons r _ ih =>
  intro i b e;cases i with
  | zero=>simp only[qKm,Option.some.injEq] at e;subst e;exact⟨_,rfl,r⟩
  | succ i=>rw[qKn] at e;exact ih e
theorem A2.snoc(h:A2 R as xs)(r:R a x):A2 R (as++[a]) (xs++[x]):=by
 induction h with
 | nil=>exact .cons r .nil
 | cons r' _ ih=>exact .cons r' ih
def dR(H:Hp)(b:Addr)(p:P3):Prop:=H b=some (.tup [.int (p.1:Int),.int (p.2.1:Int),.int p.2.2])
def OK(H:Hp)(b:Addr)(d:Nat×Nat):Prop:=H b=some (.tup [.int (d.1:Int),.int (d.2:Int)])
def zA(H:Hp)(t:Addr)(e:E2):Prop:=∃(q:Addr) (rs:List Addr),H t=some (.tup [.int e.1,.ref q])/\H q=some (.tup (rs.map V.ref))/\A2 (OK H) rs e.2
theorem dR.keep(h:dR H b p)(s:fI H H'):dR H' b p:=s _ _ h
theorem OK.keep(h:OK H b p)(s:fI H H'):OK H' b p:=s _ _ h
theorem zA.keep(h:zA H b e)(s:fI H H'):zA H' b e :=
 let ⟨q,rs,h1,h2,h3⟩:=h;⟨q,rs,s _ _ h1,s _ _ h2,h3.imp fun _ _ h=>h.keep s⟩
theorem dF.list:∀{bs:List Addr},(∀b∈bs,∃(u v:Nat) (n:Int),H b=some (.tup [.int (u:Int),.int (v:Int),.int n])/\u<v/\v<m)->∃ps,A2 (dR H) bs ps/\(∀p∈ps,p.1<p.2.1/\p.2.1<m)/\(bs.map fun b=>fJ (c5 H b))=ps.map fun p=>((p.1:Int),(p.2.1:Int))
 | [],_=>⟨[],.nil,fun _ h=>(qBs h).elim,rfl⟩
 | b::bs,h=>by
  obtain⟨ps,h1,h2,h3⟩:=dF.list (bs:=bs) fun c hc=>h c (qAq _ hc);obtain⟨u,v,n,e,z⟩:=h b (by simp);refine⟨(u,v,n)::ps,.cons e h1,fun p hp=>?_,?_⟩
  .rcases List.mem_cons.mp hp with rfl | hp
   .exact z
   .exact h2 p hp
  .rw[qBo,qBo,h3,dE e];rfl
theorem dF.pw(h:dF m H bs):∃ps,A2 (dR H) bs ps/\Pw m ps:=by
 obtain⟨ps,h1,h2,h3⟩:=dF.list h.1;exists ps,h1,h2;have nd:=h.2.1;rw[h3] at nd;have e:(ps.map fun p=>((p.1:Int),(p.2.1:Int)))=(ps.map fun p=>(p.1,p.2.1)).map fun q=>((q.1:Int),(q.2:Int)):=by rw[qCe];rfl
 rw[e] at nd;refine List.Pairwise.of_map _ (fun a b ne=>?_) nd;rintro rfl;exact ne rfl
theorem zB{as:List Addr}{i:Nat}{a:Addr}(h:as[i]?=some a):iT (as.map V.ref) (i:Int)=some (.ref a):=bP (by rw[qAs,h];rfl)
theorem at_of{as:List Addr}{i:Nat}{x:V}(h:(as.map V.ref)[i]?=some x):∃a,as[i]?=some a/\x = .ref a:=by
 rw[qAs] at h;cases e:as[i]? with
 | none=>rw[e] at h;cases h
 | some y=>rw[e] at h;exact⟨y,rfl,(Option.some.inj h).symm⟩
theorem uP{H:Hp}{ts:List Addr}{ps:List P3}{n i:Nat}(h:A2 (zA H) ts (eY ps n))(hi:i<=n):∃t,ts[i]?=some t/\zA H t (cK ps i):=h.get (mC ps hi)
theorem Good.len(h:Good ps b g s r)(hb:b<=6):r.length+b<=6:=by
 induction h with
 | nil b g=>simpa using hb
 | @cons b g i j n s r h1 h2 h3 _ _ _ _ ih =>
  have:=ih (by lia);rw[qAn];lia
theorem AS:∀i:_root_.Fin 6,alone i.1=((2^i.1:Nat):Int):=by decide
theorem mD{i:Nat}(h:i<6):iT (jD.map V.int) (i:Int)=some (.int ((2^i:Nat):Int)):=by
 have z:=kY (i:=(i:Int)) (by lia) (by lia);rw[qEn,AS ⟨i,h⟩] at z;exact z
theorem AU{α β:Type}{f:β->α->β}{b:β}{xs:List α}{i:Nat}{x:α}(h:xs[i]?=some x):(xs.take (i+1)).foldl f b=f ((xs.take i).foldl f b) x:=by
 rw[List.take_succ,h,List.foldl_append];rfl
def Nk:Sp:=fun vs H Q _=>∃(lb lp:Addr) (ts bs:List Addr) (ps:List P3) (n:Nat),vs=[.ref lb,.ref lp,.int ((n+1:Nat):Int)]/\H lb=some (.lst (ts.map V.ref))/\A2 (zA H) ts (eY ps n)/\H lp=some (.lst (bs.map V.ref))/\A2 (dR H) bs ps/\(∀p∈ps,p.1<p.2.1/\p.2.1<6)/\n+1<64 /\
 ∀t H',aK H H'->zA H' t (cK ps (n+1))->Q (.ref t) H'
theorem uQ:aN ["best","pairs","group","least","found","one","other","number","rest"] ["best","pairs","group"] (aF PQ):=#[1,2]
theorem Nm{f1 f2:Addr}{fd1 fd2:qBy}(t:Tx K mg "best_of_group" PQ ["best","pairs","group"] f fd)(T:#[4])(D_hands_of:#[1,1] 4 "hands_of" ["group"] (Gy K NG) f1 fd1)(D_has_both:#[5] 1 "has_both" ["group","one","other"] MY f2 fd2):
  #[5] 5 "best_of_group" ["best","pairs","group"] Nk f fd:=by
 refine t.mX uQ (by rintro _ _ _ _⟨lb,lp,ts,bs,ps,n,rfl,_⟩;rfl) fun _ _ _ _ H vs Q E hr h=>?_;obtain⟨lb,lp,ts,bs,ps,n,rfl,hlb,hts,hlp,hbs,hps,hn,k⟩:=h;refine⟨_,(aE (aX (i:=3) uQ.nd rfl cO (bH bY (cX kM D_hands_of hr #[1] #[0] (aA (pv 2) aC)) aD #[6]))
  (aE (aX (i:=4) uQ.nd rfl cO (bH bY (pv 0) (aG fA (pv 2) (bH dB (bO (v:=.ref AL) #[0] T.AM rfl) (pv 3) #[6])) #[6]))
  (aE (hX #[9] rfl (cU (pv 1)) (j5 rfl (cC (bC (i:=5) uQ.nd rfl cO) (cC (bC (i:=6) uQ.nd rfl cO) (cC (bC (i:=7) uQ.nd rfl cO) hW))))
   (aH (bI (PW.pt (pw_and (aL bU (pv 5) (pv 3) (aT _)) (pw_and1 (eL (bN D_has_both hr #[1] #[0] (aA (pv 2) (aA (pv 5) (aA (pv 6) aC)))))))) (aE (aX (i:=8) uQ.nd rfl cO (bH bY (pv 0) (aG fA (aG fA (pv 2) (bH dB (bO (v:=.ref AL) #[0] T.AM rfl) (pv 5) #[6])) (bH dB (bO (v:=.ref AL) #[0] T.AM rfl) (pv 6) #[6])) #[6]))
    (aH (bI (aL nR (aG bQ (pv 7) (bH dB (pv 8) aD #[6])) (bH dB (pv 4) aD #[6]) (aT _)) (aH (aX (i:=4) uQ.nd rfl cO (eR (aA (aG bQ (pv 7) (bH dB (pv 8) aD #[6])) (aA (aG Eu (eR (aA (eR (aA (pv 5) (aA (pv 6) aC))) aC)) (bH dB (pv 8) aD #[6])) aC))))) aY))) aY)))
  (aH (aU (pv 4)))))),?_⟩
 have p1:∀k,1<=2^k:=fun k=>qHd;have ne:n+1≠0:=by lia
 obtain⟨l6,lb1,lmin,hh,_⟩:=lo_facts ⟨n+1,hn⟩ ne;have l6:lo (n+1)<6:=l6;have lb1:eW (n+1) (lo (n+1))=true:=lb1;have hh:jZ (n+1)=(lo (n+1):Int)::(jZ (n+1)).tail:=hh;have hle:=xC hn l6 lb1;refine⟨_,rfl,_,rfl,.int _,fun no=>?_,fun g l H1 eg hg hl s1 h1=>?_⟩
 .have z:=Ff (g:=n+1) (m:=6) hn;rw[z] at no;cases no
 have eg:g=n+1:=by have:=V.int.inj eg;lia
 subst eg;rw[hh] at h1;obtain⟨t0,ht0,e0⟩:=uP hts (i:=n+1-2^lo (n+1)) (by have:=p1 (lo (n+1));generalize 2^lo (n+1)=x at *;lia);have hat:iT (ts.map V.ref) (((n+1:Nat):Int)-((2^lo (n+1):Nat):Int))=some (.ref t0):=by
  rw[<- qKu hle];exact zB ht0
 exists l,_,_,_,rfl,rfl,bA.of h1,bP (xs:=((lo (n+1):Int)::(jZ (n+1)).tail).map V.int) (j:=0) (v:=V.int (lo (n+1):Int)) rfl;exists _,rfl,_,rfl,_,rfl,AL,_,_,_,rfl,rfl,T.al _,mD l6,_,_,rfl,rfl,lb,_,_,_,rfl,rfl,bA.of (s1 _ _ hlb),hat;exists _,rfl,lp,rfl,⟨_,bA.of (s1 _ _ hlp)⟩;refine nQ (xs:=bs.map V.ref) (fun i σ' H'=>aK H H'/\∃(tf:Addr) (o5 o6 o7 o8:Option V),zA H' tf ((ps.take i).foldl (eX (cK ps) (n+1)) (cK ps (n+1-2^lo (n+1))))/\σ'=[some (.ref lb),some (.ref lp),some (.int ((n+1:Nat):Int)),some (.int (lo (n+1):Int)),some (.ref tf),o5,o6,o7,o8]) ?_ ?_ ?_ ?_
 .exact⟨s1,t0,none,none,none,none,e0.keep s1.t,rfl⟩
 .rintro i σ' H' _ ⟨s2,_⟩;exact bA.of (s2 _ _ hlp)
 .rintro i x σ' H2 hx ⟨s2,tf,o5,o6,o7,o8,ef,rfl⟩;obtain⟨b,hb,rfl⟩:=at_of hx;obtain⟨⟨u,v,c⟩,hp,ep⟩:=hbs.at hb;obtain⟨huv,hv⟩:=hps _ (qAp hp);have huv:u<v:=huv;have hv:v<6:=hv;have tk:=AU (f:=eX (cK ps) (n+1)) (b:=cK ps (n+1-2^lo (n+1))) hp;exists b,_,rfl,eQ.of (s2 _ _ ep),rfl,_,_,rfl,_,_,rfl,_,_,rfl,rfl;have iY:eX (cK ps) (n+1) ((ps.take i).foldl (eX (cK ps) (n+1)) (cK ps (n+1-2^lo (n+1)))) (u,v,c)=(ps.take i).foldl (eX (cK ps) (n+1)) (cK ps (n+1-2^lo (n+1)))->zA H2 tf ((ps.take (i+1)).foldl (eX (cK ps) (n+1)) (cK ps (n+1-2^lo (n+1)))):=fun z=>by
   rw[tk,z];exact ef
  generalize hF:(ps.take i).foldl (eX (cK ps) (n+1)) (cK ps (n+1-2^lo (n+1)))=F at *;exists _,rfl,_,rfl,rfl,_,rfl;refine b7 (fun h3=>?_) (fun h3=>?_)
  .have c1:u=lo (n+1):=by have:=V.int.inj (of_decide_eq_true h3);lia
   exists _,rfl,_,rfl,_,rfl,n+1,u,v,rfl,hn,by lia,hv,_,rfl;refine b7 (fun h4=>?_) (fun h4=>?_)
   .have h4:both (n+1) u v=true:=h4;have h4':(eW (n+1) u&&eW (n+1) v)=true:=h4;rw[qBb] at h4';have w1:2^u<=n+1:=xC hn (by lia) h4'.1;have w2:2^v<=n+1-2^u:=xC (qBp (qIh _ _) hn) hv (by rw[AQ hn (by lia) hv h4'.1,h4'.2,decide_eq_true (show v≠u by lia)];rfl);obtain⟨tr,htr,er⟩:=uP hts (i:=n+1-2^u-2^v) (by have:=p1 u;generalize 2^u=x at *;generalize 2^v=y at *;lia);have hat2:iT (ts.map V.ref) (((n+1:Nat):Int)-((2^u:Nat):Int)-((2^v:Nat):Int))=some (.ref tr):=by
     rw[<- qKu w1,<- qKu w2];exact zB htr
    obtain⟨rq,rr,r1,r2,r3⟩:=er.keep s2.t;obtain⟨fq,fr,g1,g2,g3⟩:=ef;have gl:(cK ps (n+1-2^u-2^v)).2.length+0<=6:=(AR hps (n+1-2^u-2^v) (qBp (qAk (qIh _ _) (qIh _ _)) hn)).len (by lia);exists _,rfl,_,rfl,_,rfl,AL,_,_,_,rfl,rfl,T.al _,mD (by lia),_,_,rfl,rfl,_,rfl,AL,_,_,_,rfl,rfl,T.al _,mD hv,_,_,rfl,rfl,lb,_,_,_,rfl,rfl,bA.of (s2 _ _ hlb),hat2;exists _,rfl,_,rfl,tr,_,_,_,rfl,rfl,eQ.of r1,rfl,_,_,rfl,rfl,_,rfl,tf,_,_,_,rfl,rfl,eQ.of g1,rfl,_,_,rfl,rfl,_,rfl;refine b7 (fun h5=>?_) (fun h5=>?_)
    .have h5:c+(cK ps (n+1-2^u-2^v)).1>F.1:=of_decide_eq_true h5;have eF:eX (cK ps) (n+1) F (u,v,c)=(c+(cK ps (n+1-2^u-2^v)).1,(u,v)::(cK ps (n+1-2^u-2^v)).2):=by
      delta eX;rw[if_pos ⟨c1,h4⟩,if_pos h5]
     rw[eF] at tk;refine⟨_,rfl,_,rfl,tr,_,_,_,rfl,rfl,eQ.of r1,rfl,_,_,rfl,rfl,_,rfl,_,rfl,Bk,fun t1 ht1=>⟨kG,fun t2 ht2=>?_⟩⟩;have u1:=aK.aJ (o:=.tup [V.int (u:Int),V.int (v:Int)]) ht1;have u2:=aK.aJ (o:=.tup [V.ref t1]) ht2;have u12:=u1.trans u2;have d1:=u2 _ _ (aB (H:=H2) (a:=t1) (o:=.tup [V.int (u:Int),V.int (v:Int)]));have fin:∀(p:Addr) (H3:Hp),aK (upd (upd H2 t1 (.tup [V.int (u:Int),V.int (v:Int)])) t2 (.tup [V.ref t1])) H3->H3 p=some (.tup ((t1::rr).map V.ref))->∀tt,H3 tt=none->zA (upd H3 tt (.tup [.int (c+(cK ps (n+1-2^u-2^v)).1),.ref p])) tt ((ps.take (i+1)).foldl (eX (cK ps) (n+1)) (cK ps (n+1-2^lo (n+1))))/\aK H (upd H3 tt (.tup [.int (c+(cK ps (n+1-2^u-2^v)).1),.ref p])):=fun p H3 s3 hp3 tt htt=>by
      have u3:=aK.aJ (o:=.tup [.int (c+(cK ps (n+1-2^u-2^v)).1),.ref p]) htt;rw[tk];refine⟨⟨p,t1::rr,aB,u3 _ _ hp3,.cons (u3 _ _ (s3 _ _ d1)) (r3.imp fun _ _ z=>z.keep ((u12.trans s3).trans u3).t)⟩,((s2.trans u12).trans s3).trans u3⟩
     refine⟨_,rfl,tr,_,_,_,rfl,rfl,eQ.of (u12 _ _ r1),rfl,t2,rq,_,_,rfl,rfl,eQ.of aB,eQ.of (u12 _ _ r2),by simp,?_,fun e=>?_,fun e p hp=>?_⟩
     .rw[qAa,r3.len];show 1+_<=qAg;exact qAk (m:=7) (by lia) #[1]
     .refine⟨Bk,fun tt htt=>?_⟩;have e':rr=[]:=by simpa using e
      subst e';obtain⟨q1,q2⟩:=fin t2 _ (.refl _) aB tt htt;exact⟨q2,tt,_,_,_,_,q1,rfl⟩
     .refine⟨Bk,fun tt htt=>?_⟩;obtain⟨q1,q2⟩:=fin p _ (.aJ hp) aB tt htt;exact⟨q2,tt,_,_,_,_,q1,rfl⟩
    .have h5:¬c+(cK ps (n+1-2^u-2^v)).1>F.1:=fun z=>h5 (decide_eq_true z);refine⟨s2,tf,_,_,_,_,iY ?_,rfl⟩;delta eX;rw[if_pos ⟨c1,h4⟩,if_neg h5]
   .have h4:¬both (n+1) u v=true:=h4;refine⟨s2,tf,_,_,_,_,iY ?_,rfl⟩;delta eX;rw[if_neg fun z=>h4 z.2]
  .have c1:¬u=lo (n+1):=fun z=>h3 (decide_eq_true (by rw[z]));refine bF ?_;refine⟨s2,tf,_,_,_,_,iY ?_,rfl⟩;delta eX;rw[if_neg fun z=>c1 z.1]
 .rintro σ' H2 ⟨s2,tf,o5,o6,o7,o8,ef,rfl⟩;rw[qAa,hbs.len,qJk] at ef;exact⟨_,rfl,k tf H2 s2 (by rw[rF ps ne];exact ef)⟩
def Np:Sp:=fun vs H Q _=>∃(lp:Addr) (bs:List Addr) (ps:List P3) (m:Nat),vs=[.int (m:Int),.ref lp]/\H lp=some (.lst (bs.map V.ref))/\A2 (dR H) bs ps/\(∀p∈ps,p.1<p.2.1/\p.2.1<6)/\1<=m/\m<=6 /\
 ∀(l:Addr) (ts:List Addr) (H':Hp),H l=none->aK H H'->H' l=some (.lst (ts.map V.ref))->A2 (zA H') ts (eY ps (2^m-1))->Q (.ref l) H'
theorem JA:aN ["many","pairs","best","group"] ["many","pairs"] (aF PR):=#[1,2]
theorem Nq(t:Tx K mg "best_pairings" PR ["many","pairs"] f fd)(T:#[4])(D_whole_company:#[5] 1 "whole_company" ["many"] Jo f1 fd1)(D_best_of_group:#[5] 5 "best_of_group" ["best","pairs","group"] Nk f2 fd2):
  #[5] 6 "best_pairings" ["many","pairs"] Np f fd:=by
 refine t.mX JA (by rintro _ _ _ _⟨lp,bs,ps,m,rfl,_⟩;rfl) fun _ _ _ _ H vs Q E hr h=>?_;obtain⟨lp,bs,ps,m,rfl,hlp,hbs,hps,m1,m6,k⟩:=h;refine⟨_,(aE (aX (i:=2) JA.nd rfl cO (bE (aA (eR (aA aD (aA (eR aC) aC))) aC)))
  (aE (hX #[9] rfl (lL #[0] T.eV (aA aD (aA (aG bQ (bN D_whole_company hr #[1] #[0] (aA (pv 0) aC)) aD) aC))) (bC (i:=3) JA.nd rfl cO)
   (aH (cA (dP qEm qEi qEh fU (pv 2) (aA (bN D_best_of_group hr #[1] #[0] (aA (pv 2) (aA (pv 1) (aA (pv 3) aC)))) aC)))))
  (aH (aU (pv 2))))),?_⟩
 have h64:2^m<=64:=qEj (n:=2) #[1] m6;have h2:1<=2^m:=qHd;refine⟨by show 0<=qAg;decide,fun te hte=>⟨Bk,fun t0 ht0=>⟨kG,fun l hl=>?_⟩⟩⟩;have u1:=aK.aJ (o:=.tup []) hte;have u2:=aK.aJ (o:=.tup [V.int 0,V.ref te]) ht0;have u3:=aK.aJ (o:=.lst [V.ref t0]) hl;have s0:=(u1.trans u2).trans u3;have l0:H l=none:=(u1.trans u2).free hl;have e0:zA (upd (upd (upd H te (.tup [])) t0 (.tup [V.int 0,V.ref te])) l (.lst [V.ref t0])) t0 ((0,[]):E2):=⟨te,[],u3 _ _ aB,u3 _ _ (u2 _ _ aB),.nil⟩;have hl0:upd (upd (upd H te (.tup [])) t0 (.tup [V.int 0,V.ref te])) l (.lst [V.ref t0]) l=some (.lst ([t0].map V.ref)):=aB;generalize upd (upd (upd H te (.tup [])) t0 (.tup [V.int 0,V.ref te])) l (.lst [V.ref t0])=H1 at s0 e0 hl0|-;clear u1 u2 u3 hte ht0 hl;have e2:((2:Int)^m-1+1-1).toNat=2^m-1:=by
  have e:((2^m:Nat):Int)=2^m:=by push_cast;rfl
  lia
 have e3:((2^m:Nat):Int)=2^m:=by push_cast;rfl
 refine⟨_,rfl,m,rfl,m6,fun H2 s2=>⟨_,_,rfl,rfl,1,_,rfl,⟨by decide,by decide,by lia,by lia⟩,?_⟩⟩;rw[e2];refine gQ (n:=2^m-1) (fun i σ' H'=>aK H H'/\∃(ts:List Addr) (o3:Option V),H' l=some (.lst (ts.map V.ref))/\A2 (zA H') ts (eY ps i)/\σ'=[some (.int (m:Int)),some (.ref lp),some (.ref l),o3]) ?_ ?_ ?_
 .exact⟨s0.trans s2,[t0],none,s2 _ _ hl0,.cons (e0.keep s2.t) .nil,rfl⟩
 .rintro i σ' H3 hi ⟨s3,ts,o3,h3,h4,rfl⟩;refine⟨_,rfl,.inl ⟨rfl,_,bA.of h3⟩,_,rfl,_,rfl,_,rfl,l,lp,ts,bs,ps,i,?_,h3,h4,s3 _ _ hlp,hbs.imp fun _ _ z=>z.keep s3.t,hps,by lia,fun tn H4 s4 e4=>?_⟩
  .show [V.ref l,V.ref lp,V.int (1+(i:Int))]=_;rw[show(1:Int)+(i:Int)=((i+1:Nat):Int) by lia]
  refine⟨l,_,_,rfl,rfl,s4 _ _ h3,?_,(s3.trans s4).upd_ne' l0,ts++[tn],_,by rw[aB,qCt];rfl,?_,rfl⟩
  .rw[qAa,h4.len,fP];exact bL (by lia)
  .have kt:fI H4 (upd H4 l (.lst (ts.map V.ref++[V.ref tn]))):=fI.lst (s4 _ _ h3);have z:eY ps (i+1)=eY ps i++[cK ps (i+1)]:=by rw[oZ];rfl
   rw[z];exact(h4.imp fun _ _ z=>z.keep (fun b xs e=>kt _ _ (s4 _ _ e))).snoc (e4.keep kt)
 .rintro σ' H3 ⟨s3,ts,o3,h3,h4,rfl⟩;exact⟨_,rfl,k l ts H3 l0 s3 h3 h4⟩
theorem A2.mem(h:A2 R as xs):(∀a∈as,∃x∈xs,R a x)/\∀x∈xs,∃a∈as,R a x:=by
 induction h with
 | nil=>exact⟨fun _ h=>(qBs h).elim,fun _ h=>(qBs h).elim⟩
 | cons r _ ih =>
  refine⟨fun a ha=>?_,fun x hx=>?_⟩
  .rcases List.mem_cons.mp ha with rfl | ha
   .exact⟨_,by simp,r⟩
   .obtain⟨x,hx,e⟩:=ih.1 a ha;exact⟨x,qAq _ hx,e⟩
  .rcases List.mem_cons.mp hx with rfl | hx
   .exact⟨_,by simp,r⟩
   .obtain⟨a,ha,e⟩:=ih.2 x hx;exact⟨a,qAq _ ha,e⟩
theorem dR.eq(h:dR H b p)(h':dR H b p'):p=p':=by
 obtain⟨u,v,n⟩:=p;obtain⟨u',v',n'⟩:=p';have z:some (HO.tup [.int (u:Int),.int (v:Int),.int n])=some (HO.tup [.int (u':Int),.int (v':Int),.int n']):=h.symm.trans h';have z:=HO.tup.inj (Option.some.inj z);simp only[List.cons.injEq,V.int.injEq,and_true] at z;obtain⟨z1,z2,z3⟩:=z;rw[show u=u' by lia,show v=v' by lia,z3]
def kC(ps:List P3):Prop:=ps.Pairwise fun p q=>p.1<q.1\/p.1=q.1/\p.2.1<q.2.1
theorem dR.ky(h:dR H b p):kZ H b=((p.1:Int),(p.2.1:Int)):=by
 delta kZ;rw[dE (show H b=some (.tup [.int (p.1:Int),.int (p.2.1:Int),.int p.2.2]) from h)];rfl
theorem A2.JB(h:A2 R bs ps):∀p∈ps,∃b∈bs,R b p:=by
 induction h with
 | nil=>intro p hp;cases hp
 | cons r _ ih =>
  intro p hp;rcases List.mem_cons.mp hp with rfl | hp
  .exact⟨_,qAr,r⟩
  .obtain⟨b,hb,z⟩:=ih p hp;exact⟨b,qAq _ hb,z⟩
theorem A2.Bh(h:A2 (dR H) bs ps)(s:bs.Pairwise fun a b=>xB (kZ H a) (kZ H b)):kC ps:=by
 delta kC;induction h with
 | nil=>exact .nil
 | cons r t ih =>
  rw[qJa] at s|-;refine⟨fun p hp=>?_,ih s.2⟩;obtain⟨b,hb,z⟩:=t.JB p hp;have y:=s.1 b hb;rw[r.ky,z.ky] at y;delta xB at y;dsimp only at y;lia
theorem JC{H H':Hp}{bs:List Addr}(t:fI H H')(ht:∀a∈bs,∃xs,H a=some (.tup xs))(h:bs.Pairwise fun a b=>xB (kZ H a) (kZ H b)):bs.Pairwise fun a b=>xB (kZ H' a) (kZ H' b):=by
 have e:∀a∈bs,kZ H' a=kZ H a:=fun a ha=>by
  obtain⟨xs,hx⟩:=ht a ha;delta kZ;rw[dE hx,dE (t a xs hx)]
 refine h.imp_of_mem fun {a b} ha hb z=>?_;rw[e a ha,e b hb];exact z
def Nr(MA:Addr)(H:Hp)(a lb:Addr)(m:Nat)(ps:List P3):Prop:=∃(dx l:Addr) (ts:List Addr),H a=some (.ins MA dx [("many",.int (m:Int)),("pairs",.ref l),("best",.ref lb)])/\H lb=some (.lst (ts.map V.ref))/\A2 (zA H) ts (eY ps (2^m-1))/\1<=m/\m<=6/\Pw m ps
theorem Pw.six(h:Pw m ps)(h6:m<=6):Pw 6 ps:=⟨fun p hp=>let ⟨a,b⟩:=h.1 p hp;⟨a,by lia⟩,h.2⟩
def Fp(K:qAb)(NL MA:Addr):Sp:=fun vs H Q E=>∃(x dx p:Addr) (v:V) (as:List Addr),vs=[.ref x,v,.ref p]/\H x=some (.ins MA dx [])/\Pl K H v/\H p=some (.lst (as.map V.ref))/\iU K H as/\as.length<64 /\
 ((mM 1 6 v=false/\∀H',SameBut x H H'->E (.ref NL) none H')\/∃m:Nat,v = .int (m:Int)/\1<=m/\m<=6/\((gY (m:Int) (as.map (c5 H))=false/\∀H',SameBut x H H'->E (.ref NL) none H')\/dF m H as /\
 ∀(l lb:Addr) (bs:List Addr) (ps:List P3) (H':Hp),H lb=none->bs.Perm as->SameBut x H H'->A2 (dR H') bs ps->Nr MA H' x lb m ps->(∃dx,H' x=some (.ins MA dx [("many",.int (m:Int)),("pairs",.ref l),("best",.ref lb)]))->H' l=some (.lst (bs.map V.ref))->kC ps->H l=none->Q .non H'))
theorem Ql:aN ["self","many","pairs"] ["self","many","pairs"] (aF KS):=#[1,2]
theorem Nt{f1 f2:Addr}{fd1 fd2:qBy}(t:Mx K "__init__" "Match.__init__" KS ["self","many","pairs"] f fd)(T:#[4])(D_RI:#[1,0] 4 ["self","many"] (sW K NL) iR)(D_sorted_pairs:#[1,1] 4 "sorted_pairs" ["many","pairs"] (yV K NL) f1 fd1)(D_best_pairings:#[5] 6 "best_pairings" ["many","pairs"] Np f2 fd2):
  #[1,0] 7 ["self","many","pairs"] (Fp K NL MA) f:=by
 refine t.Gh Ql (by rintro _ _ _ _⟨x,dx,p,v,as,rfl,_⟩;rfl) fun _ _ _ _ H vs Q E hr h=>?_;obtain⟨x,dx,p,v,as,rfl,hx,pl,hp,ht,h64,k⟩:=h;refine⟨_,(aE (cA (qP aQ.toPass #[0] T.CQ T.Lg D_RI hr #[1] (aA (pv 0) (aA (pv 1) aC))))
  (aE (fB (pv 0) (cX aQ.toPass D_sorted_pairs hr #[1] #[0] (aA (pv 1) (aA (pv 2) aC))) rfl)
  (aH (fB (pv 0) (bN D_best_pairings hr #[1] #[0] (aA (pv 1) (aA (eM (pv 0) rfl) aC))) rfl)))),?_⟩
 refine⟨_,rfl,_,rfl,x,MA,dx,_,rfl,hx,T.Gv.oc.cl,T.Gv.nm,pl,fun no=>?_,fun yes=>?_⟩
 .rcases k with ⟨_,k⟩ | ⟨m,rfl,m1,m6,_⟩
  .exact k H ((aK.refl H).but x)
  .rw[fY,decide_eq_true m1,decide_eq_true m6] at no;cases no
 rcases k with ⟨no,_⟩ | ⟨m,rfl,m1,m6,k⟩
 .rw[no] at yes;cases yes
 have at_:∀b o,(∀C dx fs,o≠HO.ins C dx fs)->H b=some o->upd H x (.ins MA dx [("many",V.int (m:Int))]) b=some o:=fun b o n e=>by
  rw[aM]
  .exact e
  .rintro rfl;rw[hx] at e;exact n _ _ _ (Option.some.inj e).symm
 have hp1:=at_ _ _ (by intro _ _ _ z;cases z) hp;have ht1:iU K (upd H x (.ins MA dx [("many",V.int (m:Int))])) as:=fun a ha=>by
  obtain⟨xs,h1,h2,h3⟩:=ht a ha;exact⟨xs,at_ _ _ (by intro _ _ _ z;cases z) h1,fun v hv=>(h2 v hv).fM hx,h3⟩
 have eqm:as.map (c5 (upd H x (.ins MA dx [("many",V.int (m:Int))])))=as.map (c5 H):=ht.eq fun a xs e=>at_ _ _ (by intro _ _ _ z;cases z) e;have sb:SameBut x H (upd H x (.ins MA dx [("many",V.int (m:Int))])):=((aK.refl H).but x).iH _;refine⟨_,rfl,_,rfl,(m:Int),p,as,rfl,hp1,ht1,h64,fun no H1 s1=>?_,fun yes l bs H1 hl hb hpw s1 h1=>?_⟩
 .rw[eqm] at no;rcases k with ⟨_,k⟩ | ⟨ok,_⟩
  .exact k H1 (sb.then s1)
  .rw[ok.ok] at no;cases no
 rw[eqm] at yes;rcases k with ⟨no,_⟩ | ⟨ok,k⟩
 .rw[no] at yes;cases yes
 have LU:dF m (upd H x (.ins MA dx [("many",V.int (m:Int))])) as:=ok.same fun b hb o e=>by
  obtain⟨u,v,n,e',_⟩:=ok.1 b hb;rw[e'] at e;exact(Option.some.inj e)▸at_ _ _ (by intro _ _ _ z;cases z) e'
 have hx1:=s1 _ _ (aB (H:=H) (a:=x) (o:=.ins MA dx [("many",V.int (m:Int))]));refine⟨_,rfl,x,MA,dx,_,rfl,hx1,T.Gv.oc.cl,T.PX,(by show 1<1000;decide),?_⟩;have nl:l≠x:=(bD (aB (H:=H) (a:=x) (o:=.ins MA dx [("many",V.int (m:Int))])) hl).symm;have PB:dF m H1 bs:=(LU.yY hb).same fun b _ o e=>s1 _ _ e;obtain⟨ps,a2,pw⟩:=PB.pw;have at2:∀b xs,H1 b=some (HO.tup xs)->upd H1 x (.ins MA dx [("many",V.int (m:Int)),("pairs",.ref l)]) b=some (.tup xs):=fun b xs e=>by
  rw[aM (fE e hx1 (fun z=>nomatch z))];exact e
 refine⟨_,rfl,_,rfl,x,MA,dx,_,_,rfl,aB,T.Gv.oc.cl,T.PX,rfl,l,bs,ps,m,rfl,(by show upd _ _ _ l=_;rw[aM nl];exact h1),a2.imp fun _ _ z=>z.keep at2,(pw.six m6).1,m1,m6,fun lb ts H2 hlb s2 h2 hts=>?_⟩;have hx2:=s2 _ _ (aB (H:=H1) (a:=x) (o:=.ins MA dx [("many",V.int (m:Int)),("pairs",.ref l)]));have nlb:lb≠x:=(bD (aB (H:=H1) (a:=x) (o:=.ins MA dx [("many",V.int (m:Int)),("pairs",.ref l)])) hlb).symm;refine⟨_,rfl,x,MA,dx,_,rfl,hx2,T.Gv.oc.cl,T.PY,(by show 2<1000;decide),?_⟩;have hlb0:H lb=none:=by
  have z:H1 lb=none:=by
   have:upd H1 x (.ins MA dx [("many",V.int (m:Int)),("pairs",.ref l)]) lb=none:=hlb;rw[aM nlb] at this;exact this
  have y:=s1.free z;rw[aM nlb] at y;exact y
 have at3:∀(o:HO),fI H2 (upd H2 x o):=fun o b xs e=>by
  rw[aM (fE e hx2 (fun z=>nomatch z))];exact e
 exact k l lb bs ps _ hlb0 hb ((((sb.then s1).iH _).then s2).iH _) (a2.imp fun _ _ z=>((z.keep at2).keep s2.t).keep (at3 _)) ⟨dx,l,ts,aB,(by rw[aM nlb];exact h2),hts.imp fun _ _ z=>z.keep (at3 _),m1,m6,pw⟩ ⟨dx,aB⟩ (by rw[aM nl];exact s2 _ _ (by rw[aM nl];exact h1)) (a2.Bh (JC s1.t (fun a ha=>let ⟨u,v,n,e,_⟩:=LU.1 a (hb.mem_iff.mp ha);⟨_,e⟩) hpw)) (by rw[aM nl] at hl;exact hl)
def ea(r:P3):Nat:=r.1
def eb(r:P3):Nat:=if r.1=r.2.1 then 6 else r.2.1
def RM(G:Nat)(r:P3):Bool:=eW G (ea r)&&eW G (eb r)
def jn(J G:Nat)(r:P3):Bool:=RM G r&&(eW J (ea r) != eW J (eb r))
def GC:Sp:=fun vs H Q _=>∃(b:Addr) (r:P3),vs=[.ref b]/\dR H b r/\Q (.int r.2.2) H
theorem Nu:aN ["rope"] ["rope"] (aF IJ):=#[1,2]
theorem JD(t:Tx K mg "cost_of" IJ ["rope"] f fd)(T:#[4]):#[5] 1 "cost_of" ["rope"] GC f fd:=by
 refine t.mX Nu (by rintro _ _ _ _⟨b,r,rfl,_⟩;rfl) fun _ _ _ _ H vs Q E hr h=>?_;obtain⟨b,r,rfl,hb,k⟩:=h;refine⟨_,(aH (aU (bH dB (pv 0) aD #[6]))),?_⟩;exact⟨_,rfl,b,_,_,_,rfl,rfl,eQ.of hb,rfl,k⟩
def pA(H:Hp)(b:Addr):P3:=match H b with
 | some (.tup [.int u,.int v,.int c])=>(u.toNat,v.toNat,c)
 | _=>(0,0,0)
theorem dR.of(h:dR H b r):pA H b=r:=by
 delta pA;rw[show H b=some (.tup [.int (r.1:Int),.int (r.2.1:Int),.int r.2.2]) from h];rfl
theorem zC:∀{ns:List Int},(∀n∈ns,0<=n)->(ns.map fun n=>decide (n<0)).any id=false
 | [],_=>rfl
 | n::r,h=>by
  have a:=h n (by simp);have i:=zC (ns:=r) fun x hx=>h x (qAq _ hx);show(decide (n<0)||(r.map fun n=>decide (n<0)).any id)=false
  rw[i,decide_eq_false (by lia)];rfl
def neg:V->Bool
 | .int n=>decide (n<0)
 | _=>false
def Bj(xs:List V):Bool:=xs.all iL && !(xs.any neg)
theorem zD:∀{xs:List V},xs.all iL=true->∃ns:List Int,xs=ns.map V.int
 | [],_=>⟨[],rfl⟩
 | .int n::xs,h=>by
  obtain⟨ns,rfl⟩:=zD (xs:=xs) (by simpa [iL] using h);exact⟨n::ns,rfl⟩
 | .non::_,h=>by cases h
 | .bl _::_,h=>by cases h
 | .str _::_,h=>by cases h
 | .byt _::_,h=>by cases h
 | .flt _::_,h=>by cases h
 | .ref _::_,h=>by cases h
 | .ty _::_,h=>by cases h
theorem k8:∀(ns:List Int),(ns.map V.int).any neg=(ns.map fun n=>decide (n<0)).any id
 | []=>rfl
 | n::ns=>by
  show(decide (n<0)||(ns.map V.int).any neg)=(decide (n<0)||(ns.map fun n=>decide (n<0)).any id)
  rw[k8 ns]
theorem zE{ns:List Int}(h:∀n∈ns,0<=n):Bj (ns.map V.int)=true:=by
 delta Bj;rw[all_ints,k8,zC h];rfl
theorem zF{ns:List Int}{n:Int}(hm:n∈ns)(h:n<0):Bj (ns.map V.int)=false:=by
 delta Bj;rw[k8,List.any_eq_true.mpr ⟨decide (n<0),List.mem_map.mpr ⟨n,hm,rfl⟩,decide_eq_true h⟩,qKo,qDo]
def GD(K:qAb)(NL:Addr):Sp:=fun vs H Q E=>∃(p:Addr) (xs:List V),vs=[.ref p]/\H p=some (.lst xs)/\(∀v∈xs,Pl K H v)/\xs.length<=1000/\(Bj xs=false->∀H',aK H H'->E (.ref NL) none H')/\(Bj xs=true->∀H',aK H H'->Q .non H')
theorem Nv:aN ["costs"] ["costs"] (aF II):=#[1,2]
theorem JE(t:Tx K mg "check_costs" II ["costs"] f fd)(T:#[4])(D_check_numbers:#[1,1] 2 "check_numbers" ["things"] (uM K NL) f1 fd1):
  #[1,1] 3 "check_costs" ["costs"] (GD K NL) f fd:=by
 refine t.Am Nv (by rintro _ _ _ _⟨p,xs,rfl,_⟩;rfl) fun _ _ _ _ H vs Q E hr h=>?_;obtain⟨p,xs,rfl,hp,pl,hlen,k0,k⟩:=h;refine⟨_,(aE (cA (cX aQ.toPass D_check_numbers hr #[1] #[0] (aA (pv 0) aC)))
  (aH (bI (eL (aO (tY rfl) #[0] T.rC BX (aA (dX (NB:=["cost"]) (pick:=[none]) (dJ #[7] (by exact trivial) rfl #[2] #[2] #[0] #[0]) rfl
    (cU (pv 0)) (fun _ _ _=>bC (i:=0) #[8,["cost"]] rfl cO)
    (fun _ _ _=>cV) (fun _ _ _=>(jI jB (pv 0) aD (aT _)))) aC))) (aH (cP aQ rfl #[0] T.sT T.uL (aA aI aC))) aY))),?_⟩
 refine⟨_,rfl,p,_,rfl,.inl hp,pl,hlen,fun no=>k0 (by delta Bj;rw[no];rfl),fun yes H1 s1=>?_⟩;obtain⟨ns,rfl⟩:=zD yes;have hp1:=s1 _ _ hp;rw[qAa] at hlen;exists _,rfl,p,rfl,⟨_,bA.of hp1⟩;refine eG (xs:=ns.map V.int) (fun _ x=>match x with | .int n=>some (.bl (decide (n<0))) | _=>none) (bA.of hp1) (by rw[qAa];exact qCu (bL (by lia))) (fun i x H2 kk kk0 s2 hx h1 h2=>?_) fun D H2 hD s2 hd=>?_
 .obtain⟨n,_,rfl⟩:=List.mem_map.mp (qAp hx);exact⟨_,rfl,_,_,rfl,rfl,h1 _ rfl _ (.refl _)⟩
 .have ed:H2 D=some (.lst ((ns.map fun n=>decide (n<0)).map V.bl)):=by
   rw[hd,eJ,qDt,qCe,<- qIa];rfl
  exists D,_,rfl,bA.of ed,_,rfl;rw[<- k8];cases e:(ns.map V.int).any neg with
  | true=>exact dC ⟨by decide,k0 (by delta Bj;rw[e,qKo,qDo]) H2 (s1.trans s2)⟩
  | false=>exact bF (k (by delta Bj;rw[e,yes];rfl) H2 (s1.trans s2))
def JF(NE:Addr)(H:Hp)(a ll lr:Addr)(cs:List Int)(rs:List P3):Prop:=∃(dx:Addr) (bs:List Addr),H a=some (.ins NE dx [("many",.int (cs.length:Int)),("costs",.ref ll),("ropes",.ref lr)])/\H ll=some (.lst (cs.map V.int))/\H lr=some (.lst (bs.map V.ref))/\A2 (dR H) bs rs/\1<=cs.length/\cs.length<=6/\Pw cs.length rs/\bs.length<=15
theorem A2.Nw(h:A2 (dR H) bs rs):bs.map (fun b=>(pA H b).2.2)=rs.map (·.2.2):=by
 induction h with
 | nil=>rfl
 | cons r _ ih=>rw[qBo,qBo,ih,r.of]
def Fq(K:qAb)(NL NE:Addr):Sp:=fun vs H Q E=>∃(x dx p q:Addr) (xs:List V) (as:List Addr),vs=[.ref x,.ref p,.ref q]/\H x=some (.ins NE dx [])/\H p=some (.lst xs)/\(∀v∈xs,Pl K H v)/\xs.length<=1000/\H q=some (.lst (as.map V.ref))/\iU K H as/\as.length<64 /\
 (((okN xs&&Bj xs)=false/\∀H',SameBut x H H'->E (.ref NL) none H')\/∃cs:List Int,xs=cs.map V.int/\1<=cs.length/\cs.length<=6/\(∀c∈cs,0<=c)/\((gY (cs.length:Int) (as.map (c5 H))=false/\∀H',SameBut x H H'->E (.ref NL) none H')\/dF cs.length H as /\
 (((∃a∈as,∃r,dR H a r/\r.2.2<0)/\∀H',SameBut x H H'->E (.ref NL) none H')\/(∀a∈as,∀r,dR H a r->0<=r.2.2) /\
 ∀(l lr:Addr) (bs:List Addr) (rs:List P3) (H':Hp),H l=none->H lr=none->bs.Perm as->SameBut x H H'->A2 (dR H') bs rs->JF NE H' x l lr cs rs->kC rs->Q .non H')))
theorem Qm:aN ["self","costs","ropes"] ["self","costs","ropes"] (aF KW):=#[1,2]
theorem Nx{f1 f2 f3:Addr}{fd1 fd2 fd3:qBy}(t:Mx K "__init__" "Net.__init__" KW ["self","costs","ropes"] f fd)(T:#[4])(D_RI:#[1,0] 4 ["self","many"] (sW K NL) iR)(D_check_costs:#[1,1] 3 "check_costs" ["costs"] (GD K NL) f1 fd1)(D_sorted_pairs:#[1,1] 4 "sorted_pairs" ["many","pairs"] (yV K NL) f2 fd2)(D_cost_of:#[5] 1 "cost_of" ["rope"] GC f3 fd3):
  #[1,0] 5 ["self","costs","ropes"] (Fq K NL NE) f:=by
 refine t.Gh Qm (by rintro _ _ _ _⟨x,dx,p,q,xs,as,rfl,_⟩;rfl) fun _ _ _ _ H vs Q E hr h=>?_;obtain⟨x,dx,p,q,xs,as,rfl,hx,hp,pl,x1000,hq,ht,h64,k⟩:=h;refine⟨_,(aE (cA (qP aQ.toPass #[0] T.CQ T.Lg D_RI hr #[1] (aA (pv 0) (aA (aO aS #[0] T.cD bS (aA (pv 1) aC)) aC))))
  (aE (cA (cX aQ.toPass D_check_costs hr #[1] #[0] (aA (pv 1) aC)))
  (aE (fB (pv 0) (dI dW #[0] T.fZ iG (aA (pv 1) aC)) rfl)
  (aE (fB (pv 0) (cX aQ.toPass D_sorted_pairs hr #[1] #[0] (aA (eM (pv 0) rfl) (aA (pv 2) aC))) rfl)
  (aH (cA (cX aQ.toPass D_check_costs hr #[1] #[0] (aA (dX (NB:=["rope"]) (pick:=[none]) (dJ #[7] (by exact trivial) rfl #[2] #[2] #[0] #[0]) rfl
    (cU (eM (pv 0) rfl)) (fun _ _ _=>bC (i:=0) #[8,["rope"]] rfl cO)
    (fun _ _ _=>cV) (fun _ _ _=>(bN D_cost_of hr #[1] #[0] (aA (pv 0) aC)))) aC)))))))),?_⟩
 refine⟨_,rfl,_,rfl,p,_,rfl,.inl (bA.of hp),x,NE,dx,.int (xs.length:Int),rfl,hx,T.CS.oc.cl,T.CS.nm,.int _,fun no=>?_,fun yes=>?_⟩
 .rcases k with ⟨_,k⟩ | ⟨cs,rfl,c1,c6,_⟩
  .exact k H ((aK.refl H).but x)
  .rw[qAa,fY,decide_eq_true c1,decide_eq_true c6] at no;cases no
 have sb1:SameBut x H (upd H x (.ins NE dx [("many",V.int (xs.length:Int))])):=((aK.refl H).but x).iH _;have hp1:=sb1 _ _ (fE hp hx (fun z=>nomatch z)) hp;have hx1:upd H x (.ins NE dx [("many",V.int (xs.length:Int))]) x=some (.ins NE dx [("many",V.int (xs.length:Int))]):=aB;have pl1:∀v∈xs,Pl K (upd H x (.ins NE dx [("many",V.int (xs.length:Int))])) v:=fun v hv=>(pl v hv).fM hx;have ht1:iU K (upd H x (.ins NE dx [("many",V.int (xs.length:Int))])) as:=fun a ha=>by
  obtain⟨ys,h1,h2,h3⟩:=ht a ha;exact⟨ys,sb1 _ _ (fE h1 hx (fun z=>nomatch z)) h1,fun v hv=>(h2 v hv).fM hx,h3⟩
 generalize upd H x (.ins NE dx [("many",V.int (xs.length:Int))])=H1 at sb1 hp1 hx1 pl1 ht1|-;refine⟨_,rfl,p,xs,rfl,hp1,pl1,x1000,fun no H2 s2=>?_,fun yes2 H2 s2=>?_⟩
 .rcases k with ⟨_,k⟩ | ⟨cs,rfl,c1,c6,c0,_⟩
  .exact k H2 (sb1.then s2)
  .rw[zE c0] at no;cases no
 rcases k with ⟨no,_⟩ | ⟨cs,rfl,c1,c6,c0,k⟩
 .have z:okN xs=true:=by
   delta okN;rw[fY] at yes;rw[yes];delta Bj at yes2;rw[qBb] at yes2;exact yes2.1
  rw[z,yes2] at no;cases no
 rw[qAa] at hx1;refine⟨_,rfl,p,_,rfl,.inl (bA.of (s2 _ _ hp1)),fun l hl=>?_⟩;have u3:=aK.aJ (o:=.lst (cs.map V.int)) hl;have hx3:=u3 _ _ (s2 _ _ hx1);have nl:l≠x:=(bD (s2 _ _ hx1) hl).symm;have l0:H l=none:=by
  cases e:H l with
  | none=>rfl
  | some o=>have z:=s2 _ _ (sb1 _ _ nl e);rw[hl] at z;cases z
 refine⟨_,rfl,x,NE,dx,_,rfl,hx3,T.CS.oc.cl,T.QL,(by show 1<1000;decide),?_⟩;have sb4:=((sb1.then (s2.trans u3)).iH (.ins NE dx [("many",V.int (cs.length:Int)),("costs",.ref l)]));have k4:upd (upd H2 l (.lst (cs.map V.int))) x (.ins NE dx [("many",V.int (cs.length:Int)),("costs",.ref l)]) l=some (.lst (cs.map V.int)):=by rw[aM nl];exact aB
 have hx4:upd (upd H2 l (.lst (cs.map V.int))) x (.ins NE dx [("many",V.int (cs.length:Int)),("costs",.ref l)]) x=some (.ins NE dx [("many",V.int (cs.length:Int)),("costs",.ref l)]):=aB;have ht4:iU K (upd (upd H2 l (.lst (cs.map V.int))) x (.ins NE dx [("many",V.int (cs.length:Int)),("costs",.ref l)])) as:=fun a ha=>by
  obtain⟨ys,h1,h2,h3⟩:=ht1 a ha;have z:=u3 _ _ (s2 _ _ h1);exact⟨ys,by rw[aM (fE z hx3 (fun z=>nomatch z))];exact z,fun v hv=>((h2 v hv).same (s2.trans u3)).fM hx3,h3⟩
 show Ab _ _ _ _ (upd (upd H2 l (.lst (cs.map V.int))) x (.ins NE dx [("many",V.int (cs.length:Int)),("costs",.ref l)]));generalize upd (upd H2 l (.lst (cs.map V.int))) x (.ins NE dx [("many",V.int (cs.length:Int)),("costs",.ref l)])=H4 at sb4 k4 hx4 ht4|-;have hq4:=sb4 _ _ (fE hq hx (fun z=>nomatch z)) hq;have eqm:as.map (c5 H4)=as.map (c5 H):=ht.eq fun a xs e=>sb4 _ _ (fE e hx (fun z=>nomatch z)) e;refine⟨_,rfl,x,NE,dx,_,_,rfl,hx4,T.CS.oc.cl,T.CS.nm,rfl,_,rfl,(cs.length:Int),q,as,rfl,hq4,ht4,h64,fun no H5 s5=>?_,fun yes3 lr bs H5 hlr hb hpw s5 e5=>?_⟩
 .rw[eqm] at no;rcases k with ⟨_,k⟩ | ⟨ok,_⟩
  .exact k H5 (sb4.then s5)
  .rw[ok.ok] at no;cases no
 rw[eqm] at yes3;rcases k with ⟨no,_⟩ | ⟨ok,k⟩
 .rw[no] at yes3;cases yes3
 have ok4:dF cs.length H4 as:=ok.same fun b hb o e=>by
  obtain⟨u,v,n,e',_⟩:=ok.1 b hb;exact sb4 _ _ (fE e' hx (fun z=>nomatch z)) e
 have hx5:=s5 _ _ hx4;have nlr:lr≠x:=(bD hx4 hlr).symm;have lr0:H lr=none:=by
  cases e:H lr with
  | none=>rfl
  | some o=>have z:=sb4 _ _ nlr e;rw[hlr] at z;cases z
 refine⟨_,rfl,x,NE,dx,_,rfl,hx5,T.CS.oc.cl,T.Jj,(by show 2<1000;decide),?_⟩;have sb6:=((sb4.then s5).iH (.ins NE dx [("many",V.int (cs.length:Int)),("costs",.ref l),("ropes",.ref lr)]));have hx6:upd H5 x (.ins NE dx [("many",V.int (cs.length:Int)),("costs",.ref l),("ropes",.ref lr)]) x=some (.ins NE dx [("many",V.int (cs.length:Int)),("costs",.ref l),("ropes",.ref lr)]):=aB;have t46:fI H4 (upd H5 x (.ins NE dx [("many",V.int (cs.length:Int)),("costs",.ref l),("ropes",.ref lr)])):=fun b xs e=>by rw[aM (fE (s5 _ _ e) hx5 (fun z=>nomatch z))];exact s5 _ _ e
 have e6:upd H5 x (.ins NE dx [("many",V.int (cs.length:Int)),("costs",.ref l),("ropes",.ref lr)]) lr=some (.lst (bs.map V.ref)):=by rw[aM nlr];exact e5
 have k6:upd H5 x (.ins NE dx [("many",V.int (cs.length:Int)),("costs",.ref l),("ropes",.ref lr)]) l=some (.lst (cs.map V.int)):=by rw[aM nl];exact s5 _ _ k4
 have ok6:dF cs.length (upd H5 x (.ins NE dx [("many",V.int (cs.length:Int)),("costs",.ref l),("ropes",.ref lr)])) bs:=(ok.same fun b hb o e=>by
  obtain⟨u,v,n,e',_⟩:=ok.1 b hb;exact sb6 _ _ (fE e' hx (fun z=>nomatch z)) e).yY hb
 exists _,rfl,x,NE,dx,_,_,rfl,hx6,T.CS.oc.cl,T.Jj,rfl,lr,rfl,⟨_,bA.of e6⟩;obtain⟨rs,a6,pw⟩:=ok6.pw;have blen:bs.length<=15:=ok6.2.2;have same_r:∀b∈as,∀r,dR H b r->dR (upd H5 x (.ins NE dx [("many",V.int (cs.length:Int)),("costs",.ref l),("ropes",.ref lr)])) b r:=fun b _ r e=>sb6 _ _ (fE (show H b=_ from e) hx (fun z=>nomatch z)) e;rw[show iS ("ropes":Str) (V.ref lr) [(("many":Str),V.int (cs.length:Int)),(("costs":Str),V.ref l)]=[(("many":Str),V.int (cs.length:Int)),(("costs":Str),V.ref l),(("ropes":Str),V.ref lr)] from rfl];generalize upd H5 x (.ins NE dx [("many",V.int (cs.length:Int)),("costs",.ref l),("ropes",.ref lr)])=H6 at sb6 hx6 e6 k6 a6 same_r t46|-;refine eG (xs:=bs.map V.ref) (fun _ x=>match x with | .ref b=>some (.int (pA H6 b).2.2) | _=>none) (bA.of e6) (by rw[qAa];exact qCu (bL (by lia))) (fun i y H7 kk kk0 s7 hy h1 h2=>?_) fun D H7 hD s7 hd=>?_
 .obtain⟨b,hb',rfl⟩:=at_of hy;obtain⟨r,hr',pr⟩:=a6.at hb';exact⟨_,rfl,b,r,rfl,pr.keep s7.t,h1 _ (by show some (V.int (pA H6 b).2.2)=_;rw[pr.of]) _ (.refl _)⟩
 .have ed:H7 D=some (.lst ((rs.map (·.2.2)).map V.int)):=by
   rw[hd,eJ,qDt,<- a6.Nw,qCe,<- qIa];rfl
  have r15:rs.length<=15:=by rw[<- a6.len];exact blen
  refine⟨D,_,rfl,ed,fN,by rw[qAa,qAa];lia,fun no H8 s8=>?_,fun yes4 H8 s8=>?_⟩
  .rcases k with ⟨_,k⟩ | ⟨r0,_⟩
   .exact k H8 (sb6.then (s7.trans s8))
   .rw[zE fun n hn=>?_] at no
    .cases no
    .obtain⟨r,hr',rfl⟩:=List.mem_map.mp hn;obtain⟨b,hb',pr⟩:=a6.mem.2 r hr';have hba:=hb.mem_iff.mp hb';obtain⟨u,v,n,e',_⟩:=ok.1 b hba;have z:=pr.eq (same_r b hba (u,v,n) e');rw[z];exact r0 b hba (u,v,n) e'
  .rcases k with ⟨⟨b,hb',r,pr,r0⟩,_⟩ | ⟨_,k⟩
   .obtain⟨r2,hr2,pr2⟩:=a6.mem.1 b (hb.mem_iff.mpr hb');have z:=pr2.eq (same_r b hb' r pr);rw[zF (n:=r2.2.2) (List.mem_map.mpr ⟨r2,hr2,rfl⟩) (by rw[z];exact r0)] at yes4;cases yes4
   .have s68:=s7.trans s8;exact k l lr bs rs H8 l0 lr0 hb (sb6.then s68) (a6.imp fun _ _ z=>z.keep s68.t) ⟨dx,bs,s68 _ _ hx6,s68 _ _ k6,s68 _ _ e6,a6.imp fun _ _ z=>z.keep s68.t,c1,c6,pw,blen⟩ (a6.Bh (JC t46 (fun a ha=>let ⟨u,v,n,e,_⟩:=ok4.1 a (hb.mem_iff.mp ha);⟨_,e⟩) hpw))
def pW(p:P3):Str:=Str.empty++nW (p.1:Int)++("-":Str)++nW (p.2.1:Int)++(":":Str)++nW p.2.2
theorem eP{n:Int}(h:n.natAbs<10^60):n.natAbs.log2<1920:=by
 by_cases z:n.natAbs=0
 .rw[z];decide +kernel
 .exact(qOa z).mpr (qFn h #[2])
theorem cR(h:i.natAbs<10^60):(nW i).length<=61:=by
 delta nW;cases i with
 | ofNat n =>
  have h:n<10^60:=h;exact qAk (qHx (v:=(n:Int)) (qDu n) (k:=60) #[1] (by exact_mod_cast h)) #[1]
 | negSucc n =>
  have h:n+1<10^60:=h;have z:=qHx (v:=((n+1:Nat):Int)) (qDu _) (k:=60) #[1] (by exact_mod_cast h);rw[qNr] at z|-;rw[show toString (qGa n)="-" ++ toString ((n+1:Nat):Int) from rfl,String.toList_append,qAf];exact qAk (qIn (show("-":String).toList.length<=1 by decide) z) #[1]
theorem sX(h1:p.1<6)(h2:p.2.1<6)(h:p.2.2.natAbs<10^60):(pW p).length<=185:=by
 delta pW;rw[Str.length_append,Str.length_append,Str.length_append,Str.length_append,Str.length_append];have a:=cR (i:=(p.1:Int)) (qAw (show _<6 from h1) #[2]);have b:=cR (i:=(p.2.1:Int)) (qAw (show _<6 from h2) #[2]);have c:=cR h;have e0:Str.empty.length=0:=rfl;have e1:("-":Str).length=1:=rfl;have e2:(":":Str).length=1:=rfl;lia
def uR:Sp:=fun vs H Q _=>∃(p:Addr) (ns:List Int),vs=[.ref p]/\H p=some (.lst (ns.map V.int))/\ns.length<=64/\(∀n∈ns,n.natAbs<10^60)/\∀(D:Addr) (H':Hp),H D=none->aK H H'->H' D=some (.lst ((ns.map nW).map V.str))->Q (.ref D) H'
theorem Ny:aN ["numbers"] ["numbers"] (aF IG):=#[1,2]
theorem JG(t:Tx K mg "number_words" IG ["numbers"] f fd)(T:#[4]):#[5] 1 "number_words" ["numbers"] uR f fd:=by
 refine t.mX Ny (by rintro _ _ _ _⟨p,ns,rfl,_⟩;rfl) fun _ _ _ _ H vs Q E hr h=>?_;obtain⟨p,ns,rfl,hp,h64,hn,k⟩:=h;refine⟨_,(aH (aU (dX (NB:=["number"]) (pick:=[none]) (dJ #[7] (by exact trivial) rfl #[2] #[2] #[0] #[0]) rfl
    (cU (pv 0)) (fun _ _ _=>bC (i:=0) #[8,["number"]] rfl cO)
    (fun _ _ _=>cV) (fun _ _ _=>(dI iB #[0] T.oW v7 (aA (pv 0) aC)))))),?_⟩
 exists _,rfl,p,rfl,⟨_,bA.of hp⟩;refine eG (xs:=ns.map V.int) (fun _ x=>match x with | .int i=>some (.str (nW i)) | _=>none) (bA.of hp) (by rw[qAa];exact qCu (bL (by lia))) (fun i x H2 kk kk0 s2 hx g1 g2=>?_) fun D H2 hD s2 hd=>?_
 .obtain⟨n,hm,rfl⟩:=List.mem_map.mp (qAp hx);exact⟨_,rfl,n,rfl,eP (hn n hm),g1 _ rfl _ (.refl _)⟩
 .refine k D H2 hD s2 ?_;rw[hd,eJ,qDt,qCe];show some (HO.lst (ns.filterMap fun i=>some (V.str (nW i))))=_;rw[qCz];rfl
def zG:Sp:=fun vs H Q _=>∃(p:Addr) (bs:List Addr) (ps:List P3),vs=[.ref p]/\H p=some (.lst (bs.map V.ref))/\A2 (dR H) bs ps/\ps.length<=64/\(∀q∈ps,q.1<6/\q.2.1<6/\q.2.2.natAbs<10^60)/\∀(D:Addr) (H':Hp),H D=none->aK H H'->H' D=some (.lst ((ps.map pW).map V.str))->Q (.ref D) H'
theorem A2.JH(h:A2 R bs ps):∀(i:Nat) (b:Addr),bs[i]?=some b->∃p,ps[i]?=some p/\R b p:=by
 induction h with
 | nil=>intro i b e;cases e
 | cons r _ ih =>
  intro i b e;cases i with
  | zero=>cases e;exact⟨_,rfl,r⟩
  | succ i=>exact ih i b e
theorem Nz:aN ["pairs"] ["pairs"] (aF IH):=#[1,2]
theorem JI(t:Tx K mg "pair_words" IH ["pairs"] f fd)(T:#[4]):#[5] 1 "pair_words" ["pairs"] zG f fd:=by
 refine t.mX Nz (by rintro _ _ _ _⟨p,bs,ps,rfl,_⟩;rfl) fun _ _ _ _ H vs Q E hr h=>?_;obtain⟨p,bs,ps,rfl,hp,a2,h64,hn,k⟩:=h;refine⟨_,(aH (aU (dX (NB:=["one","other","number"]) (pick:=[none,none,none]) (dJ #[7] (by exact trivial) rfl #[2] #[2] #[0] #[0]) rfl
    (cU (pv 0)) (fun _ _ _=>(show PG _ _ (Ek K 3 (jY (a9 0) (jY (a9 1) (jY (a9 2) Ej)))) from j5 rfl (cC (bC (i:=0) #[8,["one","other","number"]] rfl cO) (cC (bC (i:=1) #[8,["one","other","number"]] rfl cO) (cC (bC (i:=2) #[8,["one","other","number"]] rfl cO) hW)))))
    (fun _ _ _=>cV) (fun _ _ _=>(eU (aZ (dN (pv 0)) (aZ aI (aZ (dN (pv 1)) (aZ aI (aZ (dN (pv 2)) dD)))))))))),?_⟩
 exists _,rfl,p,rfl,⟨_,bA.of hp⟩;refine jL (xs:=bs.map V.ref) (fun σ'=>∃o0 o1 o2:Option V,σ'=[o0,o1,o2]) (fun i _=>(ps[i]?).map fun q=>V.str (pW q)) ⟨_,_,_,rfl⟩ (bA.of hp) (by rw[qAa,a2.len];exact qCu (bL (by lia))) (fun i x σ1 H2 kk kk0 hσ s2 hx g1 g2=>?_) fun D H2 hD s2 hd=>?_
 .obtain⟨o0,o1,o2,rfl⟩:=hσ;rw[qAs] at hx;cases e:bs[i]? with
  | none=>rw[e] at hx;cases hx
  | some b =>
   rw[e] at hx;cases hx;obtain⟨q,hq,r⟩:=a2.JH i b e;obtain⟨q1,q2,q3⟩:=hn q (qAp hq);have l1:=cR (i:=(q.1:Int)) (qAw (show _<6 from q1) #[2]);have l2:=cR (i:=(q.2.1:Int)) (qAw (show _<6 from q2) #[2]);have l3:=cR q3;have pl:=sX q1 q2 q3;have e0:Str.empty.length=0:=rfl;have e1:("-":Str).length=1:=rfl;have e2:(":":Str).length=1:=rfl;have sl:1000<=qAg:=by decide
   exists b,_,rfl,eQ.of (s2 _ _ r),rfl,_,_,rfl,_,_,rfl,_,_,rfl,rfl;have z1:=eP (n:=(q.1:Int)) (qAw (show _<6 from q1) #[2]);have z2:=eP (n:=(q.2.1:Int)) (qAw (show _<6 from q2) #[2]);refine⟨_,rfl,(q.1:Int),rfl,z1,nW q.1,rfl,(by rw[Str.length_append];lia),_,rfl,(by rw[Str.length_append,Str.length_append];lia),_,rfl,(q.2.1:Int),rfl,z2,nW q.2.1,rfl,(by rw[Str.length_append,Str.length_append,Str.length_append];lia),_,rfl,(by rw[Str.length_append,Str.length_append,Str.length_append,Str.length_append];lia),_,rfl,q.2.2,rfl,eP q3,nW q.2.2,rfl,?_,?_,g1 _ _ ⟨_,_,_,rfl⟩ (by show(ps[i]?).map _=_;rw[hq];rfl) _ (.refl _)⟩
   .show(pW q).length<=_;lia
   .show(pW q).length<=_;lia
 .refine k D H2 hD s2 ?_;rw[hd];have e:(qBk (bs.map V.ref).length).filterMap (fun i=>((bs.map V.ref)[i]?).bind fun _=>(ps[i]?).map fun q=>V.str (pW q))=(qBk ps.length).filterMap fun i=>(ps[i]?).bind fun q=>some (V.str (pW q)):=by
   rw[qAa,a2.len];refine fX fun i hi=>?_;have hi':i<bs.length:=by rw[a2.len];exact List.mem_range.mp hi
   rw[qAs,qAe hi'];cases ps[i]? <;> rfl
  rw[e,eJ,qCz,qCe];rfl
def sY(h:Str)(ss:List Str):Str:=Txt.join (" ":Str) (h::ss)
theorem jO:∀{ss:List Str},(∀s∈ss,s.length<=B)->(ss.map (·.length)).sum<=B*ss.length
 | [],_=>by simp
 | s::ss,h=>by
  have a:=h s qAr;have b:=jO fun t ht=>h t (qAq _ ht);rw[qBo,qGl,qAn,Nat.mul_succ];lia
theorem iK{h:Str}{ss:List Str}(h0:h.length<=185)(hl:ss.length<=200)(hs:∀s∈ss,s.length<=185):(((h::ss).map (·.length)).sum+(h::ss).length*(" ":Str).length<=16777216):=by
 have a:=jO hs;have e:(" ":Str).length=1:=rfl;rw[qBo,qGl,qAn,e,Nat.mul_one];have:=qIs 185 hl;lia
theorem eI(h1:a<=8)(h2:b<=128):a+b<=qAg:=qAk (qIn h1 h2) #[1]
theorem rH(h1:a<=64)(h2:b<=64):1+a+b<=qAg:=qAk (qIn (qIn (qAl 1) h1) h2) #[1]
def JJ:Sp:=fun vs H Q _=>∃a:Addr,vs=[.ref a]/\Q (.str ("none":Str)) H
theorem Qn:aN ["self"] ["self"] (aF KN):=#[1,2]
theorem NA(t:Mx K "words" "Rule.words" KN ["self"] f fd):#[1,0] 1 ["self"] JJ f:=by
 refine t.EF Qn (by rintro _ _ _ _⟨a,rfl,_⟩;rfl) fun _ _ _ _ H vs Q E hr h=>?_;obtain⟨a,rfl,k⟩:=h;exact⟨_,(aH (aU aI)),k⟩
def CW(OW:Addr):Sp:=fun vs H Q _=>∃(a dx l:Addr) (m:V) (ns:List Int),vs=[.ref a]/\H a=some (.ins OW dx [("many",m),("numbers",.ref l)])/\H l=some (.lst (ns.map V.int))/\ns.length<=64/\(∀n∈ns,n.natAbs<10^60)/\∀H',aK H H'->Q (.str (sY ("own":Str) (ns.map nW))) H'
theorem NC:aN ["self"] ["self"] (aF AH):=#[1,2]
theorem JK{f1:Addr}{fd1:qBy}(t:Mx K "words" "Own.words" AH ["self"] f fd)(T:#[4])(D_number_words:#[5] 1 "number_words" ["numbers"] uR f1 fd1):#[1,0] 2 ["self"] (CW OW) f:=by
 refine t.EF NC (by rintro _ _ _ _⟨a,dx,l,m,ns,rfl,_⟩;rfl) fun _ _ _ s H vs Q E hr h=>?_;obtain⟨a,dx,l,m,ns,rfl,ha,hl,h64,hn,k⟩:=h;refine⟨_,(aH (aU (dP qBf qCp qCo dQ aI (aA (aG bB (bE (aA aI aC)) (bN D_number_words hr #[1] #[0] (aA (eM (pv 0) rfl) aC))) aC)))),?_⟩;refine⟨rfl,kG,fun l0 hl0=>?_⟩;have u0:=aK.aJ (o:=.lst [V.str ("own":Str)]) hl0;refine⟨_,rfl,a,OW,dx,_,_,rfl,u0 _ _ ha,T.Ld.oc.cl,T.QH,rfl,l,ns,rfl,u0 _ _ hl,h64,hn,fun D H1 hD s1 h1=>?_⟩;have hb:∀s∈ns.map nW,s.length<=185:=fun s hs=>by
  obtain⟨n,hm,rfl⟩:=List.mem_map.mp hs;exact qAk (cR (hn n hm)) #[1]
 refine⟨l0,D,_,_,rfl,rfl,bA.of (s1 _ _ aB),bA.of h1,(by rw[qAa,qAa];exact eI #[1] (qAk h64 #[1])),fun p hp=>?_⟩;refine⟨_,p,("own":Str)::ns.map nW,rfl,rfl,bA.of aB,iK #[1] (by rw[qAa];lia) hb,k _ (u0.trans (s1.trans (.aJ hp)))⟩
theorem mE{ns:List Int}(hn:∀n∈ns,n.natAbs<10^60):∀s∈ns.map nW,s.length<=185:=fun s hs=>by
 obtain⟨n,hm,rfl⟩:=List.mem_map.mp hs;exact qAk (cR (hn n hm)) #[1]
theorem mF{ps:List P3}(hn:∀q∈ps,q.1<6/\q.2.1<6/\q.2.2.natAbs<10^60):∀s∈ps.map pW,s.length<=185:=fun s hs=>by
 obtain⟨p,hm,rfl⟩:=List.mem_map.mp hs;obtain⟨a,b,c⟩:=hn p hm;exact sX a b c
def JL(VO:Addr):Sp:=fun vs H Q _=>∃(a dx l:Addr) (m:V) (q z:Int) (ns:List Int),vs=[.ref a]/\H a=some (.ins VO dx [("many",m),("quota",.int q),("prize",.int z),("weights",.ref l)])/\H l=some (.lst (ns.map V.int))/\ns.length<=62/\(∀n∈q::z::ns,n.natAbs<10^60)/\∀H',aK H H'->Q (.str (sY ("votes":Str) ((q::z::ns).map nW))) H'
theorem Qo:aN ["self"] ["self"] (aF KR):=#[1,2]
theorem ND{f1:Addr}{fd1:qBy}(t:Mx K "words" "Votes.words" KR ["self"] f fd)(T:#[4])(D_number_words:#[5] 1 "number_words" ["numbers"] uR f1 fd1):#[1,0] 2 ["self"] (JL VO) f:=by
 refine t.EF Qo (by rintro _ _ _ _⟨a,dx,l,m,q,z,ns,rfl,_⟩;rfl) fun _ _ _ _ H vs Q E hr h=>?_;obtain⟨a,dx,l,m,q,z,ns,rfl,ha,hl,h64,hn,k⟩:=h;refine⟨_,(aH (aU (dP qBf qCp qCo dQ aI (aA (aG bB (bE (aA aI aC)) (bN D_number_words hr #[1] #[0] (aA (aG bB (bE (aA (eM (pv 0) rfl) (aA (eM (pv 0) rfl) aC))) (eM (pv 0) rfl)) aC))) aC)))),?_⟩;refine⟨rfl,kG,fun l0 hl0=>?_⟩;have u0:=aK.aJ (o:=.lst [V.str ("votes":Str)]) hl0;refine⟨_,rfl,a,VO,dx,_,_,rfl,u0 _ _ ha,T.Ec.oc.cl,T.QK,rfl,_,rfl,a,VO,dx,_,_,rfl,u0 _ _ ha,T.Ec.oc.cl,T.Mt,rfl,Bk,fun l1 hl1=>?_⟩;have u1:=u0.trans (aK.aJ (o:=.lst [V.int q,V.int z]) hl1);refine⟨_,rfl,a,VO,dx,_,_,rfl,u1 _ _ ha,T.Ec.oc.cl,T.Mu,rfl,l1,l,_,_,rfl,rfl,bA.of aB,bA.of (u1 _ _ hl),(by rw[qAa];exact eI (by show 2<=8;decide) (by lia)),fun l2 hl2=>?_⟩;have u2:=(aK.aJ (o:=.lst [V.int q,V.int z]) hl1).trans (aK.aJ (o:=.lst ([V.int q,V.int z]++ns.map V.int)) hl2);refine⟨l2,q::z::ns,rfl,aB,(by show ns.length+1+1<=64;lia),hn,fun D H1 hD s1 h1=>?_⟩;refine⟨l0,D,_,_,rfl,rfl,bA.of (s1 _ _ (u2 _ _ aB)),bA.of h1,(by rw[qAa,qAa];exact eI #[1] (by show ns.length+1+1<=128;lia)),fun p hp=>?_⟩;refine⟨_,p,("votes":Str)::(q::z::ns).map nW,rfl,rfl,bA.of aB,iK #[1] (by rw[qAa];show ns.length+1+1<=200;lia) (mE hn),k _ (u0.trans (u2.trans (s1.trans (.aJ hp))))⟩
def CY(PL:Addr):Sp:=fun vs H Q _=>∃(a dx l:Addr) (m:V) (e:Int) (ns:List Int),vs=[.ref a]/\H a=some (.ins PL dx [("many",m),("earnings",.ref l)])/\H l=some (.lst ((e::ns).map V.int))/\ns.length<=64/\(∀n∈ns,n.natAbs<10^60)/\∀H',aK H H'->Q (.str (sY ("table":Str) (ns.map nW))) H'
theorem NF:aN ["self"] ["self"] (aF AI):=#[1,2]
theorem JM{f1:Addr}{fd1:qBy}(t:Mx K "words" "Plain.words" AI ["self"] f fd)(T:#[4])(D_number_words:#[5] 1 "number_words" ["numbers"] uR f1 fd1):#[1,0] 2 ["self"] (CY PL) f:=by
 refine t.EF NF (by rintro _ _ _ _⟨a,dx,l,m,e,ns,rfl,_⟩;rfl) fun _ _ _ _ H vs Q E hr h=>?_;obtain⟨a,dx,l,m,e,ns,rfl,ha,hl,h64,hn,k⟩:=h;refine⟨_,(aH (aU (dP qBf qCp qCo dQ aI (aA (aG bB (bE (aA aI aC)) (bN D_number_words hr #[1] #[0] (aA (aR bZ (eM (pv 0) rfl) (aW aD) aV) aC))) aC)))),?_⟩;refine⟨rfl,kG,fun l0 hl0=>?_⟩;have u0:=aK.aJ (o:=.lst [V.str ("table":Str)]) hl0;refine⟨_,rfl,a,PL,dx,_,_,rfl,u0 _ _ ha,T.Le.oc.cl,T.QI,rfl,1,rfl,l,_,rfl,bA.of (u0 _ _ hl),fun l2 hl2=>?_⟩;have ec:eE ((e::ns).map V.int) (some 1) none=ns.map V.int:=by
  have z:=gP ((e::ns).map V.int) 1;exact z
 rw[ec];have u2:=aK.aJ (o:=.lst (ns.map V.int)) hl2;refine⟨l2,ns,rfl,aB,h64,hn,fun D H1 hD s1 h1=>?_⟩;refine⟨l0,D,_,_,rfl,rfl,bA.of (s1 _ _ (u2 _ _ aB)),bA.of h1,(by rw[qAa,qAa];exact eI #[1] (qAk h64 #[1])),fun p hp=>?_⟩;refine⟨_,p,("table":Str)::ns.map nW,rfl,rfl,bA.of aB,iK #[1] (by rw[qAa];lia) (mE hn),k _ (u0.trans (u2.trans (s1.trans (.aJ hp))))⟩
def CZ(PA:Addr):Sp:=fun vs H Q _=>∃(a dx l:Addr) (m:V) (bs:List Addr) (ps:List P3),vs=[.ref a]/\H a=some (.ins PA dx [("many",m),("pairs",.ref l)])/\H l=some (.lst (bs.map V.ref))/\A2 (dR H) bs ps/\ps.length<=64/\(∀q∈ps,q.1<6/\q.2.1<6/\q.2.2.natAbs<10^60)/\∀H',aK H H'->Q (.str (sY ("pairs":Str) (ps.map pW))) H'
theorem NH:aN ["self"] ["self"] (aF AK):=#[1,2]
theorem JN{f1:Addr}{fd1:qBy}(t:Mx K "words" "Pairs.words" AK ["self"] f fd)(T:#[4])(D_pair_words:#[5] 1 "pair_words" ["pairs"] zG f1 fd1):#[1,0] 2 ["self"] (CZ PA) f:=by
 refine t.EF NH (by rintro _ _ _ _⟨a,dx,l,m,bs,ps,rfl,_⟩;rfl) fun _ _ _ _ H vs Q E hr h=>?_;obtain⟨a,dx,l,m,bs,ps,rfl,ha,hl,a2,h64,hn,k⟩:=h;refine⟨_,(aH (aU (dP qBf qCp qCo dQ aI (aA (aG bB (bE (aA aI aC)) (bN D_pair_words hr #[1] #[0] (aA (eM (pv 0) rfl) aC))) aC)))),?_⟩;refine⟨rfl,kG,fun l0 hl0=>?_⟩;have u0:=aK.aJ (o:=.lst [V.str ("pairs":Str)]) hl0;refine⟨_,rfl,a,PA,dx,_,_,rfl,u0 _ _ ha,T.Lf.oc.cl,T.QJ,rfl,l,bs,ps,rfl,u0 _ _ hl,a2.imp fun _ _ z=>z.keep u0.t,h64,hn,fun D H1 hD s1 h1=>?_⟩;refine⟨l0,D,_,_,rfl,rfl,bA.of (s1 _ _ aB),bA.of h1,(by rw[qAa,qAa];exact eI #[1] (qAk h64 #[1])),fun p hp=>?_⟩;refine⟨_,p,("pairs":Str)::ps.map pW,rfl,rfl,bA.of aB,iK #[1] (by rw[qAa];lia) (mF hn),k _ (u0.trans (s1.trans (.aJ hp)))⟩
def JO(MA:Addr):Sp:=fun vs H Q _=>∃(a dx l lb:Addr) (m:V) (bs:List Addr) (ps:List P3),vs=[.ref a]/\H a=some (.ins MA dx [("many",m),("pairs",.ref l),("best",.ref lb)])/\H l=some (.lst (bs.map V.ref))/\A2 (dR H) bs ps/\ps.length<=64/\(∀q∈ps,q.1<6/\q.2.1<6/\q.2.2.natAbs<10^60)/\∀H',aK H H'->Q (.str (sY ("match":Str) (ps.map pW))) H'
theorem Qp:aN ["self"] ["self"] (aF KU):=#[1,2]
theorem NJ{f1:Addr}{fd1:qBy}(t:Mx K "words" "Match.words" KU ["self"] f fd)(T:#[4])(D_pair_words:#[5] 1 "pair_words" ["pairs"] zG f1 fd1):#[1,0] 2 ["self"] (JO MA) f:=by
 refine t.EF Qp (by rintro _ _ _ _⟨a,dx,l,lb,m,bs,ps,rfl,_⟩;rfl) fun _ _ _ _ H vs Q E hr h=>?_;obtain⟨a,dx,l,lb,m,bs,ps,rfl,ha,hl,a2,h64,hn,k⟩:=h;refine⟨_,(aH (aU (dP qBf qCp qCo dQ aI (aA (aG bB (bE (aA aI aC)) (bN D_pair_words hr #[1] #[0] (aA (eM (pv 0) rfl) aC))) aC)))),?_⟩;refine⟨rfl,kG,fun l0 hl0=>?_⟩;have u0:=aK.aJ (o:=.lst [V.str ("match":Str)]) hl0;refine⟨_,rfl,a,MA,dx,_,_,rfl,u0 _ _ ha,T.Gv.oc.cl,T.PX,rfl,l,bs,ps,rfl,u0 _ _ hl,a2.imp fun _ _ z=>z.keep u0.t,h64,hn,fun D H1 hD s1 h1=>?_⟩;refine⟨l0,D,_,_,rfl,rfl,bA.of (s1 _ _ aB),bA.of h1,(by rw[qAa,qAa];exact eI #[1] (qAk h64 #[1])),fun p hp=>?_⟩;refine⟨_,p,("match":Str)::ps.map pW,rfl,rfl,bA.of aB,iK #[1] (by rw[qAa];lia) (mF hn),k _ (u0.trans (s1.trans (.aJ hp)))⟩
def JP(NE:Addr):Sp:=fun vs H Q _=>∃(a dx l lr:Addr) (m:V) (cs:List Int) (bs:List Addr) (ps:List P3),vs=[.ref a]/\H a=some (.ins NE dx [("many",m),("costs",.ref l),("ropes",.ref lr)])/\H l=some (.lst (cs.map V.int))/\H lr=some (.lst (bs.map V.ref))/\A2 (dR H) bs ps/\ps.length<=64/\cs.length<=64/\(∀n∈cs,n.natAbs<10^60)/\(∀q∈ps,q.1<6/\q.2.1<6/\q.2.2.natAbs<10^60)/\∀H',aK H H'->Q (.str (sY ("net":Str) (cs.map nW++ps.map pW))) H'
theorem Qq:aN ["self"] ["self"] (aF KY):=#[1,2]
theorem NM{f1 f2:Addr}{fd1 fd2:qBy}(t:Mx K "words" "Net.words" KY ["self"] f fd)(T:#[4])(D_number_words:#[5] 1 "number_words" ["numbers"] uR f1 fd1)(D_pair_words:#[5] 1 "pair_words" ["pairs"] zG f2 fd2):#[1,0] 2 ["self"] (JP NE) f:=by
 refine t.EF Qq (by rintro _ _ _ _⟨a,dx,l,lr,m,cs,bs,ps,rfl,_⟩;rfl) fun _ _ _ s H vs Q E hr h=>?_;obtain⟨a,dx,l,lr,m,cs,bs,ps,rfl,ha,hl,hlr,a2,h64,c64,hc,hn,k⟩:=h;refine⟨_,(aH (aU (dP qBf qCp qCo dQ aI (aA (aG bB (aG bB (bE (aA aI aC)) (bN D_number_words hr #[1] #[0] (aA (eM (pv 0) rfl) aC))) (bN D_pair_words hr #[1] #[0] (aA (eM (pv 0) rfl) aC))) aC)))),?_⟩;refine⟨rfl,kG,fun l0 hl0=>?_⟩;have u0:=aK.aJ (o:=.lst [V.str ("net":Str)]) hl0;refine⟨_,rfl,a,NE,dx,_,_,rfl,u0 _ _ ha,T.CS.oc.cl,T.QL,rfl,l,cs,rfl,u0 _ _ hl,c64,hc,fun D H1 hD s1 h1=>?_⟩;have u1:=u0.trans s1;refine⟨l0,D,_,_,rfl,rfl,bA.of (s1 _ _ aB),bA.of h1,(by rw[qAa,qAa];exact eI #[1] (qAk c64 #[1])),fun l2 hl2=>?_⟩;have u2:=u1.trans (aK.aJ (o:=.lst ([V.str ("net":Str)]++(cs.map nW).map V.str)) hl2);refine⟨_,rfl,a,NE,dx,_,_,rfl,u2 _ _ ha,T.CS.oc.cl,T.Jj,rfl,lr,bs,ps,rfl,u2 _ _ hlr,a2.imp fun _ _ z=>z.keep u2.t,h64,hn,fun D3 H3 hD3 s3 h3=>?_⟩;refine⟨l2,D3,_,_,rfl,rfl,bA.of (s3 _ _ aB),bA.of h3,(by rw[qAf,qAa,qAa,qAa,qAa];exact rH c64 h64),fun p hp=>?_⟩;refine⟨_,p,("net":Str)::(cs.map nW++ps.map pW),rfl,rfl,bA.of (by rw[aB,qBo,qCt];rfl),iK #[1] (by rw[qAf,qAa,qAa];lia) (fun s hs=>?_),k _ (u2.trans (s3.trans (.aJ hp)))⟩;rcases List.mem_append.mp hs with h | h
 .exact mE hc s h
 .exact mF hn s h
def k9(P:qBe)(w:qCj)(K:qAb)(mg:Str->Option qAh)(base:Heap)(H:Hp)(a:Addr)(tx:Str):Prop :=
 ∃(C dx g:Addr) (fs:List (Str×V)),H a=some (.ins C dx fs)/\fs.lookup ("words":Str)=none/\Aj K C/\Meth K C "words" g /\
  ∃ps,Md P w K mg base 3 ps (fun vs H2 Q _=>vs=[.ref a]/\aK H H2/\∀H3,aK H2 H3->Q (.str tx) H3) g
theorem k9.same(r:k9 P w K mg base H a tx)(s:aK H H'):k9 P w K mg base H' a tx:=by
 obtain⟨C,dx,g,fs,h1,h2,h3,h4,ps,h7⟩:=r;exact⟨C,dx,g,fs,s _ _ h1,h2,h3,h4,ps,h7.imp (by rintro vs H2 Q _ ⟨e,b,d⟩;exact ⟨e,s.trans b,d⟩)⟩
theorem JQ(T:#[4])(D:#[1,0] 1 ["self"] JJ wR){H:Hp}{a dx:Addr}{m:V}(ha:H a=some (.ins RU dx [("many",m)])):k9 P w K mg base H a ("none":Str) :=
 ⟨RU,dx,wR,_,ha,rfl,T.OH.oc.cl,T.Rk,_,(D.up #[1]).imp (by rintro vs H2 Q _ ⟨e,s,q⟩;exact ⟨a,e,q _ (.refl _)⟩)⟩
theorem NP(T:#[4])(D:#[1,0] 2 ["self"] (CW OW) wO){H:Hp}{a dx l:Addr}{m:V}{ns:List Int}(ha:H a=some (.ins OW dx [("many",m),("numbers",.ref l)]))(hl:H l=some (.lst (ns.map V.int)))(h64:ns.length<=64)(hn:∀n∈ns,n.natAbs<10^60):k9 P w K mg base H a (sY ("own":Str) (ns.map nW)) :=
 ⟨OW,dx,wO,_,ha,rfl,T.Ld.oc.cl,T.Rl,_,(D.up #[1]).imp (by rintro vs H2 Q _ ⟨e,s,q⟩;exact ⟨a,dx,l,m,ns,e,s _ _ ha,s _ _ hl,h64,hn,q⟩)⟩
theorem Fs(T:#[4])(D:#[1,0] 2 ["self"] (JL VO) wV){H:Hp}{a dx l:Addr}{m:V}{q z:Int}{ns:List Int}(ha:H a=some (.ins VO dx [("many",m),("quota",.int q),("prize",.int z),("weights",.ref l)]))(hl:H l=some (.lst (ns.map V.int)))(h62:ns.length<=62)(hn:∀n∈q::z::ns,n.natAbs<10^60):k9 P w K mg base H a (sY ("votes":Str) ((q::z::ns).map nW)) :=
 ⟨VO,dx,wV,_,ha,rfl,T.Ec.oc.cl,T.Ro,_,(D.up #[1]).imp (by rintro vs H2 Q _ ⟨e,s,k⟩;exact ⟨a,dx,l,m,q,z,ns,e,s _ _ ha,s _ _ hl,h62,hn,k⟩)⟩
theorem Ft(T:#[4])(D:#[1,0] 2 ["self"] (CY PL) wP){H:Hp}{a dx l:Addr}{m:V}{e0:Int}{ns:List Int}(ha:H a=some (.ins PL dx [("many",m),("earnings",.ref l)]))(hl:H l=some (.lst ((e0::ns).map V.int)))(h64:ns.length<=64)(hn:∀n∈ns,n.natAbs<10^60):k9 P w K mg base H a (sY ("table":Str) (ns.map nW)) :=
 ⟨PL,dx,wP,_,ha,rfl,T.Le.oc.cl,T.Rm,_,(D.up #[1]).imp (by rintro vs H2 Q _ ⟨e,s,q⟩;exact ⟨a,dx,l,m,e0,ns,e,s _ _ ha,s _ _ hl,h64,hn,q⟩)⟩
theorem Fu(T:#[4])(D:#[1,0] 2 ["self"] (CZ PA) wA){H:Hp}{a dx l:Addr}{m:V}{bs:List Addr}{ps:List P3}(ha:H a=some (.ins PA dx [("many",m),("pairs",.ref l)]))(hl:H l=some (.lst (bs.map V.ref)))(a2:A2 (dR H) bs ps)(h64:ps.length<=64)(hn:∀q∈ps,q.1<6/\q.2.1<6/\q.2.2.natAbs<10^60):k9 P w K mg base H a (sY ("pairs":Str) (ps.map pW)) :=
 ⟨PA,dx,wA,_,ha,rfl,T.Lf.oc.cl,T.Rn,_,(D.up #[1]).imp (by rintro vs H2 Q _ ⟨e,s,q⟩;exact ⟨a,dx,l,m,bs,ps,e,s _ _ ha,s _ _ hl,a2.imp fun _ _ z=>z.keep s.t,h64,hn,q⟩)⟩
theorem Fv(T:#[4])(D:#[1,0] 2 ["self"] (JO MA) wM){H:Hp}{a dx l lb:Addr}{m:V}{bs:List Addr}{ps:List P3}(ha:H a=some (.ins MA dx [("many",m),("pairs",.ref l),("best",.ref lb)]))(hl:H l=some (.lst (bs.map V.ref)))(a2:A2 (dR H) bs ps)(h64:ps.length<=64)(hn:∀q∈ps,q.1<6/\q.2.1<6/\q.2.2.natAbs<10^60):k9 P w K mg base H a (sY ("match":Str) (ps.map pW)) :=
 ⟨MA,dx,wM,_,ha,rfl,T.Gv.oc.cl,T.Rp,_,(D.up #[1]).imp (by rintro vs H2 Q _ ⟨e,s,q⟩;exact ⟨a,dx,l,lb,m,bs,ps,e,s _ _ ha,s _ _ hl,a2.imp fun _ _ z=>z.keep s.t,h64,hn,q⟩)⟩
theorem NQ(T:#[4])(D:#[1,0] 2 ["self"] (JP NE) wN){H:Hp}{a dx l lr:Addr}{m:V}{cs:List Int}{bs:List Addr}{ps:List P3}(ha:H a=some (.ins NE dx [("many",m),("costs",.ref l),("ropes",.ref lr)]))(hl:H l=some (.lst (cs.map V.int)))(hr:H lr=some (.lst (bs.map V.ref)))(a2:A2 (dR H) bs ps)(h64:ps.length<=64)(c64:cs.length<=64)(hc:∀n∈cs,n.natAbs<10^60)(hn:∀q∈ps,q.1<6/\q.2.1<6/\q.2.2.natAbs<10^60):k9 P w K mg base H a (sY ("net":Str) (cs.map nW++ps.map pW)) :=
 ⟨NE,dx,wN,_,ha,rfl,T.CS.oc.cl,T.Rq,_,(D.up #[1]).imp (by rintro vs H2 Q _ ⟨e,s,q⟩;exact ⟨a,dx,l,lr,m,cs,bs,ps,e,s _ _ ha,s _ _ hl,s _ _ hr,a2.imp fun _ _ z=>z.keep s.t,h64,c64,hc,hn,q⟩)⟩
theorem cG(hq:H q=some o)(hx:H x=none)(hd:H dx=none):upd (upd H dx u) x v q=some o:=by
 rw[aM (bD hq hx),aM (bD hq hd)];exact hq
theorem gH(ne:dx≠x)(hl:upd (upd H dx u) x v l=none):H l=none:=by
 have nl:l≠x:=fun z=>by rw[z,aB] at hl;cases hl
 have nd:l≠dx:=fun z=>by rw[z,aM ne,aB] at hl;cases hl
 rw[aM nl,aM nd] at hl;exact hl
theorem A2.perm(p:bs.Perm as):∀{xs:List α},A2 R as xs->∃ys,A2 R bs ys/\ys.Perm xs:=by
 induction p with
 | nil=>intro xs h;exact⟨xs,h,.refl _⟩
 | cons b _ ih =>
  intro xs h;cases h with
  | cons r t =>
   obtain⟨ys,h1,h2⟩:=ih t;exact⟨_,.cons r h1,h2.cons _⟩
 | swap a b l =>
  intro xs h;cases h with
  | cons r t =>
   cases t with
   | cons r2 t2=>exact⟨_,.cons r2 (.cons r t2),.swap _ _ _⟩
 | trans _ _ ih1 ih2 =>
  intro xs h;obtain⟨ys,h1,h2⟩:=ih2 h;obtain⟨zs,h3,h4⟩:=ih1 h1;exact⟨zs,h3,h4.trans h2⟩
theorem A2.uniq(h:A2 (dR H) bs ps)(k:A2 (dR H) bs qs):ps=qs:=by
 induction h generalizing qs with
 | nil=>cases k;rfl
 | cons r _ ih =>
  cases k with
  | cons r2 t2=>rw[r.eq r2,ih t2]
theorem JR{H:Hp}{q:Addr}{ns:List Int}{x dx:Addr}{R:VK}{E:XK}(hx:H x=none)(hd:H dx=none)(ne:dx≠x)(hq:H q=some (.lst (ns.map V.int)))(h1:1<=ns.length)(h6:ns.length<=6)
  (k:∀l H',H l=none->aK H H'->H' x=some (.ins OW dx [("many",.int (ns.length:Int)),("numbers",.ref l)])->H' l=some (.lst (ns.map V.int))->R .non H') :
  Jx K NL OW [.ref x,.ref q] (upd (upd H dx (.own x)) x (.ins OW dx [])) R E:=by
 refine⟨x,dx,q,_,rfl,aB,cG hq hx hd,fN,by rw[qAa];lia,fun no=>?_,fun _ l H' hl sb e1 e2=>?_⟩
 .unfold okN at no;rw[qAa,decide_eq_true h1,decide_eq_true h6,all_ints] at no;cases no
 .rw[qAa] at e1;exact k l H' (gH ne hl) (sb.made hx hd ne) e1 e2
theorem Fw(hn:(0::ns).length=2^m)(h1:1<=m)(h6:m<=6):jV ((0::ns).map V.int)=true:=by
 delta jV;rw[all_ints,qAa,hn];have:∀m:_root_.Fin 7,1<=m.1->[2,4,8,16,32,64].contains (2^m.1)=true:=by decide
 rw[this ⟨m,by lia⟩ h1];rfl
theorem Dc{H:Hp}{q:Addr}{ns:List Int}{m:Nat}{x dx:Addr}{R:VK}{E:XK}(hx:H x=none)(hd:H dx=none)(ne:dx≠x)(hq:H q=some (.lst ((0::ns).map V.int)))(hn:(0::ns).length=2^m)(h1:1<=m)(h6:m<=6)
  (k:∀l H',H l=none->aK H H'->H' x=some (.ins PL dx [("many",.int (m:Int)),("earnings",.ref l)])->H' l=some (.lst ((0::ns).map V.int))->R .non H') :
  Jy K NT PL [.ref x,.ref q] (upd (upd H dx (.own x)) x (.ins PL dx [])) R E:=by
 have h64:=PV h6;have ok:=Fw hn h1 h6;refine⟨x,dx,q,_,rfl,aB,cG hq hx hd,fN,by rw[qAa];lia,fun no=>?_,fun _ m' l H' m1 m6 hm' hl sb e1 e2=>?_⟩
 .rw[ok] at no;cases no
 .have em:m'=m:=by
   rw[qAa,hn] at hm';have inj:∀a b:_root_.Fin 7,2^a.1=2^b.1->b.1=a.1:=by decide
   exact inj ⟨m,by lia⟩ ⟨m',by lia⟩ hm'
  subst em;exact k l H' (gH ne hl) (sb.made hx hd ne) e1 e2
theorem Fx(c:HP K RU)(n:cQ K RU "many"){H:Hp}{m:Nat}{x dx:Addr}{R:VK}{E:XK}(hx:H x=none)(hd:H dx=none)(ne:dx≠x)(h1:1<=m)(h6:m<=6)
  (k:∀H',aK H H'->H' x=some (.ins RU dx [("many",.int (m:Int))])->R .non H') :
  sW K NL [.ref x,.int (m:Int)] (upd (upd H dx (.own x)) x (.ins RU dx [])) R E:=by
 have ok:mM 1 6 (.int (m:Int))=true:=by rw[fY,decide_eq_true h1,decide_eq_true h6];rfl
 refine⟨x,RU,dx,_,rfl,aB,c.cl,n,.int _,fun no=>?_,fun _=>?_⟩
 .rw[ok] at no;cases no
 .refine k _ (SameBut.made hx hd ne (((aK.refl _).but x).iH _)) aB
theorem Dd{H:Hp}{p:Addr}{q pz:Int}{ws:List Int}{x dx:Addr}{R:VK}{E:XK}(hx:H x=none)(hd:H dx=none)(ne:dx≠x)(hp:H p=some (.lst (ws.map V.int)))(hq:1<=q)(h1:1<=ws.length)(h6:ws.length<=6)
  (k:∀(l:Addr) (H':Hp),H l=none->aK H H'->H' x=some (.ins VO dx [("many",.int (ws.length:Int)),("quota",.int q),("prize",.int pz),("weights",.ref l)])->H' l=some (.lst (ws.map V.int))->R .non H') :
  Fo K NL VO [.ref x,.int q,.int pz,.ref p] (upd (upd H dx (.own x)) x (.ins VO dx [])) R E:=by
 refine⟨x,dx,p,_,_,_,rfl,aB,.int _,.int _,cG hp hx hd,fN,by rw[qAa];lia,fun no=>?_,fun _ l H' hl sb e1 e2=>?_⟩
 .have ok:CV (.int q) (.int pz) (ws.map V.int)=true:=by
   delta CV okN;rw[qAa,all_ints,decide_eq_true h1,decide_eq_true h6];show decide (1<=q)=true;exact decide_eq_true hq
  rw[ok] at no;cases no
 .rw[qAa] at e1;exact k l H' (gH ne hl) (sb.made hx hd ne) e1 e2
theorem De(hx:H x=none)(hd:H dx=none)(ne:dx≠x)(hq:H q=some (.lst (as.map V.ref)))(ok:dF m H as)(a2:A2 (dR H) as qs)(h1:1<=m)(h6:m<=6)
  (k:∀(l:Addr) (bs:List Addr) (ps:List P3) (H':Hp),H l=none->aK H H'->ps.Perm qs->kC ps->A2 (dR H') bs ps->H' x=some (.ins PA dx [("many",.int (m:Int)),("pairs",.ref l)])->H' l=some (.lst (bs.map V.ref))->R .non H') :
  yX K NL PA [.ref x,.int (m:Int),.ref q] (upd (upd H dx (.own x)) x (.ins PA dx [])) R E:=by
 have ok':dF m (upd (upd H dx (.own x)) x (.ins PA dx [])) as:=ok.same fun b _ o e=>cG e hx hd;have i16:mM 1 6 (.int (m:Int))=true:=by rw[fY,decide_eq_true h1,decide_eq_true h6];rfl
 refine⟨x,dx,q,_,as,rfl,aB,.int _,cG hq hx hd,ok'.dU,by have:=ok.2.2;lia,fun no=>?_,fun m' e _=>⟨fun no=>?_,fun _ l bs H' hl p hpw sb e1 e2=>?_⟩⟩
 .rw[i16] at no;cases no
 .have e:=V.int.inj e;subst e;rw[ok'.ok] at no;cases no
 .have s:=sb.made hx hd ne;have t:fI (upd (upd H dx (.own x)) x (.ins PA dx [])) H':=fun b xs e=>sb b _ (fE e aB (fun z=>nomatch z)) e;obtain⟨ps,a3,pm⟩:=(a2.imp fun _ _ z=>z.keep s.t).perm p;exact k l bs ps H' (gH ne hl) s pm (a3.Bh (JC t (fun a ha=>let ⟨u,v,n,e,_⟩:=ok'.1 a (p.mem_iff.mp ha);⟨_,e⟩) hpw)) a3 e1 e2
theorem Dg(hx:H x=none)(hd:H dx=none)(ne:dx≠x)(hq:H q=some (.lst (as.map V.ref)))(ok:dF m H as)(a2:A2 (dR H) as qs)(h1:1<=m)(h6:m<=6)
  (k:∀(l lb:Addr) (bs:List Addr) (ps:List P3) (H':Hp),H l=none->H lb=none->aK H H'->ps.Perm qs->kC ps->A2 (dR H') bs ps->Nr MA H' x lb m ps->(∃dx,H' x=some (.ins MA dx [("many",.int (m:Int)),("pairs",.ref l),("best",.ref lb)]))->H' l=some (.lst (bs.map V.ref))->R .non H') :
  Fp K NL MA [.ref x,.int (m:Int),.ref q] (upd (upd H dx (.own x)) x (.ins MA dx [])) R E:=by
 have ok':dF m (upd (upd H dx (.own x)) x (.ins MA dx [])) as:=ok.same fun b _ o e=>cG e hx hd;refine⟨x,dx,q,_,as,rfl,aB,.int _,cG hq hx hd,ok'.dU,by have:=ok.2.2;lia,.inr ⟨m,rfl,h1,h6,.inr ⟨ok',fun l lb bs ps H' hlb pm sb e1 e2 e3 e4 e5 hl=>?_⟩⟩⟩;have s:=sb.made hx hd ne;obtain⟨ps',a3,pm'⟩:=(a2.imp fun _ _ z=>z.keep s.t).perm pm;rw[a3.uniq e1] at pm';exact k l lb bs ps H' (gH ne hl) (gH ne hlb) s pm' e5 e1 e2 e3 e4
theorem JS(hx:H x=none)(hd:H dx=none)(ne:dx≠x)(hp:H p=some (.lst (cs.map V.int)))(c1:1<=cs.length)(c6:cs.length<=6)(c0:∀c∈cs,0<=c)(hq:H q=some (.lst (as.map V.ref)))(ok:dF cs.length H as)(a2:A2 (dR H) as qs)(r0:∀r∈qs,0<=r.2.2)
  (k:∀(l lr:Addr) (rs:List P3) (H':Hp),H l=none->H lr=none->aK H H'->rs.Perm qs->kC rs->JF NE H' x l lr cs rs->R .non H') :
  Fq K NL NE [.ref x,.ref p,.ref q] (upd (upd H dx (.own x)) x (.ins NE dx [])) R E:=by
 have ok':dF cs.length (upd (upd H dx (.own x)) x (.ins NE dx [])) as:=ok.same fun b _ o e=>cG e hx hd;refine⟨x,dx,p,q,_,as,rfl,aB,cG hp hx hd,fN,by rw[qAa];lia,cG hq hx hd,ok'.dU,by have:=ok.2.2;lia,.inr ⟨cs,rfl,c1,c6,c0,.inr ⟨ok',.inr ⟨fun a ha r hr=>?_,fun l lr bs rs H' hl hlr pm sb e1 e2 e3=>?_⟩⟩⟩⟩
 .obtain⟨u,v,n,e,_⟩:=ok.1 a ha;have e':dR _ a (u,v,n):=cG (u:=.own x) (v:=.ins NE dx []) e hx hd;have z:=hr.eq e';obtain⟨r',hr',pr'⟩:=a2.mem.1 a ha;have z2:r'=(u,v,n):=pr'.eq e;rw[z,<- z2];exact r0 r' hr'
 .have s:=sb.made hx hd ne;obtain⟨ps',a3,pm'⟩:=(a2.imp fun _ _ z=>z.keep s.t).perm pm;rw[a3.uniq e1] at pm';exact k l lr rs H' (gH ne hl) (gH ne hlr) s pm' e3 e2
theorem fQ(hx:H x=none)(hd:H dx=none):aK H (upd (upd H dx u) x v):=fun _ _ e=>cG e hx hd
theorem mG(h:iU K H as)(s:aK H H'):iU K H' as:=fun a ha =>
 let ⟨xs,h1,h2,h3⟩:=h a ha;⟨xs,s _ _ h1,fun v hv=>(h2 v hv).same s,h3⟩
theorem Dh(hx:H x=none)(hd:H dx=none)(ne:dx≠x)(pc:Pl K H c)(pz:Pl K H z)(hq:H q=some (.lst xs))(pl:∀v∈xs,Pl K H v)(hl:xs.length<=1000)(no:CV c z xs=false)(kE:∀H',aK H H'->E (.ref NL) none H'):Fo K NL VO [.ref x,c,z,.ref q] (upd (upd H dx (.own x)) x (.ins VO dx [])) R E :=
 ⟨x,dx,q,c,z,xs,rfl,aB,pc.same (fQ hx hd),pz.same (fQ hx hd),cG hq hx hd,fun v hv=>(pl v hv).same (fQ hx hd),hl,fun _ H' sb=>kE H' (sb.made hx hd ne),fun yes=>by rw[no] at yes;cases yes⟩
theorem Di(hx:H x=none)(hd:H dx=none)(ne:dx≠x)(pv:Pl K H v)(hq:H q=some (.lst (as.map V.ref)))(ht:iU K H as)(h64:as.length<64)(no:mM 1 6 v=false\/∃m:Nat,v = .int (m:Int)/\1<=m/\m<=6/\gY (m:Int) (as.map (c5 H))=false)(kE:∀H',aK H H'->E (.ref NL) none H'):yX K NL PA [.ref x,v,.ref q] (upd (upd H dx (.own x)) x (.ins PA dx [])) R E:=by
 have s:=fQ (u:=.own x) (v:=.ins PA dx []) hx hd;refine⟨x,dx,q,v,as,rfl,aB,pv.same s,cG hq hx hd,mG ht s,h64,fun _ H' sb=>kE H' (sb.made hx hd ne),fun m e yes=>⟨fun _ H' sb=>kE H' (sb.made hx hd ne),fun ok=>?_⟩⟩;rw[ht.eq fun a xs e=>cG e hx hd] at ok;rcases no with no | ⟨m',e',m1,m6,no⟩
 .rw[no] at yes;cases yes
 .have z:(m':Int)=m:=V.int.inj (e'.symm.trans e);rw[z,ok] at no;cases no
theorem Dj(hx:H x=none)(hd:H dx=none)(ne:dx≠x)(pv:Pl K H v)(hq:H q=some (.lst (as.map V.ref)))(ht:iU K H as)(h64:as.length<64)(no:mM 1 6 v=false\/∃m:Nat,v = .int (m:Int)/\1<=m/\m<=6/\gY (m:Int) (as.map (c5 H))=false)(kE:∀H',aK H H'->E (.ref NL) none H'):Fp K NL MA [.ref x,v,.ref q] (upd (upd H dx (.own x)) x (.ins MA dx [])) R E:=by
 have s:=fQ (u:=.own x) (v:=.ins MA dx []) hx hd;exists x,dx,q,v,as,rfl,aB,pv.same s,cG hq hx hd,mG ht s,h64;rcases no with no | ⟨m,e,m1,m6,no⟩
 .exact .inl ⟨no,fun H' sb=>kE H' (sb.made hx hd ne)⟩
 .exact .inr ⟨m,e,m1,m6,.inl ⟨by rw[ht.eq fun a xs e=>cG e hx hd];exact no,fun H' sb=>kE H' (sb.made hx hd ne)⟩⟩
theorem xD(hx:H x=none)(hd:H dx=none)(ne:dx≠x)(hp:H p=some (.lst xs))(pl:∀v∈xs,Pl K H v)(hl:xs.length<=1000)(hq:H q=some (.lst (as.map V.ref)))(ht:iU K H as)(h64:as.length<64)(no:(okN xs&&Bj xs)=false\/∃cs:List Int,xs=cs.map V.int/\1<=cs.length/\cs.length<=6/\(∀c∈cs,0<=c)/\(gY (cs.length:Int) (as.map (c5 H))=false\/dF cs.length H as/\∃a∈as,∃r,dR H a r/\r.2.2<0))(kE:∀H',aK H H'->E (.ref NL) none H'):Fq K NL NE [.ref x,.ref p,.ref q] (upd (upd H dx (.own x)) x (.ins NE dx [])) R E:=by
 have s:=fQ (u:=.own x) (v:=.ins NE dx []) hx hd;exists x,dx,p,q,xs,as,rfl,aB,cG hp hx hd,fun v hv=>(pl v hv).same s,hl,cG hq hx hd,mG ht s,h64;rcases no with no | ⟨cs,e,c1,c6,c0,no | ⟨ok,a,ha,r,pr,r0⟩⟩
 .exact .inl ⟨no,fun H' sb=>kE H' (sb.made hx hd ne)⟩
 .exact .inr ⟨cs,e,c1,c6,c0,.inl ⟨by rw[ht.eq fun a xs e=>cG e hx hd];exact no,fun H' sb=>kE H' (sb.made hx hd ne)⟩⟩
 .exact .inr ⟨cs,e,c1,c6,c0,.inr ⟨ok.same fun b _ o e=>cG e hx hd,.inl ⟨⟨a,ha,r,cG pr hx hd,r0⟩,fun H' sb=>kE H' (sb.made hx hd ne)⟩⟩⟩
abbrev Ru:=Addr×Nat
def pC(K:qAb)(fH:Addr)(H:Hp)(os:List Ru):Prop:=∀o∈os,CM K fH H o.1 o.2
theorem pC.same{fH:Addr}{H H':Hp}{os:List Ru}(h:pC K fH H os)(s:aK H H'):pC K fH H' os:=fun o ho=>(h o ho).same s
def refs(os:List Ru):List V:=os.map fun o=>V.ref o.1
def uS(v:V)(os:List Ru):Bool:=!(mM 1 6 v)||decide (12<os.length)||(os.any fun o=>!(decide (V.int (o.2:Int)=v)))
def JT(K:qAb)(fH CO NL:Addr):Sp:=fun vs H Q E=>∃(x dx p:Addr) (v:V) (os:List Ru),vs=[.ref x,v,.ref p]/\H x=some (.ins CO dx [])/\H p=some (.lst (refs os))/\os.length<=60/\pC K fH H os/\Pl K H v /\
 (uS v os=true->∀H',aK H H'->E (.ref NL) none H') /\
 (uS v os=false->∀l H',H l=none->SameBut x H H'->H' x=some (.ins CO dx [("many",v),("rules",.ref l)])->H' l=some (.lst (refs os))->Q .non H')
theorem Qr:aN ["self","many","rules"] ["self","many","rules"] (aF KZ):=#[1,2]
theorem NU(t:Mx K "__init__" "Company.__init__" KZ ["self","many","rules"] f fd)(T:#[4])(D_check_many:#[1,1] 3 "check_many" ["many"] (CT K NL) f1 fd1)(D_Hs:#[1,0] 1 ["self"] (Jw K) fH):
  #[1,0] 4 ["self","many","rules"] (JT K fH CO NL) f:=by
 refine t.Gh Qr (by rintro _ _ _ _⟨x,dx,p,v,os,rfl,_⟩;rfl) fun _ _ _ _ H vs Q E hr h=>?_;obtain⟨x,dx,p,v,os,rfl,hx,hp,ol,ro,pl,k0,k⟩:=h;obtain⟨tkMR,hMR⟩:=T.mr;have rl:(refs os).length=os.length:=by delta refs;rw[qAa]
 refine⟨_,(aE (cA (cX aQ.toPass D_check_many hr #[1] #[0] (aA (pv 1) aC)))
  (aE (bI (aL nR (aO aS #[0] T.cD bS (aA (pv 2) aC)) (bO (v:=.int 12) #[0] hMR ⟨tkMR,rfl⟩) (aT _)) (aH (cP aQ rfl #[0] T.sT T.uL (aA aI aC))) aY)
  (aE (bI (eL (aO (tY rfl) #[0] T.rC BX (aA (dX (NB:=["rule","many"]) (pick:=[none,some 1]) (dJ #[7] (by exact(And.intro rfl trivial)) rfl #[2] #[2] #[0] #[0]) rfl
    (cU (pv 2)) (fun _ _ _=>bC (i:=0) #[8,["rule","many"]] rfl cO)
    (fun _ _ _=>cV) (fun _ _ _=>(jI kI (oG P w K mg base rfl rfl rfl rfl rfl (k:=1) kM (pv 0) hr #[1]) (pv 1) (aT _)))) aC))) (aH (cP aQ rfl #[0] T.sT T.uL (aA aI aC))) aY)
  (aE (fB (pv 0) (pv 1) rfl)
  (aH (fB (pv 0) (dI dW #[0] T.fZ iG (aA (pv 2) aC)) rfl)))))),?_⟩
 exists _,rfl,v,rfl,pl;cases e1:mM 1 6 v with
 | false =>
  rw[if_neg qAm];exact k0 (by delta uS;rw[e1];rfl) H (.refl _)
 | true =>
  rw[if_pos rfl];exists _,rfl,p,_,rfl,.inl (bA.of hp),_,_,rfl,rfl,_,rfl;have ec:decide (((refs os).length:Int)>12)=decide (12<os.length):=by
   rw[rl];by_cases z:12<os.length
   .rw[decide_eq_true z,decide_eq_true (by lia)]
   .rw[decide_eq_false z,decide_eq_false (by lia)]
  show if decide (((refs os).length:Int)>12)=true then _ else _;rw[ec];cases e2:decide (12<os.length) with
  | true=>exact dC ⟨kG,k0 (by delta uS;rw[e1,e2];rfl) H (.refl _)⟩
  | false =>
   refine bF ?_;obtain⟨m,rfl⟩:∃m:Int,v = .int m:=by
    cases v with
    | int i=>exact⟨i,rfl⟩
    | _=>cases e1
   exists _,rfl,p,rfl,⟨_,bA.of hp⟩;refine eG (xs:=refs os) (fun i _=>(os[i]?).map fun o=>V.bl (!decide (V.int (o.2:Int)=V.int m))) (bA.of hp) (by rw[rl];exact qCu (bL (by lia))) (fun i y H2 kk kk0 s2 hy g1 g2=>?_) fun D H2 hD s2 hd=>?_
   .have hi:i<os.length:=by
     obtain⟨z,_⟩:=List.getElem?_eq_some_iff.mp hy;rw[rl] at z;exact z
    obtain rfl:V.ref os[i].1=y:=by
     delta refs at hy;rw[qAs,qAe hi] at hy;exact Option.some.inj hy
    obtain⟨C,dx',fs,h1,h2,h3,h4,h5,h6⟩:=ro os[i] (qDc hi);have h1:=s2 _ _ h1;exists _,rfl,os[i].1,C,dx',fs,fH,Jw K,rfl,h1,h6,h2.oc.cl,h2.mh,⟨_,D_Hs⟩;refine⟨os[i].1,C,dx',fs,_,rfl,h1,h2.oc.cl,h2.nm,h3,_,rfl,rfl,g1 _ ?_ _ (.refl _)⟩;rw[qAe hi];rfl
   have ed:((qBk (refs os).length).filterMap fun i=>((refs os)[i]?).bind fun _=>(os[i]?).map fun o=>V.bl (!decide (V.int (o.2:Int)=V.int m)))=(os.map fun o=>!decide (V.int (o.2:Int)=V.int m)).map V.bl:=by
    rw[rl,qCe];refine Eq.trans (fX (g:=fun i=>(os[i]?).bind fun o=>some (V.bl (!decide (V.int (o.2:Int)=V.int m)))) fun i hi=>?_) ?_
    .have hi:=List.mem_range.mp hi;rw[qAe (l:=refs os) (by rw[rl];exact hi),qAe hi];rfl
    .rw[eJ,qCz];rfl
   rw[ed] at hd;exists D,_,rfl,bA.of hd,_,rfl;have ea:(os.map fun o=>!decide (V.int (o.2:Int)=V.int m)).any id=os.any fun o=>!(decide (V.int (o.2:Int)=V.int m)):=by rw[List.any_map];rfl
   rw[ea];cases e3:os.any fun o=>!(decide (V.int (o.2:Int)=V.int m)) with
   | true=>exact dC ⟨kG,k0 (by delta uS;rw[e1,e2,e3];rfl) H2 s2⟩
   | false =>
    refine bF ?_;have hx2:=s2 _ _ hx;have hp2:=s2 _ _ hp;refine⟨_,rfl,_,rfl,x,CO,dx,[],rfl,hx2,T.Ed.oc.cl,T.Ed.nm,by decide,?_⟩;have ne:p≠x:=fE hp hx (by intro z;cases z);have hp3:upd H2 x (.ins CO dx [("many",V.int m)]) p=some (.lst (refs os)):=by rw[aM ne];exact hp2
    have sb:SameBut x H (upd H2 x (.ins CO dx [("many",V.int m)])):=(s2.but x).iH _;have hx3:upd H2 x (.ins CO dx [("many",V.int m)]) x=some (.ins CO dx [("many",V.int m)]):=aB;rw[show iS ("many":Str) (V.int m) []=[(("many":Str),V.int m)] from rfl];generalize upd H2 x (.ins CO dx [("many",V.int m)])=H3 at hp3 sb hx3|-;refine⟨_,rfl,p,_,rfl,.inl (bA.of hp3),fun l hl=>?_⟩;have u4:=aK.aJ (o:=.lst (refs os)) hl;have nl:l≠x:=(bD hx3 hl).symm;refine⟨_,rfl,x,CO,dx,_,rfl,u4 _ _ hx3,T.Ed.oc.cl,T.Ed.nr,(by show 1<1000;decide),?_⟩;refine k (by delta uS;rw[e1,e2,e3];rfl) l _ ?_ ((sb.then u4).iH _) aB (by rw[aM nl];exact aB);cases e:H l with
    | none=>rfl
    | some o =>
     have z:=sb l o nl e;rw[hl] at z;cases z
def NY(K:qAb)(fH CO:Addr)(H:Hp)(a:Addr)(m:Nat)(os:List Ru):Prop :=
 ∃(dx l:Addr),H a=some (.ins CO dx [("many",.int (m:Int)),("rules",.ref l)])/\H l=some (.lst (refs os))/\os.length<=12/\1<=m/\m<=6/\pC K fH H os/\∀o∈os,o.2=m
theorem Fy{fH CO NL:Addr}{H:Hp}{q:Addr}{m:Nat}{os:List Ru}{x dx:Addr}{R:VK}{E:XK}(hx:H x=none)(hd:H dx=none)(ne:dx≠x)(hq:H q=some (.lst (refs os)))(o12:os.length<=12)(ro:pC K fH H os)(om:∀o∈os,o.2=m)(h1:1<=m)(h6:m<=6)
  (k:∀l H',H l=none->aK H H'->H' x=some (.ins CO dx [("many",.int (m:Int)),("rules",.ref l)])->H' l=some (.lst (refs os))->R .non H') :
  JT K fH CO NL [.ref x,.int (m:Int),.ref q] (upd (upd H dx (.own x)) x (.ins CO dx [])) R E:=by
 have sm:aK H (upd (upd H dx (.own x)) x (.ins CO dx [])):=SameBut.made hx hd ne ((aK.refl _).but x);have b:uS (.int (m:Int)) os=false:=by
  delta uS;have i16:mM 1 6 (.int (m:Int))=true:=by rw[fY,decide_eq_true h1,decide_eq_true h6];rfl
  have ea:(os.any fun o=>!(decide (V.int (o.2:Int)=V.int (m:Int))))=false:=List.any_eq_false.mpr fun o ho'=>by
   rw[om o ho',decide_eq_true rfl];decide
  rw[i16,ea,decide_eq_false (by lia)];rfl
 refine⟨x,dx,q,_,os,rfl,aB,sm _ _ hq,by lia,ro.same sm,.int _,(fun bad=>?_),fun _ l H' hl sb e1 e2=>k l H' (sm.free hl) (sb.made hx hd ne) e1 e2⟩;rw[b] at bad;cases bad
theorem bR{F:St->Hp->Prop}{σ σ':St}{H:Hp}(e:σ=σ')(h:F σ' H):F σ H:=e▸h
theorem dG(R:St->Hp->Prop)(h1:(∀σ' H',R σ' H'->b D σ' H')->a { D with nx:=b D } σ H)(h2:∀σ' H',R σ' H'->b D σ' H'):Ab a b D σ H:=h1 h2
def QM(m:Nat)(ts:List Str):Str:=Txt.join ("; ":Str) ((("hands ":Str)++nW (m:Int))::ts)
def NZ(P:qBe)(w:qCj)(K:qAb)(mg:Str->Option qAh)(base:Heap)(fH CO:Addr):Sp:=fun vs H Q _=>∃(a:Addr) (m:Nat) (os:List Ru) (ts:List Str),vs=[.ref a]/\NY K fH CO H a m os/\ts.length=os.length/\(∀(i:Nat) (o:Ru) (tx:Str),os[i]?=some o->ts[i]?=some tx->k9 P w K mg base H o.1 tx)/\(∀t∈ts,t.length<=60000)/\∀H',aK H H'->Q (.str (QM m ts)) H'
theorem cw_room{h:Str}{ts:List Str}(h0:h.length<=100)(hl:ts.length<=12)(hs:∀s∈ts,s.length<=60000):((h::ts).map (·.length)).sum+(h::ts).length*("; ":Str).length<=16777216:=by
 have a:=jO hs;have e:("; ":Str).length=2:=rfl;rw[qBo,qGl,qAn,e];have:=qIs 60000 hl;lia
theorem Qs:aN ["self"] ["self"] (aF La):=#[1,2]
theorem Oa(t:Mx K "words" "Company.words" La ["self"] f fd)(T:#[4]):#[1,0] 4 ["self"] (NZ P w K mg base fH CO) f:=by
 refine t.EF Qs (by rintro _ _ _ _⟨a,m,os,ts,rfl,_⟩;rfl) fun _ _ _ _ H vs Q E hr h=>?_;obtain⟨a,m,os,ts,rfl,co,tl,wo,t6,k⟩:=h;obtain⟨dx,l,h1,h2,h3,h4,h5,h6,h7⟩:=id co;have rl:(refs os).length=os.length:=by delta refs;rw[qAa]
 refine⟨_,(aH (aU (dP qBf qCp qCo dQ aI (aA (aG bB (bE (aA (aG aP aI (dI iB #[0] T.oW v7 (aA (eM (pv 0) rfl) aC))) aC)) (dX (NB:=["rule"]) (pick:=[none]) (dJ #[7] (by exact trivial) rfl #[2] #[2] #[0] #[0]) rfl
    (cU (eM (pv 0) rfl)) (fun _ _ _=>bC (i:=0) #[8,["rule"]] rfl cO)
    (fun _ _ _=>cV) (fun _ _ _=>(oG P w K mg base rfl rfl rfl rfl rfl (k:=3) kM (pv 0) hr #[1])))) aC)))),?_⟩
 have hm:(m:Int).natAbs<10^60:=qBp (show(m:Int).natAbs<=6 by lia) #[2];have l1:=cR hm;have lh:(("hands ":Str)++nW (m:Int)).length<=100:=by
  rw[Str.length_append];have:("hands ":Str).length=6:=rfl;lia
 refine⟨rfl,_,rfl,a,CO,dx,_,_,rfl,h1,T.Ed.oc.cl,T.Ed.nm,rfl,(m:Int),rfl,eP hm,_,_,rfl,rfl,?_,kG,fun l0 hl0=>?_⟩
 .show("hands ":Str).length+(nW (m:Int)).length<=qAg;rw[<- Str.length_append];exact qAk lh #[1]
 have u0:=aK.aJ (o:=.lst [V.str (("hands ":Str)++nW (m:Int))]) hl0;exists _,rfl,a,CO,dx,_,_,rfl,u0 _ _ h1,T.Ed.oc.cl,T.Ed.nr,rfl,l,rfl,⟨_,bA.of (u0 _ _ h2)⟩;refine eG (xs:=refs os) (fun i _=>(ts[i]?).map V.str) (bA.of (u0 _ _ h2)) (by rw[rl];exact qCu (bL (by lia))) (fun i y H2 kk kk0 s2 hy g1 g2=>?_) fun D H2 hD s2 hd=>?_
 .have hi:i<os.length:=by
   obtain⟨z,_⟩:=List.getElem?_eq_some_iff.mp hy;rw[rl] at z;exact z
  obtain rfl:V.ref os[i].1=y:=by
   delta refs at hy;rw[qAs,qAe hi] at hy;exact Option.some.inj hy
  have ht:ts[i]?=some ts[i]:=qAe (by lia);obtain⟨C,dx',g,fs,r1,r2,r3,r4,ps,r7⟩:=(wo i os[i] ts[i] (qAe hi) ht).same (u0.trans s2);exact⟨_,rfl,os[i].1,C,dx',fs,g,_,rfl,r1,r2,r3,r4,⟨ps,r7⟩,rfl,.refl _,fun H3 s3=>g1 _ (by rw[ht];rfl) _ s3⟩
 have ed:((qBk (refs os).length).filterMap fun i=>((refs os)[i]?).bind fun _=>(ts[i]?).map V.str)=ts.map V.str:=by
  rw[rl];refine Eq.trans (fX (g:=fun i=>(ts[i]?).bind fun t=>some (V.str t)) fun i hi=>?_) ?_
  .have hi:=List.mem_range.mp hi;rw[qAe (l:=refs os) (by rw[rl];exact hi),qAe (l:=ts) (by lia)];rfl
  .rw[<- tl,eJ,qCz]
 rw[ed] at hd;refine⟨l0,D,_,_,rfl,rfl,bA.of (s2 _ _ aB),bA.of hd,(by rw[qAa];exact eI (by show 1<=8;decide) (by lia)),fun p hp=>?_⟩;exact⟨_,p,(("hands ":Str)++nW (m:Int))::ts,rfl,rfl,bA.of aB,cw_room lh (by lia) t6,k _ (u0.trans (s2.trans (.aJ hp)))⟩
def JU(K:qAb)(ta tv:TE)(f:Str):TS:=fun D σ H=>tv σ H fun y H1=>ta σ H1 fun x H2=>∃(e C Sh g:Addr),x = .ref e/\H2 e=some (Bg e C)/\jU K C Sh g/\qAd K (.ref C) f=some none/\∀d,H2 d=none->d≠e->D.nx σ (upd (upd H2 d (.xd [(f,y)])) e (ET e C d))
theorem Dk{X:Cx}{o value:Expr}{f:Str}{pos pos':Pos}{ta tv:TE}(ha:PE X o ta)(hv:PE X value tv)(hs:qJq value (some (.Attribute o f pos')) pos.line X.env=pure false):PS X (.Assign [.Attribute o f pos'] value pos) (JU X.K ta tv f):=by
 delta PS PE at *;intro pins s σ H D I h;refine plainObj_wpAny_Assign_Attribute (bT (hv pins s σ H _ I h) fun u s1 ⟨y,H1,I1,ry,q⟩=>bT (ha pins s1 σ H1 _ I1 q) fun ov s2 z9=>?_) hs;obtain⟨x,H2,I2,rx,a,C,Sh,g,ex,ea,c,n,q2⟩:=z9;subst ex;obtain rfl:ov=Value.ref a:=rx;exact CA I2 ea c n ry fun d s3 hd ne I3=>⟨σ,_,I3,q2 d hd ne⟩
def AV(K:qAb):List V->Hp->VK->Prop:=fun vs H Q=>∃(e C Sh g:Addr) (i:Int),vs=[.ref e,.int i]/\i.natAbs<=100/\H e=some (Bg e C)/\jU K C Sh g/\qAd K (.ref C) "part"=some none/\∀d,H d=none->d≠e->Q .non (upd (upd H d (.xd [("part",.int i)])) e (ET e C d))
theorem Qt:aN ["self","part"] ["self","part"] (aF Lc):=#[1,2]
theorem Ob(t:Mx K "__init__" "NoText.__init__" Lc ["self","part"] f fd)(T:#[4]):ES P w K mg base 1 f fd ["self","part"] (AV K):=by
 refine t.fn.QZ Qt (fun vs H Q h=>?_) (fun cdv A outer s H vs Q hr h=>?_)
 .obtain⟨e,C,Sh,g,i,rfl,_⟩:=h;rfl
 .obtain⟨e,C,Sh,g,i,rfl,hi,he,c,pt,k⟩:=h;refine⟨_,(aE (cA (Ay #[0] T.Lh T.RK (aA (pv 0) (aA (eU (aZ aI (aZ (dN (pv 1)) (aZ aI dD)))) aC))))
   (aH (Dk (pv 0) (pv 1) rfl))),?_⟩
  have hi60:i.natAbs<10^60:=qBp hi #[2];have ln:=cR hi60;have e5:(Str.empty++("part ":Str)).length=5:=rfl;have e35:(" of the text is not as it should be":Str).length=35:=rfl;have l1:(Str.empty++("part ":Str)++nW i).length<=66:=by rw[Str.length_append,e5];lia
  have l2:(Str.empty++("part ":Str)++nW i++(" of the text is not as it should be":Str)).length<=101:=by rw[Str.length_append,e35];lia
  have sz:∀{n:Nat},n<=200->n<=qAg:=fun h=>qAk h #[1];exists _,rfl,_,rfl,by decide,_,rfl,i,rfl,eP hi60,nW i,rfl,sz (qAk l1 #[1]),_,rfl,sz (qAk l2 #[1]),sz (qAk l2 #[1]),e,C,Sh,g,_,rfl,(kG),c,he;exact⟨_,rfl,_,rfl,e,C,Sh,g,rfl,he,c,pt,k⟩
def fO(x:Str):Prop:=∃n:Int,x=nW n/\n.natAbs<10^30
def Dl(NL:Addr):Sp:=fun vs H Q E=>∃x:Str,vs=[.str x]/\KI x/\x.length<=60000/\(∀n:Int,x=nW n->n.natAbs<10^30->∀H',aK H H'->Q (.int n) H')/\(¬fO x->∀H',aK H H'->E (.ref NL) none H')
theorem slice_le(x:Str)(a b:Option Int):(Txt.slice x a b).length<=x.length:=PyProof.Txt.length_slice_le _ _ _
theorem Fz(x:Str):(cZ x).length<=x.length:=by
 delta cZ;split
 .exact slice_le _ _ _
 .exact qAl _
theorem Dm(h:KI x):KI (cZ x):=by
 cases hs:Txt.startswith x ("-":Str) with
 | false=>rw[jN hs];exact h
 | true =>
  intro c hc;exact h c (by rw[oO hs];exact qAq _ hc)
theorem GF:aN ["word","figures"] ["word"] (aF IK):=#[1,2]
theorem JV(t:Tx K mg "number_of" IK ["word"] f fd)(T:#[4]):#[1,1] 1 "number_of" ["word"] (Dl NL) f fd:=by
 refine t.Am GF (by rintro _ _ _ _⟨n,rfl,_⟩;rfl) fun _ _ _ _ H vs Q E hr h=>?_;obtain⟨x,rfl,asc,l6,k,kb⟩:=h;obtain⟨tkMF,hMF⟩:=T.mf;obtain⟨tkFG,hFG⟩:=T.fg;refine⟨_,(aE (aX (i:=1) GF.nd rfl #[3] (Bp (eL (dP qBf qJh qJg oH (pv 0) (aA aI aC))) (aR cJ (pv 0) (aW aD) aV) (pv 0)))
  (aE (bI (PW.pt (pw_or (fS (By tS tS aD (aO eS #[0] T.cD bS (aA (pv 1) aC)) (bO (v:=.int 30) #[0] hMF ⟨tkMF,rfl⟩))) (pw_or1 (fS (eL (aO (oA rfl) #[0] T.oS vZ (aA (dX (NB:=["sign"]) (pick:=[none]) (dJ #[7] (by exact trivial) rfl #[2] #[2] #[0] #[0]) rfl
    (Ic (pv 1)) (fun _ _ _=>bC (i:=0) #[8,["sign"]] rfl cO)
    (fun _ _ _=>cV) (fun _ _ _=>(jI lN (pv 0) (bO (v:=.str ("0123456789":Str)) #[0] hFG ⟨tkFG,rfl⟩) #[0]))) aC))))))) (aH (cP aQ rfl #[0] T.sT T.uL (aA aI aC))) aY)
  (aE (bI (PW.pt (pw_and (eL (dP qBf qJh qJg oH (pv 1) (aA aI aC))) (pw_and1 (aL kI (pv 0) aI (aT _))))) (aH (cP aQ rfl #[0] T.sT T.uL (aA aI aC))) aY)
  (aH (aU (dI pY #[0] T.oR vX (aA (pv 0) aC))))))),?_⟩
 have sz:∀{y:Str},y.length<=x.length->y.length<=qAg:=fun h=>qAk h (qAk l6 #[1]);refine dG (fun σ' H'=>σ'=[some (.str x),some (.str (cZ x))]/\H'=H) (fun tail=>?_) ?_
 .exists _,rfl,rfl,_,_,rfl,rfl,_,rfl;dsimp only;cases hs:Txt.startswith x ("-":Str) with
  | true =>
   refine dC ⟨_,rfl,1,rfl,x,rfl,sz (slice_le _ _ _),tail _ _ ⟨?_,rfl⟩⟩;delta cZ;rw[if_pos hs];rfl
  | false =>
   refine bF ⟨_,rfl,tail _ _ ⟨?_,rfl⟩⟩;rw[jN hs];rfl
 rintro σ' H' ⟨rfl,rfl⟩;have fsz:(cZ x).length<=qAg:=sz (Fz x);have bad:∀H2,aK H' H2->(¬fO x)->(1<=qAg/\E (.ref NL) none H2):=fun H2 s2 nb=>⟨by decide,kb nb H2 s2⟩;exists _,rfl,_,rfl,fsz,_,_,rfl,rfl;dsimp only;exists _,rfl;have nfl:fO x->1<=(cZ x).length/\(cZ x).length<=30/\(∀c∈(cZ x).cps.toList,lZ c=true)/\(Txt.startswith (cZ x) ("0":Str)=true->x=("0":Str)):=by
  rintro⟨n,rfl,hn⟩;rw[yT];obtain⟨f1,f2⟩:=t9 (n:=n) #[1] hn;exact⟨f1,f2,fun c hc=>decide_eq_true (uA hc),qX⟩
 by_cases g1:1<=(cZ x).length
 .rw[decide_eq_true (show(1:Int)<=((cZ x).length:Int) by lia)];refine dC ⟨_,_,rfl,rfl,_,rfl,?_⟩;by_cases g2:(cZ x).length<=30
  .rw[decide_eq_true (show((cZ x).length:Int)<=30 by lia)];refine bF ?_;exists _,rfl,cZ x,rfl,Cv (Dm asc);refine Cs (fun c=>some (.bl (lZ c))) (show(cZ x).length<=qAg from fsz) (fun i y H2 kk kk0 s2 hx g1 g2=>?_) fun D H2 hD s2 hd=>?_
   .refine⟨_,rfl,_,_,rfl,rfl,g1 _ ?_ _ (.refl _)⟩;rw[in_figs']
   have ed:(cZ x).cps.toList.filterMap (fun c=>some (V.bl (lZ c)))=((cZ x).cps.toList.map lZ).map V.bl:=by
    rw[qCe,<- qIa];rfl
   rw[ed] at hd;exists D,_,rfl,bA.of hd,_,rfl;have ea:((cZ x).cps.toList.map lZ).all id=(cZ x).cps.toList.all lZ:=by rw[qLf];rfl
   rw[ea];cases ha:(cZ x).cps.toList.all lZ with
   | false =>
    refine dC (bad H2 s2 fun nw=>?_);rw[List.all_eq_true.mpr (nfl nw).2.2.1] at ha;cases ha
   | true =>
    refine bF ?_;dsimp only[bM];exists _,rfl,rfl,_,_,rfl,rfl,_,rfl;have fin:(Txt.startswith (cZ x) ("0":Str)=true->x=("0":Str))->∃n:Int,PySem.intText? x=some n/\x.length<=640/\Q (.int n) H2:=fun h0=>by
     obtain⟨n,e,hn⟩:=Ip g1 g2 (List.all_eq_true.mp ha) h0;obtain⟨i1,i2⟩:=sP (i:=n) (qFn hn #[2]);rw[<- e] at i1 i2;exact⟨n,i1,i2,k n e hn H2 s2⟩
    cases hz:Txt.startswith (cZ x) ("0":Str) with
    | false =>
     obtain⟨n,i1,i2,q⟩:=fin fun z=>(by rw[hz] at z;cases z);exact bF ⟨_,rfl,_,_,rfl,i1,i2,q⟩
    | true =>
     refine dC ⟨_,rfl,rfl,_,rfl,?_⟩;dsimp only;by_cases e0:x=("0":Str)
     .rw[show decide (V.str x=V.str (Str.ofString "0"))=true from decide_eq_true (by rw[e0])];obtain⟨n,i1,i2,q⟩:=fin fun _=>e0;exact bF ⟨_,rfl,_,_,rfl,i1,i2,q⟩
     .rw[show decide (V.str x=V.str (Str.ofString "0"))=false from decide_eq_false fun z=>e0 (V.str.inj z)];exact dC (bad H2 s2 fun nw=>e0 ((nfl nw).2.2.2 hz))
  .rw[decide_eq_false (show ¬((cZ x).length:Int)<=30 by lia)];exact dC (bad H' (.refl _) fun nw=>g2 (nfl nw).2.1)
 .rw[decide_eq_false (show ¬(1:Int)<=((cZ x).length:Int) by lia)];exact bF ⟨_,rfl,dC (dC (bad H' (.refl _) fun nw=>g1 (nfl nw).1))⟩
def gZ(x:Str):Int:=(PySem.intText? x).getD 0
theorem sZ(h:n.natAbs<10^30):gZ (nW n)=n:=by
 delta gZ;rw[(sP (i:=n) (qFn h #[2])).1];rfl
theorem jL{H1:Hp}{a i0:Addr}{xs:List V}{σ0:St}{te:TE}{Q:Addr->Hp->Prop}(G:Nat->Prop)(f:Nat->V->Option V)(hq:bA K H1 a xs)(hn:xs.length<=qAg)
  (step:∀(i:Nat) (x:V) (H2:Hp) (k:VK),aK H1 H2->xs[i]?=some x->(∀y,f i x=some y->G i->∀H3,aK H2 H3->k y H3)->te (σ0.set i0 (some x)) H2 k)
  (h:∀D H2,H1 D=none->aK H1 H2->(∀j,j<xs.length->G j)->H2 D=some (.lst ((qBk xs.length).filterMap fun i=>(xs[i]?).bind (f i)))->Q D H2) :
  ∀D,H1 D=none->∃W:Nat->Nat->St->Hp->Prop,(∃m,W 0 m σ0 (upd H1 D (.lst [])))/\∀i m σ1 H2,W i m σ1 H2 ->
   ((pO K a).stop i H2/\Q D H2)\/((pO K a).go i H2/\∃N:St->Hp->Prop,(∀σ' H',N σ' H'->∃m',m'<m/\W (i+1) m' σ' H') /\
    ∀x H',(pO K a).vF i H2 x H'->a9 i0 x σ1 H' fun σ2 H3=>LR σ2 H3 fun b H4=>if b=true then te σ2 H4 fun y H5=>∃xs,H5 D=some (.lst xs)/\xs.length<qAg/\N σ2 (upd H5 D (.lst (xs++[y]))) else N σ2 H4):=by
 intro D hD;refine⟨fun i m σ1 H2=>σ1.set i0 none=σ0.set i0 none/\aK H1 H2/\H2 D=some (.lst ((qBk i).filterMap fun i=>(xs[i]?).bind (f i)))/\i<=xs.length/\(∀j,j<i->G j)/\m=xs.length-i,⟨xs.length,rfl,.aJ hD,aB,qBn _,fun j hj=>absurd hj (qMw j),rfl⟩,?_⟩;rintro i m σ1 H2 ⟨hσ,hs,hd,hi,hg,rfl⟩;have hset:∀v:Option V,σ1.set i0 v=σ0.set i0 v:=fun v=>by
  have z:=congrArg (fun l=>qIz l i0 v) hσ;simpa using z
 rcases qBj i xs.length with hlt | hge
 .right
  refine⟨⟨xs,xs[i],hs.seq hq,by simp[hlt]⟩,fun σ' H'=>σ'.set i0 none=σ0.set i0 none/\aK H1 H'/\H' D=some (.lst ((qBk (i+1)).filterMap fun i=>(xs[i]?).bind (f i)))/\G i,(by rintro σ' H' ⟨a,b,c,d⟩;exact ⟨xs.length-(i+1),by lia,a,b,c,hlt,fun j hj=>(Nat.lt_succ_iff_lt_or_eq.mp hj).elim (hg j) fun e=>e▸d,rfl⟩),?_⟩;rintro x H' ⟨rfl,hx⟩;have hx:=hx xs (hs.seq hq);show te (σ1.set i0 (some x)) _ _;rw[hset];refine step i x _ _ hs hx (fun y hy gi H3 hs3=>⟨_,hs3 _ _ hd,?_,?_,?_,?_,gi⟩)
  .refine qBp (qDs _ _) ?_;rw[qEl];lia
  .simp
  .refine(hs.trans hs3).upd_ne' hD
  .rw[aB,qEb,qCq];simp[hx,hy]
 .left
  obtain rfl:i=xs.length:=qDr hi hge;exact⟨⟨xs,hs.seq hq,qAl _⟩,h D _ hD hs hg hd⟩
def OL(ws:List Str):Prop:=∀x∈ws,KI x/\x.length<=60000
def GG(NL:Addr):Sp:=fun vs H Q E=>∃(p:Addr) (ws:List Str),vs=[.ref p]/\H p=some (.lst (ws.map V.str))/\ws.length<=60000/\OL ws/\((∀x∈ws,fO x)->∀(D:Addr) (H':Hp),H D=none->aK H H'->H' D=some (.lst ((ws.map gZ).map V.int))->Q (.ref D) H')/\(¬(∀x∈ws,fO x)->∀H',aK H H'->E (.ref NL) none H')
theorem Oc:aN ["words"] ["words"] (aF IL):=#[1,2]
theorem JW(t:Tx K mg "numbers_of" IL ["words"] f fd)(T:#[4])(D_number_of:#[1,1] 1 "number_of" ["word"] (Dl NL) f1 fd1):#[1,1] 2 "numbers_of" ["words"] (GG NL) f fd:=by
 refine t.Am Oc (by rintro _ _ _ _⟨p,ns,rfl,_⟩;rfl) fun _ _ _ _ H vs Q E hr h=>?_;obtain⟨p,ws,rfl,hp,h64,hw,k,kb⟩:=h;refine⟨_,(aH (aU (uD (NB:=["word"]) (pick:=[none]) (dJ #[7] (by exact trivial) rfl #[2] #[2] #[0] #[0]) rfl ⟨rfl,rfl,rfl⟩ qY
    (cU (pv 0)) (fun c _ H3=>E c none H3) (fun _ _ _ _ z=>z) (fun _ _ _=>bC (i:=0) #[8,["word"]] rfl cO)
    (fun _ _ _=>cV) (fun _ _ _=>(cX uC D_number_of hr #[1] #[0] (aA (pv 0) aC)))))),?_⟩
 exists _,rfl,p,rfl,⟨_,bA.of hp⟩;refine jL (xs:=ws.map V.str) (fun i=>∀x,ws[i]?=some x->fO x) (fun i _=>(ws[i]?).map fun x=>V.int (gZ x)) (bA.of hp) (by rw[qAa];exact qAk h64 #[1]) (fun i x H2 kk s2 hx g1=>?_) fun D H2 hD s2 hg hd=>?_
 .rw[qAs] at hx;cases e:ws[i]? with
  | none=>rw[e] at hx;cases hx
  | some x =>
   rw[e] at hx;cases hx;have hm:=qAp e;refine⟨_,rfl,x,rfl,(hw x hm).1,(hw x hm).2,fun n en hn H3 s3=>g1 _ (by rw[e,en];show some (V.int (gZ (nW n)))=_;rw[sZ hn]) (fun x' e'=>by rw[e] at e';cases e';exact⟨n,en,hn⟩) _ s3,fun no H3 s3=>kb (fun al=>no (al x hm)) H3 (s2.trans s3)⟩
 .refine k ?_ D H2 hD s2 ?_
  .intro x hm;obtain⟨j,hj,e⟩:=qIq hm;exact hg j (by rw[qAa];exact hj) x (by rw[qAe hj,e])
  rw[hd];have e:((qBk (ws.map V.str).length).filterMap fun i=>((ws.map V.str)[i]?).bind fun _=>(ws[i]?).map fun x=>V.int (gZ x))=(qBk ws.length).filterMap fun i=>(ws[i]?).bind fun x=>some (V.int (gZ x)):=by
   rw[qAa];refine fX fun i hi=>?_;rw[qAs];cases ws[i]? <;> rfl
  rw[e,eJ,qCz,qCe];rfl
def gI(p:P3):Prop:=p.1<10/\p.2.1<10/\p.2.2.natAbs<10^30
def uT(x:Str):Prop:=∃p:P3,x=pW p/\gI p
theorem Dn(h:a<10):dg a=[48+a]:=by
 have:∀d:_root_.Fin 10,dg d.1=[48+d.1]:=by decide +kernel
 exact this ⟨a,h⟩
theorem lA{a:Nat}(h:a<10):nW (a:Int)=⟨#[48+a]⟩:=dY (by rw[eO,Dn h])
theorem Dp(h:(⟨#[c]⟩:Str)=nW n):∃a:Nat,a<10/\n=(a:Int)/\c=48+a:=by
 have h:=congrArg (fun x:Str=>x.cps.toList) h;dsimp only at h;cases n with
 | ofNat m =>
  rw[show nW (qGw m)=nW (m:Int) from rfl,eO] at h;have m10:m<10^1:=Gq #[1] (by rw[<- h];exact qAl 1);rw[Dn m10] at h;exact⟨m,m10,rfl,(List.cons.inj h).1⟩
 | negSucc k =>
  rw[fV] at h;exact absurd (List.cons.inj h).2.symm (oK _)
theorem c9{p:P3}(h1:p.1<10)(h2:p.2.1<10):(pW p).cps.toList=[48+p.1,45,48+p.2.1,58]++(nW p.2.2).cps.toList:=by
 delta pW;rw[lA h1,lA h2];rw[Str.cps_append,Str.cps_append,Str.cps_append,Str.cps_append,Str.cps_append,qCg,qCg,qCg,qCg,qCg];rfl
theorem JX(h:4<=x.length):(Txt.slice x (some 4) none).cps.toList=x.cps.toList.drop 4:=fW x (k:=4) h
theorem Dq(h:c≠d):(!decide (V.str (⟨#[c]⟩:Str)=V.str (⟨#[d]⟩:Str)))=true:=by
 rw[decide_eq_false fun z=>h ?_]
 .rfl
 .have y:=congrArg (fun s:Str=>s.cps.toList) (V.str.inj z);exact(List.cons.inj y).1
def GH(NL:Addr):Sp:=fun vs H Q E=>∃x:Str,vs=[.str x]/\KI x/\x.length<=60000/\(∀p:P3,x=pW p->gI p->∀(b:Addr) (H':Hp),H b=none->aK H H'->dR H' b p->Q (.ref b) H')/\(¬uT x->∀H',aK H H'->E (.ref NL) none H')
theorem Od:aN ["word"] ["word"] (aF IM):=#[1,2]
theorem JY{f1:Addr}{fd1:qBy}(t:Tx K mg "pair_of" IM ["word"] f fd)(T:#[4])(D_number_of:#[1,1] 1 "number_of" ["word"] (Dl NL) f1 fd1):#[1,1] 2 "pair_of" ["word"] (GH NL) f fd:=by
 refine t.Am Od (by rintro _ _ _ _⟨p,rfl,_⟩;rfl) fun _ _ _ _ H vs Q E hr h=>?_;obtain⟨x,rfl,asc,l6,k,kb⟩:=h;refine⟨_,(aE (bI (PW.pt (pw_or (aL jB (aO eS #[0] T.cD bS (aA (pv 0) aC)) aD (aT _)) (pw_or (aL kI (bH iF (pv 0) aD #[6]) aI (aT _)) (pw_or1 (aL kI (bH iF (pv 0) aD #[6]) aI (aT _)))))) (aH (cP aQ rfl #[0] T.sT T.uL (aA aI aC))) aY)
  (aH (aU (eR (aA (cX aQ.toPass D_number_of hr #[1] #[0] (aA (bH iF (pv 0) aD #[6]) aC)) (aA (cX aQ.toPass D_number_of hr #[1] #[0] (aA (bH iF (pv 0) aD #[6]) aC)) (aA (cX aQ.toPass D_number_of hr #[1] #[0] (aA (aR cJ (pv 0) (aW aD) aV) aC)) aC))))))),?_⟩
 have sz:x.length<=qAg:=qAk l6 #[1];have bad:(¬uT x)->∀H2,aK H H2->(1<=qAg/\E (.ref NL) none H2):=fun nb H2 s2=>⟨by decide,kb nb H2 s2⟩;have pw4:uT x->4<=x.length/\x.cps.toList[1]?=some 45/\x.cps.toList[3]?=some 58:=by
  rintro⟨p,rfl,h1,h2,h3⟩;rw[str_len,c9 h1 h2,qAf];exact⟨qJp 4 _,rfl,rfl⟩
 exists _,rfl,_,rfl,sz,_,_,rfl,rfl,_,rfl;dsimp only;by_cases g4:4<=x.length
 .rw[decide_eq_false (show ¬(x.length:Int)<4 by lia)];have hl:4<=x.cps.toList.length:=by rw[<- str_len];exact g4
  obtain⟨c0,c1,c2,c3,r,hx⟩:∃c0 c1 c2 c3 r,x.cps.toList=c0::c1::c2::c3::r:=by
   match x.cps.toList,hl with
   | c0::c1::c2::c3::r,_=>exact⟨c0,c1,c2,c3,r,rfl⟩
  have at_:∀(j:Nat) (c:Nat),(c0::c1::c2::c3::r)[j]?=some c->iT x.cps.toList (j:Int)=some c:=fun j c e=>by
   rw[hx];exact bP e
  have ca:∀c∈c0::c1::c2::c3::r,c<128:=fun c hc=>asc c (by rw[hx];exact hc);have a1:∀c,c<128->KI ⟨#[c]⟩:=fun c hc d hd=>by
   rw[List.mem_singleton.mp hd];exact hc
  refine bF ⟨_,rfl,_,_,_,rfl,rfl,sz,at_ 1 c1 rfl,rfl,_,rfl,?_⟩;dsimp only;by_cases e1:c1=45
  .subst e1;rw[show(!decide (V.str (⟨#[45]⟩:Str)=V.str (Str.ofString "-")))=false from by decide +kernel];refine bF ⟨_,rfl,_,_,_,rfl,rfl,sz,at_ 3 c3 rfl,rfl,_,rfl,?_⟩;dsimp only;by_cases e3:c3=58
   .subst e3;rw[show(!decide (V.str (⟨#[58]⟩:Str)=V.str (Str.ofString ":")))=false from by decide +kernel];refine bF ?_;have sl:=JX g4;rw[hx] at sl;have sl:(Txt.slice x (some 4) none).cps.toList=r:=sl;have pd:uT x->fO ⟨#[c0]⟩/\fO ⟨#[c2]⟩/\fO (Txt.slice x (some 4) none):=by
     rintro⟨p,e,h1,h2,h3⟩;have z:=c9 h1 h2;rw[<- e,hx] at z;obtain⟨z0,z⟩:=List.cons.inj z;obtain⟨_,z⟩:=List.cons.inj z;obtain⟨z2,z⟩:=List.cons.inj z;obtain⟨_,z⟩:=List.cons.inj z;have o:∀{a:Nat},a<10->((a:Int).natAbs<10^30):=fun h=>qFn (show _<10 from h) #[2];exact⟨⟨p.1,by rw[lA h1,z0],o h1⟩,⟨p.2.1,by rw[lA h2,z2],o h2⟩,p.2.2,dY (by rw[sl];exact z),h3⟩
    refine⟨_,rfl,_,_,_,rfl,rfl,sz,at_ 0 c0 rfl,⟨#[c0]⟩,rfl,a1 c0 (ca c0 (by simp)),by show 1<=60000;decide,fun n0 h0 _ H1 s1=>?_,fun no H1 s1=>kb (fun pw=>no (pd pw).1) H1 s1⟩;refine⟨_,rfl,_,_,_,rfl,rfl,sz,at_ 2 c2 rfl,⟨#[c2]⟩,rfl,a1 c2 (ca c2 (by simp)),by show 1<=60000;decide,fun n2 h2 _ H2 s2=>?_,fun no H2 s2=>kb (fun pw=>no (pd pw).2.1) H2 (s1.trans s2)⟩;refine⟨_,rfl,4,rfl,x,rfl,qAk (slice_le _ _ _) sz,_,rfl,fun c hc=>ca c (by rw[sl] at hc;simp[hc]),qAk (slice_le _ _ _) l6,fun n hn n30 H3 s3=>⟨Bc,fun b hb=>?_⟩,fun no H3 s3=>kb (fun pw=>no (pd pw).2.2) H3 ((s1.trans s2).trans s3)⟩;have u:=(s1.trans s2).trans s3;obtain⟨a,ha,rfl,z0⟩:=Dp h0;obtain⟨b',hb',rfl,z2⟩:=Dp h2;refine k (a,b',n) (dY ?_) ⟨ha,hb',n30⟩ b _ (u.free hb) (u.trans (.aJ hb)) aB;rw[hx,c9 (p:=(a,b',n)) ha hb',z0,z2];show _=(48+a)::45::(48+b')::58::(nW n).cps.toList;rw[<- hn,sl]
   .rw[show(!decide (V.str (⟨#[c3]⟩:Str)=V.str (Str.ofString ":")))=true from Dq (d:=58) e3];refine dC (bad (fun pw=>e3 ?_) H (.refl _));have:=(pw4 pw).2.2;rw[hx] at this;exact Option.some.inj this
  .rw[show(!decide (V.str (⟨#[c1]⟩:Str)=V.str (Str.ofString "-")))=true from Dq (d:=45) e1];refine dC (bad (fun pw=>e1 ?_) H (.refl _));have:=(pw4 pw).2.1;rw[hx] at this;exact Option.some.inj this
 .rw[decide_eq_true (show(x.length:Int)<4 by lia)];exact dC (bad (fun pw=>g4 (pw4 pw).1) H (.refl _))
theorem Dr:∀{ys:List V}{ws:List Str},ys.length=ws.length->(∀(i:Nat) (y:V),ys[i]?=some y->∃b p,y = .ref b/\ws[i]?=some (pW p)/\gI p/\dR H b p)->∃(bs:List Addr) (ps:List P3),ys=bs.map V.ref/\ws=ps.map pW/\(∀p∈ps,gI p)/\A2 (dR H) bs ps
 | [],[],_,_=>⟨[],[],rfl,rfl,(fun _ h=>nomatch h),.nil⟩
 | y::ys,[],h,_=>by cases h
 | [],x::ws,h,_=>by cases h
 | y::ys,x::ws,h,k=>by
  obtain⟨b,q,rfl,e,pb,r⟩:=k 0 y rfl;cases e;obtain⟨bs,ps,e1,e2,pa,a⟩:=Dr (ys:=ys) (ws:=ws) (by simpa using h) fun i y e=>k (i+1) y e;exact⟨b::bs,q::ps,by rw[e1];rfl,by rw[e2];rfl,fun p hp=>by
   rcases List.mem_cons.mp hp with rfl | hp
   .exact pb
   .exact pa p hp,.cons r a⟩
def GI(NL:Addr):Sp:=fun vs H Q E=>∃(l:Addr) (ws:List Str),vs=[.ref l]/\H l=some (.lst (ws.map V.str))/\ws.length<=60000/\OL ws/\(∀ps:List P3,ws=ps.map pW->(∀p∈ps,gI p)->∀(D:Addr) (bs:List Addr) (H':Hp),H D=none->aK H H'->H' D=some (.lst (bs.map V.ref))->A2 (dR H') bs ps->Q (.ref D) H')/\(¬(∀x∈ws,uT x)->∀H',aK H H'->E (.ref NL) none H')
theorem Oe:aN ["words"] ["words"] (aF IP):=#[1,2]
theorem JZ(t:Tx K mg "pairs_of" IP ["words"] f fd)(T:#[4])(D_pair_of:#[1,1] 2 "pair_of" ["word"] (GH NL) f1 fd1):#[1,1] 3 "pairs_of" ["words"] (GI NL) f fd:=by
 refine t.Am Oe (by rintro _ _ _ _⟨l,ps,rfl,_⟩;rfl) fun _ _ _ s H vs Q E hr h=>?_;obtain⟨l,ws,rfl,hl,h64,hw,k,kb⟩:=h;refine⟨_,(aH (aU (uD (NB:=["word"]) (pick:=[none]) (dJ #[7] (by exact trivial) rfl #[2] #[2] #[0] #[0]) rfl ⟨rfl,rfl,rfl⟩ qY
    (cU (pv 0)) (fun c _ H3=>E c none H3) (fun _ _ _ _ z=>z) (fun _ _ _=>bC (i:=0) #[8,["word"]] rfl cO)
    (fun _ _ _=>cV) (fun _ _ _=>(cX uC D_pair_of hr #[1] #[0] (aA (pv 0) aC)))))),?_⟩
 exists _,rfl,l,rfl,⟨_,bA.of hl⟩;refine Ap (xs:=ws.map V.str) (fun i y H'=>∃b p,y = .ref b/\ws[i]?=some (pW p)/\gI p/\dR H' b p) (by rintro i y G G' s ⟨b,p,e,e2,e3,r⟩;exact ⟨b,p,e,e2,e3,r.keep s⟩) (bA.of hl) (by rw[qAa];exact qAk h64 #[1]) (fun i x H2 kk kk0 s2 hx g1=>?_) fun D ys H2 hD s2 hy hR hd=>?_
 .rw[qAs] at hx;cases e:ws[i]? with
  | none=>rw[e] at hx;cases hx
  | some x =>
   rw[e] at hx;cases hx;have hm:=qAp e;exact⟨_,rfl,x,rfl,(hw x hm).1,(hw x hm).2,fun p ep pb b H3 _ s3 r=>g1 _ _ s3 ⟨b,p,rfl,by rw[e,ep],pb,r⟩,fun no H3 s3=>kb (fun al=>no (al x hm)) H3 (s2.trans s3)⟩
 .rw[qAa] at hy;obtain⟨bs,ps,rfl,e2,pb,a2⟩:=Dr hy hR;exact k ps e2 pb D bs H2 hD s2 hd a2
def uU(x:Str)(m:Nat):Prop:=1<=m/\m<=6/\x=("hands ":Str)++nW (m:Int)
def GJ(NX:Addr):Sp:=fun vs H Q E=>∃x:Str,vs=[.str x]/\(∀m,uU x m->Q (.int (m:Int)) H)/\((¬∃m,uU x m)->∀d H',aK H H'->H' d=some (.xd [("part",.int 0)])->E (.ref NX) (some d) H')
theorem uV(he:H e=none)(ne:d≠e)(hd:upd H e (Bg e NX) d=none):upd (upd (upd H e (Bg e NX)) d (.xd [("part",.int i)])) e (ET e NX d)=upd (upd H d (.xd [("part",.int i)])) e (ET e NX d)/\upd H d (.xd [("part",.int i)]) e=none/\aK H (upd H d (.xd [("part",.int i)])):=by
 have hd0:H d=none:=by rw[aM ne] at hd;exact hd
 refine⟨?_,?_,.aJ hd0⟩
 .rw[gX ne,rP,gX ne.symm]
 .rw[aM ne.symm];exact he
theorem GK:aN ["part","many"] ["part"] (aF IS):=#[1,2]
theorem Ka(t:Tx K mg "many_of" IS ["part"] f fd)(T:#[4])(F_XI:ES P w K mg base 1 iX fdX ["self","part"] (AV K))(B_XI:Binds K fdX ["self","part"] []):Df P w K mg base (AA P w) 3 "many_of" ["part"] (GJ NX) f fd:=by
 refine t.QE GK (by rintro _ _ _ _⟨m,rfl,_⟩;rfl) fun _ _ _ _ H vs Q E hr h=>?_;obtain⟨x,rfl,k,kb⟩:=h;refine⟨_,(aE (hX jM.own rfl (lL #[0] T.eV (aA aD (aA (aO aS #[0] T.cD bS (aA (bO (v:=.ref LN) #[0] T.Gu rfl) aC)) aC))) (bC (i:=1) GK.nd rfl cO)
   (aH (bI (aL bU (pv 0) (eU (aZ aI (aZ (dN (pv 1)) dD))) (aT _)) (aH (aU (pv 1))) aY)))
  (aH (rA (sp:=(AV K)) (Ey:=(fun c d _ H3=>E c (some d) H3)) qZ rfl T.Jk F_XI (cY.h (hr.mono #[1])) B_XI #[0] T.Gw (aA aD aC)))),?_⟩
 refine⟨LN,_,rfl,.inr (T.ln H),1,7,rfl,⟨by decide,by decide,by decide,by decide⟩,?_⟩;refine gQ (lo:=1) (n:=6) (fun i σ' H'=>H'=H/\(∀j,j<=i->¬uU x j)/\∃o:Option V,σ'=[some (.str x),o]) ⟨rfl,fun j hj h=>by have:=h.1;lia,_,rfl⟩ ?_ ?_
 .rintro i σ' H' hi ⟨rfl,him,o,rfl⟩;have e1:(1:Int)+(i:Int)=((i+1:Nat):Int):=by push_cast;lia
  rw[e1];have hi6:(((i+1:Nat):Int)).natAbs<10^60:=qBp (show(((i+1:Nat):Int)).natAbs<=6 by lia) #[2];have ln:=cR hi6;exists _,rfl,_,rfl;have e6:(Str.empty++("hands ":Str)).length=6:=rfl;have lt:(Str.empty++("hands ":Str)++nW ((i+1:Nat):Int)).length<=qAg:=by
   rw[Str.length_append,e6];exact qAk (qIu ln 6) #[1]
  exists by decide,_,rfl,((i+1:Nat):Int),rfl,eP hi6,nW ((i+1:Nat):Int),rfl,lt,lt,rfl,_,rfl;dsimp only;rw[show Str.empty++("hands ":Str)=("hands ":Str) from by decide +kernel];by_cases z:x=("hands ":Str)++nW ((i+1:Nat):Int)
  .rw[show decide (V.str x=V.str (Str.ofString "hands " ++ nW ((i+1:Nat):Int)))=true from decide_eq_true (by rw[z])];exact dC ⟨_,rfl,k (i+1) ⟨by lia,by lia,z⟩⟩
  .rw[show decide (V.str x=V.str (Str.ofString "hands " ++ nW ((i+1:Nat):Int)))=false from decide_eq_false fun y=>z (V.str.inj y)];refine bF ⟨rfl,fun j hj h=>?_,_,rfl⟩;rcases qBj i j with y | y
   .obtain rfl:j=i+1:=by lia
    exact z h.2.2
   .exact him j y h
 .rintro σ' H' ⟨rfl,him,o,rfl⟩;refine⟨kG,fun e he hs0=>⟨e,NX,SE,iX,0,rfl,by decide,aB,T.Jk,T.OJ,fun d hd ne=>⟨rfl,?_⟩⟩⟩;obtain⟨z1,z2,z3⟩:=uV (NX:=NX) (i:=0) he ne hd;exact⟨e,d,_,rfl,hs0,z1,z2,kb (fun⟨m,h⟩=>him m h.2.1 h) d _ z3 aB⟩
structure R4 where
 k:Nat
 ns:List Int
 ps:List P3
def b9(k:Nat):Str:=match k with
 | 0=>"none"
 | 1=>"own"
 | 2=>"pairs"
 | 3=>"votes"
 | 4=>"match"
 | 5=>"net"
 | _=>"table"
def fR(m k:Nat):Nat:=match k with
 | 0=>0
 | 1=>m
 | 2=>0
 | 3=>m+2
 | 4=>0
 | 5=>m
 | _=>2^m-1
structure GoodR (m:Nat) (r:R4):Prop where
 k7:r.k<7
 sz:r.ns.length=fR m r.k
 nb:∀n∈r.ns,n.natAbs<10^30
 Bh:kC r.ps
 pb:∀p∈r.ps,p.1<p.2.1/\p.2.1<m/\p.2.2.natAbs<10^30
 pl:r.ps.length<=15
 pn:r.k≠2->r.k≠4->r.k≠5->r.ps=[]
 q1:r.k=3->1<=r.ns.getD 0 0
 n0:r.k=5->(∀n∈r.ns,0<=n)/\∀p∈r.ps,0<=p.2.2
def zH(r:R4)(qs:List P3):Str:=sY (b9 r.k) (r.ns.map nW++qs.map pW)
def bK(r:R4):Str:=zH r r.ps
theorem tD(h:n<10^30):n<10^60:=qFn h #[2]
theorem GoodR.Ds(g:GoodR m r)(m6:m<=6):r.ns.length<=63:=by
 have h64:2^m<=64:=qEj (n:=2) #[1] m6;rw[g.sz];delta fR;split <;> lia
theorem GoodR.p6(g:GoodR m r)(m6:m<=6):∀q∈r.ps,q.1<6/\q.2.1<6/\q.2.2.natAbs<10^30:=fun q hq=>by
 obtain⟨a,b,c⟩:=g.pb q hq;exact⟨by lia,by lia,c⟩
theorem GoodR.FA(g:GoodR m r)(m6:m<=6):∀q∈r.ps,q.1<6/\q.2.1<6/\q.2.2.natAbs<10^60:=fun q hq=>by
 obtain⟨a,b,c⟩:=g.p6 m6 q hq;exact⟨a,b,tD c⟩
theorem GoodR.Dt(g:GoodR m r):∀n∈r.ns,n.natAbs<10^60:=fun n hn=>tD (g.nb n hn)
theorem uW:∀{a b:List P3},kC a->kC b->a.Perm b->a=b
 | [],[],_,_,_=>rfl
 | [],y::b,_,_,p=>absurd p.length_eq (by simp)
 | x::a,[],_,_,p=>absurd p.length_eq (by simp)
 | x::a,y::b,ha,hb,p=>by
  delta kC at ha hb;rw[qJa] at ha hb;have e:x=y:=by
   rcases List.mem_cons.mp (p.mem_iff.mp qAr) with h | h
   .exact h
   .rcases List.mem_cons.mp (p.mem_iff.mpr (qAr (a:=y) (l:=b))) with h2 | h2
    .exact h2.symm
    .have z1:=hb.1 x h;have z2:=ha.1 y h2;lia
  subst e;rw[uW ha.2 hb.2 (List.Perm.cons_inv p)]
theorem A2.all(h:A2 R as xs):∀a∈as,∃x∈xs,R a x:=by
 induction h with
 | nil=>intro a ha;cases ha
 | cons r _ ih =>
  intro a ha;rcases List.mem_cons.mp ha with rfl | ha
  .exact⟨_,qAr,r⟩
  .obtain⟨x,hx,z⟩:=ih a ha;exact⟨x,qAq _ hx,z⟩
theorem A2.keys(h:A2 (dR H) as qs):(as.map fun b=>fJ (c5 H b))=qs.map fun p=>((p.1:Int),(p.2.1:Int)):=by
 induction h with
 | nil=>rfl
 | cons r _ ih =>
  rw[qBo,qBo,ih];refine congrArg (· :: _) ?_;exact dR.ky r
theorem FC(a2:A2 (dR H) as qs)(pm:qs.Perm ps)(Bh:kC ps)(pb:∀p∈ps,p.1<p.2.1/\p.2.1<m/\p.2.2.natAbs<10^30)(pl:ps.length<=15):dF m H as:=by
 refine⟨fun b hb=>?_,?_,by rw[a2.len,pm.length_eq];exact pl⟩
 .obtain⟨p,hp,r⟩:=a2.all b hb;obtain⟨z1,z2,_⟩:=pb p (pm.mem_iff.mp hp);exact⟨p.1,p.2.1,p.2.2,r,z1,z2⟩
 .rw[a2.keys];refine((pm.map fun p=>((p.1:Int),(p.2.1:Int))).nodup_iff).mpr ?_;refine List.pairwise_map.mpr (Bh.imp fun {p q} z e=>?_);have e1:=congrArg Prod.fst e;have e2:=congrArg Prod.snd e;dsimp only at e1 e2;lia
structure ZR (P:qBe) (w:qCj) (K:qAb) (mg:Str->Option qAh) (base:Heap) (AL LN RU OW PL PA VO MA NE fH iR iO iP iA iV iM iN wR wO wP wA wV wM wN CO iC cH cW iX SE NG NN NO NR NL NS NT NX NV TM UL:Addr):Prop where
 RI:Md P w K mg base 4 ["self","many"] (sW K NL) iR
 OI:Md P w K mg base 5 ["self","numbers"] (Jx K NL OW) iO
 PI:Md P w K mg base 5 ["self","table"] (Jy K NT PL) iP
 RN:Md P w K mg base 5 ["self","many","pairs"] (yX K NL PA) iA
 VI:Md P w K mg base 5 ["self","quota","prize","weights"] (Fo K NL VO) iV
 MI:Md P w K mg base 7 ["self","many","pairs"] (Fp K NL MA) iM
 NI:Md P w K mg base 5 ["self","costs","ropes"] (Fq K NL NE) iN
 RW:Md P w K mg base 1 ["self"] JJ wR
 RO:Md P w K mg base 2 ["self"] (CW OW) wO
 RP:Md P w K mg base 2 ["self"] (CY PL) wP
 RQ:Md P w K mg base 2 ["self"] (CZ PA) wA
 VW:Md P w K mg base 2 ["self"] (JL VO) wV
 MW:Md P w K mg base 2 ["self"] (JO MA) wM
 NW:Md P w K mg base 2 ["self"] (JP NE) wN
def AW(P:qBe)(w:qCj)(K:qAb)(mg:Str->Option qAh)(base:Heap)(fH:Addr)(H:Hp)(x:Addr)(m:Nat)(r:R4):Prop:=CM K fH H x m/\k9 P w K mg base H x (bK r)
def FD(P:qBe)(w:qCj)(K:qAb)(mg:Str->Option qAh)(base:Heap)(fH:Addr)(H:Hp)(F:List Addr)(x:Addr)(m:Nat)(r:R4):Prop:=∀H'',(∀b∈F,∀o,H b=some o->H'' b=some o)->fI H H''->AW P w K mg base fH H'' x m r
theorem tE(h:r.ps=[]):bK r=sY (b9 r.k) (r.ns.map nW):=by
 delta bK zH;rw[h,qEe,qBx]
theorem Du(h:r.ns=[]):bK r=sY (b9 r.k) (r.ps.map pW):=by
 delta bK zH;rw[h,qEe,qEk]
section
variable {H:Hp}{x dx l:Addr}{m:Nat}{r:R4}
theorem FE(T:#[4])(Z:ZR P w K mg base AL LN RU OW PL PA VO MA NE fH iR iO iP iA iV iM iN wR wO wP wA wV wM wN CO iC cH cW iX SE NG NN NO NR NL NS NT NX NV TM UL)(g:GoodR m r)(hk:r.k=0)(m1:1<=m)(m6:m<=6)(hx:H x=some (.ins RU dx [("many",.int (m:Int))])):FD P w K mg base fH H [x] x m r:=fun H'' kk _=>by
 have h1:=kk _ (by simp) _ hx;exists ⟨RU,dx,_,h1,T.OH,rfl,m1,m6,rfl⟩;have e:bK r=("none":Str):=by
  rw[tE (g.pn (by lia) (by lia) (by lia)),hk];have z:r.ns=[]:=List.length_eq_zero_iff.mp (by rw[g.sz,hk];rfl);rw[z];rfl
 rw[e];exact JQ T Z.RW h1
theorem Kb(T:#[4])(Z:ZR P w K mg base AL LN RU OW PL PA VO MA NE fH iR iO iP iA iV iM iN wR wO wP wA wV wM wN CO iC cH cW iX SE NG NN NO NR NL NS NT NX NV TM UL)(g:GoodR m r)(hk:r.k=1)(m1:1<=m)(m6:m<=6)(hx:H x=some (.ins OW dx [("many",.int (m:Int)),("numbers",.ref l)]))(hl:H l=some (.lst (r.ns.map V.int))):FD P w K mg base fH H [x,l] x m r:=fun H'' kk _=>by
 have h1:=kk _ (by simp) _ hx;have h2:=kk _ (by simp) _ hl;have nl:r.ns.length=m:=by rw[g.sz,hk];rfl
 exists ⟨OW,dx,_,h1,T.Ld,rfl,m1,m6,rfl⟩;rw[tE (g.pn (by lia) (by lia) (by lia)),hk];exact NP T Z.RO h1 h2 (by lia) g.Dt
theorem Dv(T:#[4])(Z:ZR P w K mg base AL LN RU OW PL PA VO MA NE fH iR iO iP iA iV iM iN wR wO wP wA wV wM wN CO iC cH cW iX SE NG NN NO NR NL NS NT NX NV TM UL)(g:GoodR m r)(hk:r.k=3)(m1:1<=m)(m6:m<=6)(hx:H x=some (.ins VO dx [("many",.int (m:Int)),("quota",.int (r.ns.getD 0 0)),("prize",.int (r.ns.getD 1 0)),("weights",.ref l)]))(hl:H l=some (.lst ((r.ns.drop 2).map V.int))):FD P w K mg base fH H [x,l] x m r:=fun H'' kk _=>by
 have h1:=kk _ (by simp) _ hx;have h2:=kk _ (by simp) _ hl;have nl:r.ns.length=m+2:=by rw[g.sz,hk];rfl
 have dl:(r.ns.drop 2).length=m:=by rw[qBw];lia
 have en:r.ns.getD 0 0::r.ns.getD 1 0::r.ns.drop 2=r.ns:=by
  match hn:r.ns,nl with
  | a::b::c,_=>rfl
  | [],z=>simp at z
  | [a],z=>simp at z
 have Dt:=g.Dt;exists ⟨VO,dx,_,h1,T.Ec,rfl,m1,m6,rfl⟩;rw[tE (g.pn (by lia) (by lia) (by lia)),hk];have y:=Fs T Z.VW h1 h2 (by lia) (by rw[en];exact Dt);rw[en] at y;exact y
theorem Dw(T:#[4])(Z:ZR P w K mg base AL LN RU OW PL PA VO MA NE fH iR iO iP iA iV iM iN wR wO wP wA wV wM wN CO iC cH cW iX SE NG NN NO NR NL NS NT NX NV TM UL)(g:GoodR m r)(hk:r.k=6)(m1:1<=m)(m6:m<=6)(hx:H x=some (.ins PL dx [("many",.int (m:Int)),("earnings",.ref l)]))(hl:H l=some (.lst ((0::r.ns).map V.int))):FD P w K mg base fH H [x,l] x m r:=fun H'' kk _=>by
 have h1:=kk _ (by simp) _ hx;have h2:=kk _ (by simp) _ hl;exists ⟨PL,dx,_,h1,T.Le,rfl,m1,m6,rfl⟩;rw[tE (g.pn (by lia) (by lia) (by lia)),hk];have:=g.Ds m6;exact Ft T Z.RP h1 h2 (by lia) g.Dt
theorem Dx(T:#[4])(Z:ZR P w K mg base AL LN RU OW PL PA VO MA NE fH iR iO iP iA iV iM iN wR wO wP wA wV wM wN CO iC cH cW iX SE NG NN NO NR NL NS NT NX NV TM UL)(g:GoodR m r)(hk:r.k=2)(m1:1<=m)(m6:m<=6){bs:List Addr}(hx:H x=some (.ins PA dx [("many",.int (m:Int)),("pairs",.ref l)]))(hl:H l=some (.lst (bs.map V.ref)))(a2:A2 (dR H) bs r.ps):FD P w K mg base fH H [x,l] x m r:=fun H'' kk st=>by
 have h1:=kk _ (by simp) _ hx;have h2:=kk _ (by simp) _ hl;have a3:A2 (dR H'') bs r.ps:=a2.imp fun _ _ z=>z.keep st;have pl:=g.pl;exists ⟨PA,dx,_,h1,T.Lf,rfl,m1,m6,rfl⟩;rw[Du (List.length_eq_zero_iff.mp (by rw[g.sz,hk];rfl)),hk];exact Fu T Z.RQ h1 h2 a3 (by lia) (g.FA m6)
theorem Dy(T:#[4])(Z:ZR P w K mg base AL LN RU OW PL PA VO MA NE fH iR iO iP iA iV iM iN wR wO wP wA wV wM wN CO iC cH cW iX SE NG NN NO NR NL NS NT NX NV TM UL)(g:GoodR m r)(hk:r.k=4)(m1:1<=m)(m6:m<=6){bs:List Addr}{lb:Addr}(hx:H x=some (.ins MA dx [("many",.int (m:Int)),("pairs",.ref l),("best",.ref lb)]))(hl:H l=some (.lst (bs.map V.ref)))(a2:A2 (dR H) bs r.ps):FD P w K mg base fH H [x,l] x m r:=fun H'' kk st=>by
 have h1:=kk _ (by simp) _ hx;have h2:=kk _ (by simp) _ hl;have a3:A2 (dR H'') bs r.ps:=a2.imp fun _ _ z=>z.keep st;have pl:=g.pl;exists ⟨MA,dx,_,h1,T.Gv,rfl,m1,m6,rfl⟩;rw[Du (List.length_eq_zero_iff.mp (by rw[g.sz,hk];rfl)),hk];exact Fv T Z.MW h1 h2 a3 (by lia) (g.FA m6)
theorem Kc(T:#[4])(Z:ZR P w K mg base AL LN RU OW PL PA VO MA NE fH iR iO iP iA iV iM iN wR wO wP wA wV wM wN CO iC cH cW iX SE NG NN NO NR NL NS NT NX NV TM UL)(g:GoodR m r)(hk:r.k=5)(m1:1<=m)(m6:m<=6){lr:Addr}(no:JF NE H x l lr r.ns r.ps):FD P w K mg base fH H [x,l,lr] x m r:=fun H'' kk st=>by
 obtain⟨dy,bs,f1,f2,f3,f4,f5⟩:=no;have h1:=kk _ (by simp) _ f1;have h2:=kk _ (by simp) _ f2;have h3:=kk _ (by simp) _ f3;have a3:A2 (dR H'') bs r.ps:=f4.imp fun _ _ z=>z.keep st;have nl:r.ns.length=m:=by rw[g.sz,hk];rfl
 have pl:=g.pl;rw[nl] at h1;exists ⟨NE,dy,_,h1,T.CS,rfl,m1,m6,rfl⟩;have e:bK r=sY ("net":Str) (r.ns.map nW++r.ps.map pW):=by
  delta bK zH;rw[hk];rfl
 rw[e];exact NQ T Z.NW h1 h2 h3 a3 (by lia) (by lia) g.Dt (g.FA m6)
end
def NK(H H' H'':Hp):Prop:=∀b o,(H b=none\/∃us,o=HO.tup us)->H' b=some o->H'' b=some o
theorem FD.nk(h:FD P w K mg base fH H' F x m r)(hF:∀b∈F,H b=none)(k:NK H H' H''):AW P w K mg base fH H'' x m r :=
 h H'' (fun b hb o e=>k b o (.inl (hF b hb)) e) fun b us e=>k b _ (.inr ⟨us,rfl⟩) e
theorem Dz:∀(N:Nat) (l:List Nat),l.Nodup->(∀x∈l,x<N)->l.length<=N
 | 0,l,_,h=>by
  cases l with
  | nil=>exact qAl _
  | cons x r=>exact absurd (h x qAr) (by lia)
 | N+1,l,nd,h=>by
  by_cases c:N∈l
  .have e:=Dz N (l.erase N) (nd.erase N) fun x hx=>by
    have z:=(nd.mem_erase_iff).mp hx;have y:=h x z.2;have w:=z.1;lia
   rw[List.length_erase_of_mem c] at e;lia
  .have e:=Dz N l nd fun x hx=>by
    have y:=h x hx;rcases qBj x N with z | z
    .exact z
    .have:x=N:=by lia
     exact absurd (this▸hx) c
   lia
def Qu(k:Int×Int):Nat:=k.2.toNat*(k.2.toNat-1)/2+k.1.toNat
theorem zI:∀i j i' j':_root_.Fin 6,i.1<j.1->i'.1<j'.1->(j.1*(j.1-1)/2+i.1=j'.1*(j'.1-1)/2+i'.1->i=i'/\j=j')/\j.1*(j.1-1)/2+i.1<15:=by decide +kernel
theorem Of{m:Int}{H:Hp}{as:List Addr}(h:gY m (as.map (c5 H))=true):∀b∈as,∃i j n:Int,c5 H b=[.int i,.int j,.int n]/\0<=i/\i<j/\j<m:=fun b hb=>sU (kB h _ (List.mem_map.mpr ⟨b,hb,rfl⟩))
theorem FF{m:Int}{H:Hp}{as:List Addr}(h:gY m (as.map (c5 H))=true):(as.map fun b=>fJ (c5 H b)).Nodup:=by
 have z:=mB h qKf;rw[qEk,qCe] at z;exact z
theorem dF.of_ok{m:Nat}{H:Hp}{as:List Addr}(m6:m<=6)(h:gY (m:Int) (as.map (c5 H))=true)(ht:iU K H as):dF m H as:=by
 have at_:=Of h;have nd:=FF h;exists fun b hb=>?_,nd
 .obtain⟨i,j,n,e,i0,ij,jm⟩:=at_ b hb;obtain⟨xs,hx,_⟩:=ht b hb;rw[dE hx] at e;subst e;refine⟨i.toNat,j.toNat,n,?_,by lia,by lia⟩;rw[hx,qFk i0,qFk (by lia)]
 .have le:=Dz 15 ((as.map fun b=>fJ (c5 H b)).map Qu) ?_ ?_
  .rw[qAa,qAa] at le;exact le
  .refine List.pairwise_map.mpr (nd.imp_of_mem fun {a b} ha hb ne e=>ne ?_);obtain⟨x,hx,rfl⟩:=List.mem_map.mp ha;obtain⟨y,hy,rfl⟩:=List.mem_map.mp hb;obtain⟨i,j,n,ex,i0,ij,jm⟩:=at_ x hx;obtain⟨i',j',n',ey,i0',ij',jm'⟩:=at_ y hy;rw[ex,ey] at e|-;have z:=(zI ⟨i.toNat,by lia⟩ ⟨j.toNat,by lia⟩ ⟨i'.toNat,by lia⟩ ⟨j'.toNat,by lia⟩ (by show i.toNat<j.toNat;lia) (by show i'.toNat<j'.toNat;lia)).1 e;have z1:i.toNat=i'.toNat:=congrArg Fin.val z.1;have z2:j.toNat=j'.toNat:=congrArg Fin.val z.2;show(i,j)=(i',j');rw[show i=i' by lia,show j=j' by lia]
  .intro k hk;obtain⟨q,hq,rfl⟩:=List.mem_map.mp hk;obtain⟨x,hx,rfl⟩:=List.mem_map.mp hq;obtain⟨i,j,n,ex,i0,ij,jm⟩:=at_ x hx;rw[ex];exact(zI ⟨i.toNat,by lia⟩ ⟨j.toNat,by lia⟩ ⟨i.toNat,by lia⟩ ⟨j.toNat,by lia⟩ (by show i.toNat<j.toNat;lia) (by show i.toNat<j.toNat;lia)).2
theorem A2.dU{H:Hp}{as:List Addr}{ps:List P3}(h:A2 (dR H) as ps):iU K H as:=fun b hb=>by
 obtain⟨p,_,e⟩:=h.all b hb;refine⟨_,e,fun x hx=>?_,by show 3<=1000;decide⟩;simp only[qCk,qBs,or_false] at hx;rcases hx with rfl | rfl | rfl
 .exact .int _
 .exact .int _
 .exact .int _
theorem FG:∀k j:_root_.Fin 7,b9 k.1=b9 j.1->k=j:=by decide +kernel
def RowW(m:Nat)(ws:List Str)(r:R4)(qs:List P3):Prop:=GoodR m r/\qs.Perm r.ps/\ws=b9 r.k::(r.ns.map nW++qs.map pW)
theorem RowW.k{m:Nat}{kd:Str}{td:List Str}{r:R4}{qs:List P3}(h:RowW m (kd::td) r qs){j:Nat}(j7:j<7)(e:kd=b9 j):r.k=j/\td=r.ns.map nW++qs.map pW:=by
 obtain⟨g,_,z⟩:=h;obtain⟨z1,z2⟩:=List.cons.inj z;exact⟨congrArg Fin.val (FG ⟨r.k,g.k7⟩ ⟨j,j7⟩ (z1.symm.trans e)),z2⟩
theorem RowW.n{m:Nat}{kd:Str}{td:List Str}{r:R4}{qs:List P3}(h:RowW m (kd::td) r qs){j:Nat}(j7:j<7)(e:kd=b9 j)(h2:j≠2)(h4:j≠4)(h5:j≠5):td=r.ns.map nW/\td.length=fR m j/\∀x∈td,fO x:=by
 obtain⟨hk,ht⟩:=h.k j7 e;obtain⟨g,pm,_⟩:=h;have q0:qs=[]:=List.length_eq_zero_iff.mp (by rw[pm.length_eq,g.pn (by lia) (by lia) (by lia)];rfl);rw[q0,qEe,qBx] at ht;refine⟨ht,by rw[ht,qAa,g.sz,hk],fun x hx=>?_⟩;rw[ht] at hx;obtain⟨n,hn,rfl⟩:=List.mem_map.mp hx;exact⟨n,rfl,g.nb n hn⟩
theorem jF:∀{l:List Str},(∀x∈l,fO x)->(l.map gZ).map nW=l/\∀n∈l.map gZ,n.natAbs<10^30
 | [],_=>⟨rfl,fun n h=>by cases h⟩
 | x::l,h=>by
  obtain⟨e,b⟩:=jF (l:=l) fun y hy=>h y (qAq _ hy);obtain⟨n,rfl,hn⟩:=h x qAr;rw[qBo,qBo,e,sZ hn];refine⟨rfl,fun k hk=>?_⟩;rcases List.mem_cons.mp hk with rfl | hk
  .exact hn
  .exact b k hk
theorem tF{m k:Nat}{ns:List Int}(k7:k<7)(sz:ns.length=fR m k)(nb:∀n∈ns,n.natAbs<10^30)(q1:k=3->1<=ns.getD 0 0)(h5:k≠5):GoodR m ⟨k,ns,[]⟩:=⟨k7,sz,nb,.nil,(fun p h=>by cases h),qBn _,fun _ _ _=>rfl,q1,fun z=>absurd z h5⟩
theorem xE{p q:P3}(hp:gI p)(hq:gI q)(h:pW p=pW q):p=q:=by
 have z:(pW p).cps.toList=(pW q).cps.toList:=by rw[h]
 rw[c9 hp.1 hp.2.1,c9 hq.1 hq.2.1] at z;obtain⟨z0,z⟩:=List.cons.inj z;obtain⟨_,z⟩:=List.cons.inj z;obtain⟨z2,z⟩:=List.cons.inj z;obtain⟨_,z⟩:=List.cons.inj z;have e:=CG (dY z) (qFn hp.2.2 #[2]) (qFn hq.2.2 #[2]);obtain⟨p1,p2,p3⟩:=p;obtain⟨q1,q2,q3⟩:=q;have z0:48+p1=48+q1:=z0;have z2:48+p2=48+q2:=z2;have e:p3=q3:=e;rw[show p1=q1 by lia,show p2=q2 by lia,e]
theorem nG:∀{ps qs:List P3},(∀p∈ps,gI p)->(∀p∈qs,gI p)->ps.map pW=qs.map pW->ps=qs
 | [],[],_,_,_=>rfl
 | p::ps,[],_,_,h=>by cases h
 | [],q::qs,_,_,h=>by cases h
 | p::ps,q::qs,hp,hq,h=>by
  obtain⟨h1,h2⟩:=List.cons.inj h;rw[xE (hp p qAr) (hq q qAr) h1,nG (fun x hx=>hp x (qAq _ hx)) (fun x hx=>hq x (qAq _ hx)) h2]
theorem GoodR.pB{m:Nat}{r:R4}(g:GoodR m r)(m6:m<=6){qs:List P3}(pm:qs.Perm r.ps):∀q∈qs,gI q:=fun q hq=>by
 obtain⟨a,b,c⟩:=g.p6 m6 q (pm.mem_iff.mp hq);exact⟨by lia,by lia,c⟩
theorem RowW.p{m:Nat}{kd:Str}{td:List Str}{r:R4}{qs:List P3}(h:RowW m (kd::td) r qs)(m6:m<=6){j:Nat}(j7:j<7)(e:kd=b9 j)(h2:j=2\/j=4):td=qs.map pW/\∀q∈qs,gI q:=by
 obtain⟨hk,ht⟩:=h.k j7 e;obtain⟨g,pm,_⟩:=h;have n0:r.ns=[]:=List.length_eq_zero_iff.mp (by rw[g.sz,hk];rcases h2 with h2 | h2 <;> rw[h2] <;> rfl);rw[n0,qEe,qEk] at ht;exact⟨ht,g.pB m6 pm⟩
theorem DA{m:Nat}{H:Hp}{as:List Addr}{ps:List P3}(ok:dF m H as)(a2:A2 (dR H) as ps)(pb:∀p∈ps,gI p):(∀p∈ps,p.1<p.2.1/\p.2.1<m/\p.2.2.natAbs<10^30)/\ps.length<=15:=by
 refine⟨fun p hp=>?_,by rw[<- a2.len];exact ok.2.2⟩;obtain⟨b,hb,r⟩:=a2.JB p hp;obtain⟨u,v,n,e,z1,z2⟩:=ok.1 b hb;have z:p=(u,v,n):=dR.eq r e;have:=(pb p hp).2.2;rw[z] at this|-;exact⟨z1,z2,this⟩
theorem xF{m k:Nat}{ns:List Int}{ps ps':List P3}(k2:k=2\/k=4\/k=5)(sz:ns.length=fR m k)(nb:∀n∈ns,n.natAbs<10^30)(pm:ps'.Perm ps)(Bh:kC ps')(pb:(∀p∈ps,p.1<p.2.1/\p.2.1<m/\p.2.2.natAbs<10^30)/\ps.length<=15)(n0:k=5->(∀n∈ns,0<=n)/\∀p∈ps,0<=p.2.2):GoodR m ⟨k,ns,ps'⟩ :=
 ⟨by show k<7;lia,sz,nb,Bh,fun p hp=>pb.1 p (pm.mem_iff.mp hp),by show ps'.length<=15;rw[pm.length_eq];exact pb.2,fun a b c=>by have a:k≠2:=a;have b:k≠4:=b;have c:k≠5:=c;lia,fun z=>by have z:k=3:=z;lia,fun z=>⟨(n0 z).1,fun p hp=>(n0 z).2 p (pm.mem_iff.mp hp)⟩⟩
theorem xG{m:Nat}{H:Hp}{as:List Addr}{ps qs:List P3}{r:R4}(g:GoodR m r)(m6:m<=6)(pm:qs.Perm r.ps)(pb:∀p∈ps,gI p)(e:ps.map pW=qs.map pW)(a2:A2 (dR H) as ps):dF m H as:=by
 rw[nG pb (g.pB m6 pm) e] at a2;exact FC a2 pm g.Bh g.pb g.pl
theorem tG:∀{ns:List Int},(∀n∈ns,n.natAbs<10^30)->(ns.map nW).map gZ=ns
 | [],_=>rfl
 | n::ns,h=>by rw[qBo,qBo,sZ (h n qAr),tG fun x hx=>h x (qAq _ hx)]
theorem xI{rs:List Int}{j:Nat}(hj:j<rs.length):iT (rs.map V.int) (j:Int)=some (.int (rs.getD j 0)):=bP (by rw[qAs,qBg,qAe hj];rfl)
def DB(P:qBe)(w:qCj)(K:qAb)(mg:Str->Option qAh)(base:Heap)(fH NL:Addr):Sp:=fun vs H Q E=>∃(p:Addr) (m:Nat) (kd:Str) (td:List Str),vs=[.int (m:Int),.ref p]/\H p=some (.lst ((kd::td).map V.str))/\1<=m/\m<=6/\td.length<=900/\OL td/\((kd=("pairs":Str)\/kd=("match":Str)\/kd=("net":Str))->td.length<64) /\
 (∀r qs,RowW m (kd::td) r qs->∀x H',aK H H'->(∀H'',NK H H' H''->AW P w K mg base fH H'' x m r)->Q (.ref x) H')/\((¬∃r qs,RowW m (kd::td) r qs)->∀H',aK H H'->E (.ref NL) none H')
theorem zJ:aN ["many","words","kind","told","numbers"] ["many","words"] (aF IQ):=#[1,2]
theorem Ke{f1 f2:Addr}{fd1 fd2:qBy}(t:Tx K mg "rule_of" IQ ["many","words"] f fd)(T:#[4])(Z:ZR P w K mg base AL LN RU OW PL PA VO MA NE fH iR iO iP iA iV iM iN wR wO wP wA wV wM wN CO iC cH cW iX SE NG NN NO NR NL NS NT NX NV TM UL)(D_numbers_of:#[1,1] 2 "numbers_of" ["words"] (GG NL) f1 fd1)(D_pairs_of:#[1,1] 3 "pairs_of" ["words"] (GI NL) f2 fd2):
  #[1,1] 9 "rule_of" ["many","words"] (DB P w K mg base fH NL) f fd:=by
 have D_RI:=Z.RI;have D_OI:=Z.OI;have D_PI:=Z.PI;have D_PaI:=Z.RN;have D_VI:=Z.VI;have D_MI:=Z.MI;have D_NI:=Z.NI;refine t.Am zJ (fun vs H Q E h=>?_) (fun cdv A outer s H vs Q E hr h=>?_)
 .obtain⟨p,m,kd,td,rfl,_⟩:=h;rfl
 .obtain⟨p,m,kd,td,rfl,hp,m1,m6,l9,wd,FH,k,kb⟩:=h;refine⟨_,(aE (aX (i:=2) zJ.nd rfl cO (bH bY (pv 1) aD #[6]))
   (aE (aX (i:=3) zJ.nd rfl cO (aR bZ (pv 1) (aW aD) aV))
   (aE (bI (PW.pt (pw_and (aL bU (pv 2) aI (aT _)) (pw_and1 (aL bU (aO aS #[0] T.cD bS (aA (pv 3) aC)) aD (aT _))))) (aH (aU (fG aQ.toPass T.Rb D_RI hr #[1] #[0] T.CQ (aA (pv 0) aC)))) aY)
   (aE (bI (PW.pt (pw_and (aL bU (pv 2) aI (aT _)) (pw_and1 (aL bU (aO aS #[0] T.cD bS (aA (pv 3) aC)) (pv 0) (aT _))))) (aH (aU (fG aQ.toPass T.Rc D_OI hr #[1] #[0] T.Mp (aA (cX aQ.toPass D_numbers_of hr #[1] #[0] (aA (pv 3) aC)) aC)))) aY)
   (aE (bI (aL bU (pv 2) aI (aT _)) (aH (aU (fG aQ.toPass T.Rg D_PaI hr #[1] #[0] T.Mr (aA (pv 0) (aA (cX aQ.toPass D_pairs_of hr #[1] #[0] (aA (pv 3) aC)) aC))))) aY)
   (aE (bI (PW.pt (pw_and (aL bU (pv 2) aI (aT _)) (pw_and1 (aL bU (aO aS #[0] T.cD bS (aA (pv 3) aC)) (aG bQ (pv 0) aD) (aT _))))) (aE (aX (i:=4) zJ.nd rfl cO (cX aQ.toPass D_numbers_of hr #[1] #[0] (aA (pv 3) aC)))
    (aH (aU (fG aQ.toPass T.Rh D_VI hr #[1] #[0] T.Ms (aA (bH bY (pv 4) aD #[6]) (aA (bH bY (pv 4) aD #[6]) (aA (aR bZ (pv 4) (aW aD) aV) aC))))))) aY)
   (aE (bI (aL bU (pv 2) aI (aT _)) (aH (aU (fG aQ.toPass T.Ri D_MI hr #[1] #[0] T.Mv (aA (pv 0) (aA (cX aQ.toPass D_pairs_of hr #[1] #[0] (aA (pv 3) aC)) aC))))) aY)
   (aE (bI (PW.pt (pw_and (aL bU (pv 2) aI (aT _)) (pw_and1 (aL LF (aO aS #[0] T.cD bS (aA (pv 3) aC)) (pv 0) (aT _))))) (aH (aU (fG aQ.toPass T.Rj D_NI hr #[1] #[0] T.Mw (aA (cX aQ.toPass D_numbers_of hr #[1] #[0] (aA (aR bZ (pv 3) aV (aW (pv 0))) aC)) (aA (cX aQ.toPass D_pairs_of hr #[1] #[0] (aA (aR bZ (pv 3) (aW (pv 0)) aV) aC)) aC))))) aY)
   (aE (bI (PW.pt (pw_and (aL bU (pv 2) aI (aT _)) (pw_and1 (aL bU (aO aS #[0] T.cD bS (aA (pv 3) aC)) (aG fA (bH dB (bO (v:=.ref LN) #[0] T.Gu rfl) (pv 0) #[6]) aD) (aT _))))) (aH (aU (fG aQ.toPass T.Rf D_PI hr #[1] #[0] T.Mq (aA (aG bB (bE (aA aD aC)) (cX aQ.toPass D_numbers_of hr #[1] #[0] (aA (pv 3) aC))) aC)))) aY)
   (aH (cP aQ rfl #[0] T.sT T.uL (aA aI aC)))))))))))),?_⟩
  have hat0:iT ((kd::td).map V.str) 0=some (.str kd):=bP (j:=0) rfl;exists _,rfl,p,_,_,_,rfl,rfl,bA.of hp,hat0;refine⟨_,rfl,1,rfl,p,_,rfl,bA.of hp,fun lt hlt=>?_⟩;have ec:eE ((kd::td).map V.str) (some 1) none=td.map V.str:=gP ((kd::td).map V.str) 1;rw[ec];have u1:=aK.aJ (o:=.lst (td.map V.str)) hlt;have ht:upd H lt (.lst (td.map V.str)) lt=some (.lst (td.map V.str)):=aB;generalize upd H lt (.lst (td.map V.str))=H1 at u1 ht|-;dsimp only[a9];refine bR (σ':=[some (.int (m:Int)),some (.ref p),some (.str kd),some (.ref lt),none]) rfl ?_;have tl:(td.map V.str).length=td.length:=qAa _;have h64:2^m<=64:=qEj (n:=2) #[1] m6;have hpos:0<2^m:=qKa #[1];have bad:(¬∃r qs,RowW m (kd::td) r qs)->(1<=qAg/\E (.ref NL) none H1):=fun nb=>⟨by decide,kb nb H1 u1⟩;by_cases k0:kd=("none":Str)
  .subst k0;refine⟨_,rfl,rfl,_,rfl,dC ?_⟩;refine⟨_,rfl,lt,_,rfl,.inl (bA.of ht),rfl,_,rfl,b7 (fun hz=>?_) (fun hz=>?_)⟩
   .have t0:td=[]:=List.length_eq_zero_iff.mp (by
     have:=V.int.inj (of_decide_eq_true hz);rw[tl] at this;lia)
    subst t0;have g:GoodR m ⟨0,[],[]⟩:=tF #[1] rfl (fun n h=>by cases h) (fun h=>by cases h) #[1];refine⟨_,rfl,fun x dx hx hd ne=>Fx T.OH.oc T.OH.nm hx hd ne m1 m6 fun H5 s5 hx5=>⟨rfl,?_⟩⟩;exact k ⟨0,[],[]⟩ [] ⟨g,.refl _,rfl⟩ x H5 (u1.trans s5) fun H'' nk=>(FE T Z g rfl m1 m6 hx5).nk (fun b hb=>by rw[List.mem_singleton.mp hb];exact u1.free hx) nk
   .dsimp only[bM];refine⟨_,rfl,rfl,_,rfl,bF ?_⟩;dsimp only[bM];refine⟨_,rfl,rfl,_,rfl,bF ?_⟩;dsimp only[bM];refine⟨_,rfl,rfl,_,rfl,bF ?_⟩;dsimp only[bM];refine⟨_,rfl,rfl,_,rfl,bF ?_⟩;dsimp only[bM];refine⟨_,rfl,rfl,_,rfl,bF ?_⟩;dsimp only[bM];refine⟨_,rfl,rfl,_,rfl,bF ?_⟩;dsimp only[bM];refine bad fun⟨r,qs,h⟩=>hz (decide_eq_true ?_);have z:=(h.n (j:=0) #[1] rfl #[1] #[1] #[1]).2.1;rw[tl,z];rfl
  by_cases k1:kd=("own":Str)
  .subst k1;refine⟨_,rfl,rfl,_,rfl,bF ?_⟩;dsimp only[bM];refine⟨_,rfl,rfl,_,rfl,dC ?_⟩;refine⟨_,rfl,lt,_,rfl,.inl (bA.of ht),_,rfl,rfl,_,rfl,b7 (fun hz=>?_) (fun hz=>?_)⟩
   .have tm:td.length=m:=by
     have:=V.int.inj (of_decide_eq_true hz);rw[tl] at this;lia
    refine⟨_,rfl,lt,td,rfl,ht,by lia,wd,fun al ln H2 hln s2 hn2=>?_,fun no H2 s2=>kb (fun⟨r,qs,h⟩=>no (h.n (j:=1) #[1] rfl #[1] #[1] #[1]).2.2) H2 (u1.trans s2)⟩;obtain⟨nb1,nb2⟩:=jF al;have nl:(td.map gZ).length=m:=by rw[qAa];exact tm
    have g:GoodR m ⟨1,td.map gZ,[]⟩:=tF #[1] nl nb2 (fun h=>by cases h) #[1];have u2:=u1.trans s2;refine fun x dx hx hd ne=>JR hx hd ne hn2 (by lia) (by lia) fun l' H5 hl' s5 hx5 hl5=>⟨rfl,?_⟩;rw[nl] at hx5;refine k ⟨1,td.map gZ,[]⟩ [] ⟨g,.refl _,?_⟩ x H5 (u2.trans s5) fun H'' nk=>(Kb T Z g rfl m1 m6 hx5 hl5).nk (fun b hb=>u2.free (by rcases List.mem_cons.mp hb with z | z;rw[z];exact hx;rw[List.mem_singleton.mp z];exact hl')) nk;show _=b9 1::((td.map gZ).map nW++[]);rw[nb1,qBx];rfl
   .dsimp only[bM];refine⟨_,rfl,rfl,_,rfl,bF ?_⟩;dsimp only[bM];refine⟨_,rfl,rfl,_,rfl,bF ?_⟩;dsimp only[bM];refine⟨_,rfl,rfl,_,rfl,bF ?_⟩;dsimp only[bM];refine⟨_,rfl,rfl,_,rfl,bF ?_⟩;dsimp only[bM];refine⟨_,rfl,rfl,_,rfl,bF ?_⟩;dsimp only[bM];refine bad fun⟨r,qs,h⟩=>hz (decide_eq_true ?_);have z:=(h.n (j:=1) #[1] rfl #[1] #[1] #[1]).2.1;rw[tl,z];rfl
  by_cases k2:kd=("pairs":Str)
  .subst k2;refine⟨_,rfl,rfl,_,rfl,bF ?_⟩;dsimp only[bM];refine⟨_,rfl,rfl,_,rfl,bF ?_⟩;dsimp only[bM];refine⟨_,rfl,rfl,_,rfl,dC ?_⟩;have t64:=FH (by first|exact .inl rfl | exact .inr (.inl rfl) | exact .inr (.inr rfl))
   refine⟨_,rfl,_,rfl,lt,td,rfl,ht,by lia,wd,fun ps eps pb ln as H2 hln s2 hn2 a2=>?_,fun no H2 s2=>kb (fun⟨r,qs,h⟩=>no ?_) H2 (u1.trans s2)⟩
   .have u2:=u1.trans s2;have al:as.length<64:=by rw[a2.len];rw[eps,qAa] at t64;exact t64
    cases ok:gY (m:Int) (as.map (c5 H2)) with
    | true =>
     have po:dF m H2 as:=dF.of_ok m6 ok (a2.dU (K:=K));have pb2:=DA po a2 pb;refine fun x dx hx hd ne=>De hx hd ne hn2 po a2 m1 m6 fun l' bs ps' H5 hl' s5 pm5 srt5 a5 hx5 hl5=>⟨rfl,?_⟩;have g:GoodR m ⟨2,[],ps'⟩:=xF #[1] rfl (fun n h=>by cases h) pm5 srt5 pb2 (fun z=>by cases z);refine k ⟨2,[],ps'⟩ ps ⟨g,pm5.symm,by rw[eps];rfl⟩ x H5 (u2.trans s5) fun H'' nk=>(Dx T Z g rfl m1 m6 hx5 hl5 a5).nk (fun b hb=>u2.free (by rcases List.mem_cons.mp hb with z | z;rw[z];exact hx;rw[List.mem_singleton.mp z];exact hl')) nk
    | false =>
     refine fun x dx hx hd ne=>Di hx hd ne (.int _) hn2 a2.dU al (.inr ⟨m,rfl,m1,m6,ok⟩) fun H' s'=>kb (fun⟨r,qs,h⟩=>?_) H' (u2.trans s');obtain⟨e,qb⟩:=h.p m6 (j:=2) #[1] rfl #[1];obtain⟨g,pm,_⟩:=h;rw[(xG g m6 pm pb (eps.symm.trans e) a2).ok] at ok;cases ok
   .intro x hx;obtain⟨e,qb⟩:=h.p m6 (j:=2) #[1] rfl #[1];rw[e] at hx;obtain⟨q,hq,rfl⟩:=List.mem_map.mp hx;exact⟨q,rfl,qb q hq⟩
  by_cases k3:kd=("votes":Str)
  .subst k3;refine⟨_,rfl,rfl,_,rfl,bF ?_⟩;dsimp only[bM];refine⟨_,rfl,rfl,_,rfl,bF ?_⟩;dsimp only[bM];refine⟨_,rfl,rfl,_,rfl,bF ?_⟩;dsimp only[bM];refine⟨_,rfl,rfl,_,rfl,dC ?_⟩;refine⟨_,rfl,lt,_,rfl,.inl (bA.of ht),_,rfl,_,_,rfl,rfl,rfl,_,rfl,b7 (fun hz=>?_) (fun hz=>?_)⟩
   .have tm:td.length=m+2:=by
     have:=V.int.inj (of_decide_eq_true hz);rw[tl] at this;lia
    refine⟨_,rfl,lt,td,rfl,ht,by lia,wd,fun al ln H2 hln s2 hn2=>?_,fun no H2 s2=>kb (fun⟨r,qs,h⟩=>no (h.n (j:=3) #[1] rfl #[1] #[1] #[1]).2.2) H2 (u1.trans s2)⟩;obtain⟨nb1,nb2⟩:=jF al;dsimp only[a9];have nl:(td.map gZ).length=m+2:=by rw[qAa];exact tm
    have ed:kb=kb:=rfl;generalize hns:td.map gZ=ns at hn2 nb1 nb2 nl|-;have at1:iT (ns.map V.int) 1=some (.int (ns.getD 1 0)):=xI (j:=1) (by lia);have at0:iT (ns.map V.int) 0=some (.int (ns.getD 0 0)):=xI (j:=0) (by lia);have dl:(ns.drop 2).length=m:=by rw[qBw];lia
    refine⟨_,rfl,ln,_,_,_,rfl,rfl,bA.of hn2,at0,_,rfl,ln,_,_,_,rfl,rfl,bA.of hn2,at1,_,rfl,2,rfl,ln,_,rfl,bA.of hn2,fun lw hlw=>?_⟩;have ec2:eE (ns.map V.int) (some 2) none=(ns.drop 2).map V.int:=by rw[show(2:Int)=((2:Nat):Int) from rfl,gP,<- qGm]
    rw[ec2];have u2:=(u1.trans s2).trans (aK.aJ (o:=.lst ((ns.drop 2).map V.int)) hlw);by_cases q1:1<=ns.getD 0 0
    .have g:GoodR m ⟨3,ns,[]⟩:=tF #[1] nl nb2 (fun _=>q1) #[1];refine fun x dx hx hd ne=>Dd hx hd ne aB q1 (by lia) (by lia) fun l' H5 hl' s5 hx5 hl5=>⟨rfl,?_⟩;rw[dl] at hx5;refine k ⟨3,ns,[]⟩ [] ⟨g,.refl _,?_⟩ x H5 (u2.trans s5) fun H'' nk=>(Dv T Z g rfl m1 m6 hx5 hl5).nk (fun b hb=>u2.free (by rcases List.mem_cons.mp hb with z | z;rw[z];exact hx;rw[List.mem_singleton.mp z];exact hl')) nk;show _=b9 3::(ns.map nW++[]);rw[nb1,qBx];rfl
    .refine fun x dx hx hd ne=>Dh hx hd ne (.int _) (.int _) aB fN (by rw[qAa];lia) ?_ fun H' s'=>kb (fun⟨r,qs,h⟩=>q1 ?_) H' (u2.trans s')
     .delta CV;show(_&&decide (1<=ns.getD 0 0))=false;rw[decide_eq_false q1,qDo]
     .have e:=(h.n (j:=3) #[1] rfl #[1] #[1] #[1]).1;have hk:=(h.k (j:=3) #[1] rfl).1;have z:ns=r.ns:=by rw[<- hns,e];exact tG h.1.nb
      rw[z];exact h.1.q1 hk
   .dsimp only[bM];refine⟨_,rfl,rfl,_,rfl,bF ?_⟩;dsimp only[bM];refine⟨_,rfl,rfl,_,rfl,bF ?_⟩;dsimp only[bM];refine⟨_,rfl,rfl,_,rfl,bF ?_⟩;dsimp only[bM];refine bad fun⟨r,qs,h⟩=>hz (decide_eq_true ?_);have z:=(h.n (j:=3) #[1] rfl #[1] #[1] #[1]).2.1;rw[tl,z];rfl
  by_cases k4:kd=("match":Str)
  .subst k4;refine⟨_,rfl,rfl,_,rfl,bF ?_⟩;dsimp only[bM];refine⟨_,rfl,rfl,_,rfl,bF ?_⟩;dsimp only[bM];refine⟨_,rfl,rfl,_,rfl,bF ?_⟩;dsimp only[bM];refine⟨_,rfl,rfl,_,rfl,bF ?_⟩;dsimp only[bM];refine⟨_,rfl,rfl,_,rfl,dC ?_⟩;have t64:=FH (by first|exact .inl rfl | exact .inr (.inl rfl) | exact .inr (.inr rfl))
   refine⟨_,rfl,_,rfl,lt,td,rfl,ht,by lia,wd,fun ps eps pb ln as H2 hln s2 hn2 a2=>?_,fun no H2 s2=>kb (fun⟨r,qs,h⟩=>no ?_) H2 (u1.trans s2)⟩
   .have u2:=u1.trans s2;have al:as.length<64:=by rw[a2.len];rw[eps,qAa] at t64;exact t64
    cases ok:gY (m:Int) (as.map (c5 H2)) with
    | true =>
     have po:dF m H2 as:=dF.of_ok m6 ok (a2.dU (K:=K));have pb2:=DA po a2 pb;refine fun x dx hx hd ne=>Dg hx hd ne hn2 po a2 m1 m6 fun l' lb bs ps' H5 hl' hlb s5 pm5 srt5 a5 mo hx5 hl5=>⟨rfl,?_⟩;obtain⟨dy,hx5⟩:=hx5;have g:GoodR m ⟨4,[],ps'⟩:=xF #[1] rfl (fun n h=>by cases h) pm5 srt5 pb2 (fun z=>by cases z);refine k ⟨4,[],ps'⟩ ps ⟨g,pm5.symm,by rw[eps];rfl⟩ x H5 (u2.trans s5) fun H'' nk=>(Dy T Z g rfl m1 m6 hx5 hl5 a5).nk (fun b hb=>u2.free (by rcases List.mem_cons.mp hb with z | z;rw[z];exact hx;rw[List.mem_singleton.mp z];exact hl')) nk
    | false =>
     refine fun x dx hx hd ne=>Dj hx hd ne (.int _) hn2 a2.dU al (.inr ⟨m,rfl,m1,m6,ok⟩) fun H' s'=>kb (fun⟨r,qs,h⟩=>?_) H' (u2.trans s');obtain⟨e,qb⟩:=h.p m6 (j:=4) #[1] rfl #[1];obtain⟨g,pm,_⟩:=h;rw[(xG g m6 pm pb (eps.symm.trans e) a2).ok] at ok;cases ok
   .intro x hx;obtain⟨e,qb⟩:=h.p m6 (j:=4) #[1] rfl #[1];rw[e] at hx;obtain⟨q,hq,rfl⟩:=List.mem_map.mp hx;exact⟨q,rfl,qb q hq⟩
  by_cases k5:kd=("net":Str)
  .subst k5;refine⟨_,rfl,rfl,_,rfl,bF ?_⟩;dsimp only[bM];refine⟨_,rfl,rfl,_,rfl,bF ?_⟩;dsimp only[bM];refine⟨_,rfl,rfl,_,rfl,bF ?_⟩;dsimp only[bM];refine⟨_,rfl,rfl,_,rfl,bF ?_⟩;dsimp only[bM];refine⟨_,rfl,rfl,_,rfl,bF ?_⟩;dsimp only[bM];refine⟨_,rfl,rfl,_,rfl,dC ?_⟩;have t64:=FH (.inr (.inr rfl));have row:∀{r:R4}{qs:List P3},RowW m (("net":Str)::td) r qs->td.take m=r.ns.map nW/\td.drop m=qs.map pW/\r.k=5/\m<=td.length:=fun {r qs} h=>by
    obtain⟨hk,e⟩:=h.k (j:=5) #[1] rfl;have sz:r.ns.length=m:=by rw[h.1.sz,hk];rfl
    have sl:(r.ns.map nW).length=m:=by rw[qAa];exact sz
    refine⟨by rw[e,List.take_left' sl],by rw[e,List.drop_left' sl],hk,by rw[e,qAf,sl];lia⟩
   refine⟨_,rfl,lt,_,rfl,.inl (bA.of ht),_,rfl,_,_,rfl,rfl,_,rfl,b7 (fun hz=>?_) (fun hz=>?_)⟩
   .have tm:m<=td.length:=by
     have:=of_decide_eq_true hz;rw[tl] at this;lia
    have et:eE (td.map V.str) none (some (m:Int))=(td.take m).map V.str:=by rw[kA,<- qFp]
    have ed:eE (td.map V.str) (some (m:Int)) none=(td.drop m).map V.str:=by rw[gP,<- qGm]
    have tkl:(td.take m).length=m:=by rw[qCs];lia
    have dpl:(td.drop m).length<=td.length:=by rw[qBw];lia
    refine⟨_,rfl,_,rfl,(m:Int),rfl,lt,_,rfl,bA.of ht,fun l1 hl1=>?_⟩;rw[et];have v1:=aK.aJ (o:=.lst ((td.take m).map V.str)) hl1;refine⟨l1,td.take m,rfl,aB,by lia,fun x hx=>wd x (qDj hx),fun al lc H2 hlc s2 hc2=>?_,fun no H2 s2=>kb (fun⟨r,qs,h⟩=>no fun x hx=>?_) H2 (u1.trans (v1.trans s2))⟩
    .have u2:=u1.trans (v1.trans s2);have ht2:=s2 _ _ (v1 _ _ ht);obtain⟨nb1,nb2⟩:=jF al;have nl:((td.take m).map gZ).length=m:=by rw[qAa];exact tkl
     generalize hns:(td.take m).map gZ=ns at hc2 nb1 nb2 nl|-;refine⟨_,rfl,_,rfl,(m:Int),rfl,lt,_,rfl,bA.of ht2,fun l3 hl3=>?_⟩;rw[ed];have v3:=aK.aJ (o:=.lst ((td.drop m).map V.str)) hl3;refine⟨l3,td.drop m,rfl,aB,by lia,fun x hx=>wd x (qDv hx),fun ps eps pb lp as H4 hlp s4 hp4 a4=>?_,fun no H4 s4=>kb (fun⟨r,qs,h⟩=>no fun x hx=>?_) H4 (u2.trans (v3.trans s4))⟩
     .have u4:=v3.trans s4;have u5:=u2.trans u4;have hc4:=u4 _ _ hc2;have al4:as.length<64:=by
       have:=congrArg qIp eps;rw[qAa] at this;rw[a4.len];lia
      have rowE:∀{r:R4}{qs:List P3},RowW m (("net":Str)::td) r qs->ns=r.ns/\ps.map pW=qs.map pW/\r.k=5:=fun {r qs} h=>by
       obtain⟨e1,e2,hk,_⟩:=row h;exact⟨by rw[<- hns,e1];exact tG h.1.nb,eps.symm.trans e2,hk⟩
      by_cases c0:∀c∈ns,0<=c
      .cases ok:gY (m:Int) (as.map (c5 H4)) with
       | true =>
        have po:dF m H4 as:=dF.of_ok m6 ok (a4.dU (K:=K));have pb2:=DA po a4 pb;by_cases r0:∀r∈ps,0<=r.2.2
        .refine fun x dx hx hd ne=>JS hx hd ne hc4 (by lia) (by lia) c0 hp4 (by rw[nl];exact po) a4 r0 fun l' lr rs' H5 hl' hlr s5 pm5 srt5 no=>⟨rfl,?_⟩;have g:GoodR m ⟨5,ns,rs'⟩:=xF #[1] nl nb2 pm5 srt5 pb2 (fun _=>⟨c0,r0⟩);refine k ⟨5,ns,rs'⟩ ps ⟨g,pm5.symm,?_⟩ x H5 (u5.trans s5) fun H'' nk=>(Kc T Z g rfl m1 m6 no).nk (fun b hb=>u5.free (by
          rcases List.mem_cons.mp hb with z | z
          .rw[z];exact hx
          .rcases List.mem_cons.mp z with z | z
           .rw[z];exact hl'
           .rw[List.mem_singleton.mp z];exact hlr)) nk
         show("net":Str)::td=b9 5::(ns.map nW++ps.map pW);rw[nb1,<- eps,List.take_append_drop];rfl
        .refine fun x dx hx hd ne=>xD hx hd ne hc4 fN (by rw[qAa];lia) hp4 a4.dU al4 (.inr ⟨ns,rfl,by lia,by lia,c0,.inr ⟨by rw[nl];exact po,?_⟩⟩) fun H' s'=>kb (fun⟨r,qs,h⟩=>r0 ?_) H' (u5.trans s')
         .obtain⟨p,hp⟩:=Classical.not_forall.mp r0;obtain⟨hp,hn⟩:=Classical.not_imp.mp hp;obtain⟨b,hb,pa⟩:=a4.JB p hp;exact⟨b,hb,p,pa,by lia⟩
         .obtain⟨e1,e2,hk⟩:=rowE h;obtain⟨g,pm,_⟩:=h;rw[nG pb (g.pB m6 pm) e2];exact fun q hq=>(g.n0 hk).2 q (pm.mem_iff.mp hq)
       | false =>
        refine fun x dx hx hd ne=>xD hx hd ne hc4 fN (by rw[qAa];lia) hp4 a4.dU al4 (.inr ⟨ns,rfl,by lia,by lia,c0,.inl (by rw[nl];exact ok)⟩) fun H' s'=>kb (fun⟨r,qs,h⟩=>?_) H' (u5.trans s');obtain⟨e1,e2,hk⟩:=rowE h;obtain⟨g,pm,_⟩:=h;rw[(xG g m6 pm pb e2 a4).ok] at ok;cases ok
      .refine fun x dx hx hd ne=>xD hx hd ne hc4 fN (by rw[qAa];lia) hp4 a4.dU al4 (.inl ?_) fun H' s'=>kb (fun⟨r,qs,h⟩=>c0 ?_) H' (u5.trans s')
       .obtain⟨c,hc⟩:=Classical.not_forall.mp c0;obtain⟨hc,hn⟩:=Classical.not_imp.mp hc;rw[zF hc (by lia),qDo]
       .obtain⟨e1,e2,hk⟩:=rowE h;rw[e1];exact(h.1.n0 hk).1
     .obtain⟨e1,e2,hk,_⟩:=row h;rw[e2] at hx;obtain⟨q,hq,rfl⟩:=List.mem_map.mp hx;exact⟨q,rfl,h.1.pB m6 h.2.1 q hq⟩
    .obtain⟨e1,e2,hk,_⟩:=row h;rw[e1] at hx;obtain⟨n,hn,rfl⟩:=List.mem_map.mp hx;exact⟨n,rfl,h.1.nb n hn⟩
   .dsimp only[bM];refine⟨_,rfl,rfl,_,rfl,bF ?_⟩;dsimp only[bM];refine bad fun⟨r,qs,h⟩=>hz (decide_eq_true ?_);have z:=(row h).2.2.2;rw[tl];lia
  by_cases k6:kd=("table":Str)
  .subst k6;refine⟨_,rfl,rfl,_,rfl,bF ?_⟩;dsimp only[bM];refine⟨_,rfl,rfl,_,rfl,bF ?_⟩;dsimp only[bM];refine⟨_,rfl,rfl,_,rfl,bF ?_⟩;dsimp only[bM];refine⟨_,rfl,rfl,_,rfl,bF ?_⟩;dsimp only[bM];refine⟨_,rfl,rfl,_,rfl,bF ?_⟩;dsimp only[bM];refine⟨_,rfl,rfl,_,rfl,bF ?_⟩;dsimp only[bM];refine⟨_,rfl,rfl,_,rfl,dC ?_⟩;have hat:iT (kW.map V.int) (m:Int)=some (.int ((2^m:Nat):Int)):=by
    have:∀m:_root_.Fin 7,(kW.map V.int)[m.1]?=some (.int ((2^m.1:Nat):Int)):=by decide
    exact bP (this ⟨m,by lia⟩)
   refine⟨_,rfl,lt,_,rfl,.inl (bA.of ht),_,rfl,LN,_,_,_,rfl,rfl,T.ln _,hat,_,_,rfl,rfl,rfl,_,rfl,b7 (fun hz=>?_) (fun hz=>?_)⟩
   .have tm:td.length=2^m-1:=by
     have:=V.int.inj (of_decide_eq_true hz);rw[tl] at this;lia
    refine⟨kG,fun lz hlz=>?_⟩;have uz:=aK.aJ (o:=.lst [V.int 0]) hlz;refine⟨_,rfl,lt,td,rfl,uz _ _ ht,by lia,wd,fun al ln H2 hln s2 hn2=>?_,fun no H2 s2=>kb (fun⟨r,qs,h⟩=>no (h.n (j:=6) #[1] rfl #[1] #[1] #[1]).2.2) H2 (u1.trans (uz.trans s2))⟩;obtain⟨nb1,nb2⟩:=jF al;have nl:(td.map gZ).length=2^m-1:=by rw[qAa];exact tm
    generalize hns:td.map gZ=ns at hn2 nb1 nb2 nl|-;have hn:(0::ns).length=2^m:=by rw[qAn];lia
    have g:GoodR m ⟨6,ns,[]⟩:=tF #[1] nl nb2 (fun h=>by cases h) #[1];refine⟨lz,ln,_,_,rfl,rfl,bA.of (s2 _ _ aB),bA.of hn2,(by rw[qAa];exact qCu (bL (by show 1+_<=_;lia))),fun l2 hl2=>?_⟩;rw[show [V.int 0]++ns.map V.int=(0::ns).map V.int from rfl];have u2:=(u1.trans (uz.trans s2)).trans (aK.aJ (o:=.lst ((0::ns).map V.int)) hl2);refine fun x dx hx hd ne=>Dc hx hd ne aB hn m1 m6 fun l' H5 hl' s5 hx5 hl5=>⟨rfl,?_⟩;refine k ⟨6,ns,[]⟩ [] ⟨g,.refl _,?_⟩ x H5 (u2.trans s5) fun H'' nk=>(Dw T Z g rfl m1 m6 hx5 hl5).nk (fun b hb=>u2.free (by rcases List.mem_cons.mp hb with z | z;rw[z];exact hx;rw[List.mem_singleton.mp z];exact hl')) nk;show _=b9 6::(ns.map nW++[]);rw[nb1,qBx];rfl
   .dsimp only[bM];refine bad fun⟨r,qs,h⟩=>hz (decide_eq_true ?_);have z:=(h.n (j:=6) #[1] rfl #[1] #[1] #[1]).2.1;rw[tl,z];show V.int ((2^m-1:Nat):Int)=V.int (((2^m:Nat):Int)-1);rw[show((2^m-1:Nat):Int)=((2^m:Nat):Int)-1 by lia]
  have no:∀{y:Str},kd≠y->decide (V.str kd=V.str y)=false:=fun h=>decide_eq_false fun z=>h (V.str.inj z);exists _,rfl,rfl,_,rfl;rw[show decide (V.str kd=V.str (Str.ofString "none"))=false from no k0];refine bF ?_;dsimp only[bM];exists _,rfl,rfl,_,rfl;rw[show decide (V.str kd=V.str (Str.ofString "own"))=false from no k1];refine bF ?_;dsimp only[bM];exists _,rfl,rfl,_,rfl;rw[show decide (V.str kd=V.str (Str.ofString "pairs"))=false from no k2];refine bF ?_;dsimp only[bM];exists _,rfl,rfl,_,rfl;rw[show decide (V.str kd=V.str (Str.ofString "votes"))=false from no k3];refine bF ?_;dsimp only[bM];exists _,rfl,rfl,_,rfl;rw[show decide (V.str kd=V.str (Str.ofString "match"))=false from no k4];refine bF ?_;dsimp only[bM];exists _,rfl,rfl,_,rfl;rw[show decide (V.str kd=V.str (Str.ofString "net"))=false from no k5];refine bF ?_;dsimp only[bM];exists _,rfl,rfl,_,rfl;rw[show decide (V.str kd=V.str (Str.ofString "table"))=false from no k6];refine bF ?_;dsimp only[bM];refine bad fun⟨r,qs,h⟩=>?_;obtain⟨g,_,z⟩:=h;obtain⟨z,_⟩:=List.cons.inj z;have k7:=g.k7;have hk:r.k=0\/r.k=1\/r.k=2\/r.k=3\/r.k=4\/r.k=5\/r.k=6:=by lia
  rcases hk with hk | hk | hk | hk | hk | hk | hk <;> rw[hk] at z
  .exact k0 z
  .exact k1 z
  .exact k2 z
  .exact k3 z
  .exact k4 z
  .exact k5 z
  .exact k6 z
theorem GL{α:Type}{R:Addr->α->Prop}:∀{as:List Addr}{xs:List α},as.length=xs.length->(∀(i:Nat) (a:Addr) (x:α),as[i]?=some a->xs[i]?=some x->R a x)->A2 R as xs
 | [],[],_,_=>.nil
 | a::as,[],h,_=>by cases h
 | [],x::xs,h,_=>by cases h
 | a::as,x::xs,h,k=>.cons (k 0 a x rfl rfl) (GL (by simpa using h) fun i b y e1 e2=>k (i+1) b y e1 e2)
def RR(P:qBe)(w:qCj)(K:qAb)(mg:Str->Option qAh)(base:Heap)(fH CO:Addr)(H:Hp)(c:Addr)(m:Nat)(rs:List R4):Prop:=∃os:List Ru,NY K fH CO H c m os/\os.length=rs.length/\∀(i:Nat) (o:Ru) (r:R4),os[i]?=some o->rs[i]?=some r->k9 P w K mg base H o.1 (bK r)
theorem Og{H:Hp}{m:Nat}{xs:List Addr}{rs:List R4}(h:A2 (fun x r=>AW P w K mg base fH H x m r) xs rs):∃os:List Ru,xs.map V.ref=refs os/\(∀o∈os,o.2=m)/\pC K fH H os/\os.length=rs.length/\∀(i:Nat) (o:Ru) (r:R4),os[i]?=some o->rs[i]?=some r->k9 P w K mg base H o.1 (bK r):=by
 induction h with
 | nil=>exact⟨[],rfl,(fun o ho=>by cases ho),(fun o ho=>by cases ho),rfl,(fun i o r e=>by cases e)⟩
 | @cons x r xs rs ob _ ih =>
  obtain⟨os,e1,e2,e3,e4,e5⟩:=ih;obtain⟨h1,h2⟩:=ob;refine⟨(x,m)::os,by rw[qBo,e1];rfl,fun o ho=>?_,fun o ho=>?_,by rw[qAn,qAn,e4],fun i o r' a b=>?_⟩
  .rcases List.mem_cons.mp ho with z | z
   .rw[z]
   .exact e2 o z
  .rcases List.mem_cons.mp ho with z | z
   .rw[z];exact h1
   .exact e3 o z
  .cases i with
   | zero=>cases a;cases b;exact h2
   | succ i=>exact e5 i o r' a b
def FI(m:Nat)(p:Str):Prop:=∃r qs,RowW m (Txt.split p (" ":Str)) r qs
structure Ln (p:Str):Prop where
 len:p.length<=60000
 RS:∃kd td,Txt.split p (" ":Str)=kd::td/\td.length<=900/\OL td/\((kd=("pairs":Str)\/kd=("match":Str)\/kd=("net":Str))->td.length<64)
def jW(pt:Str)(ps:List Str)(i:Nat):Prop:=(i=0/\¬∃m,uU pt m)\/∃m j,uU pt m/\i=j+1/\(∀h p,h<j->ps[h]?=some p->FI m p)/\((j<12/\∃p,ps[j]?=some p/\¬FI m p)\/(j=12/\12<ps.length))
def zK(P:qBe)(w:qCj)(K:qAb)(mg:Str->Option qAh)(base:Heap)(fH CO NX:Addr):Sp:=fun vs H Q E=>∃(x pt:Str) (ps:List Str),vs=[.str x]/\x.length<=2000000/\Txt.split x ("; ":Str)=pt::ps/\ps.length<=60/\(∀p∈ps,Ln p) /\
 (∀(m:Nat) (rs:List R4),uU pt m->ps.length<=12->rs.length=ps.length->(∀(i:Nat) (p:Str) (r:R4),ps[i]?=some p->rs[i]?=some r->∃qs,RowW m (Txt.split p (" ":Str)) r qs)->∀c H',aK H H'->RR P w K mg base fH CO H' c m rs->Q (.ref c) H') /\
 (∀i:Nat,jW pt ps i->∀d H',aK H H'->H' d=some (.xd [("part",.int (i:Int))])->E (.ref NX) (some d) H')
theorem rJ:aN ["text","parts","many","rules","place","part"] ["text"] (aF IT):=#[1,2]
theorem Kf{f1 f2:Addr}{fd1 fd2 fdX:qBy}(t:Tx K mg "read" IT ["text"] f fd)(T:#[4])(D_many_of:Df P w K mg base (AA P w) 3 "many_of" ["part"] (GJ NX) f1 fd1)(D_rule_of:#[1,1] 9 "rule_of" ["many","words"] (DB P w K mg base fH NL) f2 fd2)
  (D_CI:#[1,0] 4 ["self","many","rules"] (JT K fH CO NL) iC) (F_XI:ES P w K mg base 1 iX fdX ["self","part"] (AV K)) (B_XI:Binds K fdX ["self","part"] []):Df P w K mg base (AA P w) 11 "read" ["text"] (zK P w K mg base fH CO NX) f fd:=by
 refine t.QE rJ (by rintro _ _ _ _⟨x,pt,ps,rfl,_⟩;rfl) fun _ _ _ _ H vs Q E hr h=>?_;obtain⟨tx,pt,xs,rfl,cl,cs,x60,xb,k,kb⟩:=h;obtain⟨tkMR,hMR⟩:=T.mr;refine⟨_,(aE (aX (i:=1) rJ.nd rfl cO (dP qBf qHm qHl lV (pv 0) (aA aI aC)))
  (aE (aX (i:=2) rJ.nd rfl cO (CD AE D_many_of hr #[1] #[0] (aA (bH bY (pv 1) aD #[6]) aC)))
  (aE (aX (i:=3) rJ.nd rfl cO (bE aC))
  (aE (hX jM.own rfl (Cu #[0] T.oV (aA (aR bZ (pv 1) (aW aD) aV) aC) aD) (j5 rfl (cC (bC (i:=4) rJ.nd rfl cO) (cC (bC (i:=5) rJ.nd rfl cO) hW)))
   (aE (bI (aL nR (pv 4) (bO (v:=.int 12) #[0] hMR ⟨tkMR,rfl⟩) (aT _)) (aH (rA (sp:=(AV K)) (Ey:=(fun c d _ H3=>E c (some d) H3)) qZ rfl T.Jk F_XI (cY.h (hr.mono #[1])) B_XI #[0] T.Gw (aA (pv 4) aC))) aY)
   (aH (EY (tb:=fun Ex=>Bq (Pk K "list" rZ (fF 3) (fT (sE (DB P w K mg base fH NL) [] Ex (fT (fF 2) (fT (Pk K "str" Cq (fF 5) (fT (tC (V.str (" ":Str))) mV)) mV))) mV))) (th:=fun e0=>yR NX e0 (AV K) _ (fT (fF 4) mV) (fun c d _ H3=>E c (some d) H3)) ⟨rfl,rfl,rfl⟩ rfl (fun pins Ex=>(aH (cA (dP qEm qEi qEh fU (pv 3) (aA (cX BO D_rule_of hr #[1] #[0] (aA (pv 2) (aA (dP qBf qHm qHl lV (pv 5) (aA aI aC)) aC))) aC))))) #[0] T.sT T.RL jM.QD
    (fun e0=>(aH (AB T.Jk F_XI (cY.h (hr.mono #[1])) B_XI #[0] T.Gw (aA (pv 4) aC) (fun _=>hr.hd) (fun pins σ H3 s3 e1 t1 d1 h1=>jM.nw pins σ H3 s3 e1 _ t1 d1 e0 h1))))))))
  (aH (aU (fG kM T.Rr D_CI hr #[1] #[0] T.My (aA (pv 2) (aA (pv 3) aC))))))))),?_⟩
 refine⟨_,rfl,rfl,tx,("; ":Str),rfl,rfl,rfl,qAk (qIk cl 2) #[1],fun lp hlp=>?_⟩;rw[cs];have u1:=aK.aJ (o:=.lst ((pt::xs).map V.str)) hlp;have h1:upd H lp (.lst ((pt::xs).map V.str)) lp=some (.lst ((pt::xs).map V.str)):=aB;generalize upd H lp (.lst ((pt::xs).map V.str))=H1 at u1 h1|-;dsimp only[a9];refine⟨_,rfl,lp,_,_,_,rfl,rfl,bA.of h1,bP (j:=0) rfl,pt,rfl,fun m hm=>?_,fun nb d H' s' hd=>⟨d,rfl,kb 0 (.inl ⟨rfl,nb⟩) d H' (u1.trans s') hd⟩⟩;have m1:=hm.1;have m6:=hm.2.1;dsimp only[a9];refine⟨by show 0<=qAg;decide,fun lr hlr=>?_⟩;have u2:=aK.aJ (o:=.lst []) hlr;have h2:upd H1 lr (.lst []) lr=some (.lst ((([]:List Addr)).map V.ref)):=aB;have flr:H1 lr=none:=hlr;generalize upd H1 lr (.lst [])=H2 at u2 h2|-;dsimp only[a9];refine bR (σ':=[some (.str tx),some (.ref lp),some (.int (m:Int)),some (.ref lr),none,none]) rfl ?_;refine⟨_,rfl,1,rfl,lp,_,rfl,bA.of (u2 _ _ h1),fun lq hlq=>?_⟩;have ec:eE ((pt::xs).map V.str) (some 1) none=xs.map V.str:=gP ((pt::xs).map V.str) 1;rw[ec];have u3:=aK.aJ (o:=.lst (xs.map V.str)) hlq;have h3:upd H2 lq (.lst (xs.map V.str)) lq=some (.lst (xs.map V.str)):=aB;have hr3:=u3 _ _ h2;have nq:lq≠lr:=(bD h2 hlq).symm;generalize upd H2 lq (.lst (xs.map V.str))=H3 at u3 h3 hr3|-;exists lq,rfl,⟨_,bA.of h3⟩;refine Aw (xs:=xs.map V.str) (fun i σ' H'=>aK H1 H'/\H' lq=some (.lst (xs.map V.str))/\∃(ys:List Addr) (rs:List R4) (o4 o5:Option V),ys.length=i/\rs.length=i/\i<=12/\H' lr=some (.lst (ys.map V.ref))/\(∀(j:Nat) (p:Str) (r:R4),xs[j]?=some p->rs[j]?=some r->∃qs,RowW m (Txt.split p (" ":Str)) r qs)/\(∀(j:Nat) (y:Addr),ys[j]?=some y->∃r:R4,rs[j]?=some r/\∀H'',(∀b o,b≠lr->H' b=some o->H'' b=some o)->AW P w K mg base fH H'' y m r)/\σ'=[some (.str tx),some (.ref lp),some (.int (m:Int)),some (.ref lr),o4,o5]) ⟨u2.trans u3,h3,[],[],_,_,rfl,rfl,by decide,hr3,(fun j p r _ e=>by cases e),(fun j y e=>by cases e),rfl⟩ (fun i σ' H' _ hp=>bA.of hp.2.1) ?_ ?_
 .rintro i x t σ' H4 hx ht ⟨u4,h4,ys,rs,o4,o5,yl,rl,i12,hr4,hrow,hy,rfl⟩;have hi:i<xs.length:=by
   obtain⟨z,_⟩:=List.getElem?_eq_some_iff.mp hx;rw[qAa] at z;exact z
  have hq:xs[i]?=some xs[i]:=qAe hi;obtain rfl:x=V.str xs[i]:=by
   rw[qAs,hq] at hx;exact(Option.some.inj hx).symm
  have before:∀h p,h<i->xs[h]?=some p->FI m p:=fun h p hh e=>by
   have e2:rs[h]?=some rs[h]:=qAe (by lia);obtain⟨qs,z⟩:=hrow h p _ e e2;exact⟨_,qs,z⟩
  generalize hp:xs[i]=p at hq hx ht|-;have pb:=xb p (qAp hq);obtain⟨kd,td,wd,w9,ww,w64⟩:=pb.RS;have v5:=aK.aJ (o:=.tup [V.int ((i:Int)+1),V.str p]) ht;have ht5:upd H4 t (.tup [V.int ((i:Int)+1),V.str p]) t=some (.tup [V.int ((i:Int)+1),V.str p]):=aB;generalize upd H4 t (.tup [V.int ((i:Int)+1),V.str p])=H5 at v5 ht5|-;exists t,_,rfl,eQ.of ht5,rfl,_,_,rfl,_,_,rfl,rfl;have u5:=(u1.trans u4).trans v5;have ei:((i+1:Nat):Int)=(i:Int)+1:=by push_cast;rfl
  refine⟨_,rfl,_,_,rfl,rfl,_,rfl,b7 (fun h=>?_) (fun h=>?_)⟩
  .have e12:i=12:=by
    have:=of_decide_eq_true h;lia
   refine⟨_,rfl,kG,fun e he hs0=>⟨e,NX,SE,iX,(i:Int)+1,rfl,by lia,aB,T.Jk,T.OJ,fun d hd ne=>⟨rfl,?_⟩⟩⟩;obtain⟨z1,z2,z3⟩:=uV (NX:=NX) (i:=(i:Int)+1) he ne hd;exact⟨e,d,_,rfl,hs0,z1,z2,kb (i+1) (.inr ⟨m,i,hm,rfl,before,.inr ⟨e12,by lia⟩⟩) d _ (u5.trans z3) (by rw[aB,ei])⟩
  have i11:i<12:=by
   rcases qBj i 12 with z | z
   .exact z
   .exact absurd (decide_eq_true (show(i:Int)+1>12 by lia)) h
  have hr5:=v5 _ _ hr4;refine⟨_,rfl,.inl ⟨rfl,_,bA.of hr5⟩,_,rfl,_,rfl,rfl,_,(" ":Str),rfl,rfl,rfl,qAk (qIk pb.len 2) #[1],fun lw hlw=>?_⟩;rw[wd];have v6:=aK.aJ (o:=.lst ((kd::td).map V.str)) hlw;refine⟨lw,m,kd,td,rfl,aB,m1,m6,w9,ww,w64,fun r qs row y H7 s7 nk=>?_,fun no H7 s7=>?_⟩
  .have u57:=v6.trans s7;have hr6:=v6 _ _ hr5;have hr7:=s7 _ _ hr6;refine⟨lr,_,_,rfl,rfl,hr7,by rw[qAa];exact bL (by lia),?_⟩;have kp:∀b o,b≠lr->H7 b=some o->upd H7 lr (.lst (ys.map V.ref++[V.ref y])) b=some o:=fun b o n e=>by rw[aM n];exact e
   refine⟨(u4.trans (v5.trans u57)).upd_ne' flr,kp _ _ nq (u57 _ _ (v5 _ _ h4)),ys++[y],rs++[r],_,_,by rw[qAf,yl];rfl,by rw[qAf,rl];rfl,by lia,by rw[aB,qCt];rfl,fun j p' r' e1 e2=>?_,fun j z e=>?_,rfl⟩
   .rcases qBj j rs.length with hj | hj
    .rw[qAy hj] at e2;exact hrow j p' r' e1 e2
    .rw[qAz hj] at e2;have:j-rs.length=0:=by
      obtain⟨w1,_⟩:=List.getElem?_eq_some_iff.mp e2;have w1:j-rs.length<1:=w1;lia
     rw[this] at e2;cases e2;rw[show j=i by lia,hq] at e1;cases e1;exact⟨qs,by rw[wd];exact row⟩
   .rcases qBj j ys.length with hj | hj
    .rw[qAy hj] at e;obtain⟨q,hq',ob⟩:=hy j z e;exact⟨q,by rw[qAy (by lia)];exact hq',fun H'' kk=>ob H'' fun b o n e=>kk b o n (kp b o n (u57 _ _ (v5 _ _ e)))⟩
    .rw[qAz hj] at e;have:j-ys.length=0:=by
      obtain⟨w1,_⟩:=List.getElem?_eq_some_iff.mp e;have w1:j-ys.length<1:=w1;lia
     rw[this] at e;cases e;refine⟨r,by rw[qAz (by lia),show j-rs.length=0 by lia];rfl,fun H'' kk=>nk H'' fun b o hb e=>kk b o (fun z=>?_) (kp b o (fun z=>?_) e)⟩
     .rcases hb with hb | ⟨us,rfl⟩
      .rw[z,hr6] at hb;cases hb
      .rw[z,hr7] at e;cases e
     .rcases hb with hb | ⟨us,rfl⟩
      .rw[z,hr6] at hb;cases hb
      .rw[z,hr7] at e;cases e
  .refine⟨NL,rfl,T.Mz,fun e0 he0=>⟨_,rfl,kG,fun e he hs0=>⟨e,NX,SE,iX,(i:Int)+1,rfl,by lia,aB,T.Jk,T.OJ,fun d hd ne=>⟨rfl,e,d,upd (upd H7 e0 (wW e0)) d (.xd [("part",.int ((i:Int)+1))]),rfl,hs0,?_,?_,?_,?_⟩⟩⟩⟩
   .rw[gX ne,rP,gX ne.symm]
   .rw[aM ne.symm];exact he
   .have n0:e0≠d:=fun z=>by
     have n1:e0≠e:=fun y=>by rw[<- y,aB] at he;cases he
     rw[<- z,aM n1,aB] at hd;cases hd
    rw[aM n0,aB]
   .have hd0:upd H7 e0 (wW e0) d=none:=by rw[aM ne] at hd;exact hd
    refine kb (i+1) (.inr ⟨m,i,hm,rfl,before,.inl ⟨i11,p,hq,fun⟨r,qs,z⟩=>no ⟨r,qs,by rw[wd] at z;exact z⟩⟩⟩) d _ ((u5.trans (v6.trans s7)).trans ((aK.aJ he0).trans (aK.aJ hd0))) (by rw[aB,ei])
 .rintro σ' H4 ⟨u4,h4,ys,rs,o4,o5,yl,rl,i12,hr4,hrow,hy,rfl⟩;rw[qAa] at yl rl i12;have a2:A2 (fun x r=>AW P w K mg base fH H4 x m r) ys rs:=GL (by lia) fun j y r e1 e2=>by
   obtain⟨q,hq,ob⟩:=hy j y e1;rw[hq] at e2;cases e2;exact ob H4 fun b o _ e=>e
  obtain⟨os,e1,e2,e3,e4,e5⟩:=Og a2;rw[e1] at hr4;refine⟨_,rfl,_,rfl,fun c dc hc hdc ne=>Fy hc hdc ne hr4 (by lia) e3 e2 m1 m6 fun lc H6 hlc s6 hc6 hlc6=>⟨rfl,?_⟩⟩;exact k m rs hm i12 rl hrow c H6 ((u1.trans u4).trans s6) ⟨os,⟨dc,lc,hc6,hlc6,by lia,m1,m6,e3.same s6,e2⟩,e4,fun i o r a b=>(e5 i o r a b).same s6⟩
def OM(ns:List Int)(i:Int):Int:=match iT (ns.map V.int) i with
 | some (.int z)=>z
 | _=>0
def FJ(ns:List Int)(j:Nat):Int:=if 0<ns.length then (j:Int)*(j:Int)*7919+16807+OM ns ((j:Int)*7%((ns.map V.int).length:Int))%2147483629*69621 else (j:Int)*(j:Int)*7919+16807
def pD(ns:List Int)(j:Nat):Int:=if j<ns.length then OM ns (j:Int) else FJ ns j*48271%2147483647
def zL(K:qAb):Sp:=fun vs H Q _=>∃(a:Addr) (ns:List Int) (k:Nat),vs=[.ref a,.int (k:Int)]/\bA K H a (ns.map V.int)/\(∀i∈ns,Sm 1048577 i)/\k<=10000/\∀c:Int,Sm 1048577 c->c=pD ns k->Q (.int c) H
theorem DC:aN ["_law_script","_law_k","_law_number_here"] ["_law_script","_law_k"] (aF IU):=#[1,2]
theorem Kg(t:Tx K mg "_law_cell" IU ["_law_script","_law_k"] f fd)(T:#[4]):#[5] 1 "_law_cell" ["_law_script","_law_k"] (zL K) f fd:=by
 refine t.mX DC (by rintro _ _ _ _⟨a,ns,k,rfl,_⟩;rfl) fun _ _ _ _ H vs Q E hr h=>?_;obtain⟨a,ns,j,rfl,hq,hsm,hj,k⟩:=h;refine⟨_,(aE (bI (aL jB (pv 1) (aO aS #[0] T.cD bS (aA (pv 0) aC)) (aT _)) (aH (aU (bH bY (pv 0) (pv 1) #[6]))) aY)
  (aE (aX (i:=2) DC.nd rfl cO (aG bQ (aG d8 (aG d8 (pv 1) (pv 1)) aD) aD))
  (aE (bI (aL nR (aO aS #[0] T.cD bS (aA (pv 0) aC)) aD (aT _)) (aH (aX (i:=2) DC.nd rfl cO (aG bQ (pv 2) (aG d8 (aG bJ (bH bY (pv 0) (aG bJ (aG d8 (pv 1) aD) (aO aS #[0] T.cD bS (aA (pv 0) aC))) #[6]) aD) aD)))) aY)
  (aH (aU (aG bJ (aG d8 (pv 2) aD) aD)))))),?_⟩
 have hjj:(j:Int)*(j:Int)<=10000*10000:=Int.mul_le_mul (by lia) (by lia) (by lia) (by lia);have hj0:0<=(j:Int)*(j:Int):=qNf (by lia) (by lia);refine⟨_,rfl,_,rfl,a,_,rfl,.inl hq,_,_,rfl,rfl,_,rfl,b7 (fun h=>?_) (fun hge=>?_)⟩
 .have hlt:j<ns.length:=by
   have z:=of_decide_eq_true h;rw[qAa] at z;lia
  have hat:iT (ns.map V.int) (j:Int)=some (.int ns[j]):=bP (by rw[qAs,qAe hlt];rfl);exact⟨_,rfl,_,rfl,a,_,_,_,rfl,rfl,hq,hat,k _ (hsm _ (qDc hlt)) (by delta pD OM;rw[if_pos hlt,hat])⟩
 .have hge:¬j<ns.length:=fun z=>hge (decide_eq_true (by rw[qAa];lia));exists _,rfl,_,rfl,_,_,rfl,rfl,.inl ⟨by lia,by lia⟩,_,_,rfl,rfl,.inr ⟨by decide,by decide⟩,_,_,rfl,rfl;dsimp only;refine BU (fun σ2 H2=>H2=H/\∃z:Int,z=FJ ns j/\σ2=[some (.ref a),some (.int (j:Int)),some (.int z)]) ?_ fun tail=>?_
  .rintro σ2 H2 ⟨rfl,z,ez,rfl⟩;exact⟨_,rfl,_,_,rfl,rfl,.inr ⟨by decide,by decide⟩,_,_,rfl,rfl,(by show(0:Int)<2147483647;decide),k _ (Sm.of 31 (by have z1:=qCi (z*48271) (b:=2147483647) #[1];have z2:=qCa (z*48271) (b:=2147483647) #[1];have e:(2:Nat)^31=2147483648:=(by decide);rw[e];lia) #[1]) (by delta pD;rw[if_neg hge,ez])⟩
  .refine⟨_,rfl,a,_,rfl,.inl hq,_,_,rfl,rfl,_,rfl,b7 (fun h2=>?_) (fun h2=>tail _ _ ⟨rfl,_,(by delta FJ;rw[if_neg fun z=>h2 (decide_eq_true (by rw[qAa];lia))]),rfl⟩)⟩;have hpos:0<ns.length:=by
    have z:=of_decide_eq_true h2;rw[qAa] at z;lia
   have hlen:0<((ns.map V.int).length:Int):=by rw[qAa];lia
   obtain⟨x,hx,hxm⟩:=lR (xs:=ns.map V.int) (i:=(j:Int)*7%((ns.map V.int).length:Int)) (qCi _ (by lia)) (qCa _ hlen);obtain⟨z,_,rfl⟩:=List.mem_map.mp hxm;exists _,rfl,_,rfl,_,rfl,_,_,rfl,rfl,.inr ⟨by decide,by decide⟩,_,rfl,a,_,rfl,.inl hq,_,_,rfl,rfl,hlen,a,_,_,_,rfl,rfl,hq,hx,_,_,rfl,rfl,(by show(0:Int)<2147483629;decide),_,_,rfl,rfl,.inr ⟨by decide,by decide⟩,_,_,rfl,rfl;exact tail _ _ ⟨rfl,_,(by delta FJ OM;rw[if_pos hpos,hx]),rfl⟩
theorem abs_eq(i:Int):(if i<0 then -i else i)=(i.natAbs:Int):=by split <;> lia
def Oh:Sp:=fun vs H Q _=>∃c:Int,vs=[.int c]/\Sm 1048577 c/\∀n:Int,n.natAbs<10^30->Q (.int n) H
theorem Qv:aN ["_law_cell_here"] ["_law_cell_here"] (aF PU):=#[1,2]
theorem Oi(t:Tx K mg "_law_number" PU ["_law_cell_here"] f fd)(T:#[4]):#[5] 1 "_law_number" ["_law_cell_here"] Oh f fd:=by
 refine t.mX Qv (by rintro _ _ _ _⟨c,rfl,_⟩;rfl) fun _ _ _ _ H vs Q E hr h=>?_;obtain⟨c,rfl,hcs,k⟩:=h;have e30:(10:Nat)^30=1000000000000000000000000000000:=by decide
 refine⟨_,(aE (bI (aL bU (aG bJ (pv 0) aD) aD (aT _)) (aH (aU (aG fA (aG bJ (aG cN (pv 0) aD) aD) aD))) aY)
  (aH (aU (aG bQ (aG fA (aG bJ (aG d8 (aG cN (pv 0) aD) aD) (aG fA (aG d8 aD (aG Bt aD aD)) aD)) (aG Bt aD aD)) aD)))),?_⟩
 refine⟨_,rfl,_,_,rfl,rfl,(by show(0:Int)<2;decide),rfl,_,rfl,b7 (fun _=>?_) (fun _=>?_)⟩
 .refine⟨_,rfl,_,_,rfl,rfl,⟨by decide,by decide⟩,_,_,rfl,rfl,(by show(0:Int)<19;decide),_,_,rfl,rfl,k _ ?_⟩;rw[e30];lia
 .refine⟨_,rfl,_,_,rfl,rfl,⟨by decide,by decide⟩,_,_,rfl,rfl,.inr ⟨by decide,by decide⟩,_,_,rfl,rfl,⟨by decide,by decide,by decide⟩,_,_,rfl,rfl,.inl ⟨by decide,by decide⟩,?_⟩;have e12:(10:Int)^(12:Int).toNat=1000000000000:=by decide
  refine⟨_,_,rfl,rfl,_,_,rfl,rfl,(by show(0:Int)<2*10^(12:Int).toNat-1;rw[e12];decide),_,_,rfl,rfl,⟨by decide,by decide,by decide⟩,_,_,rfl,rfl,_,_,rfl,rfl,k _ ?_⟩;have z1:=qCi (c/2*1236067977499789805) (b:=1999999999999) #[1];have z2:=qCa (c/2*1236067977499789805) (b:=1999999999999) #[1];rw[e30,e12,show(2:Int)*1000000000000-1=1999999999999 from rfl];generalize c/2*1236067977499789805%1999999999999=u at z1 z2|-;lia
def lB(H:Hp)(p:Addr)(m:Nat)(r:R4):Prop:=∃(ln lp:Addr) (bs:List Addr),H p=some (.tup [.str (b9 r.k),.ref ln,.ref lp])/\H ln=some (.lst (r.ns.map V.int))/\H lp=some (.lst (bs.map V.ref))/\A2 (dR H) bs r.ps/\GoodR m r
theorem lB.same{H H':Hp}{p:Addr}{m:Nat}{r:R4}(h:lB H p m r)(s:aK H H'):lB H' p m r:=by
 obtain⟨ln,lp,bs,h1,h2,h3,h4,h5⟩:=h;exact⟨ln,lp,bs,s _ _ h1,s _ _ h2,s _ _ h3,h4.imp fun _ _ z=>z.keep s.t,h5⟩
def p5(m:Nat):Nat->Nat
 | 0=>0
 | i+1=>p5 m i+(m-1-i)
theorem zM:∀m:_root_.Fin 7,p5 m.1 m.1<=15:=by decide
theorem FK:∀(m:_root_.Fin 7) (i:_root_.Fin 7),i.1<=m.1->p5 m.1 i.1<=p5 m.1 m.1:=by decide
def nB(m i j:Nat)(ps:List P3):Prop:=(∀p∈ps,p.1<p.2.1/\p.2.1<m/\p.2.2.natAbs<10^30/\(p.1<i\/(p.1=i/\p.2.1<j)))/\kC ps/\ps.length<=p5 m i+(j-(i+1))
theorem nB.go{m i j:Nat}{ps:List P3}(h:nB m i j ps):nB m i (j+1) ps :=
 ⟨fun b hb=>let ⟨z1,z2,z3,z4⟩:=h.1 b hb;⟨z1,z2,z3,by lia⟩,h.2.1,by have:=h.2.2;lia⟩
theorem nB.up{m i j:Nat}{ps:List P3}(h:nB m i j ps)(hj:j<=m):nB m (i+1) (i+2) ps :=
 ⟨fun b hb=>let ⟨z1,z2,z3,z4⟩:=h.1 b hb;⟨z1,z2,z3,by lia⟩,h.2.1,by have:=h.2.2;show _<=p5 m i+(m-1-i)+_;lia⟩
theorem nB.add{m i j:Nat}{n:Int}{ps:List P3}(h:nB m i j ps)(hn:n.natAbs<10^30)(hj:i<j)(hm:j<m):nB m i (j+1) (ps++[(i,j,n)]):=by
 refine⟨fun c hc=>?_,?_,by rw[qAf];have:=h.2.2;show _+1<=_;lia⟩
 .rcases List.mem_append.mp hc with hc | hc
  .exact h.go.1 c hc
  .obtain rfl:=List.mem_singleton.mp hc;exact⟨hj,hm,hn,.inr ⟨rfl,by show j<j+1;lia⟩⟩
 .refine List.pairwise_append.mpr ⟨h.2.1,List.pairwise_singleton _ _,fun p hp q hq=>?_⟩;obtain rfl:=List.mem_singleton.mp hq;exact(h.1 p hp).2.2.2
theorem A2.GN{H:Hp}:∀{ys:List V}{ps:List P3},ys.length=ps.length->(∀(i:Nat) (y:V),ys[i]?=some y->∃b p,y = .ref b/\ps[i]?=some p/\dR H b p)->∃bs:List Addr,ys=bs.map V.ref/\A2 (dR H) bs ps
 | [],[],_,_=>⟨[],rfl,.nil⟩
 | y::ys,[],h,_=>by cases h
 | [],p::ps,h,_=>by cases h
 | y::ys,p::ps,h,k=>by
  obtain⟨b,q,rfl,e,r⟩:=k 0 y rfl;cases e;obtain⟨bs,e,a⟩:=A2.GN (ys:=ys) (ps:=ps) (by simpa using h) fun i y e=>k (i+1) y e;exact⟨b::bs,by rw[e];rfl,.cons r a⟩
theorem AX{m:Nat}{c:Int}(m6:m<=6):∃kd:Nat,c%7=(kd:Int)/\kd<7/\iT [V.int 0,V.int (m:Int),V.int 0,V.int ((m:Int)+2),V.int 0,V.int (m:Int),V.int (((2^m:Nat):Int)-1)] (c%7)=some (.int ((fR m kd:Nat):Int)) /\
  iT [V.str ("none":Str),V.str ("own":Str),V.str ("pairs":Str),V.str ("votes":Str),V.str ("match":Str),V.str ("net":Str),V.str ("table":Str)] (c%7)=some (.str (b9 kd)):=by
 have hpos:0<2^m:=qKa #[1];have e0:=qCi c (b:=7) #[1];have e1:=qCa c (b:=7) #[1];have e6:((2^m:Nat):Int)-1=((2^m-1:Nat):Int):=by lia
 rw[e6];have:c%7=((0:Nat):Int)\/c%7=((1:Nat):Int)\/c%7=((2:Nat):Int)\/c%7=((3:Nat):Int)\/c%7=((4:Nat):Int)\/c%7=((5:Nat):Int)\/c%7=((6:Nat):Int):=by lia
 rcases this with e | e | e | e | e | e | e
 .exact⟨0,e,by decide,by rw[e];exact bP rfl,by rw[e];exact bP rfl⟩
 .exact⟨1,e,by decide,by rw[e];exact bP rfl,by rw[e];exact bP rfl⟩
 .exact⟨2,e,by decide,by rw[e];exact bP rfl,by rw[e];exact bP rfl⟩
 .exact⟨3,e,by decide,by rw[e];exact bP rfl,by rw[e];exact bP rfl⟩
 .exact⟨4,e,by decide,by rw[e];exact bP rfl,by rw[e];exact bP rfl⟩
 .exact⟨5,e,by decide,by rw[e];exact bP rfl,by rw[e];exact bP rfl⟩
 .exact⟨6,e,by decide,by rw[e];exact bP rfl,by rw[e];exact bP rfl⟩
theorem DD{ys:List V}{Bd:Int->Prop}(h:∀(i:Nat) (y:V),ys[i]?=some y->∃n:Int,y = .int n/\Bd n):∃ns:List Int,ys=ns.map V.int/\ns.length=ys.length/\∀n∈ns,Bd n:=by
 induction ys with
 | nil=>exact⟨[],rfl,rfl,fun n hn=>by cases hn⟩
 | cons y r ih =>
  obtain⟨n,rfl,hn⟩:=h 0 y rfl;obtain⟨ns,e,l,k⟩:=ih fun i y e=>h (i+1) y e;exact⟨n::ns,by rw[e];rfl,by rw[qAn,l];rfl,fun z hz=>by rcases List.mem_cons.mp hz with rfl | hz;exact hn;exact k z hz⟩
def GO(K:qAb):Sp:=fun vs H Q _=>∃(a:Addr) (ns:List Int) (at_ m:Nat),vs=[.ref a,.int (at_:Int),.int (m:Int)]/\bA K H a (ns.map V.int)/\(∀i∈ns,Sm 1048577 i)/\at_<=1000/\1<=m/\m<=6/\∀(p:Addr) (r:R4) H',aK H H'->(∀H'',NK H H' H''->lB H'' p m r)->Q (.ref p) H'
theorem lC:aN ["_law_script","_law_at","_law_many","_law_cell_here","_law_size","_law_numbers","_law_pairs","_law_one","_law_other"] ["_law_script","_law_at","_law_many"] (aF IV):=#[1,2]
theorem Kh{f1 f2:Addr}{fd1 fd2:qBy}(t:Tx K mg "_law_rule" IV ["_law_script","_law_at","_law_many"] f fd)(T:#[4])(D_law_cell:#[5] 1 "_law_cell" ["_law_script","_law_k"] (zL K) f1 fd1)
  (D_law_number:#[5] 1 "_law_number" ["_law_cell_here"] Oh f2 fd2):#[5] 2 "_law_rule" ["_law_script","_law_at","_law_many"] (GO K) f fd:=by
 refine t.mX lC (by rintro _ _ _ _⟨a,ns,at_,m,rfl,_⟩;rfl) fun _ _ _ s H vs Q E hr h=>?_;obtain⟨a,sc,at_,m,rfl,ha,hsm,hat,m1,m6,k⟩:=h;have h64:2^m<=64:=qEj (n:=2) #[1] m6;have hpos:0<2^m:=qKa #[1];refine⟨_,(aE (aX (i:=3) lC.nd rfl cO (aG bJ (aG d8 (aG bJ (bN D_law_cell hr #[1] #[0] (aA (pv 0) (aA (pv 1) aC))) aD) aD) aD))
  (aE (aX (i:=4) lC.nd rfl #[3] (bH bY (bE (aA aD (aA (pv 2) (aA aD (aA (aG bQ (pv 2) aD) (aA aD (aA (pv 2) (aA (aG fA (aG Hv aD (pv 2)) aD) aC)))))))) (aG bJ (pv 3) aD) #[6]))
  (aE (sD (NB:=["_law_k","_law_at","_law_script"]) (pick:=[none,some 1,some 0]) (i:=5) lC.nd rfl #[3] #[0] (dJ #[7] (by exact(And.intro rfl (And.intro rfl trivial))) rfl #[2] #[2] #[0] #[0]) rfl
    (jH #[0] T.eV (aA (pv 4) aC)) (fun _ _ _=>bC (i:=0) #[8,["_law_k","_law_at","_law_script"]] rfl cO)
    (fun _ _ _=>cV) (fun _ _ _=>(bN D_law_number hr #[1] #[0] (aA (bN D_law_cell hr #[1] #[0] (aA (pv 2) (aA (aG bQ (aG bQ (pv 1) aD) (pv 0)) aC))) aC))))
  (aE (aX (i:=6) lC.nd rfl #[3] (bE aC))
  (aE (bI (PW.pt (pw_or (aL bU (aG bJ (pv 3) aD) aD (aT _)) (pw_or (aL bU (aG bJ (pv 3) aD) aD (aT _)) (pw_or1 (aL bU (aG bJ (pv 3) aD) aD (aT _)))))) (aH (hX #[9] rfl (jH #[0] T.eV (aA (pv 2) aC)) (bC (i:=7) lC.nd rfl #[3])
    (aH (hX #[9] rfl (lL #[0] T.eV (aA (aG bQ (pv 7) aD) (aA (pv 2) aC))) (bC (i:=8) lC.nd rfl #[3])
     (aH (bI (aL bU (aG vK (aG Hw (aG cN (pv 3) aD) (aG bQ (pv 7) (aG cN (aG d8 (pv 8) (aG fA (pv 8) aD)) aD))) aD) aD (aT _)) (aH (cA (dP qEm qEi qEh fU (pv 6) (aA (eR (aA (pv 7) (aA (pv 8) (aA (bN D_law_number hr #[1] #[0] (aA (bN D_law_cell hr #[1] #[0] (aA (pv 0) (aA (aG bQ (aG bQ (aG bQ (pv 1) aD) (pv 4)) (aO aS #[0] T.cD bS (aA (pv 6) aC))) aC))) aC)) aC)))) aC)))) aY)))))) aY)
  (aE (bI (aL bU (aG bJ (pv 3) aD) aD (aT _)) (aH (j8 (aO (Af rfl) #[0] T.uK HU (aA aD (aA (aO nS #[0] T.oU vY (aA (bH bY (pv 5) aD #[6]) aC)) aC))) (nP (pv 5) aD set_list))) aY)
  (aE (bI (aL bU (aG bJ (pv 3) aD) aD (aT _)) (aE (sD (NB:=["_law_number_here"]) (pick:=[none]) (i:=5) lC.nd rfl #[3] #[0] (dJ #[7] (by exact trivial) rfl #[2] #[2] #[0] #[0]) rfl
    (cU (pv 5)) (fun _ _ _=>bC (i:=0) #[8,["_law_number_here"]] rfl cO)
    (fun _ _ _=>cV) (fun _ _ _=>(aO nS #[0] T.oU vY (aA (pv 0) aC))))
   (aH (sD (NB:=["_law_one","_law_other","_law_number_here"]) (pick:=[none,none,none]) (i:=6) lC.nd rfl #[3] #[0] (dJ #[7] (by exact trivial) rfl #[2] #[2] #[0] #[0]) rfl
    (cU (pv 6)) (fun _ _ _=>(show PG _ _ (Ek K 3 (jY (a9 0) (jY (a9 1) (jY (a9 2) Ej)))) from j5 rfl (cC (bC (i:=0) #[8,["_law_one","_law_other","_law_number_here"]] rfl cO) (cC (bC (i:=1) #[8,["_law_one","_law_other","_law_number_here"]] rfl cO) (cC (bC (i:=2) #[8,["_law_one","_law_other","_law_number_here"]] rfl cO) hW)))))
    (fun _ _ _=>cV) (fun _ _ _=>(eR (aA (pv 0) (aA (pv 1) (aA (aO nS #[0] T.oU vY (aA (pv 2) aC)) aC)))))))) aY)
  (aH (aU (eR (aA (bH bY (bE (aA aI (aA aI (aA aI (aA aI (aA aI (aA aI (aA aI aC)))))))) (aG bJ (pv 3) aD) #[6]) (aA (pv 5) (aA (pv 6) aC))))))))))))),?_⟩
 refine⟨_,rfl,_,rfl,a,sc,at_,rfl,ha,hsm,by lia,fun c0 _ _=>⟨_,_,rfl,rfl,(by show(0:Int)<1000003;decide),_,_,rfl,rfl,.inr ⟨by decide,by decide⟩,_,_,rfl,rfl,(by show(0:Int)<2147483629;decide),?_⟩⟩;obtain⟨c,hc,c0',c1'⟩:∃c:Int,c0%1000003*48271%2147483629=c/\0<=c/\c<2147483629:=⟨_,rfl,qCi _ #[1],qCa _ #[1]⟩;show a9 3 (V.int (c0%1000003*48271%2147483629)) _ _ _;rw[hc];obtain⟨kd,ekd,k7,eat,ehd⟩:=AX (c:=c) m6;have sh:(1:Int)*2^(m:Int).toNat=((2^m:Nat):Int):=by rw[qEn,Int.one_mul];push_cast;rfl
 have z63:fR m kd<=63:=by delta fR;split <;> lia
 obtain⟨z,hz⟩:∃z,fR m kd=z:=⟨_,rfl⟩;rw[hz] at eat z63;refine⟨_,rfl,_,rfl,_,_,rfl,rfl,_,rfl,_,rfl,_,_,rfl,rfl,⟨(by show 0<=(m:Int);lia),(by show(m:Int)<=1000000;lia),by decide⟩,_,_,rfl,rfl,by show 7<=qAg;decide,fun lz hlz=>?_⟩;have u1:=aK.aJ (o:=.lst [V.int 0,V.int (m:Int),V.int 0,V.int ((m:Int)+2),V.int 0,V.int (m:Int),V.int (1*2^(m:Int).toNat-1)]) hlz;have hz1:upd H lz (.lst [V.int 0,V.int (m:Int),V.int 0,V.int ((m:Int)+2),V.int 0,V.int (m:Int),V.int (1*2^(m:Int).toNat-1)]) lz=some (.lst [V.int 0,V.int (m:Int),V.int 0,V.int ((m:Int)+2),V.int 0,V.int (m:Int),V.int (1*2^(m:Int).toNat-1)]):=aB;generalize upd H lz (.lst [V.int 0,V.int (m:Int),V.int 0,V.int ((m:Int)+2),V.int 0,V.int (m:Int),V.int (1*2^(m:Int).toNat-1)])=H1 at u1 hz1|-;rw[sh] at hz1;exists _,rfl,_,_,rfl,rfl,(by show(0:Int)<7;decide),lz,_,_,_,rfl,rfl,bA.of hz1,eat;dsimp only[a9];refine⟨_,rfl,(z:Int),rfl,by lia,by lia,?_⟩;refine Ao (n:=z) (fun _ y _=>∃n:Int,y = .int n/\n.natAbs<10^30) (fun i y G G' _ h=>h) (qCu (bL (by lia))) (fun i H3 kk kk0 s3 hi h1=>?_) fun ln ys H2 hln s2 hy hR hd2=>?_
 .exact⟨_,rfl,_,rfl,_,_,rfl,rfl,_,rfl,_,_,rfl,rfl,a,sc,at_+1+i,(by show [V.ref a,V.int ((at_:Int)+1+(0+(i:Int)))]=_;rw[qJl];push_cast;rfl),(u1.trans s3).seq ha,hsm,by lia,fun c hcs _=>⟨c,rfl,hcs,fun n hn=>h1 _ _ (.refl _) ⟨n,rfl,hn⟩⟩⟩
 obtain⟨ns,rfl,nl,nb⟩:=DD hR;rw[hy] at nl;have u2:=u1.trans s2;have fln:=u1.free hln;clear s2 hz1 u1 hlz hR hy;refine⟨by show 0<=qAg;decide,fun lp hlp=>?_⟩;have u3:=u2.trans (aK.aJ (o:=.lst []) hlp);have hn3:=aK.aJ (o:=.lst []) hlp _ _ hd2;have hp3:upd H2 lp (.lst []) lp=some (.lst ((([]:List Addr)).map V.ref)):=aB;have nnp:ln≠lp:=bD hd2 hlp;have flp:=u2.free hlp;generalize upd H2 lp (.lst [])=H3 at u3 hn3 hp3|-;dsimp only[a9];refine bR (σ':=[some (.ref a),some (.int (at_:Int)),some (.int (m:Int)),some (.int c),some (.int (z:Int)),some (.ref ln),some (.ref lp),none,none]) rfl ?_;refine dG (fun σ2 H4=>aK H H4/\H4 ln=some (.lst (ns.map V.int))/\∃(bs:List Addr) (ps:List P3) (o8 o9:Option V),H4 lp=some (.lst (bs.map V.ref))/\A2 (dR H4) bs ps/\nB m m (m+1) ps/\(kd≠2->kd≠4->kd≠5->ps=[])/\σ2=[some (.ref a),some (.int (at_:Int)),some (.int (m:Int)),some (.int c),some (.int (z:Int)),some (.ref ln),some (.ref lp),o8,o9]) (fun tail=>?_) ?_
 .refine(fun(key:kd=2\/kd=4\/kd=5->_)=>(⟨_,rfl,_,_,rfl,rfl,(by show(0:Int)<7;decide),rfl,_,rfl,b7 (fun h=>dC (key (by have e:=V.int.inj (of_decide_eq_true h);lia))) (fun h2=>⟨_,rfl,_,_,rfl,rfl,(by show(0:Int)<7;decide),rfl,_,rfl,b7 (fun h=>dC (key (by have e:=V.int.inj (of_decide_eq_true h);lia))) (fun h4=>⟨_,rfl,_,_,rfl,rfl,(by show(0:Int)<7;decide),rfl,_,rfl,b7 (fun h=>key (by have e:=V.int.inj (of_decide_eq_true h);lia)) (fun h5=>tail _ _ ⟨u3,hn3,[],[],_,_,hp3,.nil,⟨(fun b hb=>by cases hb),.nil,qBn _⟩,fun _ _ _=>rfl,rfl⟩)⟩)⟩)⟩)) ?_
  .intro hk;refine⟨_,rfl,(m:Int),rfl,by lia,by lia,?_⟩;refine gQ (n:=m) (fun i σ' H'=>aK H H'/\H' ln=some (.lst (ns.map V.int))/\∃(bs:List Addr) (ps:List P3) (o8 o9:Option V),H' lp=some (.lst (bs.map V.ref))/\A2 (dR H') bs ps/\nB m i (i+1) ps/\σ'=[some (.ref a),some (.int (at_:Int)),some (.int (m:Int)),some (.int c),some (.int (z:Int)),some (.ref ln),some (.ref lp),o8,o9]) ⟨u3,hn3,[],[],_,_,hp3,.nil,⟨(fun b hb=>by cases hb),.nil,qBn _⟩,rfl⟩ ?_ ?_
   .rintro i σ' H4 hi ⟨u4,hn4,bs,ps,o8,o9,hp4,a4,q4,rfl⟩;rw[qJl (i:Int)];refine⟨_,rfl,_,_,rfl,rfl,_,rfl,(i:Int)+1,(m:Int),rfl,⟨by lia,by lia,by lia,by lia⟩,?_⟩;refine gQ (lo:=(i:Int)+1) (n:=((m:Int)-((i:Int)+1)).toNat) (fun j σ' H'=>aK H H'/\H' ln=some (.lst (ns.map V.int))/\∃(bs:List Addr) (ps:List P3) (o9:Option V),H' lp=some (.lst (bs.map V.ref))/\A2 (dR H') bs ps/\nB m i (i+1+j) ps/\σ'=[some (.ref a),some (.int (at_:Int)),some (.int (m:Int)),some (.int c),some (.int (z:Int)),some (.ref ln),some (.ref lp),some (.int (i:Int)),o9]) ⟨u4,hn4,bs,ps,_,hp4,a4,q4,rfl⟩ ?_ ?_
    .rintro j σ' H5 hj ⟨u5,hn5,bs,ps,o9,hp5,a5,q5,rfl⟩;obtain⟨o,ho,hio,hom,eo⟩:∃o:Nat,(i:Int)+1+(j:Int)=(o:Int)/\i<o/\o<m/\i+1+j=o:=⟨i+1+j,by lia,by lia,by lia,rfl⟩;show a9 8 (V.int ((i:Int)+1+(j:Int))) _ _ _;rw[ho];rw[eo] at q5;have hbl:=q5.2.2;have al:=a5.len;have t1:p5 m m<=15:=zM ⟨m,by lia⟩;have t2:p5 m i<=p5 m m:=FK ⟨m,by lia⟩ ⟨i,by lia⟩ (by show i<=m;lia);have b1:0<=(o:Int)*((o:Int)-1):=qNf (by lia) (by lia);have b2:0<=(o:Int)*((o:Int)-1)/2:=Int.ediv_nonneg b1 #[1];refine⟨_,rfl,_,_,rfl,rfl,⟨by decide,by decide⟩,_,rfl,_,rfl,_,rfl,_,_,rfl,rfl,_,_,rfl,rfl,.inl ⟨by lia,by lia⟩,_,_,rfl,rfl,⟨by decide,by decide⟩,_,_,rfl,rfl,_,_,rfl,rfl,(by show 0<=(i:Int)+(o:Int)*((o:Int)-1)/2;lia),_,_,rfl,rfl,rfl,_,rfl,b7 (fun _=>?_) (fun _=>⟨u5,hn5,bs,ps,_,hp5,a5,(by rw[show i+1+(j+1)=o+1 by lia];exact q5.go),rfl⟩)⟩;refine⟨_,rfl,.inl ⟨rfl,_,bA.of hp5⟩,_,rfl,_,rfl,_,rfl,_,rfl,_,_,rfl,rfl,_,rfl,_,_,rfl,rfl,_,rfl,lp,_,rfl,.inl (bA.of hp5),_,_,rfl,rfl,a,sc,at_+1+z+bs.length,(by show [V.ref a,V.int ((at_:Int)+1+(z:Int)+((bs.map V.ref).length:Int))]=_;rw[qAa];push_cast;rfl),u5.seq ha,hsm,by lia,fun cc hcc _=>⟨cc,rfl,hcc,fun n hn=>?_⟩⟩;refine⟨Bc,fun p hp=>?_⟩;have v6:=aK.aJ (o:=.tup [V.int (i:Int),V.int (o:Int),V.int n]) hp;have hp6:upd H5 p (.tup [V.int (i:Int),V.int (o:Int),V.int n]) p=some (.tup [V.int (i:Int),V.int (o:Int),V.int n]):=aB;generalize upd H5 p (.tup [V.int (i:Int),V.int (o:Int),V.int n])=H6 at v6 hp6|-;have hl6:=v6 _ _ hp5;refine⟨lp,_,_,rfl,rfl,hl6,by rw[qAa];exact bL (by lia),?_⟩;have kt:fI H6 (upd H6 lp (.lst (bs.map V.ref++[V.ref p]))):=fun b us e=>by
      rw[aM fun z=>by rw[z,hl6] at e;cases e];exact e
     refine⟨(u5.trans v6).upd_ne' flp,?_,bs++[p],ps++[(i,o,n)],_,?_,?_,?_,rfl⟩
     .rw[aM nnp];exact v6 _ _ hn5
     .rw[aB,qCt];rfl
     .exact A2.snoc (a5.imp fun _ _ z=>(z.keep v6.t).keep kt) (dR.keep (p:=(i,o,n)) hp6 kt)
     .rw[show i+1+(j+1)=o+1 by lia];exact q5.add hn hio hom
    .rintro σ' H5 ⟨u5,hn5,bs,ps,o9,hp5,a5,q5,rfl⟩;exact⟨u5,hn5,bs,ps,_,_,hp5,a5,q5.up (by lia),rfl⟩
   .rintro σ' H5 ⟨u5,hn5,bs,ps,o8,o9,hp5,a5,q5,rfl⟩;exact tail _ _ ⟨u5,hn5,bs,ps,_,_,hp5,a5,q5,(fun n2 n4 n5=>by lia),rfl⟩
 rintro σ2 H4 ⟨u4,hn4,bs,ps,o8,o9,hp4,a4,q4,pe4,rfl⟩;have p15:ps.length<=15:=by
  have hl:=q4.2.2;have t1:p5 m m<=15:=zM ⟨m,by lia⟩;lia
 refine dG (fun σ2 H5=>aK H H5/\∃ns':List Int,H5 ln=some (.lst (ns'.map V.int))/\ns'.length=z/\(∀n∈ns',n.natAbs<10^30)/\(kd=3->1<=ns'.getD 0 0)/\H5 lp=some (.lst (bs.map V.ref))/\A2 (dR H5) bs ps/\σ2=[some (.ref a),some (.int (at_:Int)),some (.int (m:Int)),some (.int c),some (.int (z:Int)),some (.ref ln),some (.ref lp),o8,o9]) (fun tail=>?_) ?_
 .refine⟨_,rfl,_,_,rfl,rfl,(by show(0:Int)<7;decide),rfl,_,rfl,b7 (fun h=>?_) (fun h=>tail _ _ ⟨u4,ns,hn4,nl,nb,(fun e=>absurd ?_ h),hp4,a4,rfl⟩)⟩
  .have e3:c%7=3:=V.int.inj (of_decide_eq_true h);have k3:kd=3:=by lia
   have z3:z=m+2:=by rw[<- hz,k3];rfl
   have h0:0<ns.length:=by lia
   have hat0:iT (ns.map V.int) 0=some (.int (ns.getD 0 0)):=xI (j:=0) h0;have hix0:Bf (ns.map V.int).length 0=some 0:=by
    delta Bf;rw[qAa,if_pos #[1],if_pos (by lia)];rfl
   have hm0:(ns.getD 0 0)∈ns:=by
    rw[qBg,qAe h0];exact qDc h0
   have hb0:=nb _ hm0;exists _,rfl,ln,_,_,_,rfl,rfl,bA.of hn4,hat0,_,rfl,_,_,rfl;rw[abs_eq];exists _,rfl,ln,_,_,0,rfl,rfl,hn4,hix0;have p30:(1:Nat)<10^30:=by decide
   obtain⟨w,hw,w1,w2⟩:∃w:Int,(if ((ns.getD 0 0).natAbs:Int)>1 then ((ns.getD 0 0).natAbs:Int) else 1)=w/\1<=w/\w.natAbs<10^30:=⟨_,rfl,by split <;> lia,by split;rw[qJe];exact hb0;exact p30⟩;refine tail _ _ ⟨u4.upd_ne' fln,ns.set 0 w,?_,by rw[qHz];exact nl,(fun n hn=>?_),(fun _=>?_),?_,a4.imp fun b q r=>?_,rfl⟩
   .rw[aB];exact congrArg (fun x=>some (HO.lst x)) (by rw[<- hw,qLe])
   .rcases qKg hn with y | y
    .exact nb n y
    .rw[y];exact w2
   .rw[qBg,qFw h0];exact w1
   .rw[aM nnp.symm];exact hp4
   .have r:H4 b=some _:=r;show upd H4 ln _ b=some _;rw[aM fun y=>by rw[y,hn4] at r;cases r];exact r
  .show decide (V.int (c%7)=V.int 3)=true;rw[ekd,e];rfl
 rintro σ2 H5 ⟨u5,ns',hn5,nl5,nb5,q15,hp5,a5,rfl⟩;refine dG (fun σ2 H6=>aK H H6/\∃(ln' lp':Addr) (ns2:List Int) (bs2:List Addr) (ps2:List P3),H ln'=none/\H lp'=none/\H6 ln'=some (.lst (ns2.map V.int))/\ns2.length=z/\(∀n∈ns2,n.natAbs<10^30)/\(kd=3->1<=ns2.getD 0 0)/\H6 lp'=some (.lst (bs2.map V.ref))/\A2 (dR H6) bs2 ps2/\kC ps2/\(∀p∈ps2,p.1<p.2.1/\p.2.1<m/\p.2.2.natAbs<10^30)/\ps2.length<=15/\(kd≠2->kd≠4->kd≠5->ps2=[])/\(kd=5->(∀n∈ns2,0<=n)/\∀p∈ps2,0<=p.2.2)/\σ2=[some (.ref a),some (.int (at_:Int)),some (.int (m:Int)),some (.int c),some (.int (z:Int)),some (.ref ln'),some (.ref lp'),o8,o9]) (fun tail=>?_) ?_
 .refine⟨_,rfl,_,_,rfl,rfl,(by show(0:Int)<7;decide),rfl,_,rfl,b7 (fun h=>?_) (fun h=>tail _ _ ⟨u5,ln,lp,ns',bs,ps,fln,flp,hn5,nl5,nb5,q15,hp5,a5,q4.2.1,(fun p hp=>let ⟨z1,z2,z3,_⟩:=q4.1 p hp;⟨z1,z2,z3⟩),p15,pe4,(fun e=>absurd ?_ h),rfl⟩)⟩
  .have e5:c%7=5:=V.int.inj (of_decide_eq_true h);have k5:kd=5:=by lia
   exists _,rfl,ln,rfl,⟨_,bA.of hn5⟩;refine eG (xs:=ns'.map V.int) (fun _ x=>match x with | .int i=>some (.int (i.natAbs:Int)) | _=>none) (bA.of hn5) (by rw[qAa];exact qCu (bL (by lia))) (fun i x H7 kk kk0 s7 hx g1 g2=>?_) fun ln' H7 hln' s7 hd=>?_
   .obtain⟨n,hm,rfl⟩:=List.mem_map.mp (qAp hx);exists _,rfl,n,rfl;rw[abs_eq];exact g1 _ rfl _ (.refl _)
   have hd7:H7 ln'=some (.lst ((ns'.map fun i=>(i.natAbs:Int)).map V.int)):=by
    rw[hd,eJ,qDt,qCe];show some (HO.lst (ns'.filterMap fun i=>some (V.int (i.natAbs:Int))))=_;rw[qCz];rfl
   have u7:=u5.trans s7;have fln7:=u5.free hln';have hp7:=s7 _ _ hp5;have a7:A2 (dR H7) bs ps:=a5.imp fun _ _ z=>z.keep s7.t;clear hd;dsimp only;exists _,rfl,lp,rfl,⟨_,bA.of hp7⟩;refine wF (xs:=bs.map V.ref) (fun σ'=>∃o0 o1 o2:Option V,σ'=[o0,o1,o2]) (fun i y H'=>∃b p,y = .ref b/\(ps.map fun p:P3=>((p.1,p.2.1,(p.2.2.natAbs:Int)):P3))[i]?=some p/\dR H' b p) (by rintro i y G G' s ⟨b,p,e,e2,r⟩;exact ⟨b,p,e,e2,r.keep s⟩) ⟨_,_,_,rfl⟩ (bA.of hp7) (by rw[qAa,a7.len];exact qCu (bL (by lia))) (fun i x σ1 H8 kk kk0 hσ s8 hx g1=>?_) fun lp' ys H8 hlp' s8 hy hR hd8=>?_
   .obtain⟨o0,o1,o2,rfl⟩:=hσ;rw[qAs] at hx;cases e:bs[i]? with
    | none=>rw[e] at hx;cases hx
    | some bb =>
     rw[e] at hx;cases hx;obtain⟨q,hq,r⟩:=a7.JH i bb e;exists bb,_,rfl,eQ.of (s8 _ _ r),rfl,_,_,rfl,_,_,rfl,_,_,rfl,rfl;exists _,rfl,_,rfl,_,rfl,_,rfl;rw[abs_eq];refine⟨Bc,fun p hp=>g1 _ _ _ ⟨_,_,_,rfl⟩ (.aJ hp) ⟨p,(q.1,q.2.1,(q.2.2.natAbs:Int)),rfl,by rw[qAs,hq];rfl,aB⟩⟩
   rw[qAa,a7.len] at hy;obtain⟨bs2,rfl,a8⟩:=A2.GN (by rw[qAa];exact hy) hR;have u8:=u7.trans s8;refine tail _ _ ⟨u8,ln',lp',_,bs2,_,fln7,u7.free hlp',s8 _ _ hd7,by rw[qAa];exact nl5,(fun n hn=>?_),(fun e=>by lia),hd8,a8,?_,(fun p hp=>?_),by rw[qAa];exact p15,(fun _ _ n5=>absurd k5 n5),(fun _=>⟨fun n hn=>?_,fun p hp=>?_⟩),rfl⟩
   .obtain⟨n',hm,rfl⟩:=List.mem_map.mp hn;rw[qJe];exact nb5 n' hm
   .exact List.pairwise_map.mpr (q4.2.1.imp fun {p q} z=>z)
   .obtain⟨p',hm,rfl⟩:=List.mem_map.mp hp;obtain⟨z1,z2,z3,_⟩:=q4.1 p' hm;exact⟨z1,z2,by show((p'.2.2.natAbs:Int)).natAbs<_;rw[qJe];exact z3⟩
   .obtain⟨n',hm,rfl⟩:=List.mem_map.mp hn;exact qDu _
   .obtain⟨p',hm,rfl⟩:=List.mem_map.mp hp;exact qDu _
  .show decide (V.int (c%7)=V.int 5)=true;rw[ekd,e];rfl
 rintro σ2 H6 ⟨u6,ln',lp',ns2,bs2,ps2,fl',fp',hn6,nl6,nb6,q16,hp6,a6,srt6,pb6,pl6,pe6,n06,rfl⟩;refine⟨by show 7<=qAg;decide,fun lz hlz=>⟨_,rfl,_,_,rfl,rfl,(by show(0:Int)<7;decide),lz,_,_,_,rfl,rfl,bA.of aB,ehd,?_⟩⟩;have u7:=u6.trans (aK.aJ (o:=.lst [V.str ("none":Str),V.str ("own":Str),V.str ("pairs":Str),V.str ("votes":Str),V.str ("match":Str),V.str ("net":Str),V.str ("table":Str)]) hlz);have s67:=aK.aJ (o:=.lst [V.str ("none":Str),V.str ("own":Str),V.str ("pairs":Str),V.str ("votes":Str),V.str ("match":Str),V.str ("net":Str),V.str ("table":Str)]) hlz;generalize upd H6 lz (.lst [V.str ("none":Str),V.str ("own":Str),V.str ("pairs":Str),V.str ("votes":Str),V.str ("match":Str),V.str ("net":Str),V.str ("table":Str)])=H7 at u7 s67|-;refine⟨_,rfl,_,rfl,Bc,fun p hp=>?_⟩;have v8:=aK.aJ (o:=.tup [V.str (b9 kd),V.ref ln',V.ref lp']) hp;refine k p ⟨kd,ns2,ps2⟩ _ (u7.trans v8) fun H'' nk=>?_;have s68:=s67.trans v8;refine⟨ln',lp',bs2,nk _ _ (.inl (u7.free hp)) aB,nk _ _ (.inl fl') (s68 _ _ hn6),nk _ _ (.inl fp') (s68 _ _ hp6),a6.imp fun b q r=>nk _ _ (.inr ⟨_,rfl⟩) (s68 _ _ r),⟨k7,by rw[nl6,<- hz],nb6,srt6,pb6,pl6,pe6,q16,n06⟩⟩
theorem uX{y:Str}{c:Nat}:∀(ps:List Str),c∈(Str.join y ps).cps.toList->c∈y.cps.toList\/∃p∈ps,c∈p.cps.toList
 | [],h=>by cases h
 | [p],h=>.inr ⟨p,qAr,h⟩
 | p::q::t,h=>by
  have h:c∈(p++y++Str.join y (q::t)).cps.toList:=h;rw[Str.cps_append,Str.cps_append,qCg,qCg,qJw,qJw] at h;rcases h with (h | h) | h
  .exact .inr ⟨p,qAr,h⟩
  .exact .inl h
  .rcases uX (q::t) h with h | ⟨s,hs,h⟩
   .exact .inl h
   .exact .inr ⟨s,qAq _ hs,h⟩
theorem dA:∀{k:Nat},k<7->32∉(b9 k).cps.toList/\59∉(b9 k).cps.toList/\(b9 k).length<=5
 | 0,_=>by decide +kernel
 | 1,_=>by decide +kernel
 | 2,_=>by decide +kernel
 | 3,_=>by decide +kernel
 | 4,_=>by decide +kernel
 | 5,_=>by decide +kernel
 | 6,_=>by decide +kernel
 | k+7,h=>absurd h (by lia)
theorem FL{c:Nat}(hc:c≠45/\(c<48\/58<c)){p:P3}(h1:p.1<6)(h2:p.2.1<6):c∉(pW p).cps.toList:=by
 rw[c9 (by lia) (by lia)];intro h;rcases List.mem_append.mp h with h | h
 .simp only[qCk,qBs,or_false] at h;lia
 .exact fD ⟨hc.1,by lia⟩ _ h
theorem pE{c:Nat}(hc:c≠45/\(c<48\/58<c)){m:Nat}{r:R4}{qs:List P3}(g:GoodR m r)(m6:m<=6)(pm:qs.Perm r.ps):∀s∈r.ns.map nW++qs.map pW,c∉s.cps.toList:=fun s hs=>by
 rcases List.mem_append.mp hs with h | h
 .obtain⟨n,_,rfl⟩:=List.mem_map.mp h;exact fD ⟨hc.1,by lia⟩ n
 .obtain⟨p,hp,rfl⟩:=List.mem_map.mp h;obtain⟨a,b,_⟩:=g.p6 m6 p (pm.mem_iff.mp hp);exact FL hc a b
theorem pF{m:Nat}{r:R4}{qs:List P3}(g:GoodR m r)(m6:m<=6)(pm:qs.Perm r.ps):Txt.split (zH r qs) (" ":Str)=b9 r.k::(r.ns.map nW++qs.map pW):=by
 refine oJ (c:=32) (r:=[]) rfl #[2] (fun z=>nomatch z) fun s hs=>?_;rcases List.mem_cons.mp hs with rfl | hs
 .exact(dA g.k7).1
 .exact pE #[1] g m6 pm s hs
theorem FN{m:Nat}{r:R4}{qs:List P3}(g:GoodR m r)(m6:m<=6)(pm:qs.Perm r.ps):59∉(zH r qs).cps.toList:=by
 intro h;delta zH sY at h;rw[show Txt.join (" ":Str) (b9 r.k::(r.ns.map nW++qs.map pW))=Str.join (" ":Str) _ from StrLaws.glued_eq_join _ _] at h;rcases uX _ h with h | ⟨s,hs,h⟩
 .exact absurd h #[2]
 .rcases List.mem_cons.mp hs with rfl | hs
  .exact(dA g.k7).2.1 h
  .exact pE #[1] g m6 pm s hs h
theorem DE{m:Nat}{r:R4}{qs:List P3}(g:GoodR m r)(m6:m<=6)(pm:qs.Perm r.ps):(zH r qs).length<=20000:=by
 delta zH sY;rw[show Txt.join (" ":Str) (b9 r.k::(r.ns.map nW++qs.map pW))=Str.join (" ":Str) _ from StrLaws.glued_eq_join _ _];refine qAk (StrLaws.join_length_le _ _) ?_;have h0:=(dA g.k7).2.2;have hs:∀s∈r.ns.map nW++qs.map pW,s.length<=185:=fun s hs=>by
  rcases List.mem_append.mp hs with h | h
  .exact mE g.Dt s h
  .exact mF (fun q hq=>g.FA m6 q (pm.mem_iff.mp hq)) s h
 have a:=jO hs;have n63:=g.Ds m6;have p15:=g.pl;have ql:=pm.length_eq;have e:(" ":Str).length=1:=rfl;rw[qAf,qAa,qAa] at a;rw[qBo,qGl,qAn,qAf,qAa,qAa,e];lia
theorem uY(xs:List V)(y:V):iT (xs++[y]) (-1)=some y:=by
 delta iT Bf;rw[qAf,if_neg #[1],if_pos (by show -(((xs.length+1:Nat)):Int)<=-1;lia)];show(xs++[y])[(-1+((xs.length+1:Nat):Int)).toNat]?=_;rw[show(-1+((xs.length+1:Nat):Int)).toNat=xs.length by lia,qAz (qAl _),qHc];rfl
abbrev Ki:=Addr×R4
def cI(rows:List Ki):List V:=rows.map fun r=>V.ref r.1
def pG(H:Hp)(m:Nat)(rows:List Ki):Prop:=∀r∈rows,lB H r.1 m r.2
theorem pG.same{H H':Hp}{m:Nat}{rows:List Ki}(h:pG H m rows)(s:aK H H'):pG H' m rows:=fun r hr=>(h r hr).same s
def xJ(l:Addr)(H:Hp)(p:Addr)(m:Nat)(r:R4):Prop:=∀H'',(∀b o,b≠l->H b=some o->H'' b=some o)->lB H'' p m r
theorem xJ.keep{l:Addr}{H H':Hp}{p:Addr}{m:Nat}{r:R4}(h:xJ l H p m r)(s:∀b o,b≠l->H b=some o->H' b=some o):xJ l H' p m r:=fun H'' k=>h H'' fun b o n e=>k b o n (s b o n e)
def GP(K:qAb):Sp:=fun vs H Q _=>∃(a:Addr) (ns:List Int) (m:Nat),vs=[.ref a,.int (m:Int)]/\bA K H a (ns.map V.int)/\(∀i∈ns,Sm 1048577 i)/\ns.length<=63/\1<=m/\m<=6/\∀(l:Addr) (rows:List Ki) H',H l=none->aK H H'->H' l=some (.lst (cI rows))->rows.length<=12->pG H' m rows->Q (.ref l) H'
theorem zN:aN ["_law_script","_law_many","_law_some","_law_at"] ["_law_script","_law_many"] (aF IW):=#[1,2]
theorem Kj{f1:Addr}{fd1:qBy}(t:Tx K mg "_law_rules" IW ["_law_script","_law_many"] f fd)(T:#[4])(D_law_rule:#[5] 2 "_law_rule" ["_law_script","_law_at","_law_many"] (GO K) f1 fd1):
  #[5] 3 "_law_rules" ["_law_script","_law_many"] (GP K) f fd:=by
 refine t.mX zN (by rintro _ _ _ _⟨a,ns,m,rfl,_⟩;rfl) fun _ _ _ _ H vs Q E hr h=>?_;obtain⟨a,ns,m,rfl,ha,hsm,hns,m1,m6,k⟩:=h;refine⟨_,(aE (aX (i:=2) zN.nd rfl cO (bE aC))
  (aE (aX (i:=3) zN.nd rfl cO aD)
  (aE (Br #[9] (PW.pt (pw_and (aL jB (pv 3) (aO (Ah rfl) #[0] T.uJ HS (aA (aO aS #[0] T.cD bS (aA (pv 0) aC)) (aA aD aC))) (aT _)) (pw_and1 (aL jB (aO aS #[0] T.cD bS (aA (pv 2) aC)) aD (aT _)))))
   (aE (cA (dP qEm qEi qEh fU (pv 2) (aA (bN D_law_rule hr #[1] #[0] (aA (pv 0) (aA (pv 3) (aA (pv 1) aC)))) aC)))
   (aH (aX (i:=3) zN.nd rfl cO (aG bQ (aG bQ (aG bQ (pv 3) aD) (aO aS #[0] T.cD bS (aA (bH dB (bH bY (pv 2) (Ga Bu aD) #[6]) aD #[6]) aC))) (aO aS #[0] T.cD bS (aA (bH dB (bH bY (pv 2) (Ga Bu aD) #[6]) aD #[6]) aC)))))))
  (aH (aU (pv 2)))))),?_⟩
 refine⟨by show 0<=qAg;decide,fun ls hls=>?_⟩;have fls:H ls=none:=hls;have u2:=aK.aJ (o:=.lst []) hls;have h2:upd H ls (.lst []) ls=some (.lst (cI [])):=aB;generalize upd H ls (.lst [])=H2 at u2 h2|-;dsimp only[a9];refine⟨fun q σ' H'=>∃(rows:List Ki) (at_:Nat),q=1000-at_/\at_<=300/\aK H H'/\H' ls=some (.lst (cI rows))/\rows.length<=12/\(∀r∈rows,xJ ls H' r.1 m r.2)/\σ'=[some (.ref a),some (.int (m:Int)),some (.ref ls),some (.int (at_:Int))],⟨_,[],1,rfl,by decide,u2,h2,by decide,(fun r hr=>by cases hr),rfl⟩,?_⟩;rintro q σ' H3 ⟨rows,at_,rfl,a300,u3,h3,r12,ra,rfl⟩;have rl:(cI rows).length=rows.length:=by delta cI;rw[qAa]
 have ha3:=u3.seq ha;have fin:Q (.ref ls) H3:=k ls rows H3 fls u3 h3 r12 fun r hr=>ra r hr H3 fun b o _ e=>e;refine⟨_,rfl,_,rfl,a,_,rfl,.inl ha3,_,_,rfl,_,_,rfl,rfl,_,rfl,b7 (fun h4=>?_) (fun h4=>bF ⟨_,rfl,fin⟩)⟩;have hat:(at_:Int)<64:=by
  have z:=of_decide_eq_true h4;rw[qAa] at z;revert z;split <;> intro z <;> lia
 refine⟨_,rfl,ls,_,rfl,.inl (bA.of h3),_,_,rfl,rfl,_,rfl,b7 (fun h5=>?_) (fun h5=>⟨_,rfl,fin⟩)⟩;have u4:=u3;have h4':=h3;have ra4:=ra;have ha4:=u4.seq ha;have hlt:rows.length<12:=by
  have z:=of_decide_eq_true h5;rw[rl] at z;lia
 refine⟨fun σ' H'=>∃(rows:List Ki) (at':Nat),at_<at'/\at'<=300/\aK H H'/\H' ls=some (.lst (cI rows))/\rows.length<=12/\(∀r∈rows,xJ ls H' r.1 m r.2)/\σ'=[some (.ref a),some (.int (m:Int)),some (.ref ls),some (.int (at':Int))],(by rintro σ' H' ⟨rows,at',x1,x2,x3,x4,x5,x6,x7⟩;exact ⟨1000-at',by lia,rows,at',rfl,x2,x3,x4,x5,x6,x7⟩),?_⟩;refine⟨_,rfl,.inl ⟨rfl,_,bA.of h4'⟩,_,rfl,_,rfl,_,rfl,a,ns,at_,m,rfl,ha4,hsm,by lia,m1,m6,fun p r H5 s5 nk=>?_⟩;have h5':=s5 _ _ h4';refine⟨ls,_,_,rfl,rfl,h5',by rw[rl];exact bL (by lia),?_⟩;have kp:∀b o,b≠ls->H5 b=some o->upd H5 ls (.lst (cI rows++[V.ref p])) b=some o:=fun b o n e=>by rw[aM n];exact e
 have newX:xJ ls H5 p m r:=fun H'' kk=>nk H'' fun b o n e=>kk b o (fun z=>by
  rcases n with n | ⟨us,rfl⟩
  .rw[z,h4'] at n;cases n
  .rw[z,h5'] at e;cases e) e
 have rx5:∀r'∈rows++[(p,r)],xJ ls (upd H5 ls (.lst (cI rows++[V.ref p]))) r'.1 m r'.2:=fun r' hr=>by
  rcases List.mem_append.mp hr with y | y
  .exact((ra4 r' y).keep fun b o _ e=>s5 _ _ e).keep kp
  .rw[qLy] at y;rw[y];exact newX.keep kp
 have h6':upd H5 ls (.lst (cI rows++[V.ref p])) ls=some (.lst (cI (rows++[(p,r)]))):=by
  rw[aB];delta cI;rw[qCt];rfl
 have u6:=(u4.trans s5).upd_ne' (o:=.lst (cI rows++[V.ref p])) fls;have row6:=rx5 (p,r) (qAx _ qAr) (upd H5 ls (.lst (cI rows++[V.ref p]))) fun b o _ e=>e;have h6'':upd H5 ls (.lst (cI rows++[V.ref p])) ls=some (.lst (cI rows++[V.ref p])):=aB;generalize upd H5 ls (.lst (cI rows++[V.ref p]))=H6 at rx5 h6' h6'' u6 row6|-;obtain⟨ln,lp,bs,q1,q2,q3,q4,q5⟩:=row6;have a1:iT [V.str (b9 r.k),V.ref ln,V.ref lp] 1=some (.ref ln):=rfl;have a2:iT [V.str (b9 r.k),V.ref ln,V.ref lp] 2=some (.ref lp):=rfl;have n63:=q5.Ds m6;have p15:=q5.pl;have bl:=q4.len;exists _,rfl,_,_,rfl,rfl,_,rfl,_,rfl,ls,_,_,_,rfl,rfl,bA.of h6'',uY _ _,p,_,_,_,rfl,rfl,eQ.of q1,a1,ln,_,rfl,.inl (bA.of q2),_,_,rfl,rfl;exists _,rfl,_,rfl,ls,_,_,_,rfl,rfl,bA.of h6'',uY _ _,p,_,_,_,rfl,rfl,eQ.of q1,a2,lp,_,rfl,.inl (bA.of q3),_,_,rfl,rfl;have n63':r.ns.length<=63:=n63;have p15':r.ps.length<=15:=p15;have bl':bs.length=r.ps.length:=bl;exists rows++[(p,r)],at_+1+r.ns.length+bs.length,by lia,by lia,u6,h6',by rw[qAf];show _+1<=_;lia,rx5;show [some (V.ref a),some (V.int (m:Int)),some (V.ref ls),some (V.int ((at_:Int)+1+((r.ns.map V.int).length:Int)+((bs.map V.ref).length:Int)))]=_;rw[qAa,qAa];push_cast;rfl
def DF:Sp:=fun vs H Q _=>∃(ln lp:Addr) (bs:List Addr) (m:Nat) (r:R4) (qs:List P3),vs=[.str (b9 r.k),.ref ln,.ref lp]/\GoodR m r/\m<=6/\H ln=some (.lst (r.ns.map V.int))/\H lp=some (.lst (bs.map V.ref))/\A2 (dR H) bs qs/\qs.Perm r.ps/\∀H',aK H H'->Q (.str (zH r qs)) H'
theorem Oj:aN ["_law_head","_law_numbers","_law_pairs"] ["_law_head","_law_numbers","_law_pairs"] (aF IY):=#[1,2]
theorem Kk(t:Tx K mg "_law_part" IY ["_law_head","_law_numbers","_law_pairs"] f fd)(T:#[4]):#[5] 1 "_law_part" ["_law_head","_law_numbers","_law_pairs"] DF f fd:=by
 refine t.mX Oj (by rintro _ _ _ _⟨ln,lp,bs,m,r,qs,rfl,_⟩;rfl) fun _ _ _ s H vs Q E hr h=>?_;obtain⟨ln,lp,bs,m,r,qs,rfl,g,m6,hn,hp,a2,pm,k⟩:=h;refine⟨_,(aH (aU (dP qBf qCp qCo dQ aI (aA (aG bB (aG bB (bE (aA (pv 0) aC)) (dX (NB:=["_law_number_here"]) (pick:=[none]) (dJ #[7] (by exact trivial) rfl #[2] #[2] #[0] #[0]) rfl
    (cU (pv 1)) (fun _ _ _=>bC (i:=0) #[8,["_law_number_here"]] rfl cO)
    (fun _ _ _=>cV) (fun _ _ _=>(dI iB #[0] T.oW v7 (aA (pv 0) aC))))) (dX (NB:=["_law_a","_law_b","_law_c"]) (pick:=[none,none,none]) (dJ #[7] (by exact trivial) rfl #[2] #[2] #[0] #[0]) rfl
    (cU (pv 2)) (fun _ _ _=>(show PG _ _ (Ek K 3 (jY (a9 0) (jY (a9 1) (jY (a9 2) Ej)))) from j5 rfl (cC (bC (i:=0) #[8,["_law_a","_law_b","_law_c"]] rfl cO) (cC (bC (i:=1) #[8,["_law_a","_law_b","_law_c"]] rfl cO) (cC (bC (i:=2) #[8,["_law_a","_law_b","_law_c"]] rfl cO) hW)))))
    (fun _ _ _=>cV) (fun _ _ _=>(eU (aZ (dN (pv 0)) (aZ aI (aZ (dN (pv 1)) (aZ aI (aZ (dN (pv 2)) dD))))))))) aC)))),?_⟩
 have n63:=g.Ds m6;have p15:=g.pl;have ql:=pm.length_eq;have q6:∀q∈qs,q.1<6/\q.2.1<6/\q.2.2.natAbs<10^60:=fun q hq=>g.FA m6 q (pm.mem_iff.mp hq);refine⟨rfl,_,rfl,kG,fun l0 hl0=>?_⟩;have u0:=aK.aJ (o:=.lst [V.str (b9 r.k)]) hl0;have h0:upd H l0 (.lst [V.str (b9 r.k)]) l0=some (.lst [V.str (b9 r.k)]):=aB;generalize upd H l0 (.lst [V.str (b9 r.k)])=H0 at u0 h0|-;exists _,rfl,ln,rfl,⟨_,bA.of (u0 _ _ hn)⟩;refine eG (xs:=r.ns.map V.int) (fun _ x=>match x with | .int i=>some (.str (nW i)) | _=>none) (bA.of (u0 _ _ hn)) (by rw[qAa];exact qCu (bL (by lia))) (fun i x H2 kk kk0 s2 hx g1 g2=>?_) fun D H2 hD s2 hd=>?_
 .obtain⟨n,hm,rfl⟩:=List.mem_map.mp (qAp hx);exact⟨_,rfl,n,rfl,eP (g.Dt n hm),g1 _ rfl _ (.refl _)⟩
 have hd2:H2 D=some (.lst ((r.ns.map nW).map V.str)):=by
  rw[hd,eJ,qDt,qCe];show some (HO.lst (r.ns.filterMap fun i=>some (V.str (nW i))))=_;rw[qCz];rfl
 clear hd
 refine⟨l0,D,_,_,rfl,rfl,bA.of (s2 _ _ h0),bA.of hd2,(by rw[qAa,qAa];exact eI (by show 1<=8;decide) (by lia)),fun l3 hl3=>?_⟩;have u3:=(u0.trans s2).trans (aK.aJ (o:=.lst ([V.str (b9 r.k)]++(r.ns.map nW).map V.str)) hl3);have h3:upd H2 l3 (.lst ([V.str (b9 r.k)]++(r.ns.map nW).map V.str)) l3=some (.lst ([V.str (b9 r.k)]++(r.ns.map nW).map V.str)):=aB;generalize upd H2 l3 (.lst ([V.str (b9 r.k)]++(r.ns.map nW).map V.str))=H3 at u3 h3|-;have hp3:=u3 _ _ hp;have a3:A2 (dR H3) bs qs:=a2.imp fun _ _ z=>z.keep u3.t;exists _,rfl,lp,rfl,⟨_,bA.of hp3⟩;refine L2.jL (xs:=bs.map V.ref) (fun σ'=>∃o0 o1 o2:Option V,σ'=[o0,o1,o2]) (fun i _=>(qs[i]?).map fun q=>V.str (pW q)) ⟨_,_,_,rfl⟩ (bA.of hp3) (by rw[qAa,a3.len];exact qCu (bL (by lia))) (fun i x σ1 H4 kk kk0 hσ s4 hx g1 g2=>?_) fun D4 H4 hD4 s4 hd=>?_
 .obtain⟨o0,o1,o2,rfl⟩:=hσ;rw[qAs] at hx;cases e:bs[i]? with
  | none=>rw[e] at hx;cases hx
  | some b =>
   rw[e] at hx;cases hx;obtain⟨q,hq,r'⟩:=a3.JH i b e;obtain⟨q1,q2,q3⟩:=q6 q (qAp hq);have l1:=cR (i:=(q.1:Int)) (qAw (show _<6 from q1) #[2]);have l2:=cR (i:=(q.2.1:Int)) (qAw (show _<6 from q2) #[2]);have l3:=cR q3;have pl:=sX q1 q2 q3;have e0:Str.empty.length=0:=rfl;have e1:("-":Str).length=1:=rfl;have e2:(":":Str).length=1:=rfl;have sl:1000<=qAg:=by decide
   exists b,_,rfl,eQ.of (s4 _ _ r'),rfl,_,_,rfl,_,_,rfl,_,_,rfl,rfl;have z1:=eP (n:=(q.1:Int)) (qAw (show _<6 from q1) #[2]);have z2:=eP (n:=(q.2.1:Int)) (qAw (show _<6 from q2) #[2]);refine⟨_,rfl,(q.1:Int),rfl,z1,nW q.1,rfl,(by rw[Str.length_append];lia),_,rfl,(by rw[Str.length_append,Str.length_append];lia),_,rfl,(q.2.1:Int),rfl,z2,nW q.2.1,rfl,(by rw[Str.length_append,Str.length_append,Str.length_append];lia),_,rfl,(by rw[Str.length_append,Str.length_append,Str.length_append,Str.length_append];lia),_,rfl,q.2.2,rfl,eP q3,nW q.2.2,rfl,?_,?_,g1 _ _ ⟨_,_,_,rfl⟩ (by show(qs[i]?).map _=_;rw[hq];rfl) _ (.refl _)⟩
   .show(pW q).length<=_;lia
   .show(pW q).length<=_;lia
 have hd4:H4 D4=some (.lst ((qs.map pW).map V.str)):=by
  rw[hd];have e:(qBk (bs.map V.ref).length).filterMap (fun i=>((bs.map V.ref)[i]?).bind fun _=>(qs[i]?).map fun q=>V.str (pW q))=(qBk qs.length).filterMap fun i=>(qs[i]?).bind fun q=>some (V.str (pW q)):=by
   rw[qAa,a3.len];refine fX fun i hi=>?_;have hi':i<bs.length:=by rw[a3.len];exact List.mem_range.mp hi
   rw[qAs,qAe hi'];cases qs[i]? <;> rfl
  rw[e,eJ,qCz,qCe];rfl
 refine⟨l3,D4,_,_,rfl,rfl,bA.of (s4 _ _ h3),bA.of hd4,(by rw[qAf,qAa,qAa,qAa,qAa];exact rH (by lia) (by lia)),fun p hp=>?_⟩;refine⟨_,p,b9 r.k::(r.ns.map nW++qs.map pW),rfl,rfl,bA.of (by rw[aB,qBo,qCt];rfl),iK (qAk (dA g.k7).2.2 #[1]) (by rw[qAf,qAa,qAa];lia) (fun s hs=>?_),k _ (u3.trans (s4.trans (.aJ hp)))⟩;rcases List.mem_append.mp hs with h | h
 .exact mE g.Dt s h
 .exact mF q6 s h
def pH(m:Nat):List Str:=[("":Str),"hands","hands 0","hands 7","hands 9","hands 12"]++[("hands -":Str)++nW (m:Int),("hands +":Str)++nW (m:Int),("hands 0":Str)++nW (m:Int)]++[("hands  ":Str)++nW (m:Int),("hands ":Str)++nW (m:Int)++(" ":Str),(" hands ":Str)++nW (m:Int),("Hands ":Str)++nW (m:Int),("hand ":Str)++nW (m:Int),nW (m:Int)]++[("hands ":Str)++nW (m:Int)++(" 1":Str),("hands ":Str)++nW (m:Int)++(";":Str),("hands":Str)++nW (m:Int),("hands:":Str)++nW (m:Int),("hands ":Str)++nW (m:Int)++(".0":Str)]++[("hands ":Str),"hands a","hands -"]
theorem DG:∀(m:_root_.Fin 7) (j:_root_.Fin 6),(pH m.1).all (fun x=>!(x == ("hands ":Str)++nW ((j.1+1:Nat):Int)))=true:=by decide +kernel
theorem zO{m:Nat}{x:Str}(m6:m<=6)(hx:x∈pH m):¬∃j,uU x j:=by
 rintro⟨j,j1,j6,e⟩;have z:=List.all_eq_true.mp (DG ⟨m,by lia⟩ ⟨j-1,by lia⟩) x hx;rw[show((⟨j-1,by lia⟩:_root_.Fin 6).1+1:Nat)=j from by show j-1+1=j;lia,<- e] at z;simp at z
theorem pI(a:Str):Str.empty++a=a:=dY (by rw[Str.cps_append,qCg];rfl)
section
variable {σ:St}{H:Hp}{Q:VK}{a b:Str}{n:Int}{i:Nat}
theorem DH(ha:a.length<=100)(h0:σ[i]?=some (some (.int n)))(hn:n.natAbs<10^60)(q:Q (.str (a++nW n)) H):OD (jC (tC (.str a)) (jC (Mf (fF i)) yL)) σ H Q:=by
 have ln:=cR hn;have sl:1000<=qAg:=by decide
 have l1:(Str.empty++a).length<=qAg:=by rw[pI];lia
 have l2:(Str.empty++a++nW n).length<=qAg:=by rw[pI,Str.length_append];lia
 exists a,rfl,l1,_,h0,n,rfl,eP hn,nW n,rfl,l2,l2;rw[pI];exact q
theorem ON(ha:a.length<=100)(hb:b.length<=100)(h0:σ[i]?=some (some (.int n)))(hn:n.natAbs<10^60)(q:Q (.str (a++nW n++b)) H):OD (jC (tC (.str a)) (jC (Mf (fF i)) (jC (tC (.str b)) yL))) σ H Q:=by
 have ln:=cR hn;have sl:1000<=qAg:=by decide
 have l1:(Str.empty++a).length<=qAg:=by rw[pI];lia
 have l2:(Str.empty++a++nW n).length<=qAg:=by rw[pI,Str.length_append];lia
 have l3:(Str.empty++a++nW n++b).length<=qAg:=by rw[pI,Str.length_append,Str.length_append];lia
 exists a,rfl,l1,_,h0,n,rfl,eP hn,nW n,rfl,l2,b,rfl,l3,l3;rw[pI];exact q
theorem tl{t:TA}(h:t σ H fun xs H1=>xs.length<=qAg/\∀p,H1 p=none->Q (.ref p) (upd H1 p (.lst xs))):kJ t σ H Q:=h
variable {tr:TA}{R:List V->Hp->Prop}
theorem tc{te:TE}(h:te σ H fun x H1=>tr σ H1 fun xs H2=>R (x::xs) H2):fT te tr σ H R:=h
theorem tn(h:R [] H):mV σ H R:=h
theorem Ol{v:V}(h:tr σ H fun xs H2=>R (v::xs) H2):fT (tC v) tr σ H R:=h
theorem cL{l l2:Addr}{L M:List Str}(h1:H l=some (.lst (L.map V.str)))(h2:H l2=none)(hl:L.length+M.length<=1000)(k:∀l3 H3,aK H H3->H3 l3=some (.lst ((L++M).map V.str))->Q (.ref l3) H3):yF K (.ref l) (.ref l2) (upd H l2 (.lst (M.map V.str))) Q:=by
 have u2:=aK.aJ (o:=.lst (M.map V.str)) h2;refine⟨l,l2,_,_,rfl,rfl,bA.of (u2 _ _ h1),bA.of aB,?_,fun l3 h3=>k l3 _ (u2.trans (.aJ h3)) (by rw[aB,qCt])⟩;rw[qAa,qAa];exact qAk hl #[1]
theorem RT(h0:σ[i]?=some (some (.int n)))(hn:n.natAbs<10^60)(q:Q (.str (nW n)) H):Mf (fF i) σ H Q:=⟨_,h0,n,rfl,eP hn,q⟩
end
theorem FO:∀(m:_root_.Fin 7),(pH m.1).all (fun x=>decide (x.length<=20)&&x.cps.toList.all (fun c=>decide (c<128)))=true:=by decide +kernel
def GQ:Sp:=fun vs H Q _=>∃(m:Nat) (c:Int),vs=[.int (m:Int),.int c]/\1<=m/\m<=6/\∀x H',x∈pH m->aK H H'->Q (.str x) H'
theorem rK:aN ["_law_many","_law_cell_here","_law_some"] ["_law_many","_law_cell_here"] (aF IZ):=#[1,2]
theorem Kl(t:Tx K mg "_law_no_hands" IZ ["_law_many","_law_cell_here"] f fd)(T:#[4]):#[5] 1 "_law_no_hands" ["_law_many","_law_cell_here"] GQ f fd:=by
 refine t.mX rK (by rintro _ _ _ _⟨m,c,rfl,_⟩;rfl) fun _ _ _ _ H vs Q E hr h=>?_;obtain⟨m,c,rfl,m1,m6,k⟩:=h;refine⟨_,(aE (aX (i:=2) rK.nd rfl cO (bE (aA aI (aA aI (aA aI (aA aI (aA aI (aA aI aC))))))))
  (aE (aX (i:=2) rK.nd rfl cO (aG bB (pv 2) (bE (aA (eU (aZ aI (aZ (dN (pv 0)) dD))) (aA (eU (aZ aI (aZ (dN (pv 0)) dD))) (aA (eU (aZ aI (aZ (dN (pv 0)) dD))) aC))))))
  (aE (aX (i:=2) rK.nd rfl cO (aG bB (pv 2) (bE (aA (eU (aZ aI (aZ (dN (pv 0)) dD))) (aA (eU (aZ aI (aZ (dN (pv 0)) (aZ aI dD)))) (aA (eU (aZ aI (aZ (dN (pv 0)) dD))) (aA (eU (aZ aI (aZ (dN (pv 0)) dD))) (aA (eU (aZ aI (aZ (dN (pv 0)) dD))) (aA (Iq (dN (pv 0))) aC)))))))))
  (aE (aX (i:=2) rK.nd rfl cO (aG bB (pv 2) (bE (aA (eU (aZ aI (aZ (dN (pv 0)) (aZ aI dD)))) (aA (eU (aZ aI (aZ (dN (pv 0)) (aZ aI dD)))) (aA (eU (aZ aI (aZ (dN (pv 0)) dD))) (aA (eU (aZ aI (aZ (dN (pv 0)) dD))) (aA (eU (aZ aI (aZ (dN (pv 0)) (aZ aI dD)))) aC))))))))
  (aE (aX (i:=2) rK.nd rfl cO (aG bB (pv 2) (bE (aA aI (aA aI (aA aI aC))))))
  (aH (aU (bH bY (pv 2) (aG bJ (pv 1) aD) #[6])))))))),?_⟩
 have hm:(m:Int).natAbs<10^60:=qBp (show(m:Int).natAbs<=6 by lia) #[2];have ln:=cR hm;have lg:=eP hm;refine⟨by show 6<=qAg;decide,fun l1 h1=>?_⟩;have u1:=aK.aJ (o:=.lst (([("":Str),"hands","hands 0","hands 7","hands 9","hands 12"]).map V.str)) h1;have e1:upd H l1 (.lst (([("":Str),"hands","hands 0","hands 7","hands 9","hands 12"]).map V.str)) l1=some (.lst (([("":Str),"hands","hands 0","hands 7","hands 9","hands 12"]).map V.str)):=aB;show a9 2 (V.ref l1) _ (upd H l1 (.lst (([("":Str),"hands","hands 0","hands 7","hands 9","hands 12"]).map V.str))) _;generalize upd H l1 (.lst (([("":Str),"hands","hands 0","hands 7","hands 9","hands 12"]).map V.str))=H1 at u1 e1|-;dsimp only[a9];refine bR (σ':=[some (.int (m:Int)),some (.int c),some (.ref l1)]) rfl ?_;exists _,rfl;show kJ _ _ _ _;refine tl (tc (DH #[1] rfl hm (tc (DH #[1] rfl hm (tc (DH #[1] rfl hm (tn ⟨Bc,fun l2 h2=>?_⟩)))))));refine cL (L:=[("":Str),"hands","hands 0","hands 7","hands 9","hands 12"]) (M:=[("hands -":Str)++nW (m:Int),("hands +":Str)++nW (m:Int),("hands 0":Str)++nW (m:Int)]) e1 h2 (by show 9<=1000;decide) fun l3 H3 s3 e3=>?_;have u3:=u1.trans s3;clear s3 e1 u1;dsimp only[a9];refine bR (σ':=[some (.int (m:Int)),some (.int c),some (.ref l3)]) rfl ?_;exists _,rfl;show kJ _ _ _ _;refine tl (tc (DH #[1] rfl hm (tc (ON #[1] #[1] rfl hm (tc (DH #[1] rfl hm (tc (DH #[1] rfl hm (tc (DH #[1] rfl hm (tc (RT rfl hm (tn ⟨by show 6<=qAg;decide,fun l2 h2=>?_⟩)))))))))))));refine cL (L:=_) (M:=[("hands  ":Str)++nW (m:Int),("hands ":Str)++nW (m:Int)++(" ":Str),(" hands ":Str)++nW (m:Int),("Hands ":Str)++nW (m:Int),("hand ":Str)++nW (m:Int),nW (m:Int)]) e3 h2 (by show 15<=1000;decide) fun l4 H4 s4 e4=>?_;have u4:=u3.trans s4;clear s4 e3 u3;dsimp only[a9];refine bR (σ':=[some (.int (m:Int)),some (.int c),some (.ref l4)]) rfl ?_;exists _,rfl;show kJ _ _ _ _;refine tl (tc (ON #[1] #[1] rfl hm (tc (ON #[1] #[1] rfl hm (tc (DH #[1] rfl hm (tc (DH #[1] rfl hm (tc (ON #[1] #[1] rfl hm (tn ⟨by show 5<=qAg;decide,fun l2 h2=>?_⟩)))))))))));refine cL (L:=_) (M:=[("hands ":Str)++nW (m:Int)++(" 1":Str),("hands ":Str)++nW (m:Int)++(";":Str),("hands":Str)++nW (m:Int),("hands:":Str)++nW (m:Int),("hands ":Str)++nW (m:Int)++(".0":Str)]) e4 h2 (by show 20<=1000;decide) fun l5 H5 s5 e5=>?_;have u5:=u4.trans s5;clear s5 e4 u4;dsimp only[a9];refine bR (σ':=[some (.int (m:Int)),some (.int c),some (.ref l5)]) rfl ?_;exists _,rfl;show kJ _ _ _ _;refine tl (Ol (Ol (Ol (tn ⟨Bc,fun l2 h2=>?_⟩))));refine cL (L:=_) (M:=[("hands ":Str),"hands a","hands -"]) e5 h2 (by show 23<=1000;decide) fun l6 H6 s6 e6=>?_;have u6:=u5.trans s6;dsimp only[a9];refine bR (σ':=[some (.int (m:Int)),some (.int c),some (.ref l6)]) rfl ?_;have e6:H6 l6=some (.lst ((pH m).map V.str)):=e6;have nl:(pH m).length=23:=rfl;obtain⟨v,hv,hm⟩:=lR (xs:=(pH m).map V.str) (i:=c%23) (qCi _ #[1]) (by rw[qAa,nl];exact qCa _ #[1]);obtain⟨x,hx,rfl⟩:=List.mem_map.mp hm;exact⟨_,rfl,_,rfl,_,_,rfl,rfl,(by show(0:Int)<23;decide),l6,_,_,_,rfl,rfl,bA.of e6,hv,k x H6 hx u6⟩
def OO(x:Str):Bool:=decide (1<=(cZ x).length)&&decide ((cZ x).length<=30)&&(cZ x).cps.toList.all lZ&&(!(Txt.startswith (cZ x) ("0":Str))||x == ("0":Str))
theorem fO.ok{x:Str}(h:fO x):OO x=true:=by
 obtain⟨n,rfl,hn⟩:=h;delta OO;rw[yT];obtain⟨f1,f2⟩:=t9 (n:=n) #[1] hn;rw[decide_eq_true f1,decide_eq_true f2,(List.all_eq_true.mpr fun c hc=>decide_eq_true (uA hc):(kT n).cps.toList.all lZ=true)];cases hz:Txt.startswith (kT n) ("0":Str) with
 | false=>rfl
 | true =>
  rw[qX hz];rfl
theorem fO.sg{x:Str}(h:fO x):∀c∈x.cps.toList,c=45\/(48<=c/\c<=57):=by
 obtain⟨n,rfl,_⟩:=h;intro c hc;by_cases z:c=45
 .exact .inl z
 .refine .inr ?_;by_cases y:48<=c/\c<=57
  .exact y
  .exact absurd hc (fD ⟨z,by lia⟩ n)
theorem fO.zero{x:Str}(h:fO x)(h0:x.cps.toList[0]?=some 48):x=("0":Str):=by
 obtain⟨n,rfl,_⟩:=h;cases n with
 | ofNat m =>
  rw[show nW (qGw m)=nW (m:Int) from rfl,eO] at h0;rw[nF m h0];rfl
 | negSucc k =>
  rw[fV] at h0;cases h0
theorem fO.neg{x:Str}(h:fO x)(h0:x.cps.toList[0]?=some 45):x.cps.toList[1]?≠some 48:=by
 obtain⟨n,rfl,_⟩:=h;cases n with
 | ofNat m =>
  rw[show nW (qGw m)=nW (m:Int) from rfl,eO] at h0;have:=lX m 45 (qAp h0);lia
 | negSucc k =>
  rw[fV];intro z;have z:(dg (k+1))[0]?=some 48:=z;have:=nF _ z;lia
def uZ(x:Str):List Str:=[("":Str),"-","-0","00","+1","1.","1.0","a","1a","1_0","--1","1-","0x1",gC ("1":Str) 31,("-":Str)++gC ("9":Str) 31]++[("0":Str)++x,("+":Str)++x,x++("_0":Str),x++("a":Str),("-0":Str),("-0":Str)++Txt.lstripChars x ("-":Str)]
theorem app_list(a b:Str):(a++b).cps.toList=a.cps.toList++b.cps.toList:=by rw[Str.cps_append,qCg]
theorem DI:([("":Str),"-","-0","00","+1","1.","1.0","a","1a","1_0","--1","1-","0x1",gC ("1":Str) 31,("-":Str)++gC ("9":Str) 31]:List Str).all (fun x=>!(OO x))=true:=by decide +kernel
theorem zP{x y:Str}(hx:fO x)(hy:y∈uZ x):¬fO y:=by
 intro h;rcases List.mem_append.mp hy with z | z
 .have w:=List.all_eq_true.mp DI y z;rw[h.ok] at w;cases w
 have ne:x.cps.toList≠[]:=by
  obtain⟨n,rfl,_⟩:=hx;intro e;cases n with
  | ofNat m =>
   rw[show nW (qGw m)=nW (m:Int) from rfl,eO] at e;exact oK m e
  | negSucc k=>rw[fV] at e;cases e
 simp only[qCk,qBs,or_false] at z;rcases z with rfl | rfl | rfl | rfl | rfl | rfl
 .have e:=h.zero (by rw[app_list];rfl);have e:(("0":Str)++x).cps.toList.length=("0":Str).cps.toList.length:=by rw[e]
  rw[app_list,qAf] at e;have p:0<x.cps.toList.length:=List.length_pos_iff.mpr ne;have e:1+x.cps.toList.length=1:=e;lia
 .have e:=h.sg 43 (by rw[app_list];exact qDw _ #[2]);lia
 .have e:=h.sg 95 (by rw[app_list];exact qAx _ #[2]);lia
 .have e:=h.sg 97 (by rw[app_list];exact qAx _ #[2]);lia
 .have w:OO ("-0":Str)=false:=by decide +kernel
  rw[h.ok] at w;cases w
 .exact h.neg (by rw[app_list];rfl) (by rw[app_list];rfl)
def GR:Sp:=fun vs H Q _=>∃(x:Str) (c:Int),vs=[.str x,.int c]/\x.length<=1000/\∀y H',y∈uZ x->aK H H'->Q (.str y) H'
theorem DJ:aN ["_law_word","_law_cell_here","_law_some"] ["_law_word","_law_cell_here"] (aF Ja):=#[1,2]
theorem Km(t:Tx K mg "_law_no_number" Ja ["_law_word","_law_cell_here"] f fd)(T:#[4]):#[5] 1 "_law_no_number" ["_law_word","_law_cell_here"] GR f fd:=by
 refine t.mX DJ (by rintro _ _ _ _⟨m,c,rfl,_⟩;rfl) fun _ _ _ _ H vs Q E hr h=>?_;obtain⟨x,c,rfl,xl,k⟩:=h;refine⟨_,(aE (aX (i:=2) DJ.nd rfl cO (bE (aA aI (aA aI (aA aI (aA aI (aA aI (aA aI (aA aI (aA aI (aA aI (aA aI (aA aI (aA aI (aA aI (aA (aG oP aI aD) (aA (aG aP aI (aG oP aI aD)) aC)))))))))))))))))
  (aE (aX (i:=2) DJ.nd rfl cO (aG bB (pv 2) (bE (aA (aG aP aI (pv 0)) (aA (aG aP aI (pv 0)) (aA (aG aP (pv 0) aI) (aA (aG aP (pv 0) aI) (aA aI (aA (aG aP aI (dP qBf PySem.F.slot_str_lstrip PySem.F.type_str_lstrip wY (pv 0) (aA aI aC))) aC)))))))))
  (aH (aU (bH bY (pv 2) (aG bJ (pv 1) aD) #[6]))))),?_⟩
 have sl:5000<=qAg:=by decide
 refine⟨("1":Str),31,rfl,rfl,by decide,by decide,by decide,by decide,qAk (by decide +kernel:(gC ("1":Str) 31).length<=5000) sl,?_⟩;refine⟨("9":Str),31,rfl,rfl,by decide,by decide,by decide,by decide,qAk (by decide +kernel:(gC ("9":Str) 31).length<=5000) sl,?_⟩;refine⟨_,_,rfl,rfl,qAk (by decide +kernel:("-":Str).length+(gC ("9":Str) 31).length<=5000) sl,by show 15<=qAg;decide,fun l1 h1=>?_⟩;have u1:=aK.aJ (o:=.lst (([("":Str),"-","-0","00","+1","1.","1.0","a","1a","1_0","--1","1-","0x1",gC ("1":Str) 31,("-":Str)++gC ("9":Str) 31]:List Str).map V.str)) h1;have e1:upd H l1 (.lst (([("":Str),"-","-0","00","+1","1.","1.0","a","1a","1_0","--1","1-","0x1",gC ("1":Str) 31,("-":Str)++gC ("9":Str) 31]:List Str).map V.str)) l1=some (.lst (([("":Str),"-","-0","00","+1","1.","1.0","a","1a","1_0","--1","1-","0x1",gC ("1":Str) 31,("-":Str)++gC ("9":Str) 31]:List Str).map V.str)):=aB;show a9 2 (V.ref l1) _ (upd H l1 (.lst (([("":Str),"-","-0","00","+1","1.","1.0","a","1a","1_0","--1","1-","0x1",gC ("1":Str) 31,("-":Str)++gC ("9":Str) 31]:List Str).map V.str))) _;generalize upd H l1 (.lst (([("":Str),"-","-0","00","+1","1.","1.0","a","1a","1_0","--1","1-","0x1",gC ("1":Str) 31,("-":Str)++gC ("9":Str) 31]:List Str).map V.str))=H1 at u1 e1|-;dsimp only[a9];refine bR (σ':=[some (.str x),some (.int c),some (.ref l1)]) rfl ?_;have ls:(Txt.lstripChars x ("-":Str)).length<=1000:=by
  delta Txt.lstripChars Txt.stripBy;split
  .exact xl
  .exact qAk (PySem.le_strSub _ _ _) xl
 refine⟨_,rfl,_,rfl,_,_,rfl,rfl,(by show 1+x.length<=qAg;lia),_,rfl,_,_,rfl,rfl,(by show 1+x.length<=qAg;lia),_,rfl,_,_,rfl,rfl,(by show x.length+2<=qAg;lia),_,rfl,_,_,rfl,rfl,(by show x.length+1<=qAg;lia),_,rfl,rfl,x,_,rfl,rfl,(by lia),_,_,rfl,rfl,(by show 2+_<=qAg;lia),(by show 6<=qAg;decide),fun l2 h2=>?_⟩;refine cL (L:=_) (M:=[("0":Str)++x,("+":Str)++x,x++("_0":Str),x++("a":Str),("-0":Str),("-0":Str)++Txt.lstripChars x ("-":Str)]) e1 h2 (by show 21<=1000;decide) fun l6 H6 s6 e6=>?_;have u6:=u1.trans s6;dsimp only[a9];refine bR (σ':=[some (.str x),some (.int c),some (.ref l6)]) rfl ?_;have e6:H6 l6=some (.lst ((uZ x).map V.str)):=e6;have nl:(uZ x).length=21:=rfl;obtain⟨v,hv,hm⟩:=lR (xs:=(uZ x).map V.str) (i:=c%21) (qCi _ #[1]) (by rw[qAa,nl];exact qCa _ #[1]);obtain⟨y,hy,rfl⟩:=List.mem_map.mp hm;exact⟨_,rfl,_,rfl,_,_,rfl,rfl,(by show(0:Int)<21;decide),l6,_,_,_,rfl,rfl,bA.of e6,hv,k y H6 hy u6⟩
theorem uU.uniq{x:Str}{a b:Nat}(h1:uU x a)(h2:uU x b):a=b:=by
 have e:=h1.2.2.symm.trans h2.2.2;have e:(("hands ":Str)++nW (a:Int)).cps.toList=(("hands ":Str)++nW (b:Int)).cps.toList:=by rw[e]
 rw[app_list,app_list] at e;have z:=CG (dY (List.append_cancel_left e)) (qBp (show(a:Int).natAbs<=6 by have:=h1.2.1;lia) #[2]) (qBp (show(b:Int).natAbs<=6 by have:=h2.2.1;lia) #[2]);lia
theorem jW.uniq{pt:Str}{ps:List Str}{i i':Nat}(h:jW pt ps i)(h':jW pt ps i'):i=i':=by
 rcases h with ⟨rfl,no⟩ | ⟨m,j,hm,rfl,bf,b⟩
 .rcases h' with ⟨rfl,_⟩ | ⟨m',j',hm',_⟩
  .rfl
  .exact absurd ⟨m',hm'⟩ no
 .rcases h' with ⟨_,no⟩ | ⟨m',j',hm',rfl,bf',b'⟩
  .exact absurd ⟨m,hm⟩ no
  .obtain rfl:=hm.uniq hm';have key:∀{j j':Nat},(∀h p,h<j'->ps[h]?=some p->FI m p)->((j<12/\∃p,ps[j]?=some p/\¬FI m p)\/(j=12/\12<ps.length))->((j'<12/\∃p,ps[j']?=some p/\¬FI m p)\/(j'=12/\12<ps.length))->¬j<j':=fun {j j'} bf' b b' lt=>by
    rcases b with ⟨_,p,e,no⟩ | ⟨e,_⟩
    .exact no (bf' j p lt e)
    .rcases b' with ⟨l,_⟩ | ⟨l,_⟩ <;> lia
   have a1:=key bf' b b';have a2:=key bf b' b;lia
def GS(P:qBe)(w:qCj)(K:qAb)(mg:Str->Option qAh)(base:Heap)(fH CO NX:Addr):Sp:=fun vs H Q _=>∃(x pt:Str) (ps:List Str) (i:Nat),vs=[.str x]/\x.length<=2000000/\Txt.split x ("; ":Str)=pt::ps/\ps.length<=60/\(∀p∈ps,Ln p)/\jW pt ps i/\∀H',aK H H'->Q (.int (i:Int)) H'
theorem mU:aN ["_law_text","_law_told_here","_law_wrong","error"] ["_law_text"] (aF Jb):=#[1,2]
theorem Kn{f1:Addr}{fd1:qBy}(t:Tx K mg "_law_told" Jb ["_law_text"] f fd)(T:#[4])(D_read:Df P w K mg base (AA P w) 11 "read" ["text"] (zK P w K mg base fH CO NX) f1 fd1):#[5] 12 "_law_told" ["_law_text"] (GS P w K mg base fH CO NX) f fd:=by
 refine t.mX mU (by rintro _ _ _ _⟨x,pt,ps,i,rfl,_⟩;rfl) fun _ _ _ _ H vs Q E hr h=>?_;obtain⟨x,pt,ps,i,rfl,xl,xs,FA,pb,fb,k⟩:=h;refine⟨_,(aE (aX (i:=1) mU.nd rfl cO Bn)
  (aE (aX (i:=2) mU.nd rfl cO qA)
  (aE (EZ (i:=3) (tb:=fun Ex=>Bq (CB (zK P w K mg base fH CO NX) Ex (fT (fF 0) mV))) ⟨rfl,rfl,rfl⟩ rfl (fun pins Ex=>(aH (cA (CD AD D_read hr #[1] #[0] (aA (pv 0) aC))))) #[0] T.Gw T.Lm mU.nd rfl rfl
   (fun e=>(aE (aX (i:=1) mU.nd rfl cO (Im K (pv 3)))
   (aE (aX (i:=2) mU.nd rfl cO (aO (mS K) #[0] T.gG gN (aA (pv 3) (aA (eR (aA (bO (v:=.ref NG) #[0] T.Li rfl) (aA (bO (v:=.ref NN) #[0] T.MC rfl) (aA (bO (v:=.ref NO) #[0] T.MD rfl) (aA (bO (v:=.ref NR) #[0] T.ME rfl) (aA (bO (v:=.ref NL) #[0] T.sT rfl) aC)))))) aC))))
   (aE (aX (i:=2) mU.nd rfl cO (Bo (pv 2) (lK (aO (mS K) #[0] T.gG gN (aA (pv 3) (aA (eR (aA (bO (v:=.ref NS) #[0] T.MF rfl) (aA (bO (v:=.ref NT) #[0] T.Lj rfl) (aA (bO (v:=.ref NV) #[0] T.MG rfl) (aA (bO (v:=.ref TM) #[0] T.MH rfl) (aA (bO (v:=.ref UL) #[0] T.MJ rfl) aC)))))) aC))))))
   (aH (aX (i:=2) mU.nd rfl cO (Bo (pv 2) (Bo (rS (aO (oQ K) #[0] T.gG gN (aA (pv 3) (aA (bO (v:=.ref SE) #[0] T.Lh rfl) aC)))) (lK (rS (aO (oQ K) #[0] T.gG gN (aA (pv 3) (aA (hV (v:=.ty "ValueError") #[0] T.CP LX rfl) aC))))))))))))))
  (aE (bI (eL (pv 2)) (aH (aU Bn)) aY)
  (aH (aU (pv 1))))))),?_⟩
 have no:∀(m:Nat) (rs:List R4),uU pt m->ps.length<=12->rs.length=ps.length->(∀(i:Nat) (p:Str) (r:R4),ps[i]?=some p->rs[i]?=some r->∃qs,RowW m (Txt.split p (" ":Str)) r qs)->False:=fun m rs hm p12 rl hrow=>by
  rcases fb with ⟨_,n⟩ | ⟨m',j,hm',_,_,b⟩
  .exact n ⟨m,hm⟩
  .obtain rfl:=hm.uniq hm';rcases b with ⟨_,p,e,n⟩ | ⟨_,l⟩
   .obtain⟨hj,_⟩:=List.getElem?_eq_some_iff.mp e;obtain⟨qs,z⟩:=hrow j p _ e (qAe (by lia:j<rs.length));exact n ⟨_,qs,z⟩
   .lia
 have i100:(i:Int).natAbs<=100:=by
  rcases fb with ⟨e,_⟩ | ⟨m',j,_,e,_,b⟩
  .lia
  .rcases b with ⟨l,_⟩ | ⟨l,_⟩ <;> lia
 refine⟨_,rfl,x,pt,ps,rfl,xl,xs,FA,pb,fun m rs hm p12 rl hrow=>(no m rs hm p12 rl hrow).elim,fun i' fb' d H4 s4 hd4=>⟨d,rfl,NX,rfl,T.MB,fun e he=>?_⟩⟩;obtain rfl:=fb.uniq fb';have ne:d≠e:=bD hd4 he;have hu:=aK.aJ (o:=nA e NX d) he;have hd5:=hu _ _ hd4;have he5:upd H4 e (nA e NX d) e=some (nA e NX d):=aB;have u5:=s4.trans hu;generalize upd H4 e (nA e NX d)=H5 at hu hd5 he5 u5|-;exists _,rfl,e,NX,d,_,(i:Int),rfl,he5,hd5,T.Lm,T.Jk.hd,T.OJ,rfl;dsimp only[a9];refine⟨_,rfl,by show 5<=qAg;decide,fun t1 h1=>?_⟩;have v1:=aK.aJ (o:=.tup [V.ref NG,V.ref NN,V.ref NO,V.ref NR,V.ref NL]) h1;exists e,NX,d,t1,_,[.ref NG,.ref NN,.ref NO,.ref NR,.ref NL],false,rfl,aB,rfl,v1 _ _ he5,T.Lm,T.k3;generalize upd H5 t1 (.tup [V.ref NG,V.ref NN,V.ref NO,V.ref NR,V.ref NL])=H6 at v1|-;dsimp only[a9];have he6:=v1 _ _ he5;have u6:=u5.trans v1;refine bR (σ':=[some (.str x),some (.int (i:Int)),some (.bl false),some (.ref e)]) rfl ?_;exists _,rfl,false,rfl;refine bF ⟨_,rfl,by show 5<=qAg;decide,fun t2 h2=>?_⟩;have v2:=aK.aJ (o:=.tup [V.ref NS,V.ref NT,V.ref NV,V.ref TM,V.ref UL]) h2;exists e,NX,d,t2,_,[.ref NS,.ref NT,.ref NV,.ref TM,.ref UL],false,rfl,aB,rfl,v2 _ _ he6,T.Lm,T.k4;have he7:=v2 _ _ he6;have u7:=u6.trans v2;generalize upd H6 t2 (.tup [V.ref NS,V.ref NT,V.ref NV,V.ref TM,V.ref UL])=H7 at v2 he7 u7|-;dsimp only[a9];refine bR (σ':=[some (.str x),some (.int (i:Int)),some (.bl false),some (.ref e)]) rfl ?_;refine⟨_,rfl,false,rfl,bF ?_⟩;refine⟨_,rfl,e,NX,d,_,_,true,rfl,rfl,he7,T.Lm,T.kS,true,rfl,false,rfl,bF ?_⟩;exists _,rfl,e,NX,d,_,_,true,rfl,rfl,he7,T.Lm,T.kV,true,rfl;dsimp only[a9];refine bR (σ':=[some (.str x),some (.int (i:Int)),some (.bl false),none]) rfl ?_;exact⟨_,rfl,false,rfl,bF ⟨_,rfl,k H7 u7⟩⟩
def Om(m:Nat)(hd:Str)(ws ws':List Str):Prop:=(hd=("table":Str)/\1<m/\ws'=ws.take (ws.length/2))\/(hd=("table":Str)/\m<6/\ws'=ws++ws++ws.take 1)\/((hd=("votes":Str)\/1<m)/\ws'=ws.take 1)\/ws'=[]
def GU:Sp:=fun vs H Q _=>∃(hd:Str) (l:Addr) (ws:List Str) (m:Nat) (c:Int),vs=[.str hd,.ref l,.int (m:Int),.int c]/\H l=some (.lst (ws.map V.str))/\ws.length<=100/\∀(l':Addr) (ws':List Str) (H':Hp),Om m hd ws ws'->aK H H'->H' l'=some (.lst (ws'.map V.str))->Q (.ref l') H'
theorem Oo:aN ["_law_head","_law_words","_law_many","_law_cell_here"] ["_law_head","_law_words","_law_many","_law_cell_here"] (aF Jc):=#[1,2]
theorem Ko(t:Tx K mg "_law_words_fewer" Jc ["_law_head","_law_words","_law_many","_law_cell_here"] f fd)(T:#[4]):#[5] 1 "_law_words_fewer" ["_law_head","_law_words","_law_many","_law_cell_here"] GU f fd:=by
 refine t.mX Oo (by rintro _ _ _ _⟨hd,l,ws,m,c,rfl,_⟩;rfl) fun _ _ _ _ H vs Q E hr h=>?_;obtain⟨hd,l,ws,m,c,rfl,hl,l100,k⟩:=h;refine⟨_,(aE (bI (PW.pt (pw_and (aL bU (pv 0) aI (aT _)) (pw_and (aL bU (aG bJ (pv 3) aD) aD (aT _)) (pw_and1 (aL nR (pv 2) aD (aT _)))))) (aH (aU (aR bZ (pv 1) aV (aW (aG cN (aO aS #[0] T.cD bS (aA (pv 1) aC)) aD))))) aY)
  (aE (bI (PW.pt (pw_and (aL bU (pv 0) aI (aT _)) (pw_and (aL jB (aG bJ (pv 3) aD) aD (aT _)) (pw_and1 (aL jB (pv 2) aD (aT _)))))) (aH (aU (aG bB (aG bB (pv 1) (pv 1)) (aR bZ (pv 1) aV (aW aD))))) aY)
  (aE (bI (PW.pt (pw_and (aL bU (aG bJ (aG cN (pv 3) aD) aD) aD (aT _)) (pw_and1 (PW.pt (pw_or (aL bU (pv 0) aI (aT _)) (pw_or1 (aL nR (pv 2) aD (aT _)))))))) (aH (aU (aR bZ (pv 1) aV (aW aD)))) aY)
  (aH (aU (bE aC)))))),?_⟩
 have tl_:(ws.map V.str).length=ws.length:=qAa _;have st:∀{y:Str},decide (V.str hd=V.str y)=true->hd=y:=fun h=>V.str.inj (of_decide_eq_true h);refine dG (fun σ' H'=>σ'=[some (.str hd),some (.ref l),some (.int (m:Int)),some (.int c)]/\H'=H) (fun tail=>?_) ?_
 .refine⟨_,rfl,rfl,_,rfl,b7 (fun h1=>⟨_,rfl,_,_,rfl,rfl,(by show(0:Int)<3;decide),rfl,_,rfl,b7 (fun h2=>⟨_,rfl,_,_,rfl,rfl,_,rfl,b7 (fun h3=>?_) (fun _=>tail _ _ ⟨rfl,rfl⟩)⟩) (fun _=>bF (tail _ _ ⟨rfl,rfl⟩))⟩) (fun _=>bF (tail _ _ ⟨rfl,rfl⟩))⟩;refine⟨_,rfl,_,rfl,l,_,rfl,.inl (bA.of hl),_,_,rfl,rfl,⟨by decide,by decide⟩,_,rfl,l,_,rfl,bA.of hl,fun l1 hl1=>?_⟩;have e:eE (ws.map V.str) none (some (((ws.map V.str).length:Int)/2))=(ws.take (ws.length/2)).map V.str:=by
   rw[tl_,show(ws.length:Int)/2=((ws.length/2:Nat):Int) from by lia,kA,<- qFp]
  show Q (V.ref l1) (upd H l1 (.lst (eE (ws.map V.str) none (some (((ws.map V.str).length:Int)/2)))));rw[e];exact k l1 _ _ (.inl ⟨st h1,(by have:=of_decide_eq_true h3;lia),rfl⟩) (.aJ hl1) aB
 rintro σ' H' ⟨rfl,rfl⟩;have e1:eE (ws.map V.str) none (some 1)=(ws.take 1).map V.str:=by rw[show(1:Int)=((1:Nat):Int) from rfl,kA,<- qFp]
 have sz:∀{n:Nat},n<=1000->n<=qAg:=fun h=>qAk h #[1];refine dG (fun σ' H2=>σ'=[some (.str hd),some (.ref l),some (.int (m:Int)),some (.int c)]/\H2=H') (fun tail=>?_) ?_
 .refine⟨_,rfl,rfl,_,rfl,b7 (fun h1=>⟨_,rfl,_,_,rfl,rfl,(by show(0:Int)<3;decide),_,_,rfl,rfl,_,rfl,b7 (fun h2=>⟨_,rfl,_,_,rfl,rfl,_,rfl,b7 (fun h3=>?_) (fun _=>tail _ _ ⟨rfl,rfl⟩)⟩) (fun _=>bF (tail _ _ ⟨rfl,rfl⟩))⟩) (fun _=>bF (tail _ _ ⟨rfl,rfl⟩))⟩;refine⟨_,rfl,_,rfl,l,l,_,_,rfl,rfl,bA.of hl,bA.of hl,sz (by rw[tl_];lia),fun l2 hl2=>?_⟩;have v2:=aK.aJ (o:=.lst (ws.map V.str++ws.map V.str)) hl2;have e2:upd H' l2 (.lst (ws.map V.str++ws.map V.str)) l2=some (.lst ((ws++ws).map V.str)):=by rw[aB,qCt]
  have hl2':=v2 _ _ hl;generalize upd H' l2 (.lst (ws.map V.str++ws.map V.str))=H2 at v2 e2 hl2'|-;refine⟨_,rfl,1,rfl,l,_,rfl,bA.of hl2',fun l3 hl3=>?_⟩;rw[e1];refine cL (L:=ws++ws) (M:=ws.take 1) (K:=K) e2 hl3 ?_ fun l4 H4 s4 h4=>?_
  .rw[qAf];have:=qGs 1 ws;lia
  .exact k l4 _ H4 (.inr (.inl ⟨st h1,(by have:=of_decide_eq_true h3;lia),rfl⟩)) (v2.trans s4) h4
 rintro σ' H2 ⟨rfl,rfl⟩;refine dG (fun σ' H3=>σ'=[some (.str hd),some (.ref l),some (.int (m:Int)),some (.int c)]/\H3=H2) (fun tail=>?_) ?_
 .refine(fun(key:(hd=("votes":Str)\/1<m)->_)=>(⟨_,rfl,_,_,rfl,rfl,⟨by decide,by decide⟩,_,_,rfl,rfl,(by show(0:Int)<2;decide),rfl,_,rfl,b7 (fun _=>⟨_,rfl,rfl,_,rfl,b7 (fun h=>dC (key (.inl (st h)))) (fun _=>⟨_,rfl,_,_,rfl,rfl,_,rfl,b7 (fun h=>key (.inr (by have:=of_decide_eq_true h;lia))) (fun _=>tail _ _ ⟨rfl,rfl⟩)⟩)⟩) (fun _=>bF (tail _ _ ⟨rfl,rfl⟩))⟩)) ?_;intro hk;refine⟨_,rfl,1,rfl,l,_,rfl,bA.of hl,fun l3 hl3=>?_⟩;rw[e1];exact k l3 _ _ (.inr (.inr (.inl ⟨hk,rfl⟩))) (.aJ hl3) aB
 .rintro σ' H3 ⟨rfl,rfl⟩;exact⟨by show 0<=qAg;decide,fun l3 hl3=>k l3 [] _ (.inr (.inr (.inr rfl))) (.aJ hl3) aB⟩
def kD(m k:Nat)(ws:List Str):Prop:=∃r qs,RowW m (b9 k::ws) r qs
def OP(m:Nat)(x:Str):Prop:=∃q:P3,x=pW q/\q.1<q.2.1/\q.2.1<m/\q.2.2.natAbs<10^30
theorem kD.all{m k:Nat}{ws:List Str}(k7:k<7)(h:kD m k ws):∃(ns:List Int) (qs:List P3),ws=ns.map nW++qs.map pW/\ns.length=fR m k/\(∀n∈ns,n.natAbs<10^30)/\(∀q∈qs,q.1<q.2.1/\q.2.1<m/\q.2.2.natAbs<10^30)/\(qs.map fun p=>(p.1,p.2.1)).Nodup/\(k≠2->k≠4->k≠5->qs=[])/\(k=3->1<=ns.getD 0 0)/\(k=5->(∀n∈ns,0<=n)/\∀q∈qs,0<=q.2.2):=by
 obtain⟨r,qs,h⟩:=h;obtain⟨hk,e⟩:=h.k k7 rfl;obtain⟨g,pm,_⟩:=h;refine⟨r.ns,qs,e,hk▸g.sz,g.nb,fun q hq=>g.pb q (pm.mem_iff.mp hq),?_,fun a b c=>?_,fun a=>g.q1 (hk.trans a),fun a=>⟨(g.n0 (hk.trans a)).1,fun q hq=>(g.n0 (hk.trans a)).2 q (pm.mem_iff.mp hq)⟩⟩
 .refine((pm.map fun p=>(p.1,p.2.1)).nodup_iff).mpr ?_;refine List.pairwise_map.mpr (g.Bh.imp fun {p q} z e=>?_);have e1:=congrArg Prod.fst e;have e2:=congrArg Prod.snd e;dsimp only at e1 e2;lia
 .rw[g.pn (by lia) (by lia) (by lia)] at pm;exact List.perm_nil.mp pm
theorem zQ{ns:List Int}{qs:List P3}{i:Nat}{x:Str}(hi:i<ns.length)(e:(ns.map nW++qs.map pW)[i]?=some x):∃n,ns[i]?=some n/\x=nW n:=by
 rw[qAy (by rw[qAa];exact hi),qAs,qAe hi] at e;exact⟨_,qAe hi,(Option.some.inj e).symm⟩
theorem lD{ns:List Int}{qs:List P3}{i:Nat}{x:Str}(hi:ns.length<=i)(e:(ns.map nW++qs.map pW)[i]?=some x):∃q,qs[i-ns.length]?=some q/\x=pW q:=by
 rw[qAz (by rw[qAa];exact hi),qAs,qAa] at e;cases h:qs[i-ns.length]? with
 | none=>rw[h] at e;cases e
 | some q=>rw[h] at e;exact⟨q,rfl,(Option.some.inj e).symm⟩
section
variable {m k i:Nat}{ws:List Str}{x:Str}
theorem kD.len(k7:k<7)(h:kD m k ws):fR m k<=ws.length/\(k≠2->k≠4->k≠5->ws.length=fR m k):=by
 obtain⟨ns,qs,rfl,nl,_,_,_,q0,_⟩:=h.all k7;rw[qAf,qAa,qAa,nl];exact⟨by lia,fun a b c=>by rw[q0 a b c];rfl⟩
theorem kD.num(k7:k<7)(h:kD m k ws)(hi:i<fR m k)(e:ws[i]?=some x):∃n,x=nW n/\n.natAbs<10^30/\(k=5->0<=n)/\(k=3->i=0->1<=n):=by
 obtain⟨ns,qs,rfl,nl,nb,_,_,_,q1,n0⟩:=h.all k7;obtain⟨n,en,ex⟩:=zQ (by lia) e;have hm:=qAp en;refine⟨n,ex,nb n hm,fun a=>(n0 a).1 n hm,fun a b=>?_⟩;have z:=q1 a;rw[b] at en;rw[qBg,en] at z;exact z
theorem kD.pair(k7:k<7)(h:kD m k ws)(hi:fR m k<=i)(e:ws[i]?=some x):∃q:P3,x=pW q/\q.1<q.2.1/\q.2.1<m/\q.2.2.natAbs<10^30/\(k=5->0<=q.2.2):=by
 obtain⟨ns,qs,rfl,nl,_,pb,_,_,_,n0⟩:=h.all k7;obtain⟨q,eq,ex⟩:=lD (by lia) e;have hm:=qAp eq;obtain⟨a,b,c⟩:=pb q hm;exact⟨q,ex,a,b,c,fun a=>(n0 a).2 q hm⟩
theorem kD.dup{j:Nat}{a b:Nat}{n n':Int}(k7:k<7)(m6:m<=6)(h:kD m k ws)(hi:fR m k<=i)(hj:i<j)(a6:a<6)(b6:b<6)(hn:n.natAbs<10^30)(hn':n'.natAbs<10^30)(e:ws[i]?=some (pW (a,b,n)))(e':ws[j]?=some (pW (a,b,n'))):False:=by
 obtain⟨ns,qs,rfl,nl,_,pb,nd,_⟩:=h.all k7;obtain⟨q,eq,ex⟩:=lD (by lia) e;obtain⟨q',eq',ex'⟩:=lD (by lia) e';obtain⟨z1,z2,z3⟩:=pb q (qAp eq);obtain⟨y1,y2,y3⟩:=pb q' (qAp eq');have h1:(a,b,n)=q:=xE ⟨by show a<10;lia,by show b<10;lia,hn⟩ ⟨by lia,by lia,z3⟩ ex;have h2:(a,b,n')=q':=xE ⟨by show a<10;lia,by show b<10;lia,hn'⟩ ⟨by lia,by lia,y3⟩ ex';rw[<- h1] at eq;rw[<- h2] at eq';have nd':=List.pairwise_map.mp nd;obtain⟨l1,g1⟩:=List.getElem?_eq_some_iff.mp eq;obtain⟨l2,g2⟩:=List.getElem?_eq_some_iff.mp eq';have z:=List.pairwise_iff_getElem.mp nd' (i-ns.length) (j-ns.length) l1 l2 (by lia);rw[g1,g2] at z;exact z rfl
end
theorem DL(n:Int):∀c∈(nW n).cps.toList,c=45\/(48<=c/\c<=57):=fun c hc=>by
 by_cases z:c=45
 .exact .inl z
 .refine .inr ?_;by_cases y:48<=c/\c<=57
  .exact y
  .exact absurd hc (fD ⟨z,by lia⟩ n)
theorem vA{n:Int}(h:(nW n).cps.toList[0]?=some 45):n<0:=by
 cases n with
 | ofNat m =>
  rw[show nW (qGw m)=nW (m:Int) from rfl,eO] at h;have:=lX m 45 (qAp h);lia
 | negSucc k=>lia
theorem FP{n:Int}(h:nW n=("0":Str)):n=0:=by
 have h:(nW n).cps.toList=[48]:=by rw[h];rfl
 cases n with
 | ofNat m =>
  rw[show nW (qGw m)=nW (m:Int) from rfl,eO] at h;have:=nF m (by rw[h];rfl);rw[this];rfl
 | negSucc k =>
  rw[fV] at h;cases h
theorem Oq(n:Int):(nW n).cps.toList≠[]:=by
 intro e;cases n with
 | ofNat m =>
  rw[show nW (qGw m)=nW (m:Int) from rfl,eO] at e;exact oK m e
 | negSucc k=>rw[fV] at e;cases e
def rL(x:Str):Prop:=x.length<=250/\∀c∈x.cps.toList,c<128/\c≠32/\c≠59
theorem vB{n:Int}(h:n.natAbs<10^60):rL (nW n):=by
 have:=cR h;refine⟨by lia,fun c hc=>?_⟩;have:=DL n c hc;lia
theorem GV{q:P3}(h1:q.1<10)(h2:q.2.1<10):∀c∈(pW q).cps.toList,c=45\/(48<=c/\c<=58):=fun c hc=>by
 rw[c9 h1 h2] at hc;rcases List.mem_append.mp hc with h | h
 .simp only[qCk,qBs,or_false] at h;lia
 .have:=DL _ c h;lia
theorem GW{q:P3}(h1:q.1<6)(h2:q.2.1<6)(h:q.2.2.natAbs<10^60):rL (pW q):=by
 have:=sX h1 h2 h;refine⟨by lia,fun c hc=>?_⟩;have:=GV (q:=q) (by lia) (by lia) c hc;lia
def bX(r:R4):List Str:=r.ns.map nW++r.ps.map pW
section
variable {m:Nat}{r:R4} (g:GoodR m r) (m6:m<=6)
include g m6
theorem dZ:(bX r).length<=78/\((r.k=2\/r.k=4\/r.k=5)->(bX r).length<=21):=by
 have a:=g.Ds m6;have b:=g.pl;delta bX;rw[qAf,qAa,qAa];refine⟨by lia,fun h=>?_⟩;have z:r.ns.length<=6:=by
  rw[g.sz];rcases h with h | h | h <;> rw[h]
  .exact qBn _
  .exact qBn _
  .exact m6
 lia
theorem dH:∀x∈bX r,rL x/\x.length<=185:=fun x hx=>by
 rcases List.mem_append.mp hx with h | h
 .refine⟨?_,mE g.Dt x h⟩;obtain⟨n,hn,rfl⟩:=List.mem_map.mp h;exact vB (g.Dt n hn)
 .refine⟨?_,mF (g.FA m6) x h⟩;obtain⟨q,hq,rfl⟩:=List.mem_map.mp h;obtain⟨a,b,c⟩:=g.FA m6 q hq;exact GW a b c
omit m6 in
theorem zR{i:Nat}{x:Str}(hi:i<fR m r.k)(e:(bX r)[i]?=some x):∃n,x=nW n/\n.natAbs<10^30/\(r.k=5->0<=n)/\(r.k=3->i=0->1<=n):=by
 obtain⟨n,en,ex⟩:=zQ (by rw[g.sz];exact hi) e;have hm:=qAp en;refine⟨n,ex,g.nb n hm,fun a=>(g.n0 a).1 n hm,fun a b=>?_⟩;have z:=g.q1 a;rw[b] at en;rw[qBg,en] at z;exact z
omit m6 in
theorem pJ{i:Nat}{x:Str}(hi:fR m r.k<=i)(e:(bX r)[i]?=some x):∃q:P3,x=pW q/\q.1<q.2.1/\q.2.1<m/\q.2.2.natAbs<10^30/\(r.k=5->0<=q.2.2)/\(r.k=2\/r.k=4\/r.k=5):=by
 obtain⟨q,eq,ex⟩:=lD (by rw[g.sz];exact hi) e;have hm:=qAp eq;obtain⟨a,b,c⟩:=g.pb q hm;refine⟨q,ex,a,b,c,fun a=>(g.n0 a).2 q hm,?_⟩;by_cases h:r.k=2\/r.k=4\/r.k=5
 .exact h
 .rw[g.pn (by lia) (by lia) (by lia)] at hm;cases hm
theorem jP{i:Nat}{x:Str}(e:(bX r)[i]?=some x):58∈x.cps.toList↔fR m r.k<=i:=by
 rcases qBj i (fR m r.k) with hi | hi
 .obtain⟨n,rfl,_⟩:=zR g hi e;exact⟨fun h=>absurd h (fD #[1] n),fun h=>by lia⟩
 .obtain⟨q,rfl,a,b,_⟩:=pJ g hi e;refine⟨fun _=>hi,fun _=>?_⟩;rw[c9 (by lia) (by lia)];exact qDw _ (by simp)
end
structure DM (m k:Nat) (ws:List Str):Prop where
 no:¬kD m k ws
 len:ws.length<=200
 FH:(k=2\/k=4\/k=5)->ws.length<64
 wd:∀x∈ws,rL x
def kF(ws:List Str)(i:Nat)(y:Str):List Str:=ws.take i++[y]++ws.drop (i+1)
theorem pK{ws:List Str}{i:Nat}{y:Str}(hi:i<ws.length):(kF ws i y).length=ws.length:=by
 delta kF;rw[qAf,qAf,qCs,qBw];show min i ws.length+1+_=_;lia
theorem nH{ws:List Str}{i:Nat}{y:Str}(hi:i<ws.length):(kF ws i y)[i]?=some y:=by
 delta kF;have l:(ws.take i).length=i:=by rw[qCs];lia
 rw[qCc,qAz (by lia),l,qHc];rfl
theorem DN{ws:List Str}{i:Nat}{x y:Str}(h:x∈kF ws i y):x∈ws\/x=y:=by
 delta kF at h;rcases List.mem_append.mp h with h | h
 .rcases List.mem_append.mp h with h | h
  .exact .inl (qDj h)
  .exact .inr (List.mem_singleton.mp h)
 .exact .inl (qDv h)
section
variable {m:Nat}{r:R4}{i:Nat}{y:Str} (g:GoodR m r) (m6:m<=6)
include g m6
theorem tH(hi:i<(bX r).length)(hy:rL y)(no:¬kD m r.k (kF (bX r) i y)):DM m r.k (kF (bX r) i y):=by
 obtain⟨a,b⟩:=dZ g m6;refine⟨no,by rw[pK hi];lia,fun h=>by rw[pK hi];have:=b h;lia,fun x hx=>?_⟩;rcases DN hx with h | rfl
 .exact(dH g m6 x h).1
 .exact hy
theorem Kp(hi:i<(bX r).length)(hz:i<fR m r.k)(hy:rL y)(no:¬fO y):DM m r.k (kF (bX r) i y) :=
 tH g m6 hi hy fun h=>by
  obtain⟨n,e,b,_⟩:=h.num g.k7 hz (nH hi);exact no ⟨n,e,b⟩
theorem zS(hi:i<(bX r).length)(hz:fR m r.k<=i)(hy:rL y)(no:¬OP m y):DM m r.k (kF (bX r) i y) :=
 tH g m6 hi hy fun h=>by
  obtain⟨q,e,a,b,c,_⟩:=h.pair g.k7 hz (nH hi);exact no ⟨q,e,a,b,c⟩
theorem DO(hi:i<(bX r).length)(hz:i<fR m r.k)(hy:rL y)(hk:r.k=5\/(r.k=3/\i=0))(no:y=("0":Str)/\r.k=3\/y.cps.toList[0]?=some 45):DM m r.k (kF (bX r) i y) :=
 tH g m6 hi hy fun h=>by
  obtain⟨n,e,b,c,d⟩:=h.num g.k7 hz (nH hi);rcases no with ⟨no,k3⟩ | no
  .rw[no] at e;have z:=FP e.symm;rcases hk with hk | ⟨hk,i0⟩
   .lia
   .have:=d hk i0;lia
  .rw[e] at no;have z:=vA no;rcases hk with hk | ⟨hk,i0⟩
   .have:=c hk;lia
   .have:=d hk i0;lia
theorem FQ(hi:i<(bX r).length)(hz:fR m r.k<=i)(hy:rL y)(hk:r.k=5){c0 c1 c2 c3:Nat}{t:List Nat}(no:y.cps.toList=c0::c1::c2::c3::45::t):DM m r.k (kF (bX r) i y) :=
 tH g m6 hi hy fun h=>by
  obtain⟨q,e,a,b,c,d⟩:=h.pair g.k7 hz (nH hi);rw[e,c9 (by lia) (by lia)] at no;have z:(nW q.2.2).cps.toList=45::t:=by
   obtain⟨_,no⟩:=List.cons.inj no;obtain⟨_,no⟩:=List.cons.inj no;obtain⟨_,no⟩:=List.cons.inj no;exact(List.cons.inj no).2
  have:=vA (n:=q.2.2) (by rw[z];rfl);have:=d hk;lia
theorem DP{q:P3}{x:Str}(hi:(bX r)[i]?=some (pW q))(hz:fR m r.k<=i)(h1:q.1<6)(h2:q.2.1<6)(h3:q.2.2.natAbs<10^30)(hx:x=pW (q.1,q.2.1,7)):DM m r.k (bX r++[x]):=by
 obtain⟨a,b⟩:=dZ g m6;subst hx;refine⟨fun h=>?_,by rw[qAf];show _+1<=_;lia,fun h=>by rw[qAf];have:=b h;show _+1<_;lia,fun x hx=>?_⟩
 .have hl:i<(bX r).length:=(List.getElem?_eq_some_iff.mp hi).1;exact h.dup g.k7 m6 hz hl h1 h2 h3 (n':=7) #[1] (by rw[qAy hl];exact hi) (by rw[qAz (qAl _),qHc];rfl)
 .rcases List.mem_append.mp hx with h | h
  .exact(dH g m6 x h).1
  .rw[List.mem_singleton.mp h];exact GW h1 h2 (by show(7:Int).natAbs<_;decide +kernel)
theorem FR(hi:i<(bX r).length)(hz:i<fR m r.k):DM m r.k ((bX r).take i++(bX r).drop (i+1)):=by
 obtain⟨a,b⟩:=dZ g m6;have el:((bX r).take i++(bX r).drop (i+1)).length+1=(bX r).length:=by
  rw[qAf,qCs,qBw];lia
 have nl:fR m r.k<=(bX r).length:=by delta bX;rw[qAf,qAa,g.sz];lia
 refine⟨fun h=>?_,by lia,fun h=>by have:=b h;lia,fun x hx=>?_⟩
 .obtain⟨l1,l2⟩:=h.len g.k7;by_cases hk:r.k=2\/r.k=4\/r.k=5
  .have hs:fR m r.k-1<((bX r).take i++(bX r).drop (i+1)).length:=by lia
   have hw:((bX r).take i++(bX r).drop (i+1))[fR m r.k-1]?=(bX r)[fR m r.k]?:=by
    have tl:((bX r).take i).length=i:=by rw[qCs];lia
    rw[qAz (by lia),tl,qEf];congr 1;lia
   have hx:=qAe (l:=bX r) (i:=fR m r.k) (by lia);rw[hx] at hw;obtain⟨n,e,_⟩:=h.num g.k7 (show fR m r.k-1<fR m r.k by lia) hw;have c:=(jP g m6 hx).mpr (qAl _);rw[e] at c;exact fD #[1] n c
  .have p0:r.ps=[]:=g.pn (by lia) (by lia) (by lia);have z:=l2 (by lia) (by lia) (by lia);have:(bX r).length=fR m r.k:=by delta bX;rw[p0,qEe,qBx,qAa,g.sz]
   lia
 .rcases List.mem_append.mp hx with h | h
  .exact(dH g m6 x (qDj h)).1
  .exact(dH g m6 x (qDv h)).1
theorem DQ(m1:1<=m)(hk:r.k=5)(hl:m<(bX r).length):DM m r.k ((bX r).drop m++(bX r).take m):=by
 obtain⟨a,b⟩:=dZ g m6;have el:((bX r).drop m++(bX r).take m).length=(bX r).length:=by
  rw[qAf,qCs,qBw];lia
 have sz:fR m r.k=m:=by rw[hk];rfl
 refine⟨fun h=>?_,by lia,fun h=>by have:=b h;lia,fun x hx=>?_⟩
 .have hx:=qAe (l:=bX r) (i:=m) hl;have hw:((bX r).drop m++(bX r).take m)[0]?=(bX r)[m]?:=by
   rw[qAy (by rw[qBw];lia),qEf];rfl
  rw[hx] at hw;obtain⟨n,e,_⟩:=h.num g.k7 (by lia) hw;have c:=(jP g m6 hx).mpr (by lia);rw[e] at c;exact fD #[1] n c
 .rcases List.mem_append.mp hx with h | h
  .exact(dH g m6 x (qDv h)).1
  .exact(dH g m6 x (qDj h)).1
theorem Kq(m1:1<=m)(h0:0<fR m r.k){ws':List Str}(fw:Om m (b9 r.k) (bX r) ws'):DM m r.k ws':=by
 obtain⟨a,b⟩:=dZ g m6;have hd:∀j:Nat,j<7->b9 r.k=b9 j->r.k=j:=fun j j7 e=>congrArg Fin.val (FG ⟨r.k,g.k7⟩ ⟨j,j7⟩ e);have p1:2^m=2*2^(m-1):=by
  obtain⟨n,rfl⟩:∃n,m=n+1:=⟨m-1,by lia⟩;rw[Nat.pow_succ,Nat.add_sub_cancel];lia
 have p2:1<=2^(m-1):=qKa #[1];have p3:m<2^m:=Nat.lt_two_pow_self;have tab:r.k=6->(bX r).length=2^m-1:=fun hk=>by
  delta bX;rw[g.pn (by lia) (by lia) (by lia),qEe,qBx,qAa,g.sz,hk];rfl
 have s6:r.k=6->fR m r.k=2^m-1:=fun hk=>by rw[hk];rfl
 rcases fw with ⟨e,m2,rfl⟩ | ⟨e,m5,rfl⟩ | ⟨e,rfl⟩ | rfl
 .have hk:=hd 6 #[1] e;have t:=tab hk;refine⟨fun h=>?_,by rw[qCs];lia,fun h=>by lia,fun x hx=>(dH g m6 x (qDj hx)).1⟩;have l:=(h.len g.k7).2 (by lia) (by lia) (by lia);rw[qCs,s6 hk] at l;lia
 .have hk:=hd 6 #[1] e;have t:=tab hk;have tl:=qGs 1 (bX r);refine⟨fun h=>?_,by rw[qAf,qAf];lia,fun h=>by lia,fun x hx=>?_⟩
  .have l:=(h.len g.k7).2 (by lia) (by lia) (by lia);rw[qAf,qAf,s6 hk] at l;lia
  .rcases List.mem_append.mp hx with hx | hx
   .rcases List.mem_append.mp hx with hx | hx
    .exact(dH g m6 x hx).1
    .exact(dH g m6 x hx).1
   .exact(dH g m6 x (qDj hx)).1
 .have tl:=qGs 1 (bX r);refine⟨fun h=>?_,by lia,fun h=>by lia,fun x hx=>(dH g m6 x (qDj hx)).1⟩;have l:=(h.len g.k7).1;have k7:=g.k7;have:1<fR m r.k:=by
   have hk:r.k=0\/r.k=1\/r.k=2\/r.k=3\/r.k=4\/r.k=5\/r.k=6:=by lia
   have nv:r.k≠3->1<m:=fun n=>by
    rcases e with e | e
    .exact absurd (hd 3 #[1] e) n
    .exact e
   rcases hk with hk | hk | hk | hk | hk | hk | hk <;> rw[hk] at h0|-
   .exact absurd h0 (qDp 0)
   .exact nv (by lia)
   .exact absurd h0 (qDp 0)
   .show 1<m+2;lia
   .exact absurd h0 (qDp 0)
   .exact nv (by lia)
   .have:=nv (by lia);show 1<2^m-1;lia
  lia
 .refine⟨fun h=>?_,by show 0<=_;lia,fun h=>by show 0<_;lia,fun x hx=>by cases hx⟩;have l:fR m r.k<=0:=(h.len g.k7).1;lia
end
def xK(m a b:Nat)(N:List Nat):List (List Nat):=[[48+b,45,48+a,58]++N,[48+a,45,48+a,58]++N,[48+a,45,48+m,58]++N]++[[48,48+a,45,48+b,58]++N,[48+a,58]++N,[48+a,45,48+b]++N,[48+a,58,48+b,58]++N]++[[48+a,45,48+b,58]++N++[58,49],[48+a,45,48+b,45,48+b,58]++N,[48+a,45,48,48+b,58]++N]++[[97,45,48+b,58]++N,[48+a,45,98,58]++N,[48+a,45,48+b]]
theorem FT{m a b:Nat}{n:Int}{y:Str}(ab:a<b)(bm:b<m)(m6:m<=6)(hy:y.cps.toList∈xK m a b (nW n).cps.toList):¬OP m y:=by
 rintro⟨q,rfl,h1,h2,h3⟩;rw[c9 (by lia) (by lia)] at hy;generalize q.1=u at h1 hy;have f58:∀n:Int,58∉(nW n).cps.toList:=fun n=>fD #[1] n;simp only[xK,qGe,qEk,qCk,qBs,or_false,List.cons.injEq] at hy;rcases hy with h | h | h | h | h | h | h | h | h | h | h | h | h
 .lia
 .lia
 .lia
 .lia
 .lia
 .exact f58 n (by rw[<- h.2.2.2];exact qAr)
 .lia
 .exact f58 q.2.2 (by rw[h.2.2.2.2];exact qAx _ qAr)
 .lia
 .lia
 .lia
 .lia
 .exact absurd h.2.2.2 (by simp)
def Ev(t:TE)(σ:St)(H:Hp)(l:List Nat):Prop:=∀Q:VK,(∀y:Str,y.cps.toList=l->Q (.str y) H)->t σ H Q
theorem DR(x:Str){k:Nat}(hk:k<=x.length):(Txt.slice x none (some (k:Int))).cps.toList=x.cps.toList.take k:=by
 have e:=eq_of_beq (qNp (x:=x) (j:=(k:Int)) ⟨by lia,by rw[<- str_len];lia⟩);rw[e];show List.take ((k:Int)-0).toNat (List.drop 0 x.cps.toList)=_;rw[qKh,show((k:Int)-0).toNat=k by lia]
section
variable {σ:St}{H:Hp}{i j:Nat}{x:Str}{l l1 l2:List Nat}{ta tb:TE}
theorem hJ{s:Str}(e:s.cps.toList=l):Ev (tC (.str s)) σ H l:=fun _ q=>q s e
theorem p7(h:σ[i]?=some (some (.str x)))(e:x.cps.toList=l):Ev (fF i) σ H l:=fun _ q=>⟨_,h,q x e⟩
theorem bV(h1:Ev ta σ H l1)(h2:Ev tb σ H l2)(hb:l1.length+l2.length<=100000)(e:l1++l2=l):Ev (Be (fun x y H Q=>∃i j,x=V.str i/\y=V.str j/\i.length+j.length<=qAg/\Q (V.str (i++j)) H) ta tb) σ H l:=fun Q q =>
 h1 _ fun y1 e1=>h2 _ fun y2 e2=>⟨y1,y2,rfl,rfl,by rw[str_len,str_len,e1,e2];exact qAk hb #[1],q _ (by rw[app_list,e1,e2,e])⟩
theorem zT(h1:Ev ta σ H l1)(h2:Ev tb σ H l2)(hb:l1.length+l2.length<=100000)(n1:1<=l1.length)(n2:1<=l2.length)(e:l1++l2=l):Ev (Be Gs ta tb) σ H l:=fun Q q =>
 h1 _ fun y1 e1=>h2 _ fun y2 e2=>⟨y1,y2,rfl,rfl,by rw[str_len,e1];exact n1,by rw[str_len,e2];exact n2,by rw[str_len,str_len,e1,e2];exact qAk hb #[1],q _ (by rw[app_list,e1,e2,e])⟩
theorem vC{c:Nat}(h:σ[i]?=some (some (.str x)))(hx:x.length<=100000)(e:x.cps.toList[j]?=some c):Ev (Be LJ (fF i) (tC (.int (j:Int)))) σ H [c]:=fun Q q =>
 ⟨_,h,x,_,c,rfl,rfl,qAk hx #[1],bP e,q _ rfl⟩
theorem eK(h:σ[i]?=some (some (.str x)))(hx:x.length<=100000)(hj:j<=x.length)(e:x.cps.toList.drop j=l):Ev (KG EM (fF i) (qI (tC (.int (j:Int)))) jJ) σ H l:=fun Q q =>
 ⟨_,h,_,rfl,x,rfl,qAk (slice_le _ _ _) (qAk hx #[1]),q _ (by rw[fW x hj,e])⟩
theorem lE(h:σ[i]?=some (some (.str x)))(hx:x.length<=100000)(hj:j<=x.length)(e:x.cps.toList.take j=l):Ev (KG EM (fF i) jJ (qI (tC (.int (j:Int))))) σ H l:=fun Q q =>
 ⟨_,h,_,rfl,x,rfl,qAk (slice_le _ _ _) (qAk hx #[1]),q _ (by rw[DR x hj,e])⟩
theorem nI{tr:TA}{R:List V->Hp->Prop}(h:Ev ta σ H l)(k:∀y:Str,y.cps.toList=l->tr σ H fun xs H2=>R (.str y::xs) H2):fT ta tr σ H R:=h _ k
end
theorem asg{te:TE}{g:TG}{b:TS}{D:Ends}{σ:St}{H:Hp}(h:te σ H fun v H1=>g v σ H1 (b D)):Ab (El te g) b D σ H:=h
def GX:Sp:=fun vs H Q _=>∃(q:P3) (m:Nat) (c:Int),vs=[.str (pW q),.int (m:Int),.int c]/\q.1<q.2.1/\q.2.1<m/\m<=6/\q.2.2.natAbs<10^30/\∀y H',y.cps.toList∈xK m q.1 q.2.1 (nW q.2.2).cps.toList->aK H H'->Q (.str y) H'
theorem vD:aN ["_law_word","_law_many","_law_cell_here","_law_some"] ["_law_word","_law_many","_law_cell_here"] (aF Je):=#[1,2]
theorem Kr(t:Tx K mg "_law_no_pair" Je ["_law_word","_law_many","_law_cell_here"] f fd)(T:#[4]):#[5] 1 "_law_no_pair" ["_law_word","_law_many","_law_cell_here"] GX f fd:=by
 refine t.mX vD (by rintro _ _ _ _⟨q,m,c,rfl,_⟩;rfl) fun _ _ _ _ H vs Q E hr h=>?_;obtain⟨q,m,c,rfl,ab,bm,m6,hn,k⟩:=h;refine⟨_,(aE (aX (i:=3) vD.nd rfl cO (bE (aA (aG aP (aG aP (aG aP (bH iF (pv 0) aD #[6]) aI) (bH iF (pv 0) aD #[6])) (aR cJ (pv 0) (aW aD) aV)) (aA (aG aP (aG aP (aG aP (bH iF (pv 0) aD #[6]) aI) (bH iF (pv 0) aD #[6])) (aR cJ (pv 0) (aW aD) aV)) (aA (aG aP (aG aP (bH iF (pv 0) aD #[6]) (eU (aZ aI (aZ (dN (pv 1)) dD)))) (aR cJ (pv 0) (aW aD) aV)) aC)))))
  (aE (aX (i:=3) vD.nd rfl cO (aG bB (pv 3) (bE (aA (aG aP aI (pv 0)) (uH (yU (aR cJ (pv 0) aV (aW aD)) (aR cJ (pv 0) (aW aD) aV)) (mT (QG 0) #[2] #[1]) (aA (aG aP (aG aP (aR cJ (pv 0) aV (aW aD)) aI) (aR cJ (pv 0) (aW aD) aV)) aC))))))
  (aE (aX (i:=3) vD.nd rfl cO (aG bB (pv 3) (bE (aA (aG aP (pv 0) aI) (aA (aG aP (aG aP (aR cJ (pv 0) aV (aW aD)) aI) (aR cJ (pv 0) (aW aD) aV)) (aA (aG aP (aG aP (aR cJ (pv 0) aV (aW aD)) aI) (aR cJ (pv 0) (aW aD) aV)) aC))))))
  (aE (aX (i:=3) vD.nd rfl cO (aG bB (pv 3) (bE (aA (aG aP aI (aR cJ (pv 0) (aW aD) aV)) (aA (aG aP (aG aP (aR cJ (pv 0) aV (aW aD)) aI) (aR cJ (pv 0) (aW aD) aV)) (aA (aR cJ (pv 0) aV (aW aD)) aC))))))
  (aH (aU (bH bY (pv 3) (aG bJ (pv 2) aD) #[6]))))))),?_⟩
 have hm:(m:Int).natAbs<10^60:=qBp (show(m:Int).natAbs<=6 by lia) #[2];have hx:=c9 (p:=q) (by lia) (by lia);have Nl:=cR (tD hn);have Nf:58∉(nW q.2.2).cps.toList:=fD #[1] _;have em:(nW (m:Int)).cps.toList=[48+m]:=by rw[lA (by lia:m<10)]
 rw[str_len] at Nl;generalize (nW q.2.2).cps.toList=N at hx Nl Nf k;generalize q.1=a at ab hx k;generalize q.2.1=b at ab bm hx k;generalize pW q=x at hx|-;have xl:x.length=4+N.length:=by rw[str_len,hx,qAf];rfl
 have x5:x.length<=100000:=by lia
 have x3:3<=x.length:=by lia
 have x2:2<=x.length:=by lia
 have x1:1<=x.length:=by lia
 have hx:x.cps.toList=(48+a)::45::(48+b)::58::N:=hx;have i0:x.cps.toList[0]?=some (48+a):=by rw[hx];rfl
 have i2:x.cps.toList[2]?=some (48+b):=by rw[hx];rfl
 have d1:x.cps.toList.drop 1=45::(48+b)::58::N:=by rw[hx];rfl
 have d2:x.cps.toList.drop 2=(48+b)::58::N:=by rw[hx];rfl
 have d3:x.cps.toList.drop 3=58::N:=by rw[hx];rfl
 have t1:x.cps.toList.take 1=[48+a]:=by rw[hx];rfl
 have t2:x.cps.toList.take 2=[48+a,45]:=by rw[hx];rfl
 have t3:x.cps.toList.take 3=[48+a,45,48+b]:=by rw[hx];rfl
 have fsE:∀{σ:St}{H:Hp},σ[1]?=some (some (.int (m:Int)))->Ev (OD (jC (tC (.str ("-":Str))) (jC (Mf (fF 1)) yL))) σ H [45,48+m]:=fun {σ H} h Q q'=>DH #[1] h hm (q' _ (by rw[app_list,em];rfl));have rpE:∀{σ:St}{H:Hp},σ[0]?=some (some (.str x))->Ev (CJ (":":Str) ("":Str) (fF 0)) σ H ((48+a)::45::(48+b)::N):=fun {σ H} h Q q'=>⟨_,h,x,rfl,by lia,q' _ (by
  rw[show(":":Str)=⟨#[58]⟩ from by decide +kernel,show("":Str)=⟨#[]⟩ from by decide +kernel,qNq,hx];have z:∀{c:Nat}{l:List Nat},c≠58->(c::l).filter (· != 58)=c::l.filter (· != 58):=fun {c l} hc=>List.filter_cons_of_pos (by simpa using hc);rw[z (by lia),z (by lia),z (by lia),List.filter_cons_of_neg #[1],qNu 58 N Nf])⟩
 have lb:∀{u v:List Nat},u.length<=200->v.length<=200->u.length+v.length<=100000:=fun {u v} h1 h2=>by lia
 have NN:N.length<=100:=by lia
 refine asg (tl (nI (l:=[48+b,45,48+a,58]++N) (bV (bV (bV (vC rfl x5 i2) (hJ (l:=[45]) rfl) (by simp <;> lia) rfl) (vC rfl x5 i0) (by simp <;> lia) rfl) (eK rfl x5 x3 d3) (by simp <;> lia) rfl) fun y1 e1=>?_));refine nI (l:=[48+a,45,48+a,58]++N) (bV (bV (bV (vC rfl x5 i0) (hJ (l:=[45]) rfl) (by simp <;> lia) rfl) (vC rfl x5 i0) (by simp <;> lia) rfl) (eK rfl x5 x3 d3) (by simp <;> lia) rfl) fun y2 e2=>?_;refine nI (l:=[48+a,45,48+m,58]++N) (bV (bV (vC rfl x5 i0) (fsE rfl) (by simp <;> lia) rfl) (eK rfl x5 x3 d3) (by simp <;> lia) rfl) fun y3 e3=>?_;refine tn ⟨Bc,fun l1 h1=>?_⟩;have u1:=aK.aJ (o:=.lst (([y1,y2,y3]:List Str).map V.str)) h1;have g1:upd H l1 (.lst (([y1,y2,y3]:List Str).map V.str)) l1=some (.lst (([y1,y2,y3]:List Str).map V.str)):=aB;show a9 3 (V.ref l1) _ (upd H l1 (.lst (([y1,y2,y3]:List Str).map V.str))) _;generalize upd H l1 (.lst (([y1,y2,y3]:List Str).map V.str))=H1 at u1 g1|-;dsimp only[a9];refine bR (σ':=[some (.str x),some (.int (m:Int)),some (.int c),some (.ref l1)]) rfl ?_;exists _,rfl;show kJ _ _ _ _;refine tl (nI (l:=[48,48+a,45,48+b,58]++N) (bV (hJ (l:=[48]) rfl) (p7 rfl hx) (by simp <;> lia) rfl) fun y4 e4=>?_);refine nI (l:=[48+a,58]++N) (zT (lE rfl x5 x1 t1) (eK rfl x5 x3 d3) (by simp <;> lia) (by simp) (by simp) rfl) fun y5 e5=>?_;refine nI (l:=[48+a,45,48+b]++N) (rpE rfl) fun y6 e6=>?_;refine nI (l:=[48+a,58,48+b,58]++N) (bV (bV (lE rfl x5 x1 t1) (hJ (l:=[58]) rfl) (by simp <;> lia) rfl) (eK rfl x5 x2 d2) (by simp <;> lia) rfl) fun y7 e7=>?_;refine tn ⟨by show 4<=qAg;decide,fun l2 h2=>?_⟩;refine cL (L:=[y1,y2,y3]) (M:=[y4,y5,y6,y7]) g1 h2 (by show 7<=1000;decide) fun l3 H3 s3 g3=>?_;have u3:=u1.trans s3;clear s3 g1 u1;dsimp only[a9];refine bR (σ':=[some (.str x),some (.int (m:Int)),some (.int c),some (.ref l3)]) rfl ?_;exists _,rfl;show kJ _ _ _ _;refine tl (nI (l:=[48+a,45,48+b,58]++N++[58,49]) (bV (p7 rfl hx) (hJ (l:=[58,49]) rfl) (by simp <;> lia) rfl) fun y8 e8=>?_);refine nI (l:=[48+a,45,48+b,45,48+b,58]++N) (bV (bV (lE rfl x5 x3 t3) (hJ (l:=[45]) rfl) (by simp <;> lia) rfl) (eK rfl x5 x2 d2) (by simp <;> lia) rfl) fun y9 e9=>?_;refine nI (l:=[48+a,45,48,48+b,58]++N) (bV (bV (lE rfl x5 x2 t2) (hJ (l:=[48]) rfl) (by simp <;> lia) rfl) (eK rfl x5 x2 d2) (by simp <;> lia) rfl) fun y10 e10=>?_;refine tn ⟨Bc,fun l2 h2=>?_⟩;refine cL (L:=_) (M:=[y8,y9,y10]) g3 h2 (by show 10<=1000;decide) fun l4 H4 s4 g4=>?_;have u4:=u3.trans s4;clear s4 g3 u3;dsimp only[a9];refine bR (σ':=[some (.str x),some (.int (m:Int)),some (.int c),some (.ref l4)]) rfl ?_;exists _,rfl;show kJ _ _ _ _;refine tl (nI (l:=[97,45,48+b,58]++N) (bV (hJ (l:=[97]) rfl) (eK rfl x5 x1 d1) (by simp <;> lia) rfl) fun y11 e11=>?_);refine nI (l:=[48+a,45,98,58]++N) (bV (bV (lE rfl x5 x2 t2) (hJ (l:=[98]) rfl) (by simp <;> lia) rfl) (eK rfl x5 x3 d3) (by simp <;> lia) rfl) fun y12 e12=>?_;refine nI (l:=[48+a,45,48+b]) (lE rfl x5 x3 t3) fun y13 e13=>?_;refine tn ⟨Bc,fun l2 h2=>?_⟩;refine cL (L:=_) (M:=[y11,y12,y13]) g4 h2 (by show 13<=1000;decide) fun l6 H6 s6 g6=>?_;have u6:=u4.trans s6;dsimp only[a9];refine bR (σ':=[some (.str x),some (.int (m:Int)),some (.int c),some (.ref l6)]) rfl ?_;have all:([y1,y2,y3]++[y4,y5,y6,y7]++[y8,y9,y10]++[y11,y12,y13]).map (fun y:Str=>y.cps.toList)=xK m a b N:=by
  show [y1.cps.toList,y2.cps.toList,y3.cps.toList,y4.cps.toList,y5.cps.toList,y6.cps.toList,y7.cps.toList,y8.cps.toList,y9.cps.toList,y10.cps.toList,y11.cps.toList,y12.cps.toList,y13.cps.toList]=_;rw[e1,e2,e3,e4,e5,e6,e7,e8,e9,e10,e11,e12,e13];rfl
 have nl:([y1,y2,y3]++[y4,y5,y6,y7]++[y8,y9,y10]++[y11,y12,y13]).length=13:=rfl;generalize [y1,y2,y3]++[y4,y5,y6,y7]++[y8,y9,y10]++[y11,y12,y13]=ys at all nl g6;obtain⟨v,hv,hm⟩:=lR (xs:=ys.map V.str) (i:=c%13) (qCi _ #[1]) (by rw[qAa,nl];exact qCa _ #[1]);obtain⟨y,hy,rfl⟩:=List.mem_map.mp hm;exact⟨_,rfl,_,rfl,_,_,rfl,rfl,(by show(0:Int)<13;decide),l6,_,_,_,rfl,rfl,bA.of g6,hv,k y H6 (by rw[<- all];exact List.mem_map_of_mem hy) u6⟩
theorem tI{x y:Str}(hx:rL x)(h9:x.length<=200)(hy:y∈uZ x):rL y/\y.length<=x.length+40:=by
 have ap:∀{u v:Str},rL u->rL v->u.length+v.length<=x.length+40->rL (u++v)/\(u++v).length<=x.length+40:=fun {u v} hu hv hl=>by
  refine⟨⟨by rw[Str.length_append];lia,fun c hc=>?_⟩,by rw[Str.length_append];exact hl⟩;rw[app_list] at hc;rcases List.mem_append.mp hc with h | h
  .exact hu.2 c h
  .exact hv.2 c h
 have lit:∀{u:Str},(decide (u.length<=40)&&u.cps.toList.all (fun c=>decide (c<128/\c≠32/\c≠59)))=true->rL u/\u.length<=40:=fun {u} h=>by
  obtain⟨h1,h2⟩:=Bool.and_eq_true_iff.mp h;have h1:=of_decide_eq_true h1;exact⟨⟨by lia,fun c hc=>of_decide_eq_true (List.all_eq_true.mp h2 c hc)⟩,h1⟩
 rcases List.mem_append.mp hy with z | z
 .have w:([("":Str),"-","-0","00","+1","1.","1.0","a","1a","1_0","--1","1-","0x1",gC ("1":Str) 31,("-":Str)++gC ("9":Str) 31]:List Str).all (fun u=>decide (u.length<=40)&&u.cps.toList.all (fun c=>decide (c<128/\c≠32/\c≠59)))=true:=by decide +kernel
  obtain⟨a,b⟩:=lit (List.all_eq_true.mp w y z);exact⟨a,by lia⟩
 .simp only[qCk,qBs,or_false] at z;rcases z with rfl | rfl | rfl | rfl | rfl | rfl
  .exact ap (lit #[2]).1 hx (by show 1+_<=_;lia)
  .exact ap (lit #[2]).1 hx (by show 1+_<=_;lia)
  .exact ap hx (lit #[2]).1 (by show _+2<=_;lia)
  .exact ap hx (lit #[2]).1 (by show _+1<=_;lia)
  .exact⟨(lit #[2]).1,by show 2<=_;lia⟩
  .have ls:rL (Txt.lstripChars x ("-":Str))/\(Txt.lstripChars x ("-":Str)).length<=x.length:=by
    unfold Txt.lstripChars Txt.stripBy;split
    .exact⟨hx,qAl _⟩
    .refine⟨⟨qAk (PySem.le_strSub _ _ _) hx.1,fun c hc=>?_⟩,PySem.le_strSub _ _ _⟩;unfold stripped at hc;rw[StrLaws.strSub_toList] at hc;exact hx.2 c (qDv (qDj hc))
   exact ap (lit #[2]).1 ls.1 (by show 2+_<=_;have:=ls.2;lia)
theorem colon(x:Str):(!(Builtin.Str.occurrences x (":":Str) 0 x.length 1).isEmpty)=decide (58∈x.cps.toList):=by
 rw[show(":":Str)=⟨#[58]⟩ from by decide +kernel,StrLaws.found_one]
theorem pL{ws:List Str}{l:Addr}{i:Nat}{te:TE}{σ:St}{H:Hp}{Q:VK}(Gd:Str->Prop)(hl:H l=some (.lst (ws.map V.str)))(h100:ws.length<=100)(h1:σ[1]?=some (some (.ref l)))(h4:σ[4]?=some (some (.int (i:Int))))(hi:i<ws.length)
  (h:∀(kk:VK) (H1:Hp),aK H H1->(∀(y:Str) (H2:Hp),aK H1 H2->Gd y->kk (.str y) H2)->te σ H1 kk)
  (k:∀(y:Str) (l':Addr) (H3:Hp),Gd y->aK H H3->H3 l'=some (.lst ((kF ws i y).map V.str))->Q (.ref l') H3) :
  Be (yF K) (Be (yF K) (KG (HD K) (fF 1) jJ (qI (fF 4))) (kJ (fT te mV))) (KG (HD K) (fF 1) (qI (Be (Bs fun a b=>V.int (a+b)) (fF 4) (tC (.int 1)))) jJ) σ H Q:=by
 have e1:eE (ws.map V.str) none (some (i:Int))=(ws.take i).map V.str:=by rw[kA,<- qFp]
 have e2:eE (ws.map V.str) (some ((i:Int)+1)) none=(ws.drop (i+1)).map V.str:=by rw[show(i:Int)+1=((i+1:Nat):Int) from by push_cast;rfl,gP,<- qGm]
 refine⟨_,h1,_,h4,_,rfl,l,_,rfl,bA.of hl,fun l1 hl1=>?_⟩;rw[e1];have u1:=aK.aJ (o:=.lst ((ws.take i).map V.str)) hl1;have g1:upd H l1 (.lst ((ws.take i).map V.str)) l1=some (.lst ((ws.take i).map V.str)):=aB;generalize upd H l1 (.lst ((ws.take i).map V.str))=H1 at u1 g1|-;have tk:=qGs i ws;refine h _ H1 u1 fun y H2 s2 gy=>⟨kG,fun l2 hl2=>?_⟩;refine cL (L:=ws.take i) (M:=[y]) (s2 _ _ g1) hl2 (by show _+1<=_;lia) fun l3 H3 s3 g3=>?_;have u3:=(u1.trans s2).trans s3;refine⟨_,h1,_,h4,_,_,rfl,rfl,_,rfl,l,_,rfl,bA.of (u3 _ _ hl),fun l4 hl4=>?_⟩;rw[e2];refine cL (L:=ws.take i++[y]) (M:=ws.drop (i+1)) g3 hl4 ?_ fun l5 H5 s5 g5=>k y l5 H5 gy (u3.trans s5) g5;have:=pK (y:=y) hi;unfold kF at this;rw[qAf] at this;lia
def GY:Sp:=fun vs H Q _=>∃(l:Addr) (m:Nat) (r:R4) (c:Int),vs=[.str (b9 r.k),.ref l,.int (m:Int),.int c]/\H l=some (.lst ((bX r).map V.str))/\GoodR m r/\1<=m/\m<=6/\0<(bX r).length/\∀(l':Addr) (ws':List Str) (H':Hp),DM m r.k ws'->aK H H'->H' l'=some (.lst (ws'.map V.str))->Q (.ref l') H'
theorem zU:aN ["_law_head","_law_words","_law_many","_law_cell_here","_law_at","_law_word","_law_way"] ["_law_head","_law_words","_law_many","_law_cell_here"] (aF Jf):=#[1,2]
theorem Ks{f1 f2 f3:Addr}{fd1 fd2 fd3:qBy}(t:Tx K mg "_law_words_spoilt" Jf ["_law_head","_law_words","_law_many","_law_cell_here"] f fd)(T:#[4])(D_law_words_fewer:#[5] 1 "_law_words_fewer" ["_law_head","_law_words","_law_many","_law_cell_here"] GU f1 fd1)(D_law_no_number:#[5] 1 "_law_no_number" ["_law_word","_law_cell_here"] GR f2 fd2)(D_law_no_pair:#[5] 1 "_law_no_pair" ["_law_word","_law_many","_law_cell_here"] GX f3 fd3):
  #[5] 2 "_law_words_spoilt" ["_law_head","_law_words","_law_many","_law_cell_here"] GY f fd:=by
 refine t.mX zU (by rintro _ _ _ _⟨l,m,r,c,rfl,_⟩;rfl) fun _ _ _ _ H vs Q E hr h=>?_;obtain⟨l,m,r,c,rfl,hl,g,m1,m6,w0,k⟩:=h;refine⟨_,(aE (aX (i:=4) zU.nd rfl cO (aG bJ (pv 3) (aO aS #[0] T.cD bS (aA (pv 1) aC))))
  (aE (aX (i:=5) zU.nd rfl cO (bH bY (pv 1) (pv 4) #[6]))
  (aE (aX (i:=6) zU.nd rfl cO (aG bJ (aG cN (pv 3) aD) aD))
  (aE (bI (PW.pt (pw_and (aL nR (pv 6) aD (aT _)) (pw_and1 (aL fL aI (bH bY (pv 1) aD #[6]) #[0])))) (aH (aU (bN D_law_words_fewer hr #[1] #[0] (aA (pv 0) (aA (pv 1) (aA (pv 2) (aA (aG cN (pv 3) aD) aC))))))) aY)
  (aE (bI (PW.pt (pw_and (aL bU (pv 0) aI (aT _)) (pw_and1 (aL bU (pv 6) aD (aT _))))) (aH (aU (aG bB (bE (aA (bH bY (bE (aA aI (aA (aG aP aI (bH bY (pv 1) aD #[6])) aC))) (aG bJ (aG cN (pv 3) aD) aD) #[6]) aC)) (aR bZ (pv 1) (aW aD) aV)))) aY)
  (aE (bI (PW.pt (pw_and (aL bU (pv 0) aI (aT _)) (pw_and (aL bU (pv 6) aD (aT _)) (pw_and1 (aL fL aI (pv 5) #[0]))))) (aH (aU (aG bB (aG bB (aR bZ (pv 1) aV (aW (pv 4))) (bE (aA (aG aP aI (pv 5)) aC))) (aR bZ (pv 1) (aW (aG bQ (pv 4) aD)) aV)))) aY)
  (aE (bI (PW.pt (pw_and (aL bU (pv 0) aI (aT _)) (pw_and (aL bU (pv 6) aD (aT _)) (pw_and1 (aL lN aI (pv 5) #[0]))))) (aH (aU (aG bB (aR bZ (pv 1) (aW (pv 2)) aV) (aR bZ (pv 1) aV (aW (pv 2)))))) aY)
  (aE (bI (PW.pt (pw_and (aL bU (pv 0) aI (aT _)) (pw_and (aL bU (pv 6) aD (aT _)) (pw_and1 (aL lN aI (pv 5) #[0]))))) (aH (aU (aG bB (aG bB (aR bZ (pv 1) aV (aW (pv 4))) (bE (aA (aG aP (aG aP (aR cJ (pv 5) aV (aW aD)) aI) (aR cJ (pv 5) (aW aD) aV)) aC))) (aR bZ (pv 1) (aW (aG bQ (pv 4) aD)) aV)))) aY)
  (aE (bI (PW.pt (pw_and (aL fL aI (pv 5) #[0]) (pw_and1 (aL bU (pv 6) aD (aT _))))) (aH (aU (aG bB (aR bZ (pv 1) aV (aW (pv 4))) (aR bZ (pv 1) (aW (aG bQ (pv 4) aD)) aV)))) aY)
  (aE (bI (aL fL aI (pv 5) #[0]) (aH (aU (aG bB (aG bB (aR bZ (pv 1) aV (aW (pv 4))) (bE (aA (bN D_law_no_number hr #[1] #[0] (aA (pv 5) (aA (aG cN (pv 3) aD) aC))) aC))) (aR bZ (pv 1) (aW (aG bQ (pv 4) aD)) aV)))) aY)
  (aE (bI (aL bU (pv 6) aD (aT _)) (aH (aU (aG bB (aG bB (aR bZ (pv 1) aV (aW (pv 4))) (bE (aA (bN D_law_no_pair hr #[1] #[0] (aA (pv 5) (aA (pv 2) (aA (aG cN (pv 3) aD) aC)))) aC))) (aR bZ (pv 1) (aW (aG bQ (pv 4) aD)) aV)))) aY)
  (aE (bI (aL bU (pv 6) aD (aT _)) (aH (aU (aG bB (pv 1) (bE (aA (aG aP (aR cJ (pv 5) aV (aW aD)) aI) aC))))) aY)
  (aH (aU (aG bB (aG bB (aR bZ (pv 1) aV (aW (pv 4))) (bE (aA (aG aP (aR cJ (pv 5) aV (aW aD)) (bN D_law_no_number hr #[1] #[0] (aA (aR cJ (pv 5) (aW aD) aV) (aA (aG cN (pv 3) aD) aC)))) aC))) (aR bZ (pv 1) (aW (aG bQ (pv 4) aD)) aV)))))))))))))))),?_⟩
 obtain⟨w78,w21⟩:=dZ g m6;have wl:((bX r).map V.str).length=(bX r).length:=qAa _;have c0:=qCi c (b:=((bX r).length:Int)) (by lia);have c1:=qCa c (b:=((bX r).length:Int)) (by lia);obtain⟨i,ei⟩:∃i:Nat,c%((bX r).length:Int)=(i:Int):=⟨(c%((bX r).length:Int)).toNat,by lia⟩;have hi:i<(bX r).length:=by lia
 obtain⟨x,hx⟩:∃x,(bX r)[i]?=some x:=⟨_,qAe hi⟩;obtain⟨x0,hx0⟩:∃x,(bX r)[0]?=some x:=⟨_,qAe w0⟩;have at_:∀{j:Nat}{y:Str},(bX r)[j]?=some y->iT ((bX r).map V.str) (j:Int)=some (.str y):=fun {j y} e=>bP (by rw[qAs,e];rfl);obtain⟨xw,xl⟩:=dH g m6 x (qAp hx);obtain⟨xw0,xl0⟩:=dH g m6 x0 (qAp hx0);have cx:=jP g m6 hx;have cx0:=jP g m6 hx0;have st:∀{y z:Str},decide (V.str y=V.str z)=true->y=z:=fun h=>V.str.inj (of_decide_eq_true h);have hd:∀j:Nat,j<7->b9 r.k=b9 j->r.k=j:=fun j j7 e=>congrArg Fin.val (FG ⟨r.k,g.k7⟩ ⟨j,j7⟩ e);have cin:∀{y:Str}{b:Bool},b=(!(!(Builtin.Str.occurrences y (":":Str) 0 y.length 1).isEmpty))->(b=true->58∉y.cps.toList)/\(¬b=true->58∈y.cps.toList):=fun {y b} e=>by
  rw[colon] at e;by_cases z:58∈y.cps.toList
  .rw[decide_eq_true z] at e;exact⟨fun h=>(by rw[h] at e;cases e),fun _=>z⟩
  .rw[decide_eq_false z] at e;exact⟨fun _=>z,fun h=>absurd e h⟩
 have cinY:∀{y:Str}{b:Bool},b=(!(Builtin.Str.occurrences y (":":Str) 0 y.length 1).isEmpty)->b=true->58∈y.cps.toList:=fun {y b} e h=>by
  rw[colon,h] at e;exact of_decide_eq_true e.symm
 refine⟨_,rfl,_,rfl,l,_,rfl,.inl (bA.of hl),_,_,rfl,rfl,(by rw[wl];lia),?_⟩;dsimp only[a9];rw[wl,ei];exists _,rfl,_,rfl,l,_,_,_,rfl,rfl,bA.of hl,at_ hx;dsimp only[a9];refine⟨_,rfl,_,_,rfl,rfl,⟨by decide,by decide⟩,_,_,rfl,rfl,(by show(0:Int)<6;decide),?_⟩;dsimp only[a9];generalize c/100%6=way;refine bR (σ':=[some (.str (b9 r.k)),some (.ref l),some (.int (m:Int)),some (.int c),some (.int (i:Int)),some (.str x),some (.int way)]) rfl ?_;let Iv:St->Hp->Prop:=fun σ' H'=>σ'=[some (.str (b9 r.k)),some (.ref l),some (.int (m:Int)),some (.int c),some (.int (i:Int)),some (.str x),some (.int way)]/\H'=H;refine dG Iv (fun tail=>?_) ?_
 .refine⟨_,rfl,_,_,rfl,rfl,_,rfl,b7 (fun h1=>⟨_,rfl,l,_,_,_,rfl,rfl,bA.of hl,at_ (j:=0) hx0,_,_,rfl,rfl,_,rfl,b7 (fun h2=>?_) (fun _=>tail _ _ ⟨rfl,rfl⟩)⟩) (fun _=>bF (tail _ _ ⟨rfl,rfl⟩))⟩;have n0:=(cin rfl).1 h2;refine⟨_,rfl,_,rfl,_,rfl,_,rfl,_,_,rfl,rfl,⟨by decide,by decide⟩,b9 r.k,l,bX r,m,_,rfl,hl,by lia,fun l' ws' H' fw s' h'=>?_⟩;exact k l' ws' H' (Kq g m6 m1 (qMe fun z=>n0 (cx0.mpr (by lia))) fw) s' h'
 rintro σ' H' ⟨rfl,rfl⟩;refine dG Iv (fun tail=>?_) ?_
 .refine⟨_,rfl,rfl,_,rfl,b7 (fun h1=>⟨_,rfl,rfl,_,rfl,b7 (fun h2=>?_) (fun _=>tail _ _ ⟨rfl,rfl⟩)⟩) (fun _=>bF (tail _ _ ⟨rfl,rfl⟩))⟩;have hk:=hd 3 #[1] (st h1);have sz:fR m r.k=m+2:=by rw[hk];rfl
  refine⟨_,rfl,l,_,_,_,rfl,rfl,bA.of hl,at_ (j:=0) hx0,_,_,rfl,rfl,(qAk (show 1+x0.length<=5000 by lia) #[1]),Bk,fun l1 hl1=>?_⟩;obtain⟨v,hv,hm⟩:=lR (xs:=[V.str ("0":Str),V.str (("-":Str)++x0)]) (i:=c/600%2) (qCi _ #[1]) (qCa _ #[1]);have hy:∃y:Str,v = .str y/\rL y/\(y=("0":Str)/\r.k=3\/y.cps.toList[0]?=some 45):=by
   simp only[qCk,qBs,or_false] at hm;rcases hm with rfl | rfl
   .exact⟨_,rfl,⟨by decide,by decide +kernel⟩,.inl ⟨rfl,hk⟩⟩
   .refine⟨_,rfl,⟨by rw[Str.length_append];show 1+_<=_;lia,fun c hc=>?_⟩,.inr (by rw[app_list];rfl)⟩;rw[app_list] at hc;rcases List.mem_append.mp hc with h | h
    .rw[List.mem_singleton.mp h];decide
    .exact xw0.2 c h
  obtain⟨y,rfl,wy,ny⟩:=hy;have u1:=aK.aJ (o:=.lst [V.str ("0":Str),V.str (("-":Str)++x0)]) hl1;refine⟨_,rfl,_,_,rfl,rfl,⟨by decide,by decide⟩,_,_,rfl,rfl,(by show(0:Int)<2;decide),l1,_,_,_,rfl,rfl,bA.of aB,hv,kG,fun l2 hl2=>?_⟩;have u2:=u1.trans (aK.aJ (o:=.lst [V.str y]) hl2);have g2:upd (upd H' l1 (.lst [V.str ("0":Str),V.str (("-":Str)++x0)])) l2 (.lst [V.str y]) l2=some (.lst (([y]:List Str).map V.str)):=aB;generalize upd (upd H' l1 (.lst [V.str ("0":Str),V.str (("-":Str)++x0)])) l2 (.lst [V.str y])=H2 at u2 g2|-;refine⟨_,rfl,1,rfl,l,_,rfl,bA.of (u2 _ _ hl),fun l3 hl3=>?_⟩;rw[show eE ((bX r).map V.str) (some 1) none=((bX r).drop 1).map V.str from by rw[show(1:Int)=((1:Nat):Int) from rfl,gP,<- qGm]];refine cL (L:=[y]) (M:=(bX r).drop 1) (K:=K) g2 hl3 (by rw[qBw];show 1+_<=_;lia) fun l4 H4 s4 h4=>?_;exact k l4 (kF (bX r) 0 y) H4 (DO g m6 w0 (by lia) wy (.inr ⟨hk,rfl⟩) ny) (u2.trans s4) h4
 rintro σ' H' ⟨rfl,rfl⟩;refine dG Iv (fun tail=>?_) ?_
 .refine⟨_,rfl,rfl,_,rfl,b7 (fun h1=>⟨_,rfl,rfl,_,rfl,b7 (fun h2=>⟨_,rfl,_,_,rfl,rfl,_,rfl,b7 (fun h3=>?_) (fun _=>tail _ _ ⟨rfl,rfl⟩)⟩) (fun _=>bF (tail _ _ ⟨rfl,rfl⟩))⟩) (fun _=>bF (tail _ _ ⟨rfl,rfl⟩))⟩;have hk:=hd 5 #[1] (st h1);have hz:i<fR m r.k:=qJo fun z=>(cin rfl).1 h3 (cx.mpr z);refine pL (K:=K) (fun y=>y.cps.toList=45::x.cps.toList) hl (by lia) rfl rfl hi (fun kk H1 s1 q=>?_) fun y l' H3 ey s3 h3=>?_
  .exact bV (hJ (l:=[45]) rfl) (p7 rfl rfl) (by rw[<- str_len];simp <;> lia) rfl _ fun y ey=>q y H1 (.refl _) ey
  .refine k l' _ H3 (DO g m6 hi hz ⟨?_,fun c hc=>?_⟩ (.inl hk) (.inr (by rw[ey];rfl))) s3 h3
   .rw[str_len,ey,qAn,<- str_len];lia
   .rw[ey] at hc;rcases List.mem_cons.mp hc with rfl | h
    .decide
    .exact xw.2 c h
 rintro σ' H' ⟨rfl,rfl⟩;refine dG Iv (fun tail=>?_) ?_
 .refine⟨_,rfl,rfl,_,rfl,b7 (fun h1=>⟨_,rfl,rfl,_,rfl,b7 (fun h2=>⟨_,rfl,_,_,rfl,rfl,_,rfl,b7 (fun h3=>?_) (fun _=>tail _ _ ⟨rfl,rfl⟩)⟩) (fun _=>bF (tail _ _ ⟨rfl,rfl⟩))⟩) (fun _=>bF (tail _ _ ⟨rfl,rfl⟩))⟩;have hk:=hd 5 #[1] (st h1);have hz:=cx.mp (cinY rfl h3);have sz:fR m r.k=m:=by rw[hk];rfl
  refine⟨_,rfl,_,rfl,(m:Int),rfl,l,_,rfl,bA.of hl,fun l1 hl1=>?_⟩;rw[show eE ((bX r).map V.str) (some (m:Int)) none=((bX r).drop m).map V.str from by rw[gP,<- qGm]];have u1:=aK.aJ (o:=.lst (((bX r).drop m).map V.str)) hl1;have g1:upd H' l1 (.lst (((bX r).drop m).map V.str)) l1=some (.lst (((bX r).drop m).map V.str)):=aB;generalize upd H' l1 (.lst (((bX r).drop m).map V.str))=H1 at u1 g1|-;refine⟨_,rfl,_,rfl,(m:Int),rfl,l,_,rfl,bA.of (u1 _ _ hl),fun l2 hl2=>?_⟩;rw[show eE ((bX r).map V.str) none (some (m:Int))=((bX r).take m).map V.str from by rw[kA,<- qFp]];refine cL (L:=(bX r).drop m) (M:=(bX r).take m) (K:=K) g1 hl2 (by rw[qBw,qCs];lia) fun l4 H4 s4 h4=>?_;exact k l4 _ H4 (DQ g m6 m1 hk (by lia)) (u1.trans s4) h4
 rintro σ' H' ⟨rfl,rfl⟩;refine dG Iv (fun tail=>?_) ?_
 .refine⟨_,rfl,rfl,_,rfl,b7 (fun h1=>⟨_,rfl,rfl,_,rfl,b7 (fun h2=>⟨_,rfl,_,_,rfl,rfl,_,rfl,b7 (fun h3=>?_) (fun _=>tail _ _ ⟨rfl,rfl⟩)⟩) (fun _=>bF (tail _ _ ⟨rfl,rfl⟩))⟩) (fun _=>bF (tail _ _ ⟨rfl,rfl⟩))⟩;have hk:=hd 5 #[1] (st h1);have hz:=cx.mp (cinY rfl h3);obtain⟨q,ex,qa,qb,qc,_⟩:=pJ g hz hx;have xs:x.cps.toList=(48+q.1)::45::(48+q.2.1)::58::(nW q.2.2).cps.toList:=by rw[ex];exact c9 (by lia) (by lia)
  have x4:4<=x.length:=by rw[str_len,xs];simp
  have nl:=cR (tD qc);refine pL (K:=K) (fun y=>y.cps.toList=(48+q.1)::45::(48+q.2.1)::58::45::(nW q.2.2).cps.toList) hl (by lia) rfl rfl hi (fun kk H1 s1 qq=>?_) fun y l' H3 ey s3 h3=>?_
  .exact bV (bV (lE (j:=4) (l:=[48+q.1,45,48+q.2.1,58]) rfl (by lia) x4 (by rw[xs];rfl)) (hJ (l:=[45]) rfl) (by simp) rfl) (eK (j:=4) (l:=(nW q.2.2).cps.toList) rfl (by lia) x4 (by rw[xs];rfl)) (by rw[<- str_len];simp <;> lia) rfl _ fun y ey=>qq y H1 (.refl _) ey
  .refine k l' _ H3 (FQ g m6 hi hz ⟨?_,fun c hc=>?_⟩ hk ey) s3 h3
   .rw[str_len,ey];simp only[qAn];rw[<- str_len];lia
   .rw[ey] at hc;simp only[qCk] at hc;rcases hc with h | h | h | h | h | h
    .lia
    .lia
    .lia
    .lia
    .lia
    .exact(vB (tD qc)).2 c h
 rintro σ' H' ⟨rfl,rfl⟩;refine dG Iv (fun tail=>?_) ?_
 .refine⟨_,rfl,_,_,rfl,rfl,_,rfl,b7 (fun h1=>⟨_,rfl,rfl,_,rfl,b7 (fun h2=>?_) (fun _=>tail _ _ ⟨rfl,rfl⟩)⟩) (fun _=>bF (tail _ _ ⟨rfl,rfl⟩))⟩;have hz:i<fR m r.k:=qJo fun z=>(cin rfl).1 h1 (cx.mpr z);refine⟨_,rfl,_,rfl,(i:Int),rfl,l,_,rfl,bA.of hl,fun l1 hl1=>?_⟩;rw[show eE ((bX r).map V.str) none (some (i:Int))=((bX r).take i).map V.str from by rw[kA,<- qFp]];have u1:=aK.aJ (o:=.lst (((bX r).take i).map V.str)) hl1;have g1:upd H' l1 (.lst (((bX r).take i).map V.str)) l1=some (.lst (((bX r).take i).map V.str)):=aB;generalize upd H' l1 (.lst (((bX r).take i).map V.str))=H1 at u1 g1|-;refine⟨_,rfl,_,rfl,_,_,rfl,rfl,_,rfl,l,_,rfl,bA.of (u1 _ _ hl),fun l2 hl2=>?_⟩;rw[show eE ((bX r).map V.str) (some ((i:Int)+1)) none=((bX r).drop (i+1)).map V.str from by rw[show(i:Int)+1=((i+1:Nat):Int) from by push_cast;rfl,gP,<- qGm]];refine cL (L:=(bX r).take i) (M:=(bX r).drop (i+1)) (K:=K) g1 hl2 (by rw[qBw,qCs];lia) fun l4 H4 s4 h4=>?_;exact k l4 _ H4 (FR g m6 hi hz) (u1.trans s4) h4
 rintro σ' H' ⟨rfl,rfl⟩;refine dG (fun σ' H2=>Iv σ' H2/\fR m r.k<=i) (fun tail=>?_) ?_
 .refine⟨_,rfl,_,_,rfl,rfl,_,rfl,b7 (fun h1=>?_) (fun h1=>tail _ _ ⟨⟨rfl,rfl⟩,cx.mp ((cin rfl).2 h1)⟩)⟩;have hz:i<fR m r.k:=qJo fun z=>(cin rfl).1 h1 (cx.mpr z);obtain⟨n,ex,nb,_⟩:=zR g hz hx;refine pL (K:=K) (fun y=>y∈uZ x) hl (by lia) rfl rfl hi (fun kk H1 s1 q=>?_) fun y l' H3 hy s3 h3=>?_
  .exact⟨_,rfl,_,rfl,_,_,rfl,rfl,⟨by decide,by decide⟩,x,_,rfl,by lia,fun y H2 hy s2=>q y H2 s2 hy⟩
  .exact k l' _ H3 (Kp g m6 hi hz (tI xw (by lia) hy).1 (zP ⟨n,ex,nb⟩ hy)) s3 h3
 rintro σ' H' ⟨⟨rfl,rfl⟩,hz⟩;obtain⟨q,rfl,qa,qb,qc,_⟩:=pJ g hz hx;have xs:(pW q).cps.toList=(48+q.1)::45::(48+q.2.1)::58::(nW q.2.2).cps.toList:=c9 (by lia) (by lia);have x4:4<=(pW q).length:=by rw[str_len,xs];simp
 have nl:=cR (tD qc);refine dG Iv (fun tail=>?_) ?_
 .refine⟨_,rfl,rfl,_,rfl,b7 (fun h1=>?_) (fun _=>tail _ _ ⟨rfl,rfl⟩)⟩;refine pL (K:=K) (fun y=>y.cps.toList∈xK m q.1 q.2.1 (nW q.2.2).cps.toList) hl (by lia) rfl rfl hi (fun kk H1 s1 qq=>?_) fun y l' H3 hy s3 h3=>?_
  .exact⟨_,rfl,_,rfl,_,rfl,_,_,rfl,rfl,⟨by decide,by decide⟩,q,m,_,rfl,qa,qb,m6,qc,fun y H2 hy s2=>qq y H2 s2 hy⟩
  .refine k l' _ H3 (zS g m6 hi hz ?_ (FT qa qb m6 hy)) s3 h3;have big:∀z∈xK m q.1 q.2.1 (nW q.2.2).cps.toList,z.length<=250/\∀c∈z,c<128/\c≠32/\c≠59:=by
    have w:=(vB (tD qc)).2;rw[str_len] at nl;intro z hz;simp only[xK,qGe,qEk,qCk,qBs,or_false] at hz;have al:∀{u:List Nat},(∀c∈u,c<128/\c≠32/\c≠59)->∀{c:Nat},(c<128/\c≠32/\c≠59)->∀c'∈c::u,c'<128/\c'≠32/\c'≠59:=fun {u} hu {c} hc c' h=>by
     rcases List.mem_cons.mp h with rfl | h
     .exact hc
     .exact hu c' h
    rcases hz with rfl | rfl | rfl | rfl | rfl | rfl | rfl | rfl | rfl | rfl | rfl | rfl | rfl
    .exact⟨by simp only[qAn];lia,al (al (al (al w (by lia)) (by lia)) (by lia)) (by lia)⟩
    .exact⟨by simp only[qAn];lia,al (al (al (al w (by lia)) (by lia)) (by lia)) (by lia)⟩
    .exact⟨by simp only[qAn];lia,al (al (al (al w (by lia)) (by lia)) (by lia)) (by lia)⟩
    .exact⟨by simp only[qAn];lia,al (al (al (al (al w (by lia)) (by lia)) (by lia)) (by lia)) (by lia)⟩
    .exact⟨by simp only[qAn];lia,al (al w (by lia)) (by lia)⟩
    .exact⟨by simp only[qAn];lia,al (al (al w (by lia)) (by lia)) (by lia)⟩
    .exact⟨by simp only[qAn];lia,al (al (al (al w (by lia)) (by lia)) (by lia)) (by lia)⟩
    .refine⟨by simp only[qAn,qAf,qGt];lia,al (al (al (al (fun c hc=>?_) (by lia)) (by lia)) (by lia)) (by lia)⟩;rcases List.mem_append.mp hc with h | h
     .exact w c h
     .simp only[qCk,qBs,or_false] at h;lia
    .exact⟨by simp only[qAn];lia,al (al (al (al (al (al w (by lia)) (by lia)) (by lia)) (by lia)) (by lia)) (by lia)⟩
    .exact⟨by simp only[qAn];lia,al (al (al (al (al w (by lia)) (by lia)) (by lia)) (by lia)) (by lia)⟩
    .exact⟨by simp only[qAn];lia,al (al (al (al w (by lia)) (by lia)) (by lia)) (by lia)⟩
    .exact⟨by simp only[qAn];lia,al (al (al (al w (by lia)) (by lia)) (by lia)) (by lia)⟩
    .exact⟨by simp only[qAn,qGt];lia,al (al (al (fun c h=>by cases h) (by lia)) (by lia)) (by lia)⟩
   obtain⟨b1,b2⟩:=big _ hy;exact⟨by rw[str_len];exact b1,b2⟩
 rintro σ' H' ⟨rfl,rfl⟩;have t4:(pW q).cps.toList.take 4=[48+q.1,45,48+q.2.1,58]:=by rw[xs];rfl
 have d4:(pW q).cps.toList.drop 4=(nW q.2.2).cps.toList:=by rw[xs];rfl
 refine dG Iv (fun tail=>?_) ?_
 .refine⟨_,rfl,rfl,_,rfl,b7 (fun h1=>?_) (fun _=>tail _ _ ⟨rfl,rfl⟩)⟩;exists _,rfl;show kJ _ _ _ _;refine tl (nI (l:=[48+q.1,45,48+q.2.1,58,55]) (bV (lE (j:=4) rfl (by lia) x4 t4) (hJ (l:=[55]) rfl) (by simp) rfl) fun y ey=>tn ⟨kG,fun l2 hl2=>?_⟩);refine cL (L:=bX r) (M:=[y]) (K:=K) hl hl2 (by show _+1<=_;lia) fun l4 H4 s4 h4=>?_;refine k l4 _ H4 (DP g m6 hx hz (by lia) (by lia) qc (dY ?_)) s4 h4;rw[ey,c9 (p:=(q.1,q.2.1,7)) (by show q.1<10;lia) (by show q.2.1<10;lia)];rw[show(nW (q.1,q.2.1,(7:Int)).2.2).cps.toList=[55] from by show(nW (7:Int)).cps.toList=_;decide +kernel];rfl
 rintro σ' H' ⟨rfl,rfl⟩;refine pL (K:=K) (fun y=>∃u,u∈uZ (nW q.2.2)/\y.cps.toList=[48+q.1,45,48+q.2.1,58]++u.cps.toList) hl (by lia) rfl rfl hi (fun kk H1 s1 qq=>?_) fun y l' H3 hy s3 h3=>?_
 .refine lE (j:=4) rfl (by lia) x4 t4 _ fun y1 e1=>?_;refine eK (j:=4) (i:=5) rfl (by lia) x4 d4 _ fun y2 e2=>?_;have e2:=dY e2;subst e2;refine⟨_,rfl,_,_,rfl,rfl,⟨by decide,by decide⟩,nW q.2.2,_,rfl,by lia,fun y H2 hy s2=>?_⟩;have yl:=(tI (vB (tD qc)) (by lia) hy).2;refine⟨y1,y,rfl,rfl,?_,qq _ H2 s2 ⟨y,hy,by rw[app_list,e1]⟩⟩;have:5000<=qAg:=by decide
  rw[str_len y1,e1];show 4+_<=_;lia
 .obtain⟨u,hu,ey⟩:=hy;obtain⟨uw,ul⟩:=tI (vB (tD qc)) (by lia) hu;refine k l' _ H3 (zS g m6 hi hz ⟨?_,fun c hc=>?_⟩ ?_) s3 h3
  .rw[str_len,ey,qAf,<- str_len];show 4+_<=_;lia
  .rw[ey] at hc;rcases List.mem_append.mp hc with h | h
   .simp only[qCk,qBs,or_false] at h;lia
   .exact uw.2 c h
  .rintro⟨q',e',a1,a2,a3⟩;rw[e',c9 (by lia) (by lia)] at ey;obtain⟨_,ey⟩:=List.cons.inj ey;obtain⟨_,ey⟩:=List.cons.inj ey;obtain⟨_,ey⟩:=List.cons.inj ey;obtain⟨_,ey⟩:=List.cons.inj ey;exact zP ⟨_,rfl,qc⟩ hu ⟨q'.2.2,(dY ey).symm,a3⟩
structure zV (m:Nat) (x:Str):Prop where
 pt:Ln x
 np:uF 59 32 x
 no:¬FI m x
def c8(ws:List Str):List Nat:=ws.flatMap fun w=>32::w.cps.toList
theorem join_list:∀(ws:List Str) (a:Str),(Str.join (" ":Str) (a::ws)).cps.toList=a.cps.toList++c8 ws
 | [],a=>(qBx _).symm
 | q::t,a=>by
  show(a++(" ":Str)++Str.join (" ":Str) (q::t)).cps.toList=_;rw[app_list,app_list,join_list t q,qCc];rfl
theorem xM{x a:Str}{ws:List Str}(ex:x.cps.toList=a.cps.toList++c8 ws)(fr:∀w∈a::ws,32∉w.cps.toList):Txt.split x (" ":Str)=a::ws:=by
 have e:x=Txt.join (" ":Str) (a::ws):=dY (by rw[ex,show Txt.join (" ":Str) (a::ws)=Str.join (" ":Str) (a::ws) from StrLaws.glued_eq_join _ _,join_list]);rw[e];exact oJ (c:=32) (r:=[]) rfl #[2] (fun z=>nomatch z) fr
theorem rM:∀{ws:List Str},(∀w∈ws,w.length<=250)->(c8 ws).length<=251*ws.length
 | [],_=>qAl _
 | q::t,h=>by
  have ih:=rM (ws:=t) fun w hw=>h w (qAq _ hw);have q2:=h q qAr;rw[str_len] at q2;show(32::q.cps.toList++c8 t).length<=_;rw[qAf,qAn,qAn];lia
theorem rN{ws:List Str}{c:Nat}(h:c∈c8 ws):c=32\/∃w∈ws,c∈w.cps.toList:=by
 obtain⟨w,hw,h⟩:=List.mem_flatMap.mp h;rcases List.mem_cons.mp h with h | h
 .exact .inl h
 .exact .inr ⟨w,hw,h⟩
theorem jQ(u v:List Str):c8 (u++v)=c8 u++c8 v:=List.flatMap_append
theorem jR{m:Nat}{x a:Str}{ws:List Str}(ex:x.cps.toList=a.cps.toList++c8 ws)(fa:32∉a.cps.toList)(al:a.length<=10)(wd:∀w∈ws,w.length<=250/\∀c∈w.cps.toList,c<128/\c≠32)(wl:ws.length<=200)(FH:(a=("pairs":Str)\/a=("match":Str)\/a=("net":Str))->ws.length<64)(np:uF 59 32 x)(no:¬∃r qs,RowW m (a::ws) r qs):zV m x:=by
 have sp:=xM ex fun w hw=>by
  rcases List.mem_cons.mp hw with rfl | hw
  .exact fa
  .exact fun h=>((wd w hw).2 32 h).2 rfl
 have tl:=rM fun w hw=>(wd w hw).1;refine⟨⟨?_,a,ws,sp,by lia,fun w hw=>⟨fun c hc=>((wd w hw).2 c hc).1,by have:=(wd w hw).1;lia⟩,FH⟩,np,fun⟨r,qs,h⟩=>no ⟨r,qs,by rw[sp] at h;exact h⟩⟩;rw[str_len,ex,qAf,<- str_len];lia
theorem tJ{x a:Str}{ws:List Str}(ex:x.cps.toList=a.cps.toList++c8 ws)(fa:59∉a.cps.toList)(wd:∀w∈ws,59∉w.cps.toList):uF 59 32 x:=uF.free fun h=>by
 rw[ex] at h;rcases List.mem_append.mp h with h | h
 .exact fa h
 .rcases rN h with h | ⟨w,hw,h⟩
  .cases h
  .exact wd w hw h
theorem DS{x:Str}{l:List Nat}(ex:x.cps.toList=l++[59])(hl:59∉l):uF 59 32 x:=fun k e h=>by
 rw[ex] at e h;rcases qBj k l.length with z | z
 .rw[qAy z] at e;exact hl (qAp e)
 .rw[qAz (by lia)] at h;obtain⟨y,_⟩:=List.getElem?_eq_some_iff.mp h;have y:k+1-l.length<1:=y;lia
theorem nJ{m:Nat}{a:Str}{ws:List Str}(h:∀j:Nat,j<7->a≠b9 j):¬∃r qs,RowW m (a::ws) r qs:=fun⟨r,qs,g,_,e⟩=>h r.k g.k7 (List.cons.inj e).1
theorem DT:∀k:_root_.Fin 7,(b9 k.1).cps.toList.all (fun c=>decide (97<=c/\c<=122))=true:=by decide +kernel
theorem RowW.sg{m:Nat}{ws:List Str}{r:R4}{qs:List P3}(m6:m<=6)(h:RowW m ws r qs):∀x∈ws,∀c∈x.cps.toList,c=45\/(48<=c/\c<=58)\/(97<=c/\c<=122):=fun x hx c hc=>by
 obtain⟨g,pm,rfl⟩:=h;rcases List.mem_cons.mp hx with rfl | hx
 .exact .inr (.inr (of_decide_eq_true (List.all_eq_true.mp (DT ⟨r.k,g.k7⟩) c hc)))
 .rcases List.mem_append.mp hx with h | h
  .obtain⟨n,_,rfl⟩:=List.mem_map.mp h;have:=DL n c hc;lia
  .obtain⟨q,hq,rfl⟩:=List.mem_map.mp h;obtain⟨a,b,_⟩:=g.p6 m6 q (pm.mem_iff.mp hq);have:=GV (q:=q) (by lia) (by lia) c hc;lia
theorem kD.mem{m k:Nat}{ws:List Str}{x:Str}(k7:k<7)(h:kD m k ws)(hx:x∈ws):fO x\/OP m x:=by
 obtain⟨i,hi,e⟩:=qIq hx;have e:ws[i]?=some x:=by rw[qAe hi,e]
 rcases qBj i (fR m k) with z | z
 .obtain⟨n,a,b,_⟩:=h.num k7 z e;exact .inl ⟨n,a,b⟩
 .obtain⟨q,a,b,c,d,_⟩:=h.pair k7 z e;exact .inr ⟨q,a,b,c,d⟩
theorem zW{m:Nat}{x:Str}(m6:m<=6)(h:OP m x):4<=x.length:=by
 obtain⟨q,rfl,a,b,_⟩:=h;rw[str_len,c9 (by lia) (by lia),qAf];exact qJp 4 _
theorem DU{x:Str}(h:fO x):1<=x.length:=by
 obtain⟨n,rfl,_⟩:=h;rw[str_len];exact List.length_pos_iff.mpr (Oq n)
def nK(r:R4):List Nat:=(b9 r.k).cps.toList++c8 (bX r)
theorem xN(r:R4):(bK r).cps.toList=nK r:=by
 delta bK zH sY;rw[show Txt.join (" ":Str) (b9 r.k::(r.ns.map nW++r.ps.map pW))=Str.join (" ":Str) (b9 r.k::(r.ns.map nW++r.ps.map pW)) from StrLaws.glued_eq_join _ _,join_list];rfl
theorem Ot:∀k j:_root_.Fin 7,Txt.upper (b9 k.1)≠b9 j.1/\("x":Str)++b9 k.1≠b9 j.1/\b9 k.1++(":":Str)≠b9 j.1/\(b9 k.1).cps.toList.drop 1≠(b9 j.1).cps.toList:=by decide +kernel
theorem Ou:∀k:_root_.Fin 7,Builtin.Str.tooLong (Txt.upper (b9 k.1)).length=false/\(Txt.upper (b9 k.1)).length<=5/\(Txt.upper (b9 k.1)).cps.toList.all (fun c=>decide (c≠32/\c≠59))=true:=by decide +kernel
section
variable {m:Nat}{r:R4}{y:Str} (g:GoodR m r) (m6:m<=6)
include g m6
theorem xO{n:Nat}(h:(r.k=2\/r.k=4\/r.k=5)->n<64):(b9 r.k=("pairs":Str)\/b9 r.k=("match":Str)\/b9 r.k=("net":Str))->n<64:=fun e=>by
 have hd:∀j:Nat,j<7->b9 r.k=b9 j->r.k=j:=fun j j7 e=>congrArg Fin.val (FG ⟨r.k,g.k7⟩ ⟨j,j7⟩ e);rcases e with e | e | e
 .exact h (.inl (hd 2 #[1] e))
 .exact h (.inr (.inl (hd 4 #[1] e)))
 .exact h (.inr (.inr (hd 5 #[1] e)))
theorem tK:∀w∈bX r,w.length<=250/\∀c∈w.cps.toList,c<128/\c≠32:=fun w hw =>
 let ⟨⟨a,b⟩,_⟩:=dH g m6 w hw;⟨a,fun c hc=>⟨(b c hc).1,(b c hc).2.1⟩⟩
theorem xP:∀w∈bX r,59∉w.cps.toList:=fun w hw h=>((dH g m6 w hw).1.2 59 h).2.2 rfl
theorem GZ:59∉nK r:=fun h=>by
 rcases List.mem_append.mp h with h | h
 .exact(dA g.k7).2.1 h
 .rcases rN h with h | ⟨w,hw,h⟩
  .cases h
  .exact xP g m6 w hw h
theorem tL{a:Str}(ey:y.cps.toList=a.cps.toList++c8 (bX r))(fa:32∉a.cps.toList/\59∉a.cps.toList)(al:a.length<=10)(no:∀j:Nat,j<7->a≠b9 j):zV m y:=by
 obtain⟨w78,_⟩:=dZ g m6;refine jR ey fa.1 al (tK g m6) (by lia) (fun h=>?_) (tJ ey fa.2 (xP g m6)) (nJ no);rcases h with h | h | h
 .exact absurd h (no 2 #[1])
 .exact absurd h (no 4 #[1])
 .exact absurd h (no 5 #[1])
theorem xQ{z:Str}{W:List Str}(ey:y.cps.toList=(b9 r.k).cps.toList++c8 W)(wl:W.length<=200)(FH:(r.k=2\/r.k=4\/r.k=5)->W.length<64)(wd:∀w∈W,rL w)(no:¬kD m r.k W):zV m y :=
 jR ey (dA g.k7).1 (qAk (dA g.k7).2.2 #[1]) (fun w hw=>⟨(wd w hw).1,fun c hc=>⟨((wd w hw).2 c hc).1,((wd w hw).2 c hc).2.1⟩⟩) wl (xO g m6 FH) (tJ ey (dA g.k7).2.1 fun w hw h=>((wd w hw).2 59 h).2.2 rfl) no
theorem v0(ey:y.cps.toList=32::nK r):zV m y:=by
 obtain⟨w78,_⟩:=dZ g m6;have ey:y.cps.toList=(⟨#[]⟩:Str).cps.toList++c8 (b9 r.k::bX r):=ey;have nh:∀j:Nat,j<7->(⟨#[]⟩:Str)≠b9 j:=fun j j7=>by
  have:∀j:_root_.Fin 7,(⟨#[]⟩:Str)≠b9 j.1:=by decide +kernel
  exact this ⟨j,j7⟩
 have hw:∀w∈b9 r.k::bX r,w.length<=250/\∀c∈w.cps.toList,c<128/\c≠32:=fun w hw=>by
  rcases List.mem_cons.mp hw with rfl | hw
  .refine⟨qAk (dA g.k7).2.2 #[1],fun c hc=>?_⟩;have:=of_decide_eq_true (List.all_eq_true.mp (DT ⟨r.k,g.k7⟩) c hc);lia
  .exact tK g m6 w hw
 refine jR ey (fun h=>by cases h) #[1] hw (by rw[qAn];lia) (fun h=>?_) (tJ ey (fun h=>by cases h) fun w hw=>?_) (nJ nh)
 .rcases h with h | h | h
  .exact absurd h (nh 2 #[1])
  .exact absurd h (nh 4 #[1])
  .exact absurd h (nh 5 #[1])
 .rcases List.mem_cons.mp hw with rfl | hw
  .exact(dA g.k7).2.1
  .exact xP g m6 w hw
theorem Ha{z:Str}(ey:y.cps.toList=nK r++32::z.cps.toList)(wz:rL z)(no:z.length<4):zV m y:=by
 obtain⟨w78,w21⟩:=dZ g m6;have ey:y.cps.toList=(b9 r.k).cps.toList++c8 (bX r++[z]):=by
  rw[ey,jQ];delta nK;rw[qCc];congr 2;exact(qBx _).symm
 refine xQ (z:=z) g m6 ey (by rw[qAf];show _+1<=_;lia) (fun h=>by have:=w21 h;rw[qAf];show _+1<_;lia) (fun w hw=>?_) fun h=>?_
 .rcases List.mem_append.mp hw with hw | hw
  .exact(dH g m6 w hw).1
  .rw[List.mem_singleton.mp hw];exact wz
 .obtain⟨l1,l2⟩:=h.len g.k7;have sl:fR m r.k<=(bX r).length:=by delta bX;rw[qAf,qAa,g.sz];lia
  by_cases hk:r.k=2\/r.k=4\/r.k=5
  .obtain⟨q,a,b,c,d,_⟩:=h.pair g.k7 sl (x:=z) (by rw[qAz (qAl _),qHc];rfl);have:=zW m6 ⟨q,a,b,c,d⟩;lia
  .have p0:r.ps=[]:=g.pn (by lia) (by lia) (by lia);have z:=l2 (by lia) (by lia) (by lia);rw[qAf] at z;have:(bX r).length=fR m r.k:=by delta bX;rw[p0,qEe,qBx,qAa,g.sz]
   have z:(bX r).length+1=fR m r.k:=z;lia
theorem DV{c:Nat}(ey:y.cps.toList=nK r++[c])(hc:c=59\/c=10):zV m y:=by
 obtain⟨w78,w21⟩:=dZ g m6;have np:uF 59 32 y:=by
  rcases hc with rfl | rfl
  .exact DS ey (GZ g m6)
  .refine uF.free fun h=>?_;rw[ey] at h;rcases List.mem_append.mp h with h | h
   .exact GZ g m6 h
   .exact absurd (List.mem_singleton.mp h) #[1]
 rcases List.eq_nil_or_concat (bX r) with e | ⟨W,z,e⟩
 .have ey:y.cps.toList=(b9 r.k++(⟨#[c]⟩:Str)).cps.toList++c8 []:=by
   rw[ey];delta nK;rw[e,app_list];show _++[]++[c]=_++[c]++[];rw[qBx,qBx]
  have nh:∀j:Nat,j<7->b9 r.k++(⟨#[c]⟩:Str)≠b9 j:=fun j j7 e=>by
   have:c∈(b9 j).cps.toList:=by rw[<- e,app_list];exact qAx _ (List.mem_singleton.mpr rfl)
   have:=of_decide_eq_true (List.all_eq_true.mp (DT ⟨j,j7⟩) c this);lia
  refine jR ey (fun h=>?_) (by rw[Str.length_append];have:=(dA g.k7).2.2;show _+1<=_;lia) (fun w hw=>by cases hw) #[1] (fun _=>by decide) np (nJ nh);rw[app_list] at h;rcases List.mem_append.mp h with h | h
  .exact(dA g.k7).1 h
  .have:=List.mem_singleton.mp h;lia
 .have e:bX r=W++[z]:=by rw[e];simp
  have ey:y.cps.toList=(b9 r.k).cps.toList++c8 (W++[z++(⟨#[c]⟩:Str)]):=by
   rw[ey];delta nK;rw[e,jQ,jQ,qCc,qCc];congr 2;show(32::z.cps.toList++[])++[c]=32::(z++(⟨#[c]⟩:Str)).cps.toList++[];rw[app_list,qBx,qBx];rfl
  have wz:=dH g m6 z (by rw[e];exact qAx _ (List.mem_singleton.mpr rfl));have ll:(W++[z++(⟨#[c]⟩:Str)]).length=(bX r).length:=by rw[e,qAf,qAf];rfl
  refine jR ey (dA g.k7).1 (qAk (dA g.k7).2.2 #[1]) (fun w hw=>?_) (by lia) (xO g m6 fun h=>by have:=w21 h;lia) np fun⟨r',qs,h⟩=>?_
  .rcases List.mem_append.mp hw with hw | hw
   .exact tK g m6 w (by rw[e];exact qDw _ hw)
   .rw[List.mem_singleton.mp hw];refine⟨by rw[Str.length_append];show _+1<=_;lia,fun d hd=>?_⟩;rw[app_list] at hd;rcases List.mem_append.mp hd with hd | hd
    .have:=wz.1.2 d hd;lia
    .have:=List.mem_singleton.mp hd;lia
  .have:=h.sg m6 (z++(⟨#[c]⟩:Str)) (qAq _ (qAx _ (List.mem_singleton.mpr rfl))) c (by rw[app_list];exact qAx _ (List.mem_singleton.mpr rfl));lia
theorem Ov(ey:y.cps.toList=StrLaws.dbl 32 (nK r)++[32]):zV m y:=by
 obtain⟨w78,w21⟩:=dZ g m6;have dt:∀ws:List Str,(∀w∈ws,32∉w.cps.toList)->StrLaws.dbl 32 (c8 ws)=c8 (ws.flatMap fun w=>[(⟨#[]⟩:Str),w]):=fun ws=>by
  induction ws with
  | nil=>intro _;rfl
  | cons q t ih =>
   intro h;show StrLaws.dbl 32 ([32]++q.cps.toList++c8 t)=32::32::q.cps.toList++c8 (t.flatMap fun w=>[(⟨#[]⟩:Str),w]);rw[StrLaws.dbl_append,StrLaws.dbl_append,StrLaws.dbl_one,StrLaws.dbl_free _ _ (h q qAr),ih fun w hw=>h w (qAq _ hw)];rfl
 have ey:y.cps.toList=(b9 r.k).cps.toList++c8 (((bX r).flatMap fun w=>[(⟨#[]⟩:Str),w])++[(⟨#[]⟩:Str)]):=by
  rw[ey,jQ];delta nK;rw[StrLaws.dbl_append,StrLaws.dbl_free _ _ (dA g.k7).1,dt _ fun w hw h=>((tK g m6 w hw).2 32 h).2 rfl,qCc];rfl
 have fl:∀ws:List Str,(ws.flatMap fun w=>[(⟨#[]⟩:Str),w]).length=2*ws.length:=fun ws=>by
  induction ws with
  | nil=>rfl
  | cons q t ih =>
   show([(⟨#[]⟩:Str),q]++t.flatMap fun w=>[(⟨#[]⟩:Str),w]).length=_;rw[qAf,ih];show 2+2*t.length=2*(t.length+1);lia
 have e0:rL (⟨#[]⟩:Str):=⟨by decide,fun c hc=>by cases hc⟩;refine xQ (z:=y) g m6 ey (by rw[qAf,fl];show _+1<=_;lia) (fun h=>by have:=w21 h;rw[qAf,fl];show _+1<_;lia) (fun w hw=>?_) fun h=>?_
 .rcases List.mem_append.mp hw with hw | hw
  .obtain⟨u,hu,hw⟩:=List.mem_flatMap.mp hw;simp only[qCk,qBs,or_false] at hw;rcases hw with rfl | rfl
   .exact e0
   .exact(dH g m6 _ hu).1
  .rw[List.mem_singleton.mp hw];exact e0
 .rcases h.mem g.k7 (x:=(⟨#[]⟩:Str)) (qAx _ (List.mem_singleton.mpr rfl)) with z | z
  .exact absurd (DU z) #[1]
  .exact absurd (zW m6 z) #[1]
theorem FU{W:List Str}(ey:y=Txt.join (" ":Str) (b9 r.k::W))(s:DM m r.k W):zV m y :=
 xQ (z:=y) g m6 (by rw[ey,show Txt.join (" ":Str) (b9 r.k::W)=Str.join (" ":Str) (b9 r.k::W) from StrLaws.glued_eq_join _ _,join_list]) s.len s.FH s.wd s.no
end
theorem tM{m:Nat}{y:Str}(ey:y.cps.toList=[]):zV m y:=by
 have nh:∀j:Nat,j<7->(⟨#[]⟩:Str)≠b9 j:=fun j j7=>by
  have:∀j:_root_.Fin 7,(⟨#[]⟩:Str)≠b9 j.1:=by decide +kernel
  exact this ⟨j,j7⟩
 have ey:y.cps.toList=(⟨#[]⟩:Str).cps.toList++c8 []:=ey;exact jR ey (fun h=>by cases h) #[1] (fun w hw=>by cases hw) #[1] (fun _=>by decide) (tJ ey (fun h=>by cases h) fun w hw=>by cases hw) (nJ nh)
theorem zX(c:Nat):∀l:List Nat,(StrLaws.dbl c l).length<=2*l.length
 | []=>qAl _
 | k::r=>by
  have ih:=zX c r;show(if k=c then k::k::StrLaws.dbl c r else k::StrLaws.dbl c r).length<=_;split
  .show _+1+1<=2*(r.length+1);lia
  .show _+1<=2*(r.length+1);lia
theorem tN{σ:St}{H:Hp}{i j:Nat}{x z:Str}{l:List Nat}(h:σ[i]?=some (some (.str x)))(h2:σ[j]?=some (some (.str z)))(hx:x.length<=100000)(hz:z.length<=x.length)(e:x.cps.toList.drop z.length=l):Ev (KG EM (fF i) (qI (Pf (fun xs H Q=>∃z,xs=[V.str z]/\z.length<=qAg/\Q (V.int (z.length:Int)) H) (fT (fF j) mV))) jJ) σ H l:=fun Q q =>
 ⟨_,h,_,h2,z,rfl,qAk hz (qAk hx #[1]),_,rfl,x,rfl,qAk (slice_le _ _ _) (qAk hx #[1]),q _ (by rw[fW x hz,e])⟩
theorem AY{H:Hp}{bs:List Addr}{ps:List P3}(h:A2 (dR H) bs ps):∃ds,cF K H (bs.map V.ref) ds/\ds.length=ps.length/\PyData.depthAll ds<=8:=by
 induction h with
 | nil=>exact⟨[],.nil,rfl,by simp[PyData.depthAll]⟩
 | @cons b p bs ps r _ ih =>
  obtain⟨ds,h1,h2,h3⟩:=ih;refine⟨.tuple [.int p.1,.int p.2.1,.int p.2.2]::ds,.cons (.tup (eQ.of r) (.cons (.int _) (.cons (.int _) (.cons (.int _) .nil)))) h1,by rw[qAn,qAn,h2],?_⟩;show max (PyData.tuple [.int p.1,.int p.2.1,.int p.2.2]).depth (PyData.depthAll ds)<=8;have e:(PyData.tuple [.int p.1,.int p.2.1,.int p.2.2]).depth<=8:=by simp[PyData.depth,PyData.depthAll]
  lia
theorem FV:∀ds:List qGr,PyData.eqv (.list ds) (.list [])=decide (ds.length=0)
 | []=>by simp[PyData.eqv,PyData.eqvAll]
 | d::ds=>by simp[PyData.eqv,PyData.eqvAll]
def Hc:Sp:=fun vs H Q _=>∃(p:Addr) (m:Nat) (r:R4) (c:Int),vs=[.ref p,.int (m:Int),.int c]/\lB H p m r/\1<=m/\m<=6/\∀(x:Str) (H':Hp),zV m x->aK H H'->Q (.str x) H'
theorem j0:aN ["_law_row","_law_many","_law_cell_here","_law_head","_law_numbers","_law_pairs","_law_part_here","_law_some","_law_words"] ["_law_row","_law_many","_law_cell_here"] (aF Jg):=#[1,2]
theorem Kt{f1 f2:Addr}{fd1 fd2:qBy}(t:Tx K mg "_law_spoilt" Jg ["_law_row","_law_many","_law_cell_here"] f fd)(T:#[4])(D_law_part:#[5] 1 "_law_part" ["_law_head","_law_numbers","_law_pairs"] DF f1 fd1)(D_law_words_spoilt:#[5] 2 "_law_words_spoilt" ["_law_head","_law_words","_law_many","_law_cell_here"] GY f2 fd2):
  #[5] 3 "_law_spoilt" ["_law_row","_law_many","_law_cell_here"] Hc f fd:=by
 refine t.mX j0 (by rintro _ _ _ _⟨p,m,r,c,rfl,_⟩;rfl) fun _ _ _ _ H vs Q E hr h=>?_;obtain⟨p,m,r,c,rfl,row,m1,m6,k⟩:=h;obtain⟨ln,lp,bs,q1,q2,q3,q4,g⟩:=row;refine⟨_,(aE (j8 (pv 0) (j5 rfl (cC (bC (i:=3) j0.nd rfl cO) (cC (bC (i:=4) j0.nd rfl cO) (cC (bC (i:=5) j0.nd rfl cO) hW)))))
  (aE (aX (i:=2) j0.nd rfl cO (aG bJ (aG d8 (aG bJ (pv 2) aD) aD) aD))
  (aE (aX (i:=6) j0.nd rfl cO (bN D_law_part hr #[1] #[0] (aA (pv 3) (aA (pv 4) (aA (pv 5) aC)))))
  (aE (aX (i:=7) j0.nd rfl cO (bE (aA (aG aP aI (pv 6)) (aA (aG aP (pv 6) aI) (aA (aG aP (pv 6) aI) (aA (aG aP (pv 6) aI) (aA (aG aP aI (pv 6)) (aA (aG aP (HF qBf PySem.F.slot_str_upper PySem.F.type_str_upper AF (pv 3)) (aR cJ (pv 6) (aW (aO eS #[0] T.cD bS (aA (pv 3) aC))) aV)) aC))))))))
  (aE (aX (i:=7) j0.nd rfl cO (aG bB (pv 7) (bE (aA (aG aP (aR cJ (pv 3) (aW aD) aV) (aR cJ (pv 6) (aW (aO eS #[0] T.cD bS (aA (pv 3) aC))) aV)) (uH (yU (pv 6) aI) (Ir aP (mT (QG 6) #[2] #[1]) aI) aC)))))
  (aE (aX (i:=7) j0.nd rfl cO (aG bB (pv 7) (bE (aA (aG aP (aG aP (pv 3) aI) (aR cJ (pv 6) (aW (aO eS #[0] T.cD bS (aA (pv 3) aC))) aV)) (aA aI (aA aI aC))))))
  (aE (bI (PW.pt (pw_or (aL jB (aG bJ (pv 2) aD) aD (aT _)) (pw_or1 (PW.pt (pw_and (aL (HL hr.units) (pv 4) (bE aC) (aT _)) (pw_and1 (aL (EK hr.units) (pv 5) (bE aC) (aT _)))))))) (aH (aU (bH bY (pv 7) (aG bJ (pv 2) aD) #[6]))) aY)
  (aE (aX (i:=8) j0.nd rfl cO (dP qBf qHm qHl lV (pv 6) (aA aI aC)))
  (aH (aU (dP qBf qCp qCo dQ aI (aA (aG bB (bE (aA (pv 3) aC)) (bN D_law_words_spoilt hr #[1] #[0] (aA (pv 3) (aA (aR bZ (pv 8) (aW aD) aV) (aA (pv 1) (aA (aG cN (pv 2) aD) aC)))))) aC)))))))))))),?_⟩
 obtain⟨w78,w21⟩:=dZ g m6;obtain⟨h32,h59,h5⟩:=dA g.k7;exists _,rfl,p,_,rfl,eQ.of q1,rfl,_,_,rfl,_,_,rfl,_,_,rfl,rfl;dsimp only[a9];refine⟨_,rfl,_,_,rfl,rfl,(by show(0:Int)<1000003;decide),_,_,rfl,rfl,.inr ⟨by decide,by decide⟩,_,_,rfl,rfl,(by show(0:Int)<2147483629;decide),?_⟩;dsimp only[a9];generalize c%1000003*69621%2147483629=c;refine bR (σ':=[some (.ref p),some (.int (m:Int)),some (.int c),some (.str (b9 r.k)),some (.ref ln),some (.ref lp),none,none,none]) rfl ?_;refine⟨_,rfl,_,rfl,_,rfl,ln,lp,bs,m,r,r.ps,rfl,g,m6,q2,q3,q4,.refl _,fun H1 s1=>?_⟩;dsimp only[a9];have hsp:=pF g m6 (.refl r.ps);have pl20:=DE g m6 (.refl r.ps);have ep:(zH r r.ps).cps.toList=nK r:=xN r;generalize zH r r.ps=x at hsp pl20 ep|-;have plx:(nK r).length<=20000:=by rw[<- ep,<- str_len];exact pl20
 refine bR (σ':=[some (.ref p),some (.int (m:Int)),some (.int c),some (.str (b9 r.k)),some (.ref ln),some (.ref lp),some (.str x),none,none]) rfl ?_;have hxl:(b9 r.k).length<=x.length:=by
  rw[str_len,str_len,ep];delta nK;rw[qAf];lia
 have dx:x.cps.toList.drop (b9 r.k).length=c8 (bX r):=by
  rw[ep,str_len];delta nK;exact qFh
 have tcn:(c8 (bX r)).length<=20000:=by
  rw[<- dx,qBw,<- str_len];lia
 have hdl:(b9 r.k).cps.toList.length<=5:=by rw[<- str_len];exact h5
 obtain⟨up1,up2,up3⟩:=Ou ⟨r.k,g.k7⟩;have upE:∀{σ:St}{H:Hp},σ[3]?=some (some (.str (b9 r.k)))->Ev (LM K "str" CH (fF 3)) σ H (Txt.upper (b9 r.k)).cps.toList:=fun {σ H} h Q q=>⟨_,h,rfl,b9 r.k,rfl,rfl,up1,qAk up2 #[1],q _ rfl⟩;have rpE:∀{σ:St}{H:Hp},σ[6]?=some (some (.str x))->Ev (CJ (" ":Str) ("  ":Str) (fF 6)) σ H (StrLaws.dbl 32 (nK r)):=fun {σ H} h Q q=>⟨_,h,x,rfl,by lia,q _ (by
  rw[show(" ":Str)=⟨#[32]⟩ from by decide +kernel,show("  ":Str)=⟨#[32,32]⟩ from by decide +kernel,StrLaws.replace_double,ep])⟩
 have db:=zX 32 (nK r);have upl:(Txt.upper (b9 r.k)).cps.toList.length<=5:=by rw[<- str_len];exact up2
 have x1:1<=(b9 r.k).length:=by
  have:∀k:_root_.Fin 7,1<=(b9 k.1).length:=by decide +kernel
  exact this ⟨r.k,g.k7⟩
 have xx:x.length<=100000:=by lia
 have p1:1<=(nK r).length:=by rw[<- ep,<- str_len];lia
 refine asg (tl (nI (l:=32::nK r) (bV (hJ (l:=[32]) rfl) (p7 rfl ep) (by simp <;> lia) rfl) fun y1 e1=>?_));refine nI (l:=nK r++[32]) (bV (p7 rfl ep) (hJ (l:=[32]) rfl) (by simp <;> lia) rfl) fun y2 e2=>?_;refine nI (l:=nK r++[59]) (bV (p7 rfl ep) (hJ (l:=[59]) rfl) (by simp <;> lia) rfl) fun y3 e3=>?_;refine nI (l:=nK r++[32,55]) (bV (p7 rfl ep) (hJ (l:=[32,55]) rfl) (by simp <;> lia) rfl) fun y4 e4=>?_;refine nI (l:=120::nK r) (bV (hJ (l:=[120]) rfl) (p7 rfl ep) (by simp <;> lia) rfl) fun y5 e5=>?_;refine nI (l:=(Txt.upper (b9 r.k)).cps.toList++c8 (bX r)) (bV (upE rfl) (tN rfl rfl xx hxl dx) (by lia) rfl) fun y6 e6=>?_;refine tn ⟨by show 6<=qAg;decide,fun l1 hl1=>?_⟩;have u1:=s1.trans (aK.aJ (o:=.lst (([y1,y2,y3,y4,y5,y6]:List Str).map V.str)) hl1);have g1:upd H1 l1 (.lst (([y1,y2,y3,y4,y5,y6]:List Str).map V.str)) l1=some (.lst (([y1,y2,y3,y4,y5,y6]:List Str).map V.str)):=aB;show a9 7 (V.ref l1) _ (upd H1 l1 (.lst (([y1,y2,y3,y4,y5,y6]:List Str).map V.str))) _;generalize upd H1 l1 (.lst (([y1,y2,y3,y4,y5,y6]:List Str).map V.str))=H2 at u1 g1|-;dsimp only[a9];refine bR (σ':=[some (.ref p),some (.int (m:Int)),some (.int c),some (.str (b9 r.k)),some (.ref ln),some (.ref lp),some (.str x),some (.ref l1),none]) rfl ?_;exists _,rfl;show kJ _ _ _ _;refine tl (nI (l:=(b9 r.k).cps.toList.drop 1++c8 (bX r)) (bV (eK (j:=1) rfl (by lia) x1 rfl) (tN rfl rfl xx hxl dx) (by rw[qBw];lia) rfl) fun y7 e7=>?_);refine nI (l:=nK r++[10]) (zT (p7 rfl ep) (hJ (l:=[10]) rfl) (by simp <;> lia) p1 (by simp) rfl) fun y8 e8=>?_;refine nI (l:=StrLaws.dbl 32 (nK r)++[32]) (bV (rpE rfl) (hJ (l:=[32]) rfl) (by simp <;> lia) rfl) fun y9 e9=>?_;refine tn ⟨Bc,fun l2 h2=>?_⟩;refine cL (L:=[y1,y2,y3,y4,y5,y6]) (M:=[y7,y8,y9]) g1 h2 (by show 9<=1000;decide) fun l3 H3 s3 g3=>?_;have u3:=u1.trans s3;clear s3 g1 u1;dsimp only[a9];refine bR (σ':=[some (.ref p),some (.int (m:Int)),some (.int c),some (.str (b9 r.k)),some (.ref ln),some (.ref lp),some (.str x),some (.ref l3),none]) rfl ?_;exists _,rfl;show kJ _ _ _ _;refine tl (nI (l:=(b9 r.k).cps.toList++[58]++c8 (bX r)) (bV (bV (p7 rfl rfl) (hJ (l:=[58]) rfl) (by show _+1<=_;lia) rfl) (tN rfl rfl xx hxl dx) (by rw[qAf];show _+1+_<=_;lia) rfl) fun y10 e10=>?_);refine Ol (Ol (tn ⟨Bc,fun l2 h2=>?_⟩));refine cL (L:=_) (M:=[y10,("":Str),("":Str)]) g3 h2 (by show 12<=1000;decide) fun l4 H4 s4 g4=>?_;have u4:=u3.trans s4;clear s4 g3 u3;dsimp only[a9];refine bR (σ':=[some (.ref p),some (.int (m:Int)),some (.int c),some (.str (b9 r.k)),some (.ref ln),some (.ref lp),some (.str x),some (.ref l4),none]) rfl ?_;have upN:=fun j j7=>(Ot ⟨r.k,g.k7⟩ ⟨j,j7⟩);have all:∀y∈[y1,y2,y3,y4,y5,y6]++[y7,y8,y9]++[y10,("":Str),("":Str)],zV m y:=fun y hy=>by
  simp only[qGe,qEk,qCk,qBs,or_false] at hy;rcases hy with rfl | rfl | rfl | rfl | rfl | rfl | rfl | rfl | rfl | rfl | rfl | rfl
  .exact v0 g m6 e1
  .exact Ha (z:=⟨#[]⟩) g m6 e2 ⟨by decide,fun c hc=>by cases hc⟩ #[1]
  .exact DV g m6 e3 (.inl rfl)
  .exact Ha (z:=⟨#[55]⟩) g m6 e4 ⟨by decide,fun c hc=>by rw[List.mem_singleton.mp hc];decide⟩ #[1]
  .refine tL (a:=("x":Str)++b9 r.k) g m6 (by rw[e5,app_list];rfl) ?_ (by rw[Str.length_append];show 1+_<=_;lia) fun j j7=>(upN j j7).2.1;rw[app_list];refine⟨fun h=>?_,fun h=>?_⟩
   .rcases List.mem_append.mp h with h | h
    .exact absurd h #[2]
    .exact h32 h
   .rcases List.mem_append.mp h with h | h
    .exact absurd h #[2]
    .exact h59 h
  .refine tL g m6 e6 ⟨fun h=>?_,fun h=>?_⟩ (qAk up2 #[1]) fun j j7=>(upN j j7).1
   .exact(of_decide_eq_true (List.all_eq_true.mp up3 32 h)).1 rfl
   .exact(of_decide_eq_true (List.all_eq_true.mp up3 59 h)).2 rfl
  .refine tL (a:=⟨((b9 r.k).cps.toList.drop 1).toArray⟩) g m6 e7 ⟨fun h=>h32 (qDv h),fun h=>h59 (qDv h)⟩ ?_ fun j j7 e=>(upN j j7).2.2.2 ?_
   .rw[str_len];show((b9 r.k).cps.toList.drop 1).length<=_;rw[qBw];lia
   .exact congrArg (fun z:Str=>z.cps.toList) e
  .exact DV g m6 e8 (.inr rfl)
  .exact Ov g m6 e9
  .refine tL (a:=b9 r.k++(":":Str)) g m6 (by rw[e10,app_list];rfl) ?_ (by rw[Str.length_append];show _+1<=_;lia) fun j j7=>(upN j j7).2.2.1;rw[app_list];refine⟨fun h=>?_,fun h=>?_⟩
   .rcases List.mem_append.mp h with h | h
    .exact h32 h
    .exact absurd h #[2]
   .rcases List.mem_append.mp h with h | h
    .exact h59 h
    .exact absurd h #[2]
  .exact tM rfl
  .exact tM rfl
 have nl:([y1,y2,y3,y4,y5,y6]++[y7,y8,y9]++[y10,("":Str),("":Str)]).length=12:=rfl;generalize [y1,y2,y3,y4,y5,y6]++[y7,y8,y9]++[y10,("":Str),("":Str)]=ys at all nl g4;obtain⟨v,hv,hm⟩:=lR (xs:=ys.map V.str) (i:=c%12) (qCi _ #[1]) (by rw[qAa,nl];exact qCa _ #[1]);obtain⟨y,hy,rfl⟩:=List.mem_map.mp hm;refine dG (fun σ' H'=>σ'=[some (.ref p),some (.int (m:Int)),some (.int c),some (.str (b9 r.k)),some (.ref ln),some (.ref lp),some (.str x),some (.ref l4),none]/\aK H H'/\0<(bX r).length) (fun tail=>?_) ?_
 .refine(fun(key:∀H5,aK H4 H5->_)=>(⟨_,rfl,_,_,rfl,rfl,(by show(0:Int)<24;decide),_,_,rfl,rfl,_,rfl,b7 (fun h=>dC (key H4 (.refl _))) (fun h=>⟨_,rfl,by show 0<=qAg;decide,fun e0 he0=>?_⟩)⟩)) (fun H5 s5=>⟨_,rfl,_,rfl,_,_,rfl,rfl,(by show(0:Int)<12;decide),l4,_,_,_,rfl,rfl,bA.of (s5 _ _ g4),hv,k y H5 (all y hy) (u4.trans s5)⟩);have u5:=aK.aJ (o:=.lst []) he0;have g5:upd H4 e0 (.lst []) e0=some (.lst ((([]:List Int)).map V.int)):=aB;generalize upd H4 e0 (.lst [])=H5 at u5 g5|-;have u45:=u4.trans u5;refine⟨ln,e0,r.ns,[],rfl,rfl,bA.of (u45 _ _ q2),bA.of g5,_,rfl,b7 (fun h1=>⟨_,rfl,by show 0<=qAg;decide,fun e1 he1=>?_⟩) (fun h1=>?_)⟩
  .have u6:=aK.aJ (o:=.lst []) he1;have g6:upd H5 e1 (.lst []) e1=some (.lst []):=aB;generalize upd H5 e1 (.lst [])=H6 at u6 g6|-;have u46:=u45.trans u6;obtain⟨ds,d1,d2,d3⟩:=AY (K:=K) (H:=H6) (bs:=bs) (ps:=r.ps) (q4.imp fun _ _ z=>z.keep u46.t);exists .list ds,.list [],.lst (bA.of (u46 _ _ q3)) d1,.lst (bA.of g6) .nil,?_,?_
   .show PyData.depthAll ds+1<=64;lia
   .show PyData.depthAll []+1<=64;simp[PyData.depthAll]
   rw[FV,d2];refine⟨_,rfl,b7 (fun h2=>key H6 (u5.trans u6)) (fun h2=>tail _ _ ⟨rfl,u46,?_⟩)⟩;delta bX;rw[qAf,qAa,qAa];have:¬r.ps.length=0:=fun z=>h2 (decide_eq_true z);lia
  .refine bF (tail _ _ ⟨rfl,u45,?_⟩);delta bX;rw[qAf,qAa,qAa];have:¬r.ns.length=0:=fun z=>h1 (decide_eq_true (List.length_eq_zero_iff.mp z));lia
 rintro σ' H5 ⟨rfl,u5,w0⟩;refine⟨_,rfl,rfl,x,(" ":Str),rfl,rfl,rfl,qAk (qIk pl20 2) #[1],fun lw hlw=>?_⟩;rw[hsp];have u6:=u5.trans (aK.aJ (o:=.lst ((b9 r.k::bX r).map V.str)) hlw);have g6:upd H5 lw (.lst ((b9 r.k::bX r).map V.str)) lw=some (.lst ((b9 r.k::bX r).map V.str)):=aB;show a9 8 (V.ref lw) _ (upd H5 lw (.lst ((b9 r.k::bX r).map V.str))) _;generalize upd H5 lw (.lst ((b9 r.k::bX r).map V.str))=H6 at u6 g6|-;dsimp only[a9];refine bR (σ':=[some (.ref p),some (.int (m:Int)),some (.int c),some (.str (b9 r.k)),some (.ref ln),some (.ref lp),some (.str x),some (.ref l4),some (.ref lw)]) rfl ?_;refine⟨rfl,_,rfl,kG,fun l0 hl0=>?_⟩;have u7:=u6.trans (aK.aJ (o:=.lst [V.str (b9 r.k)]) hl0);have g7:=aK.aJ (o:=.lst [V.str (b9 r.k)]) hl0 _ _ g6;have g0:upd H6 l0 (.lst [V.str (b9 r.k)]) l0=some (.lst (([b9 r.k]:List Str).map V.str)):=aB;generalize upd H6 l0 (.lst [V.str (b9 r.k)])=H7 at u7 g7 g0|-;refine⟨_,rfl,_,rfl,1,rfl,lw,_,rfl,bA.of g7,fun l2 hl2=>?_⟩;rw[show eE ((b9 r.k::bX r).map V.str) (some 1) none=(bX r).map V.str from gP ((b9 r.k::bX r).map V.str) 1];have v8:=aK.aJ (o:=.lst ((bX r).map V.str)) hl2;have u8:=u7.trans v8;have g8:upd H7 l2 (.lst ((bX r).map V.str)) l2=some (.lst ((bX r).map V.str)):=aB;generalize upd H7 l2 (.lst ((bX r).map V.str))=H8 at u8 g8 v8|-;refine⟨_,rfl,_,rfl,_,_,rfl,rfl,⟨by decide,by decide⟩,l2,m,r,_,rfl,g8,g,m1,m6,w0,fun l' ws' H9 sp s9 h9=>?_⟩;refine⟨l0,l',_,_,rfl,rfl,bA.of (s9 _ _ (v8 _ _ g0)),bA.of h9,?_,fun pp hpp=>?_⟩
 .rw[qAa,qAa];exact qAk (qIu sp.len 1) #[1]
 refine⟨_,pp,b9 r.k::ws',rfl,rfl,bA.of (by rw[aB];rfl),?_,k _ _ (FU g m6 rfl sp) ((u8.trans s9).trans (.aJ hpp))⟩;have a:=jO (B:=250) (ss:=ws') fun w hw=>(sp.wd w hw).1;have e:(" ":Str).length=1:=rfl;have:=sp.len;rw[qBo,qGl,qAn,e];lia
def iW(m:Nat):Str:=("hands ":Str)++nW (m:Int)
theorem DW{m:Nat}(m1:1<=m)(m6:m<=6):uU (iW m) m:=⟨m1,m6,rfl⟩
def Ow(x:Str)(i:Nat):Prop:=∃(pt:Str) (ps:List Str),x.length<=2000000/\Txt.split x ("; ":Str)=pt::ps/\ps.length<=60/\(∀p∈ps,Ln p)/\jW pt ps i
structure iQ (m:Nat) (pt:Str) (ps:List Str) (f:Nat):Prop where
 len:ps.length<=20
 pb:∀p∈ps,Ln p/\uF 59 32 p
 hb:uF 59 32 pt/\pt.length<=60000
 gd:∀h p,h<f->ps[h]?=some p->FI m p
theorem FW:∀(m:_root_.Fin 7),(pH m.1).all (fun x=>(qBk x.cps.toList.length).all fun k=>!(x.cps.toList[k]? == some 59&&x.cps.toList[k+1]? == some 32))=true:=by decide +kernel
theorem FX{m:Nat}{x:Str}(m6:m<=6)(hx:x∈pH m):uF 59 32 x/\x.length<=60000:=by
 have z:=List.all_eq_true.mp (FW ⟨m,by lia⟩) x hx;have y:=List.all_eq_true.mp (FO ⟨m,by lia⟩) x hx;have y:=of_decide_eq_true (Bool.and_eq_true_iff.mp y).1;refine⟨fun k e1 e2=>?_,by lia⟩;have hk:=(List.getElem?_eq_some_iff.mp e1).1;have w:=List.all_eq_true.mp z k (List.mem_range.mpr hk);rw[e1,e2] at w;exact absurd w #[1]
section
variable {m f j:Nat}{pt x y:Str}{ps:List Str}
theorem iQ.set(h:iQ m pt ps f)(s:zV m y)(hj:f<=j):iQ m pt (ps.set j y) f:=by
 refine⟨by rw[qHz];exact h.len,fun p hp=>?_,h.hb,fun i p hi e=>?_⟩
 .rcases qKg hp with z | z
  .exact h.pb p z
  .rw[z];exact⟨s.pt,s.np⟩
 .rw[qGh (by lia)] at e;exact h.gd i p hi e
theorem iQ.hd(h:iQ m pt ps f)(m6:m<=6)(hx:x∈pH m):iQ m x ps f:=⟨h.len,h.pb,FX m6 hx,h.gd⟩
theorem iQ.app(h:iQ m pt ps f)(hf:f<=ps.length)(l19:ps.length<20):iQ m pt (ps++[("":Str)]) f:=by
 have s:zV m ("":Str):=tM rfl;refine⟨by rw[qAf];exact l19,fun p hp=>?_,h.hb,fun i p hi e=>?_⟩
 .rcases List.mem_append.mp hp with z | z
  .exact h.pb p z
  .rw[List.mem_singleton.mp z];exact⟨s.pt,s.np⟩
 .rw[qAy (by lia)] at e;exact h.gd i p hi e
theorem iQ.less{f':Nat}(h:iQ m pt ps f)(hf:f'<=f):iQ m pt ps f':=⟨h.len,h.pb,h.hb,fun i p hi e=>h.gd i p (by lia) e⟩
theorem iQ.Hd(m6:m<=6)(hx:x∈pH m):jW x ps 0:=.inl ⟨rfl,zO m6 hx⟩
theorem iQ.He(h:iQ m pt ps j)(hm:uU pt m)(hj:j<12)(hl:j<ps.length)(s:zV m y):jW pt (ps.set j y) (j+1) :=
 .inr ⟨m,j,hm,rfl,(h.set s (qAl j)).gd,.inl ⟨hj,y,qFw hl,s.no⟩⟩
theorem iQ.Ox(h:iQ m pt ps 12)(hm:uU pt m)(hl:12<ps.length):jW pt ps 13:=.inr ⟨m,12,hm,rfl,h.gd,.inr ⟨rfl,hl⟩⟩
theorem iQ.Ku(h:iQ m pt ps ps.length)(hm:uU pt m)(l12:ps.length<=12):jW pt (ps++[("":Str)]) (ps.length+1):=by
 refine .inr ⟨m,ps.length,hm,rfl,(h.app (qAl _) (by lia)).gd,?_⟩;rcases qBj ps.length 12 with z | z
 .exact .inl ⟨z,("":Str),by rw[qAz (qAl _),qHc];rfl,(tM (m:=m) rfl).no⟩
 .exact .inr ⟨by lia,by rw[qAf];show _<_+1;lia⟩
theorem iQ.room(h:iQ m pt ps f):((pt::ps).map (·.length)).sum+(pt::ps).length*("; ":Str).length<=2000000:=by
 have a:=jO (B:=60000) (ss:=ps) fun p hp=>(h.pb p hp).1.len;have e:("; ":Str).length=2:=rfl;have:=h.len;have:=h.hb.2;have:=qIs 60000 h.len;rw[qBo,qGl,qAn,e];lia
theorem iQ.bad{i:Nat}(h:iQ m pt ps f)(b:jW pt ps i):Ow (Txt.join ("; ":Str) (pt::ps)) i:=by
 refine⟨pt,ps,?_,mR (c:=59) (d0:=32) rfl #[1] #[2] (fun z=>nomatch z) (fun p hp=>?_),by have:=h.len;lia,fun p hp=>(h.pb p hp).1,b⟩
 .rw[show Txt.join ("; ":Str) (pt::ps)=Str.join ("; ":Str) (pt::ps) from StrLaws.glued_eq_join _ _];exact qAk (StrLaws.join_length_le _ _) h.room
 .rcases List.mem_cons.mp hp with rfl | hp
  .exact h.hb.1
  .exact(h.pb p hp).2
end
theorem zY{m:Nat}{r:R4}(g:GoodR m r)(m6:m<=6):Ln (bK r)/\uF 59 32 (bK r)/\FI m (bK r):=by
 have sp:Txt.split (bK r) (" ":Str)=b9 r.k::bX r:=pF g m6 (.refl r.ps);obtain⟨w78,w21⟩:=dZ g m6;have l:=DE g m6 (.refl r.ps);exists ⟨qAk l #[1],b9 r.k,bX r,sp,by lia,fun w hw=>?_,xO g m6 fun h=>by have:=w21 h;lia⟩,uF.free (FN g m6 (.refl r.ps)),r,r.ps
 .obtain⟨a,b⟩:=dH g m6 w hw;exact⟨fun c hc=>(a.2 c hc).1,by lia⟩
 .rw[sp];exact⟨g,.refl _,rfl⟩
theorem iQ.rows{m:Nat}{rs:List R4}(m1:1<=m)(m6:m<=6)(g:∀r∈rs,GoodR m r)(l20:rs.length<=20)(f:Nat):iQ m (iW m) (rs.map bK) f:=by
 refine⟨by rw[qAa];exact l20,fun p hp=>?_,⟨uF.free fun h=>?_,?_⟩,fun i p _ e=>?_⟩
 .obtain⟨r,hr,rfl⟩:=List.mem_map.mp hp;obtain⟨a,b,_⟩:=zY (g r hr) m6;exact⟨a,b⟩
 .unfold iW at h;rw[app_list] at h;rcases List.mem_append.mp h with h | h
  .exact absurd h #[2]
  .exact fD #[1] _ h
 .unfold iW;have l1:=cR (i:=(m:Int)) (qBp (show(m:Int).natAbs<=6 by lia) #[2]);rw[Str.length_append];show 6+_<=_;lia
 .obtain⟨r,hr,rfl⟩:=List.mem_map.mp (qAp e);exact(zY (g r hr) m6).2.2
def DX:R4:=⟨0,[],[]⟩
theorem rO(m:Nat):GoodR m DX:=⟨by decide,rfl,(fun n h=>by cases h),.nil,(fun p h=>by cases h),by decide,(fun _ _ _=>rfl),(fun h=>by cases h),(fun h=>by cases h)⟩
theorem AZ:bK DX=("none":Str):=by decide +kernel
theorem pM{α:Type}(x:α):∀k:Nat,(qBd k [x]).flatten=qBd k x
 | 0=>rfl
 | k+1=>by rw[qEp,qFy,pM x k];rfl
def Ba(d:Int)(n:Nat):Int:=if d/10000%6=0\/n=0 then (if d/240000%2=1 then 1+d/480000%12 else 13) else if d/10000%6=2 then (n:Int)+1 else d%((n:Int)+1)
def FY(d:Int)(n:Nat):Int:=if d/10000%6=1 then 0 else Ba d n
def zZ(ns:List Int)(k:Nat):Int:=pD ns (2+7*k)%1000003*16807%2147483647
theorem Hf{v:V}{i:Nat}{b:TS}{D:Ends}{σ:St}{H:Hp}(h:b D (σ.set i (some v)) H):Ab (El (tC v) (a9 i)) b D σ H:=h
theorem nL{n j:Nat}(h:j<n):Bf n (j:Int)=some j:=by
 delta Bf;rw[if_pos (by lia),if_pos (by lia)];rfl
def Hg(K:qAb):Sp:=fun vs H Q _=>∃(a ls lg:Addr) (ns:List Int) (k m:Nat) (rows:List Ki),vs=[.ref a,.ref ls,.ref lg,.int (k:Int)]/\bA K H a (ns.map V.int)/\(∀i∈ns,Sm 1048577 i)/\k<=5/\(m:Int)=1+pD ns 0%6/\H ls=some (.lst (cI rows))/\rows.length<=12/\pG H m rows/\H lg=some (.lst ((iW m::(rows.map fun q=>bK q.2)).map V.str)) /\
 ∀(p:Addr) (x:Str) (i:Nat) (H':Hp),Ow x i->(i:Int)=FY (zZ ns k) rows.length->aK H H'->H' p=some (.tup [.str x,.int (i:Int)])->Q (.ref p) H'
theorem hU:aN ["_law_script","_law_some","_law_good","_law_k","_law_many","_law_cell_here","_law_first","_law_later","_law_bad_here","_law_row","_law_at"] ["_law_script","_law_some","_law_good","_law_k"] (aF Jh):=#[1,2]
theorem Kv{f1 f2 f3:Addr}{fd1 fd2 fd3:qBy}(t:Tx K mg "_law_bad" Jh ["_law_script","_law_some","_law_good","_law_k"] f fd)(T:#[4])(D_law_cell:#[5] 1 "_law_cell" ["_law_script","_law_k"] (zL K) f1 fd1)(D_law_no_hands:#[5] 1 "_law_no_hands" ["_law_many","_law_cell_here"] GQ f2 fd2)(D_law_spoilt:#[5] 3 "_law_spoilt" ["_law_row","_law_many","_law_cell_here"] Hc f3 fd3):
  #[5] 4 "_law_bad" ["_law_script","_law_some","_law_good","_law_k"] (Hg K) f fd:=by
 refine t.mX hU (by rintro _ _ _ _⟨a,ls,lg,ns,k,m,rows,rfl,_⟩;rfl) fun _ _ _ _ H vs Q E hr h=>?_;obtain⟨a,ls,lg,ns,k,m,rows,rfl,ha,hsm,k5,em,hs,r12,ra,hg,kq⟩:=h;refine⟨_,(aE (aX (i:=4) hU.nd rfl cO (aG bQ aD (aG bJ (bN D_law_cell hr #[1] #[0] (aA (pv 0) (aA aD aC))) aD)))
  (aE (aX (i:=5) hU.nd rfl cO (aG bJ (aG d8 (aG bJ (bN D_law_cell hr #[1] #[0] (aA (pv 0) (aA (aG bQ aD (aG d8 aD (pv 3))) aC))) aD) aD) aD))
  (aE (aX (i:=6) hU.nd rfl cO (aG bJ (pv 5) (aO aS #[0] T.cD bS (aA (pv 2) aC))))
  (aE (aX (i:=7) hU.nd rfl cO (aG bQ (pv 6) (aG bJ (aG cN (pv 5) aD) (aG fA (aO aS #[0] T.cD bS (aA (pv 2) aC)) (pv 6)))))
  (aE (aX (i:=8) hU.nd rfl cO (dI dW #[0] T.fZ iG (aA (pv 2) aC)))
  (aE (bI (PW.pt (pw_or (aL bU (aG bJ (aG cN (pv 5) aD) aD) aD (aT _)) (pw_or1 (aL bU (aO aS #[0] T.cD bS (aA (pv 2) aC)) aD (aT _))))) (aE (aX (i:=6) hU.nd rfl cO aD)
   (aE (aX (i:=8) hU.nd rfl cO (aG bB (pv 8) (aG BG (bE (aA aI aC)) (aG fA (aG bQ aD (aG bJ (aG cN (pv 5) aD) aD)) (aO aS #[0] T.cD bS (aA (pv 1) aC))))))
   (aH (bI (aL bU (aG bJ (aG cN (pv 5) aD) aD) aD (aT _)) (aE (aX (i:=6) hU.nd rfl cO (aG bQ aD (aG bJ (aG cN (pv 5) aD) aD)))
    (aE (aX (i:=9) hU.nd rfl cO (bH bY (aG bB (pv 1) (aG BG (bE (aA (eR (aA aI (aA (bE aC) (aA (bE aC) aC)))) aC)) aD)) (aG fA (pv 6) aD) #[6]))
    (aH (j8 (bN D_law_spoilt hr #[1] #[0] (aA (pv 9) (aA (pv 4) (aA (bN D_law_cell hr #[1] #[0] (aA (pv 0) (aA (aG bQ aD (aG d8 aD (pv 3))) aC))) aC)))) (nP (pv 8) (pv 6) set_list))))) aY)))) (aH (bI (aL bU (aG bJ (aG cN (pv 5) aD) aD) aD (aT _)) (aE (aX (i:=6) hU.nd rfl cO (aO aS #[0] T.cD bS (aA (pv 2) aC)))
    (aH (cA (dP qEm qEi qEh fU (pv 8) (aA aI aC))))) (aH (hX #[9] rfl (cU (bE (aA (pv 7) (aA (pv 6) aC)))) (bC (i:=10) hU.nd rfl cO)
     (aH (bI (aL bU (pv 10) aD (aT _)) (aH (j8 (bN D_law_no_hands hr #[1] #[0] (aA (pv 4) (aA (bN D_law_cell hr #[1] #[0] (aA (pv 0) (aA (aG bQ aD (aG d8 aD (pv 3))) aC))) aC))) (nP (pv 8) aD set_list))) (aH (j8 (bN D_law_spoilt hr #[1] #[0] (aA (bH bY (pv 1) (aG fA (pv 10) aD) #[6]) (aA (pv 4) (aA (aG bQ (bN D_law_cell hr #[1] #[0] (aA (pv 0) (aA (aG bQ aD (aG d8 aD (pv 3))) aC))) (pv 10)) aC)))) (nP (pv 8) (pv 10) set_list))))))))))
  (aE (bI (aL bU (aG bJ (aG cN (pv 5) aD) aD) aD (aT _)) (aE (aX (i:=6) hU.nd rfl cO aD)
   (aH (j8 (bN D_law_no_hands hr #[1] #[0] (aA (pv 4) (aA (aG bQ (bN D_law_cell hr #[1] #[0] (aA (pv 0) (aA (aG bQ aD (aG d8 aD (pv 3))) aC))) aD) aC))) (nP (pv 8) aD set_list)))) aY)
  (aH (aU (eR (aA (dP qBf qCp qCo dQ aI (aA (pv 8) aC)) (aA (pv 6) aC)))))))))))),?_⟩
 have c0:=qCi (pD ns 0) (b:=6) #[1];have c1:=qCa (pD ns 0) (b:=6) #[1];have m1:1<=m:=by lia
 have m6:m<=6:=by lia
 have rl:(cI rows).length=rows.length:=by delta cI;rw[qAa]
 have gl:((iW m::(rows.map fun q=>bK q.2)).map V.str).length=rows.length+1:=by rw[qAa,qAn,qAa]
 refine⟨_,rfl,a,ns,0,rfl,ha,hsm,by decide,fun c _ ec=>?_⟩;subst ec;exists _,_,rfl,rfl,(by show(0:Int)<6;decide),_,_,rfl,rfl;show a9 4 (V.int (1+pD ns 0%6)) _ _ _;rw[<- em];dsimp only[a9];refine⟨_,rfl,_,rfl,_,_,rfl,rfl,.inl ⟨by lia,by lia⟩,_,_,rfl,rfl,a,ns,2+7*k,(by show [V.ref a,V.int (2+7*(k:Int))]=_;push_cast;rfl),ha,hsm,by lia,fun c _ ec=>?_⟩;subst ec;refine⟨_,_,rfl,rfl,(by show(0:Int)<1000003;decide),_,_,rfl,rfl,.inr ⟨by decide,by decide⟩,_,_,rfl,rfl,(by show(0:Int)<2147483647;decide),?_⟩;show a9 5 (V.int (zZ ns k)) _ _ _;have d0:0<=zZ ns k:=qCi _ #[1];generalize zZ ns k=d at d0 kq|-;dsimp only[a9];obtain⟨f0,ef⟩:∃f0:Nat,d%((rows.length:Int)+1)=(f0:Int):=⟨(d%((rows.length:Int)+1)).toNat,by have:=qCi d (b:=(rows.length:Int)+1) (by lia);lia⟩;have fl:f0<=rows.length:=by have:=qCa d (b:=(rows.length:Int)+1) (by lia);lia
 obtain⟨e0,ee⟩:∃e0:Nat,d/100%((rows.length:Int)+1-(f0:Int))=(e0:Int):=⟨(d/100%((rows.length:Int)+1-(f0:Int))).toNat,by have:=qCi (d/100) (b:=(rows.length:Int)+1-(f0:Int)) (by lia);lia⟩;have el:f0+e0<=rows.length:=by have:=qCa (d/100) (b:=(rows.length:Int)+1-(f0:Int)) (by lia);lia
 refine⟨_,rfl,_,rfl,lg,_,rfl,.inl (bA.of hg),_,_,rfl,rfl,(by rw[gl];lia),?_⟩;rw[gl];push_cast;rw[ef];dsimp only[a9];exists _,rfl,_,rfl,_,_,rfl,rfl,⟨by decide,by decide⟩,_,rfl,lg,_,rfl,.inl (bA.of hg),_,rfl,_,_,rfl,rfl,_,_,rfl,rfl,(by rw[gl];push_cast;lia),_,_,rfl,rfl;rw[gl];push_cast;rw[ee];dsimp only[a9];refine⟨_,rfl,lg,_,rfl,.inl (bA.of hg),fun lb hlb=>?_⟩;have u1:=aK.aJ (o:=.lst ((iW m::(rows.map fun q=>bK q.2)).map V.str)) hlb;have g1:upd H lb (.lst ((iW m::(rows.map fun q=>bK q.2)).map V.str)) lb=some (.lst ((iW m::(rows.map fun q=>bK q.2)).map V.str)):=aB;generalize upd H lb (.lst ((iW m::(rows.map fun q=>bK q.2)).map V.str))=H1 at u1 g1|-;dsimp only[a9];refine bR (σ':=[some (.ref a),some (.ref ls),some (.ref lg),some (.int (k:Int)),some (.int (m:Int)),some (.int d),some (.int (f0:Int)),some (.int ((f0:Int)+(e0:Int))),some (.ref lb),none,none]) rfl ?_;have goodR:∀r∈rows.map (·.2),GoodR m r:=fun r hr=>by
  obtain⟨q,hq,rfl⟩:=List.mem_map.mp hr;obtain⟨_,_,_,_,_,_,_,g⟩:=ra q hq;exact g
 have rs:(rows.map fun q=>bK q.2)=(rows.map (·.2)).map bK:=by rw[qCe];rfl
 have rsl:(rows.map (·.2)).length=rows.length:=qAa _;rw[rs] at g1;have hh:=DW m1 m6;have hg1:=u1 _ _ hg;have vI:∀{x y:Int},decide (V.int x=V.int y)=true->x=y:=fun h=>V.int.inj (of_decide_eq_true h);have vN:∀{x y:Int},¬decide (V.int x=V.int y)=true->x≠y:=fun h e=>h (decide_eq_true (by rw[e]));refine dG (fun σ' H'=>∃(lb':Addr) (i:Nat) (pt:Str) (ps:List Str) (o7 o9 o10:Option V),H lb'=none/\aK H H'/\H' lb'=some (.lst ((pt::ps).map V.str))/\iQ m pt ps 0/\jW pt ps i/\(i:Int)=Ba d rows.length/\σ'=[some (.ref a),some (.ref ls),some (.ref lg),some (.int (k:Int)),some (.int (m:Int)),some (.int d),some (.int (i:Int)),o7,some (.ref lb'),o9,o10]) (fun tail=>?_) ?_
 .refine(fun(key:(d/10000%6=0\/rows.length=0)->_)=>(⟨_,rfl,_,_,rfl,rfl,⟨by decide,by decide⟩,_,_,rfl,rfl,(by show(0:Int)<6;decide),rfl,_,rfl,b7 (fun h=>dC (key (.inl (vI h)))) (fun h=>⟨_,rfl,lg,_,rfl,.inl (bA.of hg1),rfl,_,rfl,b7 (fun h2=>key (.inr (by have:=vI h2;rw[gl] at this;lia))) (fun h2=>?_)⟩)⟩)) ?_;rotate_left
  .have n0:¬(d/10000%6=0\/rows.length=0):=fun z=>by
    rcases z with z | z
    .exact vN h z
    .exact vN h2 (by rw[gl,z];rfl)
   refine⟨_,rfl,_,_,rfl,rfl,⟨by decide,by decide⟩,_,_,rfl,rfl,(by show(0:Int)<6;decide),rfl,_,rfl,b7 (fun h3=>?_) (fun h3=>?_)⟩
   .exists _,rfl,lg,_,rfl,.inl (bA.of hg1);rw[gl];dsimp only[a9];refine bR (σ':=[some (.ref a),some (.ref ls),some (.ref lg),some (.int (k:Int)),some (.int (m:Int)),some (.int d),some (.int ((rows.length+1:Nat):Int)),some (.int ((f0:Int)+(e0:Int))),some (.ref lb),none,none]) rfl ?_;refine⟨_,rfl,.inl ⟨rfl,_,bA.of g1⟩,lb,_,_,rfl,rfl,g1,(by rw[<- rs,gl];exact bL (by lia)),?_⟩;have L:=iQ.rows m1 m6 goodR (by lia) (rows.map (·.2)).length;have Ll:((rows.map (·.2)).map bK).length=rows.length:=by rw[qAa,rsl]
    rw[rsl] at L;refine tail _ _ ⟨lb,rows.length+1,iW m,(rows.map (·.2)).map bK++[("":Str)],_,_,_,hlb,u1.upd_ne' hlb,?_,(L.app (by lia) (by lia)).less (qBn _),?_,?_,rfl⟩
    .rw[aB,<- qGe,qCt];rfl
    .rw[<- Ll] at L;have:=L.Ku hh (by lia);rw[Ll] at this;exact this
    .delta Ba;rw[if_neg n0,if_pos (vI h3)];push_cast;rfl
   .have n2:=vN h3;refine⟨_,rfl,_,rfl,Bk,fun l1 hl1=>?_⟩;have u2:=aK.aJ (o:=.lst [V.int ((f0:Int)+(e0:Int)),V.int (f0:Int)]) hl1;have g2:=u2 _ _ g1;have w2:upd H1 l1 (.lst [V.int ((f0:Int)+(e0:Int)),V.int (f0:Int)]) l1=some (.lst [V.int ((f0:Int)+(e0:Int)),V.int (f0:Int)]):=aB;have ne1:l1≠lb:=(bD g1 hl1).symm;have u12:=u1.trans u2;generalize upd H1 l1 (.lst [V.int ((f0:Int)+(e0:Int)),V.int (f0:Int)])=H2 at u2 g2 w2 u12|-;exists l1,rfl,⟨_,bA.of w2⟩;refine nQ (xs:=[V.int ((f0:Int)+(e0:Int)),V.int (f0:Int)]) (fun i σ' H'=>aK H H'/\H' l1=some (.lst [V.int ((f0:Int)+(e0:Int)),V.int (f0:Int)])/\∃(pt:Str) (ps:List Str) (o10:Option V),H' lb=some (.lst ((pt::ps).map V.str))/\ps.length=rows.length/\iQ m pt ps (f0-1)/\(0<f0->uU pt m)/\(i=2->jW pt ps f0)/\σ'=[some (.ref a),some (.ref ls),some (.ref lg),some (.int (k:Int)),some (.int (m:Int)),some (.int d),some (.int (f0:Int)),some (.int ((f0:Int)+(e0:Int))),some (.ref lb),none,o10]) ⟨u12,w2,iW m,(rows.map (·.2)).map bK,_,g2,by rw[qAa,rsl],iQ.rows m1 m6 goodR (by lia) _,(fun _=>hh),(fun z=>by cases z),rfl⟩ (fun i σ' H' _ hp=>bA.of hp.2.1) ?_ ?_
    .rintro i x σ' H3 hx ⟨u3,w3,pt,ps,o10,g3,pl,L,hm,_,rfl⟩;obtain⟨z,rfl,z1,z2,z3⟩:∃z:Nat,x = .int (z:Int)/\f0<=z/\z<=rows.length/\(i+1=2->z=f0):=by
      match i,hx with
      | 0,e=>exact⟨f0+e0,by cases e;push_cast;rfl,by lia,el,fun h=>by lia⟩
      | 1,e=>exact⟨f0,by cases e;rfl,qAl _,fl,fun _=>rfl⟩
     dsimp only[a9];refine bR (σ':=[some (.ref a),some (.ref ls),some (.ref lg),some (.int (k:Int)),some (.int (m:Int)),some (.int d),some (.int (f0:Int)),some (.int ((f0:Int)+(e0:Int))),some (.ref lb),none,some (.int (z:Int))]) rfl ?_;have keep:∀{H4:Hp}{o:HO},aK H3 H4->aK H (upd H4 lb o)/\upd H4 lb o l1=some (.lst [V.int ((f0:Int)+(e0:Int)),V.int (f0:Int)]):=fun {H4 o} s4=>⟨(u3.trans s4).upd_ne' hlb,by rw[aM ne1];exact s4 _ _ w3⟩;refine⟨_,rfl,rfl,_,rfl,b7 (fun h4=>?_) (fun h4=>?_)⟩
     .have z0:z=0:=by have:=vI h4;lia
      refine⟨_,rfl,_,rfl,_,rfl,_,_,rfl,rfl,.inl ⟨by lia,by lia⟩,_,_,rfl,rfl,a,ns,4+7*k,(by show [V.ref a,V.int (4+7*(k:Int))]=_;push_cast;rfl),u3.seq ha,hsm,by lia,fun c _ _=>⟨m,c,rfl,m1,m6,fun x H4 hx s4=>?_⟩⟩;refine⟨_,rfl,lb,_,_,0,rfl,rfl,s4 _ _ g3,nL (j:=0) (by show 0<_+1;lia),?_⟩;obtain⟨k1,k2⟩:=keep (o:=.lst (((pt::ps).map V.str).set 0 (V.str x))) s4;exact⟨k1,k2,x,ps,_,by rw[aB];rfl,pl,L.hd m6 hx,fun z=>by lia,fun z=>by rw[show f0=0 by lia];exact iQ.Hd m6 hx,rfl⟩
     .have z0:z≠0:=fun e=>vN h4 (by rw[e];rfl);obtain⟨j,rfl⟩:∃j,z=j+1:=⟨z-1,by lia⟩;have hj:j<rows.length:=by lia
      have e1:((j+1:Nat):Int)-1=(j:Int):=by push_cast;lia
      have hat:iT (cI rows) (((j+1:Nat):Int)-1)=some (.ref rows[j].1):=by
       rw[e1];refine bP ?_;delta cI;rw[qAs,qAe hj];rfl
      refine⟨_,rfl,_,rfl,_,_,rfl,rfl,ls,_,_,_,rfl,rfl,bA.of (u3 _ _ hs),hat,_,rfl,_,rfl,_,rfl,_,_,rfl,rfl,.inl ⟨by lia,by lia⟩,_,_,rfl,rfl,a,ns,5+7*k,(by show [V.ref a,V.int (5+7*(k:Int))]=_;push_cast;rfl),u3.seq ha,hsm,by lia,fun c _ _=>⟨_,rfl,_,_,rfl,rfl,rows[j].1,m,rows[j].2,_,rfl,(ra _ (qDc hj)).same u3,m1,m6,fun x H4 sp s4=>?_⟩⟩;refine⟨_,rfl,_,rfl,lb,_,_,j+1,rfl,rfl,s4 _ _ g3,nL (by rw[qAa,qAn];lia),?_⟩;obtain⟨k1,k2⟩:=keep (o:=.lst (((pt::ps).map V.str).set (j+1) (V.str x))) s4;refine⟨k1,k2,pt,ps.set j x,_,?_,by rw[qHz];exact pl,L.set sp (by lia),hm,fun e=>?_,rfl⟩
      .rw[aB,qBo,qLx,<- qLe];rfl
      .have ez:=z3 e;have L':iQ m pt ps j:=by rw[show j=f0-1 by lia];exact L
       rw[<- ez];exact L'.He (hm (by lia)) (by lia) (by lia) sp
    .rintro σ' H3 ⟨u3,w3,pt,ps,o10,g3,pl,L,hm,fb,rfl⟩;refine tail _ _ ⟨lb,f0,pt,ps,_,_,_,hlb,u3,g3,L.less (qBn _),fb rfl,?_,rfl⟩;delta Ba;rw[if_neg n0,if_neg n2,ef]
  .intro hk;have e0':=qCi (d/60000) (b:=4) #[1];have e1':=qCa (d/60000) (b:=4) #[1];obtain⟨jn,ejn⟩:∃jn:Nat,13+d/60000%4-(rows.length:Int)=(jn:Int):=⟨(13+d/60000%4-(rows.length:Int)).toNat,by lia⟩;refine Hf ?_;refine⟨_,rfl,kG,fun l1 hl1=>?_⟩;have u2:=aK.aJ (o:=.lst [V.str ("none":Str)]) hl1;have g2:=u2 _ _ g1;have w2:upd H1 l1 (.lst [V.str ("none":Str)]) l1=some (.lst [V.str ("none":Str)]):=aB;have u12:=u1.trans u2;generalize upd H1 l1 (.lst [V.str ("none":Str)])=H2 at u2 g2 w2 u12|-;have ek:(13+d/60000%4-((cI rows).length:Int))=(jn:Int):=by rw[rl];exact ejn
   refine⟨_,rfl,_,_,rfl,rfl,⟨by decide,by decide⟩,_,_,rfl,rfl,(by show(0:Int)<4;decide),_,_,rfl,rfl,_,rfl,ls,_,rfl,.inl (bA.of (u12 _ _ hs)),_,_,rfl,rfl,l1,_,_,rfl,rfl,w2,by rw[ek];lia,by rw[ek];lia,?_,fun l2 hl2=>?_⟩
   .rw[ek,qEn];show 1*jn<=_;exact qAk (show 1*jn<=100 by lia) #[1]
   rw[ek,qEn,pM];have u3:=aK.aJ (o:=.lst (qBd jn (V.str ("none":Str)))) hl2;have g3:=u3 _ _ g2;have w3:upd H2 l2 (.lst (qBd jn (V.str ("none":Str)))) l2=some (.lst (qBd jn (V.str ("none":Str)))):=aB;have u13:=u12.trans u3;generalize upd H2 l2 (.lst (qBd jn (V.str ("none":Str))))=H3 at u3 g3 w3 u13|-;refine⟨lb,l2,_,_,rfl,rfl,bA.of g3,bA.of w3,?_,fun l3 hl3=>?_⟩
   .rw[<- rs,gl,qGd];exact qAk (show rows.length+1+jn<=100 by lia) #[1]
   obtain⟨Rs,hRs⟩:∃Rs,rows.map (·.2)++qBd jn DX=Rs:=⟨_,rfl⟩;have eRs:(iW m::(rows.map (·.2)).map bK).map V.str++qBd jn (V.str ("none":Str))=(iW m::Rs.map bK).map V.str:=by
    rw[<- hRs,qCt,qLz,AZ,<- qGe,qCt,qLz]
   have gRs:∀r∈Rs,GoodR m r:=fun r hr=>by
    rw[<- hRs] at hr;rcases List.mem_append.mp hr with h | h
    .exact goodR r h
    .rw[(List.mem_replicate.mp h).2];exact rO m
   have lRs:Rs.length=rows.length+jn:=by rw[<- hRs,qAf,rsl,qGd]
   rw[eRs];have u4:=u13.trans (aK.aJ (o:=.lst ((iW m::Rs.map bK).map V.str)) hl3);have g4:upd H3 l3 (.lst ((iW m::Rs.map bK).map V.str)) l3=some (.lst ((iW m::Rs.map bK).map V.str)):=aB;have fl3:=u13.free hl3;generalize upd H3 l3 (.lst ((iW m::Rs.map bK).map V.str))=H4 at u4 g4|-;dsimp only[a9];refine bR (σ':=[some (.ref a),some (.ref ls),some (.ref lg),some (.int (k:Int)),some (.int (m:Int)),some (.int d),some (.int 13),some (.int ((f0:Int)+(e0:Int))),some (.ref l3),none,none]) rfl ?_;refine⟨_,rfl,_,_,rfl,rfl,⟨by decide,by decide⟩,_,_,rfl,rfl,(by show(0:Int)<2;decide),rfl,_,rfl,b7 (fun h5=>?_) (fun h5=>?_)⟩
   .obtain⟨j,ej⟩:∃j:Nat,d/480000%12=(j:Int):=⟨(d/480000%12).toNat,by have:=qCi (d/480000) (b:=12) #[1];lia⟩;have j12:j<12:=by have:=qCa (d/480000) (b:=12) #[1];lia
    exists _,rfl,_,_,rfl,rfl,⟨by decide,by decide⟩,_,_,rfl,rfl,(by show(0:Int)<12;decide),_,_,rfl,rfl;show a9 6 (V.int (1+d/480000%12)) _ _ _;rw[show(1:Int)+d/480000%12=((j+1:Nat):Int) from by rw[ej];push_cast;lia];dsimp only[a9];refine bR (σ':=[some (.ref a),some (.ref ls),some (.ref lg),some (.int (k:Int)),some (.int (m:Int)),some (.int d),some (.int ((j+1:Nat):Int)),some (.int ((f0:Int)+(e0:Int))),some (.ref l3),none,none]) rfl ?_;refine⟨_,rfl,by show 0<=qAg;decide,fun e1 he1=>?_⟩;have v1:=aK.aJ (o:=.lst []) he1;have x1:upd H4 e1 (.lst []) e1=some (.lst []):=aB;generalize upd H4 e1 (.lst [])=H5 at v1 x1|-;refine⟨by show 0<=qAg;decide,fun e2 he2=>?_⟩;have v2:=aK.aJ (o:=.lst []) he2;have x2:upd H5 e2 (.lst []) e2=some (.lst []):=aB;have x1:=v2 _ _ x1;have v12:=v1.trans v2;generalize upd H5 e2 (.lst [])=H6 at v12 x1 x2|-;refine⟨Bc,fun pr hpr=>?_⟩;have v3:=aK.aJ (o:=.tup [V.str ("none":Str),V.ref e1,V.ref e2]) hpr;have x3:upd H6 pr (.tup [V.str ("none":Str),V.ref e1,V.ref e2]) pr=some (.tup [V.str ("none":Str),V.ref e1,V.ref e2]):=aB;have x1:=v3 _ _ x1;have x2:=v3 _ _ x2;have v13:=v12.trans v3;generalize upd H6 pr (.tup [V.str ("none":Str),V.ref e1,V.ref e2])=H7 at v13 x1 x2 x3|-;have rowN:lB H7 pr m DX:=⟨e1,e2,[],x3,x1,x2,.nil,rO m⟩;refine⟨kG,fun l4 hl4=>?_⟩;have v4:=aK.aJ (o:=.lst [V.ref pr]) hl4;have x4:upd H7 l4 (.lst [V.ref pr]) l4=some (.lst [V.ref pr]):=aB;generalize upd H7 l4 (.lst [V.ref pr])=H8 at v4 x4|-;refine⟨l4,12,_,rfl,rfl,x4,by decide,by decide,by show 1*12<=qAg;decide,fun l5 hl5=>?_⟩;rw[show(12:Int).toNat=12 from rfl,pM];have v5:=aK.aJ (o:=.lst (qBd 12 (V.ref pr))) hl5;have x5:upd H8 l5 (.lst (qBd 12 (V.ref pr))) l5=some (.lst (qBd 12 (V.ref pr))):=aB;have v45:=v4.trans v5;have u8:=(u4.trans v13).trans v45;have g8:=v45 _ _ (v13 _ _ g4);have row8:=rowN.same v45;generalize upd H8 l5 (.lst (qBd 12 (V.ref pr)))=H9 at u8 g8 row8 x5|-;refine⟨ls,l5,_,_,rfl,rfl,bA.of (u8 _ _ hs),bA.of x5,?_,fun l6 hl6=>?_⟩
    .rw[rl,qGd];exact qAk (show rows.length+12<=100 by lia) #[1]
    have v6:=aK.aJ (o:=.lst (cI rows++qBd 12 (V.ref pr))) hl6;have x6:upd H9 l6 (.lst (cI rows++qBd 12 (V.ref pr))) l6=some (.lst (cI rows++qBd 12 (V.ref pr))):=aB;have u9:=u8.trans v6;have g9:=v6 _ _ g8;have row9:=row8.same v6;generalize upd H9 l6 (.lst (cI rows++qBd 12 (V.ref pr)))=H10 at u9 g9 row9 x6|-;obtain⟨pj,rj,hpj,hrow⟩:∃(pj:Addr) (rj:R4),(cI rows++qBd 12 (V.ref pr))[j]?=some (.ref pj)/\lB H10 pj m rj:=by
     rcases qBj j rows.length with z | z
     .refine⟨rows[j].1,rows[j].2,?_,(ra _ (qDc z)).same u9⟩;rw[qAy (by rw[rl];exact z)];delta cI;rw[qAs,qAe z];rfl
     .refine⟨pr,DX,?_,row9⟩;rw[qAz (by rw[rl];exact z),qKl,if_pos (by rw[rl];lia)]
    have hat:iT (cI rows++qBd 12 (V.ref pr)) (((j+1:Nat):Int)-1)=some (.ref pj):=by
     rw[show((j+1:Nat):Int)-1=(j:Int) from by push_cast;lia];exact bP hpj
    exists _,rfl,_,_,rfl,rfl,l6,_,_,_,rfl,rfl,bA.of x6,hat;dsimp only[a9];refine bR (σ':=[some (.ref a),some (.ref ls),some (.ref lg),some (.int (k:Int)),some (.int (m:Int)),some (.int d),some (.int ((j+1:Nat):Int)),some (.int ((f0:Int)+(e0:Int))),some (.ref l3),some (.ref pj),none]) rfl ?_;refine⟨_,rfl,_,rfl,_,rfl,_,rfl,_,_,rfl,rfl,.inl ⟨by lia,by lia⟩,_,_,rfl,rfl,a,ns,5+7*k,(by show [V.ref a,V.int (5+7*(k:Int))]=_;push_cast;rfl),u9.seq ha,hsm,by lia,fun c _ _=>⟨pj,m,rj,c,rfl,hrow,m1,m6,fun x H11 sp s11=>?_⟩⟩;refine⟨_,rfl,_,rfl,l3,_,_,j+1,rfl,rfl,s11 _ _ g9,nL (by rw[qAa,qAn,qAa,lRs];lia),?_⟩;have L:=iQ.rows m1 m6 gRs (by lia) j;refine tail _ _ ⟨l3,j+1,iW m,(Rs.map bK).set j x,_,_,_,fl3,(u9.trans s11).upd_ne' fl3,?_,(L.set sp (qAl _)).less (qBn _),L.He hh j12 (by rw[qAa,lRs];lia) sp,?_,rfl⟩
    .rw[aB,qBo,qLx,<- qLe];rfl
    .delta Ba;rw[if_pos hk,if_pos (vI h5),ej];push_cast;lia
   .have L:=iQ.rows m1 m6 gRs (by lia) 12;refine tail _ _ ⟨l3,13,iW m,Rs.map bK,_,_,_,fl3,u4,g4,L.less (qBn _),L.Ox hh (by rw[qAa,lRs];lia),?_,rfl⟩;delta Ba;rw[if_pos hk,if_neg (vN h5)];rfl
 rintro σ' H2 ⟨lb',i,pt,ps,o7,o9,o10,flb,u2,g2,L,fb,ei,rfl⟩;refine dG (fun σ' H'=>∃(i:Nat) (pt:Str) (ps:List Str),aK H H'/\H' lb'=some (.lst ((pt::ps).map V.str))/\iQ m pt ps 0/\jW pt ps i/\(i:Int)=FY d rows.length/\σ'=[some (.ref a),some (.ref ls),some (.ref lg),some (.int (k:Int)),some (.int (m:Int)),some (.int d),some (.int (i:Int)),o7,some (.ref lb'),o9,o10]) (fun tail=>?_) ?_
 .refine⟨_,rfl,_,_,rfl,rfl,⟨by decide,by decide⟩,_,_,rfl,rfl,(by show(0:Int)<6;decide),rfl,_,rfl,b7 (fun h=>?_) (fun h=>tail _ _ ⟨i,pt,ps,u2,g2,L,fb,(by delta FY;rw[if_neg (vN h)];exact ei),rfl⟩)⟩;refine Hf ?_;refine⟨_,rfl,_,rfl,_,rfl,_,_,rfl,rfl,.inl ⟨by lia,by lia⟩,_,_,rfl,rfl,a,ns,4+7*k,(by show [V.ref a,V.int (4+7*(k:Int))]=_;push_cast;rfl),u2.seq ha,hsm,by lia,fun c _ _=>⟨_,_,rfl,rfl,m,_,rfl,m1,m6,fun x H4 hx s4=>?_⟩⟩;refine⟨_,rfl,lb',_,_,0,rfl,rfl,s4 _ _ g2,nL (j:=0) (by show 0<_+1;lia),?_⟩;exact tail _ _ ⟨0,x,ps,(u2.trans s4).upd_ne' flb,by rw[aB];rfl,L.hd m6 hx,iQ.Hd m6 hx,(by delta FY;rw[if_pos (vI h)];rfl),rfl⟩
 rintro σ' H3 ⟨i,pt,ps,u3,g3,L,fb,ei,rfl⟩;exact⟨rfl,_,rfl,_,lb',pt::ps,rfl,rfl,bA.of g3,qAk L.room #[1],_,rfl,Bk,fun p hp=>kq p _ i _ (L.bad fb) ei (u3.trans (.aJ hp)) aB⟩
theorem Oy:aN ["_law_found"] ["_law_found"] (aF Jd):=#[1,2]
theorem Kw(t:Tx K mg "_law_whole" Jd ["_law_found"] f fd)(T:#[4]):#[5] 1 "_law_whole" ["_law_found"] (rD K) f fd:=by
 refine t.mX Oy (by rintro _ _ _ _⟨v,rfl,_⟩;rfl) fun _ _ _ _ H vs Q E hr h=>?_;obtain⟨v,rfl,pl,k⟩:=h;obtain⟨Ty,ty,kd⟩:=pl.ex;refine⟨_,aH (aU (rR (aO gU #[0] T.gG gN (aA (pv 0) (aA (hV (v:=.ty "int") #[0] T.oR vX rfl) aC)))
  (lK (rS (aO gU #[0] T.gG gN (aA (pv 0) (aA (hV (v:=.ty "bool") #[0] T.l7 yG rfl) aC))))))),?_⟩
 exists _,rfl,v,.ty "int",_,_,_,rfl,rfl,.of ty,kd.LY K,_,rfl;refine b7 (fun h1=>?_) (fun h1=>?_)
 .exists _,rfl,v,.ty "bool",_,_,_,rfl,rfl,.of ty,kd.Gg K,_,rfl;have e:(!(Ty == "bool"))=iL v:=by
   rw[Pl.iL ty];cases kd <;> first | rfl | (exact absurd h1 #[1])
  rw[e];exact k
 .have e:false=iL v:=by
   rw[Pl.iL ty];cases kd <;> first | rfl | (exact absurd rfl h1)
  rw[e];exact k
theorem xR:Txt.split ("":Str) ("; ":Str)=[("":Str)]:=by decide +kernel
theorem Bb:jW ("":Str) [] 0:=.inl ⟨rfl,zO (m:=1) #[1] qAr⟩
theorem DY{m i:Nat}{pt:Str}{ps:List Str}(L:iQ m pt ps ps.length)(hm:uU pt m)(l12:ps.length<=12):¬jW pt ps i:=fun fb=>by
 rcases fb with ⟨_,n⟩ | ⟨m',j,hm',_,_,b⟩
 .exact n ⟨m,hm⟩
 .obtain rfl:=hm.uniq hm';rcases b with ⟨_,p,e,no⟩ | ⟨e,l⟩
  .exact no (L.gd j p (List.getElem?_eq_some_iff.mp e).1 e)
  .lia
theorem DZ{m:Nat}{r r':R4}{qs:List P3}(g:GoodR m r)(m6:m<=6)(h:RowW m (b9 r.k::bX r) r' qs):bK r'=bK r:=by
 obtain⟨hk,e⟩:=h.k g.k7 rfl;obtain⟨g',pm,_⟩:=h;have sl:(r.ns.map nW).length=(r'.ns.map nW).length:=by rw[qAa,qAa,g.sz,g'.sz,hk]
 obtain⟨e1,e2⟩:=List.append_inj e sl;have e3:=nG (g.pB m6 (.refl r.ps)) (g'.pB m6 pm) e2;have e4:r'.ps=r.ps:=uW g'.Bh g.Bh (by rw[e3];exact pm.symm);delta bK zH;rw[hk,e4,e1]
def z5(K:qAb):Sp:=fun vs H Q _=>∃(a:Addr) (ns:List Int),vs=[.ref a]/\bA K H a (ns.map V.int)/\ns.length<=63/\(∀i∈ns,Sm 1048577 i)/\∀H',Q (.bl true) H'
theorem j3:aN ["_law_script","_law_many","_law_some","_law_good","_law_text","_law_empty","_law_k","_law_bad_here","_law_first","_law_told_here"] ["_law_script"] (aF Ji):=#[1,2]
theorem Kx{f1 f2 f3 f4 f5 f6 f7:Addr}{fd1 fd2 fd3 fd4 fd5 fd6 fd7:qBy}(t:Tx K mg "law" Ji ["_law_script"] f fd)(T:#[4])
  (D_law_cell:#[5] 1 "_law_cell" ["_law_script","_law_k"] (zL K) f1 fd1) (D_law_rules:#[5] 3 "_law_rules" ["_law_script","_law_many"] (GP K) f2 fd2)
  (D_law_part:#[5] 1 "_law_part" ["_law_head","_law_numbers","_law_pairs"] DF f3 fd3) (D_law_told:#[5] 12 "_law_told" ["_law_text"] (GS P w K mg base fH CO NX) f4 fd4)
  (D_law_whole:#[5] 1 "_law_whole" ["_law_found"] (rD K) f5 fd5) (D_law_bad:#[5] 4 "_law_bad" ["_law_script","_law_some","_law_good","_law_k"] (Hg K) f6 fd6)
  (D_read:Df P w K mg base (AA P w) 11 "read" ["text"] (zK P w K mg base fH CO NX) f7 fd7) (D_CW:#[1,0] 4 ["self"] (NZ P w K mg base fH CO) cW) :
  #[5] 13 "law" ["_law_script"] (z5 K) f fd:=by
 refine t.mX j3 (by rintro _ _ _ _⟨a,ns,rfl,_⟩;rfl) fun _ _ _ _ H vs Q E hr h=>?_;obtain⟨a,ns,rfl,hq,hns,hsm,k⟩:=h;refine⟨_,(aE (aX (i:=1) j3.nd rfl cO (aG bQ aD (aG bJ (bN D_law_cell hr #[1] #[0] (aA (pv 0) (aA aD aC))) aD)))
  (aE (aX (i:=2) j3.nd rfl #[3] (bN D_law_rules hr #[1] #[0] (aA (pv 0) (aA (pv 1) aC))))
  (aE (aX (i:=3) j3.nd rfl cO (aG bB (bE (aA (eU (aZ aI (aZ (dN (pv 1)) dD))) aC)) (dX (NB:=["_law_row"]) (pick:=[none]) (dJ #[7] (by exact trivial) rfl #[2] #[2] #[0] #[0]) rfl
    (cU (pv 2)) (fun _ _ _=>bC (i:=0) #[8,["_law_row"]] rfl cO)
    (fun _ _ _=>cV) (fun _ _ _=>(bN D_law_part hr #[1] #[0] (aA (bH (nD K) (pv 0) aD #[6]) (aA (bH (nD K) (pv 0) aD #[6]) (aA (bH (nD K) (pv 0) aD #[6]) aC))))))))
  (aE (aX (i:=4) j3.nd rfl cO (dP qBf qCp qCo dQ aI (aA (pv 3) aC)))
  (aE (aX (i:=5) j3.nd rfl cO (bN D_law_told hr #[1] #[0] (aA aI aC)))
  (aE (bI (PW.pt (pw_or (fS (eL (bN D_law_whole hr #[1] #[0] (aA (pv 5) aC)))) (pw_or1 (aL kI (pv 5) aD (aT _))))) (aH (aU qA)) aY)
  (aE (hX #[9] rfl (jH #[0] T.eV (aA aD aC)) (bC (i:=6) j3.nd rfl cO)
   (aE (j8 (bN D_law_bad hr #[1] #[0] (aA (pv 0) (aA (pv 2) (aA (pv 3) (aA (pv 6) aC))))) (j5 rfl (cC (bC (i:=7) j3.nd rfl cO) (cC (bC (i:=8) j3.nd rfl cO) hW))))
   (aE (aX (i:=9) j3.nd rfl cO (bN D_law_told hr #[1] #[0] (aA (pv 7) aC)))
   (aE (bI (PW.pt (pw_or (fS (eL (bN D_law_whole hr #[1] #[0] (aA (pv 9) aC)))) (pw_or1 (aL kI (pv 9) (pv 8) (aT _))))) (aH (aU qA)) aY)
   (aH (bI (PW.pt (pw_and (aL bU (aG bJ (pv 6) aD) aD (aT _)) (pw_and1 (aL kI (qQ (k:=4) kM (CD CI D_read hr #[1] #[0] (aA (pv 4) aC)) hr #[1]) (pv 4) (aT _))))) (aH (aU qA)) aY))))))
  (aH (aU (jI bU (bN D_law_told hr #[1] #[0] (aA (bH dB (bN D_law_bad hr #[1] #[0] (aA (pv 0) (aA (pv 2) (aA (pv 3) (aA aD aC))))) aD #[6]) aC)) (bH dB (bN D_law_bad hr #[1] #[0] (aA (pv 0) (aA (pv 2) (aA (pv 3) (aA aD aC))))) aD #[6]) (aT _))))))))))),?_⟩
 refine⟨_,rfl,a,ns,0,rfl,hq,hsm,by decide,fun c0 _ ec=>⟨_,_,rfl,rfl,(by show(0:Int)<6;decide),_,_,rfl,rfl,?_⟩⟩;subst ec;obtain⟨m,hm,m1,m6⟩:∃m:Nat,1+pD ns 0%6=(m:Int)/\1<=m/\m<=6:=⟨(1+pD ns 0%6).toNat,by lia,by lia,by lia⟩;show a9 1 (V.int (1+pD ns 0%6)) _ _ _;rw[hm];dsimp only[a9];refine⟨_,rfl,_,rfl,a,ns,m,rfl,hq,hsm,hns,m1,m6,fun lS rows H1 hlS s1 hS1 r12 rows1=>?_⟩;have rrl:(cI rows).length=rows.length:=by delta cI;rw[qAa]
 dsimp only[a9];refine bR (σ':=[some (.ref a),some (.int (m:Int)),some (.ref lS),none,none,none,none,none,none,none]) rfl ?_;have goods:∀r∈rows,GoodR m r.2:=fun r hr=>let ⟨_,_,_,_,_,_,_,g⟩:=rows1 r hr;g;have hm60:(m:Int).natAbs<10^60:=qBp (show(m:Int).natAbs<=6 by lia) #[2];refine asg ?_;show kJ _ _ _ _;refine tl (tc (DH #[1] rfl hm60 (tn ⟨kG,fun l2 hl2=>?_⟩)));have v2:=aK.aJ (o:=.lst [V.str (("hands ":Str)++nW (m:Int))]) hl2;have h22:upd H1 l2 (.lst [V.str (("hands ":Str)++nW (m:Int))]) l2=some (.lst (([iW m]:List Str).map V.str)):=aB;have hS2:=v2 _ _ hS1;have rows2:=rows1.same v2;have s2:=s1.trans v2;generalize upd H1 l2 (.lst [V.str (("hands ":Str)++nW (m:Int))])=H2 at v2 h22 hS2 rows2 s2|-;exists _,rfl,lS,rfl,⟨_,bA.of hS2⟩;refine eG (xs:=cI rows) (fun i _=>(rows[i]?).map fun r=>V.str (bK r.2)) (bA.of hS2) (by rw[rrl];exact qCu (bL (by lia))) (fun i x H6 kk kk0 s6 hx g1 g2=>?_) fun D H3 hD s3 hd=>?_
 .obtain⟨r,er,rfl,hr⟩:∃r,rows[i]?=some r/\x = .ref r.1/\r∈rows:=by
   delta cI at hx;rw[qAs] at hx;cases e:rows[i]? with
   | none=>rw[e] at hx;cases hx
   | some r=>rw[e] at hx;exact⟨r,rfl,(Option.some.inj hx).symm,qAp e⟩
  obtain⟨ln,lp,bs,q1,q2,q3,q4,q5⟩:=rows2.same s6 r hr;have a0:iT [V.str (b9 r.2.k),V.ref ln,V.ref lp] 0=some (.str (b9 r.2.k)):=rfl;have a1:iT [V.str (b9 r.2.k),V.ref ln,V.ref lp] 1=some (.ref ln):=rfl;have a2:iT [V.str (b9 r.2.k),V.ref ln,V.ref lp] 2=some (.ref lp):=rfl;exact⟨_,rfl,r.1,_,_,_,rfl,rfl,eQ.of q1,a0,_,rfl,r.1,_,_,_,rfl,rfl,eQ.of q1,a1,_,rfl,r.1,_,_,_,rfl,rfl,eQ.of q1,a2,ln,lp,bs,m,r.2,r.2.ps,rfl,q5,m6,q2,q3,q4,.refl _,fun H5 s5=>g1 _ (by rw[er];rfl) _ s5⟩
 have ed:((qBk (cI rows).length).filterMap fun i=>((cI rows)[i]?).bind fun _=>(rows[i]?).map fun r=>V.str (bK r.2))=(rows.map fun q=>bK q.2).map V.str:=by
  rw[rrl];refine Eq.trans (fX (g:=fun i=>(rows[i]?).bind fun r=>some (V.str (bK r.2))) fun i hi=>?_) ?_
  .have hi:=List.mem_range.mp hi;rw[qAe (l:=cI rows) (by rw[rrl];exact hi),qAe hi];rfl
  .rw[eJ,qCz,qCe];rfl
 rw[ed] at hd;obtain⟨ts,ets⟩:∃ts,(rows.map fun q=>bK q.2)=ts:=⟨_,rfl⟩;have tsl:ts.length=rows.length:=by rw[<- ets,qAa]
 rw[ets] at hd;refine⟨l2,D,_,_,rfl,rfl,bA.of (s3 _ _ h22),bA.of hd,(by rw[qAa,qAa];exact eI (by show 1<=8;decide) (by lia)),fun lg hlg=>?_⟩;have s4:=(s2.trans s3).trans (aK.aJ (o:=.lst (([iW m]:List Str).map V.str++ts.map V.str)) hlg);have hS4:=(s3.trans (aK.aJ (o:=.lst (([iW m]:List Str).map V.str++ts.map V.str)) hlg)) _ _ hS2;have rows4:=rows2.same (s3.trans (aK.aJ (o:=.lst (([iW m]:List Str).map V.str++ts.map V.str)) hlg));have g4:upd H3 lg (.lst (([iW m]:List Str).map V.str++ts.map V.str)) lg=some (.lst ((iW m::ts).map V.str)):=aB;generalize upd H3 lg (.lst (([iW m]:List Str).map V.str++ts.map V.str))=H4 at s4 hS4 rows4 g4|-;have L:iQ m (iW m) ts ts.length:=by
  have z:=iQ.rows m1 m6 (rs:=rows.map (·.2)) (fun r hr=>by obtain⟨q,hq,rfl⟩:=List.mem_map.mp hr;exact goods q hq) (by rw[qAa];lia) ts.length;rw[show(rows.map (·.2)).map bK=ts from by rw[<- ets,qCe];rfl] at z;exact z
 have hh:=DW m1 m6;dsimp only[a9];refine bR (σ':=[some (.ref a),some (.int (m:Int)),some (.ref lS),some (.ref lg),none,none,none,none,none,none]) rfl ?_;refine⟨rfl,_,rfl,_,lg,iW m::ts,rfl,rfl,bA.of g4,qAk L.room #[1],?_⟩;obtain⟨tx,etx⟩:∃tx,Txt.join ("; ":Str) (iW m::ts)=tx:=⟨_,rfl⟩;show a9 4 (V.str (Txt.join ("; ":Str) (iW m::ts))) _ _ _;rw[etx];dsimp only[a9];refine bR (σ':=[some (.ref a),some (.int (m:Int)),some (.ref lS),some (.ref lg),some (.str tx),none,none,none,none,none]) rfl ?_;refine⟨("":Str),("":Str),[],0,rfl,by decide,xR,by decide,(fun p hp=>by cases hp),Bb,fun H5 s5=>?_⟩;dsimp only[a9];refine bR (σ':=[some (.ref a),some (.int (m:Int)),some (.ref lS),some (.ref lg),some (.str tx),some (.int 0),none,none,none,none]) rfl ?_;refine⟨_,rfl,_,rfl,.int _,_,rfl,bF ?_⟩;refine⟨_,rfl,rfl,_,rfl,BK rfl ?_⟩;dsimp only[bM];have s45:=s4.trans s5;have hS5:=s5 _ _ hS4;have rows5:=rows4.same s5;have g5:=s5 _ _ g4;have ets':(iW m::rows.map fun q=>bK q.2)=iW m::ts:=by rw[ets]
 refine⟨6,rfl,by decide,by decide,?_⟩;refine gQ (n:=6) (fun i σ' H'=>aK H5 H'/\∃o6 o7 o8 o9:Option V,σ'=[some (.ref a),some (.int (m:Int)),some (.ref lS),some (.ref lg),some (.str tx),some (.int 0),o6,o7,o8,o9]) ⟨.refl _,_,_,_,_,rfl⟩ ?_ ?_
 .rintro i σ' H6 hi ⟨s6,o6,o7,o8,o9,rfl⟩;rw[qJl (i:Int)];dsimp only[a9];refine⟨_,rfl,_,rfl,_,rfl,_,rfl,a,lS,lg,ns,i,m,rows,rfl,(s45.trans (s6)).seq hq,hsm,(by lia),hm.symm,(s6) _ _ hS5,r12,rows5.same (s6),(by rw[ets'];exact(s6) _ _ g5),fun p x j H7 bx ej s7 hp=>?_⟩;obtain⟨pt,ps,b1,b2,b3,b4,b5⟩:=bx;exists p,_,rfl,eQ.of hp,rfl,_,_,rfl,_,_,rfl,rfl;refine bR (σ':=[some (.ref a),some (.int (m:Int)),some (.ref lS),some (.ref lg),some (.str tx),some (.int 0),some (.int (i:Int)),some (.str x),some (.int (j:Int)),o9]) rfl ?_;refine⟨_,rfl,x,pt,ps,j,rfl,b1,b2,b3,b4,b5,fun H8 s8=>?_⟩;dsimp only[a9];refine bR (σ':=[some (.ref a),some (.int (m:Int)),some (.ref lS),some (.ref lg),some (.str tx),some (.int 0),some (.int (i:Int)),some (.str x),some (.int (j:Int)),some (.int (j:Int))]) rfl ?_;refine⟨_,rfl,_,rfl,.int _,_,rfl,bF ?_⟩;refine⟨_,rfl,_,rfl,rfl,_,rfl,BK rfl ?_⟩;dsimp only[bM];have s68:=(s6.trans s7).trans s8;refine⟨_,rfl,_,_,rfl,rfl,(by show(0:Int)<3;decide),rfl,_,rfl,b7 (fun _=>?_) (fun _=>bF ⟨s68,_,_,_,_,rfl⟩)⟩;have tsp:Txt.split tx ("; ":Str)=iW m::ts:=by
   rw[<- etx];refine mR (c:=59) (d0:=32) rfl #[1] #[2] (fun z=>nomatch z) (fun p hp=>?_);rcases List.mem_cons.mp hp with rfl | hp
   .exact L.hb.1
   .exact(L.pb p hp).2
  have txl:tx.length<=2000000:=by
   rw[<- etx,show Txt.join ("; ":Str) (iW m::ts)=Str.join ("; ":Str) (iW m::ts) from StrLaws.glued_eq_join _ _];exact qAk (StrLaws.join_length_le _ _) L.room
  refine⟨_,rfl,tx,iW m,ts,rfl,txl,tsp,by lia,fun p hp=>(L.pb p hp).1,fun m' rs hm' _ rsl hrow c H9 s9 co=>?_,fun i fb=>absurd fb (DY L hh (by lia))⟩;obtain rfl:=hh.uniq hm';obtain⟨os,co,ol,rel⟩:=co;obtain⟨dx,l,h1,h2,h3,h4,h5,h6,h7⟩:=id co;have ers:rs.map bK=ts:=by
   refine List.ext_getElem? fun n=>?_;rw[qAs];rcases qBj n ts.length with hn | hn
   .have hn':n<rows.length:=by lia
    have e1:ts[n]?=some (bK rows[n].2):=by rw[<- ets,qAs,qAe hn'];rfl
    have e2:rs[n]?=some rs[n]:=qAe (by lia);obtain⟨qs,row⟩:=hrow n _ _ e1 e2;have gn:=goods _ (qDc hn');have sp:Txt.split (bK rows[n].2) (" ":Str)=b9 rows[n].2.k::bX rows[n].2:=pF gn m6 (.refl _);rw[sp] at row;rw[e1,e2];show some (bK rs[n])=_;rw[DZ gn m6 row]
   .rw[qDq (by lia),qDq (by lia)];rfl
  refine⟨c,CO,dx,_,cW,_,rfl,h1,rfl,T.Ed.oc.cl,T.Ed.mw,⟨_,D_CW⟩,c,m,os,rs.map bK,rfl,co,by rw[qAa];exact ol.symm,(fun i o tx e1 e2=>?_),(fun t ht=>?_),fun H10 s10=>?_⟩
  .rw[qAs] at e2;cases e:rs[i]? with
   | none=>rw[e] at e2;cases e2
   | some r =>
    rw[e] at e2;cases e2;exact rel i o r e1 e
  .rw[ers] at ht;exact(L.pb t ht).1.len
  .refine⟨_,rfl,rfl,_,rfl,BK ?_ ⟨(s68.trans s9).trans s10,_,_,_,_,rfl⟩⟩;show V.str (QM m (rs.map bK))=V.str tx;rw[ers,<- etx];rfl
 .rintro σ' H6 ⟨s6,o6,o7,o8,o9,rfl⟩;refine⟨_,rfl,_,rfl,_,rfl,a,lS,lg,ns,0,m,rows,rfl,(s45.trans (s6)).seq hq,hsm,#[1],hm.symm,(s6) _ _ hS5,r12,rows5.same (s6),(by rw[ets'];exact(s6) _ _ g5),fun p x j H7 bx ej s7 hp=>?_⟩;obtain⟨pt,ps,b1,b2,b3,b4,b5⟩:=bx;have a0:iT [V.str x,V.int (j:Int)] 0=some (.str x):=rfl;refine⟨p,_,_,_,rfl,rfl,eQ.of hp,a0,x,pt,ps,j,rfl,b1,b2,b3,b4,b5,fun H8 s8=>?_⟩;refine⟨_,rfl,_,rfl,_,rfl,a,lS,lg,ns,0,m,rows,rfl,(s45.trans ((s6.trans s7).trans s8)).seq hq,hsm,#[1],hm.symm,((s6.trans s7).trans s8) _ _ hS5,r12,rows5.same ((s6.trans s7).trans s8),(by rw[ets'];exact((s6.trans s7).trans s8) _ _ g5),fun p' x' j' H9 bx' ej' s9 hp'=>?_⟩;have a1:iT [V.str x',V.int (j':Int)] 1=some (.int (j':Int)):=rfl;exists p',_,_,_,rfl,rfl,eQ.of hp',a1,rfl;rw[show decide (V.int (j:Int)=V.int (j':Int))=true from decide_eq_true (by rw[ej,ej'])];exact k _
end
end K14
namespace PySem.W.Fast
theorem tw11703630268576365552:1=1:=rfl
theorem tw9429794168132418348:1=1:=rfl
theorem tw14121026879167603562:1=1:=rfl
theorem tw849437475830362533:1=1:=rfl
theorem tw13179628802611344831:1=1:=rfl
theorem tw3479849587419536950:1=1:=rfl
theorem tw9079526287804552103:1=1:=rfl
theorem tw5096767271442940880:1=1:=rfl
theorem tw15756013069350522262:1=1:=rfl
theorem tw3332695344893060175:1=1:=rfl
theorem tw17609486908206083318:1=1:=rfl
theorem tw5903073187461525978:1=1:=rfl
theorem tw2293062308528544585:1=1:=rfl
theorem tw1346114069108039071:1=1:=rfl
theorem tw10133489633339327851:1=1:=rfl
theorem tw14566149545425408133:1=1:=rfl
theorem tw15681692170000778852:1=1:=rfl
theorem tw855052357159982592:1=1:=rfl
theorem tw15989893997549668098:1=1:=rfl
theorem tw3681126751904266059:1=1:=rfl
theorem tw4847676641583058635:1=1:=rfl
theorem tw7357066156165268153:1=1:=rfl
theorem tw2107792818891061195:1=1:=rfl
theorem tw13539798546693088660:1=1:=rfl
theorem tw17787667781882306562:1=1:=rfl
theorem tw17859008920571338654:1=1:=rfl
theorem tw17759339408414292974:1=1:=rfl
theorem tw3624603768822757956:1=1:=rfl
theorem tw15563233430725320082:1=1:=rfl
theorem tw15311871675213905829:1=1:=rfl
theorem tw3948710484340201359:1=1:=rfl
theorem tw12447703082436603039:1=1:=rfl
theorem tw11180052704275905923:1=1:=rfl
theorem tw5529675703562653778:1=1:=rfl
theorem tw1610678436197722725:1=1:=rfl
theorem tw11454219236218102524:1=1:=rfl
theorem tw17767754916706672700:1=1:=rfl
theorem tw12645235327062238888:1=1:=rfl
theorem tw10913337810687154629:1=1:=rfl
theorem tw6920033389172475468:1=1:=rfl
theorem tw17330228120325532935:1=1:=rfl
theorem tw6796486054222596373:1=1:=rfl
theorem tw2022023515699559547:1=1:=rfl
theorem tw2196272496986965815:1=1:=rfl
theorem tw8065137986905170891:1=1:=rfl
theorem tw13183565068818994892:1=1:=rfl
theorem tw7435459695785060269:1=1:=rfl
theorem tw8963369290103480020:1=1:=rfl
theorem tw3323509234241317382:1=1:=rfl
theorem tw1562799844253305502:1=1:=rfl
theorem tw9791558776684059702:1=1:=rfl
theorem tw13331434439856895940:1=1:=rfl
theorem tw9317040661869559788:1=1:=rfl
theorem tw3009390798177614710:1=1:=rfl
theorem tw10433622929502748964:1=1:=rfl
theorem tw4102451772977182121:1=1:=rfl
theorem tw9100891788928383414:1=1:=rfl
theorem tw17306966796708581521:1=1:=rfl
theorem tw13127666246104556920:1=1:=rfl
theorem tw8549882565106096856:1=1:=rfl
theorem tw16618917792498675645:1=1:=rfl
theorem tw4953205259526259252:1=1:=rfl
theorem tw608352321761296459:1=1:=rfl
theorem tw13744303685721827508:1=1:=rfl
theorem tw18136769224010642389:1=1:=rfl
theorem tw2841290590141088975:1=1:=rfl
theorem tw17108160175611050133:1=1:=rfl
theorem tw15436746263381497920:1=1:=rfl
theorem tw13936117445853912059:1=1:=rfl
theorem tw8589334573348810175:1=1:=rfl
theorem tw6145547119815289600:1=1:=rfl
theorem tw1612648208655918849:1=1:=rfl
theorem tw14972326089575444431:1=1:=rfl
theorem tw2488566082419168765:1=1:=rfl
theorem tw10924878748756867069:1=1:=rfl
theorem tw14183718688617421761:1=1:=rfl
theorem tw15108631856564275553:1=1:=rfl
theorem tw5290704055338915455:1=1:=rfl
theorem tw13867349356845245557:1=1:=rfl
theorem tw4772522163083727087:1=1:=rfl
theorem tw17570500480841027060:1=1:=rfl
theorem tw18262790477996411509:1=1:=rfl
theorem tw16438647000036652032:1=1:=rfl
theorem tw2112316138556516504:1=1:=rfl
theorem tw7304521023557296747:1=1:=rfl
theorem tw7586618190509283325:1=1:=rfl
theorem tw12750213025005954847:1=1:=rfl
theorem tw10491041754118772343:1=1:=rfl
theorem tw16713386558378730689:1=1:=rfl
theorem tw5765754664242787931:1=1:=rfl
theorem tw7039869874588670888:1=1:=rfl
theorem tw11674202829947226236:1=1:=rfl
theorem tw9607374597156987931:1=1:=rfl
theorem tw6689943657641688164:1=1:=rfl
theorem tw13581129676629710553:1=1:=rfl
theorem tw16523626186627753744:1=1:=rfl
theorem tw1647645197415130531:1=1:=rfl
theorem tw7851694180559458154:1=1:=rfl
theorem tw17162460210576709985:1=1:=rfl
theorem tw10006989461392475796:1=1:=rfl
theorem tw11955431786715441569:1=1:=rfl
theorem tw11574281163505563042:1=1:=rfl
theorem tw1186428716440249291:1=1:=rfl
theorem tw16163232180338431810:1=1:=rfl
theorem tw2310437231753413752:1=1:=rfl
theorem tw12780477909150977271:1=1:=rfl
theorem tw17102199863529102746:1=1:=rfl
theorem tw3119501691541467862:1=1:=rfl
theorem tw13269021027904691751:1=1:=rfl
theorem tw2629198805494814950:1=1:=rfl
theorem tw471044551711179371:1=1:=rfl
theorem tw6752056653718608420:1=1:=rfl
theorem tw9070884042351587357:1=1:=rfl
theorem tw7943945483923007849:1=1:=rfl
theorem tw13817199312269560632:1=1:=rfl
theorem tw6290695039757415730:1=1:=rfl
theorem tw15307543017794036975:1=1:=rfl
theorem tw789231977390324247:1=1:=rfl
theorem tw407783349667638204:1=1:=rfl
theorem tw3817588356229489377:1=1:=rfl
theorem tw3039468028849811756:1=1:=rfl
theorem tw1257462649136913606:1=1:=rfl
theorem tw12482431274151805414:1=1:=rfl
theorem tw14403153125908886278:1=1:=rfl
theorem tw2088268774911055421:1=1:=rfl
theorem tw8488807776331594109:1=1:=rfl
theorem tw5189986894780236942:1=1:=rfl
theorem tw239407390310635959:1=1:=rfl
theorem tw8644061109612939142:1=1:=rfl
theorem tw12815773606589338954:1=1:=rfl
theorem tw5547850175952259288:1=1:=rfl
theorem tw3859813462605997583:1=1:=rfl
theorem tw964314932498600403:1=1:=rfl
theorem tw5567087464719710402:1=1:=rfl
theorem tw11807992361852383818:1=1:=rfl
theorem tw14201326593803547272:1=1:=rfl
theorem tw3731700254423558217:1=1:=rfl
theorem tw9131800321482184924:1=1:=rfl
theorem tw15647453546407530457:1=1:=rfl
theorem tw427595421759836563:1=1:=rfl
theorem tw9087432328564744427:1=1:=rfl
theorem tw12362911192521456905:1=1:=rfl
theorem tw6115853052595212980:1=1:=rfl
theorem tw6774562318286301137:1=1:=rfl
theorem tw637675521553854294:1=1:=rfl
theorem tw6948347278367699878:1=1:=rfl
theorem tw9551921061963470025:1=1:=rfl
theorem tw13318125290325670455:1=1:=rfl
theorem tw12595532626871416774:1=1:=rfl
theorem tw1693097946104012363:1=1:=rfl
theorem tw14598478460344646691:1=1:=rfl
theorem tw9466866416756549490:1=1:=rfl
theorem tw7348972008507069017:1=1:=rfl
theorem tw17726656495774755360:1=1:=rfl
theorem tw7935980808871063798:1=1:=rfl
theorem tw10149962577281495718:1=1:=rfl
theorem tw16541778260374859576:1=1:=rfl
theorem tw15433496351264576491:1=1:=rfl
theorem tw16064520517631173075:1=1:=rfl
theorem tw15187754608161092945:1=1:=rfl
theorem tw12765784477554388598:1=1:=rfl
theorem tw7368982159676147961:1=1:=rfl
theorem tw16356776455959157587:1=1:=rfl
theorem tw3632861346128940784:1=1:=rfl
theorem tw13325398316135153629:1=1:=rfl
theorem tw1977908701587680814:1=1:=rfl
theorem tw1621819349955261183:1=1:=rfl
theorem tw12949035056443567185:1=1:=rfl
theorem tw8413951039397784773:1=1:=rfl
theorem tw8308304339512069238:1=1:=rfl
theorem tw3992326512428959360:1=1:=rfl
theorem tw2154950890154462769:1=1:=rfl
theorem tw3567305564769107901:1=1:=rfl
theorem tw4532069367008919186:1=1:=rfl
theorem tw18318153035989120662:1=1:=rfl
theorem tw3230071344393394280:1=1:=rfl
theorem tw10629510288610279625:1=1:=rfl
theorem tw1528554447916184431:1=1:=rfl
theorem tw18168233545390479820:1=1:=rfl
theorem tw4610631623890735191:1=1:=rfl
theorem tw5751131092890777435:1=1:=rfl
theorem tw634493469282995616:1=1:=rfl
theorem tw445651455689156142:1=1:=rfl
theorem tw3549799648885900250:1=1:=rfl
theorem tw2739914010276962185:1=1:=rfl
theorem tw8546277789539556785:1=1:=rfl
theorem tw17739251141060956183:1=1:=rfl
theorem tw5997600775689617988:1=1:=rfl
theorem tw6603113091469232324:1=1:=rfl
theorem tw10570130044160103622:1=1:=rfl
theorem tw17975082945314419937:1=1:=rfl
theorem tw10760538735883879306:1=1:=rfl
theorem tw104082548318909795:1=1:=rfl
theorem tw14553436464793635368:1=1:=rfl
theorem tw13542745906942027184:1=1:=rfl
theorem tw17589931823964951321:1=1:=rfl
theorem tw6023327547654807122:1=1:=rfl
theorem tw14471255500590952114:1=1:=rfl
theorem tw1199557002942959207:1=1:=rfl
theorem tw14967415641965804907:1=1:=rfl
theorem tw7988387808516517901:1=1:=rfl
theorem tw15725325936370558311:1=1:=rfl
theorem tw16578748711439957724:1=1:=rfl
theorem tw9717562083295164262:1=1:=rfl
theorem tw6205385467741380451:1=1:=rfl
theorem tw14199856886714718309:1=1:=rfl
theorem tw10256194522862829321:1=1:=rfl
theorem tw5349872927730293707:1=1:=rfl
theorem tw4006725345492820683:1=1:=rfl
theorem tw2061263905894325346:1=1:=rfl
theorem tw9174011902000989950:1=1:=rfl
theorem tw3203835943280341558:1=1:=rfl
theorem tw14740499909427753306:1=1:=rfl
theorem tw5351291400676829389:1=1:=rfl
theorem tw2197886801196213631:1=1:=rfl
theorem tw5412577010386808080:1=1:=rfl
theorem tw15820664445048075132:1=1:=rfl
theorem tw4154853415923589563:1=1:=rfl
theorem tw17558408440750855172:1=1:=rfl
theorem tw7167565170732581097:1=1:=rfl
theorem tw10938678224719460892:1=1:=rfl
theorem tw18314812979781092747:1=1:=rfl
theorem tw2873803942013730578:1=1:=rfl
theorem tw14872733596866162598:1=1:=rfl
theorem tw15466200646073919092:1=1:=rfl
theorem tw14186187012941883742:1=1:=rfl
theorem tw14129472576617630587:1=1:=rfl
theorem tw5507926710294341071:1=1:=rfl
theorem tw4416376861715047657:1=1:=rfl
theorem tw10421040780803077169:1=1:=rfl
theorem tw4639590440130492558:1=1:=rfl
theorem tw1166266893534965987:1=1:=rfl
theorem tw6439196986455476835:1=1:=rfl
theorem tw3077003830795632625:1=1:=rfl
theorem tw6553469691068864330:1=1:=rfl
theorem tw4024065920382207090:1=1:=rfl
theorem tw5637404614681979257:1=1:=rfl
theorem tw9228504673665688343:1=1:=rfl
theorem tw15893860901559936709:1=1:=rfl
theorem tw2495906235459437706:1=1:=rfl
theorem tw14224411181454564541:1=1:=rfl
theorem tw11533337238758170069:1=1:=rfl
theorem tw17358827933090693983:1=1:=rfl
theorem tw7834604351026378926:1=1:=rfl
theorem tw1807496092504409381:1=1:=rfl
theorem tw6771301213262362014:1=1:=rfl
theorem tw2756327128617469570:1=1:=rfl
theorem tw318691975126256783:1=1:=rfl
theorem tw3177876822214735389:1=1:=rfl
theorem tw15611024872795419891:1=1:=rfl
theorem tw11034682679971589421:1=1:=rfl
theorem tw10209174208768598972:1=1:=rfl
theorem tw2330330161904836581:1=1:=rfl
theorem tw8669772029171582717:1=1:=rfl
theorem tw12048973719577435975:1=1:=rfl
theorem tw10620015023118488147:1=1:=rfl
theorem tw5166572304813275959:1=1:=rfl
theorem tw5627644152580977847:1=1:=rfl
theorem tw15748897998526995542:1=1:=rfl
theorem tw7389927048632077995:1=1:=rfl
theorem tw7819269796478310309:1=1:=rfl
theorem tw8761161476343438102:1=1:=rfl
theorem tw938071254015384127:1=1:=rfl
theorem tw18121674511036846483:1=1:=rfl
theorem tw16174842375252441391:1=1:=rfl
theorem tw4011778434922981451:1=1:=rfl
theorem tw9442387358006206549:1=1:=rfl
theorem tw12953216173902432626:1=1:=rfl
theorem tw14167511529971284202:1=1:=rfl
theorem tw3411326762858571644:1=1:=rfl
theorem tw5169908297152699036:1=1:=rfl
theorem tw9041878137365225527:1=1:=rfl
theorem tw7086653881006089243:1=1:=rfl
theorem tw739010832129971947:1=1:=rfl
theorem tw2657999145759057834:1=1:=rfl
theorem tw1046646881091588139:1=1:=rfl
theorem tw3522641171280294485:1=1:=rfl
theorem tw7999643568823409710:1=1:=rfl
theorem tw17383162546319433948:1=1:=rfl
theorem tw15924440935801309350:1=1:=rfl
theorem tw3224173070148383831:1=1:=rfl
theorem tw9354966752781917118:1=1:=rfl
theorem tw14728693784381793012:1=1:=rfl
theorem tw3741839704586586994:1=1:=rfl
theorem tw6185784993901908862:1=1:=rfl
theorem tw15512639976969637868:1=1:=rfl
theorem tw17033267406056918864:1=1:=rfl
theorem tw15176309316069667027:1=1:=rfl
theorem tw13729524041023487473:1=1:=rfl
theorem tw5882466704497520520:1=1:=rfl
theorem tw9474536800447792490:1=1:=rfl
theorem tw1462435272085778255:1=1:=rfl
theorem tw16805115538381224165:1=1:=rfl
theorem tw16341252234031191752:1=1:=rfl
theorem tw9982077185875074242:1=1:=rfl
theorem tw12189301794746104032:1=1:=rfl
theorem tw3131815064486467258:1=1:=rfl
theorem tw6728736360453943511:1=1:=rfl
theorem tw10761046197056643757:1=1:=rfl
theorem tw58941528137908265:1=1:=rfl
theorem tw16353647069133426563:1=1:=rfl
theorem tw3909549473474467977:1=1:=rfl
theorem tw1925860592379868083:1=1:=rfl
theorem tw14427216294529565633:1=1:=rfl
theorem tw15949900006207134142:1=1:=rfl
theorem tw487793882774276050:1=1:=rfl
theorem tw9821313302452562113:1=1:=rfl
theorem tw12756385817420836671:1=1:=rfl
theorem tw9033001339610731362:1=1:=rfl
theorem tw17285198911319786948:1=1:=rfl
theorem tw1130857285668086413:1=1:=rfl
theorem tw15883502160186458780:1=1:=rfl
theorem tw6652095488124481756:1=1:=rfl
theorem tw13064292937258040050:1=1:=rfl
theorem tw1750666798703664346:1=1:=rfl
theorem tw10260400494720805633:1=1:=rfl
theorem tw769204873342606079:1=1:=rfl
theorem tw2985405638511375439:1=1:=rfl
theorem tw4429728307727554992:1=1:=rfl
theorem tw7198296727437630223:1=1:=rfl
theorem tw9017302558882463653:1=1:=rfl
theorem tw4777892761356098336:1=1:=rfl
theorem tw16165356965174816347:1=1:=rfl
theorem tw8352292341996872640:1=1:=rfl
theorem tw11707763099311327392:1=1:=rfl
theorem tw3161527864377364569:1=1:=rfl
theorem tw16759947044072458024:1=1:=rfl
theorem tw1755433630589737350:1=1:=rfl
theorem tw13414657743704621899:1=1:=rfl
theorem tw14746242191607879058:1=1:=rfl
theorem tw17962622722607134395:1=1:=rfl
theorem tw1441145922164652522:1=1:=rfl
theorem tw1645034923116747273:1=1:=rfl
theorem tw13004905384630243427:1=1:=rfl
theorem tw10482860907456274197:1=1:=rfl
theorem tw8611071950044922306:1=1:=rfl
theorem tw11542847758741282996:1=1:=rfl
theorem tw3560119517305401531:1=1:=rfl
theorem tw10437635651156857535:1=1:=rfl
theorem tw11723721014825955987:1=1:=rfl
theorem tw9879880275594936384:1=1:=rfl
theorem tw8752875134386797476:1=1:=rfl
theorem tw11138004405692129063:1=1:=rfl
theorem tw2652042016849032315:1=1:=rfl
theorem tw2913857716999670310:1=1:=rfl
theorem tw1514876012379081349:1=1:=rfl
theorem tw7452307376014486189:1=1:=rfl
theorem tw16165395773170919785:1=1:=rfl
theorem tw777849751408994352:1=1:=rfl
theorem tw14447745170680328937:1=1:=rfl
theorem tw12229030136828889698:1=1:=rfl
theorem tw9416895741829418591:1=1:=rfl
theorem tw2305175351762276474:1=1:=rfl
theorem tw15688873536628026816:1=1:=rfl
theorem tw16213566170808654261:1=1:=rfl
theorem tw14967511325754046898:1=1:=rfl
theorem tw7702831744876222833:1=1:=rfl
theorem tw16115637127287393801:1=1:=rfl
theorem tw12858447585795684383:1=1:=rfl
theorem tw8559031943362817870:1=1:=rfl
theorem tw15828701163796172263:1=1:=rfl
theorem tw14853702158905299332:1=1:=rfl
theorem tw14686673794319946726:1=1:=rfl
theorem tw12765757265105295271:1=1:=rfl
theorem tw9547911338490640013:1=1:=rfl
theorem tw11772547757237695681:1=1:=rfl
theorem tw15051399575540696132:1=1:=rfl
theorem tw4556043732728387656:1=1:=rfl
theorem tw3324120456611855572:1=1:=rfl
theorem tw16906111832233098456:1=1:=rfl
theorem tw3935719003387477872:1=1:=rfl
theorem tw5774057932604804363:1=1:=rfl
theorem tw7388136918854018494:1=1:=rfl
theorem tw17087409837382671075:1=1:=rfl
theorem tw6954296863678518086:1=1:=rfl
theorem tw9385055655855874898:1=1:=rfl
theorem tw7609654301799306709:1=1:=rfl
theorem tw1210276570177882082:1=1:=rfl
theorem tw3747377096865239795:1=1:=rfl
theorem tw7917039645055777716:1=1:=rfl
theorem tw10752827089592832214:1=1:=rfl
theorem tw9290150928248130763:1=1:=rfl
theorem tw6913880357278246566:1=1:=rfl
theorem tw14052801132413820348:1=1:=rfl
theorem tw17772151064579728484:1=1:=rfl
theorem tw9800096016591875627:1=1:=rfl
theorem tw6400943647854891275:1=1:=rfl
theorem tw586244198960817531:1=1:=rfl
theorem tw12797921068898323492:1=1:=rfl
theorem tw14263943535928004618:1=1:=rfl
theorem tw298257522894092699:1=1:=rfl
theorem tw16414550292248914730:1=1:=rfl
theorem tw7438024536737777760:1=1:=rfl
theorem tw5245893498047739781:1=1:=rfl
theorem tw4702729846994671917:1=1:=rfl
theorem tw11753781010905606588:1=1:=rfl
theorem tw16565201457560553791:1=1:=rfl
theorem tw6813886888033836218:1=1:=rfl
theorem tw11435342083208441892:1=1:=rfl
theorem tw16253639248794297349:1=1:=rfl
theorem tw6379243669926362361:1=1:=rfl
theorem tw16925688354581958839:1=1:=rfl
theorem tw9087082782339486216:1=1:=rfl
theorem tw24723260725241971:1=1:=rfl
theorem tw15422601048537404043:1=1:=rfl
theorem tw2547579883584187492:1=1:=rfl
theorem tw7272000924823469242:1=1:=rfl
theorem tw2892952584547733565:1=1:=rfl
theorem tw13823006722150033919:1=1:=rfl
theorem tw3477346451050450797:1=1:=rfl
theorem tw2829005177838445262:1=1:=rfl
theorem tw17627769082902177802:1=1:=rfl
theorem tw16006166426601962550:1=1:=rfl
theorem tw3009394386592018:1=1:=rfl
theorem tw2372859195761113299:1=1:=rfl
theorem tw12621578726769263853:1=1:=rfl
theorem tw11141684560496498647:1=1:=rfl
theorem tw11129448639096214871:1=1:=rfl
theorem tw4706472705458858436:1=1:=rfl
theorem tw270491793456437191:1=1:=rfl
theorem tw2042840445520218411:1=1:=rfl
theorem tw15174466731104924862:1=1:=rfl
theorem tw10291383742972634871:1=1:=rfl
theorem tw16086266932089101806:1=1:=rfl
theorem tw10445626545284356897:1=1:=rfl
theorem tw16591421450669294297:1=1:=rfl
theorem tw11861533379127752948:1=1:=rfl
theorem tw13829445361546636813:1=1:=rfl
theorem tw3192049700707764686:1=1:=rfl
theorem tw2293813459771528738:1=1:=rfl
theorem tw12980490786695053682:1=1:=rfl
theorem tw16824137020720894841:1=1:=rfl
theorem tw9459748909591063348:1=1:=rfl
theorem tw11836645259429378421:1=1:=rfl
theorem tw1957855203828748731:1=1:=rfl
theorem tw6901912925548634163:1=1:=rfl
theorem tw14822639658733004867:1=1:=rfl
theorem tw8685387070339527479:1=1:=rfl
theorem tw7013963102157577082:1=1:=rfl
theorem tw15468752666302100891:1=1:=rfl
theorem tw10892173105931288875:1=1:=rfl
theorem tw6304671327169661792:1=1:=rfl
theorem tw8951056251562250929:1=1:=rfl
theorem tw8918787367086629202:1=1:=rfl
theorem tw15651987794509265728:1=1:=rfl
theorem tw12836334974439812294:1=1:=rfl
theorem tw14819454926306139176:1=1:=rfl
theorem tw15778834430820288539:1=1:=rfl
theorem tw5786943895951668070:1=1:=rfl
theorem tw17620056339107318666:1=1:=rfl
theorem tw4710752139540465437:1=1:=rfl
theorem tw1055128233348932804:1=1:=rfl
theorem tw5398133745808315436:1=1:=rfl
theorem tw12454203709092172371:1=1:=rfl
theorem tw11066130763921203496:1=1:=rfl
theorem tw9173769411235301411:1=1:=rfl
theorem tw6721308905661193731:1=1:=rfl
theorem tw1634296977836863330:1=1:=rfl
theorem tw1657212251296050683:1=1:=rfl
theorem tw16189037751729871256:1=1:=rfl
theorem tw12366308984875807368:1=1:=rfl
theorem tw51425606744206260:1=1:=rfl
theorem tw9786661604904163522:1=1:=rfl
theorem tw9442763579745416168:1=1:=rfl
theorem tw12267687877552858881:1=1:=rfl
theorem tw15371449663380477971:1=1:=rfl
theorem tw17454679556377217085:1=1:=rfl
theorem tw11718363071295339105:1=1:=rfl
theorem tw4889022892075565142:1=1:=rfl
theorem tw6099378933028086177:1=1:=rfl
theorem tw1825821545018450753:1=1:=rfl
theorem tw11254737680013814749:1=1:=rfl
theorem tw14960478027364866566:1=1:=rfl
theorem tw17647047393700387364:1=1:=rfl
end PySem.W.Fast
set_option maxHeartbeats 8000000
namespace K14
open PySem L2
theorem Qw{K:qAb}{mg:Str->Option qAh}{h:Heap}{AL LN RU OW PL PA VO MA NE fH iR iO iP iA iV iM iN wR wO wP wA wV wM wN CO iC cH cW iX SE NG NN NO NR NL NS NT NX NV TM UL:Addr}  {n_AL:Nat}{osl_AL:Array (Option qAh)}{t_AL0 t_AL1 t_AL2 t_AL3 t_AL4 t_AL5:Tok}  {n_LN:Nat}{osl_LN:Array (Option qAh)}{t_LN0 t_LN1 t_LN2 t_LN3 t_LN4 t_LN5 t_LN6:Tok}  {tk_we:Tok}{tk_mr:Tok}{tk_mf:Tok}{tk_fg:Tok}                                          {oc_RI kV_RI doc_RI pm_RI cdv_RI ct_RI:qAh}{od_RI an_RI:Option Addr}{osl_RI:Array (Option qAh)}{oc_H kV_H doc_H pm_H cdv_H ct_H:qAh}{od_H an_H:Option Addr}{osl_H:Array (Option qAh)}{oc_RW kV_RW doc_RW pm_RW cdv_RW ct_RW:qAh}{od_RW an_RW:Option Addr}{osl_RW:Array (Option qAh)}{oc_OI kV_OI doc_OI pm_OI cdv_OI ct_OI:qAh}{od_OI an_OI:Option Addr}{osl_OI:Array (Option qAh)}{oc_OWo kV_OWo doc_OWo pm_OWo cdv_OWo ct_OWo:qAh}{od_OWo an_OWo:Option Addr}{osl_OWo:Array (Option qAh)}{oc_PI kV_PI doc_PI pm_PI cdv_PI ct_PI:qAh}{od_PI an_PI:Option Addr}{osl_PI:Array (Option qAh)}{oc_PlW kV_PlW doc_PlW pm_PlW cdv_PlW ct_PlW:qAh}{od_PlW an_PlW:Option Addr}{osl_PlW:Array (Option qAh)}{oc_PaI kV_PaI doc_PaI pm_PaI cdv_PaI ct_PaI:qAh}{od_PaI an_PaI:Option Addr}{osl_PaI:Array (Option qAh)}{oc_PaW kV_PaW doc_PaW pm_PaW cdv_PaW ct_PaW:qAh}{od_PaW an_PaW:Option Addr}{osl_PaW:Array (Option qAh)}{oc_VI kV_VI doc_VI pm_VI cdv_VI ct_VI:qAh}{od_VI an_VI:Option Addr}{osl_VI:Array (Option qAh)}{oc_VW kV_VW doc_VW pm_VW cdv_VW ct_VW:qAh}{od_VW an_VW:Option Addr}{osl_VW:Array (Option qAh)}{oc_MI kV_MI doc_MI pm_MI cdv_MI ct_MI:qAh}{od_MI an_MI:Option Addr}{osl_MI:Array (Option qAh)}{oc_MW kV_MW doc_MW pm_MW cdv_MW ct_MW:qAh}{od_MW an_MW:Option Addr}{osl_MW:Array (Option qAh)}{oc_NI kV_NI doc_NI pm_NI cdv_NI ct_NI:qAh}{od_NI an_NI:Option Addr}{osl_NI:Array (Option qAh)}{oc_NW kV_NW doc_NW pm_NW cdv_NW ct_NW:qAh}{od_NW an_NW:Option Addr}{osl_NW:Array (Option qAh)}{oc_CI kV_CI doc_CI pm_CI cdv_CI ct_CI:qAh}{od_CI an_CI:Option Addr}{osl_CI:Array (Option qAh)}{oc_CHs kV_CHs doc_CHs pm_CHs cdv_CHs ct_CHs:qAh}{od_CHs an_CHs:Option Addr}{osl_CHs:Array (Option qAh)}{oc_CWo kV_CWo doc_CWo pm_CWo cdv_CWo ct_CWo:qAh}{od_CWo an_CWo:Option Addr}{osl_CWo:Array (Option qAh)}{oc_XI kV_XI doc_XI pm_XI cdv_XI ct_XI:qAh}{od_XI an_XI:Option Addr}{osl_XI:Array (Option qAh)}  {nmX qnX:Str}{nsX:Addr}{bsX:List qAh}{hdX:Bool}{snX:List Str}{subX:List qAh}{abX:Bool}{colX:Option Bool}{ddX:Option Addr}{k0X k1X k2X k3X k5X:Option qAh}     (X:K.In h)(G:h.Ns qAu mg)
  (gG:qBa K qAu "isinstance"=some none)
  (oR:qBa K qAu "int"=some none)
  (l7:qBa K qAu "bool"=some none)
  (eV:qBa K qAu "range"=some none)
  (cD:qBa K qAu "len"=some none)
  (fZ:qBa K qAu "list"=some none)
  (uI:qBa K qAu "sum"=some none)
  (oS:qBa K qAu "all"=some none)
  (rC:qBa K qAu "any"=some none)
  (jE:qBa K qAu "sorted"=some none)
  (kX:qBa K qAu "tuple"=some none)
  (uJ:qBa K qAu "min"=some none)
  (oU:qBa K qAu "abs"=some none)
  (oV:qBa K qAu "enumerate"=some none)
  (oW:qBa K qAu "str"=some none)
  (uK:qBa K qAu "max"=some none)
  (CP:qBa K qAu "ValueError"=some none)
  (AM:qBa K qAu "ALONE"=some (some (.ref AL)))
  (lkAL:K.lookup AL=some ⟨.type "tuple",none,.seq #[.int 1 t_AL0,.int 2 t_AL1,.int 4 t_AL2,.int 8 t_AL3,.int 16 t_AL4,.int 32 t_AL5] n_AL,osl_AL⟩)
  (Gu:qBa K qAu "LENGTHS"=some (some (.ref LN)))
  (lkLN:K.lookup LN=some ⟨.type "tuple",none,.seq #[.int 1 t_LN0,.int 2 t_LN1,.int 4 t_LN2,.int 8 t_LN3,.int 16 t_LN4,.int 32 t_LN5,.int 64 t_LN6] n_LN,osl_LN⟩)
  (we:qBa K qAu "WELL"=some (some (.int 64 tk_we)))
  (mr:qBa K qAu "MOST_RULES"=some (some (.int 12 tk_mr)))
  (mf:qBa K qAu "MOST_FIGURES"=some (some (.int 30 tk_mf)))
  (fg:qBa K qAu "FIGURES"=some (some (.str ("0123456789":Str) tk_fg)))
  (CQ:qBa K qAu "Rule"=some (some (.ref RU)))
  (pgRU:qDa K RU Str.empty=true)
  (hdRU:qCd K RU=true)
  (poRU:qDe K RU=true)
  (saRU:qAd K (.ref RU) "__setattr__"=some (some (.builtin "object.__setattr__")))
  (caRU:qAd K (.ref RU) "__class__"=some (some (.builtin "object.__class__")))
  (moRU:qBm K RU (.type "object")=some true)
  (nmRU:qAd K (.ref RU) "many"=some none)
  (fhRU:qAd K (.ref RU) "hands"=some (some (.ref fH)))
  (mkRU:qDn K RU=true)
  (fiRU:qAd K (.ref RU) "__init__"=some (some (.ref iR)))
  (kkRU:qAv K (.ref RU)=true)
  (Mp:qBa K qAu "Own"=some (some (.ref OW)))
  (pgOW:qDa K OW Str.empty=true)
  (hdOW:qCd K OW=true)
  (poOW:qDe K OW=true)
  (saOW:qAd K (.ref OW) "__setattr__"=some (some (.builtin "object.__setattr__")))
  (caOW:qAd K (.ref OW) "__class__"=some (some (.builtin "object.__class__")))
  (moOW:qBm K OW (.type "object")=some true)
  (nmOW:qAd K (.ref OW) "many"=some none)
  (fhOW:qAd K (.ref OW) "hands"=some (some (.ref fH)))
  (mkOW:qDn K OW=true)
  (fiOW:qAd K (.ref OW) "__init__"=some (some (.ref iO)))
  (kkOW:qAv K (.ref OW)=true)
  (nf0OW:qAd K (.ref OW) "numbers"=some none)
  (Mq:qBa K qAu "Plain"=some (some (.ref PL)))
  (pgPL:qDa K PL Str.empty=true)
  (hdPL:qCd K PL=true)
  (poPL:qDe K PL=true)
  (saPL:qAd K (.ref PL) "__setattr__"=some (some (.builtin "object.__setattr__")))
  (caPL:qAd K (.ref PL) "__class__"=some (some (.builtin "object.__class__")))
  (moPL:qBm K PL (.type "object")=some true)
  (nmPL:qAd K (.ref PL) "many"=some none)
  (fhPL:qAd K (.ref PL) "hands"=some (some (.ref fH)))
  (mkPL:qDn K PL=true)
  (fiPL:qAd K (.ref PL) "__init__"=some (some (.ref iP)))
  (kkPL:qAv K (.ref PL)=true)
  (nf0PL:qAd K (.ref PL) "earnings"=some none)
  (Mr:qBa K qAu "Pairs"=some (some (.ref PA)))
  (pgPA:qDa K PA Str.empty=true)
  (hdPA:qCd K PA=true)
  (poPA:qDe K PA=true)
  (saPA:qAd K (.ref PA) "__setattr__"=some (some (.builtin "object.__setattr__")))
  (caPA:qAd K (.ref PA) "__class__"=some (some (.builtin "object.__class__")))
  (moPA:qBm K PA (.type "object")=some true)
  (nmPA:qAd K (.ref PA) "many"=some none)
  (fhPA:qAd K (.ref PA) "hands"=some (some (.ref fH)))
  (mkPA:qDn K PA=true)
  (fiPA:qAd K (.ref PA) "__init__"=some (some (.ref iA)))
  (kkPA:qAv K (.ref PA)=true)
  (nf0PA:qAd K (.ref PA) "pairs"=some none)
  (Ms:qBa K qAu "Votes"=some (some (.ref VO)))
  (pgVO:qDa K VO Str.empty=true)
  (hdVO:qCd K VO=true)
  (poVO:qDe K VO=true)
  (saVO:qAd K (.ref VO) "__setattr__"=some (some (.builtin "object.__setattr__")))
  (caVO:qAd K (.ref VO) "__class__"=some (some (.builtin "object.__class__")))
  (moVO:qBm K VO (.type "object")=some true)
  (nmVO:qAd K (.ref VO) "many"=some none)
  (fhVO:qAd K (.ref VO) "hands"=some (some (.ref fH)))
  (mkVO:qDn K VO=true)
  (fiVO:qAd K (.ref VO) "__init__"=some (some (.ref iV)))
  (kkVO:qAv K (.ref VO)=true)
  (nf0VO:qAd K (.ref VO) "quota"=some none)
  (nf1VO:qAd K (.ref VO) "prize"=some none)
  (nf2VO:qAd K (.ref VO) "weights"=some none)
  (Mv:qBa K qAu "Match"=some (some (.ref MA)))
  (pgMA:qDa K MA Str.empty=true)
  (hdMA:qCd K MA=true)
  (poMA:qDe K MA=true)
  (saMA:qAd K (.ref MA) "__setattr__"=some (some (.builtin "object.__setattr__")))
  (caMA:qAd K (.ref MA) "__class__"=some (some (.builtin "object.__class__")))
  (moMA:qBm K MA (.type "object")=some true)
  (nmMA:qAd K (.ref MA) "many"=some none)
  (fhMA:qAd K (.ref MA) "hands"=some (some (.ref fH)))
  (mkMA:qDn K MA=true)
  (fiMA:qAd K (.ref MA) "__init__"=some (some (.ref iM)))
  (kkMA:qAv K (.ref MA)=true)
  (nf0MA:qAd K (.ref MA) "pairs"=some none)
  (nf1MA:qAd K (.ref MA) "best"=some none)
  (Mw:qBa K qAu "Net"=some (some (.ref NE)))
  (pgNE:qDa K NE Str.empty=true)
  (hdNE:qCd K NE=true)
  (poNE:qDe K NE=true)
  (saNE:qAd K (.ref NE) "__setattr__"=some (some (.builtin "object.__setattr__")))
  (caNE:qAd K (.ref NE) "__class__"=some (some (.builtin "object.__class__")))
  (moNE:qBm K NE (.type "object")=some true)
  (nmNE:qAd K (.ref NE) "many"=some none)
  (fhNE:qAd K (.ref NE) "hands"=some (some (.ref fH)))
  (mkNE:qDn K NE=true)
  (fiNE:qAd K (.ref NE) "__init__"=some (some (.ref iN)))
  (kkNE:qAv K (.ref NE)=true)
  (nf0NE:qAd K (.ref NE) "costs"=some none)
  (nf1NE:qAd K (.ref NE) "ropes"=some none)
  (ffwRU:qAd K (.ref RU) "words"=some (some (.ref wR)))
  (ffwOW:qAd K (.ref OW) "words"=some (some (.ref wO)))
  (ffwPL:qAd K (.ref PL) "words"=some (some (.ref wP)))
  (ffwPA:qAd K (.ref PA) "words"=some (some (.ref wA)))
  (ffwVO:qAd K (.ref VO) "words"=some (some (.ref wV)))
  (ffwMA:qAd K (.ref MA) "words"=some (some (.ref wM)))
  (ffwNE:qAd K (.ref NE) "words"=some (some (.ref wN)))
  (My:qBa K qAu "Company"=some (some (.ref CO)))
  (pgCO:qDa K CO Str.empty=true)
  (hdCO:qCd K CO=true)
  (poCO:qDe K CO=true)
  (saCO:qAd K (.ref CO) "__setattr__"=some (some (.builtin "object.__setattr__")))
  (caCO:qAd K (.ref CO) "__class__"=some (some (.builtin "object.__class__")))
  (moCO:qBm K CO (.type "object")=some true)
  (nmCO:qAd K (.ref CO) "many"=some none)
  (nrCO:qAd K (.ref CO) "rules"=some none)
  (fhCO:qAd K (.ref CO) "hands"=some (some (.ref cH)))
  (fwCO:qAd K (.ref CO) "words"=some (some (.ref cW)))
  (mkCO:qDn K CO=true)
  (fiCO:qAd K (.ref CO) "__init__"=some (some (.ref iC)))
  (kkCO:qAv K (.ref CO)=true)
  (lRI:K.lookup iR=some ⟨oc_RI,od_RI,.func (qBu "__init__" "Rule.__init__" (bW KJ) (bG KJ) (aF KJ) .none kV_RI doc_RI pm_RI an_RI cdv_RI ct_RI),osl_RI⟩)
  (cdRI:qBt K cdv_RI "Rule.__init__"=true)
  (kpRI:qAv K (.ref iR)=true)
  (fnRI:qCh K (.ref iR)=true)
  (lH:K.lookup fH=some ⟨oc_H,od_H,.func (qBu "hands" "Rule.hands" (bW KL) (bG KL) (aF KL) .none kV_H doc_H pm_H an_H cdv_H ct_H),osl_H⟩)
  (cdH:qBt K cdv_H "Rule.hands"=true)
  (kpH:qAv K (.ref fH)=true)
  (fnH:qCh K (.ref fH)=true)
  (lRW:K.lookup wR=some ⟨oc_RW,od_RW,.func (qBu "words" "Rule.words" (bW KN) (bG KN) (aF KN) .none kV_RW doc_RW pm_RW an_RW cdv_RW ct_RW),osl_RW⟩)
  (cdRW:qBt K cdv_RW "Rule.words"=true)
  (kpRW:qAv K (.ref wR)=true)
  (fnRW:qCh K (.ref wR)=true)
  (lOI:K.lookup iO=some ⟨oc_OI,od_OI,.func (qBu "__init__" "Own.__init__" (bW KO) (bG KO) (aF KO) .none kV_OI doc_OI pm_OI an_OI cdv_OI ct_OI),osl_OI⟩)
  (cdOI:qBt K cdv_OI "Own.__init__"=true)
  (kpOI:qAv K (.ref iO)=true)
  (fnOI:qCh K (.ref iO)=true)
  (lOWo:K.lookup wO=some ⟨oc_OWo,od_OWo,.func (qBu "words" "Own.words" (bW AH) (bG AH) (aF AH) .none kV_OWo doc_OWo pm_OWo an_OWo cdv_OWo ct_OWo),osl_OWo⟩)
  (cdOWo:qBt K cdv_OWo "Own.words"=true)
  (kpOWo:qAv K (.ref wO)=true)
  (fnOWo:qCh K (.ref wO)=true)
  (lPI:K.lookup iP=some ⟨oc_PI,od_PI,.func (qBu "__init__" "Plain.__init__" (bW KP) (bG KP) (aF KP) .none kV_PI doc_PI pm_PI an_PI cdv_PI ct_PI),osl_PI⟩)
  (cdPI:qBt K cdv_PI "Plain.__init__"=true)
  (kpPI:qAv K (.ref iP)=true)
  (fnPI:qCh K (.ref iP)=true)
  (lPlW:K.lookup wP=some ⟨oc_PlW,od_PlW,.func (qBu "words" "Plain.words" (bW AI) (bG AI) (aF AI) .none kV_PlW doc_PlW pm_PlW an_PlW cdv_PlW ct_PlW),osl_PlW⟩)
  (cdPlW:qBt K cdv_PlW "Plain.words"=true)
  (kpPlW:qAv K (.ref wP)=true)
  (fnPlW:qCh K (.ref wP)=true)
  (lPaI:K.lookup iA=some ⟨oc_PaI,od_PaI,.func (qBu "__init__" "Pairs.__init__" (bW AJ) (bG AJ) (aF AJ) .none kV_PaI doc_PaI pm_PaI an_PaI cdv_PaI ct_PaI),osl_PaI⟩)
  (cdPaI:qBt K cdv_PaI "Pairs.__init__"=true)
  (kpPaI:qAv K (.ref iA)=true)
  (fnPaI:qCh K (.ref iA)=true)
  (lPaW:K.lookup wA=some ⟨oc_PaW,od_PaW,.func (qBu "words" "Pairs.words" (bW AK) (bG AK) (aF AK) .none kV_PaW doc_PaW pm_PaW an_PaW cdv_PaW ct_PaW),osl_PaW⟩)
  (cdPaW:qBt K cdv_PaW "Pairs.words"=true)
  (kpPaW:qAv K (.ref wA)=true)
  (fnPaW:qCh K (.ref wA)=true)
  (lVI:K.lookup iV=some ⟨oc_VI,od_VI,.func (qBu "__init__" "Votes.__init__" (bW KQ) (bG KQ) (aF KQ) .none kV_VI doc_VI pm_VI an_VI cdv_VI ct_VI),osl_VI⟩)
  (cdVI:qBt K cdv_VI "Votes.__init__"=true)
  (kpVI:qAv K (.ref iV)=true)
  (fnVI:qCh K (.ref iV)=true)
  (lVW:K.lookup wV=some ⟨oc_VW,od_VW,.func (qBu "words" "Votes.words" (bW KR) (bG KR) (aF KR) .none kV_VW doc_VW pm_VW an_VW cdv_VW ct_VW),osl_VW⟩)
  (cdVW:qBt K cdv_VW "Votes.words"=true)
  (kpVW:qAv K (.ref wV)=true)
  (fnVW:qCh K (.ref wV)=true)
  (lMI:K.lookup iM=some ⟨oc_MI,od_MI,.func (qBu "__init__" "Match.__init__" (bW KS) (bG KS) (aF KS) .none kV_MI doc_MI pm_MI an_MI cdv_MI ct_MI),osl_MI⟩)
  (cdMI:qBt K cdv_MI "Match.__init__"=true)
  (kpMI:qAv K (.ref iM)=true)
  (fnMI:qCh K (.ref iM)=true)
  (lMW:K.lookup wM=some ⟨oc_MW,od_MW,.func (qBu "words" "Match.words" (bW KU) (bG KU) (aF KU) .none kV_MW doc_MW pm_MW an_MW cdv_MW ct_MW),osl_MW⟩)
  (cdMW:qBt K cdv_MW "Match.words"=true)
  (kpMW:qAv K (.ref wM)=true)
  (fnMW:qCh K (.ref wM)=true)
  (lNI:K.lookup iN=some ⟨oc_NI,od_NI,.func (qBu "__init__" "Net.__init__" (bW KW) (bG KW) (aF KW) .none kV_NI doc_NI pm_NI an_NI cdv_NI ct_NI),osl_NI⟩)
  (cdNI:qBt K cdv_NI "Net.__init__"=true)
  (kpNI:qAv K (.ref iN)=true)
  (fnNI:qCh K (.ref iN)=true)
  (lNW:K.lookup wN=some ⟨oc_NW,od_NW,.func (qBu "words" "Net.words" (bW KY) (bG KY) (aF KY) .none kV_NW doc_NW pm_NW an_NW cdv_NW ct_NW),osl_NW⟩)
  (cdNW:qBt K cdv_NW "Net.words"=true)
  (kpNW:qAv K (.ref wN)=true)
  (fnNW:qCh K (.ref wN)=true)
  (lCI:K.lookup iC=some ⟨oc_CI,od_CI,.func (qBu "__init__" "Company.__init__" (bW KZ) (bG KZ) (aF KZ) .none kV_CI doc_CI pm_CI an_CI cdv_CI ct_CI),osl_CI⟩)
  (cdCI:qBt K cdv_CI "Company.__init__"=true)
  (kpCI:qAv K (.ref iC)=true)
  (fnCI:qCh K (.ref iC)=true)
  (lCHs:K.lookup cH=some ⟨oc_CHs,od_CHs,.func (qBu "hands" "Company.hands" (bW OG) (bG OG) (aF OG) .none kV_CHs doc_CHs pm_CHs an_CHs cdv_CHs ct_CHs),osl_CHs⟩)
  (cdCHs:qBt K cdv_CHs "Company.hands"=true)
  (kpCHs:qAv K (.ref cH)=true)
  (fnCHs:qCh K (.ref cH)=true)
  (lCWo:K.lookup cW=some ⟨oc_CWo,od_CWo,.func (qBu "words" "Company.words" (bW La) (bG La) (aF La) .none kV_CWo doc_CWo pm_CWo an_CWo cdv_CWo ct_CWo),osl_CWo⟩)
  (cdCWo:qBt K cdv_CWo "Company.words"=true)
  (kpCWo:qAv K (.ref cW)=true)
  (fnCWo:qCh K (.ref cW)=true)
  (lXI:K.lookup iX=some ⟨oc_XI,od_XI,.func (qBu "__init__" "NoText.__init__" (bW Lc) (bG Lc) (aF Lc) .none kV_XI doc_XI pm_XI an_XI cdv_XI ct_XI),osl_XI⟩)
  (cdXI:qBt K cdv_XI "NoText.__init__"=true)
  (kpXI:qAv K (.ref iX)=true)
  (fnXI:qCh K (.ref iX)=true)
  (cgcRI:qDd K (.ref RU) "__getattribute__"=some (some (.builtin "type.__getattribute__")))
  (crcRI:qHo K RU (.type "type")=true)
  (cfcRI:qHq K (.ref RU) (.type "type") "__init__"=some (.val (.ref iR)))
  (obX:qEq NX K=some (qKx nmX qnX NX nsX bsX (.ref SE::sG) hdX snX subX abX colX ddX k0X k1X k2X k3X k5X "ValueError.__new__"))
  (fiX:qAd K (.ref NX) "__init__"=some (some (.ref iX)))
  (kkX:qAv K (.ref NX)=true)
  (saX:qAd K (.ref NX) "__setattr__"=some (some (.builtin "object.__setattr__")))
  (hsX:qCd K NX=true)
  (ptX:qAd K (.ref NX) "part"=some none)
  (Mz:qBm K NL (.ref NL)=some true)
  (MB:qBm K NX (.ref NX)=some true)
  (gaS:qDd K (.ref SE) "__getattribute__"=some (some (.builtin "type.__getattribute__")))
  (rdS:qHo K SE (.type "type")=true)
  (atS:qHq K (.ref SE) (.type "type") "__init__"=some (.val (.builtin "ValueError.__init__")))
  (Lh:qBa K qAu "ShareError"=some (some (.ref SE)))
  (Li:qBa K qAu "NoGroup"=some (some (.ref NG)))
  (MC:qBa K qAu "NoNumber"=some (some (.ref NN)))
  (MD:qBa K qAu "NoOrder"=some (some (.ref NO)))
  (ME:qBa K qAu "NoRows"=some (some (.ref NR)))
  (sT:qBa K qAu "NoRule"=some (some (.ref NL)))
  (MF:qBa K qAu "NoShares"=some (some (.ref NS)))
  (Lj:qBa K qAu "NoTable"=some (some (.ref NT)))
  (Gw:qBa K qAu "NoText"=some (some (.ref NX)))
  (MG:qBa K qAu "NoVotes"=some (some (.ref NV)))
  (MH:qBa K qAu "TooMany"=some (some (.ref TM)))
  (MJ:qBa K qAu "Unlike"=some (some (.ref UL)))
  (c6:qDd K (.builtin "object.__class__") "__get__"=some (some (.builtin "getset_descriptor.__get__")))
  (c7:qFj K (.builtin "object.__class__")=some true)
  (SE2:qEo K (.ref SE)=some (.type "type"))
  (SE3:qAd K (.ref SE) "__getattribute__"=some (some (.builtin "BaseException.__getattribute__")))
  (SE4:qAd K (.ref SE) "__getattr__"=some none)
  (SE5:qAd K (.ref SE) "__class__"=some (some (.builtin "object.__class__")))
  (SE8:qBm K SE (.type "object")=some true)
  (SE9:qBm K SE (.type "BaseException")=some true)
  (NL2:qEo K (.ref NL)=some (.type "type"))
  (NL3:qAd K (.ref NL) "__getattribute__"=some (some (.builtin "BaseException.__getattribute__")))
  (NL4:qAd K (.ref NL) "__getattr__"=some none)
  (NL5:qAd K (.ref NL) "__class__"=some (some (.builtin "object.__class__")))
  (NL8:qBm K NL (.type "object")=some true)
  (NL9:qBm K NL (.type "BaseException")=some true)
  (NX2:qEo K (.ref NX)=some (.type "type"))
  (NX3:qAd K (.ref NX) "__getattribute__"=some (some (.builtin "BaseException.__getattribute__")))
  (NX4:qAd K (.ref NX) "__getattr__"=some none)
  (NX5:qAd K (.ref NX) "__class__"=some (some (.builtin "object.__class__")))
  (NX8:qBm K NX (.type "object")=some true)
  (NX9:qBm K NX (.type "BaseException")=some true)
  (NT2:qEo K (.ref NT)=some (.type "type"))
  (NT3:qAd K (.ref NT) "__getattribute__"=some (some (.builtin "BaseException.__getattribute__")))
  (NT4:qAd K (.ref NT) "__getattr__"=some none)
  (NT5:qAd K (.ref NT) "__class__"=some (some (.builtin "object.__class__")))
  (NT8:qBm K NT (.type "object")=some true)
  (NT9:qBm K NT (.type "BaseException")=some true)
  (uL:qDm K NL sG "ValueError.__new__"=true)
  (MK:qDm K NT sG "ValueError.__new__"=true)
  (ML:qDm K NG sG "ValueError.__new__"=true)
  (MM:qDm K SE sG "ValueError.__new__"=true)
  (k3:qFv K (.ref NX) [.ref NG,.ref NN,.ref NO,.ref NR,.ref NL]=some false)
  (k4:qFv K (.ref NX) [.ref NS,.ref NT,.ref NV,.ref TM,.ref UL]=some false)
  (kS:qDl K (.ref NX) (.ref SE)=some true)
  (kV:qDl K (.ref NX) (.type "ValueError")=some true) :
  ∃AL LN RU OW PL PA VO MA NE fH iR iO iP iA iV iM iN wR wO wP wA wV wM wN CO iC cH cW iX SE NG NN NO NR NL NS NT NX NV TM UL,T K mg AL LN RU OW PL PA VO MA NE fH iR iO iP iA iV iM iN wR wO wP wA wV wM wN CO iC cH cW iX SE NG NN NO NR NL NS NT NX NV TM UL :=
 ⟨AL,LN,RU,OW,PL,PA,VO,MA,NE,fH,iR,iO,iP,iA,iV,iM,iN,wR,wO,wP,wA,wV,wM,wN,CO,iC,cH,cW,iX,SE,NG,NN,NO,NR,NL,NS,NT,NX,NV,TM,UL,qBz X G gG,qBz X G oR,qBz X G l7,qBz X G eV,qBz X G cD,qBz X G fZ,qBz X G uI,qBz X G oS,qBz X G rC,qBz X G jE,qBz X G kX,qBz X G uJ,qBz X G oU,qBz X G oV,qBz X G oW,qBz X G uK,qBz X G CP,qBv X G AM,fun _=>.inr ⟨_,_,_,lkAL,rfl,rfl,by show 6<=qAg;decide,.cons ⟨_,rfl⟩ (.cons ⟨_,rfl⟩ (.cons ⟨_,rfl⟩ (.cons ⟨_,rfl⟩ (.cons ⟨_,rfl⟩ (.cons ⟨_,rfl⟩ .nil)))))⟩,qBv X G Gu,fun _=>.inr ⟨_,_,_,lkLN,rfl,rfl,by show 7<=qAg;decide,.cons ⟨_,rfl⟩ (.cons ⟨_,rfl⟩ (.cons ⟨_,rfl⟩ (.cons ⟨_,rfl⟩ (.cons ⟨_,rfl⟩ (.cons ⟨_,rfl⟩ (.cons ⟨_,rfl⟩ .nil))))))⟩,⟨_,lkLN,rfl,rfl⟩,⟨tk_we,qBv X G we⟩,⟨tk_mr,qBv X G mr⟩,⟨tk_mf,qBv X G mf⟩,⟨tk_fg,qBv X G fg⟩,qBv X G CQ,⟨⟨⟨pgRU,hdRU,poRU,saRU⟩,caRU,c6,c7,moRU⟩,nmRU,⟨fhRU,fnH,kpH⟩⟩,⟨mkRU,fiRU,fnRI,kkRU⟩,qBv X G Mp,⟨⟨⟨pgOW,hdOW,poOW,saOW⟩,caOW,c6,c7,moOW⟩,nmOW,⟨fhOW,fnH,kpH⟩⟩,⟨mkOW,fiOW,fnOI,kkOW⟩,nf0OW,qBv X G Mq,⟨⟨⟨pgPL,hdPL,poPL,saPL⟩,caPL,c6,c7,moPL⟩,nmPL,⟨fhPL,fnH,kpH⟩⟩,⟨mkPL,fiPL,fnPI,kkPL⟩,nf0PL,qBv X G Mr,⟨⟨⟨pgPA,hdPA,poPA,saPA⟩,caPA,c6,c7,moPA⟩,nmPA,⟨fhPA,fnH,kpH⟩⟩,⟨mkPA,fiPA,fnPaI,kkPA⟩,nf0PA,qBv X G Ms,⟨⟨⟨pgVO,hdVO,poVO,saVO⟩,caVO,c6,c7,moVO⟩,nmVO,⟨fhVO,fnH,kpH⟩⟩,⟨mkVO,fiVO,fnVI,kkVO⟩,nf0VO,nf1VO,nf2VO,qBv X G Mv,⟨⟨⟨pgMA,hdMA,poMA,saMA⟩,caMA,c6,c7,moMA⟩,nmMA,⟨fhMA,fnH,kpH⟩⟩,⟨mkMA,fiMA,fnMI,kkMA⟩,nf0MA,nf1MA,qBv X G Mw,⟨⟨⟨pgNE,hdNE,poNE,saNE⟩,caNE,c6,c7,moNE⟩,nmNE,⟨fhNE,fnH,kpH⟩⟩,⟨mkNE,fiNE,fnNI,kkNE⟩,nf0NE,nf1NE,⟨ffwRU,fnRW,kpRW⟩,⟨ffwOW,fnOWo,kpOWo⟩,⟨ffwPL,fnPlW,kpPlW⟩,⟨ffwPA,fnPaW,kpPaW⟩,⟨ffwVO,fnVW,kpVW⟩,⟨ffwMA,fnMW,kpMW⟩,⟨ffwNE,fnNW,kpNW⟩,qBv X G My,⟨⟨⟨pgCO,hdCO,poCO,saCO⟩,caCO,c6,c7,moCO⟩,nmCO,nrCO,⟨fhCO,fnCHs,kpCHs⟩,⟨fwCO,fnCWo,kpCWo⟩⟩,⟨mkCO,fiCO,fnCI,kkCO⟩,eT lRI cdRI kpRI (fun _ _ _ _ _ _=>L2.uu2 fun _ _=>rfl),eT lH cdH kpH (fun _ _ _ _ _ _=>L2.uu1 fun _=>rfl),eT lRW cdRW kpRW (fun _ _ _ _ _ _=>L2.uu1 fun _=>rfl),eT lOI cdOI kpOI (fun _ _ _ _ _ _=>L2.uu2 fun _ _=>rfl),eT lOWo cdOWo kpOWo (fun _ _ _ _ _ _=>L2.uu1 fun _=>rfl),eT lPI cdPI kpPI (fun _ _ _ _ _ _=>L2.uu2 fun _ _=>rfl),eT lPlW cdPlW kpPlW (fun _ _ _ _ _ _=>L2.uu1 fun _=>rfl),eT lPaI cdPaI kpPaI (fun _ _ _ _ _ _=>L2.uu3 fun _ _ _=>rfl),eT lPaW cdPaW kpPaW (fun _ _ _ _ _ _=>L2.uu1 fun _=>rfl),eT lVI cdVI kpVI (fun _ _ _ _ _ _=>L2.uu4 fun _ _ _ _=>rfl),eT lVW cdVW kpVW (fun _ _ _ _ _ _=>L2.uu1 fun _=>rfl),eT lMI cdMI kpMI (fun _ _ _ _ _ _=>L2.uu3 fun _ _ _=>rfl),eT lMW cdMW kpMW (fun _ _ _ _ _ _=>L2.uu1 fun _=>rfl),eT lNI cdNI kpNI (fun _ _ _ _ _ _=>L2.uu3 fun _ _ _=>rfl),eT lNW cdNW kpNW (fun _ _ _ _ _ _=>L2.uu1 fun _=>rfl),eT lCI cdCI kpCI (fun _ _ _ _ _ _=>L2.uu3 fun _ _ _=>rfl),eT lCHs cdCHs kpCHs (fun _ _ _ _ _ _=>L2.uu1 fun _=>rfl),eT lCWo cdCWo kpCWo (fun _ _ _ _ _ _=>L2.uu1 fun _=>rfl),eT lXI cdXI kpXI (fun _ _ _ _ _ _=>L2.uu2 fun _ _=>rfl),⟨cgcRI,crcRI,cfcRI,kpRI⟩,⟨⟨nmX,qnX,nsX,bsX,hdX,snX,subX,abX,colX,ddX,k0X,k1X,k2X,k3X,k5X,obX⟩,MM,fiX,beq_iff_eq.mp fnXI,kkX,saX,hsX⟩,ptX,Mz,MB,⟨gaS,rdS,atS⟩,qBv X G Lh,qBv X G Li,qBv X G MC,qBv X G MD,qBv X G ME,qBv X G sT,qBv X G MF,qBv X G Lj,qBv X G Gw,qBv X G MG,qBv X G MH,qBv X G MJ,sI SE2 SE3 SE4 SE5 c6 c7 SE8 SE9,sI NL2 NL3 NL4 NL5 c6 c7 NL8 NL9,sI NX2 NX3 NX4 NX5 c6 c7 NX8 NX9,sI NT2 NT3 NT4 NT5 c6 c7 NT8 NT9,uL,MK,ML,MM,k3,k4,kS,kV⟩
theorem walk{l:qLu}{q:qBe}{loose:List Str}{XP:(Str->Option qAh)->Heap->Prop}{YP:qCj->Heap->Prop}{d:DefRec}{K:Params->qAb}(hn:l.most=some 63)(hdf:d.params.defaults=[])
  (hY:∀(w:qCj) (h:Heap),YP w h->(K w.params).In h)
  (F:∀(w:qCj) (mg:Str->Option qAh) (fa:Addr) (h:Heap),(K w.params).In h->h.Ns qAu mg->mg d.name=some (.ref fa) ->
   ∃fd:qBy,(∀(s:qAj) (u:qAh),qLb s fd ⟨[u],[]⟩ [("_law_script",u)])/\∀base:Heap,(K w.params).In base->base.Ns qAu mg->gM l.prog w (K w.params) mg base dO 13 fa fd ["_law_script"] (z5 (K w.params))) :
  qMj q loose XP YP l.row.toRowW d [] (fun f vs=>PySem.call f vs) :=
 L2.BS (n:=63) (k:=13) (x:="_law_script") (CX:=fun _=>dO) (sp:=fun w=>z5 (K w.params)) hn #[1] hdf ⟨rfl,by decide,by decide⟩ hY F (fun _ _ a ns hl hw _ hS=>⟨a,ns,rfl,hS,hl,hw,fun _=>rfl⟩) fun _ _ _ _ _ z=>z
theorem Ky{P:qBe}{w:qCj}{K:qAb}{mg:Str->Option qAh}{fa:Addr}(hfa:mg "law"=some (.ref fa))(hT:∃AL LN RU OW PL PA VO MA NE fH iR iO iP iA iV iM iN wR wO wP wA wV wM wN CO iC cH cW iX SE NG NN NO NR NL NS NT NX NV TM UL,T K mg AL LN RU OW PL PA VO MA NE fH iR iO iP iA iV iM iN wR wO wP wA wV wM wN CO iC cH cW iX SE NG NN NO NR NL NS NT NX NV TM UL)
  (t_sNum:∃f fd,Tx K mg "is_number" Iu ["thing"] f fd)
  (t_sWith:∃f fd,Tx K mg "is_number_within" CK ["thing","least","most"] f fd)
  (t_sChM:∃f fd,Tx K mg "check_many" Iw ["many"] f fd)
  (t_sWC:∃f fd,Tx K mg "whole_company" PM ["many"] f fd)
  (t_sChk:∃f fd,Tx K mg "check_group" Iy ["group","many"] f fd)
  (t_sHnd:∃f fd,Tx K mg "hands_of" Iz ["group"] f fd)
  (t_sIsT:∃f fd,Tx K mg "is_table" IA ["thing"] f fd)
  (t_sHin:∃f fd,Tx K mg "hands_in" IB ["table"] f fd)
  (t_sCkN:∃f fd,Tx K mg "check_numbers" IC ["things"] f fd)
  (t_sCkP:∃f fd,Tx K mg "check_pair" ID ["many","pair"] f fd)
  (t_sSrt:∃f fd,Tx K mg "sorted_pairs" IE ["many","pairs"] f fd)
  (t_sHB:∃f fd,Tx K mg "has_both" PN ["group","one","other"] f fd)
  (t_sNWo:∃f fd,Tx K mg "number_words" IG ["numbers"] f fd)
  (t_sPWo:∃f fd,Tx K mg "pair_words" IH ["pairs"] f fd)
  (t_sBG:∃f fd,Tx K mg "best_of_group" PQ ["best","pairs","group"] f fd)
  (t_sBP:∃f fd,Tx K mg "best_pairings" PR ["many","pairs"] f fd)
  (t_sCkC:∃f fd,Tx K mg "check_costs" II ["costs"] f fd)
  (t_sCst:∃f fd,Tx K mg "cost_of" IJ ["rope"] f fd)
  (t_sNOf:∃f fd,Tx K mg "number_of" IK ["word"] f fd)
  (t_sNsO:∃f fd,Tx K mg "numbers_of" IL ["words"] f fd)
  (t_sPOf:∃f fd,Tx K mg "pair_of" IM ["word"] f fd)
  (t_sPsO:∃f fd,Tx K mg "pairs_of" IP ["words"] f fd)
  (t_sROf:∃f fd,Tx K mg "rule_of" IQ ["many","words"] f fd)
  (t_sMOf:∃f fd,Tx K mg "many_of" IS ["part"] f fd)
  (t_sRea:∃f fd,Tx K mg "read" IT ["text"] f fd)
  (t_sCel:∃f fd,Tx K mg "_law_cell" IU ["_law_script","_law_k"] f fd)
  (t_sNb:∃f fd,Tx K mg "_law_number" PU ["_law_cell_here"] f fd)
  (t_sLRu:∃f fd,Tx K mg "_law_rule" IV ["_law_script","_law_at","_law_many"] f fd)
  (t_sLRs:∃f fd,Tx K mg "_law_rules" IW ["_law_script","_law_many"] f fd)
  (t_sPrt:∃f fd,Tx K mg "_law_part" IY ["_law_head","_law_numbers","_law_pairs"] f fd)
  (t_sNoH:∃f fd,Tx K mg "_law_no_hands" IZ ["_law_many","_law_cell_here"] f fd)
  (t_sNoN:∃f fd,Tx K mg "_law_no_number" Ja ["_law_word","_law_cell_here"] f fd)
  (t_sTol:∃f fd,Tx K mg "_law_told" Jb ["_law_text"] f fd)
  (t_sFew:∃f fd,Tx K mg "_law_words_fewer" Jc ["_law_head","_law_words","_law_many","_law_cell_here"] f fd)
  (t_sWho:∃f fd,Tx K mg "_law_whole" Jd ["_law_found"] f fd)
  (t_sNPr:∃f fd,Tx K mg "_law_no_pair" Je ["_law_word","_law_many","_law_cell_here"] f fd)
  (t_sWSp:∃f fd,Tx K mg "_law_words_spoilt" Jf ["_law_head","_law_words","_law_many","_law_cell_here"] f fd)
  (t_sSpo:∃f fd,Tx K mg "_law_spoilt" Jg ["_law_row","_law_many","_law_cell_here"] f fd)
  (t_sLBa:∃f fd,Tx K mg "_law_bad" Jh ["_law_script","_law_some","_law_good","_law_k"] f fd)
  (t_sLaw:∃f fd,Tx K mg "law" Ji ["_law_script"] f fd)
  : ∃fd:qBy,(∀(s:qAj) (u:qAh),qLb s fd ⟨[u],[]⟩ [("_law_script",u)])/\∀base:Heap,K.In base->base.Ns qAu mg->gM P w K mg base dO 13 fa fd ["_law_script"] (z5 K):=by
 obtain⟨AL,LN,RU,OW,PL,PA,VO,MA,NE,fH,iR,iO,iP,iA,iV,iM,iN,wR,wO,wP,wA,wV,wM,wN,CO,iC,cH,cW,iX,SE,NG,NN,NO,NR,NL,NS,NT,NX,NV,TM,UL,T⟩:=hT;obtain⟨f_sNum,fd_sNum,t_sNum⟩:=t_sNum;obtain⟨f_sWith,fd_sWith,t_sWith⟩:=t_sWith;obtain⟨f_sChM,fd_sChM,t_sChM⟩:=t_sChM;obtain⟨f_sWC,fd_sWC,t_sWC⟩:=t_sWC;obtain⟨f_sChk,fd_sChk,t_sChk⟩:=t_sChk;obtain⟨f_sHnd,fd_sHnd,t_sHnd⟩:=t_sHnd;obtain⟨f_sIsT,fd_sIsT,t_sIsT⟩:=t_sIsT;obtain⟨f_sHin,fd_sHin,t_sHin⟩:=t_sHin;obtain⟨f_sCkN,fd_sCkN,t_sCkN⟩:=t_sCkN;obtain⟨f_sCkP,fd_sCkP,t_sCkP⟩:=t_sCkP;obtain⟨f_sSrt,fd_sSrt,t_sSrt⟩:=t_sSrt;obtain⟨f_sHB,fd_sHB,t_sHB⟩:=t_sHB;obtain⟨f_sNWo,fd_sNWo,t_sNWo⟩:=t_sNWo;obtain⟨f_sPWo,fd_sPWo,t_sPWo⟩:=t_sPWo;obtain⟨f_sBG,fd_sBG,t_sBG⟩:=t_sBG;obtain⟨f_sBP,fd_sBP,t_sBP⟩:=t_sBP;obtain⟨f_sCkC,fd_sCkC,t_sCkC⟩:=t_sCkC;obtain⟨f_sCst,fd_sCst,t_sCst⟩:=t_sCst;obtain⟨f_sNOf,fd_sNOf,t_sNOf⟩:=t_sNOf;obtain⟨f_sNsO,fd_sNsO,t_sNsO⟩:=t_sNsO;obtain⟨f_sPOf,fd_sPOf,t_sPOf⟩:=t_sPOf;obtain⟨f_sPsO,fd_sPsO,t_sPsO⟩:=t_sPsO;obtain⟨f_sROf,fd_sROf,t_sROf⟩:=t_sROf;obtain⟨f_sMOf,fd_sMOf,t_sMOf⟩:=t_sMOf;obtain⟨f_sRea,fd_sRea,t_sRea⟩:=t_sRea;obtain⟨f_sCel,fd_sCel,t_sCel⟩:=t_sCel;obtain⟨f_sNb,fd_sNb,t_sNb⟩:=t_sNb;obtain⟨f_sLRu,fd_sLRu,t_sLRu⟩:=t_sLRu;obtain⟨f_sLRs,fd_sLRs,t_sLRs⟩:=t_sLRs;obtain⟨f_sPrt,fd_sPrt,t_sPrt⟩:=t_sPrt;obtain⟨f_sNoH,fd_sNoH,t_sNoH⟩:=t_sNoH;obtain⟨f_sNoN,fd_sNoN,t_sNoN⟩:=t_sNoN;obtain⟨f_sTol,fd_sTol,t_sTol⟩:=t_sTol;obtain⟨f_sFew,fd_sFew,t_sFew⟩:=t_sFew;obtain⟨f_sWho,fd_sWho,t_sWho⟩:=t_sWho;obtain⟨f_sNPr,fd_sNPr,t_sNPr⟩:=t_sNPr;obtain⟨f_sWSp,fd_sWSp,t_sWSp⟩:=t_sWSp;obtain⟨f_sSpo,fd_sSpo,t_sSpo⟩:=t_sSpo;obtain⟨f_sLBa,fd_sLBa,t_sLBa⟩:=t_sLBa;obtain⟨f_sLaw,fd_sLaw,t_sLaw⟩:=t_sLaw;have e:=hfa.symm.trans t_sLaw.at_;cases e;refine⟨fd_sLaw,fun s u=>.of_eq (t_sLaw.bd [u] rfl),fun base _ _=>?_⟩;obtain⟨m1,x1⟩:=T.Rt;obtain⟨m2,x2⟩:=T.xH;obtain⟨m5,x5⟩:=T.Rw;obtain⟨m7,x7⟩:=T.Rx;obtain⟨m9,x9⟩:=T.Qb;obtain⟨m11,x11⟩:=T.Ry;obtain⟨m13,x13⟩:=T.RA;obtain⟨m15,x15⟩:=T.RE;obtain⟨n1,y1⟩:=T.Rv;obtain⟨n2,y2⟩:=T.PZ;obtain⟨n3,y3⟩:=T.Qa;obtain⟨n4,y4⟩:=T.Qc;obtain⟨n5,y5⟩:=T.Rz;obtain⟨n6,y6⟩:=T.RD;obtain⟨n7,y7⟩:=T.RF;obtain⟨c1',z1⟩:=T.RG;obtain⟨c4',z4⟩:=T.Qd;obtain⟨c6',z6⟩:=T.RJ;have d0:=Jl (P:=P) (w:=w) (base:=base) t_sNum T;have d1:=Fg (P:=P) (w:=w) (base:=base) t_sWith d0;have d2:=Jn t_sChM T d1;have d3:=MQ (P:=P) (w:=w) (base:=base) t_sWC T;have d4:=Jp t_sChk T d1 d3;have d5:=Jq t_sHnd T d4;have d6:=Js t_sHin T (Jr t_sIsT T d0);have d7:=Jt t_sCkN T d0;have d9:=Jv t_sSrt T (Ju t_sCkP T d7);have d10:=Na (P:=P) (w:=w) (base:=base) t_sHB T;have d11:=JG (P:=P) (w:=w) (base:=base) t_sNWo T;have d12:=JI (P:=P) (w:=w) (base:=base) t_sPWo T;have eRI:=Nb x1 T d2;have eH:=Nc (P:=P) (w:=w) (mg:=mg) (base:=base) x2;have eMI:=Nt x13 T eRI d9 (Nq t_sBP T d3 (Nm t_sBG T d5 d10));have c1:=JD (P:=P) (w:=w) (base:=base) t_sCst T;have Z:=ZR.mk (fH:=fH) (CO:=CO) (iC:=iC) (cH:=cH) (cW:=cW) (iX:=iX) (AL:=AL) (LN:=LN) (SE:=SE) (NG:=NG) (NN:=NN) (NO:=NO) (NR:=NR) (NS:=NS) (NX:=NX) (NV:=NV) (TM:=TM) (UL:=UL) (RU:=RU) eRI (Nd x5 T eRI d7) (Ng x7 T eRI d6) (Jz x9 T eRI d9) (Ni x11 T eRI d7) eMI (Nx x15 T eRI (JE t_sCkC T d7) d9 c1)
  (NA (P:=P) (w:=w) (mg:=mg) (base:=base) y1) (JK y2 T d11) (JM y3 T d11) (JN y4 T d12) (ND y5 T d11) (NJ y6 T d12) (NM y7 T d11 d12)
 have eCI:=NU z1 T d2 eH;have eCW:=Oa (P:=P) (w:=w) (mg:=mg) (base:=base) z4 T;have eXI:=Ob (P:=P) (w:=w) (mg:=mg) (base:=base) z6 T;have t1:=JV (P:=P) (w:=w) (base:=base) t_sNOf T;have t2:=Ke t_sROf T Z (JW t_sNsO T t1) (JZ t_sPsO T (JY t_sPOf T t1));have t3:=Kf t_sRea T (Ka t_sMOf T eXI (.all z6.bd)) t2 eCI eXI (.all z6.bd);have l2:=Kg (P:=P) (w:=w) (base:=base) t_sCel T;have l3:=Kh t_sLRu T l2 (Oi t_sNb T);have l4:=Kk (P:=P) (w:=w) (base:=base) t_sPrt T;have l5:=Ks (P:=P) (w:=w) (base:=base) t_sWSp T (Ko t_sFew T) (Km t_sNoN T) (Kr t_sNPr T);exact(Kx t_sLaw T l2 (Kj t_sLRs T l3) l4 (Kn t_sTol T t3) (Kw t_sWho T) (Kv t_sLBa T l2 (Kl t_sNoH T) (Kt t_sSpo T l4 l5)) t3 eCW).ok
end K14
open PySem PySem.W PyProof.Rows
set_option maxRecDepth 100000 in
set_option maxHeartbeats 0 in
theorem PySem.Challenge.cw_shareparley_k14_no_text_holds : PySem.Challenge.rw_shareparley_k14_no_text.Holds := by
 w_on;o_law;k_head;(case hw=>w_witness2)
 k_fill
 refine K14.walk (l:=PySem.Challenge.rw_shareparley_k14_no_text) rfl rfl (fun w h Y=>PySem.W.kIn_of Y) ?F
 case F =>
  intro w mg fa h KX G hmg;refine K14.Ky hmg ?T ?t_sNum ?t_sWith ?t_sChM ?t_sWC ?t_sChk ?t_sHnd ?t_sIsT ?t_sHin ?t_sCkN ?t_sCkP ?t_sSrt ?t_sHB ?t_sNWo ?t_sPWo ?t_sBG ?t_sBP ?t_sCkC ?t_sCst ?t_sNOf ?t_sNsO ?t_sPOf ?t_sPsO ?t_sROf ?t_sMOf ?t_sRea ?t_sCel ?t_sNb ?t_sLRu ?t_sLRs ?t_sPrt ?t_sNoH ?t_sNoN ?t_sTol ?t_sFew ?t_sWho ?t_sNPr ?t_sWSp ?t_sSpo ?t_sLBa ?t_sLaw
  case T=>
   refine' K14.Qw KX G ?gG ?oR ?l7 ?eV ?cD ?fZ ?uI ?oS ?rC ?jE ?kX ?uJ ?oU ?oV ?oW ?uK ?CP ?AM ?lkAL ?Gu ?lkLN ?we ?mr ?mf ?fg ?CQ ?pgRU ?hdRU ?poRU ?saRU ?caRU ?moRU ?nmRU ?fhRU ?mkRU ?fiRU ?kkRU ?Mp ?pgOW ?hdOW ?poOW ?saOW ?caOW ?moOW ?nmOW ?fhOW ?mkOW ?fiOW ?kkOW ?nf0OW ?Mq ?pgPL ?hdPL ?poPL ?saPL ?caPL ?moPL ?nmPL ?fhPL ?mkPL ?fiPL ?kkPL ?nf0PL ?Mr ?pgPA ?hdPA ?poPA ?saPA ?caPA ?moPA ?nmPA ?fhPA ?mkPA ?fiPA ?kkPA ?nf0PA ?Ms ?pgVO ?hdVO ?poVO ?saVO ?caVO ?moVO ?nmVO ?fhVO ?mkVO ?fiVO ?kkVO ?nf0VO ?nf1VO ?nf2VO ?Mv ?pgMA ?hdMA ?poMA ?saMA ?caMA ?moMA ?nmMA ?fhMA ?mkMA ?fiMA ?kkMA ?nf0MA ?nf1MA ?Mw ?pgNE ?hdNE ?poNE ?saNE ?caNE ?moNE ?nmNE ?fhNE ?mkNE ?fiNE ?kkNE ?nf0NE ?nf1NE ?ffwRU ?ffwOW ?ffwPL ?ffwPA ?ffwVO ?ffwMA ?ffwNE ?My ?pgCO ?hdCO ?poCO ?saCO ?caCO ?moCO ?nmCO ?nrCO ?fhCO ?fwCO ?mkCO ?fiCO ?kkCO ?lRI ?cdRI ?kpRI ?fnRI ?lH ?cdH ?kpH ?fnH ?lRW ?cdRW ?kpRW ?fnRW ?lOI ?cdOI ?kpOI ?fnOI ?lOWo ?cdOWo ?kpOWo ?fnOWo ?lPI ?cdPI ?kpPI ?fnPI ?lPlW ?cdPlW ?kpPlW ?fnPlW ?lPaI ?cdPaI ?kpPaI ?fnPaI ?lPaW ?cdPaW ?kpPaW ?fnPaW ?lVI ?cdVI ?kpVI ?fnVI ?lVW ?cdVW ?kpVW ?fnVW ?lMI ?cdMI ?kpMI ?fnMI ?lMW ?cdMW ?kpMW ?fnMW ?lNI ?cdNI ?kpNI ?fnNI ?lNW ?cdNW ?kpNW ?fnNW ?lCI ?cdCI ?kpCI ?fnCI ?lCHs ?cdCHs ?kpCHs ?fnCHs ?lCWo ?cdCWo ?kpCWo ?fnCWo ?lXI ?cdXI ?kpXI ?fnXI ?cgcRI ?crcRI ?cfcRI ?obX ?fiX ?kkX ?saX ?hsX ?ptX ?Mz ?MB ?gaS ?rdS ?atS ?Lh ?Li ?MC ?MD ?ME ?sT ?MF ?Lj ?Gw ?MG ?MH ?MJ ?c6 ?c7 ?SE2 ?SE3 ?SE4 ?SE5 ?SE8 ?SE9 ?NL2 ?NL3 ?NL4 ?NL5 ?NL8 ?NL9 ?NX2 ?NX3 ?NX4 ?NX5 ?NX8 ?NX9 ?NT2 ?NT3 ?NT4 ?NT5 ?NT8 ?NT9 ?uL ?MK ?ML ?MM ?k3 ?k4 ?kS ?kV
   case gG|oR|l7|eV|cD|fZ|uI|oS|rC|jE|kX|uJ|oU|oV|oW|uK|CP|AM|lkAL|Gu|lkLN|we|mr|mf|fg|CQ|pgRU|hdRU|poRU|saRU|caRU|moRU|nmRU|fhRU|mkRU|fiRU|kkRU|Mp|pgOW|hdOW|poOW|saOW|caOW|moOW|nmOW|fhOW|mkOW|fiOW|kkOW|nf0OW|Mq|pgPL|hdPL|poPL|saPL|caPL|moPL|nmPL|fhPL|mkPL|fiPL|kkPL|nf0PL|Mr|pgPA|hdPA|poPA|saPA|caPA|moPA|nmPA|fhPA|mkPA|fiPA|kkPA|nf0PA|Ms|pgVO|hdVO|poVO|saVO|caVO|moVO|nmVO|fhVO|mkVO|fiVO|kkVO|nf0VO|nf1VO|nf2VO|Mv|pgMA|hdMA|poMA|saMA|caMA|moMA|nmMA|fhMA|mkMA|fiMA|kkMA|nf0MA|nf1MA|Mw|pgNE|hdNE|poNE|saNE|caNE|moNE|nmNE|fhNE|mkNE|fiNE|kkNE|nf0NE|nf1NE|ffwRU|ffwOW|ffwPL|ffwPA|ffwVO|ffwMA|ffwNE|My|pgCO|hdCO|poCO|saCO|caCO|moCO|nmCO|nrCO|fhCO|fwCO|mkCO|fiCO|kkCO|lRI|cdRI|kpRI|fnRI|lH|cdH|kpH|fnH|lRW|cdRW|kpRW|fnRW|lOI|cdOI|kpOI|fnOI|lOWo|cdOWo|kpOWo|fnOWo|lPI|cdPI|kpPI|fnPI|lPlW|cdPlW|kpPlW|fnPlW|lPaI|cdPaI|kpPaI|fnPaI|lPaW|cdPaW|kpPaW|fnPaW|lVI|cdVI|kpVI|fnVI|lVW|cdVW|kpVW|fnVW|lMI|cdMI|kpMI|fnMI|lMW|cdMW|kpMW|fnMW|lNI|cdNI|kpNI|fnNI|lNW|cdNW|kpNW|fnNW|lCI|cdCI|kpCI|fnCI|lCHs|cdCHs|kpCHs|fnCHs|lCWo|cdCWo|kpCWo|fnCWo|cgcRI|crcRI|cfcRI|Lh|Li|MC|MD|ME|sT|MF|Lj|Gw|MG|MH|MJ|fiX|lXI|cdXI|kpXI|fnXI|obX|kkX|saX|hsX|ptX|Mz|MB|gaS|rdS|atS|c6|c7|SE2|SE3|SE4|SE5|SE8|SE9|NL2|NL3|NL4|NL5|NL8|NL9|NX2|NX3|NX4|NX5|NX8|NX9|NT2|NT3|NT4|NT5|NT8|NT9=>k_is
   case uL|MK|ML|MM=>k_exc
   (case k3=>kit_is)
   (case k4=>kit_is)
   (case kS=>kit_is)
   (case kV=>kit_is)
  case t_sNum|t_sChM|t_sWC|t_sHnd|t_sIsT|t_sHin|t_sCkN|t_sNWo|t_sPWo|t_sCkC|t_sCst|t_sNOf|t_sNsO|t_sPOf|t_sPsO|t_sMOf|t_sRea|t_sNb|t_sTol|t_sWho|t_sLaw=>
   refine' L2.cB KX G ?a ?l ?c ?k (fun _ _ _ _ _ _=>L2.uu1 fun _=>rfl)
   case a|l|c|k=>k_is
  case t_sWith|t_sHB|t_sBG|t_sLRu|t_sPrt|t_sNPr|t_sSpo=>
   refine' L2.cB KX G ?a ?l ?c ?k (fun _ _ _ _ _ _=>L2.uu3 fun _ _ _=>rfl)
   case a|l|c|k=>k_is
  case t_sChk|t_sCkP|t_sSrt|t_sBP|t_sROf|t_sCel|t_sLRs|t_sNoH|t_sNoN=>
   refine' L2.cB KX G ?a ?l ?c ?k (fun _ _ _ _ _ _=>L2.uu2 fun _ _=>rfl)
   case a|l|c|k=>k_is
  case t_sFew|t_sWSp|t_sLBa=>
   refine' L2.cB KX G ?a ?l ?c ?k (fun _ _ _ _ _ _=>L2.uu4 fun _ _ _ _=>rfl)
   case a|l|c|k=>k_is
